import PyProof.Rows.All
import Wide.All
import OpenK.AllK
import Wide.FinOn
import HandS.ForMost
import HandS.Exc
import HandS.Walk
import HandS.Style
import HandS.TupAny
import HandS.WideBits
import HandS.Conv
import HandS.WordsExc
import HandS.HeadEnd
import HandS.Star
import HandS.Property
import KE.KOpsOwn
import HandS.ExcInit
import HandS.ExcIs
import HandS.ExcField
import HandS.ExcValue
import HandS.IsInst
import KE.KExcIs
import KE.KExcSuper
import KE.KExcMake
import KE.KCount
import KE.DataFind
import HandS.Deep
import HandS.List
import PyProof.ReprRoads
import HandS.RaiseMore
import HandS.Codes
import KE.KSuper
import KE.KSuperObj
import HandS.FStr
import HandS.Head0
import HandS.Head1
import HandS.Head2
import HandS.HeadHook1
import HandS.HeadHook2
import HandS.HeadHook4
import HandS.HeadNt
import PySem.Challenge.RW_rowclash_k98_exceptions_by_hand
set_option Elab.async false
set_option linter.all false
set_option maxRecDepth 100000
set_option maxHeartbeats 0
/-! Ma1: the mirror machine: its values, its state, what a piece of code comes to. -/
namespace Ma
open L2 PySem

/-- values: tuples, and lists and dicts that nobody changes any more, are data; what may still change is a box -/
inductive M where
  | non | bl (b : Bool) | int (i : Int) | str (x : Str) | byt (b : Array UInt8)
  | tup (ms : List M) | lst (ms : List M) | dct (ks : List Key) (ms : List M)
  | scr (ns : List Int) | box (n : Nat) | exn (c : Str) (ns : List Str) (ms : List M) | cls (c : Str) | ty (n : String)

/-- what lies in a box -/
inductive Cell where
  | lst (ms : List M) | dK (kms : List (Key × M)) | ins (c : Str) (fms : List (Str × M)) | dead

structure MS where
  env : List (Option M)
  hp : List Cell

structure Exc where
  c : Str
  ns : List Str
  ms : List M

inductive Res (α : Type) where
  | ok (a : α) (s : MS)
  | err (x : Exc) (s : MS)
  | stuck

def Res.bind {α β : Type} : Res α → (α → MS → Res β) → Res β
  | .ok a s, f => f a s
  | .err x s, _ => .err x s
  | .stuck, _ => .stuck

abbrev ME := MS → Res M
/-- expressions in a row -/
abbrev MA := MS → Res (List M)
abbrev MT := MS → Res Bool
inductive Fl where
  | nx | rt (m : M) | bk | ct
abbrev MStm := MS → Res Fl

/-- what a def comes to -/
inductive ResF where
  | ok (m : M) (hp : List Cell)
  | err (x : Exc) (hp : List Cell)
  | stuck
abbrev Fn := List M → List Cell → ResF
end Ma
/-! Ma2: how the machine's state stands to the layer's heap. -/
namespace Ma
open L2 PySem

/-- what is fixed: the written part, the own classes by name -/
structure Tab where
  K : PySem.W.Frag
  ad : Str → Option Addr
/-- where the boxes stand; what is frozen -/
structure Gh where
  ro : List Addr
  fz : Addr → Prop

/-- a list of ints that the written part holds -/
def Wr (K : PySem.W.Frag) (a : Addr) (ns : List Int) : Prop := ∀ H : Hp, SqL K H a (ns.map V.int)
def XO (C : Value) (d : Option Addr) (a : Addr) : HO := .ext fun h => ∃ (oe : Obj) (vs : Array Value), h.get? a = some oe ∧ Zc C d oe ∧ oe.data = .fields vs
/-- an exception of the class at C with these fields -/
def XAt (fz : Addr → Prop) (H : Hp) (a C : Addr) (ns : List Str) (vs : List V) : Prop :=
  ns.length = vs.length ∧ fz a ∧ ∃ d : Option Addr, H a = some (XO (.ref C) d a) ∧ match d with
    | none => ns = []
    | some dx => fz dx ∧ H dx = some (.xd (ns.zip vs))

mutual
inductive RV (T : Tab) (g : Gh) (H : Hp) : M → V → Prop
  | non : RV T g H .non .non
  | bl (b : Bool) : RV T g H (.bl b) (.bl b)
  | int (i : Int) : RV T g H (.int i) (.int i)
  | str (x : Str) : RV T g H (.str x) (.str x)
  | byt (b : Array UInt8) : RV T g H (.byt b) (.byt b)
  | tup {a : Addr} {ms : List M} {vs : List V} : H a = some (.tup vs) → RVs T g H ms vs → RV T g H (.tup ms) (.ref a)
  | lst {a : Addr} {ms : List M} {vs : List V} : g.fz a → H a = some (.lst vs) → RVs T g H ms vs → RV T g H (.lst ms) (.ref a)
  | dct {a : Addr} {o : Obj} {ks : List Key} {ms : List M} {vs : List V} : g.fz a → ks.length = vs.length → H a = some (.frz o (.dK (ks.zip vs))) → RVs T g H ms vs → RV T g H (.dct ks ms) (.ref a)
  | scr {a : Addr} {o : Obj} {ns : List Int} : g.fz a → H a = some (.frz o (.lst (ns.map V.int))) → RV T g H (.scr ns) (.ref a)
  | scrK {a : Addr} {ns : List Int} : Wr T.K a ns → RV T g H (.scr ns) (.ref a)
  | box {n : Nat} {a : Addr} : g.ro[n]? = some a → RV T g H (.box n) (.ref a)
  | exn {a C : Addr} {c : Str} {ns : List Str} {ms : List M} {vs : List V} : T.ad c = some C → XAt g.fz H a C ns vs → RVs T g H ms vs → RV T g H (.exn c ns ms) (.ref a)
  | cls {c : Str} {C : Addr} : T.ad c = some C → RV T g H (.cls c) (.ref C)
  | ty (n : String) : RV T g H (.ty n) (.ty n)
inductive RVs (T : Tab) (g : Gh) (H : Hp) : List M → List V → Prop
  | nil : RVs T g H [] []
  | cons {m : M} {v : V} {ms : List M} {vs : List V} : RV T g H m v → RVs T g H ms vs → RVs T g H (m :: ms) (v :: vs)
end

/-- what was a value stays one -/
structure Mono (g : Gh) (H : Hp) (g' : Gh) (H' : Hp) : Prop where
  ro : g.ro <+: g'.ro
  fz : ∀ a, g.fz a → g'.fz a
  fh : ∀ a, g.fz a → H' a = H a
  tup : ∀ a vs, H a = some (.tup vs) → H' a = some (.tup vs)
section
variable {T : Tab} {g g1 g2 : Gh} {H H1 H2 : Hp}
theorem Mono.refl (g : Gh) (H : Hp) : Mono g H g H := ⟨List.prefix_refl _, fun _ h => h, fun _ _ => rfl, fun _ _ h => h⟩
theorem Mono.trans (a : Mono g H g1 H1) (b : Mono g1 H1 g2 H2) : Mono g H g2 H2 :=
  ⟨a.ro.trans b.ro, fun x h => b.fz x (a.fz x h), fun x h => (b.fh x (a.fz x h)).trans (a.fh x h), fun x vs h => b.tup x vs (a.tup x vs h)⟩
theorem Mono.at (a : Mono g H g1 H1) {n : Nat} {x : Addr} (h : g.ro[n]? = some x) : g1.ro[n]? = some x := by
  obtain ⟨t, e⟩ := a.ro
  rw [← e, List.getElem?_append_left (by
    have := List.getElem?_eq_some_iff.mp h
    exact this.1)]
  exact h
mutual
theorem RV.mono (q : Mono g H g1 H1) : ∀ {m : M} {v : V}, RV T g H m v → RV T g1 H1 m v
  | _, _, .non => .non
  | _, _, .bl b => .bl b
  | _, _, .int i => .int i
  | _, _, .str x => .str x
  | _, _, .byt b => .byt b
  | _, _, .tup e r => .tup (q.tup _ _ e) (RVs.mono q r)
  | _, _, .lst f e r => .lst (q.fz _ f) ((q.fh _ f).trans e) (RVs.mono q r)
  | _, _, .dct f l e r => .dct (q.fz _ f) l ((q.fh _ f).trans e) (RVs.mono q r)
  | _, _, .scr f e => .scr (q.fz _ f) ((q.fh _ f).trans e)
  | _, _, .scrK e => .scrK e
  | _, _, .box e => .box (q.at e)
  | _, _, .exn e x r => .exn e (by
      obtain ⟨l, f, d, hd, y⟩ := x
      refine ⟨l, q.fz _ f, d, (q.fh _ f).trans hd, ?_⟩
      cases d with
      | none => exact y
      | some dx => exact ⟨q.fz _ y.1, (q.fh _ y.1).trans y.2⟩) (RVs.mono q r)
  | _, _, .cls e => .cls e
  | _, _, .ty n => .ty n
theorem RVs.mono (q : Mono g H g1 H1) : ∀ {ms : List M} {vs : List V}, RVs T g H ms vs → RVs T g1 H1 ms vs
  | _, _, .nil => .nil
  | _, _, .cons r s => .cons (RV.mono q r) (RVs.mono q s)
end
theorem RVs.length : ∀ {ms : List M} {vs : List V}, RVs T g H ms vs → ms.length = vs.length
  | _, _, .nil => rfl
  | _, _, .cons _ s => congrArg Nat.succ (RVs.length s)
theorem RVs.get : ∀ {ms : List M} {vs : List V} {i : Nat} {m : M}, RVs T g H ms vs → ms[i]? = some m → ∃ v, vs[i]? = some v ∧ RV T g H m v
  | _, _, _, _, .nil, e => by simp at e
  | _, _, 0, _, .cons r _, e => by simp at e; subst e; exact ⟨_, rfl, r⟩
  | _, _, i + 1, m, .cons _ s, e => by
    obtain ⟨v, h1, h2⟩ := RVs.get (i := i) (m := m) s (by simpa using e)
    exact ⟨v, by simpa using h1, h2⟩
theorem RVs.app : ∀ {ms ns : List M} {vs ws : List V}, RVs T g H ms vs → RVs T g H ns ws → RVs T g H (ms ++ ns) (vs ++ ws)
  | _, _, _, _, .nil, s => s
  | _, _, _, _, .cons r t, s => .cons r (RVs.app t s)
theorem RVs.take : ∀ {ms : List M} {vs : List V} (n : Nat), RVs T g H ms vs → RVs T g H (ms.take n) (vs.take n)
  | _, _, 0, _ => .nil
  | _, _, _ + 1, .nil => .nil
  | _, _, n + 1, .cons r t => .cons r (RVs.take n t)
theorem RVs.drop : ∀ {ms : List M} {vs : List V} (n : Nat), RVs T g H ms vs → RVs T g H (ms.drop n) (vs.drop n)
  | _, _, 0, r => r
  | _, _, _ + 1, .nil => .nil
  | _, _, n + 1, .cons _ t => RVs.drop n t
theorem RVs.set : ∀ {ms : List M} {vs : List V} {m : M} {v : V} (n : Nat), RVs T g H ms vs → RV T g H m v → RVs T g H (ms.set n m) (vs.set n v)
  | _, _, _, _, _, .nil, _ => .nil
  | _, _, _, _, 0, .cons _ t, r => .cons r t
  | _, _, _, _, n + 1, .cons q t, r => .cons q (RVs.set n t r)
theorem RVs.erase : ∀ {ms : List M} {vs : List V} (n : Nat), RVs T g H ms vs → RVs T g H (ms.eraseIdx n) (vs.eraseIdx n)
  | _, _, _, .nil => .nil
  | _, _, 0, .cons _ t => t
  | _, _, n + 1, .cons q t => .cons q (RVs.erase n t)
theorem RVs.ints : ∀ (ns : List Int), RVs T g H (ns.map M.int) (ns.map V.int)
  | [] => .nil
  | n :: ns => .cons (.int n) (RVs.ints ns)
end

/-! ### boxes -/
/-- named values -/
inductive RFs {κ : Type} (T : Tab) (g : Gh) (H : Hp) : List (κ × M) → List (κ × V) → Prop
  | nil : RFs T g H [] []
  | cons {k : κ} {m : M} {v : V} {fs : List (κ × M)} {vs : List (κ × V)} : RV T g H m v → RFs T g H fs vs → RFs T g H ((k, m) :: fs) ((k, v) :: vs)
theorem RFs.mono {κ : Type} {T : Tab} {g g1 : Gh} {H H1 : Hp} (q : Mono g H g1 H1) : ∀ {fs : List (κ × M)} {vs : List (κ × V)}, RFs T g H fs vs → RFs T g1 H1 fs vs
  | _, _, .nil => .nil
  | _, _, .cons r s => .cons (r.mono q) (RFs.mono q s)
theorem RFs.length {κ : Type} {T : Tab} {g : Gh} {H : Hp} : ∀ {fs : List (κ × M)} {vs : List (κ × V)}, RFs T g H fs vs → fs.length = vs.length
  | _, _, .nil => rfl
  | _, _, .cons _ s => congrArg Nat.succ (RFs.length s)
theorem RFs.keys {κ : Type} {T : Tab} {g : Gh} {H : Hp} : ∀ {fs : List (κ × M)} {vs : List (κ × V)}, RFs T g H fs vs → fs.map (·.1) = vs.map (·.1)
  | _, _, .nil => rfl
  | _, _, .cons _ s => congrArg _ (RFs.keys s)
theorem RFs.vals {κ : Type} {T : Tab} {g : Gh} {H : Hp} : ∀ {fs : List (κ × M)} {vs : List (κ × V)}, RFs T g H fs vs → RVs T g H (fs.map (·.2)) (vs.map (·.2))
  | _, _, .nil => .nil
  | _, _, .cons r s => .cons r (RFs.vals s)
theorem RFs.get {κ : Type} {T : Tab} {g : Gh} {H : Hp} : ∀ {fs : List (κ × M)} {vs : List (κ × V)} {i : Nat} {k : κ} {m : M}, RFs T g H fs vs → fs[i]? = some (k, m) → ∃ v, vs[i]? = some (k, v) ∧ RV T g H m v
  | _, _, _, _, _, .nil, e => by simp at e
  | _, _, 0, _, _, .cons r _, e => by
    simp at e
    obtain ⟨rfl, rfl⟩ := e
    exact ⟨_, rfl, r⟩
  | _, _, i + 1, k, m, .cons _ s, e => by
    obtain ⟨v, h1, h2⟩ := RFs.get (i := i) (k := k) (m := m) s (by simpa using e)
    exact ⟨v, by simpa using h1, h2⟩
def CellR (T : Tab) (g : Gh) (H : Hp) : Cell → Addr → Prop
  | .lst ms, a => ∃ vs, H a = some (.lst vs) ∧ RVs T g H ms vs
  | .dK kms, a => ∃ kvs, H a = some (.dK kvs) ∧ RFs T g H kms kvs
  | .ins c fms, a => ∃ C dx fvs, T.ad c = some C ∧ H a = some (.ins C dx fvs) ∧ RFs T g H fms fvs
  | .dead, _ => True
def Live : Cell → Prop
  | .dead => False
  | _ => True
/-- the entry of a def: its ghosts, its heap -/
structure En where
  g : Gh
  H : Hp
structure RelH (T : Tab) (e : En) (g : Gh) (hp : List Cell) (H : Hp) : Prop where
  len : g.ro.length = hp.length
  nd : g.ro.Nodup
  cell : ∀ (n : Nat) (c : Cell) (a : Addr), hp[n]? = some c → g.ro[n]? = some a → CellR T g H c a
  thaw : ∀ (n : Nat) (c : Cell) (a : Addr), hp[n]? = some c → g.ro[n]? = some a → Live c → ¬ g.fz a
  fzt : ∀ a, g.fz a → ∃ o, H a = some o
  rot : ∀ a ∈ g.ro, ∃ o, H a = some o
  frm : ∀ a o, e.H a = some o → a ∉ e.g.ro → H a = some o
  nfz : ∀ a, g.fz a → e.g.fz a ∨ e.H a = none ∨ a ∈ e.g.ro
  nro : ∀ a ∈ g.ro, a ∈ e.g.ro ∨ e.H a = none
  m0 : Mono e.g e.H g H
def SlR (T : Tab) (g : Gh) (H : Hp) : Option M → Option V → Prop
  | some m, some v => RV T g H m v
  | some _, none => False
  | none, _ => True
structure Rel (T : Tab) (e : En) (g : Gh) (s : MS) (σ : L2.St) (H : Hp) : Prop where
  h : RelH T e g s.hp H
  len : s.env.length = σ.length
  sl : ∀ (i : Nat) (m : M) (v : Option V), s.env[i]? = some (some m) → σ[i]? = some v → ∃ x, v = some x ∧ RV T g H m x
section
variable {T : Tab} {e : En} {g g1 : Gh} {H H1 : Hp} {s : MS} {σ : L2.St} {hp : List Cell}
theorem CellR.mono (q : Mono g H g1 H1) {c : Cell} {a : Addr} (h : H1 a = H a) (r : CellR T g H c a) : CellR T g1 H1 c a := by
  cases c with
  | lst ms => obtain ⟨vs, h1, h2⟩ := r; exact ⟨vs, h.trans h1, h2.mono q⟩
  | dK kms => obtain ⟨vs, h1, h2⟩ := r; exact ⟨vs, h.trans h1, h2.mono q⟩
  | ins c fms => obtain ⟨C, dx, vs, l, h1, h2⟩ := r; exact ⟨C, dx, vs, l, h.trans h1, h2.mono q⟩
  | dead => trivial
theorem Rel.get (r : Rel T e g s σ H) {i : Nat} {m : M} (h : s.env[i]? = some (some m)) : ∃ x, σ[i]? = some (some x) ∧ RV T g H m x := by
  have hi : i < σ.length := by
    rw [← r.len]
    exact (List.getElem?_eq_some_iff.mp h).1
  obtain ⟨x, e, q⟩ := r.sl i m σ[i] h (List.getElem?_eq_getElem hi)
  exact ⟨x, by rw [List.getElem?_eq_getElem hi, e], q⟩
/-- the slots stand while the values do -/
theorem Rel.env (r : Rel T e g s σ H) (q : Mono g H g1 H1) (h : RelH T e g1 hp H1) : Rel T e g1 ⟨s.env, hp⟩ σ H1 :=
  ⟨h, r.len, fun i m v h1 h2 => by
    obtain ⟨x, e, z⟩ := r.sl i m v h1 h2
    exact ⟨x, e, z.mono q⟩⟩
theorem Rel.put (r : Rel T e g s σ H) {i : Nat} {m : M} {v : V} (h : RV T g H m v) : Rel T e g ⟨s.env.set i (some m), s.hp⟩ (σ.set i (some v)) H := by
  refine ⟨r.h, by simp [r.len], fun j m' v' h1 h2 => ?_⟩
  have h1 : (s.env.set i (some m))[j]? = some (some m') := h1
  rw [List.getElem?_set] at h1 h2
  by_cases hij : i = j
  · rw [if_pos hij] at h1 h2
    split at h1
    · split at h2
      · cases h1; cases h2; exact ⟨v, rfl, h⟩
      · cases h2
    · cases h1
  · rw [if_neg hij] at h1 h2
    exact r.sl j m' v' h1 h2
end
end Ma
/-! Ma3: the machine's code as readings; expressions, tests, statements. -/
namespace Ma
open L2 PySem

/-- where a piece of code stands -/
structure MC where
  X : Cx
  T : Tab
  e : En
  W : WX
  hK : X.K = T.K

/-- an exception in the machine and in the layer -/
def XR (T : Tab) (g : Gh) (H : Hp) (x : Exc) (cls : Value) (d : Option Addr) : Prop :=
  ∃ C, T.ad x.c = some C ∧ cls = .ref C ∧ match d with
    | none => x.ns = [] ∧ x.ms = []
    | some dx => ∃ vs, x.ns.length = vs.length ∧ H dx = some (.xd (x.ns.zip vs)) ∧ RVs T g H x.ms vs

abbrev MC.rel (C : MC) (g : Gh) (s : MS) (σ : L2.St) (H : Hp) : Prop := Rel C.T C.e g s σ H

/-- what a piece's end has to give -/
def Go {α β : Type} (C : MC) (R : Gh → Hp → α → β → Prop) (σ : L2.St) (r : Res α) (g : Gh) (H : Hp) (Q : β → Hp → Prop) : Prop :=
  match r with
  | .ok m s => ∀ (g' : Gh) (H' : Hp) (v : β), Mono g H g' H' → C.rel g' s σ H' → R g' H' m v → Q v H'
  | .err x s => ∀ (g' : Gh) (H' : Hp) (cls : Value) (d : Option Addr), Mono g H g' H' → C.rel g' s σ H' → XR C.T g' H' x cls d → C.W cls d σ H'
  | .stuck => False

abbrev MC.V1 (C : MC) : Gh → Hp → M → V → Prop := fun g H m v => RV C.T g H m v
abbrev MC.Vn (C : MC) : Gh → Hp → List M → List V → Prop := fun g H m v => RVs C.T g H m v
def REq {α : Type} : Gh → Hp → α → α → Prop := fun _ _ a b => a = b

section
variable {C : MC} {α β γ δ : Type} {R : Gh → Hp → α → β → Prop} {S : Gh → Hp → γ → δ → Prop} {σ : L2.St} {g g1 : Gh} {H H1 : Hp}
theorem Go.later {r : Res α} {Q : β → Hp → Prop} (m : Mono g H g1 H1) (h : Go C R σ r g H Q) : Go C R σ r g1 H1 Q := by
  cases r with
  | ok a s => exact fun g' H' v q => h g' H' v (m.trans q)
  | err x s => exact fun g' H' cls d q => h g' H' cls d (m.trans q)
  | stuck => exact h
theorem Go.imp {r : Res α} {Q Q' : β → Hp → Prop} (h : Go C R σ r g H Q) (hq : ∀ v H', Q v H' → Q' v H') : Go C R σ r g H Q' := by
  cases r with
  | ok a s => exact fun g' H' v q r x => hq _ _ (h g' H' v q r x)
  | err x s => exact h
  | stuck => exact h
/-- one piece, then another -/
theorem Go.bind {r : Res α} {f : α → MS → Res γ} {Q : δ → Hp → Prop} (h : Go C S σ (r.bind f) g H Q) :
    Go C R σ r g H fun x H1 => ∃ m s1 g1, Mono g H g1 H1 ∧ C.rel g1 s1 σ H1 ∧ R g1 H1 m x ∧ Go C S σ (f m s1) g1 H1 Q := by
  cases r with
  | ok a s => exact fun g' H' v q r x => ⟨a, s, g', q, r, x, h.later q⟩
  | err x s => exact h
  | stuck => exact h
theorem Go.ret {a : α} {s : MS} {v : β} {Q : β → Hp → Prop} (h : Go C R σ (.ok a s) g H Q) (hr : C.rel g s σ H) (hv : R g H a v) : Q v H :=
  h g H v (Mono.refl _ _) hr hv
end

/-- readings -/
def rdE (C : MC) (m : ME) : TE := fun σ H Q => ∃ g s, C.rel g s σ H ∧ Go C C.V1 σ (m s) g H Q
def rdA (C : MC) (m : MA) : TA := fun σ H Q => ∃ g s, C.rel g s σ H ∧ Go C C.Vn σ (m s) g H Q
def rdT (C : MC) (m : MT) : TT := fun σ H Q => ∃ g s, C.rel g s σ H ∧ Go C REq σ (m s) g H Q
/-- of a statement: the slots may change -/
def GoS (C : MC) (r : Res Fl) (g : Gh) (H : Hp) (D : Ends) : Prop :=
  match r with
  | .ok .nx s => ∀ (g' : Gh) (H' : Hp) (σ : L2.St), Mono g H g' H' → C.rel g' s σ H' → D.nx σ H'
  | .ok .bk s => ∀ (g' : Gh) (H' : Hp) (σ : L2.St), Mono g H g' H' → C.rel g' s σ H' → D.bk σ H'
  | .ok .ct s => ∀ (g' : Gh) (H' : Hp) (σ : L2.St), Mono g H g' H' → C.rel g' s σ H' → D.ct σ H'
  | .ok (.rt m) s => ∀ (g' : Gh) (H' : Hp) (σ : L2.St) (v : V), Mono g H g' H' → C.rel g' s σ H' → RV C.T g' H' m v → D.rt v H'
  | .err x s => ∀ (g' : Gh) (H' : Hp) (σ : L2.St) (cls : Value) (d : Option Addr), Mono g H g' H' → C.rel g' s σ H' → XR C.T g' H' x cls d → C.W cls d σ H'
  | .stuck => False
def rdS (C : MC) (m : MStm) : TS := fun D σ H => ∃ g s, C.rel g s σ H ∧ GoS C (m s) g H D

abbrev PMe (C : MC) (e : Expr) (m : ME) : Prop := PE C.X e (rdE C m)
abbrev PMa (C : MC) (e : List Expr) (m : MA) : Prop := PA C.X e (rdA C m)
abbrev PMt (C : MC) (e : Expr) (m : MT) : Prop := PT C.X e (rdT C m)
abbrev PMw (C : MC) (e : Expr) (m : MT) : Prop := PW C.X e (rdT C m)
abbrev PMs (C : MC) (e : Stmt) (m : MStm) : Prop := PS C.X e (rdS C m)
abbrev PMb (C : MC) (e : List Stmt) (m : MStm) : Prop := PSs C.X e (rdS C m)

theorem wkE {X : Cx} {e : Expr} {t t' : TE} (h : PE X e t) (k : ∀ σ H Q, t' σ H Q → t σ H Q) : PE X e t' := ⟨fun pins s σ H Q I q => h.run pins s σ H Q I (k _ _ _ q)⟩
theorem wkA {X : Cx} {e : List Expr} {t t' : TA} (h : PA X e t) (k : ∀ σ H Q, t' σ H Q → t σ H Q) : PA X e t' := ⟨fun pos pins s σ H Q I q => h.run pos pins s σ H Q I (k _ _ _ q)⟩
theorem wkT {X : Cx} {e : Expr} {t t' : TT} (h : PT X e t) (k : ∀ σ H Q, t' σ H Q → t σ H Q) : PT X e t' := ⟨fun pins s σ H Q I q => h.run pins s σ H Q I (k _ _ _ q)⟩
theorem wkW {X : Cx} {e : Expr} {t t' : TT} (h : PW X e t) (k : ∀ σ H Q, t' σ H Q → t σ H Q) : PW X e t' := ⟨fun w pins s σ H Q I q => h.run w pins s σ H Q I (k _ _ _ q)⟩
theorem wkS {X : Cx} {e : Stmt} {t t' : TS} (h : PS X e t) (k : ∀ D σ H, t' D σ H → t D σ H) : PS X e t' := ⟨fun pins s σ H D I q => h.run pins s σ H D I (k _ _ _ q)⟩
theorem wkB {X : Cx} {e : List Stmt} {t t' : TS} (h : PSs X e t) (k : ∀ D σ H, t' D σ H → t D σ H) : PSs X e t' := ⟨fun pins s σ H D I q => h.run pins s σ H D I (k _ _ _ q)⟩

/-! ### names and constants -/
def mv (i : Nat) : ME := fun s => match s.env[i]? with
  | some (some m) => .ok m s
  | _ => .stuck
def mc (m : M) : ME := fun s => .ok m s
section
variable {C : MC} {x : Str} {pos : Pos}
theorem em_v (i : Nat) (hN : C.X.N[i]? = some x := by rfl) (hv : Vis C.X.env.scope x := by first | exact Or.inl rfl | exact Or.inr (Or.inl rfl) | exact Or.inr (Or.inr rfl)) (hd : (x == ("__debug__" : Str)) = false := by decide)
    (hcd : (x == ("__classdict__" : Str)) = false := by decide) : PMe C (.Name x pos) (mv i) := by
  refine wkE (pe_var (i := i) hN hv hd hcd) fun σ H Q ⟨g, s, r, q⟩ => ?_
  unfold mv at q
  split at q
  · rename_i m hm
    obtain ⟨v, e, rv⟩ := r.get hm
    exact ⟨v, e, q.ret r rv⟩
  · exact q.elim
theorem em_c {e : Expr} {v : V} {m : M} (h : PE C.X e (tC v)) (hv : ∀ g H, RV C.T g H m v) : PMe C e (mc m) :=
  wkE h fun _ _ _ ⟨_, _, r, q⟩ => q.ret r (hv _ _)
theorem em_int {i j} : PMe C (.Constant (.int i) j pos) (mc (.int i)) := em_c pe_int fun _ _ => .int i
theorem em_bl {i j} : PMe C (.Constant (.bool i) j pos) (mc (.bl i)) := em_c pe_bl fun _ _ => .bl i
theorem em_non {j} : PMe C (.Constant .none j pos) (mc .non) := em_c pe_non fun _ _ => .non
theorem em_str {i j} : PMe C (.Constant (.str i) j pos) (mc (.str i)) := em_c pe_str fun _ _ => .str i
end

/-! ### two expressions and an operator -/
def Op2Ok (C : MC) (f : Value → Value → Sem Value) (o : M → M → MS → Res M) : Prop :=
  ∀ (pins : List (Addr × Obj)) (s : Shared) (σ : L2.St) (H : Hp) (g : Gh) (ms : MS) (m1 m2 : M) (x y : V) (v u : Value) (Q : VK), Inv C.X pins σ H s → C.rel g ms σ H → RV C.T g H m1 x → RV C.T g H m2 y → RelV x v → RelV y u →
    Go C C.V1 σ (o m1 m2 ms) g H Q → wpAny (model C.X.prog C.X.w) C.X.A (f v u) (EP C.X pins σ Q) C.X.xe s
theorem Op2Ok.of {C : MC} {f : Value → Value → Sem Value} {r : R2} {o : M → M → MS → Res M} (h : OpR C.X f r)
    (k : ∀ (σ : L2.St) (H : Hp) (g : Gh) (ms : MS) (m1 m2 : M) (x y : V) (Q : VK), C.rel g ms σ H → RV C.T g H m1 x → RV C.T g H m2 y → Go C C.V1 σ (o m1 m2 ms) g H Q → r x y H Q) : Op2Ok C f o :=
  fun pins s σ H g ms m1 m2 x y v u Q I r r1 r2 l1 l2 q => h pins s σ H x y v u Q I l1 l2 (k σ H g ms m1 m2 x y Q r r1 r2 q)
def m2 (o : M → M → MS → Res M) (a b : ME) : ME := fun s => (a s).bind fun x s1 => (b s1).bind fun y s2 => o x y s2
/-- evaluate both, then the operator's own ground -/
theorem both {C : MC} {ea eb : Expr} {a b : ME} (ha : PMe C ea a) (hb : PMe C eb b) {o : M → M → MS → Res M} {pins : List (Addr × Obj)} {s : Shared} {σ : L2.St} {H : Hp} {Q : VK} (I : Inv C.X pins σ H s) (h : rdE C (m2 o a b) σ H Q)
    {β : Type} {P : β → Shared → Prop} {f : Value → Value → Sem β}
    (hf : ∀ v u s2 x y H2 g2 ms m1 m2, Inv C.X pins σ H2 s2 → C.rel g2 ms σ H2 → RV C.T g2 H2 m1 x → RV C.T g2 H2 m2 y → RelV x v → RelV y u → Go C C.V1 σ (o m1 m2 ms) g2 H2 Q → wpAny (model C.X.prog C.X.w) C.X.A (f v u) P C.X.xe s2) :
    wpAny (model C.X.prog C.X.w) C.X.A (eval ea C.X.env) (fun v s₁ => wpAny (model C.X.prog C.X.w) C.X.A (eval eb C.X.env) (fun u s₂ => wpAny (model C.X.prog C.X.w) C.X.A (f v u) P C.X.xe s₂) C.X.xe s₁) C.X.xe s := by
  obtain ⟨g, ms, r, q⟩ := h
  refine thn (ha.run pins s σ H _ I ⟨g, ms, r, Go.bind q⟩) fun v s1 ⟨x, H1, I1, l1, m1, ms1, g1, mo1, r1, rv1, q1⟩ => ?_
  refine thn (hb.run pins s1 σ H1 _ I1 ⟨g1, ms1, r1, Go.bind q1⟩) fun u s2 ⟨y, H2, I2, l2, m2, ms2, g2, mo2, r2, rv2, q2⟩ => ?_
  exact hf v u s2 x y H2 g2 ms2 m1 m2 I2 r2 (rv1.mono mo2) rv2 l1 l2 q2
theorem em_bin {C : MC} {ea eb : Expr} {a b : ME} {op : Operator} {pos : Pos} {o : M → M → MS → Res M} (ho : Op2Ok C (binaryOp op) o) (ha : PMe C ea a) (hb : PMe C eb b) : PMe C (.BinOp ea op eb pos) (m2 o a b) := by
  refine ⟨fun pins s σ H Q I h => wpAny_BinOp ?_⟩
  exact both ha hb I h fun v u s2 x y H2 g2 ms m1 m2 I2 r2 rv1 rv2 l1 l2 q => ho pins s2 σ H2 g2 ms m1 m2 x y v u Q I2 r2 rv1 rv2 l1 l2 q
end Ma
/-! Ma4: comparisons, tests, and, or, not, conditional expressions; statements without loops, while. -/
namespace Ma
open L2 PySem
section
variable {C : MC} {ea eb ec : Expr} {a b c : ME} {pos : Pos}

theorem em_cmp {op : CmpOp} {o : M → M → MS → Res M} (ho : Op2Ok C (compareOp op) o) (ha : PMe C ea a) (hb : PMe C eb b) (hm : behindInMarks op eb = false) : PMe C (.Compare ea [op] [eb] pos) (m2 o a b) := by
  refine ⟨fun pins s σ H Q I h => wpAny_Compare1 ?_ hm⟩
  exact both ha hb I h fun v u s2 x y H2 g2 ms m1 m2 I2 r2 rv1 rv2 l1 l2 q => ho pins s2 σ H2 g2 ms m1 m2 x y v u Q I2 r2 rv1 rv2 l1 l2 q

/-- a value that is a bool -/
def isB (m : M) : MS → Res Bool := fun s => match m with
  | .bl k => .ok k s
  | _ => .stuck
def mB (a : ME) : MT := fun s => (a s).bind isB
theorem Go.isB {σ : L2.St} {g : Gh} {H : Hp} {m : M} {ms : MS} {x : V} {Q : Bool → Hp → Prop} (h : Go C REq σ (isB m ms) g H Q) (r : C.rel g ms σ H) (rv : RV C.T g H m x) : ∃ k, x = .bl k ∧ Q k H := by
  cases rv with
  | bl k => exact ⟨k, rfl, h g H k (Mono.refl _ _) r rfl⟩
  | _ => exact h.elim
theorem tB_of {t : TE} {σ : L2.St} {H : Hp} {Q : Bool → Hp → Prop} (he : ∀ σ H Q, rdE C a σ H Q → t σ H Q) (h : rdT C (mB a) σ H Q) : tB t σ H Q := by
  obtain ⟨g, s, r, q⟩ := h
  refine he _ _ _ ⟨g, s, r, (Go.bind (R := C.V1) q).imp ?_⟩
  rintro x H1 ⟨m, s1, g1, mo, r1, rv, q1⟩
  exact q1.isB r1 rv
/-- a bool's expression as a test -/
theorem tm_val (h : PMe C ea a) (he : ∀ whole, isTrue ea C.X.env whole = (do let v ← whole; standAt ea.pos; PySem.holding [v] (truthy v)) := by intro _; rfl) : PMt C ea (mB a) :=
  wkT (pt_val h he) fun σ H Q q => tB_of (fun _ _ _ z => z) q
/-- a comparison as a test -/
theorem tm_cmp {op : CmpOp} {o : M → M → MS → Res M} (ho : Op2Ok C (compareOp op) o) (ha : PMe C ea a) (hb : PMe C eb b) (hm : behindInMarks op eb = false) : PMt C (.Compare ea [op] [eb] pos) (mB (m2 o a b)) := by
  refine ⟨fun pins s σ H Q I h => wpAny_isTrue_Compare1 ?_ hm⟩
  have h2 : rdE C (m2 o a b) σ H fun x H1 => ∃ k, x = .bl k ∧ Q k H1 := by
    obtain ⟨g, s, r, q⟩ := h
    refine ⟨g, s, r, (Go.bind (R := C.V1) q).imp ?_⟩
    rintro x H1 ⟨m, s1, g1, mo, r1, rv, q1⟩
    exact q1.isB r1 rv
  exact both ha hb I h2 fun v u s2 x y H2 g2 ms m1 m2 I2 r2 rv1 rv2 l1 l2 q =>
    thn (ho pins s2 σ H2 g2 ms m1 m2 x y v u _ I2 r2 rv1 rv2 l1 l2 q) fun c s3 ⟨z, H3, I3, r3, k, e, q3⟩ => by
      subst e
      cases r3
      exact wpAny_truthy_bool ⟨H3, I3, q3⟩

def mNot (t : MT) : MT := fun s => (t s).bind fun k s1 => .ok (!k) s1
def mAnd (t u : MT) : MT := fun s => (t s).bind fun k s1 => if k = true then u s1 else .ok false s1
def mOr (t u : MT) : MT := fun s => (t s).bind fun k s1 => if k = true then .ok true s1 else u s1
variable {t u : MT} {rest : List Expr}
theorem rdT_bind {γ δ : Type} {S : Gh → Hp → γ → δ → Prop} {σ : L2.St} {H : Hp} {f : Bool → MS → Res γ} {Q : δ → Hp → Prop} (h : ∃ g s, C.rel g s σ H ∧ Go C S σ ((t s).bind f) g H Q) :
    rdT C t σ H fun k H1 => ∃ s1 g1, C.rel g1 s1 σ H1 ∧ Go C S σ (f k s1) g1 H1 Q := by
  obtain ⟨g, s, r, q⟩ := h
  refine ⟨g, s, r, (Go.bind (R := REq) q).imp ?_⟩
  rintro k H1 ⟨k', s1, g1, mo, r1, rv, q1⟩
  cases rv
  exact ⟨s1, g1, r1, q1⟩
theorem tm_not (ha : PMt C ea t) : PMt C (.UnaryOp .Not ea pos) (mNot t) :=
  wkT (pt_not ha) fun σ H Q h => by
    obtain ⟨g, s, r, q⟩ := rdT_bind h
    refine ⟨g, s, r, q.imp ?_⟩
    rintro k H1 ⟨s1, g1, r1, q1⟩
    exact q1.ret r1 rfl
theorem wm_and1 (ha : PMt C ea t) : PMw C (.BoolOp .And [ea] pos) t := pw_and1 ha
theorem wm_or1 (ha : PMt C ea t) : PMw C (.BoolOp .Or [ea] pos) t := pw_or1 ha
theorem wm_and (ha : PMt C ea t) (hb : PMw C (.BoolOp .And (eb :: rest) pos) u) : PMw C (.BoolOp .And (ea :: eb :: rest) pos) (mAnd t u) :=
  wkW (pw_and ha hb) fun σ H Q h => by
    obtain ⟨g, s, r, q⟩ := rdT_bind h
    refine ⟨g, s, r, q.imp ?_⟩
    rintro k H1 ⟨s1, g1, r1, q1⟩
    cases k with
    | true => exact ⟨g1, s1, r1, q1⟩
    | false => exact q1.ret r1 rfl
theorem wm_or (ha : PMt C ea t) (hb : PMw C (.BoolOp .Or (eb :: rest) pos) u) : PMw C (.BoolOp .Or (ea :: eb :: rest) pos) (mOr t u) :=
  wkW (pw_or ha hb) fun σ H Q h => by
    obtain ⟨g, s, r, q⟩ := rdT_bind h
    refine ⟨g, s, r, q.imp ?_⟩
    rintro k H1 ⟨s1, g1, r1, q1⟩
    cases k with
    | true => exact q1.ret r1 rfl
    | false => exact ⟨g1, s1, r1, q1⟩
theorem tm_w (h : PMw C ea t) : PMt C ea t := h.pt
/-- and, or, not as values: of bools -/
def mAndV (a b : ME) : ME := fun s => (a s).bind fun x s1 => match x with
  | .bl k => if k = true then b s1 else .ok (.bl false) s1
  | _ => .stuck
def mOrV (a b : ME) : ME := fun s => (a s).bind fun x s1 => match x with
  | .bl k => if k = true then .ok (.bl true) s1 else b s1
  | _ => .stuck
def mNotV (a : ME) : ME := fun s => (a s).bind fun x s1 => match x with
  | .bl k => .ok (.bl (!k)) s1
  | _ => .stuck
theorem rdE_bind {γ δ : Type} {S : Gh → Hp → γ → δ → Prop} {σ : L2.St} {H : Hp} {f : M → MS → Res γ} {Q : δ → Hp → Prop} (h : ∃ g s, C.rel g s σ H ∧ Go C S σ ((a s).bind f) g H Q) :
    rdE C a σ H fun x H1 => ∃ m s1 g1, C.rel g1 s1 σ H1 ∧ RV C.T g1 H1 m x ∧ Go C S σ (f m s1) g1 H1 Q := by
  obtain ⟨g, s, r, q⟩ := h
  refine ⟨g, s, r, (Go.bind (R := C.V1) q).imp ?_⟩
  rintro x H1 ⟨m, s1, g1, mo, r1, rv, q1⟩
  exact ⟨m, s1, g1, r1, rv, q1⟩
theorem em_one {op} (h : PMe C ea a) : PMe C (.BoolOp op [ea] pos) a := pe_one h
theorem em_and (ha : PMe C ea a) (hb : PMe C (.BoolOp .And (eb :: rest) pos) b) : PMe C (.BoolOp .And (ea :: eb :: rest) pos) (mAndV a b) :=
  wkE (pe_and ha hb) fun σ H Q h => by
    obtain ⟨g, s, r, q⟩ := rdE_bind h
    refine ⟨g, s, r, q.imp ?_⟩
    rintro k H1 ⟨m, s1, g1, r1, rv, q1⟩
    cases rv with
    | bl k =>
      refine ⟨k, rfl, ?_⟩
      cases k with
      | true => exact ⟨g1, s1, r1, q1⟩
      | false => exact q1.ret r1 (.bl _)
    | _ => exact q1.elim
theorem em_or (ha : PMe C ea a) (hb : PMe C (.BoolOp .Or (eb :: rest) pos) b) : PMe C (.BoolOp .Or (ea :: eb :: rest) pos) (mOrV a b) :=
  wkE (pe_or ha hb) fun σ H Q h => by
    obtain ⟨g, s, r, q⟩ := rdE_bind h
    refine ⟨g, s, r, q.imp ?_⟩
    rintro k H1 ⟨m, s1, g1, r1, rv, q1⟩
    cases rv with
    | bl k =>
      refine ⟨k, rfl, ?_⟩
      cases k with
      | true => exact q1.ret r1 (.bl _)
      | false => exact ⟨g1, s1, r1, q1⟩
    | _ => exact q1.elim
theorem em_not (ha : PMe C ea a) : PMe C (.UnaryOp .Not ea pos) (mNotV a) :=
  wkE (pe_not ha) fun σ H Q h => by
    obtain ⟨g, s, r, q⟩ := rdE_bind h
    refine ⟨g, s, r, q.imp ?_⟩
    rintro k H1 ⟨m, s1, g1, r1, rv, q1⟩
    cases rv with
    | bl k => exact ⟨k, rfl, q1.ret r1 (.bl _)⟩
    | _ => exact q1.elim
def mIf (t : MT) (a b : ME) : ME := fun s => (t s).bind fun k s1 => if k = true then a s1 else b s1
theorem em_if (hc : PMt C ec t) (ha : PMe C ea a) (hb : PMe C eb b) : PMe C (.IfExp ec ea eb pos) (mIf t a b) :=
  wkE (pe_ifExp hc ha hb) fun σ H Q h => by
    obtain ⟨g, s, r, q⟩ := rdT_bind h
    refine ⟨g, s, r, q.imp ?_⟩
    rintro k H1 ⟨s1, g1, r1, q1⟩
    cases k with
    | true => exact ⟨g1, s1, r1, q1⟩
    | false => exact ⟨g1, s1, r1, q1⟩

/-! ### argument lists -/
def mNil : MA := fun s => .ok [] s
def mCons (a : ME) (b : MA) : MA := fun s => (a s).bind fun x s1 => (b s1).bind fun xs s2 => .ok (x :: xs) s2
theorem am_nil : PMa C [] mNil := wkA pa_nil fun σ H Q ⟨g, s, r, q⟩ => q.ret r .nil
theorem am_cons {es : List Expr} {m : MA} (ha : PMe C ea a) (hb : PMa C es m) (he : starEach (ea :: es) C.X.env = (false, eval ea C.X.env) :: starEach es C.X.env := by rfl) : PMa C (ea :: es) (mCons a m) :=
  wkA (pa_cons ha hb he) fun σ H Q h => by
    obtain ⟨g, s, r, q⟩ := rdE_bind h
    refine ⟨g, s, r, q.imp ?_⟩
    rintro x H1 ⟨m, s1, g1, r1, rv, q1⟩
    refine ⟨g1, s1, r1, (Go.bind (R := C.Vn) q1).imp ?_⟩
    rintro xs H2 ⟨ms, s2, g2, mo2, r2, rvs, q2⟩
    exact q2.ret r2 (.cons (rv.mono mo2) rvs)
end
end Ma
/-! Ma5: statements: blocks, assignments, if, while, for. -/
namespace Ma
open L2 PySem
section
variable {C : MC} {g g1 : Gh} {H H1 : Hp} {D D' : Ends}
theorem GoS.later {r : Res Fl} (m : Mono g H g1 H1) (h : GoS C r g H D) : GoS C r g1 H1 D := by
  cases r with
  | ok f s => cases f with
    | nx => exact fun g' H' σ q => h g' H' σ (m.trans q)
    | bk => exact fun g' H' σ q => h g' H' σ (m.trans q)
    | ct => exact fun g' H' σ q => h g' H' σ (m.trans q)
    | rt v => exact fun g' H' σ v q => h g' H' σ v (m.trans q)
  | err x s => exact fun g' H' σ cls d q => h g' H' σ cls d (m.trans q)
  | stuck => exact h
/-- an expression, then a statement's rest -/
theorem Go.bindS {α β : Type} {R : Gh → Hp → α → β → Prop} {σ : L2.St} {r : Res α} {f : α → MS → Res Fl} (h : GoS C (r.bind f) g H D) :
    Go C R σ r g H fun x H1 => ∃ m s1 g1, Mono g H g1 H1 ∧ C.rel g1 s1 σ H1 ∧ R g1 H1 m x ∧ GoS C (f m s1) g1 H1 D := by
  cases r with
  | ok a s => exact fun g' H' v q r x => ⟨a, s, g', q, r, x, h.later q⟩
  | err x s => exact fun g' H' cls d q r x => h g' H' σ cls d q r x
  | stuck => exact h
theorem GoS.nx {s : MS} {σ : L2.St} (h : GoS C (.ok .nx s) g H D) (r : C.rel g s σ H) : D.nx σ H := h g H σ (Mono.refl _ _) r

def sNx : MStm := fun s => .ok .nx s
def sSeq (a b : MStm) : MStm := fun s => (a s).bind fun f s1 => match f with
  | .nx => b s1
  | f => .ok f s1
theorem rdS_seq {a b : MStm} {σ : L2.St} (h : rdS C (sSeq a b) D σ H) : rdS C a { D with nx := rdS C b D } σ H := by
  obtain ⟨g, s, r, q⟩ := h
  refine ⟨g, s, r, ?_⟩
  unfold sSeq at q
  cases ha : a s with
  | ok f s1 =>
    rw [ha] at q
    cases f with
    | nx => exact fun g' H' σ m r => ⟨g', s1, r, GoS.later m q⟩
    | bk => exact q
    | ct => exact q
    | rt v => exact q
  | err x s1 => rw [ha] at q; exact q
  | stuck => rw [ha] at q; exact q
variable {st : Stmt} {rest : List Stmt} {a b : MStm} {pos : Pos} {ex : Expr} {m : ME} {i : Nat} {x : Str}
theorem bm_nil : PMb C [] sNx := wkB pss_nil fun D σ H ⟨g, s, r, q⟩ => q.nx r
theorem bm_cons (h1 : PMs C st a) (h2 : PMb C rest b) : PMb C (st :: rest) (sSeq a b) := wkB (pss_cons h1 h2) fun D σ H h => rdS_seq h
theorem bm_one (h1 : PMs C st a) : PMb C [st] a := pss_one h1
theorem sm_pass : PMs C (.Pass pos) sNx := wkS ps_pass fun D σ H ⟨g, s, r, q⟩ => q.nx r
theorem sm_break : PMs C (.Break pos) (fun s => .ok .bk s) := wkS ps_break fun D σ H ⟨g, s, r, q⟩ => q g H σ (Mono.refl _ _) r
theorem sm_continue : PMs C (.Continue pos) (fun s => .ok .ct s) := wkS ps_continue fun D σ H ⟨g, s, r, q⟩ => q g H σ (Mono.refl _ _) r

def sExpr (m : ME) : MStm := fun s => (m s).bind fun _ s1 => .ok .nx s1
def sRet (m : ME) : MStm := fun s => (m s).bind fun v s1 => .ok (.rt v) s1
def sRetN : MStm := fun s => .ok (.rt .non) s
def sSet (i : Nat) (m : ME) : MStm := fun s => (m s).bind fun v s1 => .ok .nx ⟨s1.env.set i (some v), s1.hp⟩
theorem rdE_bindS {f : M → MS → Res Fl} {σ : L2.St} (h : ∃ g s, C.rel g s σ H ∧ GoS C ((m s).bind f) g H D) :
    rdE C m σ H fun x H1 => ∃ v s1 g1, C.rel g1 s1 σ H1 ∧ RV C.T g1 H1 v x ∧ GoS C (f v s1) g1 H1 D := by
  obtain ⟨g, s, r, q⟩ := h
  refine ⟨g, s, r, (Go.bindS (R := C.V1) (σ := σ) q).imp ?_⟩
  rintro x H1 ⟨m, s1, g1, mo, r1, rv, q1⟩
  exact ⟨m, s1, g1, r1, rv, q1⟩
theorem rdT_bindS {t : MT} {f : Bool → MS → Res Fl} {σ : L2.St} (h : ∃ g s, C.rel g s σ H ∧ GoS C ((t s).bind f) g H D) :
    rdT C t σ H fun k H1 => ∃ s1 g1, C.rel g1 s1 σ H1 ∧ GoS C (f k s1) g1 H1 D := by
  obtain ⟨g, s, r, q⟩ := h
  refine ⟨g, s, r, (Go.bindS (R := REq) (σ := σ) q).imp ?_⟩
  rintro x H1 ⟨m, s1, g1, mo, r1, rv, q1⟩
  cases rv
  exact ⟨s1, g1, r1, q1⟩
theorem rdA_bindS {t : MA} {f : List M → MS → Res Fl} {σ : L2.St} (h : ∃ g s, C.rel g s σ H ∧ GoS C ((t s).bind f) g H D) :
    rdA C t σ H fun xs H1 => ∃ v s1 g1, C.rel g1 s1 σ H1 ∧ RVs C.T g1 H1 v xs ∧ GoS C (f v s1) g1 H1 D := by
  obtain ⟨g, s, r, q⟩ := h
  refine ⟨g, s, r, (Go.bindS (R := C.Vn) (σ := σ) q).imp ?_⟩
  rintro x H1 ⟨m, s1, g1, mo, r1, rv, q1⟩
  exact ⟨m, s1, g1, r1, rv, q1⟩
theorem sm_expr (he : PMe C ex m) (hs : swapsWith ex none pos.line C.X.env = pure false := by rfl) : PMs C (.Expr ex pos) (sExpr m) :=
  wkS (ps_expr he hs) fun D σ H h => by
    obtain ⟨g, s, r, q⟩ := rdE_bindS h
    exact ⟨g, s, r, q.imp fun x H1 ⟨v, s1, g1, r1, rv, q1⟩ => q1.nx r1⟩
theorem sm_doc {x j pos'} : PMs C (.Expr (.Constant (.str x) j pos) pos') sNx := wkS ps_doc fun D σ H ⟨g, s, r, q⟩ => q.nx r
theorem sm_ret (he : PMe C ex m) : PMs C (.Return (some ex) pos) (sRet m) :=
  wkS (ps_ret he) fun D σ H h => by
    obtain ⟨g, s, r, q⟩ := rdE_bindS h
    exact ⟨g, s, r, q.imp fun x H1 ⟨v, s1, g1, r1, rv, q1⟩ => q1 g1 H1 σ x (Mono.refl _ _) r1 rv⟩
theorem sm_retN : PMs C (.Return none pos) sRetN := wkS ps_retN fun D σ H ⟨g, s, r, q⟩ => q g H σ .non (Mono.refl _ _) r .non
theorem sm_set (i : Nat) {pos' : Pos} (hN : C.X.N.Nodup) (hi : C.X.N[i]? = some x) (hx : Loc C.X.env.scope x) (he : PMe C ex m) (hs : swapsWith ex (some (.Name x pos')) pos.line C.X.env = pure false := by rfl)
    (hf : C.X.fn x = true ∨ C.X.env.scope.names.lookup x = some .local := by first | exact .inl rfl | exact .inr rfl | assumption) : PMs C (.Assign [.Name x pos'] ex pos) (sSet i m) :=
  wkS (ps_set hN hi hx he hs hf) fun D σ H h => by
    obtain ⟨g, s, r, q⟩ := rdE_bindS h
    exact ⟨g, s, r, q.imp fun x H1 ⟨v, s1, g1, r1, rv, q1⟩ => q1.nx (r1.put rv)⟩
def sPar2 (i j : Nat) (m : MA) : MStm := fun s => (m s).bind fun vs s1 => match vs with
  | [v, w] => .ok .nx ⟨(s1.env.set i (some v)).set j (some w), s1.hp⟩
  | _ => .stuck
def sPar3 (i j l : Nat) (m : MA) : MStm := fun s => (m s).bind fun vs s1 => match vs with
  | [u, v, w] => .ok .nx ⟨((s1.env.set i (some u)).set j (some v)).set l (some w), s1.hp⟩
  | _ => .stuck
theorem sm_par2 (i j : Nat) {x y : Str} {ea eb : Expr} {ma : MA} {px py pt : Pos} {kt k2 pt2} (hc : C.X.calm = true) (hN : C.X.N.Nodup) (ha : PMa C [ea, eb] ma) (hi : C.X.N[i]? = some x := by rfl) (hj : C.X.N[j]? = some y := by rfl) (hij : i ≠ j := by decide)
    (hx : C.X.env.scope.names.lookup x = some .local := by rfl) (hy : C.X.env.scope.names.lookup y = some .local := by rfl)
    (hw : swappedStores [.Tuple [.Name x px, .Name y py] kt pt] (.Tuple [ea, eb] k2 pt2) C.X.env = pure (some [x, y]) := by rfl)
    (hs : swapsWithSole [.Tuple [.Name x px, .Name y py] kt pt] (.Tuple [ea, eb] k2 pt2) pos.line C.X.env = pure false := by rfl) :
    PMs C (.Assign [.Tuple [.Name x px, .Name y py] kt pt] (.Tuple [ea, eb] k2 pt2) pos) (sPar2 i j ma) :=
  wkS (ps_par hc hN hi hj hij hx hy ha hw hs) fun D σ H h => by
    obtain ⟨g, s, r, q⟩ := rdA_bindS h
    refine ⟨g, s, r, q.imp ?_⟩
    rintro xs H1 ⟨vs, s1, g1, r1, rv, q1⟩
    cases rv with
    | nil => exact q1.elim
    | cons rv1 rv => cases rv with
      | nil => exact q1.elim
      | cons rv2 rv => cases rv with
        | cons _ _ => exact q1.elim
        | nil => exact ⟨_, _, rfl, q1.nx ((r1.put rv1).put rv2)⟩
theorem sm_par3 (i j l : Nat) {x y z : Str} {ea eb ec : Expr} {ma : MA} {px py pz pt : Pos} {kt k2 pt2} (hc : C.X.calm = true) (hN : C.X.N.Nodup) (ha : PMa C [ea, eb, ec] ma) (hi : C.X.N[i]? = some x := by rfl) (hj : C.X.N[j]? = some y := by rfl) (hl : C.X.N[l]? = some z := by rfl)
    (hij : i ≠ j := by decide) (hil : i ≠ l := by decide) (hjl : j ≠ l := by decide)
    (hx : C.X.env.scope.names.lookup x = some .local := by rfl) (hy : C.X.env.scope.names.lookup y = some .local := by rfl) (hz : C.X.env.scope.names.lookup z = some .local := by rfl)
    (hw : swappedStores [.Tuple [.Name x px, .Name y py, .Name z pz] kt pt] (.Tuple [ea, eb, ec] k2 pt2) C.X.env = pure (some [x, y, z]) := by rfl)
    (hs : swapsWithSole [.Tuple [.Name x px, .Name y py, .Name z pz] kt pt] (.Tuple [ea, eb, ec] k2 pt2) pos.line C.X.env = pure false := by rfl) :
    PMs C (.Assign [.Tuple [.Name x px, .Name y py, .Name z pz] kt pt] (.Tuple [ea, eb, ec] k2 pt2) pos) (sPar3 i j l ma) :=
  wkS (ps_par3 hc hN hi hj hl hij hil hjl hx hy hz ha hw hs) fun D σ H h => by
    obtain ⟨g, s, r, q⟩ := rdA_bindS h
    refine ⟨g, s, r, q.imp ?_⟩
    rintro xs H1 ⟨vs, s1, g1, r1, rv, q1⟩
    cases rv with
    | nil => exact q1.elim
    | cons rv1 rv => cases rv with
      | nil => exact q1.elim
      | cons rv2 rv => cases rv with
        | nil => exact q1.elim
        | cons rv3 rv => cases rv with
          | cons _ _ => exact q1.elim
          | nil => exact ⟨_, _, _, rfl, q1.nx (((r1.put rv1).put rv2).put rv3)⟩
def sIf (t : MT) (a b : MStm) : MStm := fun s => (t s).bind fun k s1 => if k = true then a s1 else b s1
theorem sm_if {t : MT} {ss us : List Stmt} (hc : PMt C ex t) (ha : PMb C ss a) (hb : PMb C us b) : PMs C (.If ex ss us pos) (sIf t a b) :=
  wkS (ps_if hc ha hb) fun D σ H h => by
    obtain ⟨g, s, r, q⟩ := rdT_bindS h
    refine ⟨g, s, r, q.imp ?_⟩
    rintro k H1 ⟨s1, g1, r1, q1⟩
    cases k with
    | true => exact ⟨g1, s1, r1, q1⟩
    | false => exact ⟨g1, s1, r1, q1⟩

/-! ### while -/
def sWh (t : MT) (b : MStm) : Nat → MStm
  | 0 => fun _ => .stuck
  | n + 1 => fun s => (t s).bind fun k s1 => if k = true then (b s1).bind fun f s2 => (match f with
      | .nx => sWh t b n s2
      | .ct => sWh t b n s2
      | .bk => .ok .nx s2
      | .rt v => .ok (.rt v) s2) else .ok .nx s1
/-- a loop's turn: the body, then on, or out -/
theorem turn_of {b : MStm} {k : MStm} {s : MS} {σ : L2.St} (r : C.rel g s σ H) (q : GoS C ((b s).bind fun f s2 => (match f with
      | .nx => k s2
      | .ct => k s2
      | .bk => .ok .nx s2
      | .rt v => .ok (.rt v) s2)) g H D) :
    rdS C b { D with nx := fun σ' H' => ∃ g' s', Mono g H g' H' ∧ C.rel g' s' σ' H' ∧ GoS C (k s') g' H' D, ct := fun σ' H' => ∃ g' s', Mono g H g' H' ∧ C.rel g' s' σ' H' ∧ GoS C (k s') g' H' D, bk := D.nx } σ H := by
  refine ⟨g, s, r, ?_⟩
  cases hb : b s with
  | ok f s2 =>
    rw [hb] at q
    cases f with
    | nx => exact fun g' H' σ m r => ⟨g', s2, m, r, GoS.later m q⟩
    | ct => exact fun g' H' σ m r => ⟨g', s2, m, r, GoS.later m q⟩
    | bk => exact q
    | rt v => exact q
  | err x s2 => rw [hb] at q; exact q
  | stuck => rw [hb] at q; exact q
theorem sm_while (n : Nat) {t : MT} {ss : List Stmt} (hp : PassesOwn (model C.X.prog C.X.w) C.X.A C.X.env C.X.xe) (hc : PMt C ex t) (hb : PMb C ss b) : PMs C (.While ex ss [] pos) (sWh t b n) :=
  wkS (ps_while hp hc hb) fun D σ H h => by
    obtain ⟨g, s, r, q⟩ := h
    refine ⟨fun n σ H => ∃ g s, C.rel g s σ H ∧ GoS C (sWh t b n s) g H D, ⟨n, g, s, r, q⟩, ?_⟩
    rintro m σ H h
    cases m with
    | zero =>
      obtain ⟨g, s, r, q⟩ := h
      exact q.elim
    | succ m =>
      obtain ⟨g, s, r, q⟩ := rdT_bindS (f := fun k s1 => if k = true then (b s1).bind fun f s2 => (match f with
        | .nx => sWh t b m s2
        | .ct => sWh t b m s2
        | .bk => .ok .nx s2
        | .rt v => .ok (.rt v) s2) else .ok .nx s1) h
      refine ⟨g, s, r, q.imp ?_⟩
      rintro k H1 ⟨s1, g1, r1, q1⟩
      cases k with
      | false =>
        rw [if_neg Bool.false_ne_true] at q1
        exact q1.nx r1
      | true =>
        rw [if_pos rfl] at q1
        rw [if_pos rfl]
        refine ⟨fun σ' H' => ∃ g' s', Mono g1 H1 g' H' ∧ C.rel g' s' σ' H' ∧ GoS C (sWh t b m s') g' H' D, fun σ' H' ⟨g', s', _, r', q'⟩ => ⟨m, Nat.lt_succ_self m, g', s', r', q'⟩, turn_of r1 q1⟩
end
end Ma
/-! Ma6: what a loop walks, its targets, for. -/
namespace Ma
open L2 PySem
section
variable {C : MC} {g g1 : Gh} {H H1 : Hp} {D : Ends}

/-- a new object at an untracked place -/
theorem RelH.laid {T : Tab} {e : En} {hp : List Cell} {p : Addr} {o : HO} (r : RelH T e g hp H) (hn : H p = none) : RelH T e g hp (upd H p o) := by
  have ne : ∀ {a u}, H a = some u → a ≠ p := fun h => ne_of_none h hn
  have mo : Mono g H g (upd H p o) := ⟨List.prefix_refl _, fun _ h => h, fun a h => by obtain ⟨u, q⟩ := r.fzt a h; rw [upd_ne (ne q)], fun a vs h => by rw [upd_ne (ne h)]; exact h⟩
  refine ⟨r.len, r.nd, fun n c a h1 h2 => ?_, r.thaw, fun a h => ?_, fun a h => ?_, fun a u h1 h2 => ?_, r.nfz, r.nro, r.m0.trans mo⟩
  · obtain ⟨u, q⟩ := r.rot a (List.mem_of_getElem? h2)
    exact (r.cell n c a h1 h2).mono mo (by rw [upd_ne (ne q)])
  · obtain ⟨u, q⟩ := r.fzt a h
    exact ⟨u, by rw [upd_ne (ne q)]; exact q⟩
  · obtain ⟨u, q⟩ := r.rot a h
    exact ⟨u, by rw [upd_ne (ne q)]; exact q⟩
  · have q := r.frm a u h1 h2
    rw [upd_ne (ne q)]
    exact q
theorem mono_laid {T : Tab} {e : En} {hp : List Cell} {p : Addr} {o : HO} (r : RelH T e g hp H) (hn : H p = none) : Mono g H g (upd H p o) := by
  have ne : ∀ {a u}, H a = some u → a ≠ p := fun h => ne_of_none h hn
  exact ⟨List.prefix_refl _, fun _ h => h, fun a h => by obtain ⟨u, q⟩ := r.fzt a h; rw [upd_ne (ne q)], fun a vs h => by rw [upd_ne (ne h)]; exact h⟩
theorem Rel.laid {s : MS} {σ : L2.St} {p : Addr} {o : HO} (r : C.rel g s σ H) (hn : H p = none) : C.rel g s σ (upd H p o) :=
  r.env (mono_laid r.h hn) (r.h.laid hn)

/-- items to be walked -/
def Wk (C : MC) (g : Gh) (H : Hp) (items : List M) (J : It) : Prop := ∃ (G : Hp → Prop) (Y : Nat → Hp → V → Hp → Prop), Walk J items.length G Y ∧ (∀ g1 H1, Mono g H g1 H1 → G H1) ∧
  ∀ i g1 H1 s σ x H2, i < items.length → Mono g H g1 H1 → C.rel g1 s σ H1 → Y i H1 x H2 → ∃ m, items[i]? = some m ∧ Mono g1 H1 g1 H2 ∧ C.rel g1 s σ H2 ∧ RV C.T g1 H2 m x ∧ Same H1 H2
/-- a walk's source -/
abbrev MI := MS → Res (List M)
def GoI (C : MC) (σ : L2.St) (r : Res (List M)) (g : Gh) (H : Hp) (R : It → Hp → Prop) : Prop := match r with
  | .ok items s1 => ∀ (g' : Gh) (H' : Hp) (J : It), Mono g H g' H' → C.rel g' s1 σ H' → Wk C g' H' items J → R J H'
  | .err x s1 => ∀ (g' : Gh) (H' : Hp) (cls : Value) (d : Option Addr), Mono g H g' H' → C.rel g' s1 σ H' → XR C.T g' H' x cls d → C.W cls d σ H'
  | .stuck => False
def rdI (C : MC) (m : MI) : TI := fun σ H R => ∃ g s, C.rel g s σ H ∧ GoI C σ (m s) g H R
theorem GoI.later {σ : L2.St} {r : Res (List M)} {R : It → Hp → Prop} (m : Mono g H g1 H1) (h : GoI C σ r g H R) : GoI C σ r g1 H1 R := by
  cases r with
  | ok a s => exact fun g' H' J q => h g' H' J (m.trans q)
  | err x s => exact fun g' H' cls d q => h g' H' cls d (m.trans q)
  | stuck => exact h
theorem Go.bindI {α β : Type} {Rl : Gh → Hp → α → β → Prop} {σ : L2.St} {r : Res α} {f : α → MS → Res (List M)} {R : It → Hp → Prop} (h : GoI C σ (r.bind f) g H R) :
    Go C Rl σ r g H fun x H1 => ∃ m s1 g1, Mono g H g1 H1 ∧ C.rel g1 s1 σ H1 ∧ Rl g1 H1 m x ∧ GoI C σ (f m s1) g1 H1 R := by
  cases r with
  | ok a s => exact fun g' H' v q r x => ⟨a, s, g', q, r, x, h.later q⟩
  | err x s => exact h
  | stuck => exact h
theorem rdA_bindI {t : MA} {f : List M → MS → Res (List M)} {σ : L2.St} {R : It → Hp → Prop} (h : rdI C (fun s => (t s).bind f) σ H R) :
    rdA C t σ H fun xs H1 => ∃ v s1 g1, C.rel g1 s1 σ H1 ∧ RVs C.T g1 H1 v xs ∧ GoI C σ (f v s1) g1 H1 R := by
  obtain ⟨g, s, r, q⟩ := h
  refine ⟨g, s, r, (Go.bindI (Rl := C.Vn) q).imp ?_⟩
  rintro x H1 ⟨m, s1, g1, mo, r1, rv, q1⟩
  exact ⟨m, s1, g1, r1, rv, q1⟩
theorem rdE_bindI {t : ME} {f : M → MS → Res (List M)} {σ : L2.St} {R : It → Hp → Prop} (h : rdI C (fun s => (t s).bind f) σ H R) :
    rdE C t σ H fun x H1 => ∃ v s1 g1, C.rel g1 s1 σ H1 ∧ RV C.T g1 H1 v x ∧ GoI C σ (f v s1) g1 H1 R := by
  obtain ⟨g, s, r, q⟩ := h
  refine ⟨g, s, r, (Go.bindI (Rl := C.V1) q).imp ?_⟩
  rintro x H1 ⟨m, s1, g1, mo, r1, rv, q1⟩
  exact ⟨m, s1, g1, r1, rv, q1⟩
abbrev PMi (C : MC) (tg it : Expr) (m : MI) : Prop := PI C.X tg it (rdI C m)
/-- a target -/
abbrev MG := M → MS → Res Unit
def rdG (C : MC) (m : MG) : TG := fun v σ H Q => ∃ g s w, C.rel g s σ H ∧ RV C.T g H w v ∧ match m w s with
  | .ok _ s1 => ∀ (g' : Gh) (H' : Hp) (σ' : L2.St), Mono g H g' H' → C.rel g' s1 σ' H' → Q σ' H'
  | .err x s1 => ∀ (g' : Gh) (H' : Hp) (cls : Value) (d : Option Addr), Mono g H g' H' → C.rel g' s1 σ H' → XR C.T g' H' x cls d → C.W cls d σ H'
  | .stuck => False
abbrev PMg (C : MC) (tg : Expr) (m : MG) : Prop := PG C.X tg (rdG C m)
def gSet (i : Nat) : MG := fun w s => .ok () ⟨s.env.set i (some w), s.hp⟩
theorem wkG {X : Cx} {tg : Expr} {t t' : TG} (h : PG X tg t) (k : ∀ v σ H Q, t' v σ H Q → t v σ H Q) : PG X tg t' := ⟨fun pins s σ H v u Q I r q => h.run pins s σ H v u Q I r (k _ _ _ _ q)⟩
theorem gm_name (i : Nat) {x : Str} {pos : Pos} (hN : C.X.N.Nodup) (hi : C.X.N[i]? = some x) (hx : Loc C.X.env.scope x) (hf : C.X.fn x = true ∨ C.X.env.scope.names.lookup x = some .local := by first | exact .inl rfl | exact .inr rfl | assumption) : PMg C (.Name x pos) (gSet i) :=
  wkG (pg_name hN hi hx hf) fun v σ H Q ⟨g, s, w, r, rv, q⟩ => q g H _ (Mono.refl _ _) (r.put rv)

def sFor (tg : MG) (b : MStm) : List M → MStm
  | [] => fun s => .ok .nx s
  | x :: xs => fun s => (tg x s).bind fun _ s1 => (b s1).bind fun f s2 => (match f with
      | .nx => sFor tg b xs s2
      | .ct => sFor tg b xs s2
      | .bk => .ok .nx s2
      | .rt v => .ok (.rt v) s2)
def sForI (it : MI) (tg : MG) (b : MStm) : MStm := fun s => (it s).bind fun xs s1 => sFor tg b xs s1
theorem drop_of {α : Type} {xs : List α} {i : Nat} {m : α} (h : xs[i]? = some m) : xs.drop i = m :: xs.drop (i + 1) := by
  obtain ⟨hi, e⟩ := List.getElem?_eq_some_iff.mp h
  rw [← e]
  exact List.drop_eq_getElem_cons hi
theorem sm_for {tg it : Expr} {body : List Stmt} {mi : MI} {mg : MG} {b : MStm} {pos : Pos} (hp : PassesOwn (model C.X.prog C.X.w) C.X.A C.X.env C.X.xe) (hc : C.X.calm = true) (hi : PMi C tg it mi) (hg : PMg C tg mg) (hb : PMb C body b)
    (hs : ∀ x, foldedSetIterable it C.X.env x = pure x := by intro _; rfl) : PMs C (.For tg it body [] pos) (sForI mi mg b) :=
  wkS (ps_for hp hc hi hg hb hs) fun D σ H h => by
    obtain ⟨g, s, r, q⟩ := h
    refine ⟨g, s, r, ?_⟩
    unfold sForI at q
    unfold GoI
    cases hm : mi s with
    | stuck => rw [hm] at q; exact q.elim
    | err x s1 => rw [hm] at q; exact fun g' H' cls d mo r1 xr => q g' H' σ cls d mo r1 xr
    | ok items s1 =>
      rw [hm] at q
      intro g0 H0 J mo0 r0 wk
      obtain ⟨G, Y, w, hG, hY⟩ := wk
      have q0 : GoS C (sFor mg b items s1) g0 H0 D := GoS.later mo0 q
      refine for_it w (fun i σ H => ∃ g s, Mono g0 H0 g H ∧ C.rel g s σ H ∧ GoS C (sFor mg b (items.drop i) s) g H D) ⟨g0, s1, Mono.refl _ _, r0, q0⟩ (fun i σ H _ ⟨g, s, mo, _, _⟩ => hG g H mo) ?_ ?_
      · rintro i x σ1 H1 H2 hi ⟨g1, s1, mo1, r1, q1⟩ y
        obtain ⟨m, hm, mo2, r2, rv, _⟩ := hY i g1 H1 s1 σ1 x H2 hi mo1 r1 y
        rw [drop_of hm] at q1
        have q1 := GoS.later mo2 q1
        refine ⟨g1, s1, m, r2, rv, ?_⟩
        unfold sFor at q1
        cases ht : mg m s1 with
        | stuck => rw [ht] at q1; exact q1.elim
        | err x s3 => rw [ht] at q1; exact fun g' H' cls d mo r1 xr => q1 g' H' σ1 cls d mo r1 xr
        | ok u s3 =>
          rw [ht] at q1
          intro g3 H3 σ3 mo3 r3
          have q3 := GoS.later mo3 q1
          have tn := turn_of (C := C) (b := b) (k := sFor mg b (items.drop (i + 1))) r3 q3
          obtain ⟨g4, s4, r4, q4⟩ := tn
          refine ⟨g4, s4, r4, ?_⟩
          have lift : ∀ σ' H', (∃ g' s', Mono g3 H3 g' H' ∧ C.rel g' s' σ' H' ∧ GoS C (sFor mg b (items.drop (i + 1)) s') g' H' D) → ∃ g s, Mono g0 H0 g H' ∧ C.rel g s σ' H' ∧ GoS C (sFor mg b (items.drop (i + 1)) s) g H' D :=
            fun σ' H' ⟨g', s', mo', r', q'⟩ => ⟨g', s', ((mo1.trans mo2).trans mo3).trans mo', r', q'⟩
          cases hb4 : b s4 with
          | stuck => rw [hb4] at q4; exact q4.elim
          | err x s5 => rw [hb4] at q4; exact q4
          | ok f s5 =>
            rw [hb4] at q4
            cases f with
            | nx => exact fun g' H' σ' mo r' => lift σ' H' (q4 g' H' σ' mo r')
            | ct => exact fun g' H' σ' mo r' => lift σ' H' (q4 g' H' σ' mo r')
            | bk => exact q4
            | rt v => exact q4
      · rintro σ1 H1 ⟨g1, s1, mo1, r1, q1⟩
        rw [List.drop_length] at q1
        exact q1.nx r1
end
end Ma
/-! Ma7: walks over lists, tuples, the script, ranges, enumerate, the keys of a dict; targets in parentheses. -/
namespace Ma
open L2 PySem
section
variable {C : MC} {g g1 : Gh} {H H1 : Hp} {tg ex : Expr} {a : ME} {pos p : Pos}

def itemsOf : M → Option (List M)
  | .lst ms => some ms
  | .tup ms => some ms
  | .scr ns => some (ns.map M.int)
  | .dct ks _ => some (ks.map fun | .inl i => M.int i | .inr x => M.str x)
  | _ => none
def iSeq (a : ME) : MI := fun s => (a s).bind fun m s1 => match itemsOf m with
  | some ms => .ok ms s1
  | none => .stuck
theorem wk_of {items : List M} {vs : List V} {J : It} {G : Hp → Prop} (w : Walk J items.length G (YAt vs)) (hG : ∀ g1 H1, Mono g H g1 H1 → G H1) (r : RVs C.T g H items vs) : Wk C g H items J := by
  refine ⟨G, YAt vs, w, hG, fun i g1 H1 s σ x H2 hlt mo rel y => ?_⟩
  obtain ⟨rfl, hx⟩ := y
  have hl : i < items.length := by rw [r.length]; exact (List.getElem?_eq_some_iff.mp hx).1
  obtain ⟨v, hv, rv⟩ := r.get (List.getElem?_eq_getElem hl)
  rw [hx] at hv
  cases hv
  exact ⟨_, List.getElem?_eq_getElem hl, Mono.refl _ _, rel, rv.mono mo, Same.refl _⟩
theorem rv_keys {T : Tab} : ∀ ks : List Key, RVs T g H (ks.map fun | .inl i => M.int i | .inr x => M.str x) (ks.map kV)
  | [] => .nil
  | .inl i :: ks => .cons (.int i) (rv_keys ks)
  | .inr x :: ks => .cons (.str x) (rv_keys ks)
theorem zip_get {ks : List Key} {vs : List V} (hl : ks.length = vs.length) {i : Nat} {k : Key} {v : V} (h : (ks.zip vs)[i]? = some (k, v)) : ks[i]? = some k := by
  rw [List.getElem?_zip_eq_some] at h
  exact h.1
theorem im_seq (ha : PMe C ex a) : PMi C tg ex (iSeq a) := by
  refine ⟨fun pins s σ H R I h => ?_⟩
  refine thn (ha.run pins s σ H _ I (rdE_bindI h)) fun u s1 ⟨x, H1, I1, rx, m, ms1, g1, r1, rv, q⟩ => ?_
  obtain ⟨items, hm, k⟩ : ∃ items, itemsOf m = some items ∧ ∀ (J : It), Wk C g1 H1 items J → R J H1 := by
    cases hm : itemsOf m with
    | none => rw [hm] at q; exact q.elim
    | some items => rw [hm] at q; exact ⟨items, rfl, fun J wk => q g1 H1 J (Mono.refl _ _) r1 wk⟩
  have fp1 : ∀ b ∈ [s1.heap.objs.size], FpOk C.X pins H1 b := fun b hb => by
    have e : b = s1.heap.objs.size := by simpa using hb
    subst e
    exact I1.fpOk (Nat.le_refl _) (I1.hok.fresh (Nat.le_refl _))
  cases rv with
  | @lst a _ vs f e rs =>
    cases hm
    cases rx
    have hq : SqL C.X.K H1 a vs := .inl (.inl e)
    obtain ⟨its, rv, pl, hz⟩ := I1.list hq
    refine wpAny_pyIter_list pl.isList ?_
    exact ⟨s1.heap.objs.size, [s1.heap.objs.size], _, _, H1, rfl, I1.kept (t' := s1.toks) fun b o e => Heap.get?_push_of_some _ e, turn_list a _, ⟨_, Heap.get?_push_size _ rfl, rfl, rfl⟩, fp1,
      k _ (wk_of (rs.length ▸ walk_list (K := C.X.K) (a := a) (xs := vs)) (fun g2 H2 mo2 => .inl (.inl ((mo2.fh _ f).trans e))) rs)⟩
  | @tup a _ vs e rs =>
    cases hm
    cases rx
    have hq : SqT C.X.K H1 a vs := .inl (.inl e)
    obtain ⟨its, rv, pl, hz⟩ := I1.tuple hq
    refine wpAny_pyIter_tuple (show s1.heap.IsTuple a its.toArray from pl) ?_
    exact ⟨s1.heap.objs.size, [s1.heap.objs.size], _, _, H1, rfl, I1.kept (t' := s1.toks) fun b o e => Heap.get?_push_of_some _ e, turn_tuple a _, ⟨_, Heap.get?_push_size _ rfl, rfl, rfl⟩, fp1,
      k _ (wk_of (rs.length ▸ walk_tup (K := C.X.K) (a := a) (xs := vs)) (fun g2 H2 mo2 => .inl (.inl (mo2.tup _ _ e))) rs)⟩
  | @scr a o ns f e =>
    cases hm
    cases rx
    have hq : SqL C.X.K H1 a (ns.map V.int) := .inl (.inr ⟨_, e⟩)
    obtain ⟨its, rv, pl, hz⟩ := I1.list hq
    refine wpAny_pyIter_list pl.isList ?_
    exact ⟨s1.heap.objs.size, [s1.heap.objs.size], _, _, H1, rfl, I1.kept (t' := s1.toks) fun b o e => Heap.get?_push_of_some _ e, turn_list a _, ⟨_, Heap.get?_push_size _ rfl, rfl, rfl⟩, fp1,
      k _ (wk_of ((RVs.ints (T := C.T) (g := g1) (H := H1) ns).length ▸ walk_list (K := C.X.K) (a := a) (xs := ns.map V.int)) (fun g2 H2 mo2 => .inl (.inr ⟨_, (mo2.fh _ f).trans e⟩)) (RVs.ints ns))⟩
  | @scrK a ns e =>
    cases hm
    cases rx
    have hq : ∀ H, SqL C.X.K H a (ns.map V.int) := fun H => by rw [C.hK]; exact e H
    obtain ⟨its, rv, pl, hz⟩ := I1.list (hq H1)
    refine wpAny_pyIter_list pl.isList ?_
    exact ⟨s1.heap.objs.size, [s1.heap.objs.size], _, _, H1, rfl, I1.kept (t' := s1.toks) fun b o e => Heap.get?_push_of_some _ e, turn_list a _, ⟨_, Heap.get?_push_size _ rfl, rfl, rfl⟩, fp1,
      k _ (wk_of ((RVs.ints (T := C.T) (g := g1) (H := H1) ns).length ▸ walk_list (K := C.X.K) (a := a) (xs := ns.map V.int)) (fun g2 H2 mo2 => hq H2) (RVs.ints ns))⟩
  | @dct a o ks ms vs f l e rs =>
    cases hm
    obtain rfl : u = Value.ref a := rx
    obtain ⟨hs, hgd, hx, es, ep, vs', hdt, hsz, kv, hm⟩ := I1.frzK e
    have hl : (ks.map fun | .inl i => M.int i | .inr x => M.str x : List M).length = (ks.zip vs).length := by simp [l]
    refine iter_keys hs hgd hx hdt (pi_one (tk := s1.toks) I1 _ (turn_keys (d := a) (kvs := ks.zip vs) _ hdt) ⟨_, Heap.get?_push_size _ rfl, rfl, ?_⟩ (k _ ?_))
    · rw [hsz] <;> rfl
    · refine wk_of (vs := ks.map kV) (G := fun H => H a = some (.frz o (.dK (ks.zip vs)))) ?_ (fun g2 H2 mo2 => (mo2.fh _ f).trans e) (rv_keys ks)
      rw [hl]
      refine walk_keys.mono (fun _ h => h) fun i H x H' hi hg ⟨e1, k, v, e2, e3⟩ => ⟨e1, ?_⟩
      rw [List.getElem?_map, zip_get l e2, e3]
      rfl
  | _ => cases hm

/-- range(n) -/
def upTo (lo : Int) (n : Nat) : List M := (List.range n).map fun i => M.int (lo + (i : Nat))
def iRange1 (a : MA) : MI := fun s => (a s).bind fun ms s1 => match ms with
  | [.int j] => if -(2 ^ 62) ≤ j ∧ j < 2 ^ 62 then .ok (upTo 0 j.toNat) s1 else .stuck
  | _ => .stuck
def iRange2 (a : MA) : MI := fun s => (a s).bind fun ms s1 => match ms with
  | [.int i, .int j] => if -(2 ^ 62) ≤ i ∧ i < 2 ^ 62 ∧ -(2 ^ 62) ≤ j ∧ j < 2 ^ 62 then .ok (upTo i (j - i).toNat) s1 else .stuck
  | _ => .stuck
theorem upTo_get {lo : Int} {n i : Nat} (h : i < n) : (upTo lo n)[i]? = some (M.int (lo + (i : Nat))) := by
  unfold upTo
  rw [List.getElem?_map, List.getElem?_range h]
  rfl
theorem wk_range {lo : Int} {n : Nat} : Wk C g H (upTo lo n) (Itr lo n) := by
  have hl : (upTo lo n).length = n := by simp [upTo]
  refine ⟨fun _ => True, YFn fun i => .int (lo + i), by rw [hl]; exact walk_range, fun _ _ _ => trivial, fun i g1 H1 s σ x H2 hlt mo rel y => ?_⟩
  obtain ⟨rfl, rfl⟩ := y
  exact ⟨_, upTo_get (hl ▸ hlt), Mono.refl _ _, rel, .int _, Same.refl _⟩
theorem wkI {X : Cx} {tg e : Expr} {t t' : TI} (h : PI X tg e t) (k : ∀ σ H Q, t' σ H Q → t σ H Q) : PI X tg e t' := ⟨fun pins s σ H Q I q => h.run pins s σ H Q I (k _ _ _ q)⟩
theorem im_range1 {ma : MA} (ha : PMa C [ex] ma) (hm : C.X.mg "range" = none) (hg : Gl C.X "range" := by rfl) (hs : starEach [ex] C.X.env = [(false, eval ex C.X.env)] := by rfl) : PMi C tg (.Call (.Name "range" p) [ex] [] pos) (iRange1 ma) :=
  wkI (pi_range1 hg hm ha hs) fun σ H R h => by
    obtain ⟨g, s, r, q⟩ := rdA_bindI h
    refine ⟨g, s, r, q.imp ?_⟩
    rintro xs H1 ⟨vs, s1, g1, r1, rv, q2⟩
    cases rv with
    | nil => exact q2.elim
    | cons rv1 rv => cases rv with
      | cons _ _ => cases rv1 <;> exact q2.elim
      | nil => cases rv1 with
        | int j =>
          have q2 : GoI C σ (if -(2 ^ 62) ≤ j ∧ j < 2 ^ 62 then .ok (upTo 0 j.toNat) s1 else .stuck) g1 H1 R := q2
          by_cases hj : -(2 ^ 62) ≤ j ∧ j < 2 ^ 62
          · rw [if_pos hj] at q2
            exact ⟨j, rfl, hj.1, hj.2, q2 g1 H1 _ (Mono.refl _ _) r1 wk_range⟩
          · rw [if_neg hj] at q2
            exact q2.elim
        | _ => exact q2.elim
end
end Ma
/-! Ma8: operators: numbers, texts, lists, tuples; == over data. -/
namespace Ma
open L2 PySem

abbrev big : Nat := 16777216
theorem big_le {n : Nat} (h : n ≤ big) : n ≤ sizeLine := by rw [sizeLine_eq]; exact h
def lstOf (hp : List Cell) : M → Option (List M)
  | .lst ms => some ms
  | .box n => match hp[n]? with
    | some (.lst ms) => some ms
    | _ => none
  | _ => none
/-- a list that can be read as one -/
def seqL (hp : List Cell) : M → Option (List M)
  | .scr ns => some (ns.map M.int)
  | m => lstOf hp m
section
variable {C : MC} {g g1 : Gh} {H H1 : Hp} {s : MS} {σ : L2.St}
theorem Rel.cellAt (r : C.rel g s σ H) {n : Nat} {c : Cell} {x : V} (h : s.hp[n]? = some c) (rv : RV C.T g H (.box n) x) : ∃ a, x = .ref a ∧ g.ro[n]? = some a ∧ CellR C.T g H c a := by
  cases rv with
  | box e => exact ⟨_, rfl, e, r.h.cell n c _ h e⟩
theorem lstOf_at (r : C.rel g s σ H) {m : M} {ms : List M} {x : V} (h : lstOf s.hp m = some ms) (rv : RV C.T g H m x) : ∃ a vs, x = .ref a ∧ H a = some (.lst vs) ∧ RVs C.T g H ms vs := by
  cases rv with
  | lst f e rs => cases h; exact ⟨_, _, rfl, e, rs⟩
  | @box n a e =>
    unfold lstOf at h
    dsimp only at h
    cases hc : s.hp[n]? with
    | none => rw [hc] at h; cases h
    | some c =>
      rw [hc] at h
      cases c with
      | lst ms' =>
        cases h
        obtain ⟨vs, h1, h2⟩ := r.h.cell n _ a hc e
        exact ⟨a, vs, rfl, h1, h2⟩
      | _ => cases h
  | _ => cases h
theorem seqL_at (r : C.rel g s σ H) {m : M} {ms : List M} {x : V} (h : seqL s.hp m = some ms) (rv : RV C.T g H m x) : ∃ a vs, x = .ref a ∧ SqL C.X.K H a vs ∧ RVs C.T g H ms vs := by
  by_cases hs : ∃ ns, m = .scr ns
  · obtain ⟨ns, rfl⟩ := hs
    cases h
    cases rv with
    | scr f e => exact ⟨_, _, rfl, .inl (.inr ⟨_, e⟩), RVs.ints ns⟩
    | scrK e => exact ⟨_, _, rfl, by rw [C.hK]; exact e H, RVs.ints ns⟩
  · have h' : lstOf s.hp m = some ms := by
      cases m <;> first | exact h | exact absurd ⟨_, rfl⟩ hs
    obtain ⟨a, vs, e, h1, h2⟩ := lstOf_at r h' rv
    exact ⟨a, vs, e, .inl (.inl h1), h2⟩
/-- a new list, frozen -/
def Gh.add (g : Gh) (p : Addr) : Gh := ⟨g.ro, fun a => g.fz a ∨ a = p⟩
def Gh.box (g : Gh) (p : Addr) : Gh := ⟨g.ro ++ [p], g.fz⟩
theorem Rel.frz (r : C.rel g s σ H) {p : Addr} {o : HO} (hn : H p = none) : C.rel (g.add p) s σ (upd H p o) ∧ Mono g H (g.add p) (upd H p o) := by
  have hm := mono_laid (o := o) r.h hn
  have r1 := r.laid (o := o) hn
  have mo : Mono g (upd H p o) (g.add p) (upd H p o) := ⟨List.prefix_refl _, fun _ h => .inl h, fun _ _ => rfl, fun _ _ h => h⟩
  refine ⟨r1.env mo ⟨r1.h.len, r1.h.nd, fun n c a h1 h2 => (r1.h.cell n c a h1 h2).mono mo rfl, fun n c a h1 h2 lv f => ?_, fun a f => ?_, r1.h.rot, r1.h.frm, fun a f => ?_, r1.h.nro, r1.h.m0.trans mo⟩, hm.trans mo⟩
  · rcases f with f | rfl
    · exact r1.h.thaw n c a h1 h2 lv f
    · obtain ⟨u, q⟩ := r.h.rot a (List.mem_of_getElem? h2)
      rw [hn] at q; cases q
  · rcases f with f | rfl
    · exact r1.h.fzt a f
    · exact ⟨_, upd_same⟩
  · rcases f with f | rfl
    · exact r1.h.nfz a f
    · right
      cases q : C.e.H a with
      | none => exact .inl rfl
      | some u =>
        by_cases hr : a ∈ C.e.g.ro
        · exact .inr hr
        · have := r.h.frm a u q hr
          rw [hn] at this; cases this
theorem Go.newL {ms : List M} {vs : List V} {Q : VK} {p : Addr} (h : Go C C.V1 σ (.ok (.lst ms) s) g H Q) (r : C.rel g s σ H) (rs : RVs C.T g H ms vs) (hn : H p = none) : Q (.ref p) (upd H p (.lst vs)) := by
  obtain ⟨r2, mo⟩ := r.frz (o := .lst vs) hn
  exact h (g.add p) _ _ mo r2 (.lst (.inr rfl) upd_same (rs.mono mo))
theorem Go.newT {ms : List M} {vs : List V} {Q : VK} {p : Addr} (h : Go C C.V1 σ (.ok (.tup ms) s) g H Q) (r : C.rel g s σ H) (rs : RVs C.T g H ms vs) (hn : H p = none) : Q (.ref p) (upd H p (.tup vs)) := by
  have mo := mono_laid (o := .tup vs) r.h hn
  exact h g _ _ mo (r.laid hn) (.tup upd_same (rs.mono mo))
theorem Go.same {m : M} {Q : VK} {x : V} (h : Go C C.V1 σ (.ok m s) g H Q) (r : C.rel g s σ H) (rv : RV C.T g H m x) : Q x H := h.ret r rv

def oAdd (x y : M) (s : MS) : Res M := match x, y with
  | .int i, .int j => .ok (.int (i + j)) s
  | .str a, .str b => if a.length + b.length ≤ big then .ok (.str (a ++ b)) s else .stuck
  | .tup a, .tup b => if a.length + b.length ≤ big then .ok (.tup (a ++ b)) s else .stuck
  | x, y => match lstOf s.hp x, lstOf s.hp y with
    | some a, some b => if a.length + b.length ≤ big then .ok (.lst (a ++ b)) s else .stuck
    | _, _ => .stuck
theorem OpR.alt {X : Cx} {f : Value → Value → Sem Value} {r r' : R2} (h : OpR X f r) (h' : OpR X f r') : OpR X f (fun x y H Q => r x y H Q ∨ r' x y H Q) := by
  intro pins s σ H x y v u Q I rx ry q
  rcases q with q | q
  · exact h pins s σ H x y v u Q I rx ry q
  · exact h' pins s σ H x y v u Q I rx ry q
theorem oAdd_lst {x y : M} {Q : VK} {vx vy : V} (h : Go C C.V1 σ (match lstOf s.hp x, lstOf s.hp y with
    | some a, some b => if a.length + b.length ≤ big then .ok (.lst (a ++ b)) s else .stuck
    | _, _ => .stuck) g H Q) (r : C.rel g s σ H) (r1 : RV C.T g H x vx) (r2 : RV C.T g H y vy) : rCat vx vy H Q := by
  cases hx : lstOf s.hp x with
  | none => rw [hx] at h; exact h.elim
  | some a =>
    cases hy : lstOf s.hp y with
    | none => rw [hx, hy] at h; exact h.elim
    | some b =>
      rw [hx, hy] at h
      dsimp only at h
      by_cases hb : a.length + b.length ≤ big
      · rw [if_pos hb] at h
        obtain ⟨l, vs, rfl, e1, q1⟩ := lstOf_at r hx r1
        obtain ⟨l2, ws, rfl, e2, q2⟩ := lstOf_at r hy r2
        exact ⟨l, l2, vs, ws, rfl, rfl, e1, e2, by rw [← q1.length, ← q2.length]; exact big_le hb, fun p hp => h.newL r (q1.app q2) hp⟩
      · rw [if_neg hb] at h; exact h.elim
theorem ok_add : Op2Ok C (binaryOp .Add) oAdd := by
  refine Op2Ok.of (OpR.alt op_add (OpR.alt op_add_str (OpR.alt op_catA op_cat))) fun σ H g s m1 m2 x y Q r r1 r2 h => ?_
  unfold oAdd at h
  split at h
  · cases r1; cases r2
    exact .inl ⟨_, _, rfl, rfl, h.same r (.int _)⟩
  · rename_i a b
    cases r1; cases r2
    by_cases hb : a.length + b.length ≤ big
    · rw [if_pos hb] at h
      exact .inr (.inl ⟨_, _, rfl, rfl, big_le hb, h.same r (.str _)⟩)
    · rw [if_neg hb] at h; exact h.elim
  · rename_i a b
    by_cases hb : a.length + b.length ≤ big
    · rw [if_pos hb] at h
      cases r1 with
      | @tup pa _ vs e1 q1 => cases r2 with
        | @tup pb _ ws e2 q2 =>
          refine .inr (.inr (.inl ⟨pa, pb, vs, ws, rfl, rfl, .inl (.inl e1), .inl (.inl e2), by rw [← q1.length, ← q2.length]; exact big_le hb, fun z => ?_, fun _ z => ?_, fun _ _ p hp => h.newT r (q1.app q2) hp⟩))
          · subst z; cases q1
            exact h.same r (.tup e2 q2)
          · subst z; cases q2
            rw [List.append_nil] at h
            exact h.same r (.tup e1 q1)
    · rw [if_neg hb] at h; exact h.elim
  · exact .inr (.inr (.inr (oAdd_lst h r r1 r2)))
/-- int, int -/
def oInt (ok : Int → Int → Bool) (f : Int → Int → M) (x y : M) (s : MS) : Res M := match x, y with
  | .int i, .int j => if ok i j = true then .ok (f i j) s else .stuck
  | _, _ => .stuck
theorem oInt_at {ok : Int → Int → Bool} {f : Int → Int → M} {m1 m2 : M} {x y : V} {Q : VK} (h : Go C C.V1 σ (oInt ok f m1 m2 s) g H Q) (r1 : RV C.T g H m1 x) (r2 : RV C.T g H m2 y) :
    ∃ i j, x = .int i ∧ y = .int j ∧ ok i j = true ∧ Go C C.V1 σ (.ok (f i j) s) g H Q := by
  unfold oInt at h
  split at h
  · rename_i i j
    cases r1; cases r2
    by_cases hk : ok i j = true
    · rw [if_pos hk] at h; exact ⟨i, j, rfl, rfl, hk, h⟩
    · rw [if_neg hk] at h; exact h.elim
  · exact h.elim
abbrev yes : Int → Int → Bool := fun _ _ => true
def oSub := oInt yes fun i j => .int (i - j)
theorem ok_sub : Op2Ok C (binaryOp .Sub) oSub := Op2Ok.of op_sub fun σ H g s m1 m2 x y Q r r1 r2 h => by
  obtain ⟨i, j, rfl, rfl, _, q⟩ := oInt_at h r1 r2
  exact ⟨i, j, rfl, rfl, q.same r (.int _)⟩
def mulOk (i j : Int) : Bool := decide ((-(2 ^ 64) < i ∧ i < 2 ^ 64) ∨ (-(2 ^ 64) < j ∧ j < 2 ^ 64))
def repL (k : Int) (ms : List M) : List M := (List.replicate k.toNat ms).flatten
def oMul (x y : M) (s : MS) : Res M := oInt mulOk (fun i j => .int (i * j)) x y s
theorem ok_mul : Op2Ok C (binaryOp .Mult) oMul := Op2Ok.of op_mul fun σ H g s m1 m2 x y Q r r1 r2 h => by
  obtain ⟨i, j, rfl, rfl, k, q⟩ := oInt_at h r1 r2
  exact ⟨i, j, rfl, rfl, (by simpa [mulOk, CMul, CDiv, CPow] using k), q.same r (.int _)⟩
def oDiv := oInt (fun _ j => decide (0 < j ∧ j < 1073741824)) fun i j => .int (i / j)
theorem ok_div : Op2Ok C (binaryOp .FloorDiv) oDiv := Op2Ok.of op_fdiv fun σ H g s m1 m2 x y Q r r1 r2 h => by
  obtain ⟨i, j, rfl, rfl, k, q⟩ := oInt_at h r1 r2
  exact ⟨i, j, rfl, rfl, (by simpa [mulOk, CMul, CDiv, CPow] using k), q.same r (.int _)⟩
def oMod := oInt (fun _ j => decide (0 < j)) fun i j => .int (i % j)
theorem ok_mod : Op2Ok C (binaryOp .Mod) oMod := Op2Ok.of op_mod fun σ H g s m1 m2 x y Q r r1 r2 h => by
  obtain ⟨i, j, rfl, rfl, k, q⟩ := oInt_at h r1 r2
  exact ⟨i, j, rfl, rfl, (by simpa [mulOk, CMul, CDiv, CPow] using k), q.same r (.int _)⟩
def oPow := oInt (fun i j => decide (0 ≤ j ∧ j ≤ 1000000 ∧ i.natAbs < 2 ^ 64)) fun i j => .int (i ^ j.toNat)
theorem ok_pow : Op2Ok C (binaryOp .Pow) oPow := Op2Ok.of op_pow fun σ H g s m1 m2 x y Q r r1 r2 h => by
  obtain ⟨i, j, rfl, rfl, k, q⟩ := oInt_at h r1 r2
  exact ⟨i, j, rfl, rfl, (by simpa [mulOk, CMul, CDiv, CPow] using k), q.same r (.int _)⟩
def oLt := oInt yes fun i j => .bl (decide (i < j))
theorem ok_lt : Op2Ok C (compareOp .Lt) oLt := Op2Ok.of op_lt fun σ H g s m1 m2 x y Q r r1 r2 h => by
  obtain ⟨i, j, rfl, rfl, k, q⟩ := oInt_at h r1 r2
  exact ⟨i, j, rfl, rfl, q.same r (.bl _)⟩
def oLe := oInt yes fun i j => .bl (decide (i ≤ j))
theorem ok_le : Op2Ok C (compareOp .LtE) oLe := Op2Ok.of op_le fun σ H g s m1 m2 x y Q r r1 r2 h => by
  obtain ⟨i, j, rfl, rfl, k, q⟩ := oInt_at h r1 r2
  exact ⟨i, j, rfl, rfl, q.same r (.bl _)⟩
def oGt := oInt yes fun i j => .bl (decide (j < i))
theorem ok_gt : Op2Ok C (compareOp .Gt) oGt := Op2Ok.of op_gt fun σ H g s m1 m2 x y Q r r1 r2 h => by
  obtain ⟨i, j, rfl, rfl, k, q⟩ := oInt_at h r1 r2
  exact ⟨i, j, rfl, rfl, q.same r (.bl _)⟩
def oGe := oInt yes fun i j => .bl (decide (j ≤ i))
theorem ok_ge : Op2Ok C (compareOp .GtE) oGe := Op2Ok.of op_ge fun σ H g s m1 m2 x y Q r r1 r2 h => by
  obtain ⟨i, j, rfl, rfl, k, q⟩ := oInt_at h r1 r2
  exact ⟨i, j, rfl, rfl, q.same r (.bl _)⟩

/-! ### data -/
mutual
def dat : M → Option PyData
  | .non => some .none
  | .bl b => some (.bool b)
  | .int i => some (.int i)
  | .str x => some (.str x)
  | .tup ms => (datL ms).map .tuple
  | .lst ms => (datL ms).map .list
  | .scr ns => some (.list (ns.map .int))
  | _ => none
def datL : List M → Option (List PyData)
  | [] => some []
  | m :: ms => match dat m, datL ms with
    | some d, some ds => some (d :: ds)
    | _, _ => none
end
theorem dp_ints {K : PySem.W.Frag} : ∀ ns : List Int, DpAll K H (ns.map V.int) (ns.map PyData.int)
  | [] => .nil
  | n :: ns => .cons (.int n) (dp_ints ns)
mutual
theorem dat_dp {T : Tab} : ∀ {m : M} {x : V} {d : PyData}, RV T g H m x → dat m = some d → Dp T.K H x d
  | _, _, _, .non, h => by cases h; exact .non
  | _, _, _, .bl b, h => by cases h; exact .bl b
  | _, _, _, .int i, h => by cases h; exact .int i
  | _, _, _, .str z, h => by cases h; exact .str z
  | _, _, _, .byt b, h => by cases h
  | _, _, _, @RV.tup _ _ _ a ms vs e rs, h => by
    unfold dat at h
    cases hd : datL ms with
    | none => rw [hd] at h; cases h
    | some ds => rw [hd] at h; cases h; exact .tup (.inl (.inl e)) (datL_dp rs hd)
  | _, _, _, @RV.lst _ _ _ a ms vs f e rs, h => by
    unfold dat at h
    cases hd : datL ms with
    | none => rw [hd] at h; cases h
    | some ds => rw [hd] at h; cases h; exact .lst (.inl (.inl e)) (datL_dp rs hd)
  | _, _, _, .dct _ _ _ _, h => by cases h
  | _, _, _, @RV.scr _ _ _ a o ns f e, h => by cases h; exact .lst (.inl (.inr ⟨_, e⟩)) (dp_ints ns)
  | _, _, _, @RV.scrK _ _ _ a ns e, h => by cases h; exact .lst (e H) (dp_ints ns)
  | _, _, _, .box _, h => by cases h
  | _, _, _, .exn _ _ _, h => by cases h
  | _, _, _, .cls _, h => by cases h
  | _, _, _, .ty _, h => by cases h
theorem datL_dp {T : Tab} : ∀ {ms : List M} {xs : List V} {ds : List PyData}, RVs T g H ms xs → datL ms = some ds → DpAll T.K H xs ds
  | _, _, _, .nil, h => by cases h; exact .nil
  | _, _, _, @RVs.cons _ _ _ m v ms vs r rs, h => by
    unfold datL at h
    cases hd : dat m with
    | none => rw [hd] at h; cases h
    | some d =>
      cases hds : datL ms with
      | none => rw [hd, hds] at h; cases h
      | some ds => rw [hd, hds] at h; cases h; exact .cons (dat_dp r hd) (datL_dp rs hds)
end
/-- data, a list in a box too -/
def datT (hp : List Cell) (m : M) : Option PyData := match m with
  | .box _ => match lstOf hp m with
    | some ms => (datL ms).map .list
    | none => none
  | m => dat m
theorem datT_dp (r : C.rel g s σ H) {m : M} {x : V} {d : PyData} (rv : RV C.T g H m x) (h : datT s.hp m = some d) : Dp C.X.K H x d := by
  rw [C.hK]
  cases m with
  | box n =>
    unfold datT at h
    dsimp only at h
    cases hl : lstOf s.hp (.box n) with
    | none => rw [hl] at h; cases h
    | some ms =>
      rw [hl] at h
      dsimp only at h
      obtain ⟨a, vs, rfl, e, rs⟩ := lstOf_at r hl rv
      cases hd : datL ms with
      | none => rw [hd] at h; cases h
      | some ds => rw [hd] at h; cases h; exact .lst (.inl (.inl e)) (datL_dp rs hd)
  | _ => exact dat_dp rv h
def oEqD (neg : Bool) (x y : M) (s : MS) : Res M := match datT s.hp x, datT s.hp y with
  | some d, some e => if (SeqAt.shaped d && SeqAt.shaped e) = true then .ok (.bl (if neg then !PyData.eqv d e else PyData.eqv d e)) s else .stuck
  | _, _ => .stuck
theorem oEqD_at {neg : Bool} {m1 m2 : M} {x y : V} {Q : VK} (h : Go C C.V1 σ (oEqD neg m1 m2 s) g H Q) (r : C.rel g s σ H) (r1 : RV C.T g H m1 x) (r2 : RV C.T g H m2 y) :
    ∃ d e, Dp C.X.K H x d ∧ Dp C.X.K H y e ∧ SeqAt.shaped d = true ∧ SeqAt.shaped e = true ∧ Q (.bl (if neg then !PyData.eqv d e else PyData.eqv d e)) H := by
  unfold oEqD at h
  split at h
  · rename_i d e h1 h2
    by_cases hs : (SeqAt.shaped d && SeqAt.shaped e) = true
    · rw [if_pos hs] at h
      obtain ⟨s1, s2⟩ := Bool.and_eq_true_iff.mp hs
      exact ⟨d, e, datT_dp r r1 h1, datT_dp r r2 h2, s1, s2, h.same r (.bl _)⟩
    · rw [if_neg hs] at h; exact h.elim
  · exact h.elim
theorem ok_eqD (hu : C.X.A.units + 64 < cLine) : Op2Ok C (compareOp .Eq) (oEqD false) := Op2Ok.of (op_eqD hu) fun σ H g s m1 m2 x y Q r r1 r2 h => oEqD_at h r r1 r2
theorem ok_neD (hu : C.X.A.units + 64 < cLine) : Op2Ok C (compareOp .NotEq) (oEqD true) := Op2Ok.of (op_neD hu) fun σ H g s m1 m2 x y Q r r1 r2 h => oEqD_at h r r1 r2
end
end Ma
/-! Ma9: displays, subscripts, slices, built-in functions, methods of lists, stores. -/
namespace Ma
open L2 PySem
section
variable {C : MC} {g g1 : Gh} {H H1 : Hp} {s : MS} {σ : L2.St} {ex : Expr} {es : List Expr} {a b : ME} {ma : MA} {pos p p2 : Pos} {x : Str}

theorem rdA_bind {γ δ : Type} {S : Gh → Hp → γ → δ → Prop} {σ : L2.St} {H : Hp} {f : List M → MS → Res γ} {Q : δ → Hp → Prop} (h : ∃ g s, C.rel g s σ H ∧ Go C S σ ((ma s).bind f) g H Q) :
    rdA C ma σ H fun xs H1 => ∃ m s1 g1, C.rel g1 s1 σ H1 ∧ RVs C.T g1 H1 m xs ∧ Go C S σ (f m s1) g1 H1 Q := by
  obtain ⟨g, s, r, q⟩ := h
  refine ⟨g, s, r, (Go.bind (R := C.Vn) q).imp ?_⟩
  rintro x H1 ⟨m, s1, g1, mo, r1, rv, q1⟩
  exact ⟨m, s1, g1, r1, rv, q1⟩

/-! ### displays -/
def mLst (a : MA) : ME := fun s => (a s).bind fun ms s1 => if ms.length ≤ big then .ok (.lst ms) s1 else .stuck
def mTup (a : MA) : ME := fun s => (a s).bind fun ms s1 => if ms.length ≤ big then .ok (.tup ms) s1 else .stuck
theorem em_lst (h : PMa C es ma) : PMe C (.List es pos) (mLst ma) := wkE (pe_lst h) fun σ H Q q => by
  obtain ⟨g, s, r, q⟩ := rdA_bind q
  refine ⟨g, s, r, q.imp ?_⟩
  rintro xs H1 ⟨ms, s1, g1, r1, rs, q1⟩
  by_cases hb : ms.length ≤ big
  · rw [if_pos hb] at q1
    exact ⟨by rw [← rs.length]; exact big_le hb, fun p hp => q1.newL r1 rs hp⟩
  · rw [if_neg hb] at q1; exact q1.elim
theorem em_tup {x1} (h : PMa C es ma) : PMe C (.Tuple es x1 pos) (mTup ma) := wkE (pe_tup h) fun σ H Q q => by
  obtain ⟨g, s, r, q⟩ := rdA_bind q
  refine ⟨g, s, r, q.imp ?_⟩
  rintro xs H1 ⟨ms, s1, g1, r1, rs, q1⟩
  by_cases hb : ms.length ≤ big
  · rw [if_pos hb] at q1
    exact ⟨by rw [← rs.length]; exact big_le hb, fun p hp => q1.newT r1 rs hp⟩
  · rw [if_neg hb] at q1; exact q1.elim
/-- a new box -/
theorem Rel.box (r : C.rel g s σ H) {p : Addr} {o : HO} {c : Cell} (hn : H p = none) (hc : ∀ g', Mono g H g' (upd H p o) → CellR C.T g' (upd H p o) c p) : C.rel (g.box p) ⟨s.env, s.hp ++ [c]⟩ σ (upd H p o) ∧ Mono g H (g.box p) (upd H p o) := by
  have hm := mono_laid (o := o) r.h hn
  have r1 := r.laid (o := o) hn
  have mo : Mono g (upd H p o) (g.box p) (upd H p o) := ⟨List.prefix_append _ _, fun _ h => h, fun _ _ => rfl, fun _ _ h => h⟩
  have pn : p ∉ g.ro := fun hp => by obtain ⟨u, q⟩ := r.h.rot p hp; rw [hn] at q; cases q
  refine ⟨r1.env mo ⟨by simp [Gh.box, r.h.len], ?_, fun n c' a h1 h2 => ?_, fun n c' a h1 h2 lv f => ?_, r1.h.fzt, fun a h => ?_, r1.h.frm, r1.h.nfz, fun a h => ?_, r1.h.m0.trans mo⟩, hm.trans mo⟩
  · show (g.ro ++ [p]).Nodup
    rw [List.nodup_append]
    refine ⟨r.h.nd, by simp, fun x hx y hy => ?_⟩
    simp at hy
    subst hy
    rintro rfl
    exact pn hx
  · have h2 : (g.ro ++ [p])[n]? = some a := h2
    by_cases hl : n < s.hp.length
    · rw [List.getElem?_append_left hl] at h1
      rw [List.getElem?_append_left (by rw [r.h.len]; exact hl)] at h2
      exact (r1.h.cell n c' a h1 h2).mono mo rfl
    · rw [List.getElem?_append_right (Nat.le_of_not_lt hl)] at h1
      rw [List.getElem?_append_right (by rw [r.h.len]; exact Nat.le_of_not_lt hl), r.h.len] at h2
      cases hk : n - s.hp.length with
      | zero => rw [hk] at h1 h2; cases h1; cases h2; exact hc _ (hm.trans mo)
      | succ k => rw [hk] at h1; cases h1
  · have h2 : (g.ro ++ [p])[n]? = some a := h2
    by_cases hl : n < s.hp.length
    · rw [List.getElem?_append_left hl] at h1
      rw [List.getElem?_append_left (by rw [r.h.len]; exact hl)] at h2
      exact r.h.thaw n c' a h1 h2 lv f
    · rw [List.getElem?_append_right (by rw [r.h.len]; exact Nat.le_of_not_lt hl), r.h.len] at h2
      cases hk : n - s.hp.length with
      | zero =>
        rw [hk] at h2
        cases h2
        obtain ⟨u, q⟩ := r.h.fzt p f
        rw [hn] at q; cases q
      | succ k => rw [hk] at h2; cases h2
  · have h : a ∈ g.ro ++ [p] := h
    rcases List.mem_append.mp h with h | h
    · exact r1.h.rot a h
    · simp at h; subst h; exact ⟨_, upd_same⟩
  · have h : a ∈ g.ro ++ [p] := h
    rcases List.mem_append.mp h with h | h
    · exact r.h.nro a h
    · simp at h
      subst h
      cases q : C.e.H a with
      | none => exact .inr rfl
      | some u =>
        by_cases hr : a ∈ C.e.g.ro
        · exact .inl hr
        · have := r.h.frm a u q hr
          rw [hn] at this; cases this
theorem Rel.boxL (r : C.rel g s σ H) {ms : List M} {vs : List V} {Q : VK} {p : Addr} (h : Go C C.V1 σ (.ok (.box s.hp.length) ⟨s.env, s.hp ++ [.lst ms]⟩) g H Q) (rs : RVs C.T g H ms vs) (hn : H p = none) : Q (.ref p) (upd H p (.lst vs)) := by
  obtain ⟨r2, mo⟩ := r.box (o := .lst vs) (c := .lst ms) hn fun g' mo => ⟨vs, upd_same, rs.mono mo⟩
  exact h (g.box p) _ _ mo r2 (.box (by show (g.ro ++ [p])[s.hp.length]? = some p; rw [← r.h.len, List.getElem?_concat_length]))
def mLstB (a : MA) : ME := fun s => (a s).bind fun ms s1 => if ms.length ≤ big then .ok (.box s1.hp.length) ⟨s1.env, s1.hp ++ [.lst ms]⟩ else .stuck
theorem em_lstB (h : PMa C es ma) : PMe C (.List es pos) (mLstB ma) := wkE (pe_lst h) fun σ H Q q => by
  obtain ⟨g, s, r, q⟩ := rdA_bind q
  refine ⟨g, s, r, q.imp ?_⟩
  rintro xs H1 ⟨ms, s1, g1, r1, rs, q1⟩
  by_cases hb : ms.length ≤ big
  · rw [if_pos hb] at q1
    exact ⟨by rw [← rs.length]; exact big_le hb, fun p hp => Rel.boxL r1 q1 rs hp⟩
  · rw [if_neg hb] at q1; exact q1.elim

/-! ### subscripts, slices -/
def oIx (x y : M) (s : MS) : Res M := match y with
  | .int i => match x with
    | .tup ms => match atI ms i with
      | some m => .ok m s
      | none => .stuck
    | .str z => match atI z.cps.toList i with
      | some c => if z.length ≤ big then .ok (.str ⟨#[c]⟩) s else .stuck
      | none => .stuck
    | x => match seqL s.hp x with
      | some ms => match atI ms i with
        | some m => .ok m s
        | none => .stuck
      | none => .stuck
  | _ => .stuck
theorem atI_rv {ms : List M} {vs : List V} {i : Int} {m : M} {T : Tab} (rs : RVs T g H ms vs) (h : atI ms i = some m) : ∃ v, atI vs i = some v ∧ RV T g H m v := by
  unfold atI at h ⊢
  rw [← rs.length]
  cases hj : ixN ms.length i with
  | none => rw [hj] at h; cases h
  | some j => rw [hj] at h; exact rs.get h
theorem oIx_at {m1 m2 : M} {x y : V} {Q : VK} (h : Go C C.V1 σ (oIx m1 m2 s) g H Q) (r : C.rel g s σ H) (r1 : RV C.T g H m1 x) (r2 : RV C.T g H m2 y) : rIx C.X.K x y H Q := by
  unfold oIx at h
  split at h
  · rename_i i
    cases r2
    split at h
    · rename_i ms
      split at h
      · rename_i m hm
        cases r1 with
        | tup e rs =>
          obtain ⟨v, hv, rv⟩ := atI_rv rs hm
          exact .inr (.inl ⟨_, _, i, v, rfl, rfl, .inl (.inl e), hv, h.same r rv⟩)
      · exact h.elim
    · rename_i z
      split at h
      · rename_i c hc
        by_cases hb : z.length ≤ big
        · rw [if_pos hb] at h
          cases r1
          exact .inr (.inr ⟨z, i, c, rfl, rfl, big_le hb, hc, h.same r (.str _)⟩)
        · rw [if_neg hb] at h; exact h.elim
      · exact h.elim
    · split at h
      · rename_i ms hms
        split at h
        · rename_i m hm
          obtain ⟨q, vs, rfl, hq, rs⟩ := seqL_at r hms r1
          obtain ⟨v, hv, rv⟩ := atI_rv rs hm
          exact .inl ⟨q, vs, i, v, rfl, rfl, hq, hv, h.same r rv⟩
        · exact h.elim
      · exact h.elim
  · exact h.elim
theorem em_ix {ea eb : Expr} (ha : PMe C ea a) (hb : PMe C eb b) (hs : PlainIx eb) : PMe C (.Subscript ea eb pos) (m2 oIx a b) :=
  wkE (pe_ix ix_seq ha hb hs) fun σ H Q h => by
    obtain ⟨g, s, r, q⟩ := rdE_bind h
    refine ⟨g, s, r, q.imp ?_⟩
    rintro x H1 ⟨m, s1, g1, r1, rv, q1⟩
    refine ⟨g1, s1, r1, (Go.bind (R := C.V1) q1).imp ?_⟩
    rintro y H2 ⟨m2, s2, g2, mo, r2, rv2, q2⟩
    exact oIx_at q2 r2 (rv.mono mo) rv2
/-- a part of a slice -/
abbrev MO := MS → Res (Option Int)
def rdO (C : MC) (m : MO) : TO := fun σ H Q => ∃ g s, C.rel g s σ H ∧ Go C REq σ (m s) g H Q
def oNo : MO := fun s => .ok none s
def oSome (a : ME) : MO := fun s => (a s).bind fun m s1 => match m with
  | .int i => .ok (some i) s1
  | _ => .stuck
abbrev PMo (C : MC) (e : Option Expr) (m : MO) : Prop := PO C.X e (rdO C m)
theorem wkO {X : Cx} {e : Option Expr} {t t' : TO} (h : PO X e t) (k : ∀ σ H Q, t' σ H Q → t σ H Q) : PO X e t' := ⟨fun pins s σ H Q I q => h.run pins s σ H Q I (k _ _ _ q)⟩
theorem om_none : PMo C none oNo := wkO po_none fun σ H Q ⟨g, s, r, q⟩ => q.ret r rfl
theorem om_some (h : PMe C ex a) : PMo C (some ex) (oSome a) := wkO (po_some h) fun σ H Q q => by
  obtain ⟨g, s, r, q⟩ := rdE_bind q
  refine ⟨g, s, r, q.imp ?_⟩
  rintro x H1 ⟨m, s1, g1, r1, rv, q1⟩
  cases rv with
  | int i => exact ⟨i, rfl, q1.ret r1 rfl⟩
  | _ => exact q1.elim
def cutM (xs : List M) (lo hi : Option Int) : List M := (xs.drop (HT.sIx xs.length 0 lo)).take (HT.sIx xs.length xs.length hi - HT.sIx xs.length 0 lo)
def mSl (a : ME) (l u : MO) : ME := fun s => (a s).bind fun x s1 => (l s1).bind fun lo s2 => (u s2).bind fun hi s3 => match x with
  | .tup ms => .ok (.tup (cutM ms lo hi)) s3
  | x => match seqL s3.hp x with
    | some ms => .ok (.lst (cutM ms lo hi)) s3
    | none => .stuck
theorem cut_rv {ms : List M} {vs : List V} {T : Tab} (lo hi : Option Int) (rs : RVs T g H ms vs) : RVs T g H (cutM ms lo hi) (cutV vs lo hi) := by
  unfold cutM cutV
  rw [← rs.length]
  exact (rs.drop _).take _
theorem cut_all {ms : List M} {lo hi : Option Int} (h : HT.sIx ms.length 0 lo = 0 ∧ HT.sIx ms.length ms.length hi = ms.length) : cutM ms lo hi = ms := by
  unfold cutM
  rw [h.1, h.2]
  simp
theorem em_sl {el eu : Option Expr} {l u : MO} (ha : PMe C ex a) (hl : PMo C el l) (hu : PMo C eu u) : PMe C (.Subscript ex (.Slice el eu none p2) pos) (mSl a l u) :=
  wkE (pe_slice (sl_list.or sl_tupA) ha hl hu) fun σ H Q h => by
    obtain ⟨g, s, r, q⟩ := rdE_bind h
    refine ⟨g, s, r, q.imp ?_⟩
    rintro x H1 ⟨m, s1, g1, r1, rv, q1⟩
    refine ⟨g1, s1, r1, (Go.bind (R := REq) q1).imp ?_⟩
    rintro lo H2 ⟨lo', s2, g2, mo2, r2, e2, q2⟩
    refine ⟨g2, s2, r2, (Go.bind (R := REq) q2).imp ?_⟩
    rintro hi H3 ⟨hi', s3, g3, mo3, r3, e3, q3⟩
    cases e2; cases e3
    have rv := rv.mono (mo2.trans mo3)
    split at q3
    · rename_i ms
      cases rv with
      | @tup pa _ vs e rs =>
        refine .inr ⟨pa, vs, rfl, .inl (.inl e), fun hw => ?_, fun _ p hp => q3.newT r3 (cut_rv lo hi rs) hp⟩
        rw [← rs.length] at hw
        rw [cut_all hw] at q3
        exact q3.same r3 (.tup e rs)
    · split at q3
      · rename_i ms hms
        obtain ⟨q, vs, rfl, hq, rs⟩ := seqL_at r3 hms rv
        exact .inl ⟨q, vs, rfl, hq, fun p hp => q3.newL r3 (cut_rv lo hi rs) hp⟩
      · exact q3.elim

/-! ### built-in functions -/
abbrev RC := List V → Hp → VK → Prop
def CallOk (C : MC) (r : RC) (o : List M → MS → Res M) : Prop :=
  ∀ (σ : L2.St) (H : Hp) (g : Gh) (s : MS) (ms : List M) (xs : List V) (Q : VK), C.rel g s σ H → RVs C.T g H ms xs → Go C C.V1 σ (o ms s) g H Q → r xs H Q
theorem CallR.alt {X : Cx} {f : Value} {r r' : RC} (h : CallR X f r) (h' : CallR X f r') : CallR X f (fun xs H Q => r xs H Q ∨ r' xs H Q) := by
  intro pins s σ H xs us Q I rx q
  rcases q with q | q
  · exact h pins s σ H xs us Q I rx q
  · exact h' pins s σ H xs us Q I rx q
def mCall (a : MA) (o : List M → MS → Res M) : ME := fun s => (a s).bind o
theorem tCB_of {r : RC} {o : List M → MS → Res M} {t : TA} (ho : CallOk C r o) (ht : ∀ σ H Q, rdA C ma σ H Q → t σ H Q) {Q : VK} (h : rdE C (mCall ma o) σ H Q) : tCB r t σ H Q := by
  obtain ⟨g, s, r, q⟩ := rdA_bind h
  refine ht _ _ _ ⟨g, s, r, q.imp ?_⟩
  rintro xs H1 ⟨ms, s1, g1, r1, rs, q1⟩
  exact ho σ H1 g1 s1 ms xs Q r1 rs q1
theorem em_callB {id : String} {r : RC} {o : List M → MS → Res M} (hc : CallR C.X (.builtin id) r) (ho : CallOk C r o) (hm : C.X.mg x = none) (ha : PMa C (ex :: es) ma) (hv : bootBuiltins x = some (.builtin id) := by first | rfl | decide +kernel) (hg : Gl C.X x := by rfl) (hn : x ≠ "__name__" := by decide)
    (hdb : (x == ("__debug__" : Str)) = false := by decide) (he : starEach (ex :: es) C.X.env = (false, eval ex C.X.env) :: starEach es C.X.env := by rfl) (hpl : (backTo pos (starEach es C.X.env)).any (·.1) = false := by rfl) :
    PMe C (.Call (.Name x p) (ex :: es) [] pos) (mCall ma o) := wkE (pe_callB hc hg hm hv ha hn hdb he hpl) fun σ H Q h => tCB_of ho (fun _ _ _ z => z) h
theorem em_callT {T : String} {r : RC} {o : List M → MS → Res M} (hc : CallR C.X (.type T) r) (ho : CallOk C r o) (hm : C.X.mg x = none) (ha : PMa C (ex :: es) ma) (hv : bootBuiltins x = some (.type T) := by first | rfl | decide +kernel) (hg : Gl C.X x := by rfl) (hn : x ≠ "__name__" := by decide)
    (hdb : (x == ("__debug__" : Str)) = false := by decide) (he : starEach (ex :: es) C.X.env = (false, eval ex C.X.env) :: starEach es C.X.env := by rfl) (hpl : (backTo pos (starEach es C.X.env)).any (·.1) = false := by rfl) :
    PMe C (.Call (.Name x p) (ex :: es) [] pos) (mCall ma o) := wkE (pe_callTy hc hg hm hv ha hn hdb he hpl) fun σ H Q h => tCB_of ho (fun _ _ _ z => z) h
def cLen (ms : List M) (s : MS) : Res M := match ms with
  | [.str z] => if z.length ≤ big then .ok (.int z.length) s else .stuck
  | [.tup xs] => .ok (.int xs.length) s
  | [x] => match seqL s.hp x with
    | some xs => .ok (.int xs.length) s
    | none => .stuck
  | _ => .stuck
theorem ok_len : CallOk C (fun xs H Q => ∃ x n, xs = [x] ∧ LenV C.X.K x H n ∧ Q (.int n) H) cLen := fun σ H g s ms xs Q r rs h => by
  unfold cLen at h
  split at h
  · rename_i z
    cases rs with
    | cons r1 r2 =>
      cases r2; cases r1
      by_cases hb : z.length ≤ big
      · rw [if_pos hb] at h
        exact ⟨_, z.length, rfl, ⟨big_le hb, rfl⟩, h.same r (.int _)⟩
      · rw [if_neg hb] at h; exact h.elim
  · rename_i ys
    cases rs with
    | cons r1 r2 =>
      cases r2
      cases r1 with
      | tup e rs => exact ⟨_, ys.length, rfl, .inr ⟨_, .inl (.inl e), rs.length⟩, h.same r (.int _)⟩
  · split at h
    · rename_i ys hys
      cases rs with
      | cons r1 r2 =>
        cases r2
        obtain ⟨q, vs, rfl, hq, rs⟩ := seqL_at r hys r1
        exact ⟨_, ys.length, rfl, .inl ⟨_, hq, rs.length⟩, h.same r (.int _)⟩
    · exact h.elim
  · exact h.elim
def cInt (ms : List M) (s : MS) : Res M := match ms with
  | [.int i] => .ok (.int i) s
  | [.bl k] => .ok (.int (if k = true then 1 else 0)) s
  | _ => .stuck
theorem ok_int : CallOk C (fun xs H Q => (∃ i, xs = [.int i] ∧ Q (.int i) H) ∨ ∃ k, xs = [.bl k] ∧ Q (.int (if k then 1 else 0)) H) cInt := fun σ H g s ms xs Q r rs h => by
  unfold cInt at h
  split at h
  · cases rs with
    | cons r1 r2 => cases r2; cases r1; exact .inl ⟨_, rfl, h.same r (.int _)⟩
  · cases rs with
    | cons r1 r2 => cases r2; cases r1; exact .inr ⟨_, rfl, h.same r (.int _)⟩
  · exact h.elim
def cMax (ms : List M) (s : MS) : Res M := match ms with
  | [.int i, .int j] => .ok (.int (if j > i then j else i)) s
  | _ => .stuck
theorem ok_max2 : CallOk C (fun xs H Q => ∃ i j, xs = [.int i, .int j] ∧ Q (.int (if j > i then j else i)) H) cMax := fun σ H g s ms xs Q r rs h => by
  unfold cMax at h
  split at h
  · cases rs with
    | cons r1 r2 => cases r2 with
      | cons r2 r3 => cases r3; cases r1; cases r2; exact ⟨_, _, rfl, h.same r (.int _)⟩
  · exact h.elim
def cTup (ms : List M) (s : MS) : Res M := match ms with
  | [.tup xs] => .ok (.tup xs) s
  | [x] => match seqL s.hp x with
    | some xs => .ok (.tup xs) s
    | none => .stuck
  | _ => .stuck
theorem ok_tuple : CallOk C (fun xs H Q => ∃ p ys, xs = [.ref p] ∧ ((SqL C.X.K H p ys ∧ ∀ l, H l = none → Q (.ref l) (upd H l (.tup ys))) ∨ (SqT C.X.K H p ys ∧ Q (.ref p) H))) cTup := fun σ H g s ms xs Q r rs h => by
  unfold cTup at h
  split at h
  · cases rs with
    | cons r1 r2 =>
      cases r2
      cases r1 with
      | tup e rs => exact ⟨_, _, rfl, .inr ⟨.inl (.inl e), h.same r (.tup e rs)⟩⟩
  · split at h
    · rename_i ys hys
      cases rs with
      | cons r1 r2 =>
        cases r2
        obtain ⟨q, vs, rfl, hq, rs⟩ := seqL_at r hys r1
        exact ⟨_, _, rfl, .inl ⟨hq, fun p hp => h.newT r rs hp⟩⟩
    · exact h.elim
  · exact h.elim
def seqA (s : MS) : List M → Option (List M)
  | [.tup xs] => some xs
  | [x] => seqL s.hp x
  | _ => none
theorem seqA_at {ms : List M} {xs : List V} {ys : List M} (r : C.rel g s σ H) (rs : RVs C.T g H ms xs) (h : seqA s ms = some ys) : ∃ p vs, xs = [.ref p] ∧ (SqL C.X.K H p vs ∨ SqT C.X.K H p vs) ∧ RVs C.T g H ys vs := by
  unfold seqA at h
  split at h
  · cases h
    cases rs with
    | cons r1 r2 =>
      cases r2
      cases r1 with
      | tup e rs => exact ⟨_, _, rfl, .inr (.inl (.inl e)), rs⟩
  · cases rs with
    | cons r1 r2 =>
      cases r2
      obtain ⟨q, vs, rfl, hq, rs⟩ := seqL_at r h r1
      exact ⟨_, _, rfl, .inl hq, rs⟩
  · cases h
/-- list(x), frozen, or in a box -/
def cList (ms : List M) (s : MS) : Res M := match seqA s ms with
  | some xs => .ok (.lst xs) s
  | none => .stuck
def cListB (ms : List M) (s : MS) : Res M := match seqA s ms with
  | some xs => .ok (.box s.hp.length) ⟨s.env, s.hp ++ [.lst xs]⟩
  | none => .stuck
theorem ok_list : CallOk C (fun xs H Q => ∃ p ys, xs = [.ref p] ∧ (SqL C.X.K H p ys ∨ SqT C.X.K H p ys) ∧ ∀ l, H l = none → Q (.ref l) (upd H l (.lst ys))) cList := fun σ H g s ms xs Q r rs h => by
  unfold cList at h
  split at h
  · rename_i ys hys
    obtain ⟨p, vs, e, hq, rv⟩ := seqA_at r rs hys
    exact ⟨p, vs, e, hq, fun l hl => h.newL r rv hl⟩
  · exact h.elim
theorem ok_listB : CallOk C (fun xs H Q => ∃ p ys, xs = [.ref p] ∧ (SqL C.X.K H p ys ∨ SqT C.X.K H p ys) ∧ ∀ l, H l = none → Q (.ref l) (upd H l (.lst ys))) cListB := fun σ H g s ms xs Q r rs h => by
  unfold cListB at h
  split at h
  · rename_i ys hys
    obtain ⟨p, vs, e, hq, rv⟩ := seqA_at r rs hys
    exact ⟨p, vs, e, hq, fun l hl => Rel.boxL r h rv hl⟩
  · exact h.elim
end
end Ma
/-! Ma10: lists in boxes: append, pop, a store; what a box turns into data. -/
namespace Ma
open L2 PySem
section
variable {C : MC} {g g1 : Gh} {H H1 : Hp} {s : MS} {σ : L2.St} {ex : Expr} {es : List Expr} {a b : ME} {ma : MA} {pos apos cpos p p2 : Pos} {x : Str}
theorem nd_ix {α : Type} : ∀ {l : List α} {i j : Nat} {x : α}, l.Nodup → l[i]? = some x → l[j]? = some x → i = j
  | [], _, _, _, _, h, _ => by simp at h
  | y :: l, 0, 0, _, _, _, _ => rfl
  | y :: l, 0, j + 1, x, nd, h1, h2 => by
    simp at h1 h2
    subst h1
    exact absurd (List.mem_of_getElem? h2) (List.nodup_cons.mp nd).1
  | y :: l, i + 1, 0, x, nd, h1, h2 => by
    simp at h1 h2
    subst h2
    exact absurd (List.mem_of_getElem? h1) (List.nodup_cons.mp nd).1
  | y :: l, i + 1, j + 1, x, nd, h1, h2 => by
    simp at h1 h2
    exact congrArg Nat.succ (nd_ix (List.nodup_cons.mp nd).2 h1 h2)
/-- a box's content changes -/
theorem Rel.poke (r : C.rel g s σ H) {n : Nat} {c c' : Cell} {p : Addr} {o : HO} (hc : s.hp[n]? = some c) (hp : g.ro[n]? = some p) (lv : Live c) (ht : ∀ vs, H p ≠ some (.tup vs)) (hq : ∀ g', Mono g H g' (upd H p o) → CellR C.T g' (upd H p o) c' p) :
    C.rel g ⟨s.env, s.hp.set n c'⟩ σ (upd H p o) ∧ Mono g H g (upd H p o) := by
  have pf : ¬ g.fz p := r.h.thaw n c p hc hp lv
  have mo : Mono g H g (upd H p o) := ⟨List.prefix_refl _, fun _ h => h, fun a f => upd_ne (fun z => pf (z ▸ f)), fun a vs h => by
    have : a ≠ p := fun z => by subst z; exact ht vs h
    rw [upd_ne this]; exact h⟩
  have inj : ∀ {m : Nat} {q : Addr}, g.ro[m]? = some q → q = p → m = n := fun {m q} h1 h2 => by
    subst h2
    exact nd_ix r.h.nd h1 hp
  refine ⟨r.env mo ⟨by simp [r.h.len], r.h.nd, fun m d q h1 h2 => ?_, fun m d q h1 h2 ld => ?_, fun q f => ?_, fun q hq => ?_, fun q u h1 h2 => ?_, r.h.nfz, r.h.nro, r.h.m0.trans mo⟩, mo⟩
  · by_cases hmn : m = n
    · subst hmn
      have hlt := (List.getElem?_eq_some_iff.mp hc).1
      rw [List.getElem?_set_self hlt] at h1
      cases h1
      rw [hp] at h2
      cases h2
      exact hq g mo
    · rw [List.getElem?_set_ne (Ne.symm hmn)] at h1
      exact (r.h.cell m d q h1 h2).mono mo (upd_ne fun z => hmn (inj h2 z))
  · by_cases hmn : m = n
    · subst hmn
      rw [hp] at h2
      cases h2
      exact pf
    · rw [List.getElem?_set_ne (Ne.symm hmn)] at h1
      exact r.h.thaw m d q h1 h2 ld
  · obtain ⟨u, e⟩ := r.h.fzt q f
    by_cases h : q = p
    · subst h; exact ⟨_, upd_same⟩
    · exact ⟨u, by rw [upd_ne h]; exact e⟩
  · obtain ⟨u, e⟩ := r.h.rot q hq
    by_cases h : q = p
    · subst h; exact ⟨_, upd_same⟩
    · exact ⟨u, by rw [upd_ne h]; exact e⟩
  · have e := r.h.frm q u h1 h2
    by_cases h : q = p
    · subst h
      rcases r.h.nro q (List.mem_of_getElem? hp) with z | z
      · exact absurd z h2
      · rw [h1] at z; cases z
    · rw [upd_ne h]; exact e
theorem Go.pokeL {m : M} {n : Nat} {ms ms' : List M} {vs' : List V} {p : Addr} {Q : VK} {v : V} (h : Go C C.V1 σ (.ok m ⟨s.env, s.hp.set n (.lst ms')⟩) g H Q) (r : C.rel g s σ H) (hc : s.hp[n]? = some (.lst ms)) (hp : g.ro[n]? = some p)
    (rs : RVs C.T g H ms' vs') (rv : RV C.T g H m v) : Q v (upd H p (.lst vs')) := by
  obtain ⟨vs, e, _⟩ := r.h.cell n _ p hc hp
  obtain ⟨r1, mo⟩ := Rel.poke (c' := .lst ms') r hc hp trivial (fun ws z => by rw [e] at z; cases z) fun g' mo => ⟨vs', upd_same, rs.mono mo⟩
  exact h g _ v mo r1 (rv.mono mo)
def mMeth (a : ME) (ma : MA) (ok : M → MS → Bool) (o : M → List M → MS → Res M) : ME := fun s => (a s).bind fun x s1 => if ok x s1 = true then (ma s1).bind fun ms s2 => o x ms s2 else .stuck
def isBoxL (x : M) (s : MS) : Bool := match x with
  | .box n => match s.hp[n]? with
    | some (.lst _) => true
    | _ => false
  | _ => false
theorem isBoxL_at (r : C.rel g s σ H) {m : M} {v : V} (rv : RV C.T g H m v) (h : isBoxL m s = true) : ∃ n p ms vs, m = .box n ∧ v = .ref p ∧ s.hp[n]? = some (.lst ms) ∧ g.ro[n]? = some p ∧ H p = some (.lst vs) ∧ RVs C.T g H ms vs := by
  cases rv with
  | @box n p e =>
    unfold isBoxL at h
    dsimp only at h
    cases hc : s.hp[n]? with
    | none => rw [hc] at h; cases h
    | some c =>
      rw [hc] at h
      cases c with
      | lst ms =>
        obtain ⟨vs, h1, h2⟩ := r.h.cell n _ p hc e
        exact ⟨n, p, ms, vs, rfl, rfl, hc, e, h1, h2⟩
      | _ => cases h
  | _ => cases h
def MethOk (C : MC) (r : V → List V → Hp → VK → Prop) (o : M → List M → MS → Res M) : Prop :=
  ∀ (σ : L2.St) (H : Hp) (g : Gh) (s : MS) (m : M) (ms : List M) (x : V) (xs : List V) (Q : VK), C.rel g s σ H → RV C.T g H m x → RVs C.T g H ms xs → Go C C.V1 σ (o m ms s) g H Q → r x xs H Q
theorem em_bm {o : Expr} {name : Str} {T id : String} {r : V → List V → Hp → VK → Prop} {ok : M → MS → Bool} {f : M → List M → MS → Res M} (pa : PlainAttrs T) (slot : Slot T name id) (hty : typeOf (.builtin id) = pure (.type "method_descriptor")) (hm : MtR C.X id r)
    (hty2 : ∀ (σ : L2.St) (H : Hp) (g : Gh) (s : MS) (m : M) (x : V), C.rel g s σ H → RV C.T g H m x → ok m s = true → tyV C.X.K T x H) (hf : MethOk C r f) (ho : PMe C o a) (ha : PMa C (ex :: es) ma)
    (hbase : attributeBase o name C.X.env (eval o C.X.env) = eval o C.X.env := by rfl)
    (hfew : ((backTo cpos (starEach (ex :: es) C.X.env)).all (fun x => !x.1) && (backToKw cpos (keywordEach [] C.X.env)).all (fun x => x.1.isSome)
      && decide ((ex :: es).length + ([] : List Keyword).length + (if ([] : List Keyword).isEmpty then 0 else 1) < 30)) = true := by rfl)
    (hline : (apos.endLine == cpos.line) = true := by rfl) (hs : starEach (ex :: es) C.X.env = (false, eval ex C.X.env) :: starEach es C.X.env := by rfl) (hplain : (backTo cpos (starEach es C.X.env)).any (·.1) = false := by rfl) :
    PMe C (.Call (.Attribute o name apos) (ex :: es) [] cpos) (mMeth a ma ok f) :=
  wkE (pe_bm pa slot hty hm ho ha hbase hfew hline hs hplain) fun σ H Q h => by
    obtain ⟨g, s, r, q⟩ := rdE_bind h
    refine ⟨g, s, r, q.imp ?_⟩
    rintro x H1 ⟨m, s1, g1, r1, rv, q1⟩
    by_cases hk : ok m s1 = true
    · rw [if_pos hk] at q1
      refine ⟨hty2 σ H1 g1 s1 m x r1 rv hk, g1, s1, r1, (Go.bind (R := C.Vn) q1).imp ?_⟩
      rintro xs H2 ⟨ms, s2, g2, mo, r2, rs, q2⟩
      exact hf σ H2 g2 s2 m ms x xs Q r2 (rv.mono mo) rs q2
    · rw [if_neg hk] at q1; exact q1.elim
theorem em_bm0 {o : Expr} {name : Str} {T id : String} {r : V → List V → Hp → VK → Prop} {ok : M → MS → Bool} {f : M → List M → MS → Res M} (pa : PlainAttrs T) (slot : Slot T name id) (hty : typeOf (.builtin id) = pure (.type "method_descriptor")) (hm : MtR C.X id r)
    (hty2 : ∀ (σ : L2.St) (H : Hp) (g : Gh) (s : MS) (m : M) (x : V), C.rel g s σ H → RV C.T g H m x → ok m s = true → tyV C.X.K T x H) (hf : MethOk C r f) (ho : PMe C o a)
    (hbase : attributeBase o name C.X.env (eval o C.X.env) = eval o C.X.env := by rfl) (hline : (apos.endLine == cpos.line) = true := by rfl) :
    PMe C (.Call (.Attribute o name apos) [] [] cpos) (mMeth a mNil ok f) :=
  wkE (pe_bm0 pa slot hty hm ho hbase hline) fun σ H Q h => by
    obtain ⟨g, s, r, q⟩ := rdE_bind h
    refine ⟨g, s, r, q.imp ?_⟩
    rintro x H1 ⟨m, s1, g1, r1, rv, q1⟩
    by_cases hk : ok m s1 = true
    · rw [if_pos hk] at q1
      exact ⟨hty2 σ H1 g1 s1 m x r1 rv hk, hf σ H1 g1 s1 m [] x [] Q r1 rv .nil q1⟩
    · rw [if_neg hk] at q1; exact q1.elim
theorem tyL {K : PySem.W.Frag} : ∀ (σ : L2.St) (H : Hp) (g : Gh) (s : MS) (m : M) (x : V), C.rel g s σ H → RV C.T g H m x → isBoxL m s = true → tyV K "list" x H := fun σ H g s m x r rv h => by
  obtain ⟨n, p, ms, vs, rfl, rfl, hc, hp, e, rs⟩ := isBoxL_at r rv h
  exact .inl ⟨rfl, _, .inl (.inl e)⟩
def fAppend (x : M) (ms : List M) (s : MS) : Res M := match x, ms with
  | .box n, [y] => match s.hp[n]? with
    | some (.lst xs) => if xs.length < big then .ok .non ⟨s.env, s.hp.set n (.lst (xs ++ [y]))⟩ else .stuck
    | _ => .stuck
  | _, _ => .stuck
theorem ok_append : MethOk C rAppend fAppend := fun σ H g s m ms x xs Q r rv rs h => by
  unfold fAppend at h
  split at h
  · rename_i n y
    split at h
    · rename_i ys hc
      by_cases hb : ys.length < big
      · rw [if_pos hb] at h
        obtain ⟨p, rfl, hp, vs, e, rvs⟩ := r.cellAt hc rv
        cases rs with
        | cons r1 r2 =>
          cases r2
          exact ⟨p, vs, _, rfl, rfl, e, by rw [← rvs.length, sizeLine_eq]; exact hb, h.pokeL r hc hp (rvs.app (.cons r1 .nil)) .non⟩
      · rw [if_neg hb] at h; exact h.elim
    · exact h.elim
  · exact h.elim
def mAppend (a b : ME) : ME := mMeth a (mCons b mNil) isBoxL fAppend
theorem em_append {o : Expr} (ho : PMe C o a) (ha : PMe C ex b) (hbase : attributeBase o "append" C.X.env (eval o C.X.env) = eval o C.X.env := by rfl)
    (hfew : ((backTo cpos (starEach [ex] C.X.env)).all (fun x => !x.1) && (backToKw cpos (keywordEach [] C.X.env)).all (fun x => x.1.isSome)
      && decide ([ex].length + ([] : List Keyword).length + (if ([] : List Keyword).isEmpty then 0 else 1) < 30)) = true := by rfl)
    (hline : (apos.endLine == cpos.line) = true := by rfl) (hs : starEach [ex] C.X.env = (false, eval ex C.X.env) :: starEach [] C.X.env := by rfl) :
    PMe C (.Call (.Attribute o "append" apos) [ex] [] cpos) (mAppend a b) :=
  em_bm PySem.F.plainAttrs_list PySem.F.slot_list_append PySem.F.type_list_append mt_append tyL ok_append ho (am_cons ha am_nil hs) hbase hfew hline hs rfl
/-- xs.pop(i), i from the front -/
def fPopAt (x : M) (ms : List M) (s : MS) : Res M := match x, ms with
  | .box n, [.int i] => match s.hp[n]? with
    | some (.lst xs) => if 0 ≤ i ∧ i < 2 ^ 63 then match xs[i.toNat]? with
        | some y => .ok y ⟨s.env, s.hp.set n (.lst (xs.eraseIdx i.toNat))⟩
        | none => .stuck
      else .stuck
    | _ => .stuck
  | _, _ => .stuck
theorem ok_popAt : MethOk C rPopAt fPopAt := fun σ H g s m ms x xs Q r rv rs h => by
  unfold fPopAt at h
  split at h
  · rename_i n i
    split at h
    · rename_i ys hc
      by_cases hb : 0 ≤ i ∧ i < 2 ^ 63
      · rw [if_pos hb] at h
        split at h
        · rename_i y hy
          obtain ⟨p, rfl, hp, vs, e, rvs⟩ := r.cellAt hc rv
          cases rs with
          | cons r1 r2 =>
            cases r2
            cases r1
            obtain ⟨v, hv, rv2⟩ := rvs.get hy
            have hl : i.toNat < vs.length := (List.getElem?_eq_some_iff.mp hv).1
            exact ⟨p, vs, i, i.toNat, v, rfl, rfl, e, by omega, hb.2, seqIndex_of hb.1 (by omega), hv, h.pokeL r hc hp (rvs.erase _) rv2⟩
        · exact h.elim
      · rw [if_neg hb] at h; exact h.elim
    · exact h.elim
  · exact h.elim
def mPopAt (a b : ME) : ME := mMeth a (mCons b mNil) isBoxL fPopAt
theorem em_popAt {o : Expr} (ho : PMe C o a) (ha : PMe C ex b) (hbase : attributeBase o "pop" C.X.env (eval o C.X.env) = eval o C.X.env := by rfl)
    (hfew : ((backTo cpos (starEach [ex] C.X.env)).all (fun x => !x.1) && (backToKw cpos (keywordEach [] C.X.env)).all (fun x => x.1.isSome)
      && decide ([ex].length + ([] : List Keyword).length + (if ([] : List Keyword).isEmpty then 0 else 1) < 30)) = true := by rfl)
    (hline : (apos.endLine == cpos.line) = true := by rfl) (hs : starEach [ex] C.X.env = (false, eval ex C.X.env) :: starEach [] C.X.env := by rfl) :
    PMe C (.Call (.Attribute o "pop" apos) [ex] [] cpos) (mPopAt a b) :=
  em_bm PySem.F.plainAttrs_list PySem.F.slot_list_pop PySem.F.type_list_pop mt_popAt tyL ok_popAt ho (am_cons ha am_nil hs) hbase hfew hline hs rfl

/-! ### a store at a place -/
abbrev FSet := M → M → M → MS → Res Unit
def SetOk (C : MC) (t : TSet) (f : FSet) : Prop :=
  ∀ (σ : L2.St) (H : Hp) (g : Gh) (s : MS) (m k w : M) (x y z : V) (Q : Hp → Prop), C.rel g s σ H → RV C.T g H m x → RV C.T g H k y → RV C.T g H w z →
    (match f m k w s with
      | .ok _ s1 => ∀ (g' : Gh) (H' : Hp), Mono g H g' H' → C.rel g' s1 σ H' → Q H'
      | _ => False) → t x y z H Q
def fSetL (x k w : M) (s : MS) : Res Unit := match x, k with
  | .box n, .int i => match s.hp[n]? with
    | some (.lst xs) => match ixN xs.length i with
      | some j => .ok () ⟨s.env, s.hp.set n (.lst (xs.set j w))⟩
      | none => .stuck
    | _ => .stuck
  | _, _ => .stuck
theorem ok_setL : SetOk C rSetL fSetL := fun σ H g s m k w x y z Q r rm rk rw' h => by
  unfold fSetL at h
  split at h
  · rename_i u s1 heq
    split at heq
    · rename_i n i
      split at heq
      · rename_i xs hc
        split at heq
        · rename_i j hj
          cases heq
          obtain ⟨p, rfl, hp, vs, e, rvs⟩ := r.cellAt hc rm
          cases rk
          obtain ⟨r1, mo⟩ := Rel.poke (c' := .lst (xs.set j w)) r hc hp trivial (fun ws z => by rw [e] at z; cases z) fun g' mo => ⟨_, upd_same, (rvs.set j rw').mono mo⟩
          exact ⟨p, vs, i, j, rfl, rfl, e, by rw [← rvs.length]; exact hj, h g _ mo r1⟩
        · cases heq
      · cases heq
    · cases heq
  · exact h.elim
/-- o[i] = w -/
def gSub (a b : ME) (f : FSet) : MG := fun w s => (a s).bind fun x s1 => (b s1).bind fun k s2 => f x k w s2
theorem gm_sub {eo ei : Expr} {t : TSet} {f : FSet} (ho : PMe C eo a) (hi : PMe C ei b) (hs : PSet C.X t) (hf : SetOk C t f) (hf2 : ∀ x k w s e s1, f x k w s ≠ .err e s1)
    (ha : ∀ v, assign (.Subscript eo ei pos) C.X.env v = (do
      let ov ← PySem.holding [v] (eval eo C.X.env)
      let iv ← PySem.holding [v, ov] (eval ei C.X.env)
      standAt pos
      PySem.holding [v, ov, iv] (setItem ov iv v)
      release [v, ov, iv] []) := by intro _; rfl) : PMg C (.Subscript eo ei pos) (gSub a b f) :=
  wkG (pg_sub ho hi hs ha) fun v σ H Q ⟨g, s, w, r, rv, q⟩ => by
    unfold gSub at q
    refine ⟨g, s, r, ?_⟩
    cases h1 : a s with
    | stuck => rw [h1] at q; exact q.elim
    | err e s1 => rw [h1] at q; exact q
    | ok m s1 =>
      rw [h1] at q
      intro g1 H1 x mo1 r1 rm
      refine ⟨g1, s1, r1, ?_⟩
      dsimp only [Res.bind] at q
      cases h2 : b s1 with
      | stuck => rw [h2] at q; exact q.elim
      | err e s2 => rw [h2] at q; exact fun g' H' cls d mo => q g' H' cls d (mo1.trans mo)
      | ok k s2 =>
        rw [h2] at q
        intro g2 H2 y mo2 r2 rk
        dsimp only at q
        refine hf σ H2 g2 s2 m k w x y v _ r2 (rm.mono mo2) rk (rv.mono (mo1.trans mo2)) ?_
        cases h3 : f m k w s2 with
        | stuck => rw [h3] at q; exact q.elim
        | err e s3 => exact (hf2 _ _ _ _ _ _ h3).elim
        | ok u s3 =>
          rw [h3] at q
          intro g3 H3 mo3 r3
          exact q g3 H3 σ ((mo1.trans mo2).trans mo3) r3
theorem fSetL_ne : ∀ x k w s e s1, fSetL x k w s ≠ .err e s1 := fun x k w s e s1 h => by
  unfold fSetL at h
  split at h
  · split at h
    · split at h <;> cases h
    · cases h
  · cases h
def gSubL (a b : ME) : MG := gSub a b fSetL
theorem gm_subL {eo ei : Expr} (ho : PMe C eo a) (hi : PMe C ei b) (ha : ∀ v, assign (.Subscript eo ei pos) C.X.env v = (do
      let ov ← PySem.holding [v] (eval eo C.X.env)
      let iv ← PySem.holding [v, ov] (eval ei C.X.env)
      standAt pos
      PySem.holding [v, ov, iv] (setItem ov iv v)
      release [v, ov, iv] []) := by intro _; rfl) : PMg C (.Subscript eo ei pos) (gSubL a b) := gm_sub ho hi set_list ok_setL fSetL_ne ha
/-- target = e -/
def sAsg (m : ME) (t : MG) : MStm := fun s => (m s).bind fun w s1 => (t w s1).bind fun _ s2 => .ok .nx s2
theorem sm_asg {tg : Expr} {m : ME} {t : MG} (he : PMe C ex m) (hg : PMg C tg t) (hs : swapsWithSole [tg] ex pos.line C.X.env = pure false := by rfl) (hw : swappedStores [tg] ex C.X.env = pure none := by rfl) (h1 : (assignEach [tg] C.X.env).map (·.2) = [assign tg C.X.env] := by rfl) : PMs C (.Assign [tg] ex pos) (sAsg m t) :=
  wkS (ps_asg he hg hs hw h1) fun D σ H h => by
    obtain ⟨g, s, r, q⟩ := rdE_bindS h
    refine ⟨g, s, r, q.imp ?_⟩
    rintro x H1 ⟨w, s1, g1, r1, rv, q1⟩
    refine ⟨g1, s1, w, r1, rv, ?_⟩
    cases h1 : t w s1 with
    | stuck => rw [h1] at q1; exact q1.elim
    | err e s2 => rw [h1] at q1; exact fun g' H' cls d mo r xr => q1 g' H' σ cls d mo r xr
    | ok u s2 => rw [h1] at q1; exact fun g' H' σ' mo r => q1 g' H' σ' mo r
end
end Ma
/-! Ma11: a def and its mirror. -/
namespace Ma
open L2 PySem.Spec PySem PyProof.Rows

structure RoomG (k : Nat) (A : Around) : Prop extends Room k A where
  gs : A.guards = some []
theorem RoomG.less {j k : Nat} {A : Around} (r : RoomG k A) (h : j ≤ k) : RoomG j A := ⟨r.toRoom.mono h, r.gs⟩
theorem RoomG.down {k : Nat} {A : Around} (r : RoomG (k + 1) A) (env : Env) : RoomG k (A.deeper env) := ⟨r.toRoom.deeper env, r.gs⟩

/-- what a def's end has to give -/
def GoF (T : Tab) (g : Gh) (H : Hp) (r : ResF) (Q : VK) (E : XK) : Prop :=
  match r with
  | .ok m hp => ∀ (g' : Gh) (H' : Hp) (v : V), RelH T ⟨g, H⟩ g' hp H' → RV T g' H' m v → Q v H'
  | .err x hp => ∀ (g' : Gh) (H' : Hp) (cls : Value) (d : Option Addr), RelH T ⟨g, H⟩ g' hp H' → XR T g' H' x cls d → E cls d H'
  | .stuck => False
def spM (T : Tab) (n : Nat) (F : Fn) : Sp := fun vs H Q E => vs.length = n ∧ ∃ g hp args, RelH T ⟨g, H⟩ g hp H ∧ RVs T g H args vs ∧ GoF T g H (F args hp) Q E
/-- the def at f keeps its mirror -/
structure FnG (P : Program) (w : World) (mg : Str → Option Value) (base : Heap) (T : Tab) (k : Nat) (f : Addr) (fd : FuncData) (ps : List Str) (F : Fn) : Prop where
  run : ∀ (A : Around) (outer : List Env) (s : Shared) (H : Hp) (args : Args) (us : List Value) (vs : List V) (Q : VK) (E : XK), RoomG k A → Env0 P w T.K mg base A outer s H → BindsTo s fd args (ps.zip us) → Vals vs us → spM T ps.length F vs H Q E →
    codeAny (model P w) A (.call (.ref f) args) (CR (L2.CX P w) outer P w H s Q E) s
/-- a body's mirror as a def's -/
def bodyF (n len : Nat) (b : MStm) : Fn := fun args hp => match b ⟨args.map some ++ List.replicate (len - n) none, hp⟩ with
  | .ok (.rt v) s => .ok v s.hp
  | .ok .nx s => .ok .non s.hp
  | .ok _ _ => .stuck
  | .err x s => .err x s.hp
  | .stuck => .stuck
section
variable {P : Program} {w : World} {mg : Str → Option Value} {base : Heap} {T : Tab}
/-- where a def's body stands -/
abbrev cAt (P : Program) (w : World) (mg : Str → Option Value) (base : Heap) (T : Tab) (N : List Str) (qual : Str) (scope : Scope) (f : Addr) (cd : Value) (A : Around) (outer : List Env) (s : Shared) (H : Hp) (E : XK) (g : Gh) : MC :=
  ⟨cxOf (L2.CX P w) P w T.K mg base N qual scope f cd A outer s H E, T, ⟨g, H⟩, fun cls d _ H' => E cls d H', rfl⟩
theorem cAt_takes {N : List Str} {qual : Str} {scope : Scope} {f : Addr} {cd : Value} {A : Around} {outer : List Env} {s : Shared} {H : Hp} {E : XK} {g : Gh} :
    Takes (cAt P w mg base T N qual scope f cd A outer s H E g).X (cAt P w mg base T N qual scope f cd A outer s H E g).W := takes_of rfl rfl rfl rfl
theorem fnG_of {x qual : Str} {st : Stmt} {f : Addr} {fd : FuncData} {N ps : List Str} {k : Nat} {b : MStm} (F : Fun T.K x qual st f fd) (S : FnScope N ps (defScope st))
    (hb : ∀ (cdv : Value) (A : Around) (outer : List Env) (s : Shared) (H : Hp) (E : XK) (g : Gh), RoomG k (A.deeper (envOfC qual (defScope st) s.heap.objs.size f cdv)) → PMb (cAt P w mg base T N qual (defScope st) f cdv A outer s H E g) (defBody st) b) :
    FnG P w mg base T (k + 1) f fd ps (bodyF ps.length N.length b) := by
  refine ⟨fun A outer s H args us vs Q E hr e0 hbd r hsp => ?_⟩
  obtain ⟨oc, od, kV, doc, pm, an, cdv, ct, osl, rfl, lk, hcd⟩ := F.ex
  obtain ⟨hl, g, hp, as, rh, rs, go⟩ := hsp
  have inK : T.K.In s.heap := e0.mod.kin.keeps (fun b o q => (e0.bs b o q).1)
  have nl : s.heap.NoLimit := e0.mod.nolimit.keeps (fun b o q => (e0.bs b o q).1)
  have kinds : ∀ y ∈ ps.zip us, (defScope st).names.lookup y.1 = some .local ∨ ((defScope st).names.lookup y.1 = some .cell ∧ ((cellsFrom (s.heap.objs.size + 1) (defScope st).names []).lookup y.1).isSome = true) := by
    rintro ⟨n, v⟩ hy
    exact (S.par n (List.of_mem_zip hy).1).imp id fun q => ⟨q, PySem.W.cellsFrom_some _ _ _ (.inl q)⟩
  refine codeAny_call_function hr.depth (inK _ _ lk) rfl S.co S.gen rfl (PySem.W.codeRec_of inK hcd) (hbd _ _ _ _ (wpAny_newFunctionEnv_cells S.kind kinds fun env he s1 ic => ?_))
  subst he
  refine ⟨nl.keeps ic.toInCall.keep, codeAny_func ?_⟩
  have J : Inv (cAt P w mg base T N qual (defScope st) f cdv A outer s H E g).X [] (L2.start N vs) H s1 := inv_start S hr.hd e0 hl r ic
  have hbody := hb cdv A outer s H E g (hr.down _)
  have hnl : ps.length ≤ N.length := by
    have := congrArg List.length S.pre
    rw [List.length_take] at this
    omega
  have fin : ∀ {σ' : L2.St} {H' : Hp} {v : V} {u : Value} {s' : Shared}, Inv (cAt P w mg base T N qual (defScope st) f cdv A outer s H E g).X [] σ' H' s' → RelV v u → Q v H' → CE outer P w H s Q u s' :=
    fun J rv q => ⟨_, _, J.os, J.bare, J.base, J.hok, rv, q⟩
  let D : Ends := { nx := fun _ H' => Q .non H', rt := Q }
  have start_rel : Rel T ⟨g, H⟩ g ⟨as.map some ++ List.replicate (N.length - ps.length) none, hp⟩ (L2.start N vs) H := by
    refine ⟨rh, ?_, fun i m v h1 h2 => ?_⟩
    · unfold L2.start
      simp [rs.length, hl]
    · have h1 : (as.map some ++ List.replicate (N.length - ps.length) none)[i]? = some (some m) := h1
      unfold L2.start at h2
      by_cases hi : i < as.length
      · rw [List.getElem?_append_left (by simpa using hi), List.getElem?_map] at h1
        rw [List.getElem?_append_left (by simpa [← rs.length] using hi), List.getElem?_map] at h2
        cases ha : as[i]? with
        | none => rw [ha] at h1; cases h1
        | some m' =>
          rw [ha] at h1
          cases h1
          obtain ⟨x, hx, rx⟩ := rs.get ha
          rw [hx] at h2
          cases h2
          exact ⟨x, rfl, rx⟩
      · rw [List.getElem?_append_right (by simpa using Nat.le_of_not_lt hi), List.getElem?_replicate] at h1
        split at h1 <;> cases h1
  have goal : rdS (cAt P w mg base T N qual (defScope st) f cdv A outer s H E g) b D (L2.start N vs) H := by
    refine ⟨g, ⟨as.map some ++ List.replicate (N.length - ps.length) none, hp⟩, start_rel, ?_⟩
    unfold bodyF at go
    cases hm : b ⟨as.map some ++ List.replicate (N.length - ps.length) none, hp⟩ with
    | stuck => rw [hm] at go; exact go.elim
    | err x s1 => rw [hm] at go; exact fun g' H' σ' cls d mo rl xr => go g' H' cls d rl.h xr
    | ok fl s1 =>
      rw [hm] at go
      cases fl with
      | nx => exact fun g' H' σ' mo rl => go g' H' .non rl.h .non
      | rt m => exact fun g' H' σ' v mo rl rv => go g' H' v rl.h rv
      | bk => exact go.elim
      | ct => exact go.elim
  refine wpAny_mono (hbody.run [] s1 (L2.start N vs) H D J goal) (fun fl s' hs => ?_) fun e s' hs => hs
  cases fl with
  | ret u =>
    obtain ⟨v, σ', H', J', rv, q⟩ := hs
    exact fin J' rv q
  | next =>
    obtain ⟨σ', H', J', q⟩ := hs
    exact fin (v := V.non) (u := Value.none) J' rfl q
  | brk => exact hs.elim fun _ z => z.elim fun _ y => y.2.elim
  | cont => exact hs.elim fun _ z => z.elim fun _ y => y.2.elim
end
end Ma
/-! Ma12: calls of the text's own defs. -/
namespace Ma
open L2 PySem.Spec PySem PyProof.Rows
section
variable {T : Tab} {e : En} {g g' : Gh} {H H' : Hp} {hp hp' : List Cell}
theorem RelH.self (r : RelH T e g hp H) : RelH T ⟨g, H⟩ g hp H :=
  ⟨r.len, r.nd, r.cell, r.thaw, r.fzt, r.rot, fun _ _ h _ => h, fun _ h => .inl h, fun _ h => .inl h, Mono.refl _ _⟩
theorem RelH.lost (r : RelH T e g hp H) {a : Addr} (h : H a = none) : e.H a = none ∨ a ∈ e.g.ro := by
  cases q : e.H a with
  | none => exact .inl rfl
  | some o =>
    by_cases hr : a ∈ e.g.ro
    · exact .inr hr
    · have := r.frm a o q hr
      rw [h] at this; cases this
theorem RelH.comp (r : RelH T e g hp H) (q : RelH T ⟨g, H⟩ g' hp' H') : RelH T e g' hp' H' := by
  refine ⟨q.len, q.nd, q.cell, q.thaw, q.fzt, q.rot, fun a o h1 h2 => ?_, fun a h => ?_, fun a h => ?_, r.m0.trans q.m0⟩
  · refine q.frm a o (r.frm a o h1 h2) fun z => ?_
    rcases r.nro a z with y | y
    · exact h2 y
    · rw [h1] at y; cases y
  · rcases q.nfz a h with z | z | z
    · exact r.nfz a z
    · rcases r.lost z with y | y
      · exact .inr (.inl y)
      · exact .inr (.inr y)
    · rcases r.nro a z with y | y
      · exact .inr (.inr y)
      · exact .inr (.inl y)
  · rcases q.nro a h with z | z
    · exact r.nro a z
    · rcases r.lost z with y | y
      · exact .inr y
      · exact .inl y
end
/-- a def's end as an expression's -/
def upF (env : List (Option M)) : ResF → Res M
  | .ok m hp => .ok m ⟨env, hp⟩
  | .err x hp => .err x ⟨env, hp⟩
  | .stuck => .stuck
/-- called by position -/
def spP (T : Tab) (F : Fn) : Sp := fun vs H Q E => ∃ g hp args, RelH T ⟨g, H⟩ g hp H ∧ RVs T g H args vs ∧ GoF T g H (F args hp) Q E
structure FnP (P : Program) (w : World) (mg : Str → Option Value) (base : Heap) (T : Tab) (k : Nat) (f : Addr) (F : Fn) : Prop where
  run : ∀ (A : Around) (outer : List Env) (s : Shared) (H : Hp) (us : List Value) (vs : List V) (Q : VK) (E : XK), RoomG k A → Env0 P w T.K mg base A outer s H → Vals vs us → spP T F vs H Q E →
    codeAny (model P w) A (.call (.ref f) ⟨us, []⟩) (CR (L2.CX P w) outer P w H s Q E) s
/-- with the defaults of what is left out behind -/
def posF (n : Nat) (dms : List M) (F : Fn) : Fn := fun args hp => if args.length + dms.length = n then F (args ++ dms) hp else .stuck
theorem FnP.of {P : Program} {w : World} {mg : Str → Option Value} {base : Heap} {T : Tab} {k : Nat} {f : Addr} {fd : FuncData} {ps : List Str} {F : Fn} {ds : List Value} {dvs : List V} {dms : List M} (G : FnG P w mg base T k f fd ps F) (hb : L2.Binds T.K fd ps ds) (hd : Vals dvs ds)
    (hdm : ∀ g H, RVs T g H dms dvs) : FnP P w mg base T k f (posF ps.length dms F) := by
  refine ⟨fun A outer s H us vs Q E hr e0 rv ⟨g, hp, args, rh, rs, go⟩ => ?_⟩
  unfold posF at go
  by_cases hl : args.length + dms.length = ps.length
  · rw [if_pos hl] at go
    have rs2 := rs.app (hdm g H)
    have hvl : (vs ++ dvs).length = ps.length := by rw [← rs2.length, List.length_append]; exact hl
    have r2 : Vals (vs ++ dvs) (us ++ ds) := rv.append hd
    exact G.run A outer s H ⟨us, []⟩ (us ++ ds) (vs ++ dvs) Q E hr e0 (hb s us (e0.mod.kin.keeps fun b o q => (e0.bs b o q).1) (by rw [← r2.length]; exact hvl)) r2 ⟨hvl, g, hp, args ++ dms, rh, rs2, go⟩
  · rw [if_neg hl] at go; exact go.elim
section
variable {C : MC} {g : Gh} {H : Hp} {s : MS} {σ : L2.St} {k : Nat} {f : Addr} {F : Fn}
theorem sp_up {Q : VK} {args : List M} {vs : List V} (r : C.rel g s σ H) (rs : RVs C.T g H args vs) (h : Go C C.V1 σ (upF s.env (F args s.hp)) g H Q) : spP C.T F vs H Q fun cls d H' => C.W cls d σ H' := by
  refine ⟨g, s.hp, args, r.h.self, rs, ?_⟩
  cases hf : F args s.hp with
  | stuck => rw [hf] at h; exact h.elim
  | ok m hp => rw [hf] at h; exact fun g' H' v rl rv => h g' H' v rl.m0 (r.env rl.m0 (r.h.comp rl)) rv
  | err x hp => rw [hf] at h; exact fun g' H' cls d rl xr => h g' H' cls d rl.m0 (r.env rl.m0 (r.h.comp rl)) xr
/-- the callee runs -/
theorem run_p {pins : List (Addr × Obj)} {sh : Shared} {Q : VK} {us : List Value} {args : List M} {vs : List V} (G : FnP C.X.prog C.X.w C.X.mg C.X.base C.T k f F) (hr : RoomG k C.X.A) (tk : Takes C.X C.W)
    (I : Inv C.X pins σ H sh) (r : C.rel g s σ H) (rs : RVs C.T g H args vs) (rv : Vals vs us) (h : Go C C.V1 σ (upF s.env (F args s.hp)) g H Q) :
    wpAny (model C.X.prog C.X.w) C.X.A (call (.ref f) us) (EP C.X pins σ Q) C.X.xe sh := by
  have e0 : Env0 C.X.prog C.X.w C.T.K C.X.mg C.X.base C.X.A C.X.stack sh H := C.hK ▸ I.env0
  refine wpAny_call (codeAny_mono (G.run C.X.A C.X.stack sh H us vs Q _ hr e0 rv (sp_up r rs h)) fun res s' hq => ?_)
  cases res with
  | error x => exact tk x s' (XE.of_call I (fun _ _ _ z => z) hq)
  | ok fl =>
    cases fl with
    | ret u => exact I.after hq
    | next => exact hq.elim
    | brk => exact hq.elim
    | cont => exact hq.elim
/-- f(e, ..) -/
def mFn (ma : MA) (F : Fn) : ME := fun s => (ma s).bind fun ms s1 => upF s1.env (F ms s1.hp)
theorem em_fn {x : Str} {p pos : Pos} {ex : Expr} {es : List Expr} {ma : MA} (G : FnP C.X.prog C.X.w C.X.mg C.X.base C.T k f F) (hr : RoomG k C.X.A) (tk : Takes C.X C.W)
    (hm : C.X.mg x = some (.ref f)) (hk : PySem.W.keepIn C.T.K (.ref f) = true) (ha : PMa C (ex :: es) ma)
    (hg : Gl C.X x := by rfl) (hdb : (x == ("__debug__" : Str)) = false := by decide) (he : starEach (ex :: es) C.X.env = (false, eval ex C.X.env) :: starEach es C.X.env := by rfl) (hpl : (backTo pos (starEach es C.X.env)).any (·.1) = false := by rfl) :
    PMe C (.Call (.Name x p) (ex :: es) [] pos) (mFn ma F) := by
  refine ⟨fun pins sh σ H Q I h => wpAny_Call_Name_kw (ld_glob I hg hm ?_ hdb)⟩
  refine PySem.W.callWith_K (h₀ := C.X.base) I.ok.mod.kin (C.hK ▸ hk) (thn (ha.run pos pins sh σ H _ I (rdA_bind h)) fun us s1 hh => ?_) he hpl
  obtain ⟨vs, H1, I1, rv, ms, s2, g1, r1, rs, q1⟩ := hh
  exact ⟨I1.kIn, run_p G hr tk I1 r1 rs rv q1⟩
theorem em_fn0 {x : Str} {p pos : Pos} (G : FnP C.X.prog C.X.w C.X.mg C.X.base C.T k f F) (hr : RoomG k C.X.A) (tk : Takes C.X C.W)
    (hm : C.X.mg x = some (.ref f)) (hk : PySem.W.keepIn C.T.K (.ref f) = true)
    (hg : Gl C.X x := by rfl) (hdb : (x == ("__debug__" : Str)) = false := by decide) : PMe C (.Call (.Name x p) [] [] pos) (mFn mNil F) := by
  refine ⟨fun pins sh σ H Q I h => wpAny_Call_Name_kw (ld_glob I hg hm ?_ hdb)⟩
  obtain ⟨g, s, r, q⟩ := h
  exact PySem.W.callWith_K0 I.kIn (C.hK ▸ hk) (run_p (us := []) G hr tk I r .nil .nil q)
end
end Ma
/-! Ma13: a box becomes data; defs known by name; chains of comparisons. -/
namespace Ma
open L2 PySem.Spec PySem PyProof.Rows
section
variable {C : MC} {g g1 : Gh} {H H1 : Hp} {s : MS} {σ : L2.St} {ex ea eb ec : Expr} {es : List Expr} {a b c : ME} {ma : MA} {pos p : Pos} {x : Str}
/-- nobody changes the list in box n any more -/
theorem Rel.still (r : C.rel g s σ H) {n : Nat} {ms : List M} {q : Addr} (hc : s.hp[n]? = some (.lst ms)) (hq : g.ro[n]? = some q) : C.rel (g.add q) ⟨s.env, s.hp.set n .dead⟩ σ H ∧ Mono g H (g.add q) H := by
  have mo : Mono g H (g.add q) H := ⟨List.prefix_refl _, fun _ h => .inl h, fun _ _ => rfl, fun _ _ h => h⟩
  refine ⟨r.env mo ⟨by simp [Gh.add, r.h.len], r.h.nd, fun m d u h1 h2 => ?_, fun m d u h1 h2 lv f => ?_, fun u f => ?_, r.h.rot, r.h.frm, fun u f => ?_, r.h.nro, r.h.m0.trans mo⟩, mo⟩
  · by_cases hmn : m = n
    · subst hmn
      rw [List.getElem?_set_self (List.getElem?_eq_some_iff.mp hc).1] at h1
      cases h1
      trivial
    · rw [List.getElem?_set_ne (Ne.symm hmn)] at h1
      exact (r.h.cell m d u h1 h2).mono mo rfl
  · by_cases hmn : m = n
    · subst hmn
      rw [List.getElem?_set_self (List.getElem?_eq_some_iff.mp hc).1] at h1
      cases h1
      exact lv
    · rw [List.getElem?_set_ne (Ne.symm hmn)] at h1
      rcases f with f | rfl
      · exact r.h.thaw m d u h1 h2 lv f
      · exact hmn (nd_ix r.h.nd h2 hq)
  · rcases f with f | rfl
    · exact r.h.fzt u f
    · exact r.h.rot u (List.mem_of_getElem? hq)
  · rcases f with f | rfl
    · exact r.h.nfz u f
    · rcases r.h.nro u (List.mem_of_getElem? hq) with z | z
      · exact .inr (.inr z)
      · exact .inr (.inl z)
def frz (x : M) (s : MS) : Res M := match x with
  | .box n => match s.hp[n]? with
    | some (.lst ms) => .ok (.lst ms) ⟨s.env, s.hp.set n .dead⟩
    | _ => .stuck
  | m => .ok m s
def mFrz (a : ME) : ME := fun s => (a s).bind frz
theorem em_frz (h : PMe C ex a) : PMe C ex (mFrz a) := wkE h fun σ H Q q => by
  obtain ⟨g, s, r, q⟩ := q
  refine ⟨g, s, r, ?_⟩
  unfold mFrz at q
  cases ha : a s with
  | stuck => rw [ha] at q; exact q.elim
  | err e s1 => rw [ha] at q; exact q
  | ok m s1 =>
    rw [ha] at q
    intro g1 H1 v mo r1 rv
    have q := Go.later mo q
    unfold frz at q
    cases m with
    | box n =>
      dsimp only [Res.bind] at q
      cases hc : s1.hp[n]? with
      | none => rw [hc] at q; exact q.elim
      | some cl =>
        rw [hc] at q
        cases cl with
        | lst ms =>
          cases rv with
          | @box _ p e =>
            obtain ⟨r2, mo2⟩ := r1.still hc e
            obtain ⟨vs, e2, rs⟩ := r1.h.cell n _ p hc e
            exact q (g1.add p) H1 _ mo2 r2 (.lst (.inr rfl) e2 (rs.mono mo2))
        | _ => exact q.elim
    | _ => exact q.ret r1 rv

/-! ### defs by their names -/
/-- what the text's name x holds: a def that keeps its mirror -/
structure Kn (P : Program) (w : World) (mg : Str → Option Value) (base : Heap) (T : Tab) (x : Str) (k : Nat) (F : Fn) : Prop where
  ex : ∃ f : Addr, FnP P w mg base T k f F ∧ mg x = some (.ref f) ∧ PySem.W.keepIn T.K (.ref f) = true
theorem em_kn {k : Nat} {F : Fn} (G : Kn C.X.prog C.X.w C.X.mg C.X.base C.T x k F) (hr : RoomG k C.X.A) (tk : Takes C.X C.W) (ha : PMa C (ex :: es) ma)
    (hg : Gl C.X x := by rfl) (hdb : (x == ("__debug__" : Str)) = false := by decide) (he : starEach (ex :: es) C.X.env = (false, eval ex C.X.env) :: starEach es C.X.env := by rfl) (hpl : (backTo pos (starEach es C.X.env)).any (·.1) = false := by rfl) :
    PMe C (.Call (.Name x p) (ex :: es) [] pos) (mFn ma F) := by
  obtain ⟨f, h, hm, hk⟩ := G.ex
  exact em_fn h hr tk hm hk ha hg hdb he hpl
theorem em_kn0 {k : Nat} {F : Fn} (G : Kn C.X.prog C.X.w C.X.mg C.X.base C.T x k F) (hr : RoomG k C.X.A) (tk : Takes C.X C.W)
    (hg : Gl C.X x := by rfl) (hdb : (x == ("__debug__" : Str)) = false := by decide) : PMe C (.Call (.Name x p) [] [] pos) (mFn mNil F) := by
  obtain ⟨f, h, hm, hk⟩ := G.ex
  exact em_fn0 h hr tk hm hk hg hdb

/-! ### a < b < c -/
def mChain (o o' : M → M → MS → Res M) (a b c : ME) : ME := fun s => (a s).bind fun x s1 => (b s1).bind fun y s2 => (o x y s2).bind fun z s3 => match z with
  | .bl k => if k = true then (c s3).bind fun w s4 => o' y w s4 else .ok (.bl false) s3
  | _ => .stuck
theorem em_chain {op op' : CmpOp} {o o' : M → M → MS → Res M} (ho : Op2Ok C (compareOp op) o) (ho' : Op2Ok C (compareOp op') o') (ha : PMe C ea a) (hb : PMe C eb b) (hc : PMe C ec c)
    (hm : lastMarks [op, op'] [eb, ec] = false := by with_unfolding_all rfl) : PMe C (.Compare ea [op, op'] [eb, ec] pos) (mChain o o' a b c) := by
  refine ⟨fun pins sh σ H Q I h => ?_⟩
  obtain ⟨g, s, r, q⟩ := h
  refine Compare_chain (thn (ha.run pins sh σ H _ I ⟨g, s, r, Go.bind (R := C.V1) q⟩) fun v s1 ⟨x, H1, I1, l1, m1, ms1, g1, mo1, r1, rv1, q1⟩ => chain_link ?_) hm
  refine thn (hb.run pins s1 σ H1 _ I1 ⟨g1, ms1, r1, Go.bind (R := C.V1) q1⟩) fun u s2 ⟨y, H2, I2, l2, m2, ms2, g2, mo2, r2, rv2, q2⟩ => ?_
  refine thn (ho pins s2 σ H2 g2 ms2 m1 m2 x y v u _ I2 r2 (rv1.mono mo2) rv2 l1 l2 (Go.bind (R := C.V1) q2)) fun d s3 ⟨z, H3, I3, l3, m3, ms3, g3, mo3, r3, rv3, q3⟩ => ?_
  cases rv3 with
  | bl k =>
    cases l3
    refine wpAny_truthy_bool ?_
    cases k with
    | false => exact ite_ff ⟨.bl false, H3, I3, rfl, q3.ret r3 (.bl _)⟩
    | true =>
      refine ite_tt (chain_last (thn (hc.run pins s3 σ H3 _ I3 ⟨g3, ms3, r3, Go.bind (R := C.V1) q3⟩) fun w' s4 ⟨z', H4, I4, l4, m4, ms4, g4, mo4, r4, rv4, q4⟩ => ?_))
      exact ho' pins s4 σ H4 g4 ms4 m2 m4 y z' u w' Q I4 r4 (rv2.mono (mo3.trans mo4)) rv4 l2 l4 q4
  | _ => exact q3.elim
/-- -e -/
def mNeg (a : ME) : ME := fun s => (a s).bind fun x s1 => match x with
  | .int i => .ok (.int (-i)) s1
  | _ => .stuck
theorem em_neg (ha : PMe C ea a) : PMe C (.UnaryOp .USub ea pos) (mNeg a) := wkE (pe_un un_neg ha) fun σ H Q h => by
  obtain ⟨g, s, r, q⟩ := rdE_bind h
  refine ⟨g, s, r, q.imp ?_⟩
  rintro k H1 ⟨m, s1, g1, r1, rv, q1⟩
  cases rv with
  | int i => exact ⟨i, rfl, q1.ret r1 (.int _)⟩
  | _ => exact q1.elim
end
end Ma
/-! Ma14: targets in parentheses; list comprehensions. -/
namespace Ma
open L2 PySem.Spec PySem PyProof.Rows
section
variable {C : MC} {g g1 : Gh} {H H1 : Hp} {s : MS} {σ : L2.St} {ex ea eb ec : Expr} {es : List Expr} {a b c : ME} {ma : MA} {pos p : Pos} {x : Str}
def gNs : List Nat → TGs
  | [] => gNil
  | i :: is => gCons (gName i) (gNs is)
def setM : List Nat → List M → List (Option M) → Option (List (Option M))
  | [], [], env => some env
  | i :: is, m :: ms, env => setM is ms (env.set i (some m))
  | _, _, _ => none
def gTupN (is : List Nat) : MG := fun w s => match w with
  | .tup ms => match setM is ms s.env with
    | some e => .ok () ⟨e, s.hp⟩
    | none => .stuck
  | _ => .stuck
theorem wipe_put {i : Nat} {v : V} : ∀ {vs : List Nat} {σ : L2.St}, i ∈ vs → wipe (σ.set i (some v)) vs = wipe σ vs
  | [], _, h => by simp at h
  | j :: vs, σ, h => by
    unfold wipe
    by_cases hm : i ∈ vs
    · rw [wipe_put hm]
    · have e : i = j := by simpa [hm] using h
      subst e
      have key : ∀ {us : List Nat} {τ : L2.St}, i ∉ us → wipe (τ.set i (some v)) us = (wipe τ us).set i (some v) := by
        intro us
        induction us with
        | nil => intro τ _; rfl
        | cons k us ih =>
          intro τ hk
          have h1 : i ≠ k := fun z => hk (by simp [z])
          have h2 : i ∉ us := fun z => hk (by simp [z])
          unfold wipe
          rw [ih h2, List.set_comm _ _ h1]
      rw [key hm, List.set_set]
theorem ns_of {Q : L2.St → Hp → Prop} : ∀ {is : List Nat} {ms : List M} {vs : List V} {env env' : List (Option M)} {hp : List Cell} {σ : L2.St}, C.rel g ⟨env, hp⟩ σ H → RVs C.T g H ms vs → setM is ms env = some env' →
    (∀ σ', C.rel g ⟨env', hp⟩ σ' H → (∀ ws : List Nat, (∀ i ∈ is, i ∈ ws) → wipe σ' ws = wipe σ ws) → Q σ' H) → gNs is vs σ H Q
  | [], [], _, env, env', hp, σ, r, .nil, h, k => by
    cases h
    exact ⟨rfl, k σ r fun _ _ => rfl⟩
  | i :: is, m :: ms, _, env, env', hp, σ, r, .cons rv rs, h, k => by
    refine ⟨_, _, rfl, ?_⟩
    refine ns_of (is := is) (r.put (i := i) rv) rs h fun σ' r' hw => k σ' r' fun ws hs => ?_
    rw [hw ws fun j hj => hs j (by simp [hj])]
    exact wipe_put (hs i (by simp))
  | [], _ :: _, _, _, _, _, _, _, _, h, _ => by cases h
  | _ :: _, [], _, _, _, _, _, _, _, h, _ => by cases h
theorem gm_tupN {es : List Expr} {k : Nat} {is : List Nat} {n : Nat} (hc : C.X.calm = true) (h : PGs C.X es (gNs is)) (hl : is.length = n := by rfl)
    (hn : (assignEach es C.X.env).length = n := by rfl) (hst : (assignEach es C.X.env).findIdx? (·.1) = none := by rfl) : PMg C (.Tuple es k pos) (gTupN is) :=
  wkG (pg_tup hc h hn hst) fun v σ H Q ⟨g, s, w, r, rv, q⟩ => by
    unfold gTupN at q
    cases rv with
    | @tup pa ms vs e rs =>
      dsimp only at q
      cases he : setM is ms s.env with
      | none => rw [he] at q; exact q.elim
      | some env' =>
        rw [he] at q
        have hlen : ∀ {is : List Nat} {ms : List M} {env env' : List (Option M)}, setM is ms env = some env' → ms.length = is.length := by
          intro is
          induction is with
          | nil => intro ms env env' z; cases ms with
            | nil => rfl
            | cons _ _ => cases z
          | cons i is ih => intro ms env env' z; cases ms with
            | nil => cases z
            | cons _ _ => exact congrArg Nat.succ (ih z)
        exact ⟨pa, vs, rfl, .inl (.inl e), by rw [← rs.length, hlen he, hl], ns_of (env := s.env) (hp := s.hp) r rs he fun σ' r' _ => q g H σ' (Mono.refl _ _) r'⟩
    | _ => exact q.elim

/-! ### the targets of a comprehension -/
def rdGc (C : MC) (ws : List Nat) (m : MG) : TG := fun v σ H Q => ∃ g s w, C.rel g s σ H ∧ RV C.T g H w v ∧ match m w s with
  | .ok _ s1 => ∀ (σ' : L2.St), C.rel g s1 σ' H → wipe σ' ws = wipe σ ws → Q σ' H
  | _ => False
abbrev PMc (C : MC) (ws : List Nat) (tg : Expr) (m : MG) : Prop := PG C.X tg (rdGc C ws m)
theorem gc_name (i : Nat) {ws : List Nat} (hN : C.X.N.Nodup) (hi : C.X.N[i]? = some x) (hx : Loc C.X.env.scope x) (hw : i ∈ ws) (hf : C.X.fn x = true ∨ C.X.env.scope.names.lookup x = some .local := by first | exact .inl rfl | exact .inr rfl | assumption) : PMc C ws (.Name x pos) (gSet i) :=
  wkG (pg_name hN hi hx hf) fun v σ H Q ⟨g, s, w, r, rv, q⟩ => q _ (r.put rv) (wipe_put hw)
theorem gc_tup {es : List Expr} {k : Nat} {is ws : List Nat} {n : Nat} (hc : C.X.calm = true) (h : PGs C.X es (gNs is)) (hw : ∀ i ∈ is, i ∈ ws) (hl : is.length = n := by rfl)
    (hn : (assignEach es C.X.env).length = n := by rfl) (hst : (assignEach es C.X.env).findIdx? (·.1) = none := by rfl) : PMc C ws (.Tuple es k pos) (gTupN is) :=
  wkG (pg_tup hc h hn hst) fun v σ H Q ⟨g, s, w, r, rv, q⟩ => by
    unfold gTupN at q
    cases rv with
    | @tup pa ms vs e rs =>
      dsimp only at q
      cases he : setM is ms s.env with
      | none => rw [he] at q; exact q.elim
      | some env' =>
        rw [he] at q
        have hlen : ∀ {is : List Nat} {ms : List M} {env env' : List (Option M)}, setM is ms env = some env' → ms.length = is.length := by
          intro is
          induction is with
          | nil => intro ms env env' z; cases ms with
            | nil => rfl
            | cons _ _ => cases z
          | cons i is ih => intro ms env env' z; cases ms with
            | nil => cases z
            | cons _ _ => exact congrArg Nat.succ (ih z)
        exact ⟨pa, vs, rfl, .inl (.inl e), by rw [← rs.length, hlen he, hl], ns_of (env := s.env) (hp := s.hp) r rs he fun σ' r' z => q σ' r' (z ws hw)⟩
    | _ => exact q.elim

/-! ### [elt for target in iter if ..] -/
def wipeM (env : List (Option M)) : List Nat → List (Option M)
  | [] => env
  | v :: vs => (wipeM env vs).set v none
theorem Rel.wipe {T : Tab} {e : En} : ∀ {vs : List Nat} {s : MS}, Rel T e g s σ H → Rel T e g ⟨wipeM s.env vs, s.hp⟩ (wipe σ vs) H
  | [], s, r => r
  | v :: vs, s, r => by
    have q := Rel.wipe (vs := vs) r
    refine ⟨q.h, by simp [wipeM, L2.wipe, q.len], fun i m x h1 h2 => ?_⟩
    have h1 : ((wipeM s.env vs).set v none)[i]? = some (some m) := h1
    have h2 : ((L2.wipe σ vs).set v none)[i]? = some x := h2
    rw [List.getElem?_set] at h1 h2
    by_cases hv : v = i
    · rw [if_pos hv] at h1
      split at h1 <;> cases h1
    · rw [if_neg hv] at h1 h2
      exact q.sl i m x h1 h2
def lcLoop (vs : List Nat) (tg : MG) (tt : MT) (el : ME) : List M → List M → MS → Res (List M)
  | [], acc, s => .ok acc s
  | x :: xs, acc, s => match tg x ⟨wipeM s.env vs, s.hp⟩ with
    | .ok _ s1 => match tt s1 with
      | .ok true s2 => match el s2 with
        | .ok y s3 => if acc.length < big then lcLoop vs tg tt el xs (acc ++ [y]) ⟨s.env, s3.hp⟩ else .stuck
        | _ => .stuck
      | .ok false s2 => lcLoop vs tg tt el xs acc ⟨s.env, s2.hp⟩
      | _ => .stuck
    | _ => .stuck
def mLc (vs : List Nat) (it : MI) (tg : MG) (tt : MT) (el : ME) : ME := fun s => (it s).bind fun xs s1 => (lcLoop vs tg tt el xs [] s1).bind fun ms s2 => .ok (.lst ms) s2
/-- the new list, beside all that the machine knows -/
structure Side (e : En) (g : Gh) (H : Hp) (D : Addr) (vs : List V) : Prop where
  at_ : H D = some (.lst vs)
  nf : ¬ g.fz D
  nr : D ∉ g.ro
  ne : e.H D = none
theorem RelH.side {T : Tab} {e : En} {hp : List Cell} {D : Addr} {vs ws : List V} (r : RelH T e g hp H) (d : Side e g H D vs) : RelH T e g hp (upd H D (.lst ws)) ∧ Mono g H g (upd H D (.lst ws)) ∧ Side e g (upd H D (.lst ws)) D ws := by
  have mo : Mono g H g (upd H D (.lst ws)) := ⟨List.prefix_refl _, fun _ h => h, fun a f => upd_ne fun z => d.nf (z ▸ f), fun a us h => by
    have : a ≠ D := fun z => by subst z; rw [d.at_] at h; cases h
    rw [upd_ne this]; exact h⟩
  have nr : ∀ {n : Nat} {a : Addr}, g.ro[n]? = some a → a ≠ D := fun h z => d.nr (z ▸ List.mem_of_getElem? h)
  refine ⟨⟨r.len, r.nd, fun n c a h1 h2 => (r.cell n c a h1 h2).mono mo (upd_ne (nr h2)), r.thaw, fun a f => ?_, fun a h => ?_, fun a o h1 h2 => ?_, r.nfz, r.nro, r.m0.trans mo⟩, mo, ⟨upd_same, d.nf, d.nr, d.ne⟩⟩
  · obtain ⟨o, q⟩ := r.fzt a f
    exact ⟨o, by rw [upd_ne fun (z : a = D) => d.nf (z ▸ f)]; exact q⟩
  · obtain ⟨o, q⟩ := r.rot a h
    exact ⟨o, by rw [upd_ne fun (z : a = D) => d.nr (z ▸ h)]; exact q⟩
  · have q := r.frm a o h1 h2
    rw [upd_ne fun z => by subst z; rw [d.ne] at h1; cases h1]
    exact q
theorem Side.later {T : Tab} {e : En} {hp hp' : List Cell} {D : Addr} {vs : List V} (d : Side e g H D vs) (q : RelH T ⟨g, H⟩ g1 hp' H1) : Side e g1 H1 D vs := by
  refine ⟨q.frm D _ d.at_ d.nr, fun f => ?_, fun h => ?_, d.ne⟩
  · rcases q.nfz D f with z | z | z
    · exact d.nf z
    · have z : H D = none := z
      rw [d.at_] at z; cases z
    · exact d.nr z
  · rcases q.nro D h with z | z
    · exact d.nr z
    · have z : H D = none := z
      rw [d.at_] at z; cases z
/-- what the loop's end has to give -/
def GoL (C : MC) (σ : L2.St) (D : Addr) (r : Res (List M)) (g : Gh) (H : Hp) (Q : Hp → Prop) : Prop := match r with
  | .ok ms s => ∀ (g' : Gh) (H' : Hp) (vs : List V), Mono g H g' H' → C.rel g' s σ H' → Side C.e g' H' D vs → RVs C.T g' H' ms vs → Q H'
  | _ => False
theorem GoL.later {D : Addr} {r : Res (List M)} {Q : Hp → Prop} (m : Mono g H g1 H1) (h : GoL C σ D r g H Q) : GoL C σ D r g1 H1 Q := by
  cases r with
  | ok a s => exact fun g' H' v q => h g' H' v (m.trans q)
  | err x s => exact h
  | stuck => exact h
abbrev MC.inBlk (C : MC) (s : Shared) (H : Hp) (scope : Scope) (D : Addr) (cl : List (Str × Addr)) (fp : List Addr) (e : En) : MC := ⟨C.X.blk s H scope (compEnvC scope cl D C.X.env) fp, C.T, e, fun _ _ _ _ => False, C.hK⟩
theorem lc_rd {mi : MI} {mg : MG} {mt : MT} {me : ME} {vs : List Nat} {g' : TG} {tt : TT} {te : TE} (hg : ∀ e v σ H Q, rdGc ⟨C.X, C.T, e, fun _ _ _ _ => False, C.hK⟩ vs mg v σ H Q → g' v σ H Q)
    (ht : ∀ e σ H Q, rdT ⟨C.X, C.T, e, fun _ _ _ _ => False, C.hK⟩ mt σ H Q → tt σ H Q) (he : ∀ e σ H Q, rdE ⟨C.X, C.T, e, fun _ _ _ _ => False, C.hK⟩ me σ H Q → te σ H Q) {σ : L2.St} {H : Hp} {Q : VK}
    (h : rdE C (mLc vs mi mg mt me) σ H Q) : tLc (rdI C mi) g' tt te vs σ H Q := by
  obtain ⟨g, s, r, q⟩ := h
  refine ⟨g, s, r, ?_⟩
  unfold mLc at q
  unfold GoI
  cases hm : mi s with
  | stuck => rw [hm] at q; exact q.elim
  | err x s1 => rw [hm] at q; exact q
  | ok items s1 =>
    rw [hm] at q
    dsimp only [Res.bind] at q
    intro g0 H0 J mo0 r0 wk D hD
    have q := Go.later mo0 q
    -- the loop's end
    have fin0 : GoL C σ D (lcLoop vs mg mt me items [] s1) g0 H0 (fun H' => Q (.ref D) H') := by
      unfold GoL
      cases hl : lcLoop vs mg mt me items [] s1 with
      | stuck => rw [hl] at q; exact q.elim
      | err x s2 => exact absurd hl (by
          have : ∀ (xs acc : List M) (s : MS), lcLoop vs mg mt me xs acc s ≠ .err x s2 := by
            intro xs
            induction xs with
            | nil => intro acc s z; cases z
            | cons y ys ih =>
              intro acc s z
              unfold lcLoop at z
              split at z
              · split at z
                · split at z
                  · split at z
                    · exact ih _ _ z
                    · cases z
                  · cases z
                · exact ih _ _ z
                · cases z
              · cases z
          exact this _ _ _)
      | ok ms s2 =>
        rw [hl] at q
        intro g' H' ws mo r' d rs
        have mo2 : Mono g' H' (g'.add D) H' := ⟨List.prefix_refl _, fun _ h => .inl h, fun _ _ => rfl, fun _ _ h => h⟩
        have r2 : C.rel (g'.add D) s2 σ H' := r'.env mo2 ⟨r'.h.len, r'.h.nd, fun n c a h1 h2 => (r'.h.cell n c a h1 h2).mono mo2 rfl, fun n c a h1 h2 lv f => by
          rcases f with f | rfl
          · exact r'.h.thaw n c a h1 h2 lv f
          · exact d.nr (List.mem_of_getElem? h2), fun a f => by
          rcases f with f | rfl
          · exact r'.h.fzt a f
          · exact ⟨_, d.at_⟩, r'.h.rot, r'.h.frm, fun a f => by
          rcases f with f | rfl
          · exact r'.h.nfz a f
          · exact .inr (.inl d.ne), r'.h.nro, r'.h.m0.trans mo2⟩
        exact q (g'.add D) H' (.ref D) (mo.trans mo2) r2 (.lst (.inr rfl) d.at_ (rs.mono mo2))
    have hDr : D ∉ g0.ro := fun z => by obtain ⟨o, e⟩ := r0.h.rot D z; rw [hD] at e; cases e
    have hDf : ¬ g0.fz D := fun z => by obtain ⟨o, e⟩ := r0.h.fzt D z; rw [hD] at e; cases e
    have hDe : C.e.H D = none := by
      rcases r0.h.lost hD with z | z
      · exact z
      · exact absurd (r0.h.m0.ro.subset z) hDr
    have mo1 := mono_laid (o := .lst []) r0.h hD
    have r1 := r0.laid (o := .lst []) hD
    obtain ⟨G, Y, w, hG, hY⟩ := wk
    refine lc_it w (fun i H => ∃ g hp acc ws, Mono g0 H0 g H ∧ C.rel g ⟨s1.env, hp⟩ σ H ∧ Side C.e g H D ws ∧ RVs C.T g H acc ws ∧ GoL C σ D (lcLoop vs mg mt me (items.drop i) acc ⟨s1.env, hp⟩) g H (fun H' => Q (.ref D) H'))
      ⟨g0, s1.hp, [], [], mo1, r1, ⟨upd_same, hDf, hDr, hDe⟩, .nil, fin0.later mo1⟩ (fun i H _ ⟨g, _, _, _, mo, _⟩ => hG g H mo) ?_ ?_
    · rintro i x H1 H2 hi ⟨g1, hp1, acc, ws, mo1, r1, d1, rs1, q1⟩ y
      obtain ⟨m, hm, mo2, r2, rv, same⟩ := hY i g1 H1 ⟨s1.env, hp1⟩ σ x H2 hi mo1 r1 y
      have d2 : Side C.e g1 H2 D ws := ⟨same _ _ d1.at_, d1.nf, d1.nr, d1.ne⟩
      have q1 := q1.later mo2
      have rs2 := rs1.mono mo2
      rw [drop_of hm] at q1
      unfold lcLoop at q1
      -- the turn starts from here
      have rt : Rel C.T ⟨g1, H2⟩ g1 ⟨wipeM s1.env vs, hp1⟩ (wipe σ vs) H2 := by
        have := Rel.wipe (vs := vs) r2
        exact ⟨this.h.self, this.len, this.sl⟩
      refine hg ⟨g1, H2⟩ _ _ _ _ ⟨g1, ⟨wipeM s1.env vs, hp1⟩, m, rt, rv, ?_⟩
      dsimp only at q1
      cases ht1 : mg m ⟨wipeM s1.env vs, hp1⟩ with
      | stuck => rw [ht1] at q1; exact q1.elim
      | err e s2 => rw [ht1] at q1; exact q1.elim
      | ok u s2 =>
        rw [ht1] at q1
        intro σ2 r3 hw
        refine ⟨by rw [hw]; exact (by
          have : ∀ (us : List Nat) (τ : L2.St), wipe (wipe τ us) us = wipe τ us := by
            intro us τ
            apply List.ext_getElem?
            intro j
            have key : ∀ (us : List Nat) (τ : L2.St) (j : Nat), (wipe τ us)[j]? = if j ∈ us then (if j < τ.length then some none else none) else τ[j]? := by
              intro us
              induction us with
              | nil => intro τ j; simp [wipe]
              | cons k us ih =>
                intro τ j
                unfold wipe
                rw [List.getElem?_set, ih, wipe_length]
                by_cases hk : k = j
                · subst hk; simp
                · simp [hk, Ne.symm hk]
            rw [key, key, wipe_length]
            split <;> rfl
          exact this vs σ), ?_⟩
        refine ht ⟨g1, H2⟩ _ _ _ ⟨g1, s2, r3, ?_⟩
        dsimp only at q1
        cases ht2 : mt s2 with
        | stuck => rw [ht2] at q1; exact q1.elim
        | err e s3 => rw [ht2] at q1; exact q1.elim
        | ok k s3 =>
          rw [ht2] at q1
          intro g3 H3 b mo3 r3' eb
          cases eb
          cases k with
          | false =>
            rw [if_neg Bool.false_ne_true]
            have rc : RelH C.T C.e g3 s3.hp H3 := r2.h.comp r3'.h
            have mo3' := r3'.h.m0
            exact ⟨g3, s3.hp, acc, ws, (mo1.trans mo2).trans mo3', r2.env mo3' rc, d2.later (hp := hp1) r3'.h, rs2.mono mo3', q1.later mo3'⟩
          | true =>
            rw [if_pos rfl]
            refine he ⟨g1, H2⟩ _ _ _ ⟨g3, s3, r3', ?_⟩
            dsimp only at q1
            cases ht3 : me s3 with
            | stuck => rw [ht3] at q1; exact q1.elim
            | err e s4 => rw [ht3] at q1; exact q1.elim
            | ok y s4 =>
              rw [ht3] at q1
              intro g4 H4 yv mo4 r4 ry
              dsimp only at q1
              by_cases hb : acc.length < big
              · rw [if_pos hb] at q1
                have mo4' := r4.h.m0
                have rc : RelH C.T C.e g4 s4.hp H4 := r2.h.comp r4.h
                have d4 := d2.later (hp := hp1) r4.h
                have rs4 := rs2.mono mo4'
                obtain ⟨rh5, mo5, d5⟩ := rc.side (ws := ws ++ [yv]) d4
                exact ⟨ws, d4.at_, by rw [← rs4.length, sizeLine_eq]; exact hb, g4, s4.hp, acc ++ [y], ws ++ [yv], ((mo1.trans mo2).trans mo4').trans mo5, (r2.env mo4' rc).env mo5 rh5, d5, (rs4.mono mo5).app (.cons (ry.mono mo5) .nil), q1.later (mo4'.trans mo5)⟩
              · rw [if_neg hb] at q1; exact q1.elim
    · rintro H1 ⟨g1, hp1, acc, ws, mo1, r1, d1, rs1, q1⟩
      rw [List.drop_length] at q1
      exact q1 g1 H1 ws (Mono.refl _ _) r1 d1 rs1
end
end Ma
/-! Ma15: list comprehensions as expressions and as statements. -/
namespace Ma
open L2 PySem.Spec PySem PyProof.Rows
section
variable {C : MC} {tg iter elt : Expr} {ifs : List Expr} {scope : Scope} {own : List (Str × Nat)} {pos spos : Pos} {mi : MI} {mg : MG} {mt : MT} {me : ME}
def mYes : MT := fun s => .ok true s
abbrev PMts (C : MC) (ifs : List Expr) (mt : MT) : Prop := PTs C.X ifs (rdT C mt)
theorem tsm_nil : PMts C [] mYes := ⟨fun pins s σ H Q I ⟨g, ms, r, q⟩ => pts_nil.run pins s σ H Q I (q.ret r rfl)⟩
theorem tsm_one {c : Expr} (h : PMt C c mt) : PMts C [c] mt := pts_one h
theorem em_lc (hc : C.X.calm = true) (hN : C.X.N.Nodup) (hi : PMi C tg iter mi) (ok : BlkOk C.X.N C.X.env.scope scope own)
    (hg : ∀ (s : Shared) (H : Hp) (D : Addr) (cl : List (Str × Addr)) (fp : List Addr) (e : En), PMc (C.inBlk s H scope D cl fp e) (own.map (·.2)) tg mg)
    (ht : ∀ (s : Shared) (H : Hp) (D : Addr) (cl : List (Str × Addr)) (fp : List Addr) (e : En), PMts (C.inBlk s H scope D cl fp e) ifs mt)
    (he : ∀ (s : Shared) (H : Hp) (D : Addr) (cl : List (Str × Addr)) (fp : List Addr) (e : En), PMe (C.inBlk s H scope D cl fp e) elt me)
    (hs : ∀ x, foldedSetIterable iter C.X.env x = pure x := by intro _; rfl) : PMe C (.ListComp elt [⟨tg, iter, ifs, 0⟩] scope pos) (mLc (own.map (·.2)) mi mg mt me) :=
  wkE (pe_lc (g := fun v σ H Q => ∃ e, rdGc ⟨C.X, C.T, e, fun _ _ _ _ => False, C.hK⟩ (own.map fun (p : Str × Nat) => p.2) mg v σ H Q) (tt := fun σ H Q => ∃ e, rdT ⟨C.X, C.T, e, fun _ _ _ _ => False, C.hK⟩ mt σ H Q) (te := fun σ H Q => ∃ e, rdE ⟨C.X, C.T, e, fun _ _ _ _ => False, C.hK⟩ me σ H Q) hc hN hi ok
    (fun s H D cl fp => ⟨fun pins s1 σ H1 v u Q I r ⟨e, q⟩ => (hg s H D cl fp e).run pins s1 σ H1 v u Q I r q⟩)
    (fun s H D cl fp => ⟨fun pins s1 σ H1 Q I ⟨e, q⟩ => (ht s H D cl fp e).run pins s1 σ H1 Q I q⟩)
    (fun s H D cl fp => ⟨fun pins s1 σ H1 Q I ⟨e, q⟩ => (he s H D cl fp e).run pins s1 σ H1 Q I q⟩) hs)
    fun σ H Q h => lc_rd (fun e v σ H Q z => ⟨e, z⟩) (fun e σ H Q z => ⟨e, z⟩) (fun e σ H Q z => ⟨e, z⟩) h
theorem sm_setLc (i : Nat) {y : Str} {py : Pos} (hc : C.X.calm = true) (hN : C.X.N.Nodup) (hi : PMi C tg iter mi) (ok : BlkOk C.X.N C.X.env.scope scope own)
    (hg : ∀ (s : Shared) (H : Hp) (D : Addr) (cl : List (Str × Addr)) (fp : List Addr) (e : En), PMc (C.inBlk s H scope D cl fp e) (own.map (·.2)) tg mg)
    (ht : ∀ (s : Shared) (H : Hp) (D : Addr) (cl : List (Str × Addr)) (fp : List Addr) (e : En), PMts (C.inBlk s H scope D cl fp e) ifs mt)
    (he : ∀ (s : Shared) (H : Hp) (D : Addr) (cl : List (Str × Addr)) (fp : List Addr) (e : En), PMe (C.inBlk s H scope D cl fp e) elt me)
    (hy : C.X.N[i]? = some y := by rfl) (hyl : C.X.env.scope.names.lookup y = some .local := by rfl)
    (hsw : swapsWith (.ListComp elt [⟨tg, iter, ifs, 0⟩] scope pos) (some (.Name y py)) spos.line C.X.env = pure true := by exact sw_true rfl rfl rfl (by decide +kernel))
    (hs : ∀ x, foldedSetIterable iter C.X.env x = pure x := by intro _; rfl) : PMs C (.Assign [.Name y py] (.ListComp elt [⟨tg, iter, ifs, 0⟩] scope pos) spos) (sSet i (mLc (own.map (·.2)) mi mg mt me)) :=
  wkS (ps_setLc (g := fun v σ H Q => ∃ e, rdGc ⟨C.X, C.T, e, fun _ _ _ _ => False, C.hK⟩ (own.map fun (p : Str × Nat) => p.2) mg v σ H Q) (tt := fun σ H Q => ∃ e, rdT ⟨C.X, C.T, e, fun _ _ _ _ => False, C.hK⟩ mt σ H Q) (te := fun σ H Q => ∃ e, rdE ⟨C.X, C.T, e, fun _ _ _ _ => False, C.hK⟩ me σ H Q) hc hN hy hyl hsw hi ok
    (fun s H D cl fp => ⟨fun pins s1 σ H1 v u Q I r ⟨e, q⟩ => (hg s H D cl fp e).run pins s1 σ H1 v u Q I r q⟩)
    (fun s H D cl fp => ⟨fun pins s1 σ H1 Q I ⟨e, q⟩ => (ht s H D cl fp e).run pins s1 σ H1 Q I q⟩)
    (fun s H D cl fp => ⟨fun pins s1 σ H1 Q I ⟨e, q⟩ => (he s H D cl fp e).run pins s1 σ H1 Q I q⟩) hs)
    fun D σ H h => by
      obtain ⟨g, s, r, q⟩ := h
      refine lc_rd (C := C) (mi := mi) (fun e v σ H Q z => ⟨e, z⟩) (fun e σ H Q z => ⟨e, z⟩) (fun e σ H Q z => ⟨e, z⟩) ⟨g, s, r, (Go.bindS (R := C.V1) (σ := σ) q).imp ?_⟩
      rintro x H1 ⟨m, s1, g1, mo, r1, rv, q1⟩
      exact q1.nx (r1.put rv)
end
end Ma
/-! Ma16: a law's end: its mirror gives True. -/
namespace Ma
open L2 PySem.Spec PySem PyProof.Rows
/-- the law's def, called at the heap behind the top, with the script known as T tells -/
theorem lawG {P : Program} {w : World} {T : Tab} {mg mb : Str → Option Value} {k : Nat} {fa a : Addr} {F : Fn} {s₁ : Shared} {vs : List Value} {ns : List Int} {hp : List Cell}
    (KX : T.K.In s₁.heap) (hns : s₁.heap.Ns mainGlobals mg) (hb : s₁.heap.Ns builtinsNs mb) (hbb : ∀ x : Str, x ≠ "__name__" → mb x = bootBuiltins x) (hlim : s₁.heap.NoLimit) (hg : s₁.gens = #[])
    (ha : s₁.heap.get? a = some { cls := .type "list", data := .seq vs.toArray }) (hi : IntsAre vs ns) (hl : ns.length ≤ sizeLine) (hr : Room k callerA)
    (G : ∀ base : Heap, T.K.In base → base.Ns mainGlobals mg → FnP P w mg base T k fa F) (hF : F [.scr ns] [] = .ok (.bl true) hp) :
    codeAny (model P w) callerA (.call (.ref fa) ⟨[.ref a], []⟩) (fun r s' => r = .ok (.ret (.bool true)) ∧ OldK s₁.heap s'.heap ∧ s'.os = s₁.os ∧ AllBare s'.gens) s₁ := by
  have vints := vals_ints hi
  let scrO : Obj := { cls := .type "list", data := .seq vs.toArray }
  -- H tracks the script at most; gh: its ghosts
  have main : ∀ (H : Hp) (gh : Gh), gh.ro = [] → (∀ b, gh.fz b → ∃ o, H b = some o) → (∀ b o, H b = some o → b = a ∧ o = .frz scrO (.lst (ns.map V.int))) → HOk P w H s₁.heap → (H a ≠ none → T.K.lookup a = none) → RV T gh H (.scr ns) (.ref a) →
      codeAny (model P w) callerA (.call (.ref fa) ⟨[.ref a], []⟩) (fun r s' => r = .ok (.ret (.bool true)) ∧ OldK s₁.heap s'.heap ∧ s'.os = s₁.os ∧ AllBare s'.gens) s₁ := by
    intro H gh gro gfz only hok notK rv
    have free : ∀ {b : Addr} {o : Obj}, s₁.heap.get? b = some o → o ≠ scrO → H b = none := fun {b o} e ne => by
      cases q : H b with
      | none => rfl
      | some u =>
        obtain ⟨rfl, _⟩ := only b u q
        rw [ha] at e
        exact absurd (Option.some.inj e).symm ne
    have nsb : ∀ {b : Addr} {m : Str → Option Value}, s₁.heap.Ns b m → (hidT s₁.heap H).Ns b m := fun {b m} ⟨o, es, ep, e, d, r⟩ =>
      ⟨o, es, ep, hidT_get e (free e fun z => by
        rw [z] at d
        have d' : Data.seq vs.toArray _ = Data.dict es ep := d
        cases d'), d, r⟩
    have kb : T.K.In (hidT s₁.heap H) := fun b o e => hidT_get (KX b o e) (by
      cases q : H b with
      | none => rfl
      | some u =>
        obtain ⟨rfl, _⟩ := only b u q
        rw [notK (by rw [q]; simp)] at e; cases e)
    have md : Mod T.K mg (hidT s₁.heap H) := ⟨kb, nsb hns, ⟨mb, nsb hb, hbb⟩, hlim.elim fun mc h => ⟨mc, nsb h.1, h.2⟩⟩
    have e0 : Env0 P w T.K mg (hidT s₁.heap H) callerA [] s₁ H := ⟨rfl, md, fun _ _ e => of_hidT e, Nat.le_of_eq (hidT_size _ _), trivial, fun b hb => (by cases hb), hok, .of_eq hg⟩
    have rh : RelH T ⟨gh, H⟩ gh [] H := ⟨by rw [gro]; rfl, by rw [gro]; exact List.nodup_nil, fun n c q h => (by simp at h), fun n c q h => (by simp at h), gfz, fun q h => (by rw [gro] at h; cases h), fun _ _ h _ => h, fun _ h => .inl h, fun q h => (by rw [gro] at h; cases h), Mono.refl _ _⟩
    have sp : spP T F [.ref a] H (fun v _ => v = .bl true) (fun _ _ _ => False) := ⟨gh, [], [.scr ns], rh, .cons rv .nil, by
      rw [hF]
      intro g' H' v _ r
      cases r
      rfl⟩
    refine codeAny_mono ((G _ kb (nsb hns)).run callerA [] s₁ H [.ref a] [.ref a] _ _ ⟨hr, rfl⟩ e0 (.cons rfl .nil) sp) fun r s' h => ?_
    cases r with
    | error e =>
      obtain ⟨_, _, _, _, _, _, _, _, _, _, _, _, z⟩ := (h : L2.CX P w [] H s₁ (fun _ _ _ => False) e s')
      exact z.elim
    | ok fl =>
      cases fl with
      | ret u =>
        obtain ⟨v, H', os, bare, un, hok', r', q⟩ := h
        have q' : v = .bl true := q
        subst q'
        obtain rfl : u = Value.bool true := r'
        refine ⟨rfl, OldK.of_keep fun b o e => ?_, os, bare⟩
        cases q : H b with
        | none => exact un.keep b o e q (fun z => by cases z) (fun z => by cases z)
        | some u =>
          obtain ⟨rfl, rfl⟩ := only b u q
          rw [ha] at e
          cases e
          exact (hok' _ _ (un.frzs _ _ _ q)).1
      | next => exact h.elim
      | brk => exact h.elim
      | cont => exact h.elim
  cases hk : T.K.lookup a with
  | some o =>
    have e := KX a o hk
    rw [ha] at e
    cases e
    refine main (fun _ => none) ⟨[], fun _ => False⟩ rfl (fun b h => h.elim) (fun b o h => by cases h) (fun b u h => by cases h) (fun h => absurd rfl h) (.scrK fun H => ?_)
    exact .inr ⟨_, vs.toArray, _, hk, rfl, rfl, rfl, by rw [List.size_toArray, hi.length]; exact hl, by simpa using vints⟩
  | none =>
    have at_ : (fun b => if b = a then some (HO.frz scrO (.lst (ns.map V.int))) else none : Hp) a = some (.frz scrO (.lst (ns.map V.int))) := if_pos rfl
    refine main (fun b => if b = a then some (.frz scrO (.lst (ns.map V.int))) else none) ⟨[], fun b => b = a⟩ rfl (fun b h => by subst h; exact ⟨_, if_pos rfl⟩) (fun b o h => ?_) (fun b u h => ?_) (fun _ => hk) (.scr rfl at_)
    · by_cases hb : b = a
      · refine ⟨hb, ?_⟩
        have h' := (if_pos hb).symm.trans h
        exact (Option.some.inj h').symm
      · have h' := (if_neg hb).symm.trans h
        cases h'
    · by_cases hb : b = a
      · have h' := (if_pos hb).symm.trans h
        cases h'
        subst hb
        exact ⟨ha, by rw [List.length_map]; exact hl, vs, _, vints, ha⟩
      · have h' := (if_neg hb).symm.trans h
        cases h'
theorem walkG {l : PySem.W.OpenLaw} {n k : Nat} {q : Program} {loose : List Str} {XP : (Str → Option Value) → Heap → Prop} {YP : World → Heap → Prop} {d : DefRec}
    (hn : l.most = some n) (hn2 : n ≤ sizeLine) (hdf : d.params.defaults = []) (hr : Room k callerA)
    (F : ∀ (w : World) (mg : Str → Option Value) (fa : Addr) (h : Heap), YP w h → h.Ns mainGlobals mg → mg d.name = some (.ref fa) →
      ∃ (T : Tab) (Fm : Fn), T.K.In h ∧ (∀ ns : List Int, ns.length ≤ n → ∃ hp, Fm [.scr ns] [] = .ok (.bl true) hp) ∧
        ∀ base : Heap, T.K.In base → base.Ns mainGlobals mg → FnP l.prog w mg base T k fa Fm) :
    PySem.W.WalkO q loose XP YP l.row.toRowW d [] (fun f vs => PySem.call f vs) := by
  refine Att.attach_call hn hdf fun w s₀ s₁ mg mb fa o pm cd doc a vs ns Gr Y ho hd hcd hmg hobj hints hlen hg => ?_
  obtain ⟨T, Fm, KX, hsp, hF⟩ := F w mg fa _ Y Gr.T.g hmg
  obtain ⟨hp, e⟩ := hsp ns hlen
  exact lawG KX Gr.T.g Gr.T.b Gr.T.builtins Gr.T.nolimit hg hobj hints (Nat.le_trans hlen hn2) hr hF e
end Ma
/-! Ma17: defs with *args; instances: made, their fields, their methods. -/
namespace Ma
open L2 PySem.Spec PySem PyProof.Rows
section
variable {P : Program} {w : World} {mg : Str → Option Value} {base : Heap} {T : Tab}
/-- def f(a, .., *v): what is left over in a tuple -/
def starF (n : Nat) (F : Fn) : Fn := fun args hp => if n ≤ args.length ∧ args.length ≤ big then F (args.take n ++ [.tup (args.drop n)]) hp else .stuck
theorem rdS_start {C : MC} {n len : Nat} {b : MStm} {N : List Str} {Q : VK} {E : XK} {g : Gh} {H : Hp} {hp : List Cell} {as : List M} {vs : List V} (hC : C.e = ⟨g, H⟩) (hW : C.W = fun cls d _ H' => E cls d H') (hN : N.length = len) (hn : as.length = n) (hnl : n ≤ len)
    (rh : RelH C.T ⟨g, H⟩ g hp H) (rs : RVs C.T g H as vs) (go : GoF C.T g H (bodyF n len b as hp) Q E) : rdS C b { nx := fun _ H' => Q .non H', rt := Q } (L2.start N vs) H := by
  refine ⟨g, ⟨as.map some ++ List.replicate (len - n) none, hp⟩, ?_, ?_⟩
  · show Rel C.T C.e _ _ _ _
    rw [hC]
    refine ⟨rh, ?_, fun i m v h1 h2 => ?_⟩
    · unfold L2.start
      simp [rs.length, hN, ← hn]
    · have h1 : (as.map some ++ List.replicate (len - n) none)[i]? = some (some m) := h1
      unfold L2.start at h2
      by_cases hi : i < as.length
      · rw [List.getElem?_append_left (by simpa using hi), List.getElem?_map] at h1
        rw [List.getElem?_append_left (by simpa [← rs.length] using hi), List.getElem?_map] at h2
        cases ha : as[i]? with
        | none => rw [ha] at h1; cases h1
        | some m' =>
          rw [ha] at h1
          cases h1
          obtain ⟨x, hx, rx⟩ := rs.get ha
          rw [hx] at h2
          cases h2
          exact ⟨x, rfl, rx⟩
      · rw [List.getElem?_append_right (by simpa using Nat.le_of_not_lt hi), List.getElem?_replicate] at h1
        split at h1 <;> cases h1
  · unfold bodyF at go
    cases hm : b ⟨as.map some ++ List.replicate (len - n) none, hp⟩ with
    | stuck => rw [hm] at go; exact go.elim
    | err x s1 =>
      rw [hm] at go
      intro g' H' σ' cls d mo rl xr
      rw [hW]
      have rl : Rel C.T C.e g' s1 σ' H' := rl
      rw [hC] at rl
      exact go g' H' cls d rl.h xr
    | ok fl s1 =>
      rw [hm] at go
      cases fl with
      | nx =>
        intro g' H' σ' mo rl
        have rl : Rel C.T C.e g' s1 σ' H' := rl
        rw [hC] at rl
        exact go g' H' .non rl.h .non
      | rt m =>
        intro g' H' σ' v mo rl rv
        have rl : Rel C.T C.e g' s1 σ' H' := rl
        rw [hC] at rl
        exact go g' H' v rl.h rv
      | bk => exact go.elim
      | ct => exact go.elim
theorem fnP_star {x qual : Str} {st : Stmt} {f : Addr} {fd : FuncData} {N ps : List Str} {pv : Str} {k : Nat} {b : MStm} (F : Fun T.K x qual st f fd) (S : FnScope N (ps ++ [pv]) (defScope st))
    (hbd : ∀ (kV doc pm : Value) (an : Option Addr) (cdv ct : Value) (us rest : List Value), us.length = ps.length → bindArgs (PySem.W.fnOf x qual (defArgs st) (defBody st) (defScope st) .none kV doc pm an cdv ct) ⟨us ++ rest, []⟩ = (newTuple rest >>= fun t => pure (ps.zip us ++ [(pv, t)])))
    (hb : ∀ (cdv : Value) (A : Around) (outer : List Env) (s : Shared) (H : Hp) (E : XK) (g : Gh), RoomG k (A.deeper (envOfC qual (defScope st) s.heap.objs.size f cdv)) → PMb (cAt P w mg base T N qual (defScope st) f cdv A outer s H E g) (defBody st) b) :
    FnP P w mg base T (k + 1) f (starF ps.length (bodyF (ps.length + 1) N.length b)) := by
  refine ⟨fun A outer s H us vs Q E hr e0 rv ⟨g, hp, args, rh, rs, go⟩ => ?_⟩
  obtain ⟨oc, od, kV, doc, pm, an, cdv, ct, osl, rfl, lk, hcd⟩ := F.ex
  unfold starF at go
  by_cases hl : ps.length ≤ args.length ∧ args.length ≤ big
  · rw [if_pos hl] at go
    have hvl : ps.length ≤ vs.length := by rw [← rs.length]; exact hl.1
    have hul : ps.length ≤ us.length := by rw [← rv.length]; exact hvl
    have hn : H s.heap.objs.size = none := e0.hok.fresh (Nat.le_refl _)
    have hz : (vs.drop ps.length).length ≤ sizeLine := by rw [List.length_drop, ← rs.length]; exact big_le (by omega)
    have r1 := rv.take ps.length
    have r2 := rv.drop ps.length
    have eu : us.take ps.length ++ us.drop ps.length = us := List.take_append_drop _ _
    have hl1 : (us.take ps.length).length = ps.length := by rw [List.length_take]; omega
    have hnl : (ps ++ [pv]).length ≤ N.length := by
      have := congrArg List.length S.pre
      rw [List.length_take] at this
      omega
    refine StX.run_bnd (G := fun xs H2 => ∃ p, H p = none ∧ xs = vs.take ps.length ++ [V.ref p] ∧ H2 = upd H p (.tup (vs.drop ps.length))) lk hcd S hr.toRoom e0 (fun A' Ex Q' h => ?_) fun s2 H2 xs ⟨p, hp', ex, eH⟩ hr' => ?_
    · have hbi := hbd kV doc pm an cdv ct (us.take ps.length) (us.drop ps.length) hl1
      rw [eu] at hbi
      rw [hbi]
      refine wpAny_bind (wpAny_newTuple (wpAny_pure ?_) (by rw [← r2.length]; exact hz))
      have new : ObjOk P w (upd H s.heap.objs.size (.tup (vs.drop ps.length))) (s.heap.push ({ cls := .type "tuple", data := .seq (us.drop ps.length).toArray } : Obj)) s.heap.objs.size (.tup (vs.drop ps.length)) := ⟨hz, _, r2, ⟨_, Heap.get?_push_size _ rfl, rfl, _, rfl⟩⟩
      have un := StX.un_laid (fs := frs outer) (s := s) (o := ({ cls := .type "tuple", data := .seq (us.drop ps.length).toArray } : Obj)) (u := .tup (vs.drop ps.length)) hn
      have z := h _ _ (vs.take ps.length ++ [V.ref s.heap.objs.size]) (us.take ps.length ++ [Value.ref s.heap.objs.size]) (StX.env0_laid e0 new) un rfl (fun e s' => StX.cxUp outer s H _ _ E e s' un (fun b o q => Heap.get?_push_of_some _ q) rfl) (r1.append (.cons rfl .nil))
        (by rw [List.length_append, List.length_append, List.length_take]; simp; omega) ⟨_, hn, rfl, rfl⟩
      rw [List.zip_append hl1.symm] at z
      exact z
    · subst ex eH
      have mo := mono_laid (o := .tup (vs.drop ps.length)) rh hp'
      have rh2 : RelH T ⟨g, upd H p (.tup (vs.drop ps.length))⟩ g hp (upd H p (.tup (vs.drop ps.length))) := (rh.laid hp').self
      have rs2 : RVs T g (upd H p (.tup (vs.drop ps.length))) (args.take ps.length ++ [.tup (args.drop ps.length)]) (vs.take ps.length ++ [V.ref p]) := ((rs.mono mo).take _).app (.cons (.tup upd_same ((rs.mono mo).drop _)) .nil)
      have big := hb cdv A outer s2 (upd H p (.tup (vs.drop ps.length))) E g ⟨hr', hr.gs⟩
      refine ⟨_, big, rdS_start (E := E) rfl rfl rfl ?_ (by simpa using hnl) rh2 rs2 ?_⟩
      · simp; omega
      · -- what follows, told from the heap ahead of the tuple
        cases hf : bodyF (ps.length + 1) N.length b (args.take ps.length ++ [.tup (args.drop ps.length)]) hp with
        | stuck => rw [hf] at go; exact go.elim
        | ok m hp2 => rw [hf] at go; exact fun g' H' v rl rv => go g' H' v ((rh.laid hp').comp rl) rv
        | err e hp2 => rw [hf] at go; exact fun g' H' cls d rl xr => go g' H' cls d ((rh.laid hp').comp rl) xr
  · rw [if_neg hl] at go; exact go.elim
end
end Ma
/-! Ma18: exceptions as values. -/
namespace Ma
open L2 PySem.Spec PySem PyProof.Rows
/-- an own kind of ValueError that has no `__init__` -/
structure ExK (K : PySem.W.Frag) (C : Addr) : Prop where
  ini : PySem.W.findIn K (.ref C) "__init__" = some (some (.builtin "ValueError.__init__"))
  ex : PySem.W.excInitIn K C [.type "ValueError", .type "Exception", .type "BaseException", .type "object"] "ValueError.__new__" = true
  kp : PySem.W.keepIn K (.ref C) = true
section
variable {C : MC} {g g1 : Gh} {H H1 : Hp} {s : MS} {σ : L2.St} {ex ea eb ec : Expr} {es : List Expr} {a b c : ME} {ma : MA} {pos p : Pos} {x n : Str} {A : Addr}
theorem Go.newX {Q : VK} {p : Addr} (h : Go C C.V1 σ (.ok (.exn n [] []) s) g H Q) (r : C.rel g s σ H) (ad : C.T.ad n = some A) (hn : H p = none) : Q (.ref p) (upd H p (XO (.ref A) none p)) := by
  obtain ⟨r2, mo⟩ := r.frz (o := XO (.ref A) none p) hn
  exact h (g.add p) _ _ mo r2 (.exn ad ⟨rfl, .inr rfl, none, upd_same, rfl⟩ .nil)
def mExc (n : Str) (ma : MA) : ME := fun s => (ma s).bind fun ms s1 => if ms.length ≤ big then .ok (.exn n [] []) s1 else .stuck
theorem run_exc {pins : List (Addr × Obj)} {sh : Shared} {Q : VK} {us : List Value} {args : List M} {vs : List V} (E : ExK C.T.K A) (ad : C.T.ad n = some A)
    (I : Inv C.X pins σ H sh) (r : C.rel g s σ H) (rs : RVs C.T g H args vs) (rv : Vals vs us) (h : Go C C.V1 σ (if args.length ≤ big then .ok (.exn n [] []) s else .stuck) g H Q) :
    wpAny (model C.X.prog C.X.w) C.X.A (call (.ref A) us) (EP C.X pins σ Q) C.X.xe sh := by
  by_cases hl : args.length ≤ big
  · rw [if_pos hl] at h
    have kin : C.T.K.In sh.heap := C.hK ▸ I.kIn
    obtain ⟨nm, N, qn, bs, bm, hdct, sn, sub, ab, col, dd, k0, k1, k2, k3, k5, hc, hbm⟩ := PySem.W.excInit_of kin E.ex
    have hlen : us.length ≤ sizeLine := by
      have e1 := rs.length
      have e2 : vs.length = us.length := rv.length
      have e3 : big ≤ sizeLine := by decide +kernel
      omega
    obtain ⟨hp, gs, d, t, os⟩ := sh
    refine PySem.W.call_B PySem.F.excBase_ValueError hbm hc (PySem.W.looks_findIn kin E.ini) hlen fun h' keep he ht => ?_
    have hn : H (hp.objs.size + 1) = none := I.hok.fresh (Nat.le_succ _)
    refine ⟨.ref (hp.objs.size + 1), _, I.laidN (o := XO (.ref A) none (hp.objs.size + 1)) keep (by simp [Heap.get?]) hn ?_, rfl, Go.newX h r ad hn⟩
    simp only [ObjOk, XO]
    exact ⟨⟨_, _, he, ⟨rfl, rfl⟩, rfl⟩, ⟨_, he⟩, fun h1 h2 ⟨oe, vs, e, z, f⟩ k => ⟨oe, vs, k _ e, z, f⟩⟩
  · rw [if_neg hl] at h
    exact h.elim
theorem em_exc {es : List Expr} (E : ExK C.T.K A) (ad : C.T.ad n = some A) (hm : C.X.mg x = some (.ref A)) (ha : PMa C (ex :: es) ma)
    (hg : Gl C.X x := by rfl) (hdb : (x == ("__debug__" : Str)) = false := by decide) (he : starEach (ex :: es) C.X.env = (false, eval ex C.X.env) :: starEach es C.X.env := by rfl) (hpl : (backTo pos (starEach es C.X.env)).any (·.1) = false := by rfl) :
    PMe C (.Call (.Name x p) (ex :: es) [] pos) (mExc n ma) := by
  refine ⟨fun pins sh σ H Q I h => wpAny_Call_Name_kw (ld_glob I hg hm ?_ hdb)⟩
  refine PySem.W.callWith_K (h₀ := C.X.base) I.ok.mod.kin (C.hK ▸ E.kp) (thn (ha.run pos pins sh σ H _ I (rdA_bind h)) fun us s1 hh => ?_) he hpl
  obtain ⟨vs, H1, I1, rv, ms, s2, g1, r1, rs, q1⟩ := hh
  exact ⟨I1.kIn, run_exc E ad I1 r1 rs rv q1⟩
theorem em_exc0 (E : ExK C.T.K A) (ad : C.T.ad n = some A) (hm : C.X.mg x = some (.ref A))
    (hg : Gl C.X x := by rfl) (hdb : (x == ("__debug__" : Str)) = false := by decide) : PMe C (.Call (.Name x p) [] [] pos) (mExc n mNil) := by
  refine ⟨fun pins sh σ H Q I h => wpAny_Call_Name_kw (ld_glob I hg hm ?_ hdb)⟩
  obtain ⟨g, s, r, q⟩ := h
  exact PySem.W.callWith_K0 I.kIn (C.hK ▸ E.kp) (run_exc (us := []) E ad I r .nil .nil q)
end
end Ma
/-! Ma19: fields; isinstance. -/
namespace Ma
open L2 PySem.Spec PySem PyProof.Rows
section
variable {C : MC} {g g1 : Gh} {H H1 : Hp} {s : MS} {σ : L2.St} {ex ea eb ec : Expr} {es : List Expr} {a b c : ME} {ma : MA} {pos p : Pos} {x n f : Str} {A : Addr} {T : Tab}
theorem RFs.look {fs : List (Str × M)} {vs : List (Str × V)} {y : M} (r : RFs T g H fs vs) (h : fs.lookup f = some y) : ∃ v, vs.lookup f = some v ∧ RV T g H y v := by
  induction r with
  | nil => cases h
  | @cons k m v fs vs q t ih =>
    rw [List.lookup_cons] at h ⊢
    cases hk : f == k with
    | true =>
      rw [hk] at h
      cases h
      exact ⟨v, rfl, q⟩
    | false =>
      rw [hk] at h
      exact ih h
theorem RVs.zip : ∀ {ns : List Str} {ms : List M} {vs : List V}, RVs T g H ms vs → RFs T g H (ns.zip ms) (ns.zip vs)
  | [], _, _, _ => .nil
  | _ :: _, _, _, .nil => .nil
  | _ :: ns, _, _, .cons r t => .cons r (RVs.zip (ns := ns) t)
/-- fields read -/
def fldM (is xs : List Str) (f : Str) (hp : List Cell) : M → Option M
  | .exn c ns ms => if xs.contains c then (ns.zip ms).lookup f else none
  | .box n => match hp[n]? with
    | some (.ins c fms) => if is.contains c then fms.lookup f else none
    | _ => none
  | _ => none
def oFld (is xs : List Str) (f : Str) (m : M) (s : MS) : Res M := match fldM is xs f s.hp m with
  | some y => .ok y s
  | none => .stuck
def mFld (is xs : List Str) (f : Str) (a : ME) : ME := fun s => (a s).bind (oFld is xs f)
theorem fld_exn {K : PySem.W.Frag} {P : Program} {w : World} {hp : Heap} {a C : Addr} {d : Addr} {fs : List (Str × V)} {v : V} (kin : K.In hp) (hok : HOk P w H hp)
    (h1 : H a = some (XO (.ref C) (some d) a)) (h2 : H d = some (.xd fs)) (X : XfC K C) (hn : PySem.W.findIn K (.ref C) f = some none) (hl : fs.lookup f = some v) {M1 : Around} {E : Value → Shared → Prop} {Q : Value → Shared → Prop} {sh : Shared} (hsh : sh.heap = hp)
    (q : ∀ u, RelV v u → Q u { sh with toks := sh.toks + 1 }) : wpAny (model P w) M1 (getAttr (.ref a) f true) Q E sh := by
  have z := hok _ _ h1
  simp only [ObjOk, XO] at z
  obtain ⟨⟨oe, ws, e1, ⟨e2, e3⟩, e4⟩, -, -⟩ := z
  have z2 := hok _ _ h2
  simp only [ObjOk] at z2
  obtain ⟨mA, n1, rl⟩ := z2
  obtain ⟨od, e5, lk⟩ := lookIn_ns n1
  have rf := rl f
  rw [hl] at rf
  cases hm : mA f with
  | none => rw [hm] at rf; exact rf.elim
  | some u =>
    rw [hm] at rf
    subst hsh
    refine HandSPX.exc_get (C := C) (ox := oe) (od := some od) (gt := none) kin ⟨e1, e2, ?_, ?_⟩ X.ga X.gg X.exC (PySem.W.findObj_own X.hdC hn rfl ((lk f).trans (congrArg some hm))) (handed_of rf) (q u rf)
    · unfold PySem.W.notCls; rw [e4]
    · rw [e3]; exact e5
theorem em_fld {is xs : List Str} (hi : ∀ c ∈ is, ∀ A, C.T.ad c = some A → Cls C.T.K A ∧ NoAttr C.T.K A f) (hx : ∀ c ∈ xs, ∀ A, C.T.ad c = some A → XfC C.T.K A ∧ PySem.W.findIn C.T.K (.ref A) f = some none)
    (h : PMe C ex a) (hb : attributeBase ex f C.X.env (eval ex C.X.env) = eval ex C.X.env := by rfl) : PMe C (.Attribute ex f pos) (mFld is xs f a) := by
  refine ⟨fun pins sh σ H Q I q => attr_of hb (thn (h.run pins sh σ H _ I (rdE_bind q)) fun u s1 hh => ?_)⟩
  obtain ⟨x, H1, I1, rv, m, s2, g1, r1, rm, q1⟩ := hh
  unfold oFld at q1
  cases hf : fldM is xs f s2.hp m with
  | none => rw [hf] at q1; exact q1.elim
  | some y =>
    rw [hf] at q1
    have kin : C.T.K.In s1.heap := C.hK ▸ I1.kIn
    cases rm with
    | @exn a A c ns ms vs ad xa rs =>
      obtain rfl : u = .ref a := rv
      simp only [fldM] at hf
      split at hf
      case isFalse => cases hf
      case isTrue hc =>
        obtain ⟨X, hn⟩ := hx c (List.contains_iff_mem.mp hc) A ad
        obtain ⟨hl, -, d, hd, z⟩ := xa
        cases d with
        | none =>
          subst z
          cases hf
        | some dx =>
          obtain ⟨v, lv, rv2⟩ := (rs.zip (ns := ns)).look hf
          exact fld_exn kin I1.hok hd z.2 X hn lv rfl fun u ru => ⟨v, H1, I1.kept (h' := s1.heap) (t' := s1.toks + 1) (fun b o e => e), ru, q1.ret r1 rv2⟩
    | @box n a e =>
      obtain rfl : u = .ref a := rv
      simp only [fldM] at hf
      cases hc : s2.hp[n]? with
      | none => rw [hc] at hf; cases hf
      | some cl =>
        rw [hc] at hf
        cases cl with
        | lst ms => cases hf
        | dK ms => cases hf
        | dead => cases hf
        | ins c fms =>
          dsimp only at hf
          split at hf
          case isFalse => cases hf
          case isTrue hcc =>
            obtain ⟨A, dx, fvs, ad, ha, rf⟩ := r1.h.cell n _ a hc e
            obtain ⟨k1, k2⟩ := hi c (List.contains_iff_mem.mp hcc) A ad
            obtain ⟨v, lv, rv2⟩ := rf.look hf
            exact getattr_ok I1 ha (C.hK ▸ k1) (C.hK ▸ k2) lv fun u s' I2 ru => ⟨v, H1, I2, ru, q1.ret r1 rv2⟩
    | _ => cases hf
end
end Ma
/-! Ma20: isinstance. -/
namespace Ma
open L2 PySem.Spec PySem PyProof.Rows
/-- a class: an own one or a built-in one -/
inductive Tg
  | own (c : Str)
  | bi (n : String)
deriving DecidableEq
def Tg.At (T : Tab) : Tg → Value → Prop
  | .own c, v => ∃ A, T.ad c = some A ∧ v = .ref A
  | .bi n, v => v = .type n
def tgOf (is xs : List Str) (hp : List Cell) : M → Option Tg
  | .non => some (.bi "NoneType")
  | .bl _ => some (.bi "bool")
  | .int _ => some (.bi "int")
  | .str _ => some (.bi "str")
  | .byt _ => some (.bi "bytes")
  | .tup _ => some (.bi "tuple")
  | .lst _ => some (.bi "list")
  | .dct _ _ => some (.bi "dict")
  | .exn c _ _ => if xs.contains c then some (.own c) else none
  | .box n => match hp[n]? with
    | some (.lst _) => some (.bi "list")
    | some (.dK _) => some (.bi "dict")
    | some (.ins c _) => if is.contains c then some (.own c) else none
    | _ => none
  | _ => none
def clOf : M → Option Tg
  | .cls c => some (.own c)
  | .ty n => some (.bi n)
  | _ => none
def cIsi (is xs : List Str) (isi : Tg → Tg → Option Bool) (ms : List M) (s : MS) : Res M := match ms with
  | [x, c] => match tgOf is xs s.hp x, clOf c with
    | some t, some u => match isi t u with
      | some b => .ok (.bl b) s
      | none => .stuck
    | _, _ => .stuck
  | _ => .stuck
/-- what isinstance asks of an instance's class -/
structure InsK (K : PySem.W.Frag) (A : Addr) : Prop where
  c : Cls K A
  ha : PySem.W.findIn K (.ref A) "__class__" = some (some (.builtin "object.__class__"))
  hn : PySem.W.specialIn K (.builtin "object.__class__") "__get__" = some (some (.builtin "getset_descriptor.__get__"))
  ht : PySem.W.takesIn K (.builtin "object.__class__") = some true
  hm : PySem.W.mroIn K A (.type "object") = some true
def rIsX (K : PySem.W.Frag) : RC := fun xs H Q => ∃ (a A : Addr) (d : Option Addr) (c : V) (cv : Value) (b : Bool), xs = [.ref a, c] ∧ H a = some (XO (.ref A) d a) ∧ (match d with | none => True | some dx => ∃ fs, H dx = some (.xd fs)) ∧ L2.ExcC K A ∧ ClsV c cv ∧ PySem.W.kitOne K (.ref A) cv = some b ∧ Q (.bl b) H
theorem call_isX {X : Cx} : CallR X (.builtin "isinstance") (rIsX X.K) := by
  intro pins s σ H xs us Q I rv ⟨a, A, d, c, cv, b, hx, ha, hd, E, hc, hk, q⟩
  subst hx
  cases rv with
  | cons r1 r2 =>
    cases r2 with
    | cons r2 r3 =>
      cases r3
      rename_i u w
      obtain rfl : u = .ref a := r1
      obtain rfl := hc.eq r2
      have z := I.hok _ _ ha
      simp only [ObjOk, XO] at z
      obtain ⟨⟨oe, ws, e1, ⟨e2, e3⟩, e4⟩, -, -⟩ := z
      have hno : PySem.W.notCls oe = true := by unfold PySem.W.notCls; rw [e4]
      have hcl : (PySem.W.clsIn X.K A).isSome = true := by
        have h := E.hd
        unfold PySem.W.hasDictIn at h
        cases hc : PySem.W.clsIn X.K A with
        | none => rw [hc] at h; simp at h
        | some _ => rfl
      have fin : ∀ tk : Nat, EP X pins σ Q (.bool b) { heap := s.heap, gens := s.gens, drawn := s.drawn, toks := tk, os := s.os } := fun tk => ⟨.bl b, H, I.kept (h' := s.heap) (t' := tk) (fun _ _ e => e), rfl, q⟩
      have kit : ∀ od : Option Obj, PySem.W.InstAt s.heap a oe A od → wpAny (model X.prog X.w) X.A (call (.builtin "isinstance") [.ref a, w]) (EP X pins σ Q) X.xe s := fun od i =>
        PySem.W.kia_one (PySem.W.kitx_exc (ox := oe) (od := od) hcl E.hg E.hk E.hs E.ha E.hn E.ht E.hm) I.kIn i hk (by simp) fin
      cases d with
      | none => exact kit none ⟨e1, e2, hno, by rw [e3]; trivial⟩
      | some dx =>
        obtain ⟨fs, hf⟩ := hd
        have z2 := I.hok _ _ hf
        simp only [ObjOk] at z2
        obtain ⟨mA, n1, -⟩ := z2
        obtain ⟨od, e5, -⟩ := lookIn_ns n1
        exact kit (some od) ⟨e1, e2, hno, by rw [e3]; exact e5⟩
section
variable {C : MC} {g g1 : Gh} {H H1 : Hp} {s : MS} {σ : L2.St} {is xs : List Str} {isi : Tg → Tg → Option Bool}
theorem clOf_at {c : M} {v : V} {u : Tg} (h : clOf c = some u) (r : RV C.T g H c v) : ∃ cv, ClsV v cv ∧ u.At C.T cv := by
  cases r with
  | cls e => cases h; exact ⟨_, .own _, _, e, rfl⟩
  | ty n => cases h; exact ⟨_, .ty n, rfl⟩
  | _ => cases h
theorem ok_isi (hi : ∀ c ∈ is, ∀ A, C.T.ad c = some A → InsK C.X.K A) (hx : ∀ c ∈ xs, ∀ A, C.T.ad c = some A → L2.ExcC C.X.K A)
    (hk : ∀ t u b, isi t u = some b → ∀ tv uv, t.At C.T tv → u.At C.T uv → PySem.W.kitOne C.X.K tv uv = some b) :
    CallOk C (fun ys H Q => rIsi C.X.K ys H Q ∨ rIsX C.X.K ys H Q) (cIsi is xs isi) := fun σ H g s ms ys Q r rs h => by
  unfold cIsi at h
  split at h
  case h_2 => exact h.elim
  case h_1 x c =>
    split at h
    case h_2 => exact h.elim
    case h_1 t u ht hu =>
      split at h
      case h_2 => exact h.elim
      case h_1 b hb =>
        cases rs with
        | cons r1 r2 =>
          cases r2 with
          | cons r2 r3 =>
            cases r3
            obtain ⟨cv, hc, hu2⟩ := clOf_at hu r2
            have kk := fun tv h1 => hk t u b hb tv cv h1 hu2
            have done := h.same r (.bl b)
            have base : ∀ {n : String} {v : V}, t = .bi n → TyX C.X.K H v (.type n) → ∃ (x c : V) (t u : Value) (b : Bool), [v, _] = [x, c] ∧ ClsV c u ∧ TyX C.X.K H x t ∧ PySem.W.kitOne C.X.K t u = some b ∧ Q (.bl b) H := fun {n v} e ty => ⟨v, _, .type n, cv, b, rfl, hc, ty, kk _ (by subst e; rfl), done⟩
            cases r1 with
            | non => cases ht; exact .inl (base rfl (.base .non))
            | bl k => cases ht; exact .inl (base rfl (.base (.bl _)))
            | int k => cases ht; exact .inl (base rfl (.base (.int _)))
            | str k => cases ht; exact .inl (base rfl (.base (.str _)))
            | byt k => cases ht; exact .inl (base rfl (.byt _))
            | tup e q => cases ht; exact .inl (base rfl (.base (.tup e)))
            | lst f e q => cases ht; exact .inl (base rfl (.base (.lst e)))
            | dct f l e q => cases ht; exact .inl (base rfl (.fDict e))
            | scr f e => cases ht
            | scrK e => cases ht
            | @exn a A c ns ms vs ad xa rr =>
              simp only [tgOf] at ht
              split at ht
              case isFalse => cases ht
              case isTrue hcc =>
                cases ht
                obtain ⟨hl, hf, d, hd, z⟩ := xa
                refine .inr ⟨a, A, d, _, cv, b, rfl, hd, ?_, hx c (List.contains_iff_mem.mp hcc) A ad, hc, kk _ ⟨A, ad, rfl⟩, done⟩
                cases d with
                | none => trivial
                | some dx => exact ⟨_, z.2⟩
            | cls e => cases ht
            | ty n => cases ht
            | @box n a e =>
              simp only [tgOf] at ht
              cases hcl : s.hp[n]? with
              | none => rw [hcl] at ht; cases ht
              | some cl =>
                rw [hcl] at ht
                cases cl with
                | lst ms =>
                  cases ht
                  obtain ⟨vs, ha, rf⟩ := r.h.cell n _ a hcl e
                  exact .inl (base rfl (.base (.lst ha)))
                | dK ms =>
                  cases ht
                  obtain ⟨vs, ha, rf⟩ := r.h.cell n _ a hcl e
                  exact .inl (base rfl (.base (.dK ha)))
                | dead => cases ht
                | ins c fms =>
                  dsimp only at ht
                  split at ht
                  case isFalse => cases ht
                  case isTrue hcc =>
                    cases ht
                    obtain ⟨A, dx, fvs, ad, ha, rf⟩ := r.h.cell n _ a hcl e
                    have k := hi c (List.contains_iff_mem.mp hcc) A ad
                    exact .inl ⟨_, _, _, cv, b, rfl, hc, .base (.ins ha k.c k.ha k.hn k.ht k.hm), kk _ ⟨A, ad, rfl⟩, done⟩
end
end Ma
/-! Ma21: count, index, all, any of lists. -/
namespace Ma
open L2 PySem.Spec PySem PyProof.Rows
def rCntD (K : PySem.W.Frag) (x : V) (xs : List V) (H : Hp) (Q : VK) : Prop := ∃ (a : Addr) (y : V) (ds : List PyData) (d : PyData), x = .ref a ∧ xs = [y] ∧ Dp K H (.ref a) (.list ds) ∧ Dp K H y d ∧ SeqAt.shaped (.list ds) = true ∧ SeqAt.shaped d = true ∧ Q (.int (ds.countP (fun z => z.eqv d) : Nat)) H
theorem mt_cntD {X : Cx} (hu : X.A.units + 65 < cLine) : MtR X "list.count" (rCntD X.K) := by
  intro pins s σ H x xs v us Q I rv vs ⟨a, y, ds, d, hx, hxs, d1, d2, s1, s2, q⟩
  subst hx; subst hxs
  cases vs with
  | cons r2 r3 =>
    cases r3
    rename_i u
    obtain rfl : v = .ref a := rv
    obtain ⟨as, k1⟩ := Dp.reads I _ _ _ d1 rfl
    obtain ⟨bs, k2⟩ := Dp.reads I _ _ _ d2 r2
    unfold SeqAt.shaped at s1 s2
    obtain ⟨p1, e1⟩ := Bool.and_eq_true_iff.mp s1
    obtain ⟨p2, e2⟩ := Bool.and_eq_true_iff.mp s2
    have e2 := of_decide_eq_true e2
    have p1 := PyData.plain_of_canLay0 _ p1
    have p2 := PyData.plain_of_canLay0 _ p2
    cases k1 with
    | list g1 g2 g3 g4 =>
      refine SeqAt.count_list_data ⟨_, g1, g2, _, g3⟩ g4 k2 (by simpa [PyData.plain] using p1) p2 ?_ ⟨.int _, H, I.kept (h' := s.heap) (t' := s.toks + 1) (fun _ _ e => e), ⟨_, rfl⟩, q⟩
      omega
section
variable {C : MC} {g g1 : Gh} {H H1 : Hp} {s : MS} {σ : L2.St} {ex ea eb ec : Expr} {es : List Expr} {a b c : ME} {ma : MA} {pos p apos cpos : Pos} {x n f : Str} {A : Addr} {T : Tab}
/-- a list of whatever sort -/
def isL (x : M) (s : MS) : Bool := (seqL s.hp x).isSome
theorem tyLs : ∀ (σ : L2.St) (H : Hp) (g : Gh) (s : MS) (m : M) (x : V), C.rel g s σ H → RV C.T g H m x → isL m s = true → tyV C.X.K "list" x H := fun σ H g s m x r rv h => by
  unfold isL at h
  cases hl : seqL s.hp m with
  | none => rw [hl] at h; cases h
  | some ys =>
    obtain ⟨q, vs, rfl, hq, rs⟩ := seqL_at r hl rv
    exact .inl ⟨rfl, _, hq⟩
def fCnt (x : M) (ms : List M) (s : MS) : Res M := match ms with
  | [y] => match datT s.hp x, datT s.hp y with
    | some (.list ds), some d => if (SeqAt.shaped (.list ds) && SeqAt.shaped d) = true then .ok (.int (ds.countP (fun z => z.eqv d) : Nat)) s else .stuck
    | _, _ => .stuck
  | _ => .stuck
theorem Dp.lref {K : PySem.W.Frag} {x : V} {ds : List PyData} (h : Dp K H x (.list ds)) : ∃ a, x = .ref a := by
  cases h; exact ⟨_, rfl⟩
theorem ok_cnt : MethOk C (rCntD C.X.K) fCnt := fun σ H g s m ms x xs Q r rv rs h => by
  unfold fCnt at h
  split at h
  case h_2 => exact h.elim
  case h_1 y =>
    split at h
    case h_2 => exact h.elim
    case h_1 ds d h1 h2 =>
      by_cases hs : (SeqAt.shaped (.list ds) && SeqAt.shaped d) = true
      · rw [if_pos hs] at h
        obtain ⟨s1, s2⟩ := Bool.and_eq_true_iff.mp hs
        cases rs with
        | cons r1 r2 =>
          cases r2
          have d1 := datT_dp r rv h1
          obtain ⟨a, rfl⟩ := Dp.lref d1
          exact ⟨a, _, ds, d, rfl, rfl, d1, datT_dp r r1 h2, s1, s2, h.same r (.int _)⟩
      · rw [if_neg hs] at h; exact h.elim
def mCnt (a b : ME) : ME := mMeth a (mCons b mNil) isL fCnt
theorem em_cnt {o : Expr} (hu : C.X.A.units + 65 < cLine) (ho : PMe C o a) (ha : PMe C ex b) (hbase : attributeBase o "count" C.X.env (eval o C.X.env) = eval o C.X.env := by rfl)
    (hfew : ((backTo cpos (starEach [ex] C.X.env)).all (fun x => !x.1) && (backToKw cpos (keywordEach [] C.X.env)).all (fun x => x.1.isSome)
      && decide ([ex].length + ([] : List Keyword).length + (if ([] : List Keyword).isEmpty then 0 else 1) < 30)) = true := by rfl)
    (hline : (apos.endLine == cpos.line) = true := by rfl) (hs : starEach [ex] C.X.env = (false, eval ex C.X.env) :: starEach [] C.X.env := by rfl) :
    PMe C (.Call (.Attribute o "count" apos) [ex] [] cpos) (mCnt a b) :=
  em_bm PySem.F.plainAttrs_list PySem.F.slot_list_count PySem.F.type_list_count (mt_cntD hu) tyLs ok_cnt ho (am_cons ha am_nil hs) hbase hfew hline hs rfl
/-- the place of the first that is equal -/
def fIxD (x : M) (ms : List M) (s : MS) : Res M := match ms with
  | [y] => match datT s.hp x, datT s.hp y with
    | some (.list ds), some d => if (SeqAt.shaped (.list ds) && SeqAt.shaped d) = true then
        if ds.findIdx (fun z => z.eqv d) < ds.length then .ok (.int (ds.findIdx (fun z => z.eqv d) : Nat)) s else .stuck
      else .stuck
    | _, _ => .stuck
  | _ => .stuck
theorem ok_ixD : MethOk C (rIndexD C.X.K) fIxD := fun σ H g s m ms x xs Q r rv rs h => by
  unfold fIxD at h
  split at h
  case h_2 => exact h.elim
  case h_1 y =>
    split at h
    case h_2 => exact h.elim
    case h_1 ds d h1 h2 =>
      by_cases hs : (SeqAt.shaped (.list ds) && SeqAt.shaped d) = true
      · rw [if_pos hs] at h
        obtain ⟨s1, s2⟩ := Bool.and_eq_true_iff.mp hs
        by_cases hj : ds.findIdx (fun z => z.eqv d) < ds.length
        · rw [if_pos hj] at h
          cases rs with
          | cons r1 r2 =>
            cases r2
            have d1 := datT_dp r rv h1
            obtain ⟨a, rfl⟩ := Dp.lref d1
            refine ⟨a, _, d, ds, _, _, rfl, rfl, d1, datT_dp r r1 h2, s1, s2, List.getElem?_eq_getElem hj, List.findIdx_getElem (w := hj), fun k z hk hz => ?_, h.same r (.int _)⟩
            have := List.not_of_lt_findIdx hk
            have hkl : k < ds.length := by omega
            rw [List.getElem?_eq_getElem hkl] at hz
            cases hz
            simpa using this
        · rw [if_neg hj] at h; exact h.elim
      · rw [if_neg hs] at h; exact h.elim
def mIxD (a b : ME) : ME := mMeth a (mCons b mNil) isL fIxD
theorem em_ixD {o : Expr} (hu : C.X.A.units + 65 < cLine) (ho : PMe C o a) (ha : PMe C ex b) (hbase : attributeBase o "index" C.X.env (eval o C.X.env) = eval o C.X.env := by rfl)
    (hfew : ((backTo cpos (starEach [ex] C.X.env)).all (fun x => !x.1) && (backToKw cpos (keywordEach [] C.X.env)).all (fun x => x.1.isSome)
      && decide ([ex].length + ([] : List Keyword).length + (if ([] : List Keyword).isEmpty then 0 else 1) < 30)) = true := by rfl)
    (hline : (apos.endLine == cpos.line) = true := by rfl) (hs : starEach [ex] C.X.env = (false, eval ex C.X.env) :: starEach [] C.X.env := by rfl) :
    PMe C (.Call (.Attribute o "index" apos) [ex] [] cpos) (mIxD a b) :=
  em_bm PySem.F.plainAttrs_list PySem.F.slot_list_index PySem.F.type_list_index (mt_indexD hu) tyLs ok_ixD ho (am_cons ha am_nil hs) hbase hfew hline hs rfl
/-- all and any of a list of bools -/
def blsOf : List M → Option (List Bool)
  | [] => some []
  | .bl b :: ms => (blsOf ms).map (b :: ·)
  | _ => none
theorem blsOf_at : ∀ {ms : List M} {vs : List V} {bs : List Bool}, RVs T g H ms vs → blsOf ms = some bs → vs = bs.map V.bl
  | _, _, _, .nil, h => by cases h; rfl
  | _, _, bs, @RVs.cons _ _ _ m v ms vs r rs, h => by
    cases r with
    | bl b =>
      simp only [blsOf] at h
      cases hb : blsOf ms with
      | none => rw [hb] at h; cases h
      | some cs =>
        rw [hb] at h
        cases h
        rw [blsOf_at rs hb]; rfl
    | _ => cases h
def cAll (any : Bool) (ms : List M) (s : MS) : Res M := match ms with
  | [x] => match (seqL s.hp x).bind blsOf with
    | some bs => .ok (.bl (if any then bs.any id else bs.all id)) s
    | none => .stuck
  | _ => .stuck
theorem cAll_at {any : Bool} {ms : List M} {xs : List V} {Q : VK} (r : C.rel g s σ H) (rs : RVs C.T g H ms xs) (h : Go C C.V1 σ (cAll any ms s) g H Q) : ∃ (a : Addr) (bs : List Bool), xs = [V.ref a] ∧ SqL C.X.K H a (bs.map V.bl) ∧ Q (.bl (if any then bs.any id else bs.all id)) H := by
  unfold cAll at h
  split at h
  case h_2 => exact h.elim
  case h_1 x =>
    split at h
    case h_2 => exact h.elim
    case h_1 bs hb =>
      cases hl : seqL s.hp x with
      | none => rw [hl] at hb; cases hb
      | some ys =>
        rw [hl] at hb
        cases rs with
        | cons r1 r2 =>
          cases r2
          obtain ⟨q, vs, rfl, hq, rr⟩ := seqL_at r hl r1
          exact ⟨q, bs, rfl, blsOf_at rr hb ▸ hq, h.same r (.bl _)⟩
theorem ok_all : CallOk C (rAll C.X.K) (cAll false) := fun σ H g s ms xs Q r rs h => cAll_at r rs h
theorem ok_any : CallOk C (rAny C.X.K) (cAll true) := fun σ H g s ms xs Q r rs h => cAll_at r rs h
end
end Ma
/-! Ma22: repr of data. -/
namespace Ma
open L2 PySem.Spec PySem PyProof.Rows
def rReprD (K : PySem.W.Frag) : RC := fun xs H Q => ∃ (a : Addr) (d : PyData), xs = [.ref a] ∧ Dp K H (.ref a) d ∧ d.showable = true ∧ d.hasDict = false ∧ d.depth ≤ 64 ∧ d.shown.length ≤ sizeLine ∧ Q (.str d.shown) H
theorem call_reprD {X : Cx} (hg : X.A.guards = some []) (hu : X.A.units + 65 < cLine) : CallR X (.builtin "repr") (rReprD X.K) := by
  intro pins s σ H xs us Q I rv ⟨a, d, hx, d1, h1, h2, h3, h4, q⟩
  subst hx
  cases rv with
  | cons r1 r2 =>
    cases r2
    rename_i u
    obtain rfl : u = .ref a := r1
    obtain ⟨as, k1⟩ := Dp.reads I _ _ _ d1 rfl
    refine repr_of_reads' k1 h1 (fun h => by rw [h2] at h; cases h) hg (by omega) (fun _ _ e => e) (fun h' u tk keep => ⟨.str _, H, I.kept (h' := h') (t' := tk) keep, ⟨_, rfl⟩, q⟩) h4
section
variable {C : MC} {g g1 : Gh} {H H1 : Hp} {s : MS} {σ : L2.St}
def isSeqD : PyData → Bool
  | .list _ => true
  | .tuple _ => true
  | _ => false
def cRepr (ms : List M) (s : MS) : Res M := match ms with
  | [.int i] => if i.natAbs.log2 < 1920 then .ok (.str (toString i)) s else .stuck
  | [x] => match datT s.hp x with
    | some d => if (isSeqD d && d.showable && !d.hasDict && decide (d.depth ≤ 64) && decide (d.shown.length ≤ sizeLine)) = true then .ok (.str d.shown) s else .stuck
    | none => .stuck
  | _ => .stuck
theorem Dp.seq {K : PySem.W.Frag} {x : V} {d : PyData} (h : Dp K H x d) (hd : isSeqD d = true) : ∃ a, x = .ref a := by
  cases h <;> first | exact ⟨_, rfl⟩ | cases hd
theorem ok_repr : CallOk C (fun xs H Q => (∃ i, xs = [.int i] ∧ i.natAbs.log2 < 1920 ∧ Q (.str (toString i)) H) ∨ rReprD C.X.K xs H Q) cRepr := fun σ H g s ms xs Q r rs h => by
  unfold cRepr at h
  split at h
  case h_1 i =>
    by_cases hb : i.natAbs.log2 < 1920
    · rw [if_pos hb] at h
      cases rs with
      | cons r1 r2 => cases r2; cases r1; exact .inl ⟨i, rfl, hb, h.same r (.str _)⟩
    · rw [if_neg hb] at h; exact h.elim
  case h_3 => exact h.elim
  case h_2 x _ =>
    split at h
    case h_2 => exact h.elim
    case h_1 d hd =>
      by_cases hb : (isSeqD d && d.showable && !d.hasDict && decide (d.depth ≤ 64) && decide (d.shown.length ≤ sizeLine)) = true
      · rw [if_pos hb] at h
        simp only [Bool.and_eq_true, decide_eq_true_eq, Bool.not_eq_true'] at hb
        obtain ⟨⟨⟨⟨h0, h1⟩, h2⟩, h3⟩, h4⟩ := hb
        cases rs with
        | cons r1 r2 =>
          cases r2
          have d1 := datT_dp r r1 hd
          obtain ⟨a, rfl⟩ := Dp.seq d1 h0
          exact .inr ⟨a, d, rfl, d1, h1, h2, h3, h4, h.same r (.str _)⟩
      · rw [if_neg hb] at h; exact h.elim
end
end Ma
/-! Ma23: names of the text: numbers, classes; built-in types. -/
namespace Ma
open L2 PySem.Spec PySem PyProof.Rows
section
variable {C : MC} {g g1 : Gh} {H H1 : Hp} {s : MS} {σ : L2.St} {pos : Pos} {x c : Str} {A : Addr}
theorem em_gi {i : Int} (h : ∃ t, C.X.mg x = some (.int i t)) (hg : Gl C.X x := by rfl) (hdb : (x == ("__debug__" : Str)) = false := by decide) : PMe C (.Name x pos) (mc (.int i)) := by
  obtain ⟨t, h⟩ := h
  exact wkE (pe_glob (v := .int i) hg h ⟨t, rfl⟩ hdb) fun σ H Q ⟨g, s, r, q⟩ => q.ret r (.int _)
theorem em_gs {z : Str} (h : ∃ t, C.X.mg x = some (.str z t)) (hg : Gl C.X x := by rfl) (hdb : (x == ("__debug__" : Str)) = false := by decide) : PMe C (.Name x pos) (mc (.str z)) := by
  obtain ⟨t, h⟩ := h
  exact wkE (pe_glob (v := .str z) hg h ⟨t, rfl⟩ hdb) fun σ H Q ⟨g, s, r, q⟩ => q.ret r (.str _)
theorem em_cls (ad : C.T.ad c = some A) (h : C.X.mg x = some (.ref A)) (hg : Gl C.X x := by rfl) (hdb : (x == ("__debug__" : Str)) = false := by decide) : PMe C (.Name x pos) (mc (.cls c)) :=
  wkE (pe_glob (v := .ref A) hg h rfl hdb) fun σ H Q ⟨g, s, r, q⟩ => q.ret r (.cls ad)
theorem em_ty {n : String} (h : C.X.mg x = none) (hv : bootBuiltins x = some (.type n) := by first | rfl | decide +kernel) (hg : Gl C.X x := by rfl) (hdb : (x == ("__debug__" : Str)) = false := by decide) (hn : x ≠ "__name__" := by decide) : PMe C (.Name x pos) (mc (.ty n)) :=
  wkE (pe_bltn (v := .ty n) hg h hv rfl hn hdb) fun σ H Q ⟨g, s, r, q⟩ => q.ret r (.ty n)
end
/-- what the text's name x holds: a class -/
structure KnC (mg : Str → Option Value) (T : Tab) (x : Str) : Prop where
  ex : ∃ A, T.ad x = some A ∧ mg x = some (.ref A)
theorem em_kc {C : MC} {pos : Pos} {x : Str} (h : KnC C.X.mg C.T x) (hg : Gl C.X x := by rfl) (hdb : (x == ("__debug__" : Str)) = false := by decide) : PMe C (.Name x pos) (mc (.cls x)) := by
  obtain ⟨A, h1, h2⟩ := h.ex
  exact em_cls h1 h2 hg hdb
/-- an own kind of ValueError that has no `__init__`, by its name -/
structure KnE (mg : Str → Option Value) (T : Tab) (x : Str) : Prop where
  ex : ∃ A, T.ad x = some A ∧ mg x = some (.ref A) ∧ ExK T.K A
theorem em_ke {C : MC} {pos p : Pos} {x : Str} {ex : Expr} {es : List Expr} {ma : MA} (h : KnE C.X.mg C.T x) (ha : PMa C (ex :: es) ma)
    (hg : Gl C.X x := by rfl) (hdb : (x == ("__debug__" : Str)) = false := by decide) (he : starEach (ex :: es) C.X.env = (false, eval ex C.X.env) :: starEach es C.X.env := by rfl) (hpl : (backTo pos (starEach es C.X.env)).any (·.1) = false := by rfl) :
    PMe C (.Call (.Name x p) (ex :: es) [] pos) (mExc x ma) := by
  obtain ⟨A, h1, h2, h3⟩ := h.ex
  exact em_exc h3 h1 h2 ha hg hdb he hpl
theorem em_ke0 {C : MC} {pos p : Pos} {x : Str} (h : KnE C.X.mg C.T x) (hg : Gl C.X x := by rfl) (hdb : (x == ("__debug__" : Str)) = false := by decide) : PMe C (.Call (.Name x p) [] [] pos) (mExc x mNil) := by
  obtain ⟨A, h1, h2, h3⟩ := h.ex
  exact em_exc0 h3 h1 h2 hg hdb
/-- what isinstance and fields ask of the classes -/
structure Cx0 (T : Tab) (is xs : List Str) (isi : Tg → Tg → Option Bool) : Prop where
  i : ∀ c ∈ is, ∀ A, T.ad c = some A → InsK T.K A
  x : ∀ c ∈ xs, ∀ A, T.ad c = some A → L2.ExcC T.K A
  k : ∀ t u b, isi t u = some b → ∀ tv uv, t.At T tv → u.At T uv → PySem.W.kitOne T.K tv uv = some b
theorem ok_isK {C : MC} {is xs : List Str} {isi : Tg → Tg → Option Bool} (h : Cx0 C.T is xs isi) : CallOk C (fun ys H Q => rIsi C.X.K ys H Q ∨ rIsX C.X.K ys H Q) (cIsi is xs isi) :=
  ok_isi (fun c hc A ad => C.hK ▸ h.i c hc A ad) (fun c hc A ad => C.hK ▸ h.x c hc A ad) (fun t u b hb tv uv h1 h2 => C.hK ▸ h.k t u b hb tv uv h1 h2)
theorem call_isA {X : Cx} : CallR X (.builtin "isinstance") (fun ys H Q => rIsi X.K ys H Q ∨ rIsX X.K ys H Q) := CallR.alt call_isi call_isX
theorem call_reprA {X : Cx} (hg : X.A.guards = some []) (hu : X.A.units + 65 < cLine) : CallR X (.builtin "repr") (fun xs H Q => (∃ i, xs = [.int i] ∧ i.natAbs.log2 < 1920 ∧ Q (.str (toString i)) H) ∨ rReprD X.K xs H Q) := CallR.alt SkE.call_repr_int (call_reprD hg hu)
end Ma
/-! Ma24: fields by their names. -/
namespace Ma
open L2 PySem.Spec PySem PyProof.Rows
/-- what a field's name asks of the classes that have it -/
structure FldK (T : Tab) (is xs : List Str) (f : Str) : Prop where
  i : ∀ c ∈ is, ∀ A, T.ad c = some A → Cls T.K A ∧ NoAttr T.K A f
  x : ∀ c ∈ xs, ∀ A, T.ad c = some A → XfC T.K A ∧ PySem.W.findIn T.K (.ref A) f = some none
theorem em_kf {C : MC} {is xs : List Str} {f : Str} {ex : Expr} {a : ME} {pos : Pos} (k : FldK C.T is xs f) (h : PMe C ex a) (hb : attributeBase ex f C.X.env (eval ex C.X.env) = eval ex C.X.env := by rfl) : PMe C (.Attribute ex f pos) (mFld is xs f a) := em_fld k.i k.x h hb
theorem room65 {k : Nat} {A : Around} (r : RoomG k A) : A.units + 65 < cLine := by
  have := r.toRoom.un
  omega
end Ma
/-! Ma25: exceptions with an `__init__` of their own. -/
namespace Ma
open L2 PySem.W PySem.Spec PySem PyProof.Rows
/-- an own kind of ValueError with an `__init__`: super().__init__(text), then fields -/
structure ExI (P : Program) (K : PySem.W.Frag) (C f : Addr) (qual : Str) (st : Stmt) (cc D : Addr) (ps : List Str) : Prop where
  ini : PySem.W.findIn K (.ref C) "__init__" = some (some (.ref f))
  ex : PySem.W.excInitIn K C [.type "ValueError", .type "Exception", .type "BaseException", .type "object"] "ValueError.__new__" = true
  kp : PySem.W.keepIn K (.ref C) = true
  fn : ∃ (oc : Value) (od : Option Addr) (name : Str) (kV doc pm : Value) (an : Option Addr) (cda : Addr) (ct : Value) (osl : Array (Option Value)), K.lookup f = some { cls := oc, dict := od, data := .func (PySem.W.ksFn name qual (defArgs st) (defBody st) (defScope st) .none kV doc pm an (.ref cda) ct cc), slots := osl } ∧ oc = .type "function" ∧ PySem.W.codeIn K (.ref cda) qual = true
theorem exi_call {P : Program} {w : World} {K : PySem.W.Frag} {C f : Addr} {qual : Str} {st : Stmt} {cc D : Addr} {ps : List Str} (E : ExI P K C f qual st cc D ps) {A : Around} {s : Shared} {us : List Value} {R : Result → Shared → Prop} (kin : K.In s.heap) (hl : us.length ≤ sizeLine)
    (h : codeAny (model P w) (A.under (.builtin "type.__call__" ⟨.ref C :: us, []⟩)) (.call (.ref f) ⟨.ref (s.heap.objs.size + 1) :: us, []⟩) (InitBack (s.heap.objs.size + 1) R) { s with heap := (s.heap.push (kdv_tup us)).push (HandSPX.excO C s.heap.objs.size) }) :
    codeAny (model P w) A (.call (.ref C) ⟨us, []⟩) R s := by
  obtain ⟨nm, N, qn, bs, bm, hdct, sn, sub, ab, col, dd, k0, k1, k2, k3, k5, hc, hbm⟩ := PySem.W.excInit_of kin E.ex
  obtain ⟨oc, od, name, kV, doc, pm, an, cda, ct, osl, lk, rfl, hcd⟩ := E.fn
  obtain ⟨hp, gs, d, t, os⟩ := s
  exact HandSPX.call_own PySem.F.excBase_ValueError hbm hc (PySem.W.looks_findIn kin E.ini) (PySem.W.exc_bind (kin _ _ lk) rfl) hl h
end Ma
/-! Ma26: super().__init__(text). -/
namespace Ma
open L2 PySem.W PySem.Spec PySem PyProof.Rows
abbrev VE : List Value := [.type "ValueError", .type "Exception", .type "BaseException", .type "object"]
/-- what the row super().__init__(..) asks -/
structure SupF (P : Program) (K : PySem.W.Frag) (mg mb : Str → Option Value) (C D cda cc : Addr) : Prop where
  kD : ∃ cdD, clsIn K D = some cdD
  sub : mroIn K C (.ref D) = some true
  st : nsIn K cStatics "thirdparty.any" = some none
  sup : ks_superIn K C D "__init__" = some (some (.builtin "ValueError.__init__"))
  ve : subIn K (.ref C) (.type "ValueError") = some true
  cell : ∃ (cl : Value) (cld : Option Addr) (csl : Array (Option Value)), K.lookup cc = some { cls := cl, dict := cld, data := .cell (some (.ref D)), slots := csl }
  code : ∃ (ccl : Value) (cdd : Option Addr) (vs : Array Value) (ccs : Array (Option Value)) (file : Str) (tf : Tok), K.lookup cda = some { cls := ccl, dict := cdd, data := .fields vs, slots := ccs } ∧ vs[2]? = some (.str file tf) ∧ (P.main.file == file) = true
  top : (P.main.scope.names.lookup ("super" : Str)).isSome = false
  mg : mg "super" = none
  mb : mb "super" = some (.type "super")
section
variable {P : Program} {w : World} {K : PySem.W.Frag} {mg mb m : Str → Option Value} {h : Heap} {L C D cda cc e t f : Addr} {fd : FuncData} {A : Around} {E : Value → Shared → Prop} {s : Shared} {body : List Stmt} {js : Expr} {p0 p1 p2 p3 p4 : Pos} {of : Obj} {Q : Flow → Shared → Prop} {news : List (Addr × Obj)}
theorem super_row (F : SupF P K mg mb C D cda cc) (kin : K.In h) (hg : h.Ns mainGlobals mg) (hb : h.Ns builtinsNs mb) (hx : excInitIn K C VE "ValueError.__new__" = true)
    (hof : h.get? f = some of) (hfd : of.data = .func fd) (hself : ∃ ar, (fd.params.posonlyargs ++ fd.params.args).head? = some ar ∧ m ar.arg = some (.ref e) ∧ fd.scope.names.lookup ar.arg = some .local)
    (hk : fd.scope.kind = .function) (hgl : fd.globals = mainGlobals) (hbl : fd.builtins = builtinsNs) (hc : fd.closure = [(("__class__" : Str), cc)]) (hcd : fd.code = .ref cda)
    (hs1 : fd.scope.names.lookup ("super" : Str) = some NameKind.globalImplicit) (hs2 : fd.scope.names.lookup ("__class__" : Str) = some NameKind.free)
    (fr : Fr h L s.heap m) (nw : News h L s.heap [(e, excObj C t none .none)]) {pl : Sem Bool} (hev : eval (.Call (.Attribute (.Call (.Name "super" p0) [] [] p1) "__init__" p2) [js] [] p3) (callEnv fd L f) = (do
      let ov ← attributeBase (.Call (.Name "super" p0) [] [] p1) "__init__" (callEnv fd L f) (eval (.Call (.Name "super" p0) [] [] p1) (callEnv fd L f))
      standAt p2.atName
      let (g, first) ← holding [ov] (getMethod ov "__init__" pl)
      callWith p3 g first (backTo p3 (starEach [js] (callEnv fd L f))) []))
    (hint : interactive (callEnv fd L f) = false) (hsw : swapsWith (.Call (.Attribute (.Call (.Name "super" p0) [] [] p1) "__init__" p2) [js] [] p3) none p4.line (callEnv fd L f) = pure false)
    (hst : starEach [js] (callEnv fd L f) = (false, eval js (callEnv fd L f)) :: starEach [] (callEnv fd L f)) (hl : ∀ v : Value, [v].length ≤ sizeLine)
    (hjs : ∀ (s1 : Shared) (news : List (Addr × Obj)) (Q : List Value → Shared → Prop), Fr h L s1.heap m → News h L s1.heap news → (∀ (v : Value) (s2 : Shared), Fr h L s2.heap m → News h L s2.heap news → s2.gens = s1.gens → s2.os = s1.os → Q [v] s2) → wpAny (model P w) A (spliced (backTo p3 (starEach [js] (callEnv fd L f)))) Q E s1)
    (q : ∀ (t' : Addr) (s2 : Shared), Fr h L s2.heap m → News h L s2.heap [(e, excObj C t' none .none)] → s2.gens = s.gens → s2.os = s.os → Q .next s2) :
    PySem.wpAt (model P w) A (.func body (callEnv fd L f)) (exec (.Expr (.Call (.Attribute (.Call (.Name "super" p0) [] [] p1) "__init__" p2) [js] [] p3) p4) (callEnv fd L f)) Q E s := by
  obtain ⟨ar, ha1, ha2, ha3⟩ := hself
  obtain ⟨ccl, cdd, vs, ccs, file, tf, k1, k2, k3⟩ := F.code
  obtain ⟨cl, cld, csl, kc⟩ := F.cell
  obtain ⟨cdD, kD⟩ := F.kD
  have up : ∀ {b : Addr} {o : Obj}, K.lookup b = some o → s.heap.get? b = some o := fun z => fr.keep _ _ (kin _ _ z)
  have nse : ∀ {o : Obj}, s.heap.get? e = some o → o = excObj C t none .none := fun {o} z => by
    have := (nw _ (List.mem_singleton.mpr rfl)).1
    rw [this] at z
    exact (Option.some.inj z).symm
  have hexe := (nw _ (List.mem_singleton.mpr rfl)).1
  refine ks_wpAt_Expr_any (ks_wpAt_MethodCall (pl := pl) (ks_wpAt_super_base hs1 hs2 (by decide) rfl (fr.keep _ _ hof) hfd ha1 hcd (up k1) rfl k2 k3 F.top ?_) hev) hint hsw
  refine ks_loadName_global hk hs1 (Calls.loadGlobal_builtin (mg := mg) (mb := mb) ?_ F.mg ?_ F.mb ⟨rfl, wpAny_loadName_free (c := cc) (v := .ref D) hk hs2 ?_ ?_ (wpAny_loadName_local hk ha3 fr.ns ha2 ?_)⟩)
  · show s.heap.Ns fd.globals mg
    rw [hgl]
    exact hg.keeps fr.keep
  · show s.heap.Ns fd.builtins mb
    rw [hbl]
    exact hb.keeps fr.keep
  · show fd.closure.lookup _ = some cc
    rw [hc]
    rfl
  · exact ⟨_, up kc, rfl⟩
  · obtain ⟨oD, lD, dD⟩ : ∃ oD, K.lookup D = some oD ∧ oD.data = .cls cdD := by
      unfold clsIn at kD
      split at kD
      · cases kD
        exact ⟨_, by assumption, rfl⟩
      · cases kD
    obtain ⟨hp, gs, d, tk, os⟩ := s
    refine ks_wpAny_isType_cls (up lD) dD ⟨rfl, ks_wpAny_call_super (up lD) dD hexe rfl (fun c => by simp [excObj, excRec]) (looks_mroIn (fun a o z => up z) F.sub) fun h1 hso keep => ?_⟩
    have fr1 : Fr h L h1 m := fr.keeps keep
    have nw1 : News h L h1 [(e, excObj C t none .none)] := nw.grown keep
    have nso : h.get? hp.objs.size = none := by
      cases z : h.get? hp.objs.size with
      | none => rfl
      | some o =>
        have := fr.keep _ _ z
        simp [Heap.get?] at this
    have nw2 : News h L h1 [(hp.objs.size, ks_superObj D e C), (e, excObj C t none .none)] := nw1.more fr1 hso (fun _ _ => by simp) nso
    refine kxs_method kxs_ValueError fr1 kin nw2 (List.mem_cons_self ..) (ox := excObj C t none .none) (odx := none) ⟨keep _ _ hexe, rfl, rfl, trivial⟩ F.st F.sup F.ve (by decide) fun u h2 fr2 nw3 lt => ?_
    refine kxs_callWith1 (x := e) (i := "ValueError.__init__") nw3 (List.mem_cons_self ..) (hjs _ _ _ fr2 nw3 fun v s3 fr3 nw4 e1 e2 => ⟨(nw4 _ (List.mem_cons_self ..)).1, ?_⟩) hst rfl
    have hne1 : u ≠ e := fun z => by
      have a1 := (nw4 _ (List.mem_cons_self ..)).1
      have a2 := (nw4 (e, excObj C t none .none) (by simp)).1
      subst z
      rw [a1] at a2
      cases a2
    have hne2 : hp.objs.size ≠ e := fun z => by
      have a1 := (nw4 (hp.objs.size, ks_superObj D e C) (by simp)).1
      have a2 := (nw4 (e, excObj C t none .none) (by simp)).1
      rw [z] at a1
      rw [a1] at a2
      cases a2
    refine kxs_call (C := C) (t := t) (dv := none) (c2 := .none) fr3 kin nw4 PySem.F.excBase_ValueError hx (List.mem_cons_self ..) (.tail hne1 (.tail hne2 (.head (by simp)))) (hl v) fun t' h4 fr4 nw5 lt4 => ?_
    exact q t' _ fr4 (fun p hp' => nw5 p (by
      have := List.mem_singleton.mp hp'
      subst this
      simp)) e1 e2
end
end Ma
/-! Ma27: an exception's fields, one or two. -/
namespace Ma
open L2 PySem.W PySem.Spec PySem PyProof.Rows
theorem ns_one {h : Heap} {dx : Addr} {f : Str} {k : Int} {tk : Tok} {v : Value} {n : Nat} (e : h.get? dx = some (dictOf [⟨k, .str f tk, v⟩] n)) : h.Ns1 dx fun x => if f = x then some v else none := by
  refine ⟨_, _, _, e, rfl, fun a ha => ⟨f, tk, ?_⟩, by simp [UniqKeys], fun x => ?_⟩
  · have : a = ⟨k, .str f tk, v⟩ := by simpa using ha
    rw [this]
  · by_cases hx : f = x
    · simp [nsFind, findBy, Value.isStr, hx]
    · simp [nsFind, findBy, Value.isStr, hx]
theorem ns_two {h : Heap} {dx : Addr} {f g : Str} {k l : Int} {tk tl : Tok} {v u : Value} {n : Nat} (ne : f ≠ g) (e : h.get? dx = some (dictOf [⟨k, .str f tk, v⟩, ⟨l, .str g tl, u⟩] n)) : h.Ns1 dx fun x => if f = x then some v else if g = x then some u else none := by
  refine ⟨_, _, _, e, rfl, fun a ha => ?_, ?_, fun x => ?_⟩
  · have : a = ⟨k, .str f tk, v⟩ ∨ a = ⟨l, .str g tl, u⟩ := by simpa using ha
    rcases this with z | z <;> rw [z]
    · exact ⟨f, tk, rfl⟩
    · exact ⟨g, tl, rfl⟩
  · simp [UniqKeys, Value.isStr]
    exact fun z => ne z.symm
  · by_cases hx : f = x
    · simp [nsFind, findBy, Value.isStr, hx]
    · by_cases hy : g = x
      · simp [nsFind, findBy, Value.isStr, hx, hy]
      · simp [nsFind, findBy, Value.isStr, hx, hy]
end Ma
/-! Ma28: self.f = x in an exception's `__init__`. -/
namespace Ma
open L2 PySem.W PySem.Spec PySem PyProof.Rows
structure StF (K : PySem.W.Frag) (C : Addr) (f : Str) : Prop where
  sa : findIn K (.ref C) "__setattr__" = some (some (.builtin "object.__setattr__"))
  ov : excOver K C VE = true
  tk : takerIn K C f = some none
  hd : hasDictIn K C = true
section
variable {P : Program} {w : World} {K : PySem.W.Frag} {m : Str → Option Value} {h : Heap} {L C e t dx : Addr} {A : Around} {E : Value → Shared → Prop} {s : Shared} {p0 p1 p2 p3 : Pos} {Q : Flow → Shared → Prop} {sf f g x : Str} {v u : Value} {env : Env} {c : Code}
theorem fld_one (kin : K.In h) (F : StF K C f) (hk : env.scope.kind = .function) (hL : env.locals = L) (h1 : env.kindOf sf = some .local) (h2 : env.kindOf x = some .local) (m1 : m sf = some (.ref e)) (m2 : m x = some v)
    (hsw : swapsWith (.Name x p1) (some (.Attribute (.Name sf p0) f p2)) p3.line env = pure false) (d1 : (sf == ("__debug__" : Str)) = false) (d2 : (x == ("__debug__" : Str)) = false)
    (fr : Fr h L s.heap m) (nw : News h L s.heap [(e, excObj C t none .none)])
    (q : ∀ (dx : Addr) (s2 : Shared) (k : Int) (tk : Tok) (n : Nat), Fr h L s2.heap m → News h L s2.heap [(dx, dictOf [⟨k, .str f tk, v⟩] n), (e, excObj C t (some dx) .none)] → e < dx → s2.gens = s.gens → s2.os = s.os → Q .next s2) :
    PySem.wpAt (model P w) A c (exec (.Assign [.Attribute (.Name sf p0) f p2] (.Name x p1) p3) env) Q E s := by
  subst hL
  refine ks_wpAt_Assign_Attr (wpAt_of_wpAny (wpAny_Name (wpAny_loadName_local hk h2 fr.ns m2 ?_) d2)) hsw
  refine wpAny_Name (wpAny_loadName_local hk h1 fr.ns m1 ?_) d1
  refine set_exc0 (t := t) (c2 := .none) PySem.F.store_ValueError fr kin nw (List.mem_cons_self ..) F.sa F.ov F.tk F.hd rfl (.head (by simp)) (by simp [putL]) fun dx h' fr' nw' lt => ?_
  exact q dx _ _ _ _ fr' (by simpa [putL] using nw') (lt _ (List.mem_cons_self ..)) rfl rfl
theorem fld_two {k : Int} {tk : Tok} {n : Nat} (kin : K.In h) (F : StF K C g) (hk : env.scope.kind = .function) (hL : env.locals = L) (h1 : env.kindOf sf = some .local) (h2 : env.kindOf x = some .local) (m1 : m sf = some (.ref e)) (m2 : m x = some u)
    (hsw : swapsWith (.Name x p1) (some (.Attribute (.Name sf p0) g p2)) p3.line env = pure false) (d1 : (sf == ("__debug__" : Str)) = false) (d2 : (x == ("__debug__" : Str)) = false) (ne : f ≠ g)
    (fr : Fr h L s.heap m) (nw : News h L s.heap [(dx, dictOf [⟨k, .str f tk, v⟩] n), (e, excObj C t (some dx) .none)]) (lt : e < dx)
    (q : ∀ (s2 : Shared) (l : Int) (tl : Tok) (n : Nat), Fr h L s2.heap m → News h L s2.heap [(dx, dictOf [⟨k, .str f tk, v⟩, ⟨l, .str g tl, u⟩] n), (e, excObj C t (some dx) .none)] → s2.gens = s.gens → s2.os = s.os → Q .next s2) :
    PySem.wpAt (model P w) A c (exec (.Assign [.Attribute (.Name sf p0) g p2] (.Name x p1) p3) env) Q E s := by
  subst hL
  refine ks_wpAt_Assign_Attr (wpAt_of_wpAny (wpAny_Name (wpAny_loadName_local hk h2 fr.ns m2 ?_) d2)) hsw
  refine wpAny_Name (wpAny_loadName_local hk h1 fr.ns m1 ?_) d1
  have hf : (Value.str f tk).isStr g = false := by simp [Value.isStr, ne]
  refine set_excD (t := t) (dx := dx) (c2 := .none) (es := [⟨k, .str f tk, v⟩]) (n := n) PySem.F.store_ValueError fr kin nw (by simp) F.sa F.ov F.tk F.hd (by simp) (by simp [getL, hf, DictEntry.refKey]) rfl (.head (by
    intro p hp
    have := List.mem_singleton.mp hp
    subst this
    exact Nat.ne_of_lt lt)) (by simp [putL, hf]) fun h' fr' nw' => ?_
  exact q _ _ _ _ fr' (by simpa [putL, hf] using nw') rfl rfl
end
end Ma
/-! Ma29: C(x) and C(x, y) of exceptions with an `__init__`. -/
namespace Ma
open L2 PySem.W PySem.Spec PySem PyProof.Rows
/-- the text that is handed to super().__init__ comes to a value, whatever it is -/
def JsOk (P : Program) (w : World) (h : Heap) (m : Str → Option Value) (fd : FuncData) (f : Addr) (js : Expr) (p3 : Pos) (A : Around) (E : Value → Shared → Prop) (L : Addr) : Prop :=
  ∀ (s1 : Shared) (news : List (Addr × Obj)) (Q : List Value → Shared → Prop), Fr h L s1.heap m → News h L s1.heap news → (∀ (v : Value) (s2 : Shared), Fr h L s2.heap m → News h L s2.heap news → s2.gens = s1.gens → s2.os = s1.os → Q [v] s2) → wpAny (model P w) A (spliced (backTo p3 (starEach [js] (callEnv fd L f)))) Q E s1
/-- the `__init__` of such an exception -/
structure IniF (P : Program) (K : PySem.W.Frag) (mg mb : Str → Option Value) (C D cda cc f : Addr) (fd : FuncData) (ps : List Str) : Prop where
  ini : findIn K (.ref C) "__init__" = some (some (.ref f))
  ex : excInitIn K C VE "ValueError.__new__" = true
  fn : ∃ (od : Option Addr) (osl : Array (Option Value)), K.lookup f = some { cls := .type "function", dict := od, data := .func fd, slots := osl }
  hcd : codeIn K fd.code fd.qualname = true
  sup : SupF P K mg mb C D cda cc
  hk : fd.scope.kind = .function
  co : fd.scope.isCoroutine = false
  ge : fd.scope.isGenerator = false
  gl : fd.globals = mainGlobals
  bl : fd.builtins = builtinsNs
  cl : fd.closure = [(("__class__" : Str), cc)]
  cd : fd.code = .ref cda
  s1 : fd.scope.names.lookup ("super" : Str) = some NameKind.globalImplicit
  s2 : fd.scope.names.lookup ("__class__" : Str) = some NameKind.free
  nc : ∀ x ∈ fd.scope.names, x.2 ≠ .cell
  bd : ∀ us : List Value, us.length = ps.length → bindArgs fd ⟨us, []⟩ = pure (ps.zip us)
  lo : ∀ x ∈ ps, fd.scope.names.lookup x = some .local
section
variable {P : Program} {w : World} {K : PySem.W.Frag} {mg mb : Str → Option Value} {C D cda cc f : Addr} {fd : FuncData} {A : Around} {s : Shared} {R : Result → Shared → Prop} {us : List Value} {ps : List Str} {js : Expr} {p0 p1 p2 p3 p4 q0 q1 q2 q3 : Pos}
/-- the class called: what is left is the body -/
theorem ini_body (F : IniF P K mg mb C D cda cc f fd ps) (kin : K.In s.heap) (nl : s.heap.NoLimit) (hl : us.length ≤ sizeLine) (hn : us.length + 1 = ps.length) (hd : (A.under (.builtin "type.__call__" ⟨.ref C :: us, []⟩)).depth < recursionLimit) {body : List Stmt} (hbd : fd.body = .stmts body)
    (go : ∀ (t : Addr) (h1 : Heap) (s1 : Shared), let e := s.heap.objs.size + 1; let L := e + 1; let A1 := A.under (.builtin "type.__call__" ⟨.ref C :: us, []⟩)
      Fr s.heap L s1.heap (fun y => (ps.zip (.ref e :: us)).reverse.lookup y) → News s.heap L s1.heap [(e, excObj C t none .none)] → s1.gens = s.gens → s1.os = s.os →
      PySem.wpAt (model P w) (A1.deeper (callEnv fd L f)) (.func body (callEnv fd L f)) (execs body (callEnv fd L f))
        (fun fl s' => InitBack e R (.ok (.ret (match fl with | .ret v => v | _ => .none))) s')
        (fun x s' => wpAny (model P w) (A1.deeper (callEnv fd L f)) (leaving (callEnv fd L f) x) (fun _ s'' => InitBack e R (.error x) s'') (fun x' s'' => InitBack e R (.error x') s'') s') s1) :
    codeAny (model P w) A (.call (.ref C) ⟨us, []⟩) R s := by
  obtain ⟨nm, N, qn, bs, bm, hdct, sn, sub, ab, col, dd, k0, k1, k2, k3, k5, hc, hbm⟩ := excInit_of kin F.ex
  obtain ⟨od, osl, lk⟩ := F.fn
  obtain ⟨hp, gs, d, tk, os⟩ := s
  refine HandSPX.call_own PySem.F.excBase_ValueError hbm hc (looks_findIn kin F.ini) (exc_bind (kin _ _ lk) rfl) hl ?_
  have up : ∀ {b : Addr} {o : Obj}, hp.get? b = some o → ((hp.push (kdv_tup us)).push (HandSPX.excO C hp.objs.size)).get? b = some o := fun z => Heap.get?_push_of_some _ (Heap.get?_push_of_some _ z)
  have kin2 : K.In ((hp.push (kdv_tup us)).push (HandSPX.excO C hp.objs.size)) := fun a o z => up (kin a o z)
  have sz1 : hp.objs.size + 1 = (hp.push (kdv_tup us)).objs.size := by simp [Heap.push]
  have sz : ((hp.push (kdv_tup us)).push (HandSPX.excO C hp.objs.size)).objs.size = hp.objs.size + 1 + 1 := by simp [Heap.push]
  refine ks_codeAny_call_defAt (binds := ps.zip (.ref (hp.objs.size + 1) :: us)) hd (kin2 _ _ lk) rfl (nl.keeps fun b o z => up z) (codeRec_of kin2 F.hcd) hbd (fun M A E Q q => ?_) F.nc (fun x hx => F.lo _ (List.of_mem_zip (a := x.1) (b := x.2) hx).1) (fun h1 ns keep => ?_) F.co F.ge F.hk
  · rw [F.bd _ (by simpa using hn)]
    exact wpAny_pure q
  · have fr : Fr hp (hp.objs.size + 1 + 1) h1 (fun y => (ps.zip (.ref (hp.objs.size + 1) :: us)).reverse.lookup y) := ⟨sz ▸ ns, fun b o z => keep _ _ (up z), by omega⟩
    have nw : News hp (hp.objs.size + 1 + 1) h1 [(hp.objs.size + 1, excObj C hp.objs.size none .none)] := fun p hp' => by
      have := List.mem_singleton.mp hp'
      subst this
      exact ⟨keep _ _ (by
        have z := Heap.get?_push_size (hp.push (kdv_tup us)) (o := HandSPX.excO C hp.objs.size) rfl
        rw [← sz1] at z
        exact z), by simp, by simp [Heap.get?]⟩
    have z := go hp.objs.size h1 ⟨h1, gs, d, tk + (ps.zip (.ref (hp.objs.size + 1) :: us)).length, os⟩ fr nw rfl rfl
    rw [sz]
    exact z
end
end Ma
/-! Ma30: one field, two fields. -/
namespace Ma
open L2 PySem.W PySem.Spec PySem PyProof.Rows
/-- what the row super().__init__(js) comes to in each frame -/
structure RowS (fd : FuncData) (f : Addr) (js : Expr) (p0 p1 p2 p3 p4 : Pos) : Prop where
  ev : ∀ L, ∃ pl : Sem Bool, eval (.Call (.Attribute (.Call (.Name "super" p0) [] [] p1) "__init__" p2) [js] [] p3) (callEnv fd L f) = (do
      let ov ← attributeBase (.Call (.Name "super" p0) [] [] p1) "__init__" (callEnv fd L f) (eval (.Call (.Name "super" p0) [] [] p1) (callEnv fd L f))
      standAt p2.atName
      let (g, first) ← holding [ov] (getMethod ov "__init__" pl)
      callWith p3 g first (backTo p3 (starEach [js] (callEnv fd L f))) [])
  it : ∀ L, interactive (callEnv fd L f) = false
  sw : ∀ L, swapsWith (.Call (.Attribute (.Call (.Name "super" p0) [] [] p1) "__init__" p2) [js] [] p3) none p4.line (callEnv fd L f) = pure false
  st : ∀ L, starEach [js] (callEnv fd L f) = (false, eval js (callEnv fd L f)) :: starEach [] (callEnv fd L f)
section
variable {P : Program} {w : World} {K : PySem.W.Frag} {mg mb : Str → Option Value} {C D cda cc f : Addr} {fd : FuncData} {A : Around} {s : Shared} {R : Result → Shared → Prop} {us : List Value} {js : Expr} {p0 p1 p2 p3 p4 q0 q1 q2 q3 r0 r1 r2 r3 : Pos} {sf x y n1 n2 : Str} {v u : Value}
theorem exi_one (F : IniF P K mg mb C D cda cc f fd [sf, x]) (kin : K.In s.heap) (hg : s.heap.Ns mainGlobals mg) (hb : s.heap.Ns builtinsNs mb) (nl : s.heap.NoLimit) (hd : (A.under (.builtin "type.__call__" ⟨.ref C :: [v], []⟩)).depth < recursionLimit)
    (hbd : fd.body = .stmts [.Expr (.Call (.Attribute (.Call (.Name "super" p0) [] [] p1) "__init__" p2) [js] [] p3) p4, .Assign [.Attribute (.Name sf q0) n1 q2] (.Name x q1) q3])
    (hself : ∃ ar, (fd.params.posonlyargs ++ fd.params.args).head? = some ar ∧ ar.arg = sf) (nsx : sf ≠ x) (S : RowS fd f js p0 p1 p2 p3 p4) (F1 : StF K C n1)
    (sw1 : ∀ L, swapsWith (.Name x q1) (some (.Attribute (.Name sf q0) n1 q2)) q3.line (callEnv fd L f) = pure false) (d1 : (sf == ("__debug__" : Str)) = false) (d2 : (x == ("__debug__" : Str)) = false)
    (hjs : ∀ E, JsOk P w s.heap (fun z => ([sf, x].zip [.ref (s.heap.objs.size + 1), v]).reverse.lookup z) fd f js p3 ((A.under (.builtin "type.__call__" ⟨.ref C :: [v], []⟩)).deeper (callEnv fd (s.heap.objs.size + 1 + 1) f)) E (s.heap.objs.size + 1 + 1))
    (q : ∀ (dx t : Addr) (s2 : Shared) (k : Int) (tk : Tok) (n : Nat), (∀ b o, s.heap.get? b = some o → s2.heap.get? b = some o) → s2.heap.get? (s.heap.objs.size + 1) = some (excObj C t (some dx) .none) → s2.heap.get? dx = some (dictOf [⟨k, .str n1 tk, v⟩] n) → s.heap.get? dx = none → s.heap.objs.size + 1 < dx → s2.gens = s.gens → s2.os = s.os → R (.ok (.ret (.ref (s.heap.objs.size + 1)))) s2) :
    codeAny (model P w) A (.call (.ref C) ⟨[v], []⟩) R s := by
  obtain ⟨ar, ha1, ha2⟩ := hself
  refine ini_body F kin nl (by simp only [List.length_singleton]; decide +kernel) rfl hd hbd fun t h1 s1 => ?_
  intro e L A1 fr nw g1 o1
  have m1 : ([sf, x].zip [Value.ref e, v]).reverse.lookup sf = some (.ref e) := by
    have : (sf == x) = false := by simpa using nsx
    simp [List.lookup, this]
  have m2 : ([sf, x].zip [Value.ref e, v]).reverse.lookup x = some v := by simp [List.lookup]
  obtain ⟨od, osl, lk⟩ := F.fn
  obtain ⟨pl, ev⟩ := S.ev L
  have l1 := F.lo sf (by simp)
  have l2 := F.lo x (by simp)
  refine ks_wpAt_execs_cons (super_row (js := js) F.sup kin hg hb F.ex (kin _ _ lk) rfl ⟨ar, ha1, by rw [ha2]; exact m1, by rw [ha2]; exact l1⟩ F.hk F.gl F.bl F.cl F.cd F.s1 F.s2 fr nw ev (S.it L) (S.sw L) (S.st L) (fun _ => by simp only [List.length_singleton]; decide +kernel) (hjs _) fun t' s2 fr2 nw2 g2 o2 => ?_)
  refine ks_wpAt_execs_cons (fld_one kin F1 F.hk rfl l1 l2 m1 m2 (sw1 L) d1 d2 fr2 nw2 fun dx s3 k tk n fr3 nw3 lt g3 o3 => ?_)
  refine wpAt_of_wpAny ?_
  rw [execs]
  refine wpAny_pure ⟨rfl, ?_⟩
  exact q dx t' s3 k tk n fr3.keep (nw3 (e, _) (by simp)).1 (nw3 (dx, _) (by simp)).1 (nw3 (dx, dictOf [⟨k, .str n1 tk, v⟩] n) (by simp)).2.2 lt (by rw [g3, g2, g1]) (by rw [o3, o2, o1])
theorem exi_two (F : IniF P K mg mb C D cda cc f fd [sf, x, y]) (kin : K.In s.heap) (hg : s.heap.Ns mainGlobals mg) (hb : s.heap.Ns builtinsNs mb) (nl : s.heap.NoLimit) (hd : (A.under (.builtin "type.__call__" ⟨.ref C :: [v, u], []⟩)).depth < recursionLimit)
    (hbd : fd.body = .stmts [.Expr (.Call (.Attribute (.Call (.Name "super" p0) [] [] p1) "__init__" p2) [js] [] p3) p4, .Assign [.Attribute (.Name sf q0) n1 q2] (.Name x q1) q3, .Assign [.Attribute (.Name sf r0) n2 r2] (.Name y r1) r3])
    (hself : ∃ ar, (fd.params.posonlyargs ++ fd.params.args).head? = some ar ∧ ar.arg = sf) (nsx : sf ≠ x) (nsy : sf ≠ y) (nxy : x ≠ y) (n12 : n1 ≠ n2) (S : RowS fd f js p0 p1 p2 p3 p4) (F1 : StF K C n1) (F2 : StF K C n2)
    (sw1 : ∀ L, swapsWith (.Name x q1) (some (.Attribute (.Name sf q0) n1 q2)) q3.line (callEnv fd L f) = pure false) (sw2 : ∀ L, swapsWith (.Name y r1) (some (.Attribute (.Name sf r0) n2 r2)) r3.line (callEnv fd L f) = pure false) (d1 : (sf == ("__debug__" : Str)) = false) (d2 : (x == ("__debug__" : Str)) = false) (d3 : (y == ("__debug__" : Str)) = false)
    (hjs : ∀ E, JsOk P w s.heap (fun z => ([sf, x, y].zip [.ref (s.heap.objs.size + 1), v, u]).reverse.lookup z) fd f js p3 ((A.under (.builtin "type.__call__" ⟨.ref C :: [v, u], []⟩)).deeper (callEnv fd (s.heap.objs.size + 1 + 1) f)) E (s.heap.objs.size + 1 + 1))
    (q : ∀ (dx t : Addr) (s2 : Shared) (k l : Int) (tk tl : Tok) (n : Nat), (∀ b o, s.heap.get? b = some o → s2.heap.get? b = some o) → s2.heap.get? (s.heap.objs.size + 1) = some (excObj C t (some dx) .none) → s2.heap.get? dx = some (dictOf [⟨k, .str n1 tk, v⟩, ⟨l, .str n2 tl, u⟩] n) → s.heap.get? dx = none → s.heap.objs.size + 1 < dx → s2.gens = s.gens → s2.os = s.os → R (.ok (.ret (.ref (s.heap.objs.size + 1)))) s2) :
    codeAny (model P w) A (.call (.ref C) ⟨[v, u], []⟩) R s := by
  obtain ⟨ar, ha1, ha2⟩ := hself
  refine ini_body F kin nl (by simp only [List.length_cons, List.length_nil]; decide +kernel) rfl hd hbd fun t h1 s1 => ?_
  intro e L A1 fr nw g1 o1
  have e1 : (sf == x) = false := by simpa using nsx
  have e2 : (sf == y) = false := by simpa using nsy
  have e3 : (x == y) = false := by simpa using nxy
  have m1 : ([sf, x, y].zip [Value.ref e, v, u]).reverse.lookup sf = some (.ref e) := by simp [List.lookup, e1, e2]
  have m2 : ([sf, x, y].zip [Value.ref e, v, u]).reverse.lookup x = some v := by simp [List.lookup, e3]
  have m3 : ([sf, x, y].zip [Value.ref e, v, u]).reverse.lookup y = some u := by simp [List.lookup]
  obtain ⟨od, osl, lk⟩ := F.fn
  obtain ⟨pl, ev⟩ := S.ev L
  have l1 := F.lo sf (by simp)
  have l2 := F.lo x (by simp)
  have l3 := F.lo y (by simp)
  refine ks_wpAt_execs_cons (super_row (js := js) F.sup kin hg hb F.ex (kin _ _ lk) rfl ⟨ar, ha1, by rw [ha2]; exact m1, by rw [ha2]; exact l1⟩ F.hk F.gl F.bl F.cl F.cd F.s1 F.s2 fr nw ev (S.it L) (S.sw L) (S.st L) (fun _ => by simp only [List.length_singleton]; decide +kernel) (hjs _) fun t' s2 fr2 nw2 g2 o2 => ?_)
  refine ks_wpAt_execs_cons (fld_one kin F1 F.hk rfl l1 l2 m1 m2 (sw1 L) d1 d2 fr2 nw2 fun dx s3 k tk n fr3 nw3 lt g3 o3 => ?_)
  refine ks_wpAt_execs_cons (fld_two kin F2 F.hk rfl l1 l3 m1 m3 (sw2 L) d1 d3 n12 fr3 nw3 lt fun s4 l tl n' fr4 nw4 g4 o4 => ?_)
  refine wpAt_of_wpAny ?_
  rw [execs]
  refine wpAny_pure ⟨rfl, ?_⟩
  exact q dx t' s4 k l tk tl n' fr4.keep (nw4 (e, _) (by simp)).1 (nw4 (dx, _) (by simp)).1 (nw4 (dx, dictOf [⟨k, .str n1 tk, v⟩, ⟨l, .str n2 tl, u⟩] n') (by simp)).2.2 lt (by rw [g4, g3, g2, g1]) (by rw [o4, o3, o2, o1])
end
end Ma
/-! Ma31: the exception stands in the layer's heap. -/
namespace Ma
open L2 PySem.W PySem.Spec PySem PyProof.Rows
theorem cut_get {h : Heap} {n b : Nat} : ({ h with objs := h.objs.extract 0 n } : Heap).get? b = if b < n then h.get? b else none := by
  unfold Heap.get?
  by_cases hb : b < n
  · simp only [hb, if_true]
    have : (h.objs.extract 0 n)[b]? = h.objs[b]? := by
      rw [Array.getElem?_extract]
      by_cases hs : b < h.objs.size
      · simp [hs]; omega
      · simp; omega
    rw [this]
  · simp only [hb, if_false]
    have : (h.objs.extract 0 n)[b]? = none := by
      rw [Array.getElem?_eq_none]
      simp; omega
    rw [this]
theorem get_lt {h : Heap} {b : Addr} {o : Obj} (z : h.get? b = some o) : b < h.objs.size := by
  unfold Heap.get? at z
  by_cases hb : b < h.objs.size
  · exact hb
  · rw [Array.getElem?_eq_none (Nat.le_of_not_lt hb)] at z
    cases z
theorem two_laid {X : Cx} {pins : List (Addr × Obj)} {σ : L2.St} {H : Hp} {s : Shared} {h' : Heap} {t' : Nat} {e dx C t : Addr} {fs : List (Str × V)} {mA : Str → Option Value} (I : Inv X pins σ H s) (keep : ∀ b o, s.heap.get? b = some o → h'.get? b = some o) (he : s.heap.objs.size ≤ e) (lt : e < dx)
    (h1 : h'.get? e = some (excObj C t (some dx) .none)) (h2 : h'.Ns1 dx mA) (hr : ∀ f, RelO (fs.lookup f) (mA f)) :
    Inv X pins σ (upd (upd H e (XO (.ref C) (some dx) e)) dx (.xd fs)) { s with heap := h', toks := t' } := by
  have a1 : Inv X pins σ (upd H e (XO (.ref C) (some dx) e)) { s with heap := { h' with objs := h'.objs.extract 0 dx }, toks := t' } := by
    refine I.laidN (fun b o z => ?_) ?_ (I.hok.fresh he) ?_
    · rw [cut_get, if_pos (Nat.lt_trans (Nat.lt_of_lt_of_le (get_lt z) he) lt)]
      exact keep b o z
    · cases z : s.heap.get? e with
      | none => rfl
      | some o => exact absurd (Nat.lt_of_lt_of_le (get_lt z) he) (Nat.lt_irrefl _)
    · have z : ({ h' with objs := h'.objs.extract 0 dx } : Heap).get? e = some (excObj C t (some dx) .none) := by rw [cut_get, if_pos lt]; exact h1
      simp only [ObjOk, XO]
      exact ⟨⟨_, _, z, ⟨rfl, rfl⟩, rfl⟩, ⟨_, z⟩, fun g1 g2 ⟨oe, vs, e, z, f⟩ k => ⟨oe, vs, k _ e, z, f⟩⟩
  refine a1.laidN (h' := h') (t' := t') (fun b o z => ?_) ?_ ?_ ?_
  · rw [cut_get] at z
    split at z
    · exact z
    · cases z
  · show ({ h' with objs := h'.objs.extract 0 dx } : Heap).get? dx = none
    rw [cut_get, if_neg (Nat.lt_irrefl _)]
  · rw [upd_ne (fun z => Nat.lt_irrefl _ (z ▸ lt))]
    exact I.hok.fresh (Nat.le_trans he (Nat.le_of_lt lt))
  · simp only [ObjOk]
    exact ⟨mA, h2, hr⟩
end Ma
/-! Ma32: the text of such an exception: f"..{x}..". -/
namespace Ma
open L2 PySem.W PySem.Spec PySem PyProof.Rows
/-- a value that comes to the text z in {..} -/
def FmtV (P : Program) (w : World) (h : Heap) (A : Around) (v : Value) (z : Str) : Prop :=
  ∀ (E : Value → Shared → Prop) (s1 : Shared) (Q : Value → Shared → Prop), (∀ b o, h.get? b = some o → s1.heap.get? b = some o) → (∀ (h' : Heap) (u : Tok) (tk : Nat), (∀ b o, s1.heap.get? b = some o → h'.get? b = some o) → Q (.str z u) { s1 with heap := h', toks := tk }) → wpAny (model P w) A (formatField v Str.empty) Q E s1
section
variable {P : Program} {w : World} {h : Heap} {A : Around} {m : Str → Option Value} {fd : FuncData} {f L : Addr} {v : Value} {z x : Str} {env : Env}
theorem fmt_int {i : Int} {t : Tok} (hb : i.natAbs.log2 < 1920) : FmtV P w h A (.int i t) (Str.ofString (toString i)) := fun E s1 Q k q =>
  wpAny_formatField_int hb (q _ _ _ fun _ _ z => z)
theorem fmt_ref {a : Addr} {d : PyData} {as : List Addr} (k1 : Reads h (.ref a) d as) (h1 : d.showable = true) (h2 : d.hasDict = false) (hg : A.guards = some []) (hu : A.units + (d.depth + 2) < cLine) (h4 : d.shown.length ≤ sizeLine) : FmtV P w h A (.ref a) d.shown := fun E s1 Q k q =>
  formatField_of_reads k1 h1 (fun z => by rw [h2] at z; cases z) hg hu k (fun h' u tk keep => q h' u tk keep) h4
/-- a part of the text -/
def PartOk (P : Program) (w : World) (h : Heap) (m : Str → Option Value) (A : Around) (L : Addr) (env : Env) (e : Expr) (z : Str) : Prop :=
  ∀ (E : Value → Shared → Prop) (s1 : Shared) (Q : Value → Shared → Prop), Fr h L s1.heap m → (∀ (h' : Heap) (u : Tok) (tk : Nat), (∀ b o, s1.heap.get? b = some o → h'.get? b = some o) → Q (.str z u) { s1 with heap := h', toks := tk }) → wpAny (model P w) A (eval e env) Q E s1
theorem part_str {j : Nat} {p : Pos} : PartOk P w h m A L env (.Constant (.str z) j p) z := fun E s1 Q fr q => wpAny_Constant_str (q _ _ _ fun _ _ z => z)
theorem part_fmt {p q : Pos} (hk : env.scope.kind = .function) (hL : env.locals = L) (hx : env.kindOf x = some .local) (hm : m x = some v) (hd : (x == ("__debug__" : Str)) = false) (F : FmtV P w h A v z) : PartOk P w h m A L env (.FormattedValue (.Name x p) (-1) none q) z := fun E s1 Q fr go => by
  subst hL
  exact wpAny_FormattedValue_plain (wpAny_Name (wpAny_loadName_local hk hx fr.ns hm (F E s1 Q fr.keep go)) hd)
inductive PartsOk (P : Program) (w : World) (h : Heap) (m : Str → Option Value) (A : Around) (L : Addr) (env : Env) : List Expr → List Str → Prop
  | nil : PartsOk P w h m A L env [] []
  | cons {e : Expr} {z : Str} {es : List Expr} {zs : List Str} : PartOk P w h m A L env e z → PartsOk P w h m A L env es zs → PartsOk P w h m A L env (e :: es) (z :: zs)
theorem joins_ok {es : List Expr} {zs : List Str} (r : PartsOk P w h m A L env es zs) : ∀ (E : Value → Shared → Prop) (acc : Str) (s1 : Shared) (Q : Str → Shared → Prop), acc.length + (zs.map (·.length)).sum ≤ sizeLine → Fr h L s1.heap m → (∀ (out : Str) (h' : Heap) (tk : Nat), out.length ≤ sizeLine → (∀ b o, s1.heap.get? b = some o → h'.get? b = some o) → Q out { s1 with heap := h', toks := tk }) → Joins (model P w) A E (evalEach es env) acc Q s1 := by
  induction r with
  | nil =>
    intro E acc s1 Q hl fr q
    exact Joins_nil (q acc s1.heap s1.toks (by simpa using hl) fun _ _ z => z)
  | @cons e z es zs p t ih =>
    intro E acc s1 Q hl fr q
    rw [List.map_cons, List.sum_cons] at hl
    have hz : (acc ++ z).length = acc.length + z.length := Str.length_append ..
    refine Joins_cons (p E s1 _ fr fun h' u tk keep => ⟨z, u, rfl, by omega, ?_⟩)
    exact ih E (acc ++ z) _ Q (by omega) (fr.keeps keep) fun out h'' tk' ho k2 => q out h'' tk' ho fun b o y => k2 b o (keep b o y)
theorem js_ok {e1 e2 : Expr} {es : List Expr} {zs : List Str} {p p3 : Pos} {E : Value → Shared → Prop} (r : PartsOk P w h m A L (callEnv fd L f) (e1 :: e2 :: es) zs) (hl : (zs.map (·.length)).sum ≤ sizeLine)
    (hst : starEach [.JoinedStr (e1 :: e2 :: es) p] (callEnv fd L f) = (false, eval (.JoinedStr (e1 :: e2 :: es) p) (callEnv fd L f)) :: starEach [] (callEnv fd L f)) : JsOk P w h m fd f (.JoinedStr (e1 :: e2 :: es) p) p3 A E L := fun s1 news Q fr nw q => by
  refine wpAny_items_cons (wpAny_JoinedStr (joins_ok r E Str.empty s1 _ (by simpa [Str.length, Str.empty] using hl) fr fun out h' tk ho keep => ⟨ho, ?_⟩)) hst
  refine wpAny_items_nil (q _ _ (fr.keeps keep) (nw.grown keep) rfl rfl)
end
end Ma
/-! Ma33: such an exception called, by its heap alone. -/
namespace Ma
open L2 PySem.W PySem.Spec PySem PyProof.Rows
/-- the text of a value in {..}, whoever asks -/
def Txt (P : Program) (w : World) (h : Heap) (v : Value) (z : Str) : Prop := ∀ A : Around, A.guards = some [] → A.units + 70 < cLine → FmtV P w h A v z
/-- a part: text, or a value by its place -/
abbrev Pt := Sum Str Nat
inductive Texts (P : Program) (w : World) (h : Heap) (us : List Value) : List Pt → List Str → Prop
  | nil : Texts P w h us [] []
  | txt {z : Str} {ps : List Pt} {zs : List Str} : Texts P w h us ps zs → Texts P w h us (.inl z :: ps) (z :: zs)
  | val {i : Nat} {v : Value} {z : Str} {ps : List Pt} {zs : List Str} : us[i]? = some v → Txt P w h v z → Texts P w h us ps zs → Texts P w h us (.inr i :: ps) (z :: zs)
/-- what a call of the class comes to, on the heap -/
def ExCall (P : Program) (w : World) (K : PySem.W.Frag) (mg mb : Str → Option Value) (C : Addr) (fs : List Str) (pt : List Pt) : Prop :=
  ∀ (A : Around) (s : Shared) (us : List Value) (zs : List Str) (R : Result → Shared → Prop), RoomG 2 A → K.In s.heap → s.heap.Ns mainGlobals mg → s.heap.Ns builtinsNs mb → s.heap.NoLimit → us.length = fs.length → Texts P w s.heap us pt zs → (zs.map (·.length)).sum ≤ sizeLine →
    (∀ (dx t : Addr) (s2 : Shared) (mA : Str → Option Value), (∀ b o, s.heap.get? b = some o → s2.heap.get? b = some o) → s2.heap.get? (s.heap.objs.size + 1) = some (excObj C t (some dx) .none) → s2.heap.Ns1 dx mA → (∀ z, mA z = (fs.zip us).lookup z) → s.heap.objs.size + 1 < dx → s2.gens = s.gens → s2.os = s.os → R (.ok (.ret (.ref (s.heap.objs.size + 1)))) s2) →
    codeAny (model P w) A (.call (.ref C) ⟨us, []⟩) R s
/-- the parts as the text has them -/
inductive PtIs (ps : List Str) : List Expr → List Pt → Prop
  | nil : PtIs ps [] []
  | txt {z : Str} {j : Nat} {p : Pos} {es : List Expr} {qs : List Pt} : PtIs ps es qs → PtIs ps (.Constant (.str z) j p :: es) (.inl z :: qs)
  | val {i : Nat} {x : Str} {p q : Pos} {es : List Expr} {qs : List Pt} : ps[i]? = some x → (x == ("__debug__" : Str)) = false → PtIs ps es qs → PtIs ps (.FormattedValue (.Name x p) (-1) none q :: es) (.inr i :: qs)
section
variable {P : Program} {w : World} {K : PySem.W.Frag} {mg mb : Str → Option Value} {C D cda cc f : Addr} {fd : FuncData} {es : List Expr} {e1 e2 : Expr} {p p0 p1 p2 p3 p4 q0 q1 q2 q3 r0 r1 r2 r3 : Pos} {sf x y n1 n2 : Str} {pt : List Pt}
theorem parts_of {ps : List Str} {us : List Value} {h : Heap} {A : Around} {L : Addr} {m : Str → Option Value} {env : Env} {es : List Expr} {pt : List Pt} {zs : List Str} (hg : A.guards = some []) (hu : A.units + 70 < cLine) (hk : env.scope.kind = .function) (hL : env.locals = L) (hx : ∀ (i : Nat) (x : Str) (v : Value), ps[i]? = some x → us[i]? = some v → env.kindOf x = some .local ∧ m x = some v)
    (a : PtIs ps es pt) (b : Texts P w h us pt zs) : PartsOk P w h m A L env es zs := by
  induction a generalizing zs with
  | nil => cases b; exact .nil
  | txt _ ih => cases b with | txt b => exact .cons part_str (ih b)
  | val h1 h2 _ ih =>
    cases b with
    | val h3 h4 b =>
      obtain ⟨k1, k2⟩ := hx _ _ _ h1 h3
      exact .cons (part_fmt hk hL k1 k2 h2 (h4 A hg hu)) (ih b)
theorem under_g {A : Around} {us : List Value} (r : RoomG 2 A) (env : Env) : ((A.under (.builtin "type.__call__" ⟨.ref C :: us, []⟩)).depth < recursionLimit) ∧ ((A.under (.builtin "type.__call__" ⟨.ref C :: us, []⟩)).deeper env).guards = some [] ∧ ((A.under (.builtin "type.__call__" ⟨.ref C :: us, []⟩)).deeper env).units + 70 < cLine := by
  have r1 := Room.make r.toRoom C us []
  have r2 := r1.deeper env
  refine ⟨r1.depth, ?_, ?_⟩
  · exact r.gs
  · have := r2.un
    omega
theorem exCall_one (F : IniF P K mg mb C D cda cc f fd [sf, x]) (hbd : fd.body = .stmts [.Expr (.Call (.Attribute (.Call (.Name "super" p0) [] [] p1) "__init__" p2) [.JoinedStr (e1 :: e2 :: es) p] [] p3) p4, .Assign [.Attribute (.Name sf q0) n1 q2] (.Name x q1) q3])
    (hself : ∃ ar, (fd.params.posonlyargs ++ fd.params.args).head? = some ar ∧ ar.arg = sf) (nsx : sf ≠ x) (S : RowS fd f (.JoinedStr (e1 :: e2 :: es) p) p0 p1 p2 p3 p4) (F1 : StF K C n1)
    (sw1 : ∀ L, swapsWith (.Name x q1) (some (.Attribute (.Name sf q0) n1 q2)) q3.line (callEnv fd L f) = pure false) (d1 : (sf == ("__debug__" : Str)) = false) (d2 : (x == ("__debug__" : Str)) = false) (hp : PtIs [x] (e1 :: e2 :: es) pt) : ExCall P w K mg mb C [n1] pt := by
  intro A s us zs R hr kin hg hb nl hn tx hz q
  match us, hn with
  | [v], _ =>
    obtain ⟨hd, -, -⟩ := under_g (C := C) (us := [v]) hr (callEnv fd (s.heap.objs.size + 1 + 1) f)
    obtain ⟨-, gs, un⟩ := under_g (C := C) (us := [v]) hr (callEnv fd (s.heap.objs.size + 1 + 1) f)
    refine exi_one F kin hg hb nl hd hbd hself nsx S F1 sw1 d1 d2 (fun E => js_ok (parts_of gs un F.hk rfl (fun i z u h1 h2 => ?_) hp tx) hz (S.st _)) fun dx t s2 k tk n keep h1 h2 _ lt g o => q dx t s2 _ keep h1 (ns_one h2) (fun z => ?_) lt g o
    · match i, h1, h2 with
      | 0, h1, h2 =>
        cases h1; cases h2
        exact ⟨F.lo x (by simp), by simp [List.lookup]⟩
    · by_cases hz : n1 = z
      · subst hz; simp [List.lookup]
      · have : (z == n1) = false := by simpa using fun a => hz a.symm
        simp [List.lookup, this, hz]
theorem exCall_two (F : IniF P K mg mb C D cda cc f fd [sf, x, y]) (hbd : fd.body = .stmts [.Expr (.Call (.Attribute (.Call (.Name "super" p0) [] [] p1) "__init__" p2) [.JoinedStr (e1 :: e2 :: es) p] [] p3) p4, .Assign [.Attribute (.Name sf q0) n1 q2] (.Name x q1) q3, .Assign [.Attribute (.Name sf r0) n2 r2] (.Name y r1) r3])
    (hself : ∃ ar, (fd.params.posonlyargs ++ fd.params.args).head? = some ar ∧ ar.arg = sf) (nsx : sf ≠ x) (nsy : sf ≠ y) (nxy : x ≠ y) (n12 : n1 ≠ n2) (S : RowS fd f (.JoinedStr (e1 :: e2 :: es) p) p0 p1 p2 p3 p4) (F1 : StF K C n1) (F2 : StF K C n2)
    (sw1 : ∀ L, swapsWith (.Name x q1) (some (.Attribute (.Name sf q0) n1 q2)) q3.line (callEnv fd L f) = pure false) (sw2 : ∀ L, swapsWith (.Name y r1) (some (.Attribute (.Name sf r0) n2 r2)) r3.line (callEnv fd L f) = pure false) (d1 : (sf == ("__debug__" : Str)) = false) (d2 : (x == ("__debug__" : Str)) = false) (d3 : (y == ("__debug__" : Str)) = false) (hp : PtIs [x, y] (e1 :: e2 :: es) pt) : ExCall P w K mg mb C [n1, n2] pt := by
  intro A s us zs R hr kin hg hb nl hn tx hz q
  match us, hn with
  | [v, u], _ =>
    obtain ⟨hd, gs, un⟩ := under_g (C := C) (us := [v, u]) hr (callEnv fd (s.heap.objs.size + 1 + 1) f)
    have e3 : (x == y) = false := by simpa using nxy
    refine exi_two F kin hg hb nl hd hbd hself nsx nsy nxy n12 S F1 F2 sw1 sw2 d1 d2 d3 (fun E => js_ok (parts_of gs un F.hk rfl (fun i z u h1 h2 => ?_) hp tx) hz (S.st _)) fun dx t s2 k l tk tl n keep h1 h2 _ lt g o => q dx t s2 _ keep h1 (ns_two n12 h2) (fun z => ?_) lt g o
    · match i, h1, h2 with
      | 0, h1, h2 =>
        cases h1; cases h2
        exact ⟨F.lo x (by simp), by simp [List.lookup, e3]⟩
      | 1, h1, h2 =>
        cases h1; cases h2
        exact ⟨F.lo y (by simp), by simp [List.lookup]⟩
    · by_cases hz : n1 = z
      · subst hz; simp [List.lookup]
      · have h1 : (z == n1) = false := by simpa using fun a => hz a.symm
        by_cases hy : n2 = z
        · subst hy; simp [List.lookup, h1, hz]
        · have h2 : (z == n2) = false := by simpa using fun a => hy a.symm
          simp [List.lookup, h1, h2, hz, hy]
end
end Ma
/-! Ma34: C(x), C(x, y) of exceptions with an `__init__`, in the machine. -/
namespace Ma
open L2 PySem.W PySem.Spec PySem PyProof.Rows
def fmtM (hp : List Cell) : M → Option Str
  | .int i => if i.natAbs.log2 < 1920 then some (Str.ofString (toString i)) else none
  | x => match datT hp x with
    | some d => if (isSeqD d && d.showable && !d.hasDict && decide (d.depth ≤ 64) && decide (d.shown.length ≤ sizeLine)) = true then some d.shown else none
    | none => none
def textsM (hp : List Cell) (ms : List M) : List Pt → Option (List Str)
  | [] => some []
  | .inl z :: ps => (textsM hp ms ps).map (z :: ·)
  | .inr i :: ps => match ms[i]? with
    | some m => match fmtM hp m with
      | some z => (textsM hp ms ps).map (z :: ·)
      | none => none
    | none => none
def exiM (n : Str) (fs : List Str) (pt : List Pt) (ms : List M) (s : MS) : Res M :=
  if ms.length = fs.length then match textsM s.hp ms pt with
    | some zs => if (zs.map (·.length)).sum ≤ sizeLine then .ok (.exn n fs ms) s else .stuck
    | none => .stuck
  else .stuck
def mExi (n : Str) (fs : List Str) (pt : List Pt) (ma : MA) : ME := fun s => (ma s).bind (exiM n fs pt)
/-- what the text's name n holds: such an exception -/
structure KnI (P : Program) (w : World) (mg : Str → Option Value) (T : Tab) (n : Str) (fs : List Str) (pt : List Pt) : Prop where
  ex : ∃ A, T.ad n = some A ∧ mg n = some (.ref A) ∧ keepIn T.K (.ref A) = true ∧ ∀ mb : Str → Option Value, (∀ x : Str, x ≠ "__name__" → mb x = bootBuiltins x) → ExCall P w T.K mg mb A fs pt
section
variable {C : MC} {g g1 : Gh} {H H1 : Hp} {s : MS} {σ : L2.St} {ex : Expr} {es : List Expr} {ma : MA} {pos p : Pos} {x n : Str} {A : Addr} {fs : List Str} {pt : List Pt}
theorem zip_rel : ∀ {fs : List Str} {vs : List V} {us : List Value}, Vals vs us → ∀ f, RelO ((fs.zip vs).lookup f) ((fs.zip us).lookup f)
  | [], _, _, _, f => by simp [RelO]
  | _ :: _, _, _, .nil, f => by simp [RelO]
  | n :: fs, _, _, .cons r rs, f => by
    rw [List.zip_cons_cons, List.zip_cons_cons, List.lookup_cons, List.lookup_cons]
    cases hk : f == n with
    | true => exact r
    | false => exact zip_rel rs f
theorem vals_at : ∀ {vs : List V} {us : List Value} {i : Nat} {v : V}, Vals vs us → vs[i]? = some v → ∃ u, us[i]? = some u ∧ RelV v u
  | _, _, _, _, .nil, h => by simp at h
  | _, _, 0, _, .cons r _, h => by simp at h; subst h; exact ⟨_, rfl, r⟩
  | _, _, i + 1, v, .cons _ t, h => by
    obtain ⟨u, h1, h2⟩ := vals_at (i := i) (v := v) t (by simpa using h)
    exact ⟨u, by simpa using h1, h2⟩
theorem texts_at {pins : List (Addr × Obj)} {sh : Shared} {us : List Value} {ms : List M} {vs : List V} (I : Inv C.X pins σ H sh) (r : C.rel g s σ H) (rs : RVs C.T g H ms vs) (rv : Vals vs us) : ∀ {pt : List Pt} {zs : List Str}, textsM s.hp ms pt = some zs → Texts C.X.prog C.X.w sh.heap us pt zs
  | [], _, h => by cases h; exact .nil
  | .inl z :: ps, zs, h => by
    simp only [textsM] at h
    cases ht : textsM s.hp ms ps with
    | none => rw [ht] at h; cases h
    | some ys =>
      rw [ht] at h
      cases h
      exact .txt (texts_at I r rs rv ht)
  | .inr i :: ps, zs, h => by
    simp only [textsM] at h
    cases hm : ms[i]? with
    | none => rw [hm] at h; cases h
    | some m =>
      rw [hm] at h
      dsimp only at h
      cases hf : fmtM s.hp m with
      | none => rw [hf] at h; cases h
      | some z =>
        rw [hf] at h
        dsimp only at h
        cases ht : textsM s.hp ms ps with
        | none => rw [ht] at h; cases h
        | some ys =>
          rw [ht] at h
          cases h
          obtain ⟨v, h1, h2⟩ := rs.get hm
          obtain ⟨u, h3, h4⟩ := vals_at rv h1
          refine .val h3 ?_ (texts_at I r rs rv ht)
          unfold fmtM at hf
          split at hf
          · rename_i i
            split at hf
            · rename_i hb
              cases hf
              cases h2
              obtain ⟨t, rfl⟩ := h4
              exact fun A _ _ => fmt_int hb
            · cases hf
          · split at hf
            · rename_i d hd
              split at hf
              · rename_i hb
                cases hf
                simp only [Bool.and_eq_true, decide_eq_true_eq, Bool.not_eq_true'] at hb
                obtain ⟨⟨⟨⟨h0, b1⟩, b2⟩, b3⟩, b4⟩ := hb
                have d1 := datT_dp r h2 hd
                obtain ⟨a, rfl⟩ := Dp.seq d1 h0
                obtain ⟨as, k1⟩ := Dp.reads I _ _ _ d1 h4
                obtain rfl : u = .ref a := h4
                exact fun A g1 g2 => fmt_ref k1 b1 b2 g1 (by omega) b4
              · cases hf
            · cases hf
theorem run_exi {pins : List (Addr × Obj)} {sh : Shared} {Q : VK} {us : List Value} {ms : List M} {vs : List V} (hr : RoomG 2 C.X.A) (ad : C.T.ad n = some A) (hc : ∀ mb : Str → Option Value, (∀ x : Str, x ≠ "__name__" → mb x = bootBuiltins x) → ExCall C.X.prog C.X.w C.T.K C.X.mg mb A fs pt)
    (I : Inv C.X pins σ H sh) (r : C.rel g s σ H) (rs : RVs C.T g H ms vs) (rv : Vals vs us) (h : Go C C.V1 σ (exiM n fs pt ms s) g H Q) :
    wpAny (model C.X.prog C.X.w) C.X.A (call (.ref A) us) (EP C.X pins σ Q) C.X.xe sh := by
  unfold exiM at h
  by_cases hl : ms.length = fs.length
  · rw [if_pos hl] at h
    cases ht : textsM s.hp ms pt with
    | none => rw [ht] at h; exact h.elim
    | some zs =>
      rw [ht] at h
      dsimp only at h
      by_cases hz : (zs.map (·.length)).sum ≤ sizeLine
      · rw [if_pos hz] at h
        have e0 := I.env0
        obtain ⟨mb, hb1, hb2⟩ := e0.mod.blt
        have kb : ∀ b o, C.X.base.get? b = some o → sh.heap.get? b = some o := fun b o z => (e0.bs b o z).1
        have hul : us.length = fs.length := by rw [← rv.length, ← rs.length]; exact hl
        refine wpAny_call (hc mb hb2 C.X.A sh us zs _ hr (C.hK ▸ I.kIn) (e0.mod.glob.keeps kb) (hb1.keeps kb) (e0.mod.nolimit.keeps kb) hul (texts_at I r rs rv ht) hz fun dx t s2 mA keep h1 h2 hm lt hg ho => ?_)
        have hne : H (sh.heap.objs.size + 1) = none := I.hok.fresh (Nat.le_succ _)
        have hnd : (upd H (sh.heap.objs.size + 1) (XO (.ref A) (some dx) (sh.heap.objs.size + 1))) dx = none := by
          rw [upd_ne (fun z => Nat.lt_irrefl _ (z ▸ lt))]
          exact I.hok.fresh (Nat.le_trans (Nat.le_succ _) (Nat.le_of_lt lt))
        have I2 := two_laid (fs := fs.zip vs) (t' := s2.toks) I keep (Nat.le_succ _) lt h1 h2 fun f => by rw [hm f]; exact zip_rel rv f
        obtain ⟨r1, mo1⟩ := r.frz (o := XO (.ref A) (some dx) (sh.heap.objs.size + 1)) hne
        obtain ⟨r2, mo2⟩ := r1.frz (o := .xd (fs.zip vs)) hnd
        obtain ⟨hp2, gs2, d2, tk2, os2⟩ := s2
        dsimp only at hg ho I2
        subst hg; subst ho
        have I3 : Inv C.X pins σ (upd (upd H (sh.heap.objs.size + 1) (XO (.ref A) (some dx) (sh.heap.objs.size + 1))) dx (.xd (fs.zip vs))) ⟨hp2, sh.gens, d2, tk2, sh.os⟩ := ⟨I2.ok, I2.os, I2.bare, I2.base, I2.loc, I2.cell, I2.free, I2.freeC, I2.pin, I2.hok, I2.len⟩
        refine ⟨.ref (sh.heap.objs.size + 1), _, I3, rfl, h _ _ _ (mo1.trans mo2) r2 (.exn ad ⟨?_, .inl (.inr rfl), some dx, ?_, .inr rfl, upd_same⟩ (rs.mono (mo1.trans mo2)))⟩
        · rw [← rs.length]; exact hl.symm
        · rw [upd_ne (fun z => Nat.lt_irrefl _ (z ▸ lt))]
          exact upd_same
      · rw [if_neg hz] at h; exact h.elim
  · rw [if_neg hl] at h; exact h.elim
theorem em_exi {C : MC} {ex : Expr} {es : List Expr} {ma : MA} {pos p : Pos} {n : Str} {fs : List Str} {pt : List Pt} (G : KnI C.X.prog C.X.w C.X.mg C.T n fs pt) (hr : RoomG 2 C.X.A) (ha : PMa C (ex :: es) ma)
    (hg : Gl C.X n := by rfl) (hdb : (n == ("__debug__" : Str)) = false := by decide) (he : starEach (ex :: es) C.X.env = (false, eval ex C.X.env) :: starEach es C.X.env := by rfl) (hpl : (backTo pos (starEach es C.X.env)).any (·.1) = false := by rfl) :
    PMe C (.Call (.Name n p) (ex :: es) [] pos) (mExi n fs pt ma) := by
  obtain ⟨A, ad, hm, hk, hc⟩ := G.ex
  refine ⟨fun pins sh σ H Q I h => wpAny_Call_Name_kw (ld_glob I hg hm ?_ hdb)⟩
  refine PySem.W.callWith_K (h₀ := C.X.base) I.ok.mod.kin (C.hK ▸ hk) (thn (ha.run pos pins sh σ H _ I (rdA_bind h)) fun us s1 hh => ?_) he hpl
  obtain ⟨vs, H1, I1, rv, ms, s2, g1, r1, rs, q1⟩ := hh
  exact ⟨I1.kIn, run_exi hr ad hc I1 r1 rs rv q1⟩
end
end Ma
/-! Ma35: a name whose list nobody changes any more. -/
namespace Ma
open L2 PySem.W PySem.Spec PySem PyProof.Rows
section
variable {C : MC} {g g1 : Gh} {H H1 : Hp} {D : Ends} {rest : List Stmt} {b : MStm}
def sFz (i : Nat) : MStm := fun s => match s.env[i]? with
  | some (some (.box n)) => match s.hp[n]? with
    | some (.lst ms) => .ok .nx ⟨s.env.set i (some (.lst ms)), s.hp.set n .dead⟩
    | _ => .stuck
  | _ => .stuck
theorem rdS_fz {i : Nat} {σ : L2.St} (h : rdS C (sSeq (sFz i) b) D σ H) : rdS C b D σ H := by
  obtain ⟨g, s, r, q⟩ := h
  unfold sSeq sFz at q
  cases hi : s.env[i]? with
  | none => rw [hi] at q; exact q.elim
  | some o =>
    rw [hi] at q
    cases o with
    | none => exact q.elim
    | some m =>
      cases m with
      | box n =>
        dsimp only at q
        cases hc : s.hp[n]? with
        | none => rw [hc] at q; exact q.elim
        | some cl =>
          rw [hc] at q
          cases cl with
          | lst ms =>
            obtain ⟨x, hx, rx⟩ := r.get hi
            cases rx with
            | @box _ a e =>
              obtain ⟨r2, mo⟩ := r.still hc e
              obtain ⟨vs, e2, rs⟩ := r.h.cell n _ a hc e
              have r3 := r2.put (i := i) (v := .ref a) (.lst (.inr rfl) e2 (rs.mono mo))
              have hs : σ.set i (some (V.ref a)) = σ := by
                apply List.ext_getElem?
                intro j
                rw [List.getElem?_set]
                by_cases hij : i = j
                · subst hij
                  rw [if_pos rfl, hx]
                  split
                  · rfl
                  · rename_i hlt
                    rw [List.getElem?_eq_none (Nat.le_of_not_lt hlt)] at hx
                    cases hx
                · rw [if_neg hij]
              rw [hs] at r3
              exact ⟨g.add a, _, r3, GoS.later mo q⟩
          | _ => exact q.elim
      | _ => exact q.elim
theorem bm_fz (i : Nat) (h : PMb C rest b) : PMb C rest (sSeq (sFz i) b) := wkB h fun D σ H q => rdS_fz q
end
end Ma
/-! Ma36: what a law's head tells: names, defs, classes, exceptions with an own `__init__`. -/
namespace Ma
open L2 PySem.W PySem.Spec PySem PyProof.Rows
abbrev FnI : Type := Option (Arguments × FuncBody × Scope × Addr × List Str × Addr)
/-- an own `__init__`: of which class, its parts -/
structure IniD where
  cls : Str
  params : Arguments
  body : List Stmt
  scope : Scope
def iniAd (K : Frag) (x : Str) : Addr := He.ma K (He.ga K x) "__init__"
def iniW (K : Frag) (x : Str) : FnI := match K.lookup (iniAd K x) with
  | some ⟨_, _, .func fd, _⟩ => some (fd.params, fd.body, fd.scope, fd.globals, fd.closure.map (·.1), fd.builtins)
  | _ => none
def IniD.val (d : IniD) : FnI := some (d.params, .stmts d.body, d.scope, mainGlobals, [("__class__" : Str)], builtinsNs)
abbrev AlM := Bool × List He.FnW × List FnI
/-- where one looks: the module, and the table of statics -/
def asM (g : Addr → Option Obj) (n : Nat) : List Addr := cStatics :: He.asD g n
def obsM (fa : List He.Fa) (fn : List He.DefD) (ni : List IniD) (ex : Frag → Bool) (K : Frag) : AlM :=
  ((fa.all fun f => f.ok K) && ((fn.all fun d => d.ok K) && ex K), fn.map fun d => He.fnW K d.at_, ni.map fun d => iniW K d.cls)
def valM (fn : List He.DefD) (ni : List IniD) : AlM := (true, fn.map He.DefD.val, ni.map IniD.val)
def SaysM (fa : List He.Fa) (fn : List He.DefD) (ni : List IniD) (ex : Frag → Bool) (K : Frag) : Prop := obsM fa fn ni ex K = valM fn ni
def obsMG (n : Nat) (fa : List He.Fa) (fn : List He.DefD) (ni : List IniD) (ex : Frag → Bool) (g : Addr → Option Obj) : AlM := obsM fa fn ni ex (He.frG g (asM g n))
def hookM (n : Nat) (fa : List He.Fa) (fn : List He.DefD) (ni : List IniD) (ex : Frag → Bool) : Hook where
  α := AlM
  obs := fun s => obsMG n fa fn ni ex s.heap.get?
  val := fun _ => valM fn ni
  says := fun _ h => ∃ K : Frag, K.In h ∧ SaysM fa fn ni ex K
  of := fun _ _ e => ⟨_, He.frG_in, e⟩
  keeps := fun _ _ _ ⟨K, hK, c⟩ k => ⟨K, Frag.In.keeps hK k, c⟩
theorem obsMG_eq {n : Nat} {fa : List He.Fa} {fn : List He.DefD} {ni : List IniD} {ex : Frag → Bool} {g : Addr → Option Obj} {s : Shared} (h : ∀ a, g a = s.heap.get? a) : obsMG n fa fn ni ex g = (hookM n fa fn ni ex).obs s := by
  have e : g = s.heap.get? := funext h
  rw [e] <;> rfl
section
variable {fa : List He.Fa} {fn : List He.DefD} {ni : List IniD} {ex : Frag → Bool} {K : Frag}
theorem SaysM.d (c : SaysM fa fn ni ex K) : He.SaysD fa fn K := by
  have h1 : ((fa.all fun f => f.ok K) && ((fn.all fun d => d.ok K) && ex K)) = true := congrArg (fun z : AlM => z.1) c
  have h2 : (fn.map fun d => He.fnW K d.at_) = fn.map He.DefD.val := congrArg (fun z : AlM => z.2.1) c
  obtain ⟨a, b⟩ := Bool.and_eq_true_iff.mp h1
  obtain ⟨b, _⟩ := Bool.and_eq_true_iff.mp b
  show (((fa.all fun f => f.ok K) && fn.all fun d => d.ok K), fn.map fun d => He.fnW K d.at_) = (true, fn.map He.DefD.val)
  rw [h2, a, b]; rfl
theorem SaysM.more (c : SaysM fa fn ni ex K) : ex K = true := by
  have h1 : ((fa.all fun f => f.ok K) && ((fn.all fun d => d.ok K) && ex K)) = true := congrArg (fun z : AlM => z.1) c
  exact (Bool.and_eq_true_iff.mp (Bool.and_eq_true_iff.mp h1).2).2
theorem SaysM.ini (c : SaysM fa fn ni ex K) {d : IniD} (h : d ∈ ni) : iniW K d.cls = d.val := by
  have h2 : (ni.map fun d => iniW K d.cls) = ni.map IniD.val := congrArg (fun z : AlM => z.2.2) c
  obtain ⟨i, hi, e⟩ := List.mem_iff_getElem.mp h
  have h3 : (ni.map fun d => iniW K d.cls)[i]? = (ni.map IniD.val)[i]? := by rw [h2]
  rw [List.getElem?_map, List.getElem?_map, List.getElem?_eq_getElem hi, e] at h3
  exact Option.some.inj h3
end
/-! ### facts of classes as Bools -/
def eqb (a b : Option (Option Value)) : Bool := decide (a = b)
theorem eqb_ok {a b : Option (Option Value)} (h : eqb a b = true) : a = b := of_decide_eq_true h
def exkB (K : Frag) (C : Addr) : Bool := eqb (findIn K (.ref C) "__init__") (some (some (.builtin "ValueError.__init__"))) && (excInitIn K C VE "ValueError.__new__" && keepIn K (.ref C))
theorem exkB_ok {K : Frag} {C : Addr} (h : exkB K C = true) : ExK K C := by
  obtain ⟨h1, h⟩ := Bool.and_eq_true_iff.mp h
  obtain ⟨h2, h3⟩ := Bool.and_eq_true_iff.mp h
  exact ⟨eqb_ok h1, h2, h3⟩
def excB (K : Frag) (C : Addr) : Bool := xfB K C && (eqb (findIn K (.ref C) "__class__") (some (some (.builtin "object.__class__"))) && (eqb (specialIn K (.builtin "object.__class__") "__get__") (some (some (.builtin "getset_descriptor.__get__"))) && (decide (takesIn K (.builtin "object.__class__") = some true) && decide (mroIn K C (.type "object") = some true))))
theorem excB_ok {K : Frag} {C : Addr} (h : excB K C = true) : ExcC K C ∧ XfC K C := by
  obtain ⟨h1, h⟩ := Bool.and_eq_true_iff.mp h
  obtain ⟨h2, h⟩ := Bool.and_eq_true_iff.mp h
  obtain ⟨h3, h⟩ := Bool.and_eq_true_iff.mp h
  obtain ⟨h4, h5⟩ := Bool.and_eq_true_iff.mp h
  have x := xfB_ok h1
  exact ⟨⟨x.ga, x.gg, x.exC, x.hdC, eqb_ok h2, eqb_ok h3, of_decide_eq_true h4, of_decide_eq_true h5⟩, x⟩
def stB (K : Frag) (C : Addr) (f : Str) : Bool := eqb (findIn K (.ref C) "__setattr__") (some (some (.builtin "object.__setattr__"))) && (excOver K C VE && (eqb (takerIn K C f) (some none) && hasDictIn K C))
theorem stB_ok {K : Frag} {C : Addr} {f : Str} (h : stB K C f = true) : StF K C f := by
  obtain ⟨h1, h⟩ := Bool.and_eq_true_iff.mp h
  obtain ⟨h2, h⟩ := Bool.and_eq_true_iff.mp h
  obtain ⟨h3, h4⟩ := Bool.and_eq_true_iff.mp h
  exact ⟨eqb_ok h1, h2, eqb_ok h3, h4⟩
/-! ### exceptions with an own `__init__` -/
def cellB (K : Frag) (cc C : Addr) : Bool := match K.lookup cc with
  | some ⟨_, _, .cell (some (.ref D)), _⟩ => decide (D = C)
  | _ => false
theorem cellB_ok {K : Frag} {cc C : Addr} (h : cellB K cc C = true) : ∃ (cl : Value) (cld : Option Addr) (csl : Array (Option Value)), K.lookup cc = some { cls := cl, dict := cld, data := .cell (some (.ref C)), slots := csl } := by
  unfold cellB at h
  split at h
  · rename_i a b D c e
    rw [of_decide_eq_true h] at e
    exact ⟨_, _, _, e⟩
  · cases h
def fileB (P : Program) (K : Frag) (cda : Addr) : Bool := match K.lookup cda with
  | some ⟨_, _, .fields vs, _⟩ => (match vs[2]? with
    | some (Value.str file _) => P.main.file == file
    | _ => false)
  | _ => false
theorem fileB_ok {P : Program} {K : Frag} {cda : Addr} (h : fileB P K cda = true) : ∃ (ccl : Value) (cdd : Option Addr) (vs : Array Value) (ccs : Array (Option Value)) (file : Str) (tf : Tok), K.lookup cda = some { cls := ccl, dict := cdd, data := .fields vs, slots := ccs } ∧ vs[2]? = some (.str file tf) ∧ (P.main.file == file) = true := by
  unfold fileB at h
  split at h
  · rename_i a b vs c e
    split at h
    · rename_i file tf e2
      exact ⟨_, _, _, _, _, _, e, e2, h⟩
    · cases h
  · cases h
def noneB (v : Value) : Bool := match v with
  | .none => true
  | _ => false
theorem noneB_ok {v : Value} (h : noneB v = true) : v = .none := by
  cases v <;> first | rfl | cases h
def fnB (P : Program) (K : Frag) (C : Addr) (f : Addr) : Bool := match K.lookup f with
  | some ⟨.type c, _, .func fd, _⟩ => decide (c = "function") && (noneB fd.defaults && (codeIn K fd.code fd.qualname && ((match fd.closure with
    | [(_, cc)] => cellB K cc C
    | _ => false) && (match fd.code with
    | .ref cda => fileB P K cda
    | _ => false))))
  | _ => false
structure FnB (P : Program) (K : Frag) (C f : Addr) (fd : FuncData) (cc cda : Addr) : Prop where
  lk : ∃ (od : Option Addr) (osl : Array (Option Value)), K.lookup f = some { cls := .type "function", dict := od, data := .func fd, slots := osl }
  df : fd.defaults = .none
  co : codeIn K fd.code fd.qualname = true
  cl : ∃ n, fd.closure = [(n, cc)]
  cell : ∃ (cl : Value) (cld : Option Addr) (csl : Array (Option Value)), K.lookup cc = some { cls := cl, dict := cld, data := .cell (some (.ref C)), slots := csl }
  cd : fd.code = .ref cda
  file : ∃ (ccl : Value) (cdd : Option Addr) (vs : Array Value) (ccs : Array (Option Value)) (file : Str) (tf : Tok), K.lookup cda = some { cls := ccl, dict := cdd, data := .fields vs, slots := ccs } ∧ vs[2]? = some (.str file tf) ∧ (P.main.file == file) = true
theorem fnB_ok {P : Program} {K : Frag} {C f : Addr} (h : fnB P K C f = true) : ∃ fd cc cda, FnB P K C f fd cc cda := by
  unfold fnB at h
  split at h
  · rename_i c od fd osl e
    obtain ⟨h1, h⟩ := Bool.and_eq_true_iff.mp h
    obtain ⟨h0, h⟩ := Bool.and_eq_true_iff.mp h
    obtain ⟨h2, h⟩ := Bool.and_eq_true_iff.mp h
    obtain ⟨h3, h4⟩ := Bool.and_eq_true_iff.mp h
    rw [of_decide_eq_true h1] at e
    split at h3
    · rename_i n cc e3
      split at h4
      · rename_i cda e4
        exact ⟨fd, cc, cda, ⟨_, _, e⟩, noneB_ok h0, h2, ⟨n, e3⟩, cellB_ok h3, e4, fileB_ok h4⟩
      · cases h4
    · cases h3
  · cases h
def iniB (P : Program) (K : Frag) (C f : Addr) : Bool := eqb (findIn K (.ref C) "__init__") (some (some (.ref f))) && (excInitIn K C VE "ValueError.__new__" && (keepIn K (.ref C) && ((clsIn K C).isSome && (decide (mroIn K C (.ref C) = some true) && (eqb (nsIn K cStatics "thirdparty.any") (some none) && (eqb (ks_superIn K C C "__init__") (some (some (.builtin "ValueError.__init__"))) && (decide (subIn K (.ref C) (.type "ValueError") = some true) && fnB P K C f)))))))
theorem iniB_ok {P : Program} {K : Frag} {x : Str} {mg mb : Str → Option Value} {d : IniD} {ps : List Str} (h : iniB P K (He.ga K x) (iniAd K x) = true) (hw : iniW K x = d.val)
    (top : (P.main.scope.names.lookup ("super" : Str)).isSome = false) (hmg : mg "super" = none) (hmb : mb "super" = some (.type "super"))
    (hk : d.scope.kind = .function) (co : d.scope.isCoroutine = false) (ge : d.scope.isGenerator = false) (s1 : d.scope.names.lookup ("super" : Str) = some NameKind.globalImplicit) (s2 : d.scope.names.lookup ("__class__" : Str) = some NameKind.free)
    (nc : ∀ x ∈ d.scope.names, x.2 ≠ .cell) (lo : ∀ x ∈ ps, d.scope.names.lookup x = some .local)
    (bd : ∀ fd : FuncData, fd.params = d.params → fd.defaults = .none → ∀ us : List Value, us.length = ps.length → bindArgs fd ⟨us, []⟩ = pure (ps.zip us)) :
    keepIn K (.ref (He.ga K x)) = true ∧ ∃ cda cc fd, IniF P K mg mb (He.ga K x) (He.ga K x) cda cc (iniAd K x) fd ps ∧ fd.params = d.params ∧ fd.body = .stmts d.body ∧ fd.scope = d.scope := by
  obtain ⟨h1, h⟩ := Bool.and_eq_true_iff.mp h
  obtain ⟨h2, h⟩ := Bool.and_eq_true_iff.mp h
  obtain ⟨h3, h⟩ := Bool.and_eq_true_iff.mp h
  obtain ⟨h4, h⟩ := Bool.and_eq_true_iff.mp h
  obtain ⟨h5, h⟩ := Bool.and_eq_true_iff.mp h
  obtain ⟨h6, h⟩ := Bool.and_eq_true_iff.mp h
  obtain ⟨h7, h⟩ := Bool.and_eq_true_iff.mp h
  obtain ⟨h8, h9⟩ := Bool.and_eq_true_iff.mp h
  obtain ⟨fd, cc, cda, F⟩ := fnB_ok h9
  obtain ⟨od, osl, lk⟩ := F.lk
  obtain ⟨n, cl⟩ := F.cl
  refine ⟨h3, cda, cc, fd, ?_⟩
  unfold iniW at hw
  rw [lk] at hw
  have hw2 : (some (fd.params, fd.body, fd.scope, fd.globals, fd.closure.map (·.1), fd.builtins) : FnI) = some (d.params, .stmts d.body, d.scope, mainGlobals, [("__class__" : Str)], builtinsNs) := hw
  rw [cl] at hw2
  simp only [Option.some.injEq, Prod.mk.injEq, List.map_cons, List.map_nil, List.cons.injEq, and_true] at hw2
  obtain ⟨w1, w2, w3, w4, w5, w6⟩ := hw2
  have w5' : n = ("__class__" : Str) := w5
  subst w5'
  exact ⟨⟨eqb_ok h1, h2, ⟨_, _, lk⟩, F.co, ⟨Option.isSome_iff_exists.mp h4, of_decide_eq_true h5, eqb_ok h6, eqb_ok h7, of_decide_eq_true h8, F.cell, F.file, top, hmg, hmb⟩,
    by rw [w3]; exact hk, by rw [w3]; exact co, by rw [w3]; exact ge, w4, w6, cl, F.cd, by rw [w3]; exact s1, by rw [w3]; exact s2, by rw [w3]; exact nc, bd fd w1 F.df, by rw [w3]; exact lo⟩, w1, w2, w3⟩
/-! ### own names' addresses -/
def adOf (K : Frag) (cs : List Str) (c : Str) : Option Addr := if cs.contains c then some (He.ga K c) else none
theorem adOf_mem {K : Frag} {cs : List Str} {c : Str} (h : cs.contains c = true) : adOf K cs c = some (He.ga K c) := if_pos h
theorem adOf_at {K : Frag} {cs : List Str} {c : Str} {A : Addr} (h : adOf K cs c = some A) : A = He.ga K c := by
  unfold adOf at h
  split at h
  · exact (Option.some.inj h).symm
  · cases h
/-- the machine's own kinds of values -/
def tys : List String := ["NoneType", "bool", "int", "str", "bytes", "tuple", "list", "dict"]
/-- isinstance by the classes' chains -/
def isiM (mros : List (Str × List Tg)) (bi : List String) : Tg → Tg → Option Bool
  | .own c, .own d => (mros.lookup c).map fun l => l.contains (.own d)
  | .own c, .bi m => if bi.contains m = true then (mros.lookup c).map fun l => l.contains (.bi m) else none
  | .bi n, .own _ => if tys.contains n = true then some false else none
  | .bi n, .bi m => kitB n m
def kitS (K : Frag) (t u : Value) : Option Bool → Bool
  | some b => decide (kitOne K t u = some b)
  | none => true
theorem kitS_ok {K : Frag} {t u : Value} {r : Option Bool} {b : Bool} (h : kitS K t u r = true) (e : r = some b) : kitOne K t u = some b := by
  rw [e] at h
  exact of_decide_eq_true h
def isiB (K : Frag) (cs : List Str) (mros : List (Str × List Tg)) (bi : List String) : Bool :=
  cs.all fun d => (cs.all fun c => kitS K (.ref (He.ga K c)) (.ref (He.ga K d)) (isiM mros bi (.own c) (.own d))) && ((bi.all fun m => kitS K (.ref (He.ga K d)) (.type m) (isiM mros bi (.own d) (.bi m))) && tys.all fun n => kitS K (.type n) (.ref (He.ga K d)) (some false))
theorem isiB_ok {K : Frag} {cs : List Str} {mros : List (Str × List Tg)} {bi : List String} (h : isiB K cs mros bi = true) :
    ∀ t u b, isiM mros bi t u = some b → ∀ tv uv, t.At ⟨K, adOf K cs⟩ tv → u.At ⟨K, adOf K cs⟩ uv → kitOne K tv uv = some b := by
  have main : ∀ d, cs.contains d = true → (cs.all fun c => kitS K (.ref (He.ga K c)) (.ref (He.ga K d)) (isiM mros bi (.own c) (.own d))) = true ∧ (bi.all fun m => kitS K (.ref (He.ga K d)) (.type m) (isiM mros bi (.own d) (.bi m))) = true ∧ (tys.all fun n => kitS K (.type n) (.ref (He.ga K d)) (some false)) = true := fun d hd => by
    have h1 := List.all_eq_true.mp h d (List.contains_iff_mem.mp hd)
    obtain ⟨a, b⟩ := Bool.and_eq_true_iff.mp h1
    obtain ⟨b, c⟩ := Bool.and_eq_true_iff.mp b
    exact ⟨a, b, c⟩
  have mem : ∀ {c : Str} {A : Addr}, adOf K cs c = some A → cs.contains c = true := fun {c A} e => by
    unfold adOf at e
    split at e
    · assumption
    · cases e
  intro t u b e tv uv ht hu
  cases t with
  | own c =>
    obtain ⟨A, ha, rfl⟩ := ht
    have ha : adOf K cs c = some A := ha
    obtain ⟨m1, m2, m3⟩ := main c (mem ha)
    rw [adOf_at ha]
    cases u with
    | own d =>
      obtain ⟨D, hd, rfl⟩ := hu
      have hd : adOf K cs d = some D := hd
      obtain ⟨n1, _⟩ := main d (mem hd)
      rw [adOf_at hd]
      exact kitS_ok (List.all_eq_true.mp n1 c (List.contains_iff_mem.mp (mem ha))) e
    | bi m =>
      have hu : uv = .type m := hu
      subst hu
      have e2 := e
      unfold isiM at e2
      dsimp only at e2
      split at e2
      · rename_i hm
        exact kitS_ok (List.all_eq_true.mp m2 m (List.contains_iff_mem.mp hm)) e
      · cases e2
  | bi n =>
    have ht : tv = .type n := ht
    subst ht
    cases u with
    | own d =>
      obtain ⟨D, hd, rfl⟩ := hu
      have hd : adOf K cs d = some D := hd
      obtain ⟨_, _, n3⟩ := main d (mem hd)
      rw [adOf_at hd]
      unfold isiM at e
      dsimp only at e
      split at e
      · rename_i hn
        exact kitS_ok (List.all_eq_true.mp n3 n (List.contains_iff_mem.mp hn)) e
      · cases e
    | bi m =>
      have hu : uv = .type m := hu
      subst hu
      exact kit_ty e
end Ma
/-! Ma37: a class's method in the text; the parts of super().__init__(..). -/
namespace Ma
open L2 PySem.W PySem.Spec PySem PyProof.Rows
def clsMeth (s : Stmt) (j : Nat) : Stmt := match s with
  | .ClassDef _ _ _ b _ _ _ _ _ _ _ => b.getD j (.Pass ⟨0, 0, 0, 0⟩)
  | _ => .Pass ⟨0, 0, 0, 0⟩
def jsOf (s : Stmt) : Expr := match defBody s with
  | .Expr (.Call _ (js :: _) _ _) _ :: _ => js
  | _ => .Name "" ⟨0, 0, 0, 0⟩
def rp (s : Stmt) (k : Nat) : Pos := match defBody s with
  | .Expr (.Call (.Attribute (.Call (.Name _ p0) _ _ p1) _ p2) _ _ p3) p4 :: _ => [p0, p1, p2, p3, p4].getD k ⟨0, 0, 0, 0⟩
  | _ => ⟨0, 0, 0, 0⟩
theorem hself_of {fd : FuncData} {p : Arguments} {sf : Str} (e : fd.params = p) (h : ((p.posonlyargs ++ p.args).head?).map (·.arg) = some sf) : ∃ ar, (fd.params.posonlyargs ++ fd.params.args).head? = some ar ∧ ar.arg = sf := by
  rw [e]
  cases q : (p.posonlyargs ++ p.args).head? with
  | none => rw [q] at h; cases h
  | some ar => rw [q] at h; exact ⟨ar, rfl, Option.some.inj h⟩
end Ma
namespace Lw
open L2 Ma PySem.Spec PySem PyProof.Rows
def top (i : Nat) : Stmt := PySem.Challenge.pw_rowclash_k98_exceptions_by_hand.main.body.getD i (.Pass ⟨0, 0, 0, 0⟩)
abbrev XS : List Str := ["RowError", "NotRow", "NotTable", "NotKey", "NotKeys", "NotRows", "NotOrder", "NotRule", "NotInteger", "NotScan", "NotBound", "NotFormula", "NotDeed", "NotText", "NotBytes", "NotLine", "Missing", "Impossible", "TooLarge", "NothingDone", "Twice", "Held", "TooMany", "Competing", "Ringed", "Collision"]
abbrev IS : List Str := []
def mros : List (Str × List Tg) := [("RowError", [.own "RowError", .bi "ValueError", .bi "Exception", .bi "BaseException", .bi "object"]), ("NotRow", [.own "NotRow", .own "RowError", .bi "ValueError", .bi "Exception", .bi "BaseException", .bi "object"]), ("NotTable", [.own "NotTable", .own "RowError", .bi "ValueError", .bi "Exception", .bi "BaseException", .bi "object"]), ("NotKey", [.own "NotKey", .own "RowError", .bi "ValueError", .bi "Exception", .bi "BaseException", .bi "object"]), ("NotKeys", [.own "NotKeys", .own "RowError", .bi "ValueError", .bi "Exception", .bi "BaseException", .bi "object"]), ("NotRows", [.own "NotRows", .own "RowError", .bi "ValueError", .bi "Exception", .bi "BaseException", .bi "object"]), ("NotOrder", [.own "NotOrder", .own "RowError", .bi "ValueError", .bi "Exception", .bi "BaseException", .bi "object"]), ("NotRule", [.own "NotRule", .own "RowError", .bi "ValueError", .bi "Exception", .bi "BaseException", .bi "object"]), ("NotInteger", [.own "NotInteger", .own "RowError", .bi "ValueError", .bi "Exception", .bi "BaseException", .bi "object"]), ("NotScan", [.own "NotScan", .own "RowError", .bi "ValueError", .bi "Exception", .bi "BaseException", .bi "object"]), ("NotBound", [.own "NotBound", .own "RowError", .bi "ValueError", .bi "Exception", .bi "BaseException", .bi "object"]), ("NotFormula", [.own "NotFormula", .own "RowError", .bi "ValueError", .bi "Exception", .bi "BaseException", .bi "object"]), ("NotDeed", [.own "NotDeed", .own "RowError", .bi "ValueError", .bi "Exception", .bi "BaseException", .bi "object"]), ("NotText", [.own "NotText", .own "RowError", .bi "ValueError", .bi "Exception", .bi "BaseException", .bi "object"]), ("NotBytes", [.own "NotBytes", .own "RowError", .bi "ValueError", .bi "Exception", .bi "BaseException", .bi "object"]), ("NotLine", [.own "NotLine", .own "RowError", .bi "ValueError", .bi "Exception", .bi "BaseException", .bi "object"]), ("Missing", [.own "Missing", .own "RowError", .bi "ValueError", .bi "Exception", .bi "BaseException", .bi "object"]), ("Impossible", [.own "Impossible", .own "RowError", .bi "ValueError", .bi "Exception", .bi "BaseException", .bi "object"]), ("TooLarge", [.own "TooLarge", .own "RowError", .bi "ValueError", .bi "Exception", .bi "BaseException", .bi "object"]), ("NothingDone", [.own "NothingDone", .own "RowError", .bi "ValueError", .bi "Exception", .bi "BaseException", .bi "object"]), ("Twice", [.own "Twice", .own "RowError", .bi "ValueError", .bi "Exception", .bi "BaseException", .bi "object"]), ("Held", [.own "Held", .own "RowError", .bi "ValueError", .bi "Exception", .bi "BaseException", .bi "object"]), ("TooMany", [.own "TooMany", .own "RowError", .bi "ValueError", .bi "Exception", .bi "BaseException", .bi "object"]), ("Competing", [.own "Competing", .own "RowError", .bi "ValueError", .bi "Exception", .bi "BaseException", .bi "object"]), ("Ringed", [.own "Ringed", .own "RowError", .bi "ValueError", .bi "Exception", .bi "BaseException", .bi "object"]), ("Collision", [.own "Collision", .own "RowError", .bi "ValueError", .bi "Exception", .bi "BaseException", .bi "object"])]
abbrev BI : List String := ["ValueError", "int"]
abbrev CS : List Str := ["RowError", "NotRow", "NotTable", "NotKey", "NotKeys", "NotRows", "NotOrder", "NotRule", "NotInteger", "NotScan", "NotBound", "NotFormula", "NotDeed", "NotText", "NotBytes", "NotLine", "Missing", "Impossible", "TooLarge", "NothingDone", "Twice", "Held", "TooMany", "Competing", "Ringed", "Collision"]
abbrev isi : Tg → Tg → Option Bool := isiM mros BI
structure Bt (P : Program) (w : World) (mg : Str → Option Value) (T : Tab) : Prop where
  b_ValueError : mg "ValueError" = none
  b_all : mg "all" = none
  b_int : mg "int" = none
  b_isinstance : mg "isinstance" = none
  b_len : mg "len" = none
  b_max : mg "max" = none
  b_repr : mg "repr" = none
  kc_Collision : KnC mg T "Collision"
  kc_Competing : KnC mg T "Competing"
  kc_Held : KnC mg T "Held"
  kc_Impossible : KnC mg T "Impossible"
  kc_Missing : KnC mg T "Missing"
  kc_NotBound : KnC mg T "NotBound"
  kc_NotBytes : KnC mg T "NotBytes"
  kc_NotDeed : KnC mg T "NotDeed"
  kc_NotFormula : KnC mg T "NotFormula"
  kc_NotInteger : KnC mg T "NotInteger"
  kc_NotKey : KnC mg T "NotKey"
  kc_NotKeys : KnC mg T "NotKeys"
  kc_NotLine : KnC mg T "NotLine"
  kc_NotOrder : KnC mg T "NotOrder"
  kc_NotRow : KnC mg T "NotRow"
  kc_NotRows : KnC mg T "NotRows"
  kc_NotRule : KnC mg T "NotRule"
  kc_NotScan : KnC mg T "NotScan"
  kc_NotTable : KnC mg T "NotTable"
  kc_NotText : KnC mg T "NotText"
  kc_NothingDone : KnC mg T "NothingDone"
  kc_Ringed : KnC mg T "Ringed"
  kc_RowError : KnC mg T "RowError"
  kc_TooLarge : KnC mg T "TooLarge"
  kc_TooMany : KnC mg T "TooMany"
  kc_Twice : KnC mg T "Twice"
  ke_Impossible : KnE mg T "Impossible"
  ke_Missing : KnE mg T "Missing"
  ke_NotBound : KnE mg T "NotBound"
  ke_NotBytes : KnE mg T "NotBytes"
  ke_NotDeed : KnE mg T "NotDeed"
  ke_NotFormula : KnE mg T "NotFormula"
  ke_NotInteger : KnE mg T "NotInteger"
  ke_NotKey : KnE mg T "NotKey"
  ke_NotKeys : KnE mg T "NotKeys"
  ke_NotLine : KnE mg T "NotLine"
  ke_NotOrder : KnE mg T "NotOrder"
  ke_NotRow : KnE mg T "NotRow"
  ke_NotRows : KnE mg T "NotRows"
  ke_NotRule : KnE mg T "NotRule"
  ke_NotScan : KnE mg T "NotScan"
  ke_NotTable : KnE mg T "NotTable"
  ke_NotText : KnE mg T "NotText"
  ke_NothingDone : KnE mg T "NothingDone"
  ke_TooLarge : KnE mg T "TooLarge"
  ki_Collision : KnI P w mg T "Collision" ["row", "holder"] [.inl "row ", .inr 0, .inl " collides with row ", .inr 1]
  ki_Competing : KnI P w mg T "Competing" ["pair"] [.inl "these rows compete: ", .inr 0]
  ki_Held : KnI P w mg T "Held" ["key"] [.inl "the key ", .inr 0, .inl " is held already"]
  ki_Ringed : KnI P w mg T "Ringed" ["ring"] [.inl "these rows wait for each other: ", .inr 0]
  ki_TooMany : KnI P w mg T "TooMany" ["many", "most"] [.inr 0, .inl " are too many, ", .inr 1, .inl " is the most"]
  ki_Twice : KnI P w mg T "Twice" ["key"] [.inl "two rows have the key ", .inr 0]
  f_holder : FldK T [] ["Collision"] "holder"
  f_key : FldK T [] ["Twice", "Held"] "key"
  f_many : FldK T [] ["TooMany"] "many"
  f_most : FldK T [] ["TooMany"] "most"
  f_pair : FldK T [] ["Competing"] "pair"
  f_ring : FldK T [] ["Ringed"] "ring"
  f_row : FldK T [] ["Collision"] "row"
  x : Cx0 T IS XS isi

abbrev s__law_cell_at : Stmt := top 28
theorem sc__law_cell_at : FnScope ["_law_script", "_law_k"] ["_law_script", "_law_k"] (defScope s__law_cell_at) := ⟨rfl, rfl, rfl, by decide +kernel, rfl, by decide +kernel, by decide +kernel⟩
def m__law_cell_at : MStm := (sSeq (sIf (mB (m2 oLt (mv 1) (mCall (mCons (mv 0) mNil) cLen))) (sRet (m2 oIx (mv 0) (mv 1))) sNx) (sRet (mc (.int 0))))
def F__law_cell_at : Fn := posF 2 [] (bodyF 2 2 m__law_cell_at)
theorem d__law_cell_at {P : Program} {w : World} {mg : Str → Option Value} {base : Heap} {T : Tab} (B : Bt P w mg T)  {f : Addr} {cdv : Value} {A : Around} {outer : List Env} {s : Shared} {H : Hp} {E : XK} {g : Gh} (hr : RoomG 0 (A.deeper (envOfC "_law_cell_at" (defScope s__law_cell_at) s.heap.objs.size f cdv))) :
    PMb (cAt P w mg base T ["_law_script", "_law_k"] "_law_cell_at" (defScope s__law_cell_at) f cdv A outer s H E g) (defBody s__law_cell_at) m__law_cell_at :=
  have nd := sc__law_cell_at.nd
  have hu := hr.toRoom.units
  have hu2 := room65 hr
  have hgd := hr.gs
  (bm_cons (sm_if (tm_cmp ok_lt (em_v 1) (em_callB call_len ok_len B.b_len (am_cons (em_v 0) am_nil)) (nomark _)) (bm_one (sm_ret (em_ix (em_v 0) (em_v 1) (fun _ _ => rfl)))) bm_nil) (bm_one (sm_ret em_int)))
theorem k__law_cell_at {P : Program} {w : World} {mg : Str → Option Value} {base : Heap} {T : Tab} (B : Bt P w mg T)  {f : Addr} {fd : FuncData} (F : Fun T.K "_law_cell_at" "_law_cell_at" s__law_cell_at f fd) (hm : mg "_law_cell_at" = some (.ref f)) : Kn P w mg base T "_law_cell_at" 1 F__law_cell_at :=
  ⟨f, FnP.of (dms := []) (fnG_of F sc__law_cell_at fun cdv A outer s H E g hr => d__law_cell_at B  hr) (F.binds (fun _ _ _ _ _ _ us hl => match us, hl with | [_, _], _ => rfl)) .nil (fun _ _ => .nil), hm, F.kp⟩

abbrev s__law_pen : Stmt := top 29
theorem sc__law_pen : FnScope ["_law_cell"] ["_law_cell"] (defScope s__law_pen) := ⟨rfl, rfl, rfl, by decide +kernel, rfl, by decide +kernel, by decide +kernel⟩
def m__law_pen : MStm := (sRet (mLstB (mCons (mCall (mCons (mc (.int 0)) (mCons (m2 oSub (mv 0) (m2 oPow (mc (.int 10)) (mc (.int 18)))) mNil)) cMax) (mCons (m2 oMod (mCall (mCons (mv 0) mNil) cInt) (mc (.int 2147483629))) (mCons (mc (.int 1)) mNil)))))
def F__law_pen : Fn := posF 1 [] (bodyF 1 1 m__law_pen)
theorem d__law_pen {P : Program} {w : World} {mg : Str → Option Value} {base : Heap} {T : Tab} (B : Bt P w mg T)  {f : Addr} {cdv : Value} {A : Around} {outer : List Env} {s : Shared} {H : Hp} {E : XK} {g : Gh} (hr : RoomG 0 (A.deeper (envOfC "_law_pen" (defScope s__law_pen) s.heap.objs.size f cdv))) :
    PMb (cAt P w mg base T ["_law_cell"] "_law_pen" (defScope s__law_pen) f cdv A outer s H E g) (defBody s__law_pen) m__law_pen :=
  have nd := sc__law_pen.nd
  have hu := hr.toRoom.units
  have hu2 := room65 hr
  have hgd := hr.gs
  (bm_one (sm_ret (em_lstB (am_cons (em_callB (call_max2 rfl) ok_max2 B.b_max (am_cons em_int (am_cons (em_bin ok_sub (em_v 0) (em_bin ok_pow em_int em_int)) am_nil))) (am_cons (em_bin ok_mod (em_callT call_int1 ok_int B.b_int (am_cons (em_v 0) am_nil)) em_int) (am_cons em_int am_nil))))))
theorem k__law_pen {P : Program} {w : World} {mg : Str → Option Value} {base : Heap} {T : Tab} (B : Bt P w mg T)  {f : Addr} {fd : FuncData} (F : Fun T.K "_law_pen" "_law_pen" s__law_pen f fd) (hm : mg "_law_pen" = some (.ref f)) : Kn P w mg base T "_law_pen" 1 F__law_pen :=
  ⟨f, FnP.of (dms := []) (fnG_of F sc__law_pen fun cdv A outer s H E g hr => d__law_pen B  hr) (F.binds (fun _ _ _ _ _ _ us hl => match us, hl with | [_], _ => rfl)) .nil (fun _ _ => .nil), hm, F.kp⟩

abbrev s__law_draw : Stmt := top 30
theorem sc__law_draw : FnScope ["_law_pen_here", "_law_many", "_law_stirred", "_law_digit"] ["_law_pen_here", "_law_many"] (defScope s__law_draw) := ⟨rfl, rfl, rfl, by decide +kernel, rfl, by decide +kernel, by decide +kernel⟩
def m__law_draw : MStm := (sSeq (sIf (mB (m2 oGt (m2 oIx (mv 0) (mc (.int 0))) (mc (.int 0)))) (sSeq (sSet 3 (m2 oMod (mCall (mCons (m2 oIx (mv 0) (mc (.int 0))) mNil) cInt) (mv 1))) (sSeq (sAsg (m2 oDiv (m2 oIx (mv 0) (mc (.int 0))) (mv 1)) (gSubL (mv 0) (mc (.int 0)))) (sRet (mv 3)))) sNx) (sSeq (sAsg (m2 oAdd (m2 oIx (mv 0) (mc (.int 2))) (mc (.int 1))) (gSubL (mv 0) (mc (.int 2)))) (sSeq (sAsg (m2 oMod (mCall (mCons (m2 oAdd (m2 oAdd (m2 oMul (m2 oIx (mv 0) (mc (.int 1))) (mc (.int 48271))) (m2 oMul (mc (.int 7919)) (m2 oIx (mv 0) (mc (.int 2))))) (mc (.int 11))) mNil) cInt) (mc (.int 2147483647))) (gSubL (mv 0) (mc (.int 1)))) (sSeq (sSet 2 (m2 oMod (mCall (mCons (m2 oAdd (m2 oAdd (m2 oMul (m2 oIx (mv 0) (mc (.int 1))) (m2 oIx (mv 0) (mc (.int 1)))) (m2 oMul (mc (.int 40014)) (m2 oIx (mv 0) (mc (.int 1))))) (m2 oIx (mv 0) (mc (.int 2)))) mNil) cInt) (mc (.int 2147483563)))) (sRet (m2 oMod (mCall (mCons (m2 oDiv (m2 oMod (mCall (mCons (m2 oMul (mv 2) (mc (.int 16807))) mNil) cInt) (mc (.int 2147483647))) (mc (.int 64))) mNil) cInt) (mv 1)))))))
def F__law_draw : Fn := posF 2 [] (bodyF 2 4 m__law_draw)
theorem d__law_draw {P : Program} {w : World} {mg : Str → Option Value} {base : Heap} {T : Tab} (B : Bt P w mg T)  {f : Addr} {cdv : Value} {A : Around} {outer : List Env} {s : Shared} {H : Hp} {E : XK} {g : Gh} (hr : RoomG 0 (A.deeper (envOfC "_law_draw" (defScope s__law_draw) s.heap.objs.size f cdv))) :
    PMb (cAt P w mg base T ["_law_pen_here", "_law_many", "_law_stirred", "_law_digit"] "_law_draw" (defScope s__law_draw) f cdv A outer s H E g) (defBody s__law_draw) m__law_draw :=
  have nd := sc__law_draw.nd
  have hu := hr.toRoom.units
  have hu2 := room65 hr
  have hgd := hr.gs
  (bm_cons (sm_if (tm_cmp ok_gt (em_ix (em_v 0) em_int (fun _ _ => rfl)) em_int (nomark _)) (bm_cons (sm_set 3 nd rfl (Or.inl rfl) (em_bin ok_mod (em_callT call_int1 ok_int B.b_int (am_cons (em_ix (em_v 0) em_int (fun _ _ => rfl)) am_nil)) (em_v 1))) (bm_cons (sm_asg (em_bin ok_div (em_ix (em_v 0) em_int (fun _ _ => rfl)) (em_v 1)) (gm_subL (em_v 0) em_int)) (bm_one (sm_ret (em_v 3))))) bm_nil) (bm_cons (sm_asg (em_bin ok_add (em_ix (em_v 0) em_int (fun _ _ => rfl)) em_int) (gm_subL (em_v 0) em_int)) (bm_cons (sm_asg (em_bin ok_mod (em_callT call_int1 ok_int B.b_int (am_cons (em_bin ok_add (em_bin ok_add (em_bin ok_mul (em_ix (em_v 0) em_int (fun _ _ => rfl)) em_int) (em_bin ok_mul em_int (em_ix (em_v 0) em_int (fun _ _ => rfl)))) em_int) am_nil)) em_int) (gm_subL (em_v 0) em_int)) (bm_cons (sm_set 2 nd rfl (Or.inl rfl) (em_bin ok_mod (em_callT call_int1 ok_int B.b_int (am_cons (em_bin ok_add (em_bin ok_add (em_bin ok_mul (em_ix (em_v 0) em_int (fun _ _ => rfl)) (em_ix (em_v 0) em_int (fun _ _ => rfl))) (em_bin ok_mul em_int (em_ix (em_v 0) em_int (fun _ _ => rfl)))) (em_ix (em_v 0) em_int (fun _ _ => rfl))) am_nil)) em_int)) (bm_one (sm_ret (em_bin ok_mod (em_callT call_int1 ok_int B.b_int (am_cons (em_bin ok_div (em_bin ok_mod (em_callT call_int1 ok_int B.b_int (am_cons (em_bin ok_mul (em_v 2) em_int) am_nil)) em_int) em_int) am_nil)) (em_v 1))))))))
theorem k__law_draw {P : Program} {w : World} {mg : Str → Option Value} {base : Heap} {T : Tab} (B : Bt P w mg T)  {f : Addr} {fd : FuncData} (F : Fun T.K "_law_draw" "_law_draw" s__law_draw f fd) (hm : mg "_law_draw" = some (.ref f)) : Kn P w mg base T "_law_draw" 1 F__law_draw :=
  ⟨f, FnP.of (dms := []) (fnG_of F sc__law_draw fun cdv A outer s H E g hr => d__law_draw B  hr) (F.binds (fun _ _ _ _ _ _ us hl => match us, hl with | [_, _], _ => rfl)) .nil (fun _ _ => .nil), hm, F.kp⟩

abbrev s__law_pick : Stmt := top 31
theorem sc__law_pick : FnScope ["_law_pen_here", "_law_things"] ["_law_pen_here", "_law_things"] (defScope s__law_pick) := ⟨rfl, rfl, rfl, by decide +kernel, rfl, by decide +kernel, by decide +kernel⟩
def m__law_pick : MStm := (sRet (m2 oIx (mv 1) (mFn (mCons (mv 0) (mCons (mCall (mCons (mv 1) mNil) cLen) mNil)) F__law_draw)))
def F__law_pick : Fn := posF 2 [] (bodyF 2 2 m__law_pick)
theorem d__law_pick {P : Program} {w : World} {mg : Str → Option Value} {base : Heap} {T : Tab} (B : Bt P w mg T) (h__law_draw : Kn P w mg base T "_law_draw" 1 F__law_draw) {f : Addr} {cdv : Value} {A : Around} {outer : List Env} {s : Shared} {H : Hp} {E : XK} {g : Gh} (hr : RoomG 1 (A.deeper (envOfC "_law_pick" (defScope s__law_pick) s.heap.objs.size f cdv))) :
    PMb (cAt P w mg base T ["_law_pen_here", "_law_things"] "_law_pick" (defScope s__law_pick) f cdv A outer s H E g) (defBody s__law_pick) m__law_pick :=
  have nd := sc__law_pick.nd
  have hu := hr.toRoom.units
  have hu2 := room65 hr
  have hgd := hr.gs
  (bm_one (sm_ret (em_ix (em_v 1) (em_kn h__law_draw (hr.less (by decide)) cAt_takes (am_cons (em_v 0) (am_cons (em_callB call_len ok_len B.b_len (am_cons (em_v 1) am_nil)) am_nil))) (fun _ _ => rfl))))
theorem k__law_pick {P : Program} {w : World} {mg : Str → Option Value} {base : Heap} {T : Tab} (B : Bt P w mg T) (h__law_draw : Kn P w mg base T "_law_draw" 1 F__law_draw) {f : Addr} {fd : FuncData} (F : Fun T.K "_law_pick" "_law_pick" s__law_pick f fd) (hm : mg "_law_pick" = some (.ref f)) : Kn P w mg base T "_law_pick" 2 F__law_pick :=
  ⟨f, FnP.of (dms := []) (fnG_of F sc__law_pick fun cdv A outer s H E g hr => d__law_pick B h__law_draw hr) (F.binds (fun _ _ _ _ _ _ us hl => match us, hl with | [_, _], _ => rfl)) .nil (fun _ _ => .nil), hm, F.kp⟩

abbrev s__law_word : Stmt := top 32
theorem sc__law_word : FnScope ["_law_e", "_law_some", "_law_words"] ["_law_e"] (defScope s__law_word) := ⟨rfl, rfl, rfl, by decide +kernel, rfl, by decide +kernel, by decide +kernel⟩
def m__law_word : MStm := (sSeq (sSet 1 (mLst (mCons (mCall (mCons (mv 0) (mCons (mc (.cls "NotRow")) mNil)) (cIsi IS XS isi)) (mCons (mCall (mCons (mv 0) (mCons (mc (.cls "NotTable")) mNil)) (cIsi IS XS isi)) (mCons (mCall (mCons (mv 0) (mCons (mc (.cls "NotKey")) mNil)) (cIsi IS XS isi)) (mCons (mCall (mCons (mv 0) (mCons (mc (.cls "NotKeys")) mNil)) (cIsi IS XS isi)) (mCons (mCall (mCons (mv 0) (mCons (mc (.cls "NotRows")) mNil)) (cIsi IS XS isi)) (mCons (mCall (mCons (mv 0) (mCons (mc (.cls "NotOrder")) mNil)) (cIsi IS XS isi)) mNil)))))))) (sSeq (sSet 1 (m2 oAdd (mv 1) (mLst (mCons (mCall (mCons (mv 0) (mCons (mc (.cls "NotRule")) mNil)) (cIsi IS XS isi)) (mCons (mCall (mCons (mv 0) (mCons (mc (.cls "NotInteger")) mNil)) (cIsi IS XS isi)) (mCons (mCall (mCons (mv 0) (mCons (mc (.cls "NotScan")) mNil)) (cIsi IS XS isi)) (mCons (mCall (mCons (mv 0) (mCons (mc (.cls "NotBound")) mNil)) (cIsi IS XS isi)) (mCons (mCall (mCons (mv 0) (mCons (mc (.cls "NotFormula")) mNil)) (cIsi IS XS isi)) (mCons (mCall (mCons (mv 0) (mCons (mc (.cls "NotDeed")) mNil)) (cIsi IS XS isi)) mNil))))))))) (sSeq (sSet 1 (m2 oAdd (mv 1) (mLst (mCons (mCall (mCons (mv 0) (mCons (mc (.cls "NotText")) mNil)) (cIsi IS XS isi)) (mCons (mCall (mCons (mv 0) (mCons (mc (.cls "NotBytes")) mNil)) (cIsi IS XS isi)) (mCons (mCall (mCons (mv 0) (mCons (mc (.cls "NotLine")) mNil)) (cIsi IS XS isi)) (mCons (mCall (mCons (mv 0) (mCons (mc (.cls "Missing")) mNil)) (cIsi IS XS isi)) (mCons (mCall (mCons (mv 0) (mCons (mc (.cls "Impossible")) mNil)) (cIsi IS XS isi)) (mCons (mCall (mCons (mv 0) (mCons (mc (.cls "TooLarge")) mNil)) (cIsi IS XS isi)) mNil))))))))) (sSeq (sSet 1 (m2 oAdd (mv 1) (mLst (mCons (mCall (mCons (mv 0) (mCons (mc (.cls "NothingDone")) mNil)) (cIsi IS XS isi)) (mCons (mCall (mCons (mv 0) (mCons (mc (.cls "Twice")) mNil)) (cIsi IS XS isi)) (mCons (mCall (mCons (mv 0) (mCons (mc (.cls "Held")) mNil)) (cIsi IS XS isi)) (mCons (mCall (mCons (mv 0) (mCons (mc (.cls "TooMany")) mNil)) (cIsi IS XS isi)) (mCons (mCall (mCons (mv 0) (mCons (mc (.cls "Competing")) mNil)) (cIsi IS XS isi)) (mCons (mCall (mCons (mv 0) (mCons (mc (.cls "Ringed")) mNil)) (cIsi IS XS isi)) (mCons (mCall (mCons (mv 0) (mCons (mc (.cls "Collision")) mNil)) (cIsi IS XS isi)) mNil)))))))))) (sSeq (sSet 2 (mLst (mCons (mc (.str "row")) (mCons (mc (.str "table")) (mCons (mc (.str "key")) (mCons (mc (.str "keys")) (mCons (mc (.str "rows")) (mCons (mc (.str "order")) (mCons (mc (.str "rule")) (mCons (mc (.str "integer")) (mCons (mc (.str "scan")) (mCons (mc (.str "bound")) (mCons (mc (.str "formula")) (mCons (mc (.str "deed")) (mCons (mc (.str "text")) mNil))))))))))))))) (sSeq (sSet 2 (m2 oAdd (mv 2) (mLst (mCons (mc (.str "bytes")) (mCons (mc (.str "line")) (mCons (mc (.str "missing")) (mCons (mc (.str "impossible")) (mCons (mc (.str "large")) (mCons (mc (.str "nothing")) (mCons (mc (.str "twice")) (mCons (mc (.str "held")) (mCons (mc (.str "many")) (mCons (mc (.str "competing")) (mCons (mc (.str "ringed")) (mCons (mc (.str "collision")) mNil))))))))))))))) (sSeq (sIf (mOr (mB (m2 (oEqD true) (mCnt (mv 1) (mc (.bl true))) (mc (.int 1)))) (mNot (mB (mCall (mCons (mv 0) (mCons (mc (.ty "ValueError")) mNil)) (cIsi IS XS isi))))) (sRet (mc (.str "other"))) sNx) (sRet (m2 oIx (mv 2) (mIxD (mv 1) (mc (.bl true))))))))))))
def F__law_word : Fn := posF 1 [] (bodyF 1 3 m__law_word)
theorem d__law_word {P : Program} {w : World} {mg : Str → Option Value} {base : Heap} {T : Tab} (B : Bt P w mg T)  {f : Addr} {cdv : Value} {A : Around} {outer : List Env} {s : Shared} {H : Hp} {E : XK} {g : Gh} (hr : RoomG 0 (A.deeper (envOfC "_law_word" (defScope s__law_word) s.heap.objs.size f cdv))) :
    PMb (cAt P w mg base T ["_law_e", "_law_some", "_law_words"] "_law_word" (defScope s__law_word) f cdv A outer s H E g) (defBody s__law_word) m__law_word :=
  have nd := sc__law_word.nd
  have hu := hr.toRoom.units
  have hu2 := room65 hr
  have hgd := hr.gs
  (bm_cons (sm_set 1 nd rfl (Or.inl rfl) (em_lst (am_cons (em_callB call_isA (ok_isK B.x) B.b_isinstance (am_cons (em_v 0) (am_cons (em_kc B.kc_NotRow) am_nil))) (am_cons (em_callB call_isA (ok_isK B.x) B.b_isinstance (am_cons (em_v 0) (am_cons (em_kc B.kc_NotTable) am_nil))) (am_cons (em_callB call_isA (ok_isK B.x) B.b_isinstance (am_cons (em_v 0) (am_cons (em_kc B.kc_NotKey) am_nil))) (am_cons (em_callB call_isA (ok_isK B.x) B.b_isinstance (am_cons (em_v 0) (am_cons (em_kc B.kc_NotKeys) am_nil))) (am_cons (em_callB call_isA (ok_isK B.x) B.b_isinstance (am_cons (em_v 0) (am_cons (em_kc B.kc_NotRows) am_nil))) (am_cons (em_callB call_isA (ok_isK B.x) B.b_isinstance (am_cons (em_v 0) (am_cons (em_kc B.kc_NotOrder) am_nil))) am_nil)))))))) (bm_cons (sm_set 1 nd rfl (Or.inl rfl) (em_bin ok_add (em_v 1) (em_lst (am_cons (em_callB call_isA (ok_isK B.x) B.b_isinstance (am_cons (em_v 0) (am_cons (em_kc B.kc_NotRule) am_nil))) (am_cons (em_callB call_isA (ok_isK B.x) B.b_isinstance (am_cons (em_v 0) (am_cons (em_kc B.kc_NotInteger) am_nil))) (am_cons (em_callB call_isA (ok_isK B.x) B.b_isinstance (am_cons (em_v 0) (am_cons (em_kc B.kc_NotScan) am_nil))) (am_cons (em_callB call_isA (ok_isK B.x) B.b_isinstance (am_cons (em_v 0) (am_cons (em_kc B.kc_NotBound) am_nil))) (am_cons (em_callB call_isA (ok_isK B.x) B.b_isinstance (am_cons (em_v 0) (am_cons (em_kc B.kc_NotFormula) am_nil))) (am_cons (em_callB call_isA (ok_isK B.x) B.b_isinstance (am_cons (em_v 0) (am_cons (em_kc B.kc_NotDeed) am_nil))) am_nil))))))))) (bm_cons (sm_set 1 nd rfl (Or.inl rfl) (em_bin ok_add (em_v 1) (em_lst (am_cons (em_callB call_isA (ok_isK B.x) B.b_isinstance (am_cons (em_v 0) (am_cons (em_kc B.kc_NotText) am_nil))) (am_cons (em_callB call_isA (ok_isK B.x) B.b_isinstance (am_cons (em_v 0) (am_cons (em_kc B.kc_NotBytes) am_nil))) (am_cons (em_callB call_isA (ok_isK B.x) B.b_isinstance (am_cons (em_v 0) (am_cons (em_kc B.kc_NotLine) am_nil))) (am_cons (em_callB call_isA (ok_isK B.x) B.b_isinstance (am_cons (em_v 0) (am_cons (em_kc B.kc_Missing) am_nil))) (am_cons (em_callB call_isA (ok_isK B.x) B.b_isinstance (am_cons (em_v 0) (am_cons (em_kc B.kc_Impossible) am_nil))) (am_cons (em_callB call_isA (ok_isK B.x) B.b_isinstance (am_cons (em_v 0) (am_cons (em_kc B.kc_TooLarge) am_nil))) am_nil))))))))) (bm_cons (sm_set 1 nd rfl (Or.inl rfl) (em_bin ok_add (em_v 1) (em_lst (am_cons (em_callB call_isA (ok_isK B.x) B.b_isinstance (am_cons (em_v 0) (am_cons (em_kc B.kc_NothingDone) am_nil))) (am_cons (em_callB call_isA (ok_isK B.x) B.b_isinstance (am_cons (em_v 0) (am_cons (em_kc B.kc_Twice) am_nil))) (am_cons (em_callB call_isA (ok_isK B.x) B.b_isinstance (am_cons (em_v 0) (am_cons (em_kc B.kc_Held) am_nil))) (am_cons (em_callB call_isA (ok_isK B.x) B.b_isinstance (am_cons (em_v 0) (am_cons (em_kc B.kc_TooMany) am_nil))) (am_cons (em_callB call_isA (ok_isK B.x) B.b_isinstance (am_cons (em_v 0) (am_cons (em_kc B.kc_Competing) am_nil))) (am_cons (em_callB call_isA (ok_isK B.x) B.b_isinstance (am_cons (em_v 0) (am_cons (em_kc B.kc_Ringed) am_nil))) (am_cons (em_callB call_isA (ok_isK B.x) B.b_isinstance (am_cons (em_v 0) (am_cons (em_kc B.kc_Collision) am_nil))) am_nil)))))))))) (bm_cons (sm_set 2 nd rfl (Or.inl rfl) (em_lst (am_cons em_str (am_cons em_str (am_cons em_str (am_cons em_str (am_cons em_str (am_cons em_str (am_cons em_str (am_cons em_str (am_cons em_str (am_cons em_str (am_cons em_str (am_cons em_str (am_cons em_str am_nil))))))))))))))) (bm_cons (sm_set 2 nd rfl (Or.inl rfl) (em_bin ok_add (em_v 2) (em_lst (am_cons em_str (am_cons em_str (am_cons em_str (am_cons em_str (am_cons em_str (am_cons em_str (am_cons em_str (am_cons em_str (am_cons em_str (am_cons em_str (am_cons em_str (am_cons em_str am_nil))))))))))))))) (bm_cons (sm_if (tm_w (wm_or (tm_cmp (ok_neD hu) (em_cnt hu2 (em_v 1) em_bl) em_int (nomark _)) (wm_or1 (tm_not (tm_val (em_callB call_isA (ok_isK B.x) B.b_isinstance (am_cons (em_v 0) (am_cons (em_ty B.b_ValueError) am_nil)))))))) (bm_one (sm_ret em_str)) bm_nil) (bm_one (sm_ret (em_ix (em_v 2) (em_ixD hu2 (em_v 1) em_bl) (fun _ _ => rfl)))))))))))
theorem k__law_word {P : Program} {w : World} {mg : Str → Option Value} {base : Heap} {T : Tab} (B : Bt P w mg T)  {f : Addr} {fd : FuncData} (F : Fun T.K "_law_word" "_law_word" s__law_word f fd) (hm : mg "_law_word" = some (.ref f)) : Kn P w mg base T "_law_word" 1 F__law_word :=
  ⟨f, FnP.of (dms := []) (fnG_of F sc__law_word fun cdv A outer s H E g hr => d__law_word B  hr) (F.binds (fun _ _ _ _ _ _ us hl => match us, hl with | [_], _ => rfl)) .nil (fun _ _ => .nil), hm, F.kp⟩

abbrev s__law_key : Stmt := top 33
theorem sc__law_key : FnScope ["_law_pen_here", "_law_near"] ["_law_pen_here"] (defScope s__law_key) := ⟨rfl, rfl, rfl, by decide +kernel, rfl, by decide +kernel, by decide +kernel⟩
def m__law_key : MStm := (sSeq (sSet 1 (m2 oSub (mFn (mCons (mv 0) (mCons (mc (.int 30)) mNil)) F__law_draw) (mc (.int 10)))) (sRet (mFn (mCons (mv 0) (mCons (mLst (mCons (mv 1) (mCons (mv 1) (mCons (mv 1) (mCons (mv 1) (mCons (m2 oMul (mv 1) (m2 oPow (mc (.int 10)) (mc (.int 12)))) (mCons (m2 oSub (m2 oSub (m2 oPow (mc (.int 10)) (mc (.int 30))) (mc (.int 1))) (mFn (mCons (mv 0) (mCons (mc (.int 4)) mNil)) F__law_draw)) (mCons (m2 oSub (mc (.int 1)) (m2 oPow (mc (.int 10)) (mc (.int 30)))) mNil)))))))) mNil)) F__law_pick)))
def F__law_key : Fn := posF 1 [] (bodyF 1 2 m__law_key)
theorem d__law_key {P : Program} {w : World} {mg : Str → Option Value} {base : Heap} {T : Tab} (B : Bt P w mg T) (h__law_draw : Kn P w mg base T "_law_draw" 1 F__law_draw) (h__law_pick : Kn P w mg base T "_law_pick" 2 F__law_pick) {f : Addr} {cdv : Value} {A : Around} {outer : List Env} {s : Shared} {H : Hp} {E : XK} {g : Gh} (hr : RoomG 2 (A.deeper (envOfC "_law_key" (defScope s__law_key) s.heap.objs.size f cdv))) :
    PMb (cAt P w mg base T ["_law_pen_here", "_law_near"] "_law_key" (defScope s__law_key) f cdv A outer s H E g) (defBody s__law_key) m__law_key :=
  have nd := sc__law_key.nd
  have hu := hr.toRoom.units
  have hu2 := room65 hr
  have hgd := hr.gs
  (bm_cons (sm_set 1 nd rfl (Or.inl rfl) (em_bin ok_sub (em_kn h__law_draw (hr.less (by decide)) cAt_takes (am_cons (em_v 0) (am_cons em_int am_nil))) em_int)) (bm_one (sm_ret (em_kn h__law_pick (hr.less (by decide)) cAt_takes (am_cons (em_v 0) (am_cons (em_lst (am_cons (em_v 1) (am_cons (em_v 1) (am_cons (em_v 1) (am_cons (em_v 1) (am_cons (em_bin ok_mul (em_v 1) (em_bin ok_pow em_int em_int)) (am_cons (em_bin ok_sub (em_bin ok_sub (em_bin ok_pow em_int em_int) em_int) (em_kn h__law_draw (hr.less (by decide)) cAt_takes (am_cons (em_v 0) (am_cons em_int am_nil)))) (am_cons (em_bin ok_sub em_int (em_bin ok_pow em_int em_int)) am_nil)))))))) am_nil))))))
theorem k__law_key {P : Program} {w : World} {mg : Str → Option Value} {base : Heap} {T : Tab} (B : Bt P w mg T) (h__law_draw : Kn P w mg base T "_law_draw" 1 F__law_draw) (h__law_pick : Kn P w mg base T "_law_pick" 2 F__law_pick) {f : Addr} {fd : FuncData} (F : Fun T.K "_law_key" "_law_key" s__law_key f fd) (hm : mg "_law_key" = some (.ref f)) : Kn P w mg base T "_law_key" 3 F__law_key :=
  ⟨f, FnP.of (dms := []) (fnG_of F sc__law_key fun cdv A outer s H E g hr => d__law_key B h__law_draw h__law_pick hr) (F.binds (fun _ _ _ _ _ _ us hl => match us, hl with | [_], _ => rfl)) .nil (fun _ _ => .nil), hm, F.kp⟩

abbrev s__law_are_errors : Stmt := top 35
theorem sc__law_are_errors : FnScope ["_law_some", "_law_e"] ["_law_some"] (defScope s__law_are_errors) := ⟨rfl, rfl, rfl, by decide +kernel, rfl, by decide +kernel, by decide +kernel⟩
def m__law_are_errors : MStm := (sRet (mCall (mCons (mLc [1] (iSeq (mv 0)) (gSet 1) mYes (mAndV (mCall (mCons (mv 1) (mCons (mc (.cls "RowError")) mNil)) (cIsi IS XS isi)) (mCall (mCons (mv 1) (mCons (mc (.ty "ValueError")) mNil)) (cIsi IS XS isi)))) mNil) (cAll false)))
def F__law_are_errors : Fn := posF 1 [] (bodyF 1 2 m__law_are_errors)
theorem d__law_are_errors {P : Program} {w : World} {mg : Str → Option Value} {base : Heap} {T : Tab} (B : Bt P w mg T)  {f : Addr} {cdv : Value} {A : Around} {outer : List Env} {s : Shared} {H : Hp} {E : XK} {g : Gh} (hr : RoomG 0 (A.deeper (envOfC "_law_are_errors" (defScope s__law_are_errors) s.heap.objs.size f cdv))) :
    PMb (cAt P w mg base T ["_law_some", "_law_e"] "_law_are_errors" (defScope s__law_are_errors) f cdv A outer s H E g) (defBody s__law_are_errors) m__law_are_errors :=
  have nd := sc__law_are_errors.nd
  have hu := hr.toRoom.units
  have hu2 := room65 hr
  have hgd := hr.gs
  (bm_one (sm_ret (em_callB (cr_all rfl) ok_all B.b_all (am_cons (em_lc (own := [("_law_e", 1)]) rfl nd (im_seq (em_v 0)) (blkOk_by rfl) (fun _ _ _ _ _ _ => (gc_name 1 nd rfl (Or.inl rfl) (by decide))) (fun _ _ _ _ _ _ => tsm_nil) (fun _ _ _ _ _ _ => (em_and (em_callB call_isA (ok_isK B.x) B.b_isinstance (am_cons (em_v 1) (am_cons (em_kc B.kc_RowError) am_nil))) (em_one (em_callB call_isA (ok_isK B.x) B.b_isinstance (am_cons (em_v 1) (am_cons (em_ty B.b_ValueError) am_nil))))))) am_nil))))
theorem k__law_are_errors {P : Program} {w : World} {mg : Str → Option Value} {base : Heap} {T : Tab} (B : Bt P w mg T)  {f : Addr} {fd : FuncData} (F : Fun T.K "_law_are_errors" "_law_are_errors" s__law_are_errors f fd) (hm : mg "_law_are_errors" = some (.ref f)) : Kn P w mg base T "_law_are_errors" 1 F__law_are_errors :=
  ⟨f, FnP.of (dms := []) (fnG_of F sc__law_are_errors fun cdv A outer s H E g hr => d__law_are_errors B  hr) (F.binds (fun _ _ _ _ _ _ us hl => match us, hl with | [_], _ => rfl)) .nil (fun _ _ => .nil), hm, F.kp⟩

abbrev s__law_fields_right : Stmt := top 34
theorem sc__law_fields_right : FnScope ["_law_one", "_law_other", "_law_some", "_law_told", "_law_words", "_law_e"] ["_law_one", "_law_other"] (defScope s__law_fields_right) := ⟨rfl, rfl, rfl, by decide +kernel, rfl, by decide +kernel, by decide +kernel⟩
def m__law_fields_right : MStm := (sSeq (sSet 2 (mLstB (mCons (mExi "Twice" ["key"] [.inl "two rows have the key ", .inr 0] (mCons (mv 0) mNil)) (mCons (mExi "Held" ["key"] [.inl "the key ", .inr 0, .inl " is held already"] (mCons (mv 1) mNil)) (mCons (mExi "TooMany" ["many", "most"] [.inr 0, .inl " are too many, ", .inr 1, .inl " is the most"] (mCons (mv 0) (mCons (mv 1) mNil))) (mCons (mExi "Competing" ["pair"] [.inl "these rows compete: ", .inr 0] (mCons (mTup (mCons (mv 0) (mCons (mv 1) mNil))) mNil)) (mCons (mExi "Ringed" ["ring"] [.inl "these rows wait for each other: ", .inr 0] (mCons (mTup (mCons (mv 0) (mCons (mv 1) (mCons (mc (.int 7)) mNil)))) mNil)) mNil))))))) (sSeq (sExpr (mAppend (mv 2) (mExi "Collision" ["row", "holder"] [.inl "row ", .inr 0, .inl " collides with row ", .inr 1] (mCons (mv 0) (mCons (mv 1) mNil))))) (sSeq (sFz 2) (sSeq (sSet 3 (mLst (mCons (mFld [] ["Twice", "Held"] "key" (m2 oIx (mv 2) (mc (.int 0)))) (mCons (mFld [] ["Twice", "Held"] "key" (m2 oIx (mv 2) (mc (.int 1)))) (mCons (mFld [] ["TooMany"] "many" (m2 oIx (mv 2) (mc (.int 2)))) (mCons (mFld [] ["TooMany"] "most" (m2 oIx (mv 2) (mc (.int 2)))) (mCons (mFld [] ["Competing"] "pair" (m2 oIx (mv 2) (mc (.int 3)))) (mCons (mFld [] ["Ringed"] "ring" (m2 oIx (mv 2) (mc (.int 4)))) (mCons (mFld [] ["Collision"] "row" (m2 oIx (mv 2) (mc (.int 5)))) mNil))))))))) (sSeq (sIf (mB (m2 (oEqD true) (mCall (mCons (m2 oAdd (mv 3) (mLst (mCons (mFld [] ["Collision"] "holder" (m2 oIx (mv 2) (mc (.int 5)))) mNil))) mNil) cRepr) (mCall (mCons (mLst (mCons (mv 0) (mCons (mv 1) (mCons (mv 0) (mCons (mv 1) (mCons (mTup (mCons (mv 0) (mCons (mv 1) mNil))) (mCons (mTup (mCons (mv 0) (mCons (mv 1) (mCons (mc (.int 7)) mNil)))) (mCons (mv 0) (mCons (mv 1) mNil))))))))) mNil) cRepr))) (sRet (mc (.bl false))) sNx) (sSeq (sSet 4 (mLc [5] (iSeq (mv 2)) (gSet 5) mYes (mFn (mCons (mv 5) mNil) F__law_word))) (sRet (mAndV (m2 (oEqD false) (mv 4) (mLst (mCons (mc (.str "twice")) (mCons (mc (.str "held")) (mCons (mc (.str "many")) (mCons (mc (.str "competing")) (mCons (mc (.str "ringed")) (mCons (mc (.str "collision")) mNil)))))))) (mFn (mCons (mv 2) mNil) F__law_are_errors)))))))))
def F__law_fields_right : Fn := posF 2 [] (bodyF 2 6 m__law_fields_right)
theorem d__law_fields_right {P : Program} {w : World} {mg : Str → Option Value} {base : Heap} {T : Tab} (B : Bt P w mg T) (h__law_word : Kn P w mg base T "_law_word" 1 F__law_word) (h__law_are_errors : Kn P w mg base T "_law_are_errors" 1 F__law_are_errors) {f : Addr} {cdv : Value} {A : Around} {outer : List Env} {s : Shared} {H : Hp} {E : XK} {g : Gh} (hr : RoomG 2 (A.deeper (envOfC "_law_fields_right" (defScope s__law_fields_right) s.heap.objs.size f cdv))) :
    PMb (cAt P w mg base T ["_law_one", "_law_other", "_law_some", "_law_told", "_law_words", "_law_e"] "_law_fields_right" (defScope s__law_fields_right) f cdv A outer s H E g) (defBody s__law_fields_right) m__law_fields_right :=
  have nd := sc__law_fields_right.nd
  have hu := hr.toRoom.units
  have hu2 := room65 hr
  have hgd := hr.gs
  (bm_cons (sm_set 2 nd rfl (Or.inl rfl) (em_lstB (am_cons (em_exi B.ki_Twice (hr.less (by decide)) (am_cons (em_v 0) am_nil)) (am_cons (em_exi B.ki_Held (hr.less (by decide)) (am_cons (em_v 1) am_nil)) (am_cons (em_exi B.ki_TooMany (hr.less (by decide)) (am_cons (em_v 0) (am_cons (em_v 1) am_nil))) (am_cons (em_exi B.ki_Competing (hr.less (by decide)) (am_cons (em_tup (am_cons (em_v 0) (am_cons (em_v 1) am_nil))) am_nil)) (am_cons (em_exi B.ki_Ringed (hr.less (by decide)) (am_cons (em_tup (am_cons (em_v 0) (am_cons (em_v 1) (am_cons em_int am_nil)))) am_nil)) am_nil))))))) (bm_cons (sm_expr (em_append (em_v 2) (em_exi B.ki_Collision (hr.less (by decide)) (am_cons (em_v 0) (am_cons (em_v 1) am_nil))))) (bm_fz 2 (bm_cons (sm_set 3 nd rfl (Or.inl rfl) (em_lst (am_cons (em_kf B.f_key (em_ix (em_v 2) em_int (fun _ _ => rfl))) (am_cons (em_kf B.f_key (em_ix (em_v 2) em_int (fun _ _ => rfl))) (am_cons (em_kf B.f_many (em_ix (em_v 2) em_int (fun _ _ => rfl))) (am_cons (em_kf B.f_most (em_ix (em_v 2) em_int (fun _ _ => rfl))) (am_cons (em_kf B.f_pair (em_ix (em_v 2) em_int (fun _ _ => rfl))) (am_cons (em_kf B.f_ring (em_ix (em_v 2) em_int (fun _ _ => rfl))) (am_cons (em_kf B.f_row (em_ix (em_v 2) em_int (fun _ _ => rfl))) am_nil))))))))) (bm_cons (sm_if (tm_cmp (ok_neD hu) (em_callB (call_reprA hgd hu2) ok_repr B.b_repr (am_cons (em_bin ok_add (em_v 3) (em_lst (am_cons (em_kf B.f_holder (em_ix (em_v 2) em_int (fun _ _ => rfl))) am_nil))) am_nil)) (em_callB (call_reprA hgd hu2) ok_repr B.b_repr (am_cons (em_lst (am_cons (em_v 0) (am_cons (em_v 1) (am_cons (em_v 0) (am_cons (em_v 1) (am_cons (em_tup (am_cons (em_v 0) (am_cons (em_v 1) am_nil))) (am_cons (em_tup (am_cons (em_v 0) (am_cons (em_v 1) (am_cons em_int am_nil)))) (am_cons (em_v 0) (am_cons (em_v 1) am_nil))))))))) am_nil)) (nomark _)) (bm_one (sm_ret em_bl)) bm_nil) (bm_cons (sm_setLc (own := [("_law_e", 5)]) 4 rfl nd (im_seq (em_v 2)) (blkOk_by rfl) (fun _ _ _ _ _ _ => (gc_name 5 nd rfl (Or.inl rfl) (by decide))) (fun _ _ _ _ _ _ => tsm_nil) (fun _ _ _ _ _ _ => (em_kn h__law_word (hr.less (by decide)) takes0 (am_cons (em_v 5) am_nil)))) (bm_one (sm_ret (em_and (em_cmp (ok_eqD hu) (em_v 4) (em_lst (am_cons em_str (am_cons em_str (am_cons em_str (am_cons em_str (am_cons em_str (am_cons em_str am_nil))))))) (nomark _)) (em_one (em_kn h__law_are_errors (hr.less (by decide)) cAt_takes (am_cons (em_v 2) am_nil))))))))))))
theorem k__law_fields_right {P : Program} {w : World} {mg : Str → Option Value} {base : Heap} {T : Tab} (B : Bt P w mg T) (h__law_word : Kn P w mg base T "_law_word" 1 F__law_word) (h__law_are_errors : Kn P w mg base T "_law_are_errors" 1 F__law_are_errors) {f : Addr} {fd : FuncData} (F : Fun T.K "_law_fields_right" "_law_fields_right" s__law_fields_right f fd) (hm : mg "_law_fields_right" = some (.ref f)) : Kn P w mg base T "_law_fields_right" 3 F__law_fields_right :=
  ⟨f, FnP.of (dms := []) (fnG_of F sc__law_fields_right fun cdv A outer s H E g hr => d__law_fields_right B h__law_word h__law_are_errors hr) (F.binds (fun _ _ _ _ _ _ us hl => match us, hl with | [_, _], _ => rfl)) .nil (fun _ _ => .nil), hm, F.kp⟩

abbrev s__law_plain : Stmt := top 36
theorem sc__law_plain : FnScope ["_law_found"] [] (defScope s__law_plain) := ⟨rfl, rfl, rfl, by decide +kernel, rfl, by decide +kernel, by decide +kernel⟩
def m__law_plain : MStm := (sSeq (sSet 0 (mLst (mCons (mExc "NotRow" mNil) (mCons (mExc "NotTable" mNil) (mCons (mExc "NotKey" mNil) (mCons (mExc "NotKeys" mNil) (mCons (mExc "NotRows" mNil) (mCons (mExc "NotOrder" mNil) (mCons (mExc "NotRule" mNil) (mCons (mExc "NotInteger" mNil) (mCons (mExc "NotScan" mNil) mNil))))))))))) (sSeq (sSet 0 (m2 oAdd (mv 0) (mLst (mCons (mExc "NotBound" mNil) (mCons (mExc "NotFormula" mNil) (mCons (mExc "NotDeed" mNil) (mCons (mExc "NotText" mNil) (mCons (mExc "NotBytes" mNil) (mCons (mExc "NotLine" mNil) (mCons (mExc "Missing" mNil) (mCons (mExc "Impossible" mNil) mNil))))))))))) (sRet (m2 oAdd (mv 0) (mLst (mCons (mExc "TooLarge" mNil) (mCons (mExc "NothingDone" mNil) mNil)))))))
def F__law_plain : Fn := posF 0 [] (bodyF 0 1 m__law_plain)
theorem d__law_plain {P : Program} {w : World} {mg : Str → Option Value} {base : Heap} {T : Tab} (B : Bt P w mg T)  {f : Addr} {cdv : Value} {A : Around} {outer : List Env} {s : Shared} {H : Hp} {E : XK} {g : Gh} (hr : RoomG 0 (A.deeper (envOfC "_law_plain" (defScope s__law_plain) s.heap.objs.size f cdv))) :
    PMb (cAt P w mg base T ["_law_found"] "_law_plain" (defScope s__law_plain) f cdv A outer s H E g) (defBody s__law_plain) m__law_plain :=
  have nd := sc__law_plain.nd
  have hu := hr.toRoom.units
  have hu2 := room65 hr
  have hgd := hr.gs
  (bm_cons (sm_set 0 nd rfl (Or.inl rfl) (em_lst (am_cons (em_ke0 B.ke_NotRow) (am_cons (em_ke0 B.ke_NotTable) (am_cons (em_ke0 B.ke_NotKey) (am_cons (em_ke0 B.ke_NotKeys) (am_cons (em_ke0 B.ke_NotRows) (am_cons (em_ke0 B.ke_NotOrder) (am_cons (em_ke0 B.ke_NotRule) (am_cons (em_ke0 B.ke_NotInteger) (am_cons (em_ke0 B.ke_NotScan) am_nil))))))))))) (bm_cons (sm_set 0 nd rfl (Or.inl rfl) (em_bin ok_add (em_v 0) (em_lst (am_cons (em_ke0 B.ke_NotBound) (am_cons (em_ke0 B.ke_NotFormula) (am_cons (em_ke0 B.ke_NotDeed) (am_cons (em_ke0 B.ke_NotText) (am_cons (em_ke0 B.ke_NotBytes) (am_cons (em_ke0 B.ke_NotLine) (am_cons (em_ke0 B.ke_Missing) (am_cons (em_ke0 B.ke_Impossible) am_nil))))))))))) (bm_one (sm_ret (em_bin ok_add (em_v 0) (em_lst (am_cons (em_ke0 B.ke_TooLarge) (am_cons (em_ke0 B.ke_NothingDone) am_nil))))))))
theorem k__law_plain {P : Program} {w : World} {mg : Str → Option Value} {base : Heap} {T : Tab} (B : Bt P w mg T)  {f : Addr} {fd : FuncData} (F : Fun T.K "_law_plain" "_law_plain" s__law_plain f fd) (hm : mg "_law_plain" = some (.ref f)) : Kn P w mg base T "_law_plain" 1 F__law_plain :=
  ⟨f, FnP.of (dms := []) (fnG_of F sc__law_plain fun cdv A outer s H E g hr => d__law_plain B  hr) (F.binds (fun _ _ _ _ _ _ us hl => match us, hl with | [], _ => rfl)) .nil (fun _ _ => .nil), hm, F.kp⟩

abbrev s__law_worded : Stmt := top 37
theorem sc__law_worded : FnScope ["_law_text", "_law_found"] ["_law_text"] (defScope s__law_worded) := ⟨rfl, rfl, rfl, by decide +kernel, rfl, by decide +kernel, by decide +kernel⟩
def m__law_worded : MStm := (sSeq (sSet 1 (mLst (mCons (mExc "NotRow" (mCons (mv 0) mNil)) (mCons (mExc "NotTable" (mCons (mv 0) mNil)) (mCons (mExc "NotKey" (mCons (mv 0) mNil)) (mCons (mExc "NotKeys" (mCons (mv 0) mNil)) (mCons (mExc "NotRows" (mCons (mv 0) mNil)) (mCons (mExc "NotOrder" (mCons (mv 0) mNil)) (mCons (mExc "NotRule" (mCons (mv 0) mNil)) mNil))))))))) (sSeq (sSet 1 (m2 oAdd (mv 1) (mLst (mCons (mExc "NotInteger" (mCons (mv 0) mNil)) (mCons (mExc "NotScan" (mCons (mv 0) mNil)) (mCons (mExc "NotBound" (mCons (mv 0) mNil)) (mCons (mExc "NotFormula" (mCons (mv 0) mNil)) (mCons (mExc "NotDeed" (mCons (mv 0) mNil)) (mCons (mExc "NotText" (mCons (mv 0) mNil)) mNil))))))))) (sSeq (sSet 1 (m2 oAdd (mv 1) (mLst (mCons (mExc "NotBytes" (mCons (mv 0) mNil)) (mCons (mExc "NotLine" (mCons (mv 0) mNil)) (mCons (mExc "Missing" (mCons (mv 0) mNil)) (mCons (mExc "Impossible" (mCons (mv 0) mNil)) (mCons (mExc "TooLarge" (mCons (mv 0) mNil)) mNil)))))))) (sRet (m2 oAdd (mv 1) (mLst (mCons (mExc "NothingDone" (mCons (mv 0) mNil)) mNil)))))))
def F__law_worded : Fn := posF 1 [] (bodyF 1 2 m__law_worded)
theorem d__law_worded {P : Program} {w : World} {mg : Str → Option Value} {base : Heap} {T : Tab} (B : Bt P w mg T)  {f : Addr} {cdv : Value} {A : Around} {outer : List Env} {s : Shared} {H : Hp} {E : XK} {g : Gh} (hr : RoomG 0 (A.deeper (envOfC "_law_worded" (defScope s__law_worded) s.heap.objs.size f cdv))) :
    PMb (cAt P w mg base T ["_law_text", "_law_found"] "_law_worded" (defScope s__law_worded) f cdv A outer s H E g) (defBody s__law_worded) m__law_worded :=
  have nd := sc__law_worded.nd
  have hu := hr.toRoom.units
  have hu2 := room65 hr
  have hgd := hr.gs
  (bm_cons (sm_set 1 nd rfl (Or.inl rfl) (em_lst (am_cons (em_ke B.ke_NotRow (am_cons (em_v 0) am_nil)) (am_cons (em_ke B.ke_NotTable (am_cons (em_v 0) am_nil)) (am_cons (em_ke B.ke_NotKey (am_cons (em_v 0) am_nil)) (am_cons (em_ke B.ke_NotKeys (am_cons (em_v 0) am_nil)) (am_cons (em_ke B.ke_NotRows (am_cons (em_v 0) am_nil)) (am_cons (em_ke B.ke_NotOrder (am_cons (em_v 0) am_nil)) (am_cons (em_ke B.ke_NotRule (am_cons (em_v 0) am_nil)) am_nil))))))))) (bm_cons (sm_set 1 nd rfl (Or.inl rfl) (em_bin ok_add (em_v 1) (em_lst (am_cons (em_ke B.ke_NotInteger (am_cons (em_v 0) am_nil)) (am_cons (em_ke B.ke_NotScan (am_cons (em_v 0) am_nil)) (am_cons (em_ke B.ke_NotBound (am_cons (em_v 0) am_nil)) (am_cons (em_ke B.ke_NotFormula (am_cons (em_v 0) am_nil)) (am_cons (em_ke B.ke_NotDeed (am_cons (em_v 0) am_nil)) (am_cons (em_ke B.ke_NotText (am_cons (em_v 0) am_nil)) am_nil))))))))) (bm_cons (sm_set 1 nd rfl (Or.inl rfl) (em_bin ok_add (em_v 1) (em_lst (am_cons (em_ke B.ke_NotBytes (am_cons (em_v 0) am_nil)) (am_cons (em_ke B.ke_NotLine (am_cons (em_v 0) am_nil)) (am_cons (em_ke B.ke_Missing (am_cons (em_v 0) am_nil)) (am_cons (em_ke B.ke_Impossible (am_cons (em_v 0) am_nil)) (am_cons (em_ke B.ke_TooLarge (am_cons (em_v 0) am_nil)) am_nil)))))))) (bm_one (sm_ret (em_bin ok_add (em_v 1) (em_lst (am_cons (em_ke B.ke_NothingDone (am_cons (em_v 0) am_nil)) am_nil))))))))
theorem k__law_worded {P : Program} {w : World} {mg : Str → Option Value} {base : Heap} {T : Tab} (B : Bt P w mg T)  {f : Addr} {fd : FuncData} (F : Fun T.K "_law_worded" "_law_worded" s__law_worded f fd) (hm : mg "_law_worded" = some (.ref f)) : Kn P w mg base T "_law_worded" 1 F__law_worded :=
  ⟨f, FnP.of (dms := []) (fnG_of F sc__law_worded fun cdv A outer s H E g hr => d__law_worded B  hr) (F.binds (fun _ _ _ _ _ _ us hl => match us, hl with | [_], _ => rfl)) .nil (fun _ _ => .nil), hm, F.kp⟩

abbrev s_law : Stmt := top 38
theorem sc_law : FnScope ["_law_script", "_law_words", "_law_cell", "_law_pen_here", "_law_some", "_law_e"] ["_law_script"] (defScope s_law) := ⟨rfl, rfl, rfl, by decide +kernel, rfl, by decide +kernel, by decide +kernel⟩
def m_law : MStm := (sSeq (sSet 1 (mLst (mCons (mc (.str "row")) (mCons (mc (.str "table")) (mCons (mc (.str "key")) (mCons (mc (.str "keys")) (mCons (mc (.str "rows")) (mCons (mc (.str "order")) (mCons (mc (.str "rule")) (mCons (mc (.str "integer")) (mCons (mc (.str "scan")) (mCons (mc (.str "bound")) (mCons (mc (.str "formula")) (mCons (mc (.str "deed")) mNil)))))))))))))) (sSeq (sSet 1 (m2 oAdd (mv 1) (mLst (mCons (mc (.str "text")) (mCons (mc (.str "bytes")) (mCons (mc (.str "line")) (mCons (mc (.str "missing")) (mCons (mc (.str "impossible")) (mCons (mc (.str "large")) (mCons (mc (.str "nothing")) mNil)))))))))) (sSeq (sForI (iSeq (m2 oAdd (mLst (mCons (mFn (mCons (mv 0) (mCons (mc (.int 0)) mNil)) F__law_cell_at) mNil)) (mSl (mv 0) (oSome (mc (.int 1))) (oSome (mc (.int 3)))))) (gSet 2) (sSeq (sSet 3 (mFn (mCons (mv 2) mNil) F__law_pen)) (sSeq (sIf (mNot (mB (mFn (mCons (mFn (mCons (mv 3) mNil) F__law_key) (mCons (mFn (mCons (mv 3) mNil) F__law_key) mNil)) F__law_fields_right))) (sRet (mc (.bl false))) sNx) (sForI (iSeq (mLst (mCons (mFn mNil F__law_plain) (mCons (mFn (mCons (mFn (mCons (mv 3) (mCons (mLst (mCons (mc (.str "")) (mCons (mc (.str "a")) (mCons (mc (.str "no such row")) mNil)))) mNil)) F__law_pick) mNil) F__law_worded) mNil)))) (gSet 4) (sIf (mOr (mB (m2 (oEqD true) (mLc [5] (iSeq (mv 4)) (gSet 5) mYes (mFn (mCons (mv 5) mNil) F__law_word)) (mv 1))) (mNot (mB (mFn (mCons (mv 4) mNil) F__law_are_errors)))) (sRet (mc (.bl false))) sNx))))) (sRet (mc (.bl true))))))
def F_law : Fn := posF 1 [] (bodyF 1 6 m_law)
theorem d_law {P : Program} {w : World} {mg : Str → Option Value} {base : Heap} {T : Tab} (B : Bt P w mg T) (h__law_cell_at : Kn P w mg base T "_law_cell_at" 1 F__law_cell_at) (h__law_pen : Kn P w mg base T "_law_pen" 1 F__law_pen) (h__law_fields_right : Kn P w mg base T "_law_fields_right" 3 F__law_fields_right) (h__law_key : Kn P w mg base T "_law_key" 3 F__law_key) (h__law_worded : Kn P w mg base T "_law_worded" 1 F__law_worded) (h__law_pick : Kn P w mg base T "_law_pick" 2 F__law_pick) (h__law_plain : Kn P w mg base T "_law_plain" 1 F__law_plain) (h__law_word : Kn P w mg base T "_law_word" 1 F__law_word) (h__law_are_errors : Kn P w mg base T "_law_are_errors" 1 F__law_are_errors) {f : Addr} {cdv : Value} {A : Around} {outer : List Env} {s : Shared} {H : Hp} {E : XK} {g : Gh} (hr : RoomG 3 (A.deeper (envOfC "law" (defScope s_law) s.heap.objs.size f cdv))) :
    PMb (cAt P w mg base T ["_law_script", "_law_words", "_law_cell", "_law_pen_here", "_law_some", "_law_e"] "law" (defScope s_law) f cdv A outer s H E g) (defBody s_law) m_law :=
  have nd := sc_law.nd
  have hu := hr.toRoom.units
  have hu2 := room65 hr
  have hgd := hr.gs
  (bm_cons (sm_set 1 nd rfl (Or.inl rfl) (em_lst (am_cons em_str (am_cons em_str (am_cons em_str (am_cons em_str (am_cons em_str (am_cons em_str (am_cons em_str (am_cons em_str (am_cons em_str (am_cons em_str (am_cons em_str (am_cons em_str am_nil)))))))))))))) (bm_cons (sm_set 1 nd rfl (Or.inl rfl) (em_bin ok_add (em_v 1) (em_lst (am_cons em_str (am_cons em_str (am_cons em_str (am_cons em_str (am_cons em_str (am_cons em_str (am_cons em_str am_nil)))))))))) (bm_cons (sm_for (passes_of rfl) rfl (im_seq (em_bin ok_add (em_lst (am_cons (em_kn h__law_cell_at (hr.less (by decide)) cAt_takes (am_cons (em_v 0) (am_cons em_int am_nil))) am_nil)) (em_sl (em_v 0) (om_some em_int) (om_some em_int)))) (gm_name 2 nd rfl (Or.inl rfl)) (bm_cons (sm_set 3 nd rfl (Or.inl rfl) (em_kn h__law_pen (hr.less (by decide)) cAt_takes (am_cons (em_v 2) am_nil))) (bm_cons (sm_if (tm_not (tm_val (em_kn h__law_fields_right (hr.less (by decide)) cAt_takes (am_cons (em_kn h__law_key (hr.less (by decide)) cAt_takes (am_cons (em_v 3) am_nil)) (am_cons (em_kn h__law_key (hr.less (by decide)) cAt_takes (am_cons (em_v 3) am_nil)) am_nil))))) (bm_one (sm_ret em_bl)) bm_nil) (bm_one (sm_for (passes_of rfl) rfl (im_seq (em_lst (am_cons (em_kn0 h__law_plain (hr.less (by decide)) cAt_takes) (am_cons (em_kn h__law_worded (hr.less (by decide)) cAt_takes (am_cons (em_kn h__law_pick (hr.less (by decide)) cAt_takes (am_cons (em_v 3) (am_cons (em_lst (am_cons em_str (am_cons em_str (am_cons em_str am_nil)))) am_nil))) am_nil)) am_nil)))) (gm_name 4 nd rfl (Or.inl rfl)) (bm_one (sm_if (tm_w (wm_or (tm_cmp (ok_neD hu) (em_lc (own := [("_law_e", 5)]) rfl nd (im_seq (em_v 4)) (blkOk_by rfl) (fun _ _ _ _ _ _ => (gc_name 5 nd rfl (Or.inl rfl) (by decide))) (fun _ _ _ _ _ _ => tsm_nil) (fun _ _ _ _ _ _ => (em_kn h__law_word (hr.less (by decide)) takes0 (am_cons (em_v 5) am_nil)))) (em_v 1) (nomark _)) (wm_or1 (tm_not (tm_val (em_kn h__law_are_errors (hr.less (by decide)) cAt_takes (am_cons (em_v 4) am_nil))))))) (bm_one (sm_ret em_bl)) bm_nil))))))) (bm_one (sm_ret em_bl)))))
theorem k_law {P : Program} {w : World} {mg : Str → Option Value} {base : Heap} {T : Tab} (B : Bt P w mg T) (h__law_cell_at : Kn P w mg base T "_law_cell_at" 1 F__law_cell_at) (h__law_pen : Kn P w mg base T "_law_pen" 1 F__law_pen) (h__law_fields_right : Kn P w mg base T "_law_fields_right" 3 F__law_fields_right) (h__law_key : Kn P w mg base T "_law_key" 3 F__law_key) (h__law_worded : Kn P w mg base T "_law_worded" 1 F__law_worded) (h__law_pick : Kn P w mg base T "_law_pick" 2 F__law_pick) (h__law_plain : Kn P w mg base T "_law_plain" 1 F__law_plain) (h__law_word : Kn P w mg base T "_law_word" 1 F__law_word) (h__law_are_errors : Kn P w mg base T "_law_are_errors" 1 F__law_are_errors) {f : Addr} {fd : FuncData} (F : Fun T.K "law" "law" s_law f fd) (hm : mg "law" = some (.ref f)) : Kn P w mg base T "law" 4 F_law :=
  ⟨f, FnP.of (dms := []) (fnG_of F sc_law fun cdv A outer s H E g hr => d_law B h__law_cell_at h__law_pen h__law_fields_right h__law_key h__law_worded h__law_pick h__law_plain h__law_word h__law_are_errors hr) (F.binds (fun _ _ _ _ _ _ us hl => match us, hl with | [_], _ => rfl)) .nil (fun _ _ => .nil), hm, F.kp⟩

end Lw
namespace Lw
open L2 Ma PySem.Spec PySem PyProof.Rows
open PySem.W
def fns : List He.DefD := [⟨("_law_cell_at", none), "_law_cell_at", "_law_cell_at", defArgs s__law_cell_at, defBody s__law_cell_at, defScope s__law_cell_at, [], []⟩, ⟨("_law_pen", none), "_law_pen", "_law_pen", defArgs s__law_pen, defBody s__law_pen, defScope s__law_pen, [], []⟩, ⟨("_law_draw", none), "_law_draw", "_law_draw", defArgs s__law_draw, defBody s__law_draw, defScope s__law_draw, [], []⟩, ⟨("_law_pick", none), "_law_pick", "_law_pick", defArgs s__law_pick, defBody s__law_pick, defScope s__law_pick, [], []⟩, ⟨("_law_word", none), "_law_word", "_law_word", defArgs s__law_word, defBody s__law_word, defScope s__law_word, [], []⟩, ⟨("_law_key", none), "_law_key", "_law_key", defArgs s__law_key, defBody s__law_key, defScope s__law_key, [], []⟩, ⟨("_law_are_errors", none), "_law_are_errors", "_law_are_errors", defArgs s__law_are_errors, defBody s__law_are_errors, defScope s__law_are_errors, [], []⟩, ⟨("_law_fields_right", none), "_law_fields_right", "_law_fields_right", defArgs s__law_fields_right, defBody s__law_fields_right, defScope s__law_fields_right, [], []⟩, ⟨("_law_plain", none), "_law_plain", "_law_plain", defArgs s__law_plain, defBody s__law_plain, defScope s__law_plain, [], []⟩, ⟨("_law_worded", none), "_law_worded", "_law_worded", defArgs s__law_worded, defBody s__law_worded, defScope s__law_worded, [], []⟩, ⟨("law", none), "law", "law", defArgs s_law, defBody s_law, defScope s_law, [], []⟩]
def fas : List He.Fa := [.glo "_law_cell_at", .glo "_law_pen", .glo "_law_draw", .glo "_law_pick", .glo "_law_word", .glo "_law_key", .glo "_law_are_errors", .glo "_law_fields_right", .glo "_law_plain", .glo "_law_worded", .glo "law", .glo "Collision", .glo "Competing", .glo "Held", .glo "Impossible", .glo "Missing", .glo "NotBound", .glo "NotBytes", .glo "NotDeed", .glo "NotFormula", .glo "NotInteger", .glo "NotKey", .glo "NotKeys", .glo "NotLine", .glo "NotOrder", .glo "NotRow", .glo "NotRows", .glo "NotRule", .glo "NotScan", .glo "NotTable", .glo "NotText", .glo "NothingDone", .glo "Ringed", .glo "RowError", .glo "TooLarge", .glo "TooMany", .glo "Twice", .free "ValueError", .free "all", .free "int", .free "isinstance", .free "len", .free "max", .free "repr", .free "super"]
abbrev mt_Collision : Stmt := clsMeth (top 26) 0
abbrev di_Collision : IniD := ⟨"Collision", defArgs mt_Collision, defBody mt_Collision, defScope mt_Collision⟩
abbrev mt_Competing : Stmt := clsMeth (top 24) 0
abbrev di_Competing : IniD := ⟨"Competing", defArgs mt_Competing, defBody mt_Competing, defScope mt_Competing⟩
abbrev mt_Held : Stmt := clsMeth (top 22) 0
abbrev di_Held : IniD := ⟨"Held", defArgs mt_Held, defBody mt_Held, defScope mt_Held⟩
abbrev mt_Ringed : Stmt := clsMeth (top 25) 0
abbrev di_Ringed : IniD := ⟨"Ringed", defArgs mt_Ringed, defBody mt_Ringed, defScope mt_Ringed⟩
abbrev mt_TooMany : Stmt := clsMeth (top 23) 0
abbrev di_TooMany : IniD := ⟨"TooMany", defArgs mt_TooMany, defBody mt_TooMany, defScope mt_TooMany⟩
abbrev mt_Twice : Stmt := clsMeth (top 21) 0
abbrev di_Twice : IniD := ⟨"Twice", defArgs mt_Twice, defBody mt_Twice, defScope mt_Twice⟩
def nis : List IniD := [di_Collision, di_Competing, di_Held, di_Ringed, di_TooMany, di_Twice]
abbrev PP : Program := PySem.Challenge.rw_rowclash_k98_exceptions_by_hand.prog
def exL : List (PySem.W.Frag → Bool) := [fun K => exkB K (He.ga K "Impossible"), fun K => exkB K (He.ga K "Missing"), fun K => exkB K (He.ga K "NotBound"), fun K => exkB K (He.ga K "NotBytes"), fun K => exkB K (He.ga K "NotDeed"), fun K => exkB K (He.ga K "NotFormula"), fun K => exkB K (He.ga K "NotInteger"), fun K => exkB K (He.ga K "NotKey"), fun K => exkB K (He.ga K "NotKeys"), fun K => exkB K (He.ga K "NotLine"), fun K => exkB K (He.ga K "NotOrder"), fun K => exkB K (He.ga K "NotRow"), fun K => exkB K (He.ga K "NotRows"), fun K => exkB K (He.ga K "NotRule"), fun K => exkB K (He.ga K "NotScan"), fun K => exkB K (He.ga K "NotTable"), fun K => exkB K (He.ga K "NotText"), fun K => exkB K (He.ga K "NothingDone"), fun K => exkB K (He.ga K "TooLarge"), fun K => (XS.all fun c => excB K (He.ga K c)), fun K => isiB K CS mros BI, fun K => iniB PP K (He.ga K "Collision") (iniAd K "Collision"), fun K => stB K (He.ga K "Collision") "row", fun K => stB K (He.ga K "Collision") "holder", fun K => iniB PP K (He.ga K "Competing") (iniAd K "Competing"), fun K => stB K (He.ga K "Competing") "pair", fun K => iniB PP K (He.ga K "Held") (iniAd K "Held"), fun K => stB K (He.ga K "Held") "key", fun K => iniB PP K (He.ga K "Ringed") (iniAd K "Ringed"), fun K => stB K (He.ga K "Ringed") "ring", fun K => iniB PP K (He.ga K "TooMany") (iniAd K "TooMany"), fun K => stB K (He.ga K "TooMany") "many", fun K => stB K (He.ga K "TooMany") "most", fun K => iniB PP K (He.ga K "Twice") (iniAd K "Twice"), fun K => stB K (He.ga K "Twice") "key", fun K => eqb (findIn K (.ref (He.ga K "Collision")) "holder") (some none), fun K => eqb (findIn K (.ref (He.ga K "Twice")) "key") (some none), fun K => eqb (findIn K (.ref (He.ga K "Held")) "key") (some none), fun K => eqb (findIn K (.ref (He.ga K "TooMany")) "many") (some none), fun K => eqb (findIn K (.ref (He.ga K "TooMany")) "most") (some none), fun K => eqb (findIn K (.ref (He.ga K "Competing")) "pair") (some none), fun K => eqb (findIn K (.ref (He.ga K "Ringed")) "ring") (some none), fun K => eqb (findIn K (.ref (He.ga K "Collision")) "row") (some none)]
def exs (K : PySem.W.Frag) : Bool := exL.all fun b => b K
abbrev TT (K : PySem.W.Frag) : Tab := ⟨K, adOf K CS⟩
theorem ex_at {K : PySem.W.Frag} (h : exs K = true) (i : Nat) {b : PySem.W.Frag → Bool} (e : exL[i]? = some b) : b K = true := List.all_eq_true.mp h b (List.mem_of_getElem? e)
theorem xs_at {K : PySem.W.Frag} (h : exs K = true) {c : Str} (hc : c ∈ XS) : ExcC K (He.ga K c) ∧ XfC K (He.ga K c) := excB_ok (List.all_eq_true.mp (ex_at h 19 rfl) c hc)
theorem row_Collision (fd : FuncData) (hs : fd.scope = defScope mt_Collision) (f : Addr) : RowS fd f (jsOf mt_Collision) (rp mt_Collision 0) (rp mt_Collision 1) (rp mt_Collision 2) (rp mt_Collision 3) (rp mt_Collision 4) := by
  cases fd
  cases hs
  exact ⟨fun L => ⟨_, rfl⟩, fun L => rfl, fun L => rfl, fun L => rfl⟩
theorem call_Collision {w : World} {K : PySem.W.Frag} {mg mb : Str → Option Value} (h : iniB PP K (He.ga K "Collision") (iniAd K "Collision") = true) (hw : iniW K "Collision" = (di_Collision).val) (hmg : mg "super" = none) (hmb : mb "super" = some (.type "super")) (st0 : stB K (He.ga K "Collision") "row" = true) (st1 : stB K (He.ga K "Collision") "holder" = true) :
    keepIn K (.ref (He.ga K "Collision")) = true ∧ ExCall PP w K mg mb (He.ga K "Collision") ["row", "holder"] [.inl "row ", .inr 0, .inl " collides with row ", .inr 1] := by
  obtain ⟨kp, cda, cc, fd, F, e1, e2, e3⟩ := iniB_ok (d := di_Collision) (ps := ["self", "row", "holder"]) h hw (by decide +kernel) hmg hmb rfl rfl rfl (by decide +kernel) (by decide +kernel) (by decide +kernel) (by decide +kernel) (fun fd h h2 us hl => by cases fd; cases h; cases h2; match us, hl with | [_, _, _], _ => rfl)
  refine ⟨kp, exCall_two F e2 (hself_of e1 rfl) (by decide) (by decide) (by decide) (by decide) (row_Collision fd e3 _) (stB_ok st0) (stB_ok st1) ?_ ?_ (by decide) (by decide) (by decide) (.txt (.val rfl (by decide) (.txt (.val rfl (by decide) PtIs.nil))))⟩
  · intro L; cases fd; cases e3; rfl
  · intro L; cases fd; cases e3; rfl
theorem row_Competing (fd : FuncData) (hs : fd.scope = defScope mt_Competing) (f : Addr) : RowS fd f (jsOf mt_Competing) (rp mt_Competing 0) (rp mt_Competing 1) (rp mt_Competing 2) (rp mt_Competing 3) (rp mt_Competing 4) := by
  cases fd
  cases hs
  exact ⟨fun L => ⟨_, rfl⟩, fun L => rfl, fun L => rfl, fun L => rfl⟩
theorem call_Competing {w : World} {K : PySem.W.Frag} {mg mb : Str → Option Value} (h : iniB PP K (He.ga K "Competing") (iniAd K "Competing") = true) (hw : iniW K "Competing" = (di_Competing).val) (hmg : mg "super" = none) (hmb : mb "super" = some (.type "super")) (st0 : stB K (He.ga K "Competing") "pair" = true) :
    keepIn K (.ref (He.ga K "Competing")) = true ∧ ExCall PP w K mg mb (He.ga K "Competing") ["pair"] [.inl "these rows compete: ", .inr 0] := by
  obtain ⟨kp, cda, cc, fd, F, e1, e2, e3⟩ := iniB_ok (d := di_Competing) (ps := ["self", "pair"]) h hw (by decide +kernel) hmg hmb rfl rfl rfl (by decide +kernel) (by decide +kernel) (by decide +kernel) (by decide +kernel) (fun fd h h2 us hl => by cases fd; cases h; cases h2; match us, hl with | [_, _], _ => rfl)
  refine ⟨kp, exCall_one F e2 (hself_of e1 rfl) (by decide) (row_Competing fd e3 _) (stB_ok st0) ?_ (by decide) (by decide) (.txt (.val rfl (by decide) PtIs.nil))⟩
  · intro L; cases fd; cases e3; rfl
theorem row_Held (fd : FuncData) (hs : fd.scope = defScope mt_Held) (f : Addr) : RowS fd f (jsOf mt_Held) (rp mt_Held 0) (rp mt_Held 1) (rp mt_Held 2) (rp mt_Held 3) (rp mt_Held 4) := by
  cases fd
  cases hs
  exact ⟨fun L => ⟨_, rfl⟩, fun L => rfl, fun L => rfl, fun L => rfl⟩
theorem call_Held {w : World} {K : PySem.W.Frag} {mg mb : Str → Option Value} (h : iniB PP K (He.ga K "Held") (iniAd K "Held") = true) (hw : iniW K "Held" = (di_Held).val) (hmg : mg "super" = none) (hmb : mb "super" = some (.type "super")) (st0 : stB K (He.ga K "Held") "key" = true) :
    keepIn K (.ref (He.ga K "Held")) = true ∧ ExCall PP w K mg mb (He.ga K "Held") ["key"] [.inl "the key ", .inr 0, .inl " is held already"] := by
  obtain ⟨kp, cda, cc, fd, F, e1, e2, e3⟩ := iniB_ok (d := di_Held) (ps := ["self", "key"]) h hw (by decide +kernel) hmg hmb rfl rfl rfl (by decide +kernel) (by decide +kernel) (by decide +kernel) (by decide +kernel) (fun fd h h2 us hl => by cases fd; cases h; cases h2; match us, hl with | [_, _], _ => rfl)
  refine ⟨kp, exCall_one F e2 (hself_of e1 rfl) (by decide) (row_Held fd e3 _) (stB_ok st0) ?_ (by decide) (by decide) (.txt (.val rfl (by decide) (.txt PtIs.nil)))⟩
  · intro L; cases fd; cases e3; rfl
theorem row_Ringed (fd : FuncData) (hs : fd.scope = defScope mt_Ringed) (f : Addr) : RowS fd f (jsOf mt_Ringed) (rp mt_Ringed 0) (rp mt_Ringed 1) (rp mt_Ringed 2) (rp mt_Ringed 3) (rp mt_Ringed 4) := by
  cases fd
  cases hs
  exact ⟨fun L => ⟨_, rfl⟩, fun L => rfl, fun L => rfl, fun L => rfl⟩
theorem call_Ringed {w : World} {K : PySem.W.Frag} {mg mb : Str → Option Value} (h : iniB PP K (He.ga K "Ringed") (iniAd K "Ringed") = true) (hw : iniW K "Ringed" = (di_Ringed).val) (hmg : mg "super" = none) (hmb : mb "super" = some (.type "super")) (st0 : stB K (He.ga K "Ringed") "ring" = true) :
    keepIn K (.ref (He.ga K "Ringed")) = true ∧ ExCall PP w K mg mb (He.ga K "Ringed") ["ring"] [.inl "these rows wait for each other: ", .inr 0] := by
  obtain ⟨kp, cda, cc, fd, F, e1, e2, e3⟩ := iniB_ok (d := di_Ringed) (ps := ["self", "ring"]) h hw (by decide +kernel) hmg hmb rfl rfl rfl (by decide +kernel) (by decide +kernel) (by decide +kernel) (by decide +kernel) (fun fd h h2 us hl => by cases fd; cases h; cases h2; match us, hl with | [_, _], _ => rfl)
  refine ⟨kp, exCall_one F e2 (hself_of e1 rfl) (by decide) (row_Ringed fd e3 _) (stB_ok st0) ?_ (by decide) (by decide) (.txt (.val rfl (by decide) PtIs.nil))⟩
  · intro L; cases fd; cases e3; rfl
theorem row_TooMany (fd : FuncData) (hs : fd.scope = defScope mt_TooMany) (f : Addr) : RowS fd f (jsOf mt_TooMany) (rp mt_TooMany 0) (rp mt_TooMany 1) (rp mt_TooMany 2) (rp mt_TooMany 3) (rp mt_TooMany 4) := by
  cases fd
  cases hs
  exact ⟨fun L => ⟨_, rfl⟩, fun L => rfl, fun L => rfl, fun L => rfl⟩
theorem call_TooMany {w : World} {K : PySem.W.Frag} {mg mb : Str → Option Value} (h : iniB PP K (He.ga K "TooMany") (iniAd K "TooMany") = true) (hw : iniW K "TooMany" = (di_TooMany).val) (hmg : mg "super" = none) (hmb : mb "super" = some (.type "super")) (st0 : stB K (He.ga K "TooMany") "many" = true) (st1 : stB K (He.ga K "TooMany") "most" = true) :
    keepIn K (.ref (He.ga K "TooMany")) = true ∧ ExCall PP w K mg mb (He.ga K "TooMany") ["many", "most"] [.inr 0, .inl " are too many, ", .inr 1, .inl " is the most"] := by
  obtain ⟨kp, cda, cc, fd, F, e1, e2, e3⟩ := iniB_ok (d := di_TooMany) (ps := ["self", "many", "most"]) h hw (by decide +kernel) hmg hmb rfl rfl rfl (by decide +kernel) (by decide +kernel) (by decide +kernel) (by decide +kernel) (fun fd h h2 us hl => by cases fd; cases h; cases h2; match us, hl with | [_, _, _], _ => rfl)
  refine ⟨kp, exCall_two F e2 (hself_of e1 rfl) (by decide) (by decide) (by decide) (by decide) (row_TooMany fd e3 _) (stB_ok st0) (stB_ok st1) ?_ ?_ (by decide) (by decide) (by decide) (.val rfl (by decide) (.txt (.val rfl (by decide) (.txt PtIs.nil))))⟩
  · intro L; cases fd; cases e3; rfl
  · intro L; cases fd; cases e3; rfl
theorem row_Twice (fd : FuncData) (hs : fd.scope = defScope mt_Twice) (f : Addr) : RowS fd f (jsOf mt_Twice) (rp mt_Twice 0) (rp mt_Twice 1) (rp mt_Twice 2) (rp mt_Twice 3) (rp mt_Twice 4) := by
  cases fd
  cases hs
  exact ⟨fun L => ⟨_, rfl⟩, fun L => rfl, fun L => rfl, fun L => rfl⟩
theorem call_Twice {w : World} {K : PySem.W.Frag} {mg mb : Str → Option Value} (h : iniB PP K (He.ga K "Twice") (iniAd K "Twice") = true) (hw : iniW K "Twice" = (di_Twice).val) (hmg : mg "super" = none) (hmb : mb "super" = some (.type "super")) (st0 : stB K (He.ga K "Twice") "key" = true) :
    keepIn K (.ref (He.ga K "Twice")) = true ∧ ExCall PP w K mg mb (He.ga K "Twice") ["key"] [.inl "two rows have the key ", .inr 0] := by
  obtain ⟨kp, cda, cc, fd, F, e1, e2, e3⟩ := iniB_ok (d := di_Twice) (ps := ["self", "key"]) h hw (by decide +kernel) hmg hmb rfl rfl rfl (by decide +kernel) (by decide +kernel) (by decide +kernel) (by decide +kernel) (fun fd h h2 us hl => by cases fd; cases h; cases h2; match us, hl with | [_, _], _ => rfl)
  refine ⟨kp, exCall_one F e2 (hself_of e1 rfl) (by decide) (row_Twice fd e3 _) (stB_ok st0) ?_ (by decide) (by decide) (.txt (.val rfl (by decide) PtIs.nil))⟩
  · intro L; cases fd; cases e3; rfl
theorem bt_of {w : World} {K : PySem.W.Frag} {h : Heap} {mg : Str → Option Value} (X : K.In h) (G : h.Ns mainGlobals mg) (c : SaysM fas fns nis exs K) : Bt PP w mg (TT K) where
  b_ValueError := He.free_ok X G (c.d.fact 37 (f := .free "ValueError") rfl)
  b_all := He.free_ok X G (c.d.fact 38 (f := .free "all") rfl)
  b_int := He.free_ok X G (c.d.fact 39 (f := .free "int") rfl)
  b_isinstance := He.free_ok X G (c.d.fact 40 (f := .free "isinstance") rfl)
  b_len := He.free_ok X G (c.d.fact 41 (f := .free "len") rfl)
  b_max := He.free_ok X G (c.d.fact 42 (f := .free "max") rfl)
  b_repr := He.free_ok X G (c.d.fact 43 (f := .free "repr") rfl)
  kc_Collision := ⟨_, adOf_mem (K := K) (cs := CS) (c := "Collision") (by decide +kernel), He.glo_ok X G (c.d.fact 11 (f := .glo "Collision") rfl)⟩
  kc_Competing := ⟨_, adOf_mem (K := K) (cs := CS) (c := "Competing") (by decide +kernel), He.glo_ok X G (c.d.fact 12 (f := .glo "Competing") rfl)⟩
  kc_Held := ⟨_, adOf_mem (K := K) (cs := CS) (c := "Held") (by decide +kernel), He.glo_ok X G (c.d.fact 13 (f := .glo "Held") rfl)⟩
  kc_Impossible := ⟨_, adOf_mem (K := K) (cs := CS) (c := "Impossible") (by decide +kernel), He.glo_ok X G (c.d.fact 14 (f := .glo "Impossible") rfl)⟩
  kc_Missing := ⟨_, adOf_mem (K := K) (cs := CS) (c := "Missing") (by decide +kernel), He.glo_ok X G (c.d.fact 15 (f := .glo "Missing") rfl)⟩
  kc_NotBound := ⟨_, adOf_mem (K := K) (cs := CS) (c := "NotBound") (by decide +kernel), He.glo_ok X G (c.d.fact 16 (f := .glo "NotBound") rfl)⟩
  kc_NotBytes := ⟨_, adOf_mem (K := K) (cs := CS) (c := "NotBytes") (by decide +kernel), He.glo_ok X G (c.d.fact 17 (f := .glo "NotBytes") rfl)⟩
  kc_NotDeed := ⟨_, adOf_mem (K := K) (cs := CS) (c := "NotDeed") (by decide +kernel), He.glo_ok X G (c.d.fact 18 (f := .glo "NotDeed") rfl)⟩
  kc_NotFormula := ⟨_, adOf_mem (K := K) (cs := CS) (c := "NotFormula") (by decide +kernel), He.glo_ok X G (c.d.fact 19 (f := .glo "NotFormula") rfl)⟩
  kc_NotInteger := ⟨_, adOf_mem (K := K) (cs := CS) (c := "NotInteger") (by decide +kernel), He.glo_ok X G (c.d.fact 20 (f := .glo "NotInteger") rfl)⟩
  kc_NotKey := ⟨_, adOf_mem (K := K) (cs := CS) (c := "NotKey") (by decide +kernel), He.glo_ok X G (c.d.fact 21 (f := .glo "NotKey") rfl)⟩
  kc_NotKeys := ⟨_, adOf_mem (K := K) (cs := CS) (c := "NotKeys") (by decide +kernel), He.glo_ok X G (c.d.fact 22 (f := .glo "NotKeys") rfl)⟩
  kc_NotLine := ⟨_, adOf_mem (K := K) (cs := CS) (c := "NotLine") (by decide +kernel), He.glo_ok X G (c.d.fact 23 (f := .glo "NotLine") rfl)⟩
  kc_NotOrder := ⟨_, adOf_mem (K := K) (cs := CS) (c := "NotOrder") (by decide +kernel), He.glo_ok X G (c.d.fact 24 (f := .glo "NotOrder") rfl)⟩
  kc_NotRow := ⟨_, adOf_mem (K := K) (cs := CS) (c := "NotRow") (by decide +kernel), He.glo_ok X G (c.d.fact 25 (f := .glo "NotRow") rfl)⟩
  kc_NotRows := ⟨_, adOf_mem (K := K) (cs := CS) (c := "NotRows") (by decide +kernel), He.glo_ok X G (c.d.fact 26 (f := .glo "NotRows") rfl)⟩
  kc_NotRule := ⟨_, adOf_mem (K := K) (cs := CS) (c := "NotRule") (by decide +kernel), He.glo_ok X G (c.d.fact 27 (f := .glo "NotRule") rfl)⟩
  kc_NotScan := ⟨_, adOf_mem (K := K) (cs := CS) (c := "NotScan") (by decide +kernel), He.glo_ok X G (c.d.fact 28 (f := .glo "NotScan") rfl)⟩
  kc_NotTable := ⟨_, adOf_mem (K := K) (cs := CS) (c := "NotTable") (by decide +kernel), He.glo_ok X G (c.d.fact 29 (f := .glo "NotTable") rfl)⟩
  kc_NotText := ⟨_, adOf_mem (K := K) (cs := CS) (c := "NotText") (by decide +kernel), He.glo_ok X G (c.d.fact 30 (f := .glo "NotText") rfl)⟩
  kc_NothingDone := ⟨_, adOf_mem (K := K) (cs := CS) (c := "NothingDone") (by decide +kernel), He.glo_ok X G (c.d.fact 31 (f := .glo "NothingDone") rfl)⟩
  kc_Ringed := ⟨_, adOf_mem (K := K) (cs := CS) (c := "Ringed") (by decide +kernel), He.glo_ok X G (c.d.fact 32 (f := .glo "Ringed") rfl)⟩
  kc_RowError := ⟨_, adOf_mem (K := K) (cs := CS) (c := "RowError") (by decide +kernel), He.glo_ok X G (c.d.fact 33 (f := .glo "RowError") rfl)⟩
  kc_TooLarge := ⟨_, adOf_mem (K := K) (cs := CS) (c := "TooLarge") (by decide +kernel), He.glo_ok X G (c.d.fact 34 (f := .glo "TooLarge") rfl)⟩
  kc_TooMany := ⟨_, adOf_mem (K := K) (cs := CS) (c := "TooMany") (by decide +kernel), He.glo_ok X G (c.d.fact 35 (f := .glo "TooMany") rfl)⟩
  kc_Twice := ⟨_, adOf_mem (K := K) (cs := CS) (c := "Twice") (by decide +kernel), He.glo_ok X G (c.d.fact 36 (f := .glo "Twice") rfl)⟩
  ke_Impossible := ⟨_, adOf_mem (K := K) (cs := CS) (c := "Impossible") (by decide +kernel), He.glo_ok X G (c.d.fact 14 (f := .glo "Impossible") rfl), exkB_ok (ex_at c.more 0 rfl)⟩
  ke_Missing := ⟨_, adOf_mem (K := K) (cs := CS) (c := "Missing") (by decide +kernel), He.glo_ok X G (c.d.fact 15 (f := .glo "Missing") rfl), exkB_ok (ex_at c.more 1 rfl)⟩
  ke_NotBound := ⟨_, adOf_mem (K := K) (cs := CS) (c := "NotBound") (by decide +kernel), He.glo_ok X G (c.d.fact 16 (f := .glo "NotBound") rfl), exkB_ok (ex_at c.more 2 rfl)⟩
  ke_NotBytes := ⟨_, adOf_mem (K := K) (cs := CS) (c := "NotBytes") (by decide +kernel), He.glo_ok X G (c.d.fact 17 (f := .glo "NotBytes") rfl), exkB_ok (ex_at c.more 3 rfl)⟩
  ke_NotDeed := ⟨_, adOf_mem (K := K) (cs := CS) (c := "NotDeed") (by decide +kernel), He.glo_ok X G (c.d.fact 18 (f := .glo "NotDeed") rfl), exkB_ok (ex_at c.more 4 rfl)⟩
  ke_NotFormula := ⟨_, adOf_mem (K := K) (cs := CS) (c := "NotFormula") (by decide +kernel), He.glo_ok X G (c.d.fact 19 (f := .glo "NotFormula") rfl), exkB_ok (ex_at c.more 5 rfl)⟩
  ke_NotInteger := ⟨_, adOf_mem (K := K) (cs := CS) (c := "NotInteger") (by decide +kernel), He.glo_ok X G (c.d.fact 20 (f := .glo "NotInteger") rfl), exkB_ok (ex_at c.more 6 rfl)⟩
  ke_NotKey := ⟨_, adOf_mem (K := K) (cs := CS) (c := "NotKey") (by decide +kernel), He.glo_ok X G (c.d.fact 21 (f := .glo "NotKey") rfl), exkB_ok (ex_at c.more 7 rfl)⟩
  ke_NotKeys := ⟨_, adOf_mem (K := K) (cs := CS) (c := "NotKeys") (by decide +kernel), He.glo_ok X G (c.d.fact 22 (f := .glo "NotKeys") rfl), exkB_ok (ex_at c.more 8 rfl)⟩
  ke_NotLine := ⟨_, adOf_mem (K := K) (cs := CS) (c := "NotLine") (by decide +kernel), He.glo_ok X G (c.d.fact 23 (f := .glo "NotLine") rfl), exkB_ok (ex_at c.more 9 rfl)⟩
  ke_NotOrder := ⟨_, adOf_mem (K := K) (cs := CS) (c := "NotOrder") (by decide +kernel), He.glo_ok X G (c.d.fact 24 (f := .glo "NotOrder") rfl), exkB_ok (ex_at c.more 10 rfl)⟩
  ke_NotRow := ⟨_, adOf_mem (K := K) (cs := CS) (c := "NotRow") (by decide +kernel), He.glo_ok X G (c.d.fact 25 (f := .glo "NotRow") rfl), exkB_ok (ex_at c.more 11 rfl)⟩
  ke_NotRows := ⟨_, adOf_mem (K := K) (cs := CS) (c := "NotRows") (by decide +kernel), He.glo_ok X G (c.d.fact 26 (f := .glo "NotRows") rfl), exkB_ok (ex_at c.more 12 rfl)⟩
  ke_NotRule := ⟨_, adOf_mem (K := K) (cs := CS) (c := "NotRule") (by decide +kernel), He.glo_ok X G (c.d.fact 27 (f := .glo "NotRule") rfl), exkB_ok (ex_at c.more 13 rfl)⟩
  ke_NotScan := ⟨_, adOf_mem (K := K) (cs := CS) (c := "NotScan") (by decide +kernel), He.glo_ok X G (c.d.fact 28 (f := .glo "NotScan") rfl), exkB_ok (ex_at c.more 14 rfl)⟩
  ke_NotTable := ⟨_, adOf_mem (K := K) (cs := CS) (c := "NotTable") (by decide +kernel), He.glo_ok X G (c.d.fact 29 (f := .glo "NotTable") rfl), exkB_ok (ex_at c.more 15 rfl)⟩
  ke_NotText := ⟨_, adOf_mem (K := K) (cs := CS) (c := "NotText") (by decide +kernel), He.glo_ok X G (c.d.fact 30 (f := .glo "NotText") rfl), exkB_ok (ex_at c.more 16 rfl)⟩
  ke_NothingDone := ⟨_, adOf_mem (K := K) (cs := CS) (c := "NothingDone") (by decide +kernel), He.glo_ok X G (c.d.fact 31 (f := .glo "NothingDone") rfl), exkB_ok (ex_at c.more 17 rfl)⟩
  ke_TooLarge := ⟨_, adOf_mem (K := K) (cs := CS) (c := "TooLarge") (by decide +kernel), He.glo_ok X G (c.d.fact 34 (f := .glo "TooLarge") rfl), exkB_ok (ex_at c.more 18 rfl)⟩
  ki_Collision := ⟨_, adOf_mem (K := K) (cs := CS) (c := "Collision") (by decide +kernel), He.glo_ok X G (c.d.fact 11 (f := .glo "Collision") rfl), (call_Collision (w := w) (mg := mg) (mb := bootBuiltins) (ex_at c.more 21 rfl) (c.ini (d := di_Collision) (by simp [nis])) (He.free_ok X G (c.d.fact 44 (f := .free "super") rfl)) (by first | rfl | decide +kernel) (ex_at c.more 22 rfl) (ex_at c.more 23 rfl)).1, fun mb hmb => (call_Collision (w := w) (mg := mg) (mb := mb) (ex_at c.more 21 rfl) (c.ini (d := di_Collision) (by simp [nis])) (He.free_ok X G (c.d.fact 44 (f := .free "super") rfl)) ((hmb _ (by decide)).trans (by first | rfl | decide +kernel)) (ex_at c.more 22 rfl) (ex_at c.more 23 rfl)).2⟩
  ki_Competing := ⟨_, adOf_mem (K := K) (cs := CS) (c := "Competing") (by decide +kernel), He.glo_ok X G (c.d.fact 12 (f := .glo "Competing") rfl), (call_Competing (w := w) (mg := mg) (mb := bootBuiltins) (ex_at c.more 24 rfl) (c.ini (d := di_Competing) (by simp [nis])) (He.free_ok X G (c.d.fact 44 (f := .free "super") rfl)) (by first | rfl | decide +kernel) (ex_at c.more 25 rfl)).1, fun mb hmb => (call_Competing (w := w) (mg := mg) (mb := mb) (ex_at c.more 24 rfl) (c.ini (d := di_Competing) (by simp [nis])) (He.free_ok X G (c.d.fact 44 (f := .free "super") rfl)) ((hmb _ (by decide)).trans (by first | rfl | decide +kernel)) (ex_at c.more 25 rfl)).2⟩
  ki_Held := ⟨_, adOf_mem (K := K) (cs := CS) (c := "Held") (by decide +kernel), He.glo_ok X G (c.d.fact 13 (f := .glo "Held") rfl), (call_Held (w := w) (mg := mg) (mb := bootBuiltins) (ex_at c.more 26 rfl) (c.ini (d := di_Held) (by simp [nis])) (He.free_ok X G (c.d.fact 44 (f := .free "super") rfl)) (by first | rfl | decide +kernel) (ex_at c.more 27 rfl)).1, fun mb hmb => (call_Held (w := w) (mg := mg) (mb := mb) (ex_at c.more 26 rfl) (c.ini (d := di_Held) (by simp [nis])) (He.free_ok X G (c.d.fact 44 (f := .free "super") rfl)) ((hmb _ (by decide)).trans (by first | rfl | decide +kernel)) (ex_at c.more 27 rfl)).2⟩
  ki_Ringed := ⟨_, adOf_mem (K := K) (cs := CS) (c := "Ringed") (by decide +kernel), He.glo_ok X G (c.d.fact 32 (f := .glo "Ringed") rfl), (call_Ringed (w := w) (mg := mg) (mb := bootBuiltins) (ex_at c.more 28 rfl) (c.ini (d := di_Ringed) (by simp [nis])) (He.free_ok X G (c.d.fact 44 (f := .free "super") rfl)) (by first | rfl | decide +kernel) (ex_at c.more 29 rfl)).1, fun mb hmb => (call_Ringed (w := w) (mg := mg) (mb := mb) (ex_at c.more 28 rfl) (c.ini (d := di_Ringed) (by simp [nis])) (He.free_ok X G (c.d.fact 44 (f := .free "super") rfl)) ((hmb _ (by decide)).trans (by first | rfl | decide +kernel)) (ex_at c.more 29 rfl)).2⟩
  ki_TooMany := ⟨_, adOf_mem (K := K) (cs := CS) (c := "TooMany") (by decide +kernel), He.glo_ok X G (c.d.fact 35 (f := .glo "TooMany") rfl), (call_TooMany (w := w) (mg := mg) (mb := bootBuiltins) (ex_at c.more 30 rfl) (c.ini (d := di_TooMany) (by simp [nis])) (He.free_ok X G (c.d.fact 44 (f := .free "super") rfl)) (by first | rfl | decide +kernel) (ex_at c.more 31 rfl) (ex_at c.more 32 rfl)).1, fun mb hmb => (call_TooMany (w := w) (mg := mg) (mb := mb) (ex_at c.more 30 rfl) (c.ini (d := di_TooMany) (by simp [nis])) (He.free_ok X G (c.d.fact 44 (f := .free "super") rfl)) ((hmb _ (by decide)).trans (by first | rfl | decide +kernel)) (ex_at c.more 31 rfl) (ex_at c.more 32 rfl)).2⟩
  ki_Twice := ⟨_, adOf_mem (K := K) (cs := CS) (c := "Twice") (by decide +kernel), He.glo_ok X G (c.d.fact 36 (f := .glo "Twice") rfl), (call_Twice (w := w) (mg := mg) (mb := bootBuiltins) (ex_at c.more 33 rfl) (c.ini (d := di_Twice) (by simp [nis])) (He.free_ok X G (c.d.fact 44 (f := .free "super") rfl)) (by first | rfl | decide +kernel) (ex_at c.more 34 rfl)).1, fun mb hmb => (call_Twice (w := w) (mg := mg) (mb := mb) (ex_at c.more 33 rfl) (c.ini (d := di_Twice) (by simp [nis])) (He.free_ok X G (c.d.fact 44 (f := .free "super") rfl)) ((hmb _ (by decide)).trans (by first | rfl | decide +kernel)) (ex_at c.more 34 rfl)).2⟩
  f_holder := ⟨fun c hc => by simp at hc, fun d hd A e => by
    have e : adOf K CS d = some A := e
    rw [adOf_at e]
    simp only [List.mem_cons, List.not_mem_nil, or_false] at hd
    rcases hd with rfl
    · exact ⟨(xs_at c.more (by decide +kernel)).2, eqb_ok (ex_at c.more 35 rfl)⟩⟩
  f_key := ⟨fun c hc => by simp at hc, fun d hd A e => by
    have e : adOf K CS d = some A := e
    rw [adOf_at e]
    simp only [List.mem_cons, List.not_mem_nil, or_false] at hd
    rcases hd with rfl | rfl
    · exact ⟨(xs_at c.more (by decide +kernel)).2, eqb_ok (ex_at c.more 36 rfl)⟩
    · exact ⟨(xs_at c.more (by decide +kernel)).2, eqb_ok (ex_at c.more 37 rfl)⟩⟩
  f_many := ⟨fun c hc => by simp at hc, fun d hd A e => by
    have e : adOf K CS d = some A := e
    rw [adOf_at e]
    simp only [List.mem_cons, List.not_mem_nil, or_false] at hd
    rcases hd with rfl
    · exact ⟨(xs_at c.more (by decide +kernel)).2, eqb_ok (ex_at c.more 38 rfl)⟩⟩
  f_most := ⟨fun c hc => by simp at hc, fun d hd A e => by
    have e : adOf K CS d = some A := e
    rw [adOf_at e]
    simp only [List.mem_cons, List.not_mem_nil, or_false] at hd
    rcases hd with rfl
    · exact ⟨(xs_at c.more (by decide +kernel)).2, eqb_ok (ex_at c.more 39 rfl)⟩⟩
  f_pair := ⟨fun c hc => by simp at hc, fun d hd A e => by
    have e : adOf K CS d = some A := e
    rw [adOf_at e]
    simp only [List.mem_cons, List.not_mem_nil, or_false] at hd
    rcases hd with rfl
    · exact ⟨(xs_at c.more (by decide +kernel)).2, eqb_ok (ex_at c.more 40 rfl)⟩⟩
  f_ring := ⟨fun c hc => by simp at hc, fun d hd A e => by
    have e : adOf K CS d = some A := e
    rw [adOf_at e]
    simp only [List.mem_cons, List.not_mem_nil, or_false] at hd
    rcases hd with rfl
    · exact ⟨(xs_at c.more (by decide +kernel)).2, eqb_ok (ex_at c.more 41 rfl)⟩⟩
  f_row := ⟨fun c hc => by simp at hc, fun d hd A e => by
    have e : adOf K CS d = some A := e
    rw [adOf_at e]
    simp only [List.mem_cons, List.not_mem_nil, or_false] at hd
    rcases hd with rfl
    · exact ⟨(xs_at c.more (by decide +kernel)).2, eqb_ok (ex_at c.more 42 rfl)⟩⟩
  x := ⟨fun c hc => by simp at hc, fun d hd A e => by
    have e : adOf K CS d = some A := e
    rw [adOf_at e]
    exact (xs_at c.more hd).1, isiB_ok (ex_at c.more 20 rfl)⟩
theorem fun_at {K : PySem.W.Frag} (c : SaysM fas fns nis exs K) (i : Nat) {d : He.DefD} (h : fns[i]? = some d := by rfl) : ∃ fd, FunD K d.name d.qual d.params d.body d.scope (d.dvs K) (d.kws K) (He.fAd K d.at_) fd := c.d.def_ i h
theorem law_kn {w : World} {K : PySem.W.Frag} {h base : Heap} {mg : Str → Option Value} (X : K.In h) (G : h.Ns mainGlobals mg) (c : SaysM fas fns nis exs K) : Kn PP w mg base (TT K) "law" 4 F_law := by
  have B := bt_of (w := w) X G c
  obtain ⟨fd0, f0⟩ := fun_at c 0
  have h__law_cell_at := k__law_cell_at (w := w) (base := base) B  (He5.fun_of f0) (He.glo_ok X G (c.d.fact 0 (f := .glo "_law_cell_at") rfl))
  obtain ⟨fd1, f1⟩ := fun_at c 1
  have h__law_pen := k__law_pen (w := w) (base := base) B  (He5.fun_of f1) (He.glo_ok X G (c.d.fact 1 (f := .glo "_law_pen") rfl))
  obtain ⟨fd2, f2⟩ := fun_at c 2
  have h__law_draw := k__law_draw (w := w) (base := base) B  (He5.fun_of f2) (He.glo_ok X G (c.d.fact 2 (f := .glo "_law_draw") rfl))
  obtain ⟨fd3, f3⟩ := fun_at c 3
  have h__law_pick := k__law_pick (w := w) (base := base) B h__law_draw (He5.fun_of f3) (He.glo_ok X G (c.d.fact 3 (f := .glo "_law_pick") rfl))
  obtain ⟨fd4, f4⟩ := fun_at c 4
  have h__law_word := k__law_word (w := w) (base := base) B  (He5.fun_of f4) (He.glo_ok X G (c.d.fact 4 (f := .glo "_law_word") rfl))
  obtain ⟨fd5, f5⟩ := fun_at c 5
  have h__law_key := k__law_key (w := w) (base := base) B h__law_draw h__law_pick (He5.fun_of f5) (He.glo_ok X G (c.d.fact 5 (f := .glo "_law_key") rfl))
  obtain ⟨fd6, f6⟩ := fun_at c 6
  have h__law_are_errors := k__law_are_errors (w := w) (base := base) B  (He5.fun_of f6) (He.glo_ok X G (c.d.fact 6 (f := .glo "_law_are_errors") rfl))
  obtain ⟨fd7, f7⟩ := fun_at c 7
  have h__law_fields_right := k__law_fields_right (w := w) (base := base) B h__law_word h__law_are_errors (He5.fun_of f7) (He.glo_ok X G (c.d.fact 7 (f := .glo "_law_fields_right") rfl))
  obtain ⟨fd8, f8⟩ := fun_at c 8
  have h__law_plain := k__law_plain (w := w) (base := base) B  (He5.fun_of f8) (He.glo_ok X G (c.d.fact 8 (f := .glo "_law_plain") rfl))
  obtain ⟨fd9, f9⟩ := fun_at c 9
  have h__law_worded := k__law_worded (w := w) (base := base) B  (He5.fun_of f9) (He.glo_ok X G (c.d.fact 9 (f := .glo "_law_worded") rfl))
  obtain ⟨fd10, f10⟩ := fun_at c 10
  have h_law := k_law (w := w) (base := base) B h__law_cell_at h__law_pen h__law_fields_right h__law_key h__law_worded h__law_pick h__law_plain h__law_word h__law_are_errors (He5.fun_of f10) (He.glo_ok X G (c.d.fact 10 (f := .glo "law") rfl))
  exact h_law
end Lw
namespace Lw
open L2 PySem.W Ma PySem.Spec PySem PyProof.Rows
abbrev R : OpenRow := OpenLaw.row PySem.Challenge.rw_rowclash_k98_exceptions_by_hand
abbrev hk : Hook := hookM 4 fas fns nis exs
def ob (s : SharedT) : AlM := obsMG 4 fas fns nis exs (HandSHeadRun.getT s)
theorem ob_eq (s : SharedT) : ob s = hk.obs s.abs := obsMG_eq (HandSHeadRun.getT_eq s)
abbrev loose : List Str := (["RowError", "NotRow", "NotTable", "NotKey", "NotKeys", "NotRows", "NotOrder", "NotRule", "NotInteger", "NotScan", "NotBound", "NotFormula"] : List Str) ++ (["NotDeed", "NotText", "NotBytes", "NotLine", "Missing", "Impossible", "TooLarge", "NothingDone", "Twice", "Held", "TooMany", "Competing"] : List Str) ++ (["Ringed", "Collision", "_law_cell_at", "_law_pen", "_law_draw", "_law_pick", "_law_word", "_law_key", "_law_fields_right", "_law_are_errors", "_law_plain", "_law_worded"] : List Str)
theorem run (w : World) : HandSHeadRun.RunEq R (view R.prog [38]) hk ob 15000 loose w := by
  intro os
  kernel_rfl
end Lw
namespace Lw
open L2 Ma PySem.Spec PySem PyProof.Rows
/-! what the machine does with the pen of a cell -/
abbrev pen (a b c : Int) : Cell := .lst [.int a, .int b, .int c]
structure PenK (k a b c : Int) : Prop where
  a0 : 0 ≤ a
  b0 : 0 ≤ b
  b1 : b < 2147483647
  c0 : 0 ≤ c
  c1 : c ≤ k
theorem draw_at {n : Nat} {a b c m k : Int} {hp : List Cell} (h : hp[n]? = some (pen a b c)) (p : PenK k a b c) (hm : 0 < m) (hm2 : m < 1073741824) :
    ∃ d a' b' c', F__law_draw [.box n, .int m] hp = .ok (.int d) (hp.set n (pen a' b' c')) ∧ 0 ≤ d ∧ d < m ∧ PenK (k + 1) a' b' c' := by
  obtain ⟨hn, hg⟩ := List.getElem?_eq_some_iff.mp h
  by_cases ha : 0 < a
  · refine ⟨a % m, a / m, b, c, ?_, Int.emod_nonneg _ (by omega), Int.emod_lt_of_pos _ hm, ⟨Int.ediv_nonneg p.a0 (by omega), p.b0, p.b1, p.c0, by have := p.c1; omega⟩⟩
    simp [F__law_draw, m__law_draw, posF, bodyF, sSeq, sIf, sSet, sRet, sNx, sAsg, gSubL, Ma.gSub, fSetL, m2, mv, mc, mB, isB, mCons, mNil, mCall, cInt, oIx, seqL, lstOf, oInt, oGt, oAdd, oSub, oMul, oDiv, oMod, yes, Res.bind, atI, ixN, hg, ha, hm, hm2, hn]
  · have e1 : ∀ x y : Int, 0 < y → 0 ≤ x % y := fun x y hy => Int.emod_nonneg x (by omega)
    have e2 : ∀ x y : Int, 0 < y → x % y < y := fun x y hy => Int.emod_lt_of_pos x hy
    have b0 := e1 (b * 48271 + 7919 * (c + 1) + 11) 2147483647 (by decide)
    have b1 := e2 (b * 48271 + 7919 * (c + 1) + 11) 2147483647 (by decide)
    generalize hb : (b * 48271 + 7919 * (c + 1) + 11) % 2147483647 = b' at b0 b1
    have gs : ∀ x : Cell, (hp.set n x)[n]? = some x := fun x => by rw [List.getElem?_set_self hn]
    have m1 : ∀ x : Int, mulOk x 48271 = true := fun x => decide_eq_true (Or.inr ⟨by decide, by decide⟩)
    have m2' : ∀ x : Int, mulOk x 16807 = true := fun x => decide_eq_true (Or.inr ⟨by decide, by decide⟩)
    have m3 : ∀ x : Int, mulOk 7919 x = true := fun x => decide_eq_true (Or.inl ⟨by decide, by decide⟩)
    have m4 : ∀ x : Int, mulOk 40014 x = true := fun x => decide_eq_true (Or.inl ⟨by decide, by decide⟩)
    have mo : mulOk b' b' = true := by unfold mulOk; exact decide_eq_true (Or.inl ⟨by omega, by omega⟩)
    refine ⟨((b' * b' + 40014 * b' + (c + 1)) % 2147483563 * 16807 % 2147483647 / 64) % m, a, b', c + 1, ?_, e1 _ _ hm, e2 _ _ hm, ⟨p.a0, b0, b1, by have := p.c0; omega, by have := p.c1; omega⟩⟩
    simp [F__law_draw, m__law_draw, posF, bodyF, sSeq, sIf, sSet, sRet, sNx, sAsg, gSubL, Ma.gSub, fSetL, m2, mv, mc, mB, isB, mCons, mNil, mCall, cInt, oIx, seqL, lstOf, oInt, oGt, oAdd, oSub, oMul, oDiv, oMod, yes, Res.bind, atI, ixN, hg, ha, hm, hm2, hn, hb, mo, gs, m1, m2', m3, m4, List.set_set]

theorem pick_at {n : Nat} {a b c k : Int} {hp : List Cell} {ms : List M} (h : hp[n]? = some (pen a b c)) (p : PenK k a b c) (h0 : 0 < ms.length) (h1 : (ms.length : Int) < 1073741824) :
    ∃ m a' b' c', m ∈ ms ∧ F__law_pick [.box n, .lst ms] hp = .ok m (hp.set n (pen a' b' c')) ∧ PenK (k + 1) a' b' c' := by
  obtain ⟨d, a', b', c', e, d0, d1, p'⟩ := draw_at h p (m := (ms.length : Int)) (by omega) h1
  have hd : d.toNat < ms.length := by omega
  refine ⟨ms[d.toNat], a', b', c', List.getElem_mem hd, ?_, p'⟩
  simp [F__law_pick, m__law_pick, posF, bodyF, sRet, m2, mv, mFn, upF, mCons, mNil, mCall, cLen, oIx, seqL, lstOf, Res.bind, atI, ixN, e, d0, d1, hd]
theorem key_at {n : Nat} {a b c k : Int} {hp : List Cell} (h : hp[n]? = some (pen a b c)) (p : PenK k a b c) :
    ∃ key a' b' c', F__law_key [.box n] hp = .ok (.int key) (hp.set n (pen a' b' c')) ∧ (-10 ^ 30 < key ∧ key < 10 ^ 30) ∧ PenK (k + 3) a' b' c' := by
  obtain ⟨hn, hg⟩ := List.getElem?_eq_some_iff.mp h
  obtain ⟨d, a1, b1, c1, e1, d0, d1, p1⟩ := draw_at h p (m := 30) (by decide) (by decide)
  have h1 : (hp.set n (pen a1 b1 c1))[n]? = some (pen a1 b1 c1) := by simp [hn]
  obtain ⟨d', a2, b2, c2, e2, d0', d1', p2⟩ := draw_at h1 p1 (m := 4) (by decide) (by decide)
  have h2 : ((hp.set n (pen a1 b1 c1)).set n (pen a2 b2 c2))[n]? = some (pen a2 b2 c2) := by simp [hn]
  obtain ⟨m, a3, b3, c3, hm, e3, p3⟩ := pick_at (ms := [.int (d - 10), .int (d - 10), .int (d - 10), .int (d - 10), .int ((d - 10) * 10 ^ 12), .int (10 ^ 30 - 1 - d'), .int (1 - 10 ^ 30)]) h2 p2 (by simp) (by simp)
  have mo : mulOk (d - 10) (10 ^ 12) = true := decide_eq_true (Or.inl ⟨by omega, by omega⟩)
  have hk : ∃ key : Int, m = .int key ∧ (-10 ^ 30 < key ∧ key < 10 ^ 30) := by
    simp only [List.mem_cons, List.not_mem_nil, or_false] at hm
    rcases hm with rfl | rfl | rfl | rfl | rfl | rfl | rfl <;> exact ⟨_, rfl, by omega⟩
  obtain ⟨key, rfl, hk⟩ := hk
  refine ⟨key, a3, b3, c3, ?_, hk, by have := p3; rwa [show k + 1 + 1 + 1 = k + 3 from by omega] at this⟩
  have z12 : (10 : Int) ^ 12 = 1000000000000 := by decide
  have z30 : (10 : Int) ^ 30 = 1000000000000000000000000000000 := by decide
  rw [z12] at mo
  have w1 : (1000000000000000000000000000000 : Int) - 1 = 999999999999999999999999999999 := by decide
  have w2 : (1 : Int) - 1000000000000000000000000000000 = -999999999999999999999999999999 := by decide
  simp only [z12, z30, w1, w2, List.set_set] at e3
  simp [F__law_key, m__law_key, posF, bodyF, sSeq, sSet, sRet, m2, mv, mc, mFn, upF, mCons, mNil, mLst, oInt, oSub, oMul, oPow, yes, Res.bind, big, e1, e2, mo, List.set_set, e3]
end Lw
namespace Lw
open L2 Ma PySem.Spec PySem PyProof.Rows
abbrev PL : List Str := ["NotRow", "NotTable", "NotKey", "NotKeys", "NotRows", "NotOrder", "NotRule", "NotInteger", "NotScan", "NotBound", "NotFormula", "NotDeed", "NotText", "NotBytes", "NotLine", "Missing", "Impossible", "TooLarge", "NothingDone"]
abbrev EX : List M := PL.map fun c => .exn c [] []
theorem plain_at (hp : List Cell) : F__law_plain [] hp = .ok (.lst EX) hp := by kernel_rfl
theorem worded_at (m : M) (hp : List Cell) : F__law_worded [m] hp = .ok (.lst EX) hp := by kernel_rfl
theorem seq_nx {a b : MStm} {s s1 : MS} (h : a s = .ok .nx s1) : sSeq a b s = b s1 := by
  unfold sSeq; rw [h]; rfl
/-! texts of small ints -/
abbrev Small (i : Int) : Prop := -10 ^ 30 < i ∧ i < 10 ^ 30
theorem small_abs {i : Int} (h : Small i) : i.natAbs < 10 ^ 30 := by
  have := h.1; have := h.2; omega
theorem small_log {i : Int} (h : Small i) : i.natAbs.log2 < 1920 := by
  have h1 := small_abs h
  by_cases h0 : i.natAbs = 0
  · rw [h0]; decide +kernel
  · exact (Nat.log2_lt h0).mpr (Nat.lt_trans h1 (by decide +kernel))
theorem small_len {i : Int} (h : Small i) : (Str.ofString (toString i)).length ≤ 31 := by
  rw [PySem.ofString_length]
  exact int_text_length_le10 (k := 30) (by decide) (small_abs h)
theorem small_short {i : Int} (h : Small i) : (PyData.int i).leavesShort 31 = true := by
  unfold PyData.leavesShort
  rw [PyData.shown_int]
  exact decide_eq_true (small_len h)
theorem small_log2 {i : Int} (h : Small i) : i.natAbs.log2 < 100 := by
  have h1 := small_abs h
  by_cases h0 : i.natAbs = 0
  · rw [h0]; decide +kernel
  · exact (Nat.log2_lt h0).mpr (Nat.lt_trans h1 (by decide +kernel))
theorem small_w {i : Int} (h : Small i) : (PyData.int i).weight ≤ 101 := by
  rw [PyData.weight]
  have := small_log2 h
  split <;> omega
theorem small_show {i : Int} (h : Small i) : (PyData.int i).showable = true := by
  rw [PyData.showable]
  exact decide_eq_true (small_log h)
theorem fmt_int {hp : List Cell} {i : Int} (h : Small i) : fmtM hp (.int i) = some (Str.ofString (toString i)) := by
  unfold fmtM
  exact if_pos (small_log h)
theorem fmt_tup {hp : List Cell} {ms : List M} {ds : List PyData} (e : datL ms = some ds) (h : (PyData.tuple ds).leavesShort 31 = true) (h1 : (PyData.tuple ds).showable = true) (h2 : (PyData.tuple ds).hasDict = false) (h3 : (PyData.tuple ds).depth ≤ 64) (h4 : (PyData.tuple ds).weight ≤ 1000) :
    ∃ z, fmtM hp (.tup ms) = some z ∧ z.length ≤ 40000 := by
  have hl := PyData.shown_le 31 (by decide) _ h
  have hl2 : (PyData.tuple ds).shown.length ≤ 40000 := by omega
  refine ⟨(PyData.tuple ds).shown, ?_, hl2⟩
  unfold fmtM
  have ed : datT hp (.tup ms) = some (.tuple ds) := by
    show (datL ms).map PyData.tuple = _
    rw [e]; rfl
  dsimp only
  rw [ed]
  refine if_pos ?_
  simp only [Bool.and_eq_true, decide_eq_true_eq]
  refine ⟨⟨⟨⟨rfl, h1⟩, by rw [h2]; rfl⟩, h3⟩, Nat.le_trans hl2 (by decide +kernel)⟩
theorem exi_ok {n : Str} {fs : List Str} {pt : List Pt} {ms : List M} {s : MS} {zs : List Str} (h0 : ms.length = fs.length) (h1 : textsM s.hp ms pt = some zs) (h2 : (zs.map (·.length)).sum ≤ sizeLine) :
    exiM n fs pt ms s = .ok (.exn n fs ms) s := by
  unfold exiM
  rw [if_pos h0, h1]
  exact if_pos h2
theorem line_le {n : Nat} (h : n ≤ 100000) : n ≤ sizeLine := Nat.le_trans h (by decide +kernel)
section
variable {x y : Int} {s : MS}
theorem lsA {d : PyData} {ds : List PyData} (h : d.leavesShort 31 = true) (h2 : PyData.leavesShortAll 31 ds = true) : PyData.leavesShortAll 31 (d :: ds) = true := by
  rw [PyData.leavesShortAll, h, h2]; rfl
theorem lsN : PyData.leavesShortAll 31 [] = true := by rw [PyData.leavesShortAll]
theorem lsT {ds : List PyData} (h : PyData.leavesShortAll 31 ds = true) : (PyData.tuple ds).leavesShort 31 = true := by rw [PyData.leavesShort, h]
theorem lsL {ds : List PyData} (h : PyData.leavesShortAll 31 ds = true) : (PyData.list ds).leavesShort 31 = true := by rw [PyData.leavesShort, h]
theorem small7 : Small 7 := ⟨by decide, by decide⟩
theorem t2s (hx : Small x) (hy : Small y) : (PyData.tuple [.int x, .int y]).leavesShort 31 = true := lsT (lsA (small_short hx) (lsA (small_short hy) lsN))
theorem t3s (hx : Small x) (hy : Small y) : (PyData.tuple [.int x, .int y, .int 7]).leavesShort 31 = true := lsT (lsA (small_short hx) (lsA (small_short hy) (lsA (small_short small7) lsN)))
theorem shA {d : PyData} {ds : List PyData} (h : d.showable = true) (h2 : PyData.showableAll ds = true) : PyData.showableAll (d :: ds) = true := by
  rw [PyData.showableAll, h, h2]; rfl
theorem shN : PyData.showableAll [] = true := by rw [PyData.showableAll]
theorem shT {ds : List PyData} (h : PyData.showableAll ds = true) : (PyData.tuple ds).showable = true := by rw [PyData.showable, h]
theorem shL {ds : List PyData} (h : PyData.showableAll ds = true) : (PyData.list ds).showable = true := by rw [PyData.showable, h]
theorem weA {d : PyData} {ds : List PyData} {n k : Nat} (h : d.weight ≤ n) (h2 : PyData.weightAll ds ≤ k) : PyData.weightAll (d :: ds) ≤ n + 1 + k := by
  rw [PyData.weightAll]; omega
theorem weN : PyData.weightAll [] ≤ 0 := by rw [PyData.weightAll]; omega
theorem weT {ds : List PyData} {n : Nat} (h : PyData.weightAll ds ≤ n) : (PyData.tuple ds).weight ≤ n := by rw [PyData.weight]; exact h
theorem weL {ds : List PyData} {n : Nat} (h : PyData.weightAll ds ≤ n) : (PyData.list ds).weight ≤ n := by rw [PyData.weight]; exact h
theorem t2h (hx : Small x) (hy : Small y) : (PyData.tuple [.int x, .int y]).showable = true := shT (shA (small_show hx) (shA (small_show hy) shN))
theorem t3h (hx : Small x) (hy : Small y) : (PyData.tuple [.int x, .int y, .int 7]).showable = true := shT (shA (small_show hx) (shA (small_show hy) (shA (small_show small7) shN)))
theorem t2w (hx : Small x) (hy : Small y) : (PyData.tuple [.int x, .int y]).weight ≤ 204 := weT (weA (small_w hx) (weA (small_w hy) weN))
theorem t3w (hx : Small x) (hy : Small y) : (PyData.tuple [.int x, .int y, .int 7]).weight ≤ 306 := weT (weA (small_w hx) (weA (small_w hy) (weA (small_w small7) weN)))
theorem tup2 {hp : List Cell} (hx : Small x) (hy : Small y) : ∃ z, fmtM hp (.tup [.int x, .int y]) = some z ∧ z.length ≤ 40000 :=
  fmt_tup (ds := [.int x, .int y]) rfl (t2s hx hy) (t2h hx hy) (by kernel_rfl) (Nat.le_of_ble_eq_true (by kernel_rfl)) (Nat.le_trans (t2w hx hy) (by decide))
theorem tup3 {hp : List Cell} (hx : Small x) (hy : Small y) : ∃ z, fmtM hp (.tup [.int x, .int y, .int 7]) = some z ∧ z.length ≤ 40000 :=
  fmt_tup (ds := [.int x, .int y, .int 7]) rfl (t3s hx hy) (t3h hx hy) (by kernel_rfl) (Nat.le_of_ble_eq_true (by kernel_rfl)) (Nat.le_trans (t3w hx hy) (by decide))
theorem x_twice (hx : Small x) : exiM "Twice" ["key"] [.inl "two rows have the key ", .inr 0] [.int x] s = .ok (.exn "Twice" ["key"] [.int x]) s := by
  refine exi_ok (zs := ["two rows have the key ", Str.ofString (toString x)]) rfl ?_ (line_le ?_)
  · simp [textsM, fmt_int hx]
  · have := small_len hx
    show 22 + ((Str.ofString (toString x)).length + 0) ≤ _
    omega
theorem x_held (hx : Small x) : exiM "Held" ["key"] [.inl "the key ", .inr 0, .inl " is held already"] [.int x] s = .ok (.exn "Held" ["key"] [.int x]) s := by
  refine exi_ok (zs := ["the key ", Str.ofString (toString x), " is held already"]) rfl ?_ (line_le ?_)
  · simp [textsM, fmt_int hx]
  · have := small_len hx
    show 8 + ((Str.ofString (toString x)).length + (16 + 0)) ≤ _
    omega
theorem x_many (hx : Small x) (hy : Small y) : exiM "TooMany" ["many", "most"] [.inr 0, .inl " are too many, ", .inr 1, .inl " is the most"] [.int x, .int y] s = .ok (.exn "TooMany" ["many", "most"] [.int x, .int y]) s := by
  refine exi_ok (zs := [Str.ofString (toString x), " are too many, ", Str.ofString (toString y), " is the most"]) rfl ?_ (line_le ?_)
  · simp [textsM, fmt_int hx, fmt_int hy]
  · have := small_len hx
    have := small_len hy
    show (Str.ofString (toString x)).length + (15 + ((Str.ofString (toString y)).length + (12 + 0))) ≤ _
    omega
theorem x_coll (hx : Small x) (hy : Small y) : exiM "Collision" ["row", "holder"] [.inl "row ", .inr 0, .inl " collides with row ", .inr 1] [.int x, .int y] s = .ok (.exn "Collision" ["row", "holder"] [.int x, .int y]) s := by
  refine exi_ok (zs := ["row ", Str.ofString (toString x), " collides with row ", Str.ofString (toString y)]) rfl ?_ (line_le ?_)
  · simp [textsM, fmt_int hx, fmt_int hy]
  · have := small_len hx
    have := small_len hy
    show 4 + ((Str.ofString (toString x)).length + (19 + ((Str.ofString (toString y)).length + 0))) ≤ _
    omega
theorem x_comp (hx : Small x) (hy : Small y) : exiM "Competing" ["pair"] [.inl "these rows compete: ", .inr 0] [.tup [.int x, .int y]] s = .ok (.exn "Competing" ["pair"] [.tup [.int x, .int y]]) s := by
  obtain ⟨z, e, hz⟩ := tup2 (hp := s.hp) hx hy
  refine exi_ok (zs := ["these rows compete: ", z]) rfl ?_ (line_le ?_)
  · simp [textsM, e]
  · show 20 + (z.length + 0) ≤ _
    omega
theorem x_ring (hx : Small x) (hy : Small y) : exiM "Ringed" ["ring"] [.inl "these rows wait for each other: ", .inr 0] [.tup [.int x, .int y, .int 7]] s = .ok (.exn "Ringed" ["ring"] [.tup [.int x, .int y, .int 7]]) s := by
  obtain ⟨z, e, hz⟩ := tup3 (hp := s.hp) hx hy
  refine exi_ok (zs := ["these rows wait for each other: ", z]) rfl ?_ (line_le ?_)
  · simp [textsM, e]
  · show 32 + (z.length + 0) ≤ _
    omega

abbrev L8 (x y : Int) : List M := [.int x, .int y, .int x, .int y, .tup [.int x, .int y], .tup [.int x, .int y, .int 7], .int x, .int y]
abbrev D8 (x y : Int) : PyData := .list [.int x, .int y, .int x, .int y, .tuple [.int x, .int y], .tuple [.int x, .int y, .int 7], .int x, .int y]
theorem repr8 (hx : Small x) (hy : Small y) : cRepr [.lst (L8 x y)] s = .ok (.str (D8 x y).shown) s := by
  have h : (D8 x y).leavesShort 31 = true := lsL (lsA (small_short hx) (lsA (small_short hy) (lsA (small_short hx) (lsA (small_short hy) (lsA (t2s hx hy) (lsA (t3s hx hy) (lsA (small_short hx) (lsA (small_short hy) lsN))))))))
  have hl := PyData.shown_le 31 (by decide) _ h
  have hw : (D8 x y).weight ≤ 1130 := Nat.le_trans (weL (weA (small_w hx) (weA (small_w hy) (weA (small_w hx) (weA (small_w hy) (weA (t2w hx hy) (weA (t3w hx hy) (weA (small_w hx) (weA (small_w hy) weN))))))))) (by decide)
  have hs : (D8 x y).showable = true := shL (shA (small_show hx) (shA (small_show hy) (shA (small_show hx) (shA (small_show hy) (shA (t2h hx hy) (shA (t3h hx hy) (shA (small_show hx) (shA (small_show hy) shN))))))))
  have hl2 : (D8 x y).shown.length ≤ sizeLine := Nat.le_trans (show _ ≤ 40000 by omega) (by decide +kernel)
  have hd : (D8 x y).depth ≤ 64 := Nat.le_of_ble_eq_true (by kernel_rfl)
  have e : datT s.hp (.lst (L8 x y)) = some (D8 x y) := by kernel_rfl
  unfold cRepr
  dsimp only
  rw [e]
  refine if_pos ?_
  simp only [Bool.and_eq_true, decide_eq_true_eq]
  exact ⟨⟨⟨⟨by kernel_rfl, hs⟩, by kernel_rfl⟩, hd⟩, hl2⟩
end
end Lw
namespace Lw
open L2 Ma PySem.Spec PySem PyProof.Rows
theorem get_end {hp : List Cell} {c : Cell} : (hp ++ [c])[hp.length]? = some c := by simp
theorem set_end {hp : List Cell} {c d : Cell} : (hp ++ [c]).set hp.length d = hp ++ [d] := by simp
abbrev X5 (x y : Int) : List M := [.exn "Twice" ["key"] [.int x], .exn "Held" ["key"] [.int y], .exn "TooMany" ["many", "most"] [.int x, .int y], .exn "Competing" ["pair"] [.tup [.int x, .int y]], .exn "Ringed" ["ring"] [.tup [.int x, .int y, .int 7]]]
abbrev X6 (x y : Int) : List M := X5 x y ++ [.exn "Collision" ["row", "holder"] [.int x, .int y]]
theorem eqv_refl_str (z : Str) : PyData.eqv (.str z) (.str z) = true := by simp [PyData.eqv]
theorem free_list {k : Nat} (hk : 128 ≤ k) {xs : List PyData} (h : ∀ x ∈ xs, k ∉ x.shown.cps.toList) : k ∉ (PyData.list xs).shown.cps.toList := by
  rw [PyData.shown_list, mem_cps_append, mem_cps_append, signs_lbrack, signs_rbrack, mem_join, signs_sep]
  rintro ((hm | (⟨t, ht, hc⟩ | ⟨_, hm⟩)) | hm)
  · simp at hm; omega
  · exact shownAll_free h t ht hc
  · simp at hm; omega
  · simp at hm; omega
theorem free_tuple {k : Nat} (hk : 128 ≤ k) {xs : List PyData} (h : ∀ x ∈ xs, k ∉ x.shown.cps.toList) : k ∉ (PyData.tuple xs).shown.cps.toList := by
  rw [PyData.shown_tuple, mem_cps_append, mem_cps_append, signs_lparen, mem_join, signs_sep]
  rintro ((hm | (⟨t, ht, hc⟩ | ⟨_, hm⟩)) | hm)
  · simp at hm; omega
  · exact shownAll_free h t ht hc
  · simp at hm; omega
  · split at hm
    · have e : ((",)" : String) : Str).cps.toList = [44, 41] := by decide
      rw [e] at hm; simp at hm; omega
    · have e : ((")" : String) : Str).cps.toList = [41] := by decide
      rw [e] at hm; simp at hm; omega
theorem ok8 (x y : Int) : PyData.strOk (D8 x y).shown = true := by
  unfold PyData.strOk
  rw [Array.all_eq_true']
  intro k hk
  refine decide_eq_true (Nat.lt_of_not_le fun h => ?_)
  have h128 : 128 ≤ k := by omega
  have fi : ∀ i : Int, k ∉ (PyData.int i).shown.cps.toList := shown_int_free' (by omega)
  have f2 : k ∉ (PyData.tuple [.int x, .int y]).shown.cps.toList := free_tuple h128 fun z hz => by
    simp only [List.mem_cons, List.not_mem_nil, or_false] at hz
    rcases hz with rfl | rfl <;> exact fi _
  have f3 : k ∉ (PyData.tuple [.int x, .int y, .int 7]).shown.cps.toList := free_tuple h128 fun z hz => by
    simp only [List.mem_cons, List.not_mem_nil, or_false] at hz
    rcases hz with rfl | rfl | rfl <;> exact fi _
  refine free_list h128 (xs := [.int x, .int y, .int x, .int y, .tuple [.int x, .int y], .tuple [.int x, .int y, .int 7], .int x, .int y]) (fun z hz => ?_) (Array.mem_toList_iff.mpr hk)
  simp only [List.mem_cons, List.not_mem_nil, or_false] at hz
  rcases hz with rfl | rfl | rfl | rfl | rfl | rfl | rfl | rfl
  · exact fi _
  · exact fi _
  · exact fi _
  · exact fi _
  · exact f2
  · exact f3
  · exact fi _
  · exact fi _
theorem neS {z : Str} (hz : PyData.strOk z = true) (s : MS) : oEqD true (.str z) (.str z) s = .ok (.bl false) s := by
  unfold oEqD
  show (if (SeqAt.shaped (.str z) && SeqAt.shaped (.str z)) = true then _ else _) = _
  rw [show SeqAt.shaped (.str z) = true by simp [SeqAt.shaped, PyData.canLay0, PyData.depth, hz], eqv_refl_str]
  rfl
abbrev W6 : List M := [.str "twice", .str "held", .str "many", .str "competing", .str "ringed", .str "collision"]
theorem fields_at {x y : Int} {hp : List Cell} (hx : Small x) (hy : Small y) : F__law_fields_right [.int x, .int y] hp = .ok (.bl true) (hp ++ [.dead]) := by
  have e : m__law_fields_right ⟨[some (.int x), some (.int y), none, none, none, none], hp⟩ = .ok (.rt (.bl true)) ⟨[some (.int x), some (.int y), some (.lst (X6 x y)), some (.lst ((L8 x y).take 7)), some (.lst W6), none], hp ++ [.dead]⟩ := by
    unfold m__law_fields_right
    refine (seq_nx (s1 := ⟨[some (.int x), some (.int y), some (.box hp.length), none, none, none], hp ++ [.lst (X5 x y)]⟩) ?_).trans ?_
    · simp [sSet, mLstB, mCons, mNil, mExi, mv, mc, mTup, Res.bind, big, x_twice hx, x_held hy, x_many hx hy, x_comp hx hy, x_ring hx hy]
    refine (seq_nx (s1 := ⟨[some (.int x), some (.int y), some (.box hp.length), none, none, none], hp ++ [.lst (X6 x y)]⟩) ?_).trans ?_
    · simp [sExpr, mAppend, mMeth, mCons, mNil, mExi, mv, Res.bind, big, isBoxL, fAppend, x_coll hx hy]
    refine (seq_nx (s1 := ⟨[some (.int x), some (.int y), some (.lst (X6 x y)), none, none, none], hp ++ [.dead]⟩) ?_).trans ?_
    · simp [sFz]
    refine (seq_nx (s1 := ⟨[some (.int x), some (.int y), some (.lst (X6 x y)), some (.lst ((L8 x y).take 7)), none, none], hp ++ [.dead]⟩) ?_).trans ?_
    · kernel_rfl
    refine (seq_nx (s1 := ⟨[some (.int x), some (.int y), some (.lst (X6 x y)), some (.lst ((L8 x y).take 7)), none, none], hp ++ [.dead]⟩) ?_).trans ?_
    · have ea : ∀ (a : MA) (s : MS), a s = .ok [.lst (L8 x y)] s → mCall a cRepr s = .ok (.str (D8 x y).shown) s := fun a s h => by
        unfold mCall; rw [h]; exact repr8 hx hy
      have eb : ∀ (a b : ME) (s : MS), a s = .ok (.str (D8 x y).shown) s → b s = .ok (.str (D8 x y).shown) s → mB (m2 (oEqD true) a b) s = .ok false s := fun a b s h1 h2 => by
        simp [mB, m2, h1, h2, Res.bind, neS (ok8 x y), isB]
      have ec : ∀ (t : MT) (a b : MStm) (s : MS), t s = .ok false s → sIf t a b s = b s := fun t a b s h => by
        unfold sIf; rw [h]; rfl
      exact (ec _ _ _ _ (eb _ _ _ (ea _ _ (by kernel_rfl)) (ea _ _ (by kernel_rfl)))).trans rfl
    refine (seq_nx (s1 := ⟨[some (.int x), some (.int y), some (.lst (X6 x y)), some (.lst ((L8 x y).take 7)), some (.lst W6), none], hp ++ [.dead]⟩) ?_).trans ?_
    · kernel_rfl
    · kernel_rfl
  simp [F__law_fields_right, posF, bodyF, List.replicate, e]
end Lw
namespace Lw
open L2 Ma PySem.Spec PySem PyProof.Rows
abbrev W19 : List M := [.str "row", .str "table", .str "key", .str "keys", .str "rows", .str "order", .str "rule", .str "integer", .str "scan", .str "bound", .str "formula", .str "deed", .str "text", .str "bytes", .str "line", .str "missing", .str "impossible", .str "large", .str "nothing"]
def itL : MI := (iSeq (m2 oAdd (mLst (mCons (mFn (mCons (mv 0) (mCons (mc (.int 0)) mNil)) F__law_cell_at) mNil)) (mSl (mv 0) (oSome (mc (.int 1))) (oSome (mc (.int 3))))))
def inL : MStm := (sIf (mOr (mB (m2 (oEqD true) (mLc [5] (iSeq (mv 4)) (gSet 5) mYes (mFn (mCons (mv 5) mNil) F__law_word)) (mv 1))) (mNot (mB (mFn (mCons (mv 4) mNil) F__law_are_errors)))) (sRet (mc (.bl false))) sNx)
def it2L : MI := (iSeq (mLst (mCons (mFn mNil F__law_plain) (mCons (mFn (mCons (mFn (mCons (mv 3) (mCons (mLst (mCons (mc (.str "")) (mCons (mc (.str "a")) (mCons (mc (.str "no such row")) mNil)))) mNil)) F__law_pick) mNil) F__law_worded) mNil))))
def tsL : MStm := (sIf (mNot (mB (mFn (mCons (mFn (mCons (mv 3) mNil) F__law_key) (mCons (mFn (mCons (mv 3) mNil) F__law_key) mNil)) F__law_fields_right))) (sRet (mc (.bl false))) sNx)
def penL : MStm := (sSet 3 (mFn (mCons (mv 2) mNil) F__law_pen))
def bodyL : MStm := sSeq penL (sSeq tsL (sForI it2L (gSet 4) inL))
abbrev envL (ns : List Int) (o2 o3 o4 o5 : Option M) : List (Option M) := [some (.scr ns), some (.lst W19), o2, o3, o4, o5]
theorem inL_at {ns : List Int} {o2 o3 o5 : Option M} {hp : List Cell} : inL ⟨envL ns o2 o3 (some (.lst EX)) o5, hp⟩ = .ok .nx ⟨envL ns o2 o3 (some (.lst EX)) o5, hp⟩ := by kernel_rfl
theorem penL_at {ns : List Int} {i : Int} {o3 o4 o5 : Option M} {hp : List Cell} : penL ⟨envL ns (some (.int i)) o3 o4 o5, hp⟩ =
    .ok .nx ⟨envL ns (some (.int i)) (some (.box hp.length)) o4 o5, hp ++ [pen (if i - 10 ^ 18 > 0 then i - 10 ^ 18 else 0) (i % 2147483629) 1]⟩ := by kernel_rfl
theorem pen_ok (i : Int) : PenK 1 (if i - 10 ^ 18 > 0 then i - 10 ^ 18 else 0) (i % 2147483629) 1 :=
  ⟨by split <;> omega, by omega, by omega, by omega, by omega⟩
theorem up_ok {m : M} {hp : List Cell} {env : List (Option M)} : upF env (.ok m hp) = .ok m ⟨env, hp⟩ := rfl
theorem tsL_at {ns : List Int} {n : Nat} {o2 o4 o5 : Option M} {hp : List Cell} {a b c : Int} (h : hp[n]? = some (pen a b c)) (p : PenK 1 a b c) :
    ∃ hp' a' b' c', tsL ⟨envL ns o2 (some (.box n)) o4 o5, hp⟩ = .ok .nx ⟨envL ns o2 (some (.box n)) o4 o5, hp'⟩ ∧ hp'[n]? = some (pen a' b' c') ∧ PenK 7 a' b' c' := by
  obtain ⟨hn, hg⟩ := List.getElem?_eq_some_iff.mp h
  obtain ⟨x, a1, b1, c1, e1, hx, p1⟩ := key_at h p
  have h1 : (hp.set n (pen a1 b1 c1))[n]? = some (pen a1 b1 c1) := by rw [List.getElem?_set_self hn]
  obtain ⟨y, a2, b2, c2, e2, hy, p2⟩ := key_at h1 p1
  rw [List.set_set] at e2
  refine ⟨(hp.set n (pen a2 b2 c2)) ++ [.dead], a2, b2, c2, ?_, ?_, p2⟩
  · simp [tsL, sIf, mNot, mB, mFn, mCons, mNil, mv, Res.bind, upF, e1, e2, fields_at hx hy, isB, sNx]
  · rw [List.getElem?_append_left (by simpa using hn), List.getElem?_set_self hn]
theorem for_cons {tg : MG} {b : MStm} {x : M} {xs : List M} {s s1 s2 : MS} (h1 : tg x s = .ok () s1) (h2 : b s1 = .ok .nx s2) : sFor tg b (x :: xs) s = sFor tg b xs s2 := by
  rw [sFor]; dsimp only; rw [h1]; show (b s1).bind _ = _; rw [h2]; rfl
theorem for2_at {ns : List Int} {n : Nat} {o2 o4 o5 : Option M} {hp : List Cell} {a b c : Int} (h : hp[n]? = some (pen a b c)) (p : PenK 7 a b c) :
    ∃ hp', sForI it2L (gSet 4) inL ⟨envL ns o2 (some (.box n)) o4 o5, hp⟩ = .ok .nx ⟨envL ns o2 (some (.box n)) (some (.lst EX)) o5, hp'⟩ := by
  obtain ⟨m, a1, b1, c1, hm, e1, p1⟩ := pick_at (ms := [.str "", .str "a", .str "no such row"]) h p (by simp) (by simp)
  refine ⟨hp.set n (pen a1 b1 c1), ?_⟩
  have e : it2L ⟨envL ns o2 (some (.box n)) o4 o5, hp⟩ = .ok [.lst EX, .lst EX] ⟨envL ns o2 (some (.box n)) o4 o5, hp.set n (pen a1 b1 c1)⟩ := by
    simp [it2L, iSeq, mLst, mFn, mCons, mNil, mv, mc, Res.bind, upF, plain_at, worded_at, e1, big, itemsOf]
  unfold sForI
  rw [e]
  show sFor (gSet 4) inL [.lst EX, .lst EX] _ = _
  rw [for_cons (s1 := ⟨envL ns o2 (some (.box n)) (some (.lst EX)) o5, _⟩) rfl inL_at, for_cons (s1 := ⟨envL ns o2 (some (.box n)) (some (.lst EX)) o5, _⟩) rfl inL_at]
  rfl
theorem bodyL_at {ns : List Int} {i : Int} {o3 o4 o5 : Option M} {hp : List Cell} :
    ∃ o3' hp', bodyL ⟨envL ns (some (.int i)) o3 o4 o5, hp⟩ = .ok .nx ⟨envL ns (some (.int i)) o3' (some (.lst EX)) o5, hp'⟩ := by
  have h0 : (hp ++ [pen (if i - 10 ^ 18 > 0 then i - 10 ^ 18 else 0) (i % 2147483629) 1])[hp.length]? = some (pen (if i - 10 ^ 18 > 0 then i - 10 ^ 18 else 0) (i % 2147483629) 1) := get_end
  obtain ⟨hp1, a1, b1, c1, e1, h1, p1⟩ := tsL_at (ns := ns) (o2 := some (.int i)) (o4 := o4) (o5 := o5) h0 (pen_ok i)
  obtain ⟨hp2, e2⟩ := for2_at (ns := ns) (o2 := some (.int i)) (o4 := o4) (o5 := o5) h1 p1
  exact ⟨some (.box hp.length), hp2, (seq_nx penL_at).trans ((seq_nx e1).trans e2)⟩
theorem for_at {ns : List Int} : ∀ {is : List Int} {o2 o3 o4 o5 : Option M} {hp : List Cell},
    ∃ o2' o3' o4' hp', sFor (gSet 2) bodyL (is.map M.int) ⟨envL ns o2 o3 o4 o5, hp⟩ = .ok .nx ⟨envL ns o2' o3' o4' o5, hp'⟩
  | [], o2, o3, o4, o5, hp => ⟨o2, o3, o4, hp, rfl⟩
  | i :: is, o2, o3, o4, o5, hp => by
    obtain ⟨o3', hp', e⟩ := bodyL_at (ns := ns) (i := i) (o3 := o3) (o4 := o4) (o5 := o5) (hp := hp)
    obtain ⟨p2, p3, p4, hp2, e2⟩ := for_at (ns := ns) (is := is) (o2 := some (.int i)) (o3 := o3') (o4 := some (.lst EX)) (o5 := o5) (hp := hp')
    exact ⟨p2, p3, p4, hp2, (for_cons (s1 := ⟨envL ns (some (.int i)) o3 o4 o5, hp⟩) rfl e).trans e2⟩
theorem cell_at (ns : List Int) (hp : List Cell) : ∃ i : Int, F__law_cell_at [.scr ns, .int 0] hp = .ok (.int i) hp := by
  cases ns with
  | nil => exact ⟨0, by kernel_rfl⟩
  | cons i r => exact ⟨i, by simp [F__law_cell_at, m__law_cell_at, posF, bodyF, sSeq, sIf, sRet, sNx, mB, m2, mv, mc, mCall, mCons, mNil, cLen, seqL, lstOf, oLt, oInt, yes, isB, oIx, atI, ixN, Res.bind]⟩
theorem m2_of {o : M → M → MS → Res M} {a b : ME} {x y : M} {s s1 s2 : MS} (h1 : a s = .ok x s1) (h2 : b s1 = .ok y s2) : m2 o a b s = o x y s2 := by simp only [m2, h1, h2, Res.bind]
theorem itL_at {ns : List Int} (hl : ns.length ≤ 63) {o2 o3 o4 o5 : Option M} {hp : List Cell} : ∃ is : List Int, itL ⟨envL ns o2 o3 o4 o5, hp⟩ = .ok (is.map M.int) ⟨envL ns o2 o3 o4 o5, hp⟩ := by
  obtain ⟨i, e⟩ := cell_at ns hp
  have ec : cutM (ns.map M.int) (some 1) (some 3) = ((ns.drop (HT.sIx (ns.map M.int).length 0 (some 1))).take (HT.sIx (ns.map M.int).length (ns.map M.int).length (some 3) - HT.sIx (ns.map M.int).length 0 (some 1))).map M.int := by
    unfold cutM; rw [List.map_take, List.map_drop]
  refine ⟨i :: ((ns.drop (HT.sIx (ns.map M.int).length 0 (some 1))).take (HT.sIx (ns.map M.int).length (ns.map M.int).length (some 3) - HT.sIx (ns.map M.int).length 0 (some 1))), ?_⟩
  have eA : mLst (mCons (mFn (mCons (mv 0) (mCons (mc (.int 0)) mNil)) F__law_cell_at) mNil) ⟨envL ns o2 o3 o4 o5, hp⟩ = .ok (.lst [.int i]) ⟨envL ns o2 o3 o4 o5, hp⟩ := by
    simp [mLst, mFn, mCons, mNil, mv, mc, Res.bind, upF, e, big]
  have eB : mSl (mv 0) (oSome (mc (.int 1))) (oSome (mc (.int 3))) ⟨envL ns o2 o3 o4 o5, hp⟩ = .ok (.lst (cutM (ns.map M.int) (some 1) (some 3))) ⟨envL ns o2 o3 o4 o5, hp⟩ := rfl
  have eC : oAdd (.lst [.int i]) (.lst (cutM (ns.map M.int) (some 1) (some 3))) ⟨envL ns o2 o3 o4 o5, hp⟩ = .ok (.lst ([.int i] ++ cutM (ns.map M.int) (some 1) (some 3))) ⟨envL ns o2 o3 o4 o5, hp⟩ := by
    refine if_pos ?_
    rw [ec]
    simp only [List.length_cons, List.length_nil, List.length_map, List.length_take, List.length_drop, big]; omega
  have eD : m2 oAdd (mLst (mCons (mFn (mCons (mv 0) (mCons (mc (.int 0)) mNil)) F__law_cell_at) mNil)) (mSl (mv 0) (oSome (mc (.int 1))) (oSome (mc (.int 3)))) ⟨envL ns o2 o3 o4 o5, hp⟩ = .ok (.lst ([.int i] ++ cutM (ns.map M.int) (some 1) (some 3))) ⟨envL ns o2 o3 o4 o5, hp⟩ := by
    exact (m2_of eA eB).trans eC
  unfold itL iSeq
  rw [eD, ec]
  rfl
theorem law_eq : m_law = sSeq (sSet 1 (mLst (mCons (mc (.str "row")) (mCons (mc (.str "table")) (mCons (mc (.str "key")) (mCons (mc (.str "keys")) (mCons (mc (.str "rows")) (mCons (mc (.str "order")) (mCons (mc (.str "rule")) (mCons (mc (.str "integer")) (mCons (mc (.str "scan")) (mCons (mc (.str "bound")) (mCons (mc (.str "formula")) (mCons (mc (.str "deed")) mNil)))))))))))))) (sSeq (sSet 1 (m2 oAdd (mv 1) (mLst (mCons (mc (.str "text")) (mCons (mc (.str "bytes")) (mCons (mc (.str "line")) (mCons (mc (.str "missing")) (mCons (mc (.str "impossible")) (mCons (mc (.str "large")) (mCons (mc (.str "nothing")) mNil)))))))))) (sSeq (sForI itL (gSet 2) bodyL) (sRet (mc (.bl true))))) := rfl
theorem law_pure {ns : List Int} (hl : ns.length ≤ 63) : ∃ hp, F_law [.scr ns] [] = .ok (.bl true) hp := by
  obtain ⟨is, ei⟩ := itL_at hl (o2 := none) (o3 := none) (o4 := none) (o5 := none) (hp := [])
  obtain ⟨p2, p3, p4, hp, ef⟩ := for_at (ns := ns) (is := is) (o2 := none) (o3 := none) (o4 := none) (o5 := none) (hp := [])
  refine ⟨hp, ?_⟩
  have e : m_law ⟨[some (.scr ns), none, none, none, none, none], []⟩ = .ok (.rt (.bl true)) ⟨envL ns p2 p3 p4 none, hp⟩ := by
    rw [law_eq]
    refine (seq_nx (s1 := ⟨[some (.scr ns), some (.lst (W19.take 12)), none, none, none, none], []⟩) (by kernel_rfl)).trans ?_
    refine (seq_nx (s1 := ⟨envL ns none none none none, []⟩) (by kernel_rfl)).trans ?_
    refine (seq_nx (s1 := ⟨envL ns p2 p3 p4 none, hp⟩) ?_).trans rfl
    unfold sForI
    rw [ei]
    exact ef
  simp [F_law, posF, bodyF, List.replicate, e]
end Lw
open PySem.W PySem PySem.Calls PyProof.Rows
theorem PySem.Challenge.cw_rowclash_k98_exceptions_by_hand_holds : PySem.Challenge.rw_rowclash_k98_exceptions_by_hand.Holds := by
  w_on; o_law
  refine HandSHeadRun.head_any (r := Lw.R) (q := view Lw.R.prog [38]) (H := Lw.hk) (ob := Lw.ob) (M := 15000) (loose := Lw.loose) (d := HandSHeadRun.topDef Lw.R.prog 38) (kwd := []) Lw.ob_eq
    (by kernel_rfl) (fun s => by kernel_rfl) Lw.run (by kernel_rfl) (by kernel_rfl) (by kernel_rfl) (by rfl) (by first | assumption | decide +kernel) (by decide +kernel) ⟨rfl, rfl, rfl, rfl, rfl, by decide +kernel⟩ ?hw ?hc
  case hw => w_witness2
  case hc =>
    refine Ma.walkG (l := PySem.Challenge.rw_rowclash_k98_exceptions_by_hand) (n := 63) (k := 4) rfl (by decide) (by kernel_rfl) ⟨rfl, by decide, by decide⟩ ?F
    intro w mg fa h Y G hmg0
    obtain ⟨K, KX, c⟩ := Y
    have hmg : mg ("law" : PySem.Str) = some (.ref fa) := by
      have e : (HandSHeadRun.topDef Lw.R.prog 38).name = ("law" : PySem.Str) := by kernel_rfl
      rw [← e]
      exact hmg0
    refine ⟨Lw.TT K, Lw.F_law, KX, fun ns hl => Lw.law_pure hl, fun base hb gb => ?_⟩
    obtain ⟨f, fp, hm, kp⟩ := (Lw.law_kn (w := w) (base := base) KX G c).ex
    rw [hmg] at hm
    cases hm
    exact fp
#print axioms PySem.Challenge.cw_rowclash_k98_exceptions_by_hand_holds
