import PyProof.Rows.All
import Wide.All
import OpenK.AllK
import Wide.FinOn
import PyProof.ReprReads
import PyProof.EqLayable
import HandS.ForMost
import HandS.TupAny
import HandS.TupMul
import HandS.Strs
import KE.GoesEnum
import HandS.SortInts
import HandS.IsInst
import HandS.More
import KE.KRevSl
import KE.KTupSum
import KE.DataMinMax
import KE.SortData
import HandS.Conv
import HandS.Style
import HandS.SetFor
import HandS.Wide
import HandS.Iter
import HandS.SortRule
import HandS.TupSets
import KE.KDictZip
import HandS.GenList
import HandS.Zip
import PyProof.TupleOfGen
import HandS.Deep
import PySem.Challenge.RW_forwardlists_k65_whole_gap_papers_judged
set_option Elab.async false
set_option linter.all false
set_option maxRecDepth 100000
set_option maxHeartbeats 1000000
set_option autoImplicit false
-- MxA
/-! Mx, the pure half: what an expression, a statement, a def asks of plain data (predicate transformers), with no heap in sight. -/
namespace Mx
open PySem

abbrev D := PyData
/-- what an owned object holds -/
inductive Cont
  | lst (xs : List D)
  | dct (kvs : List (D × D))
def Cont.data : Cont → D
  | .lst xs => .list xs
  | .dct kvs => .dict kvs
/-- a value: data (never changed), an object that this slot alone owns, the deck of draws -/
inductive MV
  | d (x : D)
  | o (c : Cont)
  | dk
abbrev Env := List (Option MV)
/-- an exception: its class, its own fields -/
structure Exc where
  cls : Str
  fs : List (Str × D)
abbrev XP := Exc → Prop

structure Ex where
  rr : XP → Env → (MV → Env → Prop) → Prop
  mn : ∀ {Z Z' : XP} {e : Env} {Q Q' : MV → Env → Prop}, (∀ x, Z x → Z' x) → (∀ r e, Q r e → Q' r e) → rr Z e Q → rr Z' e Q'
/-- (a def of its own, so that the kernel compares two runs by what stands in them) -/
def Ex.run (w : Ex) : XP → Env → (MV → Env → Prop) → Prop := w.rr
theorem Ex.mono (w : Ex) : ∀ {Z Z' : XP} {e : Env} {Q Q' : MV → Env → Prop}, (∀ x, Z x → Z' x) → (∀ r e, Q r e → Q' r e) → w.run Z e Q → w.run Z' e Q' := w.mn
/-- what is wanted behind a statement -/
structure Out where
  nx : Env → Prop
  rt : MV → Prop
  bk : Env → Prop := fun _ => False
  ct : Env → Prop := fun _ => False
structure Out.Le (O O' : Out) : Prop where
  nx : ∀ e, O.nx e → O'.nx e
  rt : ∀ r, O.rt r → O'.rt r
  bk : ∀ e, O.bk e → O'.bk e
  ct : ∀ e, O.ct e → O'.ct e
structure Stm where
  rr : XP → Env → Out → Prop
  mn : ∀ {Z Z' : XP} {e : Env} {O O' : Out}, (∀ x, Z x → Z' x) → O.Le O' → rr Z e O → rr Z' e O'
/-- (a def of its own, so that the kernel compares two runs by what stands in them) -/
def Stm.run (w : Stm) : XP → Env → Out → Prop := w.rr
theorem Stm.mono (w : Stm) : ∀ {Z Z' : XP} {e : Env} {O O' : Out}, (∀ x, Z x → Z' x) → O.Le O' → w.run Z e O → w.run Z' e O' := w.mn
/-- a test -/
structure Tst where
  rr : XP → Env → (Bool → Env → Prop) → Prop
  mn : ∀ {Z Z' : XP} {e : Env} {Q Q' : Bool → Env → Prop}, (∀ x, Z x → Z' x) → (∀ r e, Q r e → Q' r e) → rr Z e Q → rr Z' e Q'
/-- (a def of its own, so that the kernel compares two runs by what stands in them) -/
def Tst.run (w : Tst) : XP → Env → (Bool → Env → Prop) → Prop := w.rr
theorem Tst.mono (w : Tst) : ∀ {Z Z' : XP} {e : Env} {Q Q' : Bool → Env → Prop}, (∀ x, Z x → Z' x) → (∀ r e, Q r e → Q' r e) → w.run Z e Q → w.run Z' e Q' := w.mn
/-- an operand: how its content is read when the operation comes -/
structure Od where
  rr : XP → Env → ((Env → Option D) → Env → Prop) → Prop
  mn : ∀ {Z Z' : XP} {e : Env} {Q Q' : (Env → Option D) → Env → Prop}, (∀ x, Z x → Z' x) → (∀ r e, Q r e → Q' r e) → rr Z e Q → rr Z' e Q'
/-- (a def of its own, so that the kernel compares two runs by what stands in them) -/
def Od.run (w : Od) : XP → Env → ((Env → Option D) → Env → Prop) → Prop := w.rr
theorem Od.mono (w : Od) : ∀ {Z Z' : XP} {e : Env} {Q Q' : (Env → Option D) → Env → Prop}, (∀ x, Z x → Z' x) → (∀ r e, Q r e → Q' r e) → w.run Z e Q → w.run Z' e Q' := w.mn
/-- arguments -/
structure Args where
  rr : XP → Env → (List MV → Env → Prop) → Prop
  mn : ∀ {Z Z' : XP} {e : Env} {Q Q' : List MV → Env → Prop}, (∀ x, Z x → Z' x) → (∀ r e, Q r e → Q' r e) → rr Z e Q → rr Z' e Q'
/-- (a def of its own, so that the kernel compares two runs by what stands in them) -/
def Args.run (w : Args) : XP → Env → (List MV → Env → Prop) → Prop := w.rr
theorem Args.mono (w : Args) : ∀ {Z Z' : XP} {e : Env} {Q Q' : List MV → Env → Prop}, (∀ x, Z x → Z' x) → (∀ r e, Q r e → Q' r e) → w.run Z e Q → w.run Z' e Q' := w.mn
/-- what a loop goes over -/
structure Itr where
  rr : XP → Env → (List D → Env → Prop) → Prop
  mn : ∀ {Z Z' : XP} {e : Env} {Q Q' : List D → Env → Prop}, (∀ x, Z x → Z' x) → (∀ r e, Q r e → Q' r e) → rr Z e Q → rr Z' e Q'
/-- (a def of its own, so that the kernel compares two runs by what stands in them) -/
def Itr.run (w : Itr) : XP → Env → (List D → Env → Prop) → Prop := w.rr
theorem Itr.mono (w : Itr) : ∀ {Z Z' : XP} {e : Env} {Q Q' : List D → Env → Prop}, (∀ x, Z x → Z' x) → (∀ r e, Q r e → Q' r e) → w.run Z e Q → w.run Z' e Q' := w.mn
/-- a target -/
structure Tgt where
  slots : List Nat
  run : D → Env → (Env → Prop) → Prop
  mono : ∀ {x : D} {e : Env} {Q Q' : Env → Prop}, (∀ e, Q e → Q' e) → run x e Q → run x e Q'
/-- what a def promises -/
structure Spec where
  run : XP → List MV → (MV → Prop) → Prop
  mono : ∀ {Z Z' : XP} {as : List MV} {Q Q' : MV → Prop}, (∀ x, Z x → Z' x) → (∀ r, Q r → Q' r) → run Z as Q → run Z' as Q'
/-- a primitive's question -/
structure P1 where
  run : D → (MV → Prop) → Prop
  mono : ∀ {x : D} {Q Q' : MV → Prop}, (∀ r, Q r → Q' r) → run x Q → run x Q'
structure P2 where
  run : D → D → (MV → Prop) → Prop
  mono : ∀ {x y : D} {Q Q' : MV → Prop}, (∀ r, Q r → Q' r) → run x y Q → run x y Q'

/-- a value as data -/
def asD (m : MV) (Q : D → Prop) : Prop := match m with
  | .d x => Q x
  | .o c => Q c.data
  | .dk => False
theorem asD_mono {m : MV} {Q Q' : D → Prop} (h : ∀ x, Q x → Q' x) (q : asD m Q) : asD m Q' := by
  cases m <;> first | exact h _ q | exact q
/-- a value as an argument: frozen, or the deck -/
def asA : MV → MV
  | .d x => .d x
  | .o c => .d c.data
  | .dk => .dk
/-- what slot i holds, to be read on the spot -/
def peek (i : Nat) (e : Env) : Option D := match e[i]? with
  | some (some (.d x)) => some x
  | some (some (.o c)) => some c.data
  | _ => none

/-! ### expressions -/
def xVar (i : Nat) : Ex where
  rr Z e Q := match e[i]? with
    | some (some (.d x)) => Q (.d x) e
    | some (some (.o c)) => Q (.d c.data) (e.set i (some (.d c.data)))
    | some (some .dk) => Q .dk e
    | _ => False
  mn hZ hQ h := by
    split at h <;> first | exact hQ _ _ h | exact h
def xC (x : D) : Ex where
  rr _ e Q := Q (.d x) e
  mn _ hQ h := hQ _ _ h
def xNone : Ex := xC .none
def xBool (b : Bool) : Ex := xC (.bool b)
def xInt (i : Int) : Ex := xC (.int i)
def xStr (s : Str) : Ex := xC (.str s)
/-- a value, turned into data (a fresh list is frozen) -/
def odE (w : Ex) : Od where
  rr Z e Q := w.run Z e fun r e' => asD r fun x => Q (fun _ => some x) e'
  mn hZ hQ h := w.mono hZ (fun r e' q => asD_mono (fun x q => hQ _ _ q) q) h
/-- the slot i, read when the operation comes -/
def odS (i : Nat) : Od where
  rr _ e Q := (peek i e).isSome = true ∧ Q (peek i) e
  mn _ hQ h := ⟨h.1, hQ _ _ h.2⟩
def xOp1 (f : P1) (a : Od) : Ex where
  rr Z e Q := a.run Z e fun g e1 => ∃ x, g e1 = some x ∧ f.run x fun r => Q r e1
  mn hZ hQ h := a.mono hZ (fun g e1 ⟨x, h1, h2⟩ => ⟨x, h1, f.mono (fun r q => hQ _ _ q) h2⟩) h
def xOp2 (f : P2) (a b : Od) : Ex where
  rr Z e Q := a.run Z e fun g e1 => b.run Z e1 fun k e2 => ∃ x y, g e2 = some x ∧ k e2 = some y ∧ f.run x y fun r => Q r e2
  mn hZ hQ h := a.mono hZ (fun g e1 q => b.mono hZ (fun k e2 ⟨x, y, h1, h2, h3⟩ => ⟨x, y, h1, h2, f.mono (fun r q => hQ _ _ q) h3⟩) q) h

/-! ### arguments, displays, calls -/
def aNil : Args where
  rr _ e Q := Q [] e
  mn _ hQ h := hQ _ _ h
def aCons (w : Ex) (t : Args) : Args where
  rr Z e Q := w.run Z e fun r e1 => t.run Z e1 fun rs e2 => Q (asA r :: rs) e2
  mn hZ hQ h := w.mono hZ (fun r e1 q => t.mono hZ (fun rs e2 q => hQ _ _ q) q) h
/-- all of them data -/
def dats : List MV → Option (List D)
  | [] => some []
  | .d x :: r => (dats r).map (x :: ·)
  | _ :: _ => none
def xTup (t : Args) : Ex where
  rr Z e Q := t.run Z e fun ms e1 => ∃ xs, dats ms = some xs ∧ xs.length ≤ 16777216 ∧ Q (.d (.tuple xs)) e1
  mn hZ hQ h := t.mono hZ (fun ms e1 ⟨xs, h1, h2, h3⟩ => ⟨xs, h1, h2, hQ _ _ h3⟩) h
def xLst (t : Args) : Ex where
  rr Z e Q := t.run Z e fun ms e1 => ∃ xs, dats ms = some xs ∧ xs.length ≤ 16777216 ∧ Q (.o (.lst xs)) e1
  mn hZ hQ h := t.mono hZ (fun ms e1 ⟨xs, h1, h2, h3⟩ => ⟨xs, h1, h2, hQ _ _ h3⟩) h
def xCall (sp : Spec) (t : Args) : Ex where
  rr Z e Q := t.run Z e fun ms e1 => sp.run (fun _ => False) ms fun r => Q r e1
  mn hZ hQ h := t.mono hZ (fun ms e1 q => sp.mono (fun _ z => z) (fun r q => hQ _ _ q) q) h

/-! ### tests -/
def tB (w : Ex) : Tst where
  rr Z e Q := w.run Z e fun r e1 => ∃ b, r = .d (.bool b) ∧ Q b e1
  mn hZ hQ h := w.mono hZ (fun r e1 ⟨b, h1, h2⟩ => ⟨b, h1, hQ _ _ h2⟩) h
/-- the truth of a value -/
def truthD : D → Bool
  | .none => false
  | .bool b => b
  | .int i => i != 0
  | .str s => s.length != 0
  | .list xs => !xs.isEmpty
  | .tuple xs => !xs.isEmpty
  | .dict kvs => !kvs.isEmpty
def tTruth (a : Od) : Tst where
  rr Z e Q := a.run Z e fun g e1 => ∃ x, g e1 = some x ∧ (∀ s, x = .str s → s.length ≤ 16777216) ∧ Q (truthD x) e1
  mn hZ hQ h := a.mono hZ (fun g e1 ⟨x, h1, h2, h3⟩ => ⟨x, h1, h2, hQ _ _ h3⟩) h
def tAnd (a b : Tst) : Tst where
  rr Z e Q := a.run Z e fun c e1 => if c = true then b.run Z e1 Q else Q false e1
  mn hZ hQ h := a.mono hZ (fun c e1 q => by
    cases c
    · rw [if_neg (by decide)] at q ⊢
      exact hQ _ _ q
    · rw [if_pos rfl] at q ⊢
      exact b.mono hZ hQ q) h
def tOr (a b : Tst) : Tst where
  rr Z e Q := a.run Z e fun c e1 => if c = true then Q true e1 else b.run Z e1 Q
  mn hZ hQ h := a.mono hZ (fun c e1 q => by
    cases c
    · rw [if_neg (by decide)] at q ⊢
      exact b.mono hZ hQ q
    · rw [if_pos rfl] at q ⊢
      exact hQ _ _ q) h
def tNot (a : Tst) : Tst where
  rr Z e Q := a.run Z e fun c e1 => Q (!c) e1
  mn hZ hQ h := a.mono hZ (fun c e1 q => hQ _ _ q) h
def xIf (c : Tst) (a b : Ex) : Ex where
  rr Z e Q := c.run Z e fun k e1 => if k = true then a.run Z e1 Q else b.run Z e1 Q
  mn hZ hQ h := c.mono hZ (fun k e1 q => by
    cases k
    · rw [if_neg (by decide)] at q ⊢
      exact b.mono hZ hQ q
    · rw [if_pos rfl] at q ⊢
      exact a.mono hZ hQ q) h
/-- a and b, a or b, not a as values, all but the last of them bools -/
def xAnd (a b : Ex) : Ex where
  rr Z e Q := a.run Z e fun r e1 => ∃ c, r = .d (.bool c) ∧ if c = true then b.run Z e1 Q else Q (.d (.bool false)) e1
  mn hZ hQ h := a.mono hZ (fun r e1 ⟨c, h1, q⟩ => ⟨c, h1, by
    cases c
    · rw [if_neg (by decide)] at q ⊢
      exact hQ _ _ q
    · rw [if_pos rfl] at q ⊢
      exact b.mono hZ hQ q⟩) h
def xOr (a b : Ex) : Ex where
  rr Z e Q := a.run Z e fun r e1 => ∃ c, r = .d (.bool c) ∧ if c = true then Q (.d (.bool true)) e1 else b.run Z e1 Q
  mn hZ hQ h := a.mono hZ (fun r e1 ⟨c, h1, q⟩ => ⟨c, h1, by
    cases c
    · rw [if_neg (by decide)] at q ⊢
      exact b.mono hZ hQ q
    · rw [if_pos rfl] at q ⊢
      exact hQ _ _ q⟩) h
def xNot (a : Ex) : Ex where
  rr Z e Q := a.run Z e fun r e1 => ∃ c, r = .d (.bool c) ∧ Q (.d (.bool (!c))) e1
  mn hZ hQ h := a.mono hZ (fun r e1 ⟨c, h1, q⟩ => ⟨c, h1, hQ _ _ q⟩) h

/-! ### targets, iterables -/
def gName (i : Nat) : Tgt where
  slots := [i]
  run x e Q := Q (e.set i (some (.d x)))
  mono hQ h := hQ _ h
/-- several targets for the items of a tuple -/
structure Tgts where
  slots : List Nat
  n : Nat
  run : List D → Env → (Env → Prop) → Prop
  mono : ∀ {xs : List D} {e : Env} {Q Q' : Env → Prop}, (∀ e, Q e → Q' e) → run xs e Q → run xs e Q'
def gNil : Tgts where
  slots := []
  n := 0
  run xs e Q := xs = [] ∧ Q e
  mono hQ h := ⟨h.1, hQ _ h.2⟩
def gCons (g : Tgt) (r : Tgts) : Tgts where
  slots := g.slots ++ r.slots
  n := r.n + 1
  run xs e Q := ∃ x ys, xs = x :: ys ∧ g.run x e fun e1 => r.run ys e1 Q
  mono hQ h := let ⟨x, ys, h1, h2⟩ := h; ⟨x, ys, h1, g.mono (fun e1 q => r.mono hQ q) h2⟩
def gTup (r : Tgts) : Tgt where
  slots := r.slots
  run x e Q := ∃ xs, x = .tuple xs ∧ xs.length = r.n ∧ r.run xs e Q
  mono hQ h := let ⟨xs, h1, h0, h2⟩ := h; ⟨xs, h1, h0, r.mono hQ h2⟩
/-- the items of a list or a tuple -/
def items : D → Option (List D)
  | .list xs => some xs
  | .tuple xs => some xs
  | _ => none
def iTup (w : Ex) : Itr where
  rr Z e Q := w.run Z e fun r e1 => asD r fun x => ∃ xs, x = .tuple xs ∧ Q xs e1
  mn hZ hQ h := w.mono hZ (fun r e1 q => asD_mono (fun x ⟨xs, h1, h2⟩ => ⟨xs, h1, hQ _ _ h2⟩) q) h
def iLst (w : Ex) : Itr where
  rr Z e Q := w.run Z e fun r e1 => asD r fun x => ∃ xs, x = .list xs ∧ Q xs e1
  mn hZ hQ h := w.mono hZ (fun r e1 q => asD_mono (fun x ⟨xs, h1, h2⟩ => ⟨xs, h1, hQ _ _ h2⟩) q) h
/-- lo, lo + 1, .. n of them -/
def rng (lo : Int) (n : Nat) : List D := (List.range n).map fun i : Nat => PyData.int (lo + (i : Int))
def iRange1 (t : Args) : Itr where
  rr Z e Q := t.run Z e fun ms e1 => ∃ j : Int, ms = [.d (.int j)] ∧ (-(2 ^ 62) ≤ j ∧ j < 2 ^ 62) ∧ Q (rng 0 j.toNat) e1
  mn hZ hQ h := t.mono hZ (fun r e1 ⟨j, h1, h2, h3⟩ => ⟨j, h1, h2, hQ _ _ h3⟩) h
def iRange2 (t : Args) : Itr where
  rr Z e Q := t.run Z e fun ms e1 => ∃ i j : Int, ms = [.d (.int i), .d (.int j)] ∧ (-(2 ^ 62) ≤ i ∧ i < 2 ^ 62 ∧ -(2 ^ 62) ≤ j ∧ j < 2 ^ 62) ∧ Q (rng i (j - i).toNat) e1
  mn hZ hQ h := t.mono hZ (fun r e1 ⟨i, j, h1, h2, h3⟩ => ⟨i, j, h1, h2, hQ _ _ h3⟩) h

/-! ### comprehensions -/
def wipe (e : Env) : List Nat → Env
  | [] => e
  | i :: r => (wipe e r).set i none
/-- [elt for tg in it if tt]; vs: its own slots -/
def xLc (it : Itr) (g : Tgt) (tt : Tst) (elt : Ex) (vs : List Nat) : Ex where
  rr Z e Q := it.run Z e fun xs e1 => ∃ W : Nat → List D → Prop, W 0 [] ∧
    (∀ i x acc, xs[i]? = some x → W i acc → acc.length ≤ i → g.run x (wipe e1 vs) fun e2 => wipe e2 vs = wipe e1 vs ∧ tt.run (fun _ => False) e2 fun b e3 =>
      if b = true then elt.run (fun _ => False) e3 fun r e4 => wipe e4 vs = wipe e1 vs ∧ asD r fun y => W (i + 1) (acc ++ [y]) else wipe e3 vs = wipe e1 vs ∧ W (i + 1) acc) ∧
    xs.length ≤ 16777216 ∧ (∀ i ∈ vs, ∀ c, e1[i]? ≠ some (some (.o c))) ∧ ∀ acc, W xs.length acc → Q (.o (.lst acc)) e1
  mn hZ hQ h := it.mono hZ (fun xs e1 ⟨W, h0, h1, h2, h3, h4⟩ => ⟨W, h0, h1, h2, h3, fun acc w => hQ _ _ (h4 acc w)⟩) h
def tYes : Tst where
  rr _ e Q := Q true e
  mn _ hQ h := hQ _ _ h

/-! ### statements -/
/-- what a name holds behind name = value -/
def slotOf : MV → MV := id
def sSet (i : Nat) (w : Ex) : Stm where
  rr Z e O := w.run Z e fun r e1 => O.nx (e1.set i (some r))
  mn hZ hO h := w.mono hZ (fun r e1 q => hO.nx _ q) h
def sExpr (w : Ex) : Stm where
  rr Z e O := w.run Z e fun _ e1 => O.nx e1
  mn hZ hO h := w.mono hZ (fun r e1 q => hO.nx _ q) h
def sRet (w : Ex) : Stm where
  rr Z e O := w.run Z e fun r _ => r ≠ .dk ∧ O.rt r
  mn hZ hO h := w.mono hZ (fun r e1 q => ⟨q.1, hO.rt _ q.2⟩) h
/-- return of a slot: what it owns goes out -/
def sRetS (i : Nat) : Stm where
  rr Z e O := match e[i]? with
    | some (some m) => m ≠ .dk ∧ O.rt m
    | _ => False
  mn hZ hO h := by
    split at h
    · exact ⟨h.1, hO.rt _ h.2⟩
    · exact h
def sRetN : Stm where
  rr _ _ O := O.rt (.d .none)
  mn _ hO h := hO.rt _ h
def sSeq (a b : Stm) : Stm where
  rr Z e O := a.run Z e { O with nx := fun e1 => b.run Z e1 O }
  mn {Z Z' e O O'} hZ hO h := a.mono (O := { O with nx := fun e1 => b.run Z e1 O }) (O' := { O' with nx := fun e1 => b.run Z' e1 O' }) hZ ⟨fun e1 q => b.mono hZ hO q, hO.rt, hO.bk, hO.ct⟩ h
def sSkip : Stm where
  rr _ e O := O.nx e
  mn _ hO h := hO.nx _ h
def sBreak : Stm where
  rr _ e O := O.bk e
  mn _ hO h := hO.bk _ h
def sCont : Stm where
  rr _ e O := O.ct e
  mn _ hO h := hO.ct _ h
def sIf (c : Tst) (a b : Stm) : Stm where
  rr Z e O := c.run Z e fun k e1 => if k = true then a.run Z e1 O else b.run Z e1 O
  mn hZ hO h := c.mono hZ (fun k e1 q => by
    cases k
    · rw [if_neg (by decide)] at q ⊢
      exact b.mono hZ hO q
    · rw [if_pos rfl] at q ⊢
      exact a.mono hZ hO q) h
/-- W: the invariant by the turn -/
def sFor (it : Itr) (g : Tgt) (b : Stm) : Stm where
  rr Z e O := it.run Z e fun xs e1 => ∃ W : Nat → Env → Prop, W 0 e1 ∧ (∀ i x e2, xs[i]? = some x → W i e2 → g.run x e2 fun e3 => b.run Z e3 { nx := W (i + 1), ct := W (i + 1), bk := O.nx, rt := O.rt }) ∧ ∀ e2, W xs.length e2 → O.nx e2
  mn {Z Z' e O O'} hZ hO h := it.mono hZ (fun xs e1 ⟨W, h0, h1, h2⟩ => ⟨W, h0, fun i x e2 hx w => g.mono (fun e3 q => b.mono (O := { nx := W (i + 1), ct := W (i + 1), bk := O.nx, rt := O.rt }) (O' := { nx := W (i + 1), ct := W (i + 1), bk := O'.nx, rt := O'.rt }) hZ ⟨fun _ z => z, hO.rt, hO.nx, fun _ z => z⟩ q) (h1 i x e2 hx w), fun e2 w => hO.nx _ (h2 e2 w)⟩) h
/-- W: the invariant by a measure -/
def sWhile (c : Tst) (b : Stm) : Stm where
  rr Z e O := ∃ W : Nat → Env → Prop, (∃ m, W m e) ∧ ∀ m e1, W m e1 → c.run Z e1 fun k e2 => if k = true then b.run Z e2 { nx := fun e3 => ∃ m', m' < m ∧ W m' e3, ct := fun e3 => ∃ m', m' < m ∧ W m' e3, bk := O.nx, rt := O.rt } else O.nx e2
  mn {Z Z' e O O'} hZ hO h := let ⟨W, h0, h1⟩ := h; ⟨W, h0, fun m e1 w => c.mono hZ (fun k e2 q => by
    cases k
    · rw [if_neg (by decide)] at q ⊢
      exact hO.nx _ q
    · rw [if_pos rfl] at q ⊢
      exact b.mono (O := { nx := fun e3 => ∃ m', m' < m ∧ W m' e3, ct := fun e3 => ∃ m', m' < m ∧ W m' e3, bk := O.nx, rt := O.rt }) (O' := { nx := fun e3 => ∃ m', m' < m ∧ W m' e3, ct := fun e3 => ∃ m', m' < m ∧ W m' e3, bk := O'.nx, rt := O'.rt }) hZ ⟨fun _ z => z, hO.rt, hO.nx, fun _ z => z⟩ q) (h1 m e1 w)⟩

/-- a def by its body: n names, the parameters first -/
def entry (n : Nat) (as : List MV) : Env := as.map some ++ List.replicate (n - as.length) none
end Mx

-- MxH
/-! Mx: tuples whose own object is known (they have no dict): made, cut, put together, and their methods. -/
namespace Mx
open PySem PySem.Spec PyProof.Rows L2

/-- a tuple that is read: its own object is known to have no dict -/
def SqF (K : PySem.W.Frag) (H : Hp) (a : Addr) (xs : List V) : Prop :=
  (∃ o, H a = some (.frz o (.tup xs)) ∧ o.dict = none) ∨ ∃ (o : Obj) (its : Array Value) (n : Nat), K.lookup a = some o ∧ o.cls = .type "tuple" ∧ o.dict = none ∧ o.data = .seq its n ∧ its.size ≤ sizeLine ∧ Vals xs its.toList
theorem SqF.seq {K : PySem.W.Frag} {H : Hp} {a : Addr} {xs : List V} (h : SqF K H a xs) : SqT K H a xs := by
  rcases h with ⟨o, h, _⟩ | ⟨o, its, n, h1, h2, _, h4, h5, h6⟩
  · exact .inl (.inr ⟨o, h⟩)
  · exact .inr ⟨o, its, n, h1, h2, h4, h5, h6⟩
/-- what a new tuple of xs asks -/
def newT (xs : List V) (H : Hp) (Q : VK) : Prop := ∀ p o, H p = none → o.dict = none → Q (.ref p) (upd H p (.frz o (.tup xs)))
section
variable {X : Cx} {pins : List (Addr × Obj)} {σ : L2.St} {H : Hp} {s : Shared} {Q : VK}
theorem SqF.obj {K : PySem.W.Frag} {P : Program} {w : World} {h : Heap} {a : Addr} {xs : List V} (q : SqF K H a xs) (ok : HOk P w H h) (kin : K.In h) : ∃ ob, h.get? a = some ob ∧ ob.cls = .type "tuple" ∧ ob.dict = none := by
  rcases q with ⟨o, e, d⟩ | ⟨o, its, n, h1, h2, h3, _⟩
  · obtain ⟨g, _, its, _, ob, g2, c, _⟩ := ok a _ e
    rw [g] at g2
    cases g2
    exact ⟨o, g, c, d⟩
  · exact ⟨o, kin a o h1, h2, h3⟩
/-- behind the making of a tuple at the heap's end -/
theorem Inv.tupF {xs : List V} {its : List Value} {h' : Heap} {t' : Nat} (I : Inv X pins σ H s) (kp : ∀ b o, s.heap.get? b = some o → h'.get? b = some o) (r : Vals xs its) (z : xs.length ≤ sizeLine) (q : newT xs H Q) :
    EP X pins σ Q (.ref h'.objs.size) { s with heap := h'.push { cls := .type "tuple", data := .seq its.toArray }, toks := t' } := by
  have I1 : Inv X pins σ H { s with heap := h' } := I.kept (t' := s.toks) kp
  have hf : H h'.objs.size = none := I1.hok.fresh (Nat.le_refl _)
  have g : (h'.push { cls := .type "tuple", data := .seq its.toArray }).get? h'.objs.size = some { cls := .type "tuple", data := .seq its.toArray } := Heap.get?_push_size _ rfl
  exact ⟨.ref h'.objs.size, _, I1.laid (t' := t') (o := .frz { cls := .type "tuple", data := .seq its.toArray } (.tup xs)) (fun b ob q => Heap.get?_push_of_some _ q) (Nat.le_refl _) ⟨g, z, its, r, _, g, rfl, _, rfl⟩, rfl, q _ _ hf rfl⟩
end
section
variable {X : Cx} {es : List Expr} {t : TA} {pos : Pos}
/-- (e, ..) -/
theorem pe_tupF {x1} (h : PA X es t) : PE X (.Tuple es x1 pos) (fun σ H Q => t σ H fun xs H1 => xs.length ≤ sizeLine ∧ newT xs H1 Q) :=
  ⟨fun pins s σ H Q I hq => wpAny_Tuple_spliced (thn (h.run pos pins s σ H _ I hq) fun us s1 ⟨xs, H1, I1, r, z, q⟩ => ⟨by rw [← r.length]; exact z, Inv.tupF (t' := s1.toks) I1 (fun _ _ e => e) r z q⟩)⟩
def rCatF (K : PySem.W.Frag) : R2 := fun x y H Q => ∃ a b xs ys, x = .ref a ∧ y = .ref b ∧ SqT K H a xs ∧ SqT K H b ys ∧ xs.length + ys.length ≤ sizeLine ∧ (xs = [] → Q (.ref b) H) ∧ (ys = [] → Q (.ref a) H) ∧ newT (xs ++ ys) H Q
theorem op_catF : OpR X (binaryOp .Add) (rCatF X.K) := by
  intro pins s σ H x y v u Q I rx ry ⟨a, b, xs, ys, ex, ey, ha, hb, hz, q0, q1, q2⟩
  subst ex ey
  obtain rfl := (show v = Value.ref a from rx)
  obtain rfl := (show u = Value.ref b from ry)
  obtain ⟨its, r1, p1, _⟩ := I.tuple ha
  obtain ⟨its2, r2, p2, _⟩ := I.tuple hb
  by_cases hx : xs = []
  · subst hx
    cases r1
    exact cat_tup0 p1 p2 ⟨.ref b, H, I, rfl, q0 rfl⟩
  · refine HT.cat_tup p1 p2 (fun e => hx (r1.nil_iff.mp e)) (fun e => ⟨.ref a, H, I, rfl, q1 (r2.nil_iff.mp e)⟩) (fun _ => ?_) (by rw [← r1.length, ← r2.length]; exact hz)
    exact Inv.tupF (t' := s.toks) I (fun _ _ e => e) (r1.append r2) (by rw [List.length_append]; exact hz) q2
def rSlF (K : PySem.W.Frag) : V → Option Int → Option Int → Hp → VK → Prop := fun x lo hi H Q => ∃ a xs, x = .ref a ∧ SqT K H a xs ∧ (cutV xs lo hi = xs → Q (.ref a) H) ∧ newT (cutV xs lo hi) H Q
theorem sl_tupF : SlR X (rSlF X.K) := by
  intro pins s σ H x v vl vu lo hi sl Q I rx hs pl pu ⟨a, xs, ex, hx, q1, q2⟩
  subst ex
  obtain rfl := (show v = Value.ref a from rx)
  obtain ⟨its, r, ht, hz⟩ := I.tuple hx
  have hlen : its.toArray.size = xs.length := by rw [List.size_toArray]; exact r.length.symm
  refine ⟨"tuple", _, PyProof.Rows.slot_tuple_getitem.lookup, ht.typeIs, ?_⟩
  by_cases hw : HT.sIx xs.length 0 lo = 0 ∧ HT.sIx xs.length xs.length hi = xs.length
  · refine getItem_tuple_whole ht hs pl pu (by rw [hlen]; exact hw) ⟨.ref a, H, I, rfl, q1 ?_⟩
    unfold cutV
    rw [hw.1, hw.2, List.drop_zero, Nat.sub_zero, List.take_length]
  · refine HT.getItem_tuple_cut ht hs pl pu (by rw [hlen]; exact hw) ?_ (by rw [hlen]; exact hz)
    rw [hlen]
    exact Inv.tupF (t' := s.toks) I (fun _ _ e => e) ((r.drop _).take _) (Nat.le_trans (cutV_length xs lo hi) hz) q2
/-- tuple(a list), tuple(a tuple) -/
theorem call_tupF : CallR X (.type "tuple") (fun xs H Q => ∃ p ys, xs = [.ref p] ∧ ((SqL X.K H p ys ∧ newT ys H Q) ∨ (SqT X.K H p ys ∧ Q (.ref p) H))) := by
  intro pins s σ H xs us Q I r ⟨p, ys, ex, h⟩
  subst ex
  obtain ⟨u, rfl, rx⟩ := vals1 r
  obtain rfl := (show u = Value.ref p from rx)
  rcases h with ⟨hq, q⟩ | ⟨hq, q⟩
  · obtain ⟨its, r', pl, hz⟩ := I.list hq
    exact call_tuple_list pl.isList (fun h' kp => Inv.tupF (t' := s.toks) I kp r' hz q) (by rw [List.size_toArray, ← r'.length]; exact hz)
  · obtain ⟨its, r', pl, hz⟩ := I.tuple hq
    exact call_tuple_same pl ⟨.ref p, H, I, rfl, q⟩

/-! ### a tuple so many times -/
theorem mul_one (l : Addr) (items : Array Value) (n : Nat) (sl : Array (Option Value)) (x : Int) (u : Tok) (c0 : (decide (x < -(2 ^ 63)) || decide (x ≥ 2 ^ 63)) = false) (c1 : (items.isEmpty || x == 1) = true) :
    Meets (Builtin.«tuple.__mul__» ⟨[.ref l, .int x u], []⟩) (fun _ R s => s.heap.get? l = some { cls := .type "tuple", dict := none, data := .seq items n, slots := sl } ∧ R (.ok (.ret (Value.ref l))) s) :=
  .of_wp fun prog w A R s h => by
    obtain ⟨hp, g, d, tk, os⟩ := s
    obtain ⟨hl, h⟩ := h
    have f1 := AutoSeq1.idx_int
    wp_walk using wpAny_loadPart' hl
    repeat (first
      | (refine wpAny_ite_false (decide_eq_false (by rw [c0]; exact Bool.false_ne_true)) ?_; wp_walk using wpAny_loadPart' hl)
      | (refine wpAny_ite_true (decide_eq_true (by rw [c1])) ?_; wp_walk using wpAny_loadPart' hl))
    exact ⟨_, rfl, h⟩
theorem mul_nought (l : Addr) (items : Array Value) (n : Nat) (sl : Array (Option Value)) (x : Int) (u : Tok) (c0 : (decide (x < -(2 ^ 63)) || decide (x ≥ 2 ^ 63)) = false) (c1 : (items.isEmpty || x == 1) = false) (c2 : (decide (x ≤ 0) || items.isEmpty) = true) :
    Meets (Builtin.«tuple.__mul__» ⟨[.ref l, .int x u], []⟩) (fun _ R s => s.heap.get? l = some { cls := .type "tuple", dict := none, data := .seq items n, slots := sl } ∧
      R (.ok (.ret (Value.ref s.heap.objs.size))) { s with heap := s.heap.push { cls := .type "tuple", data := .seq #[] }, toks := s.toks }) :=
  .of_wp fun prog w A R s h => by
    obtain ⟨hp, g, d, tk, os⟩ := s
    obtain ⟨hl, h⟩ := h
    have f1 := AutoSeq1.idx_int
    wp_walk using wpAny_loadPart' hl
    repeat (first
      | (refine wpAny_ite_false (decide_eq_false (by rw [c0]; exact Bool.false_ne_true)) ?_; wp_walk using wpAny_loadPart' hl)
      | (refine wpAny_ite_false (decide_eq_false (by rw [c1]; exact Bool.false_ne_true)) ?_; wp_walk using wpAny_loadPart' hl)
      | (refine wpAny_ite_true (decide_eq_true (by rw [c2])) ?_; wp_walk using wpAny_loadPart' hl))
    exact ⟨_, rfl, h⟩
def rMulF (K : PySem.W.Frag) : R2 := fun x y H Q => ∃ l k xs, x = .ref l ∧ y = .int k ∧ SqT K H l xs ∧ (-(2 ^ 63) ≤ k ∧ k < 2 ^ 63) ∧ xs.length * k.toNat ≤ 1000000 ∧ ((List.replicate k.toNat xs).flatten = xs → Q (.ref l) H) ∧ newT (List.replicate k.toNat xs).flatten H Q
theorem op_mulF : OpR X (binaryOp .Mult) (fun x y H Q => ∃ l, x = .ref l ∧ (∃ xs, SqF X.K H l xs) ∧ rMulF X.K x y H Q) := by
  intro pins s σ H x y v u Q I rx ry ⟨l0, e0, ⟨zs, hF⟩, l, k, xs, ex, ey, hT, hb, hz, q1, q2⟩
  subst ex ey
  obtain rfl : l = l0 := V.ref.inj e0
  obtain rfl := (show v = Value.ref l from rx)
  obtain ⟨t, rfl⟩ := (show ∃ t, u = Value.int k t from ry)
  obtain ⟨its, r, ⟨⟨cls, dd, data, sl⟩, ho, hc, n, hd⟩, hs⟩ := I.tuple hT
  simp only at hc hd
  subst hc hd
  obtain ⟨ob, e1, _, e2⟩ := hF.obj I.hok I.kIn
  rw [ho] at e1
  cases e1
  obtain rfl := (show dd = none from e2)
  have hle : its.length = xs.length := r.length.symm
  have c0 : (decide (k < -(2 ^ 63)) || decide (k ≥ 2 ^ 63)) = false := by
    rw [decide_eq_false (by omega), decide_eq_false (by omega)]; rfl
  by_cases h1 : its.toArray.isEmpty = true ∨ k = 1
  · have c1 : (its.toArray.isEmpty || k == 1) = true := by
      rcases h1 with h1 | h1
      · rw [h1]; rfl
      · rw [h1]; simp
    have ee : (List.replicate k.toNat xs).flatten = xs := by
      rcases h1 with h1 | h1
      · have : xs = [] := List.eq_nil_of_length_eq_zero (by
          rw [← hle]
          have z := congrArg Array.size (Array.isEmpty_iff.mp h1)
          simpa using z)
        subst this
        simp
      · subst h1
        show (List.replicate 1 xs).flatten = xs
        simp
    exact wpAny_binaryOp_repeat_ref (T := "tuple") (U := "int") (by decide) ⟨_, ho, rfl⟩ (fun s' => typeIs_int s' k t) noFill_tuple_mul F.fills_int_mul F.slot_int_rmul repeat_tuple F.slot_int_index.lookup
      (call_meets F.slot_int_rmul (typeIs_int s k t) F.entry_int_rmul (F.args_int_rmul_2 _ _) (int_rmul_tuple k t l its.toArray n none sl)
        ⟨ho, rfl, ⟨_, ho, rfl⟩, call_meets F.slot_tuple_mul ⟨_, ho, rfl⟩ F.entry_tuple_mul (F.args_tuple_mul_2 _ _) (mul_one l its.toArray n sl k t c0 c1) ⟨ho, ⟨.ref l, H, I, rfl, q1 ee⟩⟩⟩)
  · have hne : its.toArray.isEmpty = false := by
      cases q : its.toArray.isEmpty with
      | false => rfl
      | true => exact absurd (Or.inl q) h1
    have hk1 : k ≠ 1 := fun z => h1 (Or.inr z)
    have c1 : (its.toArray.isEmpty || k == 1) = false := by
      rw [hne, Bool.false_or]
      exact beq_eq_false_iff_ne.mpr hk1
    by_cases h2 : k ≤ 0
    · have c2 : (decide (k ≤ 0) || its.toArray.isEmpty) = true := by rw [decide_eq_true h2]; rfl
      have ee : (List.replicate k.toNat xs).flatten = [] := by
        rw [show k.toNat = 0 by omega]; rfl
      rw [ee] at q2
      exact wpAny_binaryOp_repeat_ref (T := "tuple") (U := "int") (by decide) ⟨_, ho, rfl⟩ (fun s' => typeIs_int s' k t) noFill_tuple_mul F.fills_int_mul F.slot_int_rmul repeat_tuple F.slot_int_index.lookup
        (call_meets F.slot_int_rmul (typeIs_int s k t) F.entry_int_rmul (F.args_int_rmul_2 _ _) (int_rmul_tuple k t l its.toArray n none sl)
          ⟨ho, rfl, ⟨_, ho, rfl⟩, call_meets F.slot_tuple_mul ⟨_, ho, rfl⟩ F.entry_tuple_mul (F.args_tuple_mul_2 _ _) (mul_nought l its.toArray n sl k t c0 c1 c2) ⟨ho, Inv.tupF (t' := s.toks) (its := []) I (fun _ _ e => e) .nil (Nat.zero_le _) q2⟩⟩)
    · have c2 : (decide (k ≤ 0) || its.toArray.isEmpty) = false := by rw [decide_eq_false h2, hne]; rfl
      have hsz0 : its.toArray.size = xs.length := by rw [List.size_toArray, hle]
      have hm : ((its.toArray.size : Nat) : Int) * k ≤ 1000000 := by
        rw [hsz0, show k = ((k.toNat : Nat) : Int) by omega, ← Int.natCast_mul]
        omega
      have c4 : Builtin.Tuple.tupleTooMany (((its.toArray.size : Nat) : Int) * k) = false := by
        unfold Builtin.Tuple.tupleTooMany
        rw [sizeLine_eq]
        exact decide_eq_false (by omega)
      have flen : (List.replicate k.toNat its).flatten.length ≤ sizeLine := by
        rw [PyProof.Rows.lm_len_rep_flat, hle, sizeLine_eq, Nat.mul_comm]
        omega
      refine wpAny_binaryOp_repeat_ref (T := "tuple") (U := "int") (by decide) ⟨_, ho, rfl⟩ (fun s' => typeIs_int s' k t) noFill_tuple_mul F.fills_int_mul F.slot_int_rmul repeat_tuple F.slot_int_index.lookup
        (call_meets F.slot_int_rmul (typeIs_int s k t) F.entry_int_rmul (F.args_int_rmul_2 _ _) (int_rmul_tuple k t l its.toArray n none sl)
          ⟨ho, rfl, ⟨_, ho, rfl⟩, call_meets F.slot_tuple_mul ⟨_, ho, rfl⟩ F.entry_tuple_mul (F.args_tuple_mul_2 _ _) (tuple_mulW l its.toArray n none sl k t c0 c1 c2 (by omega) c4 (by rw [size_rep, List.size_toArray]; exact flen)) ⟨ho, ?_⟩⟩)
      rw [size_rep]
      exact Inv.tupF (t' := s.toks) I (fun _ _ e => e) (r.rep k.toNat) (by rw [PyProof.Rows.lm_len_rep_flat, sizeLine_eq, Nat.mul_comm]; omega) q2

/-! ### a tuple's methods -/
theorem pe_bmT {o e : Expr} {es : List Expr} {to : TE} {t : TA} {name : Str} {apos cpos : Pos} {id : String} {r : V → List V → Hp → VK → Prop} (slot : Slot "tuple" name id) (hty : typeOf (.builtin id) = pure (.type "method_descriptor")) (hm : MtR X id r) (ho : PE X o to) (ha : PA X (e :: es) t)
    (hbase : attributeBase o name X.env (eval o X.env) = eval o X.env := by rfl)
    (hfew : ((backTo cpos (starEach (e :: es) X.env)).all (fun x => !x.1) && (backToKw cpos (keywordEach [] X.env)).all (fun x => x.1.isSome) && decide ((e :: es).length + ([] : List Keyword).length + (if ([] : List Keyword).isEmpty then 0 else 1) < 30)) = true := by rfl)
    (hline : (apos.endLine == cpos.line) = true := by rfl) (hs : starEach (e :: es) X.env = (false, eval e X.env) :: starEach es X.env := by rfl) (hplain : (backTo cpos (starEach es X.env)).any (·.1) = false := by rfl) :
    PE X (.Call (.Attribute o name apos) (e :: es) [] cpos) (fun σ H Q => to σ H fun x H1 => (∃ a xs, x = .ref a ∧ SqF X.K H1 a xs) ∧ t σ H1 fun vs H2 => r x vs H2 Q) :=
  ⟨fun pins s σ H Q I h => wpAny_Call_method_late hbase hfew hline rfl (thn (ho.run pins s σ H _ I h) fun v s1 ⟨x, H1, I1, r1, ⟨a, xs, ex, hq⟩, q1⟩ => by
    subst ex
    obtain rfl := (show v = Value.ref a from r1)
    obtain ⟨ob, g, c, dn⟩ := hq.obj I1.hok I1.kIn
    refine ⟨"tuple", id, PySem.F.plainAttrs_tuple, slot, hty, ⟨ob, g, c⟩, fun a2 e2 => by cases e2; exact ⟨ob, g, dn⟩, ?_⟩
    have hA := ha.run cpos pins s1 σ H1 _ I1 q1
    rw [hs] at hA ⊢
    exact Calls.callWith_builtin (by show (false || (backTo cpos (starEach es X.env)).any (·.1)) = false; rw [hplain]; rfl)
      (Calls.evalArgs_plain (thn hA fun us s2 ⟨vs, H2, I2, r2, q2⟩ => hm pins s2 σ H2 _ vs _ us Q I2 r1 r2 q2)))⟩
/-- t.index(x), all of them flat -/
def rIndexF (K : PySem.W.Frag) : V → List V → Hp → VK → Prop := fun x xs H Q => ∃ (a : Addr) (ys : List V) (y : V) (j : Nat) (z : V), x = V.ref a ∧ xs = [y] ∧ SqT K H a ys ∧ flatV y = true ∧ ys.all flatV = true ∧ ys[j]? = some z ∧ eqV z y = true ∧
  (∀ (m : Nat) (z' : V), m < j → ys[m]? = some z' → eqV z' y = false) ∧ Q (.int (j : Nat)) H
theorem mt_indexF : MtR X "tuple.index" (rIndexF X.K) := by
  intro pins s σ H x xs v us Q I rx rxs ⟨a, ys, y, j, z, ex, exs, hs, fy, fys, hz, hzj, hno, q⟩
  subst ex exs
  obtain rfl := (show v = Value.ref a from rx)
  obtain ⟨uy, rfl, ry⟩ := vals1 rxs
  obtain ⟨its, rv, ⟨⟨cls, dd, data, sl⟩, ho, hc, n, hd⟩, hlen⟩ := I.tuple hs
  simp only at hc hd
  subst hc hd
  obtain ⟨u, hu, ru⟩ := rv.get hz
  obtain ⟨hjl, hje⟩ := List.getElem?_eq_some_iff.mp hu
  have hvl := rv.length
  have hj : j < its.toArray.size := by simpa using hjl
  refine call_meets PySem.F.slot_tuple_index ⟨_, ho, rfl⟩ PySem.F.entry_tuple_index (PySem.F.args_tuple_index_2 _ _)
    (TI.tuple_indexAt a its.toArray n dd sl uy (eqU y) j hj ?_ ?_) ⟨ho, fun u' hu' => mem_eqAt ry fy rv fys u' (by simpa using hu'), ⟨.int (j : Nat), H, I.tok _, ⟨_, rfl⟩, q⟩⟩
  · have e1 : its.toArray[j] = u := by simpa using hje
    rw [e1, eqU_of ru (flat_at fys hz)]
    exact hzj
  · intro m hm hmj
    have hml : m < its.length := by simpa using hm
    have hmy : m < ys.length := by omega
    have hy' : ys[m]? = some ys[m] := List.getElem?_eq_getElem hmy
    obtain ⟨u2, hu2, ru2⟩ := rv.get hy'
    obtain ⟨_, hme⟩ := List.getElem?_eq_some_iff.mp hu2
    have e1 : its.toArray[m] = u2 := by simpa using hme
    rw [e1, eqU_of ru2 (flat_at fys hy')]
    exact hno m _ hmj hy'
end
end Mx

-- MxB
/-! Mx over the hand layer: data in the heap, the state, and the rules. -/
namespace Mx
open PySem PySem.Spec PyProof.Rows L2

/-! ### data in the heap -/
def keyD : Key → D
  | .inl i => .int i
  | .inr s => .str s
mutual
inductive Dq (K : PySem.W.Frag) (H : Hp) : V → D → Prop
  | non : Dq K H .non .none
  | bl (b : Bool) : Dq K H (.bl b) (.bool b)
  | int (i : Int) : Dq K H (.int i) (.int i)
  | str (s : Str) : Dq K H (.str s) (.str s)
  | lst {a : Addr} {vs : List V} {ds : List D} : H a = some (.lst vs) → DqAll K H vs ds → Dq K H (.ref a) (.list ds)
  | tup {a : Addr} {vs : List V} {ds : List D} : SqF K H a vs → DqAll K H vs ds → Dq K H (.ref a) (.tuple ds)
  | dic {a : Addr} {ks : List (Key × V)} {kvs : List (D × D)} : Rd H a (.dK ks) → DqKV K H ks kvs → Dq K H (.ref a) (.dict kvs)
inductive DqAll (K : PySem.W.Frag) (H : Hp) : List V → List D → Prop
  | nil : DqAll K H [] []
  | cons {v : V} {vs : List V} {d : D} {ds : List D} : Dq K H v d → DqAll K H vs ds → DqAll K H (v :: vs) (d :: ds)
inductive DqKV (K : PySem.W.Frag) (H : Hp) : List (Key × V) → List (D × D) → Prop
  | nil : DqKV K H [] []
  | cons {k : Key} {v : V} {ks : List (Key × V)} {d : D} {kvs : List (D × D)} : Dq K H v d → DqKV K H ks kvs → DqKV K H ((k, v) :: ks) ((keyD k, d) :: kvs)
end
theorem same_seqT {K : PySem.W.Frag} {H H' : Hp} {a : Addr} {xs : List V} (e : Same H H') (h : SqT K H a xs) : SqT K H' a xs := by
  rcases h with (h | ⟨o, h⟩) | h
  · exact Or.inl (Or.inl (e _ _ h))
  · exact Or.inl (Or.inr ⟨o, e _ _ h⟩)
  · exact Or.inr h
theorem same_seqF {K : PySem.W.Frag} {H H' : Hp} {a : Addr} {xs : List V} (e : Same H H') (h : SqF K H a xs) : SqF K H' a xs := by
  rcases h with ⟨o, h, d⟩ | h
  · exact Or.inl ⟨o, e _ _ h, d⟩
  · exact Or.inr h
theorem same_rd {H H' : Hp} {a : Addr} {u : HO} (e : Same H H') (h : Rd H a u) : Rd H' a u := by
  rcases h with h | ⟨o, h⟩
  · exact Or.inl (e _ _ h)
  · exact Or.inr ⟨o, e _ _ h⟩
section
variable {K : PySem.W.Frag} {H H' : Hp}
mutual
theorem Dq.mono (e : Same H H') : ∀ {v : V} {d : D}, Dq K H v d → Dq K H' v d
  | _, _, .non => .non
  | _, _, .bl b => .bl b
  | _, _, .int i => .int i
  | _, _, .str s => .str s
  | _, _, .lst h q => .lst (e _ _ h) (DqAll.mono e q)
  | _, _, .tup h q => .tup (same_seqF e h) (DqAll.mono e q)
  | _, _, .dic h q => .dic (same_rd e h) (DqKV.mono e q)
theorem DqAll.mono (e : Same H H') : ∀ {vs : List V} {ds : List D}, DqAll K H vs ds → DqAll K H' vs ds
  | _, _, .nil => .nil
  | _, _, .cons h q => .cons (Dq.mono e h) (DqAll.mono e q)
theorem DqKV.mono (e : Same H H') : ∀ {ks : List (Key × V)} {kvs : List (D × D)}, DqKV K H ks kvs → DqKV K H' ks kvs
  | _, _, .nil => .nil
  | _, _, .cons h q => .cons (Dq.mono e h) (DqKV.mono e q)
end
theorem DqAll.len : ∀ {vs : List V} {ds : List D}, DqAll K H vs ds → vs.length = ds.length
  | _, _, .nil => rfl
  | _, _, .cons _ q => congrArg (· + 1) q.len
theorem DqAll.get : ∀ {vs : List V} {ds : List D} {i : Nat} {d : D}, DqAll K H vs ds → ds[i]? = some d → ∃ v, vs[i]? = some v ∧ Dq K H v d
  | _, _, _, _, .nil, e => by simp at e
  | _, _, 0, _, .cons h _, e => by
    obtain rfl := Option.some.inj e
    exact ⟨_, rfl, h⟩
  | _, _, i + 1, d, .cons _ q, e => q.get (i := i) (d := d) e
theorem DqAll.getV : ∀ {vs : List V} {ds : List D} {i : Nat} {v : V}, DqAll K H vs ds → vs[i]? = some v → ∃ d, ds[i]? = some d ∧ Dq K H v d
  | _, _, _, _, .nil, e => by simp at e
  | _, _, 0, _, .cons h _, e => by
    obtain rfl := Option.some.inj e
    exact ⟨_, rfl, h⟩
  | _, _, i + 1, v, .cons _ q, e => q.getV (i := i) (v := v) e
theorem DqAll.append : ∀ {vs ws : List V} {ds es : List D}, DqAll K H vs ds → DqAll K H ws es → DqAll K H (vs ++ ws) (ds ++ es)
  | _, _, _, _, .nil, r => r
  | _, _, _, _, .cons h q, r => .cons h (q.append r)
theorem DqAll.take : ∀ {vs : List V} {ds : List D} (n : Nat), DqAll K H vs ds → DqAll K H (vs.take n) (ds.take n)
  | _, _, 0, _ => .nil
  | _, _, _ + 1, .nil => .nil
  | _, _, n + 1, .cons h q => .cons h (q.take n)
theorem DqAll.drop : ∀ {vs : List V} {ds : List D} (n : Nat), DqAll K H vs ds → DqAll K H (vs.drop n) (ds.drop n)
  | _, _, 0, r => r
  | _, _, _ + 1, .nil => .nil
  | _, _, n + 1, .cons _ q => q.drop n
theorem DqAll.eraseIdx : ∀ {vs : List V} {ds : List D} (n : Nat), DqAll K H vs ds → DqAll K H (vs.eraseIdx n) (ds.eraseIdx n)
  | _, _, _, .nil => .nil
  | _, _, 0, .cons _ q => q
  | _, _, n + 1, .cons h q => .cons h (q.eraseIdx n)
theorem DqAll.one {v : V} {d : D} (h : Dq K H v d) : DqAll K H [v] [d] := .cons h .nil
theorem Dq.int_inv {v : V} {i : Int} (h : Dq K H v (.int i)) : v = .int i := by cases h; rfl
theorem Dq.bool_inv {v : V} {b : Bool} (h : Dq K H v (.bool b)) : v = .bl b := by cases h; rfl
theorem Dq.none_inv {v : V} (h : Dq K H v .none) : v = .non := by cases h; rfl
theorem Dq.str_inv {v : V} {s : Str} (h : Dq K H v (.str s)) : v = .str s := by cases h; rfl
theorem Dq.lst_inv {v : V} {ds : List D} (h : Dq K H v (.list ds)) : ∃ a vs, v = .ref a ∧ H a = some (.lst vs) ∧ DqAll K H vs ds := by
  cases h with
  | lst h q => exact ⟨_, _, rfl, h, q⟩
theorem Dq.tup_inv {v : V} {ds : List D} (h : Dq K H v (.tuple ds)) : ∃ a vs, v = .ref a ∧ SqF K H a vs ∧ DqAll K H vs ds := by
  cases h with
  | tup h q => exact ⟨_, _, rfl, h, q⟩
theorem DqAll.ints : ∀ {vs : List V} {ns : List Int}, DqAll K H vs (ns.map PyData.int) → vs = ns.map V.int
  | _, [], .nil => rfl
  | _, n :: r, .cons h q => by
    rw [h.int_inv, DqAll.ints q]
    rfl
theorem DqAll.of_ints : ∀ (ns : List Int), DqAll K H (ns.map V.int) (ns.map PyData.int)
  | [] => .nil
  | n :: r => .cons (.int n) (DqAll.of_ints r)
theorem DqAll.bools : ∀ {vs : List V} {ns : List Bool}, DqAll K H vs (ns.map PyData.bool) → vs = ns.map V.bl
  | _, [], .nil => rfl
  | _, n :: r, .cons h q => by
    rw [h.bool_inv, DqAll.bools q]
    rfl
theorem DqAll.strs : ∀ {vs : List V} {ns : List Str}, DqAll K H vs (ns.map PyData.str) → vs = ns.map V.str
  | _, [], .nil => rfl
  | _, n :: r, .cons h q => by
    rw [h.str_inv, DqAll.strs q]
    rfl
end

/-! ### heaps -/
theorem same_new {H : Hp} {p : Addr} {o : HO} (h : H p = none) : Same H (upd H p o) := fun b x e => by
  rw [upd_ne (ne_of_none e h)]
  exact e
theorem same_both {Hd H : Hp} {p : Addr} {o : HO} (e : Same Hd H) : Same (upd Hd p o) (upd H p o) := fun b x q => by
  by_cases hb : b = p
  · subst hb
    rw [upd_same] at q ⊢
    exact q
  · rw [upd_ne hb] at q ⊢
    exact e _ _ q
theorem same_add {Hd H : Hp} {p : Addr} {o : HO} (e : Same Hd H) (h : H p = some o) : Same (upd Hd p o) H := fun b x q => by
  by_cases hb : b = p
  · subst hb
    rw [upd_same] at q
    cases q
    exact h
  · rw [upd_ne hb] at q
    exact e _ _ q
theorem same_put {Hd H : Hp} {p : Addr} {o : HO} (e : Same Hd H) (h : Hd p = none) : Same Hd (upd H p o) := fun b x q => by
  rw [upd_ne (ne_of_none q h)]
  exact e _ _ q

/-! ### the state -/
/-- the deck of draws: its object, what belongs to it, what holds of it -/
structure Deck where
  root : Addr
  fp : Addr → Prop
  inv : Hp → Prop
  loc : ∀ H H' : Hp, (∀ b, fp b → H' b = H b) → inv H → inv H'
  there : ∀ (H : Hp) (b : Addr), inv H → fp b → H b ≠ none
/-- which decks there are in this law -/
class TheDeck where
  ok : Deck → Prop
variable [TheDeck]
structure Ctx where
  Z : XP
  H0 : Hp
  Hd0 : Hp
  dk : Option Deck
def Ctx.isDk (C : Ctx) (b : Addr) : Prop := ∃ K, C.dk = some K ∧ K.fp b
/-- the object at a holds c, its items in Hd -/
def OwnO (K : PySem.W.Frag) (Hd H : Hp) (a : Addr) : Cont → Prop
  | .lst xs => ∃ vs, H a = some (.lst vs) ∧ DqAll K Hd vs xs
  | .dct kvs => ∃ ks, H a = some (.dK ks) ∧ DqKV K Hd ks kvs
theorem OwnO.some {K : PySem.W.Frag} {Hd H : Hp} {a : Addr} {c : Cont} (h : OwnO K Hd H a c) : ∃ o, H a = some o := by
  cases c with
  | lst xs =>
    obtain ⟨vs, e, _⟩ := h
    exact ⟨_, e⟩
  | dct kvs =>
    obtain ⟨vs, e, _⟩ := h
    exact ⟨_, e⟩
theorem OwnO.mono {K : PySem.W.Frag} {Hd Hd' H H' : Hp} {a : Addr} {c : Cont} (e : Same Hd Hd') (k : ∀ o, H a = Option.some o → H' a = Option.some o) (h : OwnO K Hd H a c) : OwnO K Hd' H' a c := by
  cases c with
  | lst xs =>
    obtain ⟨vs, q, r⟩ := h
    exact ⟨vs, k _ q, r.mono e⟩
  | dct kvs =>
    obtain ⟨vs, q, r⟩ := h
    exact ⟨vs, k _ q, r.mono e⟩
/-- frozen -/
theorem OwnO.frz {K : PySem.W.Frag} {Hd H : Hp} {a : Addr} {c : Cont} (h : OwnO K Hd H a c) (n : Hd a = none) : ∃ o, H a = Option.some o ∧ Dq K (upd Hd a o) (.ref a) c.data := by
  cases c with
  | lst xs =>
    obtain ⟨vs, q, r⟩ := h
    exact ⟨_, q, .lst upd_same (r.mono (same_new n))⟩
  | dct kvs =>
    obtain ⟨vs, q, r⟩ := h
    exact ⟨_, q, .dic (.inl upd_same) (r.mono (same_new n))⟩
/-- what is read on the spot -/
theorem OwnO.look {K : PySem.W.Frag} {Hd H : Hp} {a : Addr} {c : Cont} (h : OwnO K Hd H a c) (e : Same Hd H) : Dq K H (.ref a) c.data := by
  cases c with
  | lst xs =>
    obtain ⟨vs, q, r⟩ := h
    exact .lst q (r.mono e)
  | dct kvs =>
    obtain ⟨vs, q, r⟩ := h
    exact .dic (.inl q) (r.mono e)
structure Base (C : Ctx) (Hd H : Hp) : Prop where
  d0 : Same C.Hd0 Hd
  dh : Same Hd H
  fr : ∀ b o, Hd b = some o → C.Hd0 b = some o ∨ C.H0 b = none
  h0 : ∀ b o, C.H0 b = some o → ¬ C.isDk b → H b = some o
  dk : ∀ K, C.dk = some K → K.inv H ∧ ∀ b, K.fp b → Hd b = none ∧ C.H0 b ≠ none
  kd : ∀ K, C.dk = some K → TheDeck.ok K
def Owns (env : Env) (σ : L2.St) (i : Nat) (a : Addr) : Prop := (∃ c, env[i]? = some (some (.o c))) ∧ σ[i]? = some (some (.ref a))
def SlotOk (K : PySem.W.Frag) (C : Ctx) (Hd H : Hp) (v : V) : MV → Prop
  | .d x => Dq K Hd v x
  | .o c => ∃ a, v = .ref a ∧ Hd a = none ∧ C.H0 a = none ∧ OwnO K Hd H a c
  | .dk => ∃ K, C.dk = some K ∧ v = .ref K.root
structure Rep (K : PySem.W.Frag) (C : Ctx) (env : Env) (Hd : Hp) (σ : L2.St) (H : Hp) : Prop extends Base C Hd H where
  len : σ.length = env.length
  slot : ∀ (i : Nat) (m : MV), env[i]? = some (some m) → ∃ v, σ[i]? = some (some v) ∧ SlotOk K C Hd H v m
  sep : ∀ (i j : Nat) (a : Addr), Owns env σ i a → Owns env σ j a → i = j
/-- a result that has come -/
def RR (K : PySem.W.Frag) (C : Ctx) (env : Env) (Hd : Hp) (σ : L2.St) (H : Hp) (v : V) : MV → Prop
  | .d x => Dq K Hd v x
  | .o c => ∃ a, v = .ref a ∧ Hd a = none ∧ C.H0 a = none ∧ OwnO K Hd H a c ∧ ∀ i, ¬ Owns env σ i a
  | .dk => ∃ K, C.dk = some K ∧ v = .ref K.root
section
variable {K : PySem.W.Frag} {C : Ctx} {env : Env} {Hd Hd' : Hp} {σ : L2.St} {H H' : Hp} {v : V}
theorem Base.deckNot {a : Addr} (B : Base C Hd H) (h : C.H0 a = none) : ¬ C.isDk a := fun ⟨K, e, q⟩ => ((B.dk K e).2 a q).2 h
/-- what is changed lies apart from the deck -/
theorem Base.dkStay {K0 : Deck} {a : Addr} {o : HO} (B : Base C Hd H) (e : C.dk = some K0) (n : ¬ K0.fp a) : K0.inv (upd H a o) :=
  K0.loc H _ (fun b hb => upd_ne fun z => n (z ▸ hb)) (B.dk K0 e).1
theorem Base.fpNew {K0 : Deck} {p : Addr} (B : Base C Hd H) (e : C.dk = some K0) (n : H p = none) : ¬ K0.fp p := fun z => K0.there H p (B.dk K0 e).1 z n
theorem Base.fpOwn {K0 : Deck} {p : Addr} (B : Base C Hd H) (e : C.dk = some K0) (n : C.H0 p = none) : ¬ K0.fp p := fun z => ((B.dk K0 e).2 p z).2 n
theorem SlotOk.mono {m : MV} (e : Same Hd Hd') (k : ∀ a o, C.H0 a = none → Hd a = none → H a = some o → H' a = some o ∧ Hd' a = none) (h : SlotOk K C Hd H v m) : SlotOk K C Hd' H' v m := by
  cases m with
  | d x => exact Dq.mono e h
  | o c =>
    obtain ⟨a, rfl, h1, h2, h3⟩ := h
    obtain ⟨o, ho⟩ := h3.some
    obtain ⟨q1, q2⟩ := k a o h2 h1 ho
    exact ⟨a, rfl, q2, h2, h3.mono e fun o' e' => (k a o' h2 h1 e').1⟩
  | dk => exact h
/-- the heap goes on, with new data; what is owned stays -/
theorem Rep.step (R : Rep K C env Hd σ H) (B : Base C Hd' H') (e : Same Hd Hd') (k : ∀ a o, C.H0 a = none → Hd a = none → H a = some o → (∃ i, Owns env σ i a) → H' a = some o ∧ Hd' a = none) : Rep K C env Hd' σ H' where
  toBase := B
  len := R.len
  slot i m h := by
    obtain ⟨v, h1, h2⟩ := R.slot i m h
    refine ⟨v, h1, ?_⟩
    cases m with
    | d x => exact Dq.mono e h2
    | o c =>
      obtain ⟨a, rfl, q1, q2, q3⟩ := h2
      obtain ⟨o, ho⟩ := q3.some
      have z := k a o q2 q1 ho ⟨i, ⟨c, h⟩, h1⟩
      exact ⟨a, rfl, z.2, q2, q3.mono e fun o' e' => (k a o' q2 q1 e' ⟨i, ⟨c, h⟩, h1⟩).1⟩
    | dk => exact h2
  sep := R.sep
theorem Base.h0none {p : Addr} (B : Base C Hd H) (n : H p = none) : C.H0 p = none := by
  cases q : C.H0 p with
  | none => rfl
  | some y =>
    by_cases hk : C.isDk p
    · obtain ⟨K0, e, z⟩ := hk
      exact absurd n (K0.there H p (B.dk K0 e).1 z)
    · rw [B.h0 p y q hk] at n; cases n
/-- a new tuple, as data -/
theorem Base.newD {p : Addr} {o : HO} (B : Base C Hd H) (n : H p = none) : Base C (upd Hd p o) (upd H p o) where
  d0 := B.d0.trans (same_new (B.dh.free n))
  dh := same_both B.dh
  fr b x h := by
    by_cases hb : b = p
    · subst hb
      exact Or.inr (B.h0none n)
    · rw [upd_ne hb] at h
      exact B.fr b x h
  h0 b x h hk := by
    rw [upd_ne (ne_of_none (B.h0 b x h hk) n)]
    exact B.h0 b x h hk
  dk K0 e := ⟨B.dkStay e (B.fpNew e n), fun b hb => by
    have nb : b ≠ p := fun z => B.fpNew e n (z ▸ hb)
    exact ⟨by rw [upd_ne nb]; exact ((B.dk K0 e).2 b hb).1, ((B.dk K0 e).2 b hb).2⟩⟩
  kd := B.kd
/-- a new object that is not data yet -/
theorem Base.newO {p : Addr} {o : HO} (B : Base C Hd H) (n : H p = none) : Base C Hd (upd H p o) where
  d0 := B.d0
  dh := same_put B.dh (B.dh.free n)
  fr := B.fr
  h0 b x h hk := by
    rw [upd_ne (ne_of_none (B.h0 b x h hk) n)]
    exact B.h0 b x h hk
  dk K0 e := ⟨B.dkStay e (B.fpNew e n), (B.dk K0 e).2⟩
  kd := B.kd
/-- an own object is frozen -/
theorem Base.frz {a : Addr} {o : HO} (B : Base C Hd H) (e : H a = some o) (h0 : C.H0 a = none) (hd : Hd a = none) : Base C (upd Hd a o) H where
  d0 := B.d0.trans (same_new hd)
  dh := same_add B.dh e
  fr b x h := by
    by_cases hb : b = a
    · subst hb
      exact Or.inr h0
    · rw [upd_ne hb] at h
      exact B.fr b x h
  h0 := B.h0
  dk K0 q := ⟨(B.dk K0 q).1, fun b hb => by
    have nb : b ≠ a := fun z => B.fpOwn q h0 (z ▸ hb)
    exact ⟨by rw [upd_ne nb]; exact ((B.dk K0 q).2 b hb).1, ((B.dk K0 q).2 b hb).2⟩⟩
  kd := B.kd
/-- an own object is changed -/
theorem Base.put {a : Addr} {o : HO} (B : Base C Hd H) (h0 : C.H0 a = none) (hd : Hd a = none) : Base C Hd (upd H a o) where
  d0 := B.d0
  dh := same_put B.dh hd
  fr := B.fr
  h0 b x h hk := by
    have nb : b ≠ a := fun z => by rw [z, h0] at h; cases h
    rw [upd_ne nb]
    exact B.h0 b x h hk
  dk K0 q := ⟨B.dkStay q (B.fpOwn q h0), (B.dk K0 q).2⟩
  kd := B.kd
theorem Rep.newD {p : Addr} {o : HO} (R : Rep K C env Hd σ H) (n : H p = none) : Rep K C env (upd Hd p o) σ (upd H p o) :=
  R.step (R.toBase.newD n) (same_new (R.dh.free n)) fun a o' h1 h2 h3 _ => by
    have na : a ≠ p := ne_of_none h3 n
    exact ⟨by rw [upd_ne na]; exact h3, by rw [upd_ne na]; exact h2⟩
theorem Rep.newO {p : Addr} {o : HO} (R : Rep K C env Hd σ H) (n : H p = none) : Rep K C env Hd σ (upd H p o) :=
  R.step (R.toBase.newO n) (Same.refl _) fun a o' h1 h2 h3 _ => by
    have na : a ≠ p := ne_of_none h3 n
    exact ⟨by rw [upd_ne na]; exact h3, h2⟩
theorem Rep.frzR {a : Addr} {o : HO} (R : Rep K C env Hd σ H) (e : H a = some o) (h0 : C.H0 a = none) (hd : Hd a = none) (hn : ∀ i, ¬ Owns env σ i a) : Rep K C env (upd Hd a o) σ H :=
  R.step (R.toBase.frz e h0 hd) (same_new hd) fun b o' h1 h2 h3 h4 => by
    have nb : b ≠ a := fun z => by
      obtain ⟨i, q⟩ := h4
      exact hn i (z ▸ q)
    exact ⟨h3, by rw [upd_ne nb]; exact h2⟩
theorem not_owns_new {p : Addr} (R : Rep K C env Hd σ H) (n : H p = none) (i : Nat) : ¬ Owns env σ i p := by
  rintro ⟨⟨c, h1⟩, h2⟩
  obtain ⟨v, e1, a, e2, _, _, q⟩ := R.slot i _ h1
  rw [h2] at e1
  cases e1
  cases e2
  obtain ⟨o, ho⟩ := q.some
  rw [n] at ho
  cases ho
/-- a result is turned into data -/
theorem RR.frz {m : MV} {P : D → Prop} (R : Rep K C env Hd σ H) (r : RR K C env Hd σ H v m) (h : asD m P) : ∃ Hd' x, P x ∧ Same Hd Hd' ∧ Rep K C env Hd' σ H ∧ Dq K Hd' v x := by
  cases m with
  | d x => exact ⟨Hd, x, h, Same.refl _, R, r⟩
  | o c =>
    obtain ⟨a, rfl, h1, h2, h3, h4⟩ := r
    obtain ⟨o, e, q⟩ := h3.frz h1
    exact ⟨upd Hd a o, c.data, h, same_new h1, R.frzR e h2 h1 h4, q⟩
  | dk => exact h.elim
theorem get_set {α : Type} {l : List (Option α)} {i j : Nat} {x : α} {m : Option α} (h : (l.set i m)[j]? = some (some x)) : (j = i ∧ m = some x ∧ i < l.length) ∨ (j ≠ i ∧ l[j]? = some (some x)) := by
  by_cases e : j = i
  · subst e
    by_cases hl : j < l.length
    · rw [List.getElem?_set_self hl] at h
      exact Or.inl ⟨rfl, Option.some.inj h, hl⟩
    · rw [List.getElem?_eq_none (by rw [List.length_set]; omega)] at h
      cases h
  · rw [List.getElem?_set_ne (fun z => e z.symm)] at h
    exact Or.inr ⟨e, h⟩
/-- a slot that owns is frozen in place -/
theorem Rep.frzS {i : Nat} {c : Cont} (R : Rep K C env Hd σ H) (h : env[i]? = some (some (.o c))) : ∃ Hd' v, σ[i]? = some (some v) ∧ Same Hd Hd' ∧ Rep K C (env.set i (some (.d c.data))) Hd' σ H ∧ Dq K Hd' v c.data := by
  obtain ⟨v, h1, a, rfl, h2, h3, h4⟩ := R.slot i _ h
  obtain ⟨o, e, q⟩ := h4.frz h2
  have sm : Same Hd (upd Hd a o) := same_new h2
  refine ⟨upd Hd a o, _, h1, sm, ⟨R.toBase.frz e h3 h2, by rw [List.length_set]; exact R.len, fun j m hj => ?_, fun j k b h5 h6 => ?_⟩, q⟩
  · rcases get_set hj with ⟨rfl, e2, _⟩ | ⟨nj, e2⟩
    · cases e2
      exact ⟨_, h1, q⟩
    · obtain ⟨w, w1, w2⟩ := R.slot j m e2
      refine ⟨w, w1, ?_⟩
      cases m with
      | d x => exact Dq.mono sm w2
      | o c' =>
        obtain ⟨b, rfl, q1, q2, q3⟩ := w2
        have nb : b ≠ a := fun z => nj (R.sep j i a (by subst z; exact ⟨⟨c', e2⟩, w1⟩) ⟨⟨c, h⟩, h1⟩)
        exact ⟨b, rfl, by rw [upd_ne nb]; exact q1, q2, q3.mono sm fun _ z => z⟩
      | dk => exact w2
  · obtain ⟨⟨c5, e5⟩, s5⟩ := h5
    obtain ⟨⟨c6, e6⟩, s6⟩ := h6
    rcases get_set e5 with ⟨_, z, _⟩ | ⟨_, z5⟩
    · cases z
    · rcases get_set e6 with ⟨_, z, _⟩ | ⟨_, z6⟩
      · cases z
      · exact R.sep j k b ⟨⟨c5, z5⟩, s5⟩ ⟨⟨c6, z6⟩, s6⟩
/-- name = a result -/
theorem Rep.store {i : Nat} {m : MV} (R : Rep K C env Hd σ H) (r : RR K C env Hd σ H v m) : Rep K C (env.set i (some m)) Hd (σ.set i (some v)) H where
  toBase := R.toBase
  len := by rw [List.length_set, List.length_set]; exact R.len
  slot j m' h := by
    rcases get_set h with ⟨rfl, e, hl⟩ | ⟨nj, e⟩
    · cases e
      refine ⟨v, List.getElem?_set_self (by rw [R.len]; exact hl), ?_⟩
      cases m with
      | d x => exact r
      | o c =>
        obtain ⟨a, rfl, h1, h2, h3, _⟩ := r
        exact ⟨a, rfl, h1, h2, h3⟩
      | dk => exact r
    · obtain ⟨w, w1, w2⟩ := R.slot j m' e
      exact ⟨w, by rw [List.getElem?_set_ne (fun z => nj z.symm)]; exact w1, w2⟩
  sep j k a h1 h2 := by
    have key : ∀ l, Owns (env.set i (some m)) (σ.set i (some v)) l a → (l = i ∧ (∃ c, m = .o c) ∧ v = .ref a) ∨ (l ≠ i ∧ Owns env σ l a) := by
      rintro l ⟨⟨c, e⟩, s⟩
      rcases get_set e with ⟨rfl, z, hl⟩ | ⟨nl, z⟩
      · rw [List.getElem?_set_self (by rw [R.len]; exact hl)] at s
        exact Or.inl ⟨rfl, ⟨c, Option.some.inj z⟩, Option.some.inj (Option.some.inj s)⟩
      · rw [List.getElem?_set_ne (fun z => nl z.symm)] at s
        exact Or.inr ⟨nl, ⟨c, z⟩, s⟩
    have no : ∀ l, Owns env σ l a → (∃ c, m = .o c) → v = .ref a → False := by
      rintro l o ⟨c, rfl⟩ rfl
      obtain ⟨b, e, _, _, _, q⟩ := r
      cases e
      exact q l o
    rcases key j h1 with ⟨rfl, m1, v1⟩ | ⟨n1, o1⟩
    · rcases key k h2 with ⟨rfl, m2, v2⟩ | ⟨n2, o2⟩
      · rfl
      · exact (no _ o2 m1 v1).elim
    · rcases key k h2 with ⟨rfl, m2, v2⟩ | ⟨n2, o2⟩
      · exact (no _ o1 m2 v2).elim
      · exact R.sep j k a o1 o2
/-- the content of slot i, as it stands -/
theorem Rep.peek {i : Nat} {x : D} (R : Rep K C env Hd σ H) (h : peek i env = some x) : ∃ v, σ[i]? = some (some v) ∧ Dq K H v x := by
  unfold Mx.peek at h
  split at h
  · rename_i y e
    cases h
    obtain ⟨v, h1, h2⟩ := R.slot i _ e
    exact ⟨v, h1, Dq.mono R.dh h2⟩
  · rename_i c e
    cases h
    obtain ⟨v, h1, a, rfl, _, _, q⟩ := R.slot i _ e
    exact ⟨_, h1, q.look R.dh⟩
  · cases h
end
end Mx

-- MxC
/-! Mx: what a piece of the text means, by the pure half. -/
namespace Mx
open PySem PySem.Spec PyProof.Rows L2
variable [TheDeck]

theorem PE_imp {X : Cx} {e : Expr} {t t' : TE} (h : PE X e t) (i : ∀ σ H Q, t' σ H Q → t σ H Q) : PE X e t' := ⟨fun pins s σ H Q I q => h.run pins s σ H Q I (i σ H Q q)⟩
theorem PT_imp {X : Cx} {e : Expr} {t t' : TT} (h : PT X e t) (i : ∀ σ H Q, t' σ H Q → t σ H Q) : PT X e t' := ⟨fun pins s σ H Q I q => h.run pins s σ H Q I (i σ H Q q)⟩
theorem PW_imp {X : Cx} {e : Expr} {t t' : TT} (h : PW X e t) (i : ∀ σ H Q, t' σ H Q → t σ H Q) : PW X e t' := ⟨fun wh pins s σ H Q I q => h.run wh pins s σ H Q I (i σ H Q q)⟩
theorem PA_imp {X : Cx} {es : List Expr} {t t' : TA} (h : PA X es t) (i : ∀ σ H Q, t' σ H Q → t σ H Q) : PA X es t' := ⟨fun pos pins s σ H Q I q => h.run pos pins s σ H Q I (i σ H Q q)⟩
theorem PK_imp {X : Cx} {es : List Keyword} {t t' : TA} (h : PK X es t) (i : ∀ σ H Q, t' σ H Q → t σ H Q) : PK X es t' := ⟨fun pos pins s σ H Q I q => h.run pos pins s σ H Q I (i σ H Q q)⟩
theorem PS_imp {X : Cx} {st : Stmt} {t t' : TS} (h : PS X st t) (i : ∀ D σ H, t' D σ H → t D σ H) : PS X st t' := ⟨fun pins s σ H D I q => h.run pins s σ H D I (i D σ H q)⟩
theorem PSs_imp {X : Cx} {st : List Stmt} {t t' : TS} (h : PSs X st t) (i : ∀ D σ H, t' D σ H → t D σ H) : PSs X st t' := ⟨fun pins s σ H D I q => h.run pins s σ H D I (i D σ H q)⟩

/-! ### exceptions -/
def XR (K : PySem.W.Frag) (mg : Str → Option Value) (x : Exc) (c : Value) (od : Option Addr) (Hd H : Hp) : Prop :=
  ∃ a, c = Value.ref a ∧ mg x.cls = some (.ref a) ∧ ∃ fs : List (Str × V), ((fs = [] ∧ x.fs = [] ∧ od = none) ∨ ∃ d, x.fs ≠ [] ∧ od = some d ∧ H d = some (.xd fs)) ∧ Paired (fun (p : Str × V) (q : Str × D) => p.1 = q.1 ∧ Dq K Hd p.2 q.2) fs x.fs
/-- what the body wants of exceptions holds wherever the pure half wants it -/
def COk (X : Cx) (E : XK) (C : Ctx) : Prop := ∀ x c od Hd H, Base C Hd H → XR X.K X.mg x c od Hd H → C.Z x → E c od H

/-! ### the readings -/
section
variable (X : Cx) (E : XK)
def rE (w : Ex) : TE := fun σ H Q => ∃ C env Hd, COk X E C ∧ Rep X.K C env Hd σ H ∧ w.run C.Z env fun r env' => ∀ v Hd' H', Same Hd Hd' → Rep X.K C env' Hd' σ H' → RR X.K C env' Hd' σ H' v r → Q v H'
/-- an operand that is read when the operation comes -/
def Pq (K : PySem.W.Frag) (Hd H : Hp) (v : V) (x : D) : Prop := Dq K Hd v x ∨ ∃ a c, v = .ref a ∧ x = Cont.data c ∧ OwnO K Hd H a c
def Acc (K : PySem.W.Frag) (C : Ctx) (σ : L2.St) (Hd' : Hp) (g : Env → Option D) (v : V) : Prop := ∀ env2 Hd2 H2, Same Hd' Hd2 → Rep K C env2 Hd2 σ H2 → ∀ x, g env2 = some x → Pq K Hd2 H2 v x
def rO (a : Od) : TE := fun σ H Q => ∃ C env Hd, COk X E C ∧ Rep X.K C env Hd σ H ∧ a.run C.Z env fun g env' => ∀ v Hd' H', Same Hd Hd' → Rep X.K C env' Hd' σ H' → Acc X.K C σ Hd' g v → Q v H'
def rT (w : Tst) : TT := fun σ H Q => ∃ C env Hd, COk X E C ∧ Rep X.K C env Hd σ H ∧ w.run C.Z env fun b env' => ∀ Hd' H', Same Hd Hd' → Rep X.K C env' Hd' σ H' → Q b H'
/-- arguments: data, or the deck -/
inductive ArgsR (K : PySem.W.Frag) (C : Ctx) (Hd : Hp) : List V → List MV → Prop
  | nil : ArgsR K C Hd [] []
  | d {v : V} {vs : List V} {x : D} {ms : List MV} : Dq K Hd v x → ArgsR K C Hd vs ms → ArgsR K C Hd (v :: vs) (.d x :: ms)
  | dk {K0 : Deck} {vs : List V} {ms : List MV} : C.dk = some K0 → ArgsR K C Hd vs ms → ArgsR K C Hd (.ref K0.root :: vs) (.dk :: ms)
def rA (t : Args) : TA := fun σ H Q => ∃ C env Hd, COk X E C ∧ Rep X.K C env Hd σ H ∧ t.run C.Z env fun ms env' => ∀ vs Hd' H', Same Hd Hd' → Rep X.K C env' Hd' σ H' → ArgsR X.K C Hd' vs ms → Q vs H'
/-- a value that leaves the def -/
def RetR (K : PySem.W.Frag) (C : Ctx) (Hd H : Hp) (v : V) : MV → Prop
  | .d x => Dq K Hd v x
  | .o c => ∃ a, v = .ref a ∧ Hd a = none ∧ C.H0 a = none ∧ OwnO K Hd H a c
  | .dk => False
def oS (C : Ctx) (Hd : Hp) (D : Ends) : Out where
  nx env' := ∀ σ' Hd' H', Same Hd Hd' → Rep X.K C env' Hd' σ' H' → D.nx σ' H'
  bk env' := ∀ σ' Hd' H', Same Hd Hd' → Rep X.K C env' Hd' σ' H' → D.bk σ' H'
  ct env' := ∀ σ' Hd' H', Same Hd Hd' → Rep X.K C env' Hd' σ' H' → D.ct σ' H'
  rt r := ∀ v Hd' H', Base C Hd' H' → RetR X.K C Hd' H' v r → D.rt v H'
def rS (w : Stm) : TS := fun D σ H => ∃ C env Hd, COk X E C ∧ Rep X.K C env Hd σ H ∧ w.run C.Z env (oS X C Hd D)
/-- at turn i of what is walked the i-th item comes -/
def ItOk (K : PySem.W.Frag) (Hd' : Hp) (J : It) (xs : List D) : Prop := ∀ C i env2 Hd2 σ2 H2, Same Hd' Hd2 → Rep K C env2 Hd2 σ2 H2 →
  (xs.length = i → J.stop i H2) ∧ ∀ x, xs[i]? = some x → J.go i H2 ∧ ∀ v H3, J.yld i H2 v H3 → ∃ Hd3, Same Hd2 Hd3 ∧ Rep K C env2 Hd3 σ2 H3 ∧ Dq K Hd3 v x
/-- all slots but some are as they were -/
def SameOut (ss : List Nat) (σ σ' : L2.St) : Prop := σ'.length = σ.length ∧ ∀ k, k ∉ ss → σ'[k]? = σ[k]?
def rI (t : Itr) : TI := fun σ H R => ∃ C env Hd, COk X E C ∧ Rep X.K C env Hd σ H ∧ t.run C.Z env fun xs env' => ∀ J Hd' H', Same Hd Hd' → Rep X.K C env' Hd' σ H' → ItOk X.K Hd' J xs → R J H'
def rG (g : Tgt) : TG := fun v σ H Q => ∃ C env Hd x, Rep X.K C env Hd σ H ∧ Dq X.K Hd v x ∧ g.run x env fun env' => ∀ σ' Hd' H', Same Hd Hd' → Rep X.K C env' Hd' σ' H' → SameOut g.slots σ σ' → Q σ' H'
def rGs (g : Tgts) : TGs := fun vs σ H Q => ∃ C env Hd xs, Rep X.K C env Hd σ H ∧ DqAll X.K Hd vs xs ∧ g.run xs env fun env' => ∀ σ' Hd' H', Same Hd Hd' → Rep X.K C env' Hd' σ' H' → SameOut g.slots σ σ' → Q σ' H'
end
abbrev EV (X : Cx) (E : XK) (e : Expr) (w : Ex) : Prop := PE X e (rE X E w)
abbrev OD (X : Cx) (E : XK) (e : Expr) (a : Od) : Prop := PE X e (rO X E a)
abbrev TV (X : Cx) (E : XK) (e : Expr) (w : Tst) : Prop := PT X e (rT X E w)
abbrev TW (X : Cx) (E : XK) (e : Expr) (w : Tst) : Prop := PW X e (rT X E w)
abbrev AV (X : Cx) (E : XK) (es : List Expr) (t : Args) : Prop := PA X es (rA X E t)
abbrev SV (X : Cx) (E : XK) (s : Stmt) (w : Stm) : Prop := PS X s (rS X E w)
abbrev BV (X : Cx) (E : XK) (s : List Stmt) (w : Stm) : Prop := PSs X s (rS X E w)
abbrev IV (X : Cx) (E : XK) (tg e : Expr) (t : Itr) : Prop := PI X tg e (rI X E t)
abbrev GV (X : Cx) (tg : Expr) (g : Tgt) : Prop := PG X tg (rG X g)
abbrev GVs (X : Cx) (ts : List Expr) (g : Tgts) : Prop := PGs X ts (rGs X g)

section
variable {X : Cx} {E : XK} {pos : Pos}

/-! ### names, constants -/
theorem m_var (i : Nat) {x : Str} (hN : X.N[i]? = some x := by rfl) (hv : Vis X.env.scope x := by first | exact Or.inl rfl | exact Or.inr (Or.inl rfl) | exact Or.inr (Or.inr rfl)) (hd : (x == ("__debug__" : Str)) = false := by decide)
    (hcd : (x == ("__classdict__" : Str)) = false := by decide) : EV X E (.Name x pos) (xVar i) := by
  refine PE_imp (pe_var (i := i) hN hv hd hcd) fun σ H Q ⟨C, env, Hd, ok, R, h⟩ => ?_
  unfold Ex.run xVar at h
  dsimp only at h
  split at h
  · rename_i y e
    obtain ⟨v, h1, h2⟩ := R.slot i _ e
    exact ⟨v, h1, h v Hd H (Same.refl _) R h2⟩
  · rename_i c e
    obtain ⟨Hd', v, h1, sm, R', q⟩ := R.frzS e
    exact ⟨v, h1, h v Hd' H sm R' q⟩
  · rename_i e
    obtain ⟨v, h1, h2⟩ := R.slot i _ e
    exact ⟨v, h1, h v Hd H (Same.refl _) R h2⟩
  · exact h.elim
theorem m_c {e : Expr} {v : V} {x : D} (h : PE X e (tC v)) (q : ∀ K H, Dq K H v x) : EV X E e (xC x) :=
  PE_imp h fun σ H Q ⟨C, env, Hd, ok, R, h⟩ => h v Hd H (Same.refl _) R (q _ _)
theorem m_int {i : Int} {j} : EV X E (.Constant (.int i) j pos) (xInt i) := m_c pe_int fun _ _ => .int i
theorem m_bl {b : Bool} {j} : EV X E (.Constant (.bool b) j pos) (xBool b) := m_c pe_bl fun _ _ => .bl b
theorem m_non {j} : EV X E (.Constant .none j pos) xNone := m_c pe_non fun _ _ => .non
theorem m_str {s : Str} {j} : EV X E (.Constant (.str s) j pos) (xStr s) := m_c pe_str fun _ _ => .str s

/-! ### operands -/
theorem acc_c {C : Ctx} {σ : L2.St} {Hd : Hp} {v : V} {x : D} (h : Dq X.K Hd v x) : Acc X.K C σ Hd (fun _ => some x) v := fun env2 Hd2 H2 sm R y e => by
  obtain rfl := Option.some.inj e
  exact Or.inl (h.mono sm)
theorem od_e {e : Expr} {w : Ex} (h : EV X E e w) : OD X E e (odE w) :=
  PE_imp h fun σ H Q ⟨C, env, Hd, ok, R, h⟩ => ⟨C, env, Hd, ok, R, w.mono (fun _ z => z) (fun r env' q v Hd' H' sm R' rr => by
    obtain ⟨Hd2, x, hx, sm2, R2, dq⟩ := RR.frz R' rr q
    exact hx v Hd2 H' (sm.trans sm2) R2 (acc_c dq)) h⟩
theorem od_s (i : Nat) {x : Str} (hN : X.N[i]? = some x := by rfl) (hv : Vis X.env.scope x := by first | exact Or.inl rfl | exact Or.inr (Or.inl rfl) | exact Or.inr (Or.inr rfl)) (hd : (x == ("__debug__" : Str)) = false := by decide)
    (hcd : (x == ("__classdict__" : Str)) = false := by decide) : OD X E (.Name x pos) (odS i) := by
  refine PE_imp (pe_var (i := i) hN hv hd hcd) fun σ H Q ⟨C, env, Hd, ok, R, h0, h⟩ => ?_
  obtain ⟨x, hx⟩ := Option.isSome_iff_exists.mp h0
  obtain ⟨v, h1, h2⟩ := R.peek hx
  refine ⟨v, h1, h v Hd H (Same.refl _) R fun env2 Hd2 H2 sm R2 y e => ?_⟩
  unfold Mx.peek at e
  split at e
  · rename_i z q
    cases e
    obtain ⟨u, u1, u2⟩ := R2.slot i _ q
    rw [h1] at u1
    cases u1
    exact Or.inl u2
  · rename_i c q
    cases e
    obtain ⟨u, u1, a, rfl, _, _, u5⟩ := R2.slot i _ q
    rw [h1] at u1
    cases u1
    exact Or.inr ⟨a, c, rfl, rfl, u5⟩
  · cases e
theorem Pq.look {K : PySem.W.Frag} {Hd H : Hp} {v : V} {x : D} (p : Pq K Hd H v x) (e : Same Hd H) : Dq K H v x := by
  rcases p with p | ⟨a, c, rfl, rfl, p⟩
  · exact p.mono e
  · exact p.look e
theorem Pq.lst {K : PySem.W.Frag} {Hd H : Hp} {v : V} {xs : List D} (p : Pq K Hd H v (.list xs)) (e : Same Hd H) : ∃ a vs, v = .ref a ∧ H a = some (.lst vs) ∧ DqAll K Hd vs xs := by
  rcases p with p | ⟨a, c, rfl, q, p⟩
  · obtain ⟨a, vs, rfl, h1, h2⟩ := p.lst_inv
    exact ⟨a, vs, rfl, e _ _ h1, h2⟩
  · cases c with
    | lst ys =>
      cases q
      obtain ⟨vs, h1, h2⟩ := p
      exact ⟨a, vs, rfl, h1, h2⟩
    | dct kvs => cases q
theorem Pq.tup {K : PySem.W.Frag} {Hd H : Hp} {v : V} {xs : List D} (p : Pq K Hd H v (.tuple xs)) (e : Same Hd H) : ∃ a vs, v = .ref a ∧ SqF K H a vs ∧ DqAll K Hd vs xs := by
  rcases p with p | ⟨a, c, rfl, q, p⟩
  · obtain ⟨a, vs, rfl, h1, h2⟩ := p.tup_inv
    exact ⟨a, vs, rfl, same_seqF e h1, h2⟩
  · cases c <;> cases q
theorem Pq.int {K : PySem.W.Frag} {Hd H : Hp} {v : V} {i : Int} (p : Pq K Hd H v (.int i)) : v = .int i := by
  rcases p with p | ⟨a, c, rfl, q, p⟩
  · exact p.int_inv
  · cases c <;> cases q
theorem Pq.bool {K : PySem.W.Frag} {Hd H : Hp} {v : V} {i : Bool} (p : Pq K Hd H v (.bool i)) : v = .bl i := by
  rcases p with p | ⟨a, c, rfl, q, p⟩
  · exact p.bool_inv
  · cases c <;> cases q
theorem Pq.str {K : PySem.W.Frag} {Hd H : Hp} {v : V} {i : Str} (p : Pq K Hd H v (.str i)) : v = .str i := by
  rcases p with p | ⟨a, c, rfl, q, p⟩
  · exact p.str_inv
  · cases c <;> cases q
theorem Pq.none {K : PySem.W.Frag} {Hd H : Hp} {v : V} (p : Pq K Hd H v .none) : v = .non := by
  rcases p with p | ⟨a, c, rfl, q, p⟩
  · exact p.none_inv
  · cases c <;> cases q

/-! ### operations -/
inductive Res (K : PySem.W.Frag) (Hd H : Hp) : MV → V → Hp → Prop
  | dat {x : D} {v : V} : Dq K Hd v x → Res K Hd H (.d x) v H
  | newD {x : D} {p : Addr} {o : HO} : H p = none → Dq K (upd Hd p o) (.ref p) x → Res K Hd H (.d x) (.ref p) (upd H p o)
  | newO {c : Cont} {p : Addr} {o : HO} : H p = none → OwnO K Hd (upd H p o) p c → Res K Hd H (.o c) (.ref p) (upd H p o)
theorem Res.fin {K : PySem.W.Frag} {C : Ctx} {env : Env} {Hd H H' : Hp} {σ : L2.St} {m : MV} {v : V} (R : Rep K C env Hd σ H) (r : Res K Hd H m v H') : ∃ Hd', Same Hd Hd' ∧ Rep K C env Hd' σ H' ∧ RR K C env Hd' σ H' v m := by
  cases r with
  | dat h => exact ⟨Hd, Same.refl _, R, h⟩
  | newD n h => exact ⟨_, same_new (R.dh.free n), R.newD n, h⟩
  | newO n h =>
    rename_i c p o
    exact ⟨Hd, Same.refl _, R.newO n, p, rfl, R.dh.free n, R.toBase.h0none n, h, not_owns_new R n⟩
def S1 (K : PySem.W.Frag) (r : V → Hp → VK → Prop) (f : P1) : Prop := ∀ (Hd H : Hp) (x : D) (v : V) (Qm : MV → Prop) (Q : VK), Same Hd H → Pq K Hd H v x → f.run x Qm → (∀ m v' H', Qm m → Res K Hd H m v' H' → Q v' H') → r v H Q
def S2 (K : PySem.W.Frag) (r : R2) (f : P2) : Prop := ∀ (Hd H : Hp) (x y : D) (v u : V) (Qm : MV → Prop) (Q : VK), Same Hd H → Pq K Hd H v x → Pq K Hd H u y → f.run x y Qm → (∀ m v' H', Qm m → Res K Hd H m v' H' → Q v' H') → r v u H Q
theorem op1_imp {f : P1} {r : V → Hp → VK → Prop} {oa : Od} {σ : L2.St} {H : Hp} {Q : VK} (s : S1 X.K r f) (h : rE X E (xOp1 f oa) σ H Q) : rO X E oa σ H fun x H1 => r x H1 Q := by
  obtain ⟨C, env, Hd, ok, R, h⟩ := h
  refine ⟨C, env, Hd, ok, R, oa.mono (fun _ z => z) (fun g e1 ⟨x, hg, q⟩ v Hd' H' sm R' ac => ?_) h⟩
  refine s Hd' H' x v _ Q R'.dh (ac e1 Hd' H' (Same.refl _) R' x hg) q fun m v' H2 hm rs => ?_
  obtain ⟨Hd2, sm2, R2, rr⟩ := rs.fin R'
  exact hm v' Hd2 H2 (sm.trans sm2) R2 rr
theorem op2_imp {f : P2} {r : R2} {oa ob : Od} {σ : L2.St} {H : Hp} {Q : VK} (s : S2 X.K r f) (h : rE X E (xOp2 f oa ob) σ H Q) : rO X E oa σ H fun x H1 => rO X E ob σ H1 fun y H2 => r x y H2 Q := by
  obtain ⟨C, env, Hd, ok, R, h⟩ := h
  refine ⟨C, env, Hd, ok, R, oa.mono (fun _ z => z) (fun g e1 q v Hd1 H1 sm1 R1 ac => ?_) h⟩
  refine ⟨C, e1, Hd1, ok, R1, ob.mono (fun _ z => z) (fun k e2 ⟨x, y, hx, hy, q⟩ u Hd2 H2 sm2 R2 ac2 => ?_) q⟩
  refine s Hd2 H2 x y v u _ Q R2.dh (ac e2 Hd2 H2 sm2 R2 x hx) (ac2 e2 Hd2 H2 (Same.refl _) R2 y hy) q fun m v' H3 hm rs => ?_
  obtain ⟨Hd3, sm3, R3, rr⟩ := rs.fin R2
  exact hm v' Hd3 H3 (sm1.trans (sm2.trans sm3)) R3 rr
theorem m_op {op : Operator} {r : R2} {f : P2} {a b : Expr} {oa ob : Od} (ho : OpR X (binaryOp op) r) (s : S2 X.K r f) (ha : OD X E a oa) (hb : OD X E b ob) : EV X E (.BinOp a op b pos) (xOp2 f oa ob) :=
  PE_imp (pe_op ho ha hb) fun _ _ _ h => op2_imp s h
theorem m_un {op : UnaryOp} {r : V → Hp → VK → Prop} {f : P1} {a : Expr} {oa : Od} (ho : UnR X (unaryOp op) r) (s : S1 X.K r f) (ha : OD X E a oa) : EV X E (.UnaryOp op a pos) (xOp1 f oa) :=
  PE_imp (pe_un ho ha) fun _ _ _ h => op1_imp s h
theorem m_cmp {op : CmpOp} {r : R2} {f : P2} {a b : Expr} {oa ob : Od} (ho : OpR X (compareOp op) r) (s : S2 X.K r f) (ha : OD X E a oa) (hb : OD X E b ob) (hm : behindInMarks op b = false) : EV X E (.Compare a [op] [b] pos) (xOp2 f oa ob) :=
  PE_imp (pe_cmpR ho ha hb hm) fun _ _ _ h => op2_imp s h
theorem m_ix {r : R2} {f : P2} {a b : Expr} {oa ob : Od} (hr : IxR X r) (s : S2 X.K r f) (ha : OD X E a oa) (hb : OD X E b ob) (hp : PlainIx b) : EV X E (.Subscript a b pos) (xOp2 f oa ob) :=
  PE_imp (pe_ix hr ha hb hp) fun _ _ _ h => op2_imp s h

/-! ### arguments -/
theorem a_nil : AV X E [] aNil := PA_imp pa_nil fun σ H Q ⟨C, env, Hd, ok, R, h⟩ => h [] Hd H (Same.refl _) R .nil
theorem ArgsR.mono {K : PySem.W.Frag} {C : Ctx} {Hd Hd' : Hp} (e : Same Hd Hd') : ∀ {vs : List V} {ms : List MV}, ArgsR K C Hd vs ms → ArgsR K C Hd' vs ms
  | _, _, .nil => .nil
  | _, _, .d h r => .d (h.mono e) (r.mono e)
  | _, _, .dk h r => .dk h (r.mono e)
theorem RR.arg {K : PySem.W.Frag} {C : Ctx} {env : Env} {Hd H : Hp} {σ : L2.St} {v : V} {m : MV} (R : Rep K C env Hd σ H) (r : RR K C env Hd σ H v m) : ∃ Hd', Same Hd Hd' ∧ Rep K C env Hd' σ H ∧ ∀ vs ms, ArgsR K C Hd' vs ms → ArgsR K C Hd' (v :: vs) (asA m :: ms) := by
  cases m with
  | d x => exact ⟨Hd, Same.refl _, R, fun vs ms q => .d r q⟩
  | o c =>
    obtain ⟨Hd', x, rfl, sm, R', dq⟩ := RR.frz (P := fun x => x = c.data) R r (show asD (.o c) _ from rfl)
    exact ⟨Hd', sm, R', fun vs ms q => .d dq q⟩
  | dk =>
    obtain ⟨K0, e, rfl⟩ := r
    exact ⟨Hd, Same.refl _, R, fun vs ms q => .dk e q⟩
theorem a_cons {e : Expr} {es : List Expr} {w : Ex} {t : Args} (h : EV X E e w) (r : AV X E es t) (hs : starEach (e :: es) X.env = (false, eval e X.env) :: starEach es X.env := by rfl) : AV X E (e :: es) (aCons w t) :=
  PA_imp (pa_cons h r hs) fun σ H Q ⟨C, env, Hd, ok, R, h⟩ => ⟨C, env, Hd, ok, R, w.mono (fun _ z => z) (fun m e1 q v Hd1 H1 sm1 R1 rr => by
    obtain ⟨Hd2, sm2, R2, ar⟩ := rr.arg R1
    refine ⟨C, e1, Hd2, ok, R2, t.mono (fun _ z => z) (fun ms e2 q vs Hd3 H3 sm3 R3 as => ?_) q⟩
    refine q (v :: vs) Hd3 H3 (sm1.trans (sm2.trans sm3)) R3 ?_
    have z := (ar [] [] .nil).mono sm3
    cases hm : asA m with
    | d x =>
      rw [hm] at z
      cases z with
      | d dq _ => exact .d dq as
    | dk =>
      rw [hm] at z
      cases z with
      | dk e _ => exact .dk e as
    | o c =>
      rw [hm] at z
      cases z) h⟩
theorem ArgsR.dats {K : PySem.W.Frag} {C : Ctx} {Hd : Hp} : ∀ {vs : List V} {ms : List MV} {xs : List D}, ArgsR K C Hd vs ms → dats ms = some xs → DqAll K Hd vs xs
  | _, _, _, .nil, e => by
    cases e
    exact .nil
  | _, _, _, .d h r, e => by
    unfold Mx.dats at e
    rename_i ms
    cases q : Mx.dats ms with
    | none =>
      rw [q] at e
      cases e
    | some ys =>
      rw [q] at e
      cases e
      exact .cons h (r.dats q)
  | _, _, _, .dk h r, e => by
    unfold Mx.dats at e
    cases e
theorem m_tup {es : List Expr} {t : Args} {x1} (h : AV X E es t) : EV X E (.Tuple es x1 pos) (xTup t) :=
  PE_imp (pe_tupF h) fun σ H Q ⟨C, env, Hd, ok, R, h⟩ => ⟨C, env, Hd, ok, R, t.mono (fun _ z => z) (fun ms e1 ⟨xs, hx, hl, q⟩ vs Hd1 H1 sm1 R1 as => by
    have da := as.dats hx
    refine ⟨by rw [da.len, sizeLine_eq]; exact hl, fun p o np dn => ?_⟩
    exact q (.ref p) _ _ (sm1.trans (same_new (R1.dh.free np))) (R1.newD np) (.tup (.inl ⟨o, upd_same, dn⟩) (da.mono (same_new (R1.dh.free np))))) h⟩
theorem m_lst {es : List Expr} {t : Args} (h : AV X E es t) : EV X E (.List es pos) (xLst t) :=
  PE_imp (pe_lst h) fun σ H Q ⟨C, env, Hd, ok, R, h⟩ => ⟨C, env, Hd, ok, R, t.mono (fun _ z => z) (fun ms e1 ⟨xs, hx, hl, q⟩ vs Hd1 H1 sm1 R1 as => by
    have da := as.dats hx
    refine ⟨by rw [da.len, sizeLine_eq]; exact hl, fun p np => ?_⟩
    exact q (.ref p) _ _ sm1 (R1.newO np) ⟨p, rfl, R1.dh.free np, R1.toBase.h0none np, ⟨vs, upd_same, da⟩, not_owns_new R1 np⟩) h⟩

/-! ### tests -/
theorem t_b {e : Expr} {w : Ex} (h : EV X E e w) (he : ∀ whole, isTrue e X.env whole = (do let v ← whole; standAt e.pos; holding [v] (truthy v)) := by intro _; rfl) : TV X E e (Mx.tB w) :=
  PT_imp (pt_val h he) fun σ H Q ⟨C, env, Hd, ok, R, h⟩ => ⟨C, env, Hd, ok, R, w.mono (fun _ z => z) (fun m e1 ⟨b, hm, q⟩ v Hd1 H1 sm1 R1 rr => by
    subst hm
    exact ⟨b, Dq.bool_inv rr, q Hd1 H1 sm1 R1⟩) h⟩
theorem t_cmp {op : CmpOp} {r : R2} {f : P2} {a b : Expr} {oa ob : Od} (ho : OpR X (compareOp op) r) (s : S2 X.K r f) (ha : OD X E a oa) (hb : OD X E b ob) (hm : behindInMarks op b = false) : TV X E (.Compare a [op] [b] pos) (Mx.tB (xOp2 f oa ob)) :=
  PT_imp (pt_cmpR ho ha hb hm) fun σ H Q h => op2_imp (X := X) (E := E) s (Q := fun x H' => ∃ k, x = .bl k ∧ Q k H') (by
    obtain ⟨C, env, Hd, ok, R, h⟩ := h
    exact ⟨C, env, Hd, ok, R, (xOp2 f oa ob).mono (fun _ z => z) (fun m e1 ⟨b, hm, q⟩ v Hd1 H1 sm1 R1 rr => by
      subst hm
      exact ⟨b, Dq.bool_inv rr, q Hd1 H1 sm1 R1⟩) h⟩)
theorem t_and1 {a : Expr} {w : Tst} (h : TV X E a w) : TW X E (.BoolOp .And [a] pos) w := pw_and1 h
theorem t_or1 {a : Expr} {w : Tst} (h : TV X E a w) : TW X E (.BoolOp .Or [a] pos) w := pw_or1 h
theorem t_and {a b : Expr} {rest : List Expr} {w u : Tst} (h : TV X E a w) (k : TW X E (.BoolOp .And (b :: rest) pos) u) : TW X E (.BoolOp .And (a :: b :: rest) pos) (Mx.tAnd w u) :=
  PW_imp (pw_and h k) fun σ H Q ⟨C, env, Hd, ok, R, h⟩ => ⟨C, env, Hd, ok, R, w.mono (fun _ z => z) (fun c e1 q Hd1 H1 sm1 R1 => by
    cases c
    · rw [if_neg (by decide)] at q ⊢
      exact q Hd1 H1 sm1 R1
    · rw [if_pos rfl] at q ⊢
      exact ⟨C, e1, Hd1, ok, R1, u.mono (fun _ z => z) (fun b e2 q Hd2 H2 sm2 R2 => q Hd2 H2 (sm1.trans sm2) R2) q⟩) h⟩
theorem t_or {a b : Expr} {rest : List Expr} {w u : Tst} (h : TV X E a w) (k : TW X E (.BoolOp .Or (b :: rest) pos) u) : TW X E (.BoolOp .Or (a :: b :: rest) pos) (Mx.tOr w u) :=
  PW_imp (pw_or h k) fun σ H Q ⟨C, env, Hd, ok, R, h⟩ => ⟨C, env, Hd, ok, R, w.mono (fun _ z => z) (fun c e1 q Hd1 H1 sm1 R1 => by
    cases c
    · rw [if_neg (by decide)] at q ⊢
      exact ⟨C, e1, Hd1, ok, R1, u.mono (fun _ z => z) (fun b e2 q Hd2 H2 sm2 R2 => q Hd2 H2 (sm1.trans sm2) R2) q⟩
    · rw [if_pos rfl] at q ⊢
      exact q Hd1 H1 sm1 R1) h⟩
theorem t_not {a : Expr} {w : Tst} (h : TV X E a w) : TV X E (.UnaryOp .Not a pos) (Mx.tNot w) :=
  PT_imp (pt_not h) fun σ H Q ⟨C, env, Hd, ok, R, h⟩ => ⟨C, env, Hd, ok, R, h⟩
theorem TW.tv {e : Expr} {w : Tst} (h : TW X E e w) : TV X E e w := PW.pt h
theorem m_if {c a b : Expr} {t : Tst} {w u : Ex} (hc : TV X E c t) (ha : EV X E a w) (hb : EV X E b u) : EV X E (.IfExp c a b pos) (xIf t w u) :=
  PE_imp (pe_ifExp hc ha hb) fun σ H Q ⟨C, env, Hd, ok, R, h⟩ => ⟨C, env, Hd, ok, R, t.mono (fun _ z => z) (fun c e1 q Hd1 H1 sm1 R1 => by
    cases c
    · rw [if_neg (by decide)] at q ⊢
      exact ⟨C, e1, Hd1, ok, R1, u.mono (fun _ z => z) (fun b e2 q v Hd2 H2 sm2 R2 => q v Hd2 H2 (sm1.trans sm2) R2) q⟩
    · rw [if_pos rfl] at q ⊢
      exact ⟨C, e1, Hd1, ok, R1, w.mono (fun _ z => z) (fun b e2 q v Hd2 H2 sm2 R2 => q v Hd2 H2 (sm1.trans sm2) R2) q⟩) h⟩
theorem m_one {op} {a : Expr} {w : Ex} (h : EV X E a w) : EV X E (.BoolOp op [a] pos) w := pe_one h
theorem m_and {a b : Expr} {rest : List Expr} {w u : Ex} (h : EV X E a w) (k : EV X E (.BoolOp .And (b :: rest) pos) u) : EV X E (.BoolOp .And (a :: b :: rest) pos) (xAnd w u) :=
  PE_imp (pe_and h k) fun σ H Q ⟨C, env, Hd, ok, R, h⟩ => ⟨C, env, Hd, ok, R, w.mono (fun _ z => z) (fun m e1 ⟨c, hm, q⟩ v Hd1 H1 sm1 R1 rr => by
    subst hm
    refine ⟨c, Dq.bool_inv rr, ?_⟩
    cases c
    · rw [if_neg (by decide)] at q ⊢
      exact q _ Hd1 H1 sm1 R1 (.bl _)
    · rw [if_pos rfl] at q ⊢
      exact ⟨C, e1, Hd1, ok, R1, u.mono (fun _ z => z) (fun b e2 q v Hd2 H2 sm2 R2 => q v Hd2 H2 (sm1.trans sm2) R2) q⟩) h⟩
theorem m_or {a b : Expr} {rest : List Expr} {w u : Ex} (h : EV X E a w) (k : EV X E (.BoolOp .Or (b :: rest) pos) u) : EV X E (.BoolOp .Or (a :: b :: rest) pos) (xOr w u) :=
  PE_imp (pe_or h k) fun σ H Q ⟨C, env, Hd, ok, R, h⟩ => ⟨C, env, Hd, ok, R, w.mono (fun _ z => z) (fun m e1 ⟨c, hm, q⟩ v Hd1 H1 sm1 R1 rr => by
    subst hm
    refine ⟨c, Dq.bool_inv rr, ?_⟩
    cases c
    · rw [if_neg (by decide)] at q ⊢
      exact ⟨C, e1, Hd1, ok, R1, u.mono (fun _ z => z) (fun b e2 q v Hd2 H2 sm2 R2 => q v Hd2 H2 (sm1.trans sm2) R2) q⟩
    · rw [if_pos rfl] at q ⊢
      exact q _ Hd1 H1 sm1 R1 (.bl _)) h⟩
theorem m_not {a : Expr} {w : Ex} (h : EV X E a w) : EV X E (.UnaryOp .Not a pos) (xNot w) :=
  PE_imp (pe_not h) fun σ H Q ⟨C, env, Hd, ok, R, h⟩ => ⟨C, env, Hd, ok, R, w.mono (fun _ z => z) (fun m e1 ⟨c, hm, q⟩ v Hd1 H1 sm1 R1 rr => by
    subst hm
    exact ⟨c, Dq.bool_inv rr, q _ Hd1 H1 sm1 R1 (.bl _)⟩) h⟩

/-! ### targets -/
theorem g_name {i : Nat} {x : Str} (hN : X.N.Nodup) (hi : X.N[i]? = some x) (hx : Loc X.env.scope x) (hf : X.fn x = true ∨ X.env.scope.names.lookup x = some .local := by first | exact .inl rfl | exact .inr rfl | assumption) : GV X (.Name x pos) (Mx.gName i) :=
  ⟨fun pins s σ H v u Q I r h => (pg_name hN hi hx hf).run pins s σ H v u Q I r (by
    obtain ⟨C, env, Hd, y, R, dq, h⟩ := h
    exact h _ Hd H (Same.refl _) (R.store (m := .d y) dq) ⟨List.length_set, fun k hk => List.getElem?_set_ne (fun z => hk (by rw [z]; exact List.mem_singleton_self _))⟩)⟩
theorem gs_nil : GVs X [] Mx.gNil := ⟨fun pins s σ H vs us Q I r h => pgs_nil.run pins s σ H vs us Q I r (by
    obtain ⟨C, env, Hd, xs, R, dq, rfl, h⟩ := h
    cases dq
    exact ⟨rfl, h _ Hd H (Same.refl _) R ⟨rfl, fun _ _ => rfl⟩⟩)⟩
theorem gs_cons {e : Expr} {es : List Expr} {g : Tgt} {r : Tgts} (h1 : GV X e g) (h2 : GVs X es r) (hs : (assignEach (e :: es) X.env).map (·.2) = assign e X.env :: (assignEach es X.env).map (·.2) := by rfl) : GVs X (e :: es) (Mx.gCons g r) :=
  ⟨fun pins s σ H vs us Q I rv h => (pgs_cons h1 h2 hs).run pins s σ H vs us Q I rv (by
    obtain ⟨C, env, Hd, xs, R, dq, x, ys, rfl, h⟩ := h
    cases dq with
    | cons d ds => exact ⟨_, _, rfl, C, env, Hd, x, R, d, g.mono (fun e1 q σ1 Hd1 H1 sm1 R1 so1 => ⟨C, e1, Hd1, ys, R1, ds.mono sm1, r.mono (fun e2 q σ2 Hd2 H2 sm2 R2 so2 => q σ2 Hd2 H2 (sm1.trans sm2) R2 ⟨so2.1.trans so1.1, fun k hk => (so2.2 k fun z => hk (List.mem_append_right _ z)).trans (so1.2 k fun z => hk (List.mem_append_left _ z))⟩) q⟩) h⟩)⟩
theorem g_tup {es : List Expr} {k : Nat} {r : Tgts} (hc : X.calm = true) (h : GVs X es r)
    (hn : (assignEach es X.env).length = r.n := by rfl) (hst : (assignEach es X.env).findIdx? (·.1) = none := by rfl) : GV X (.Tuple es k pos) (Mx.gTup r) :=
  ⟨fun pins s σ H v u Q I rv h' => (pg_tup hc h hn hst).run pins s σ H v u Q I rv (by
    obtain ⟨C, env, Hd, x, R, dq, xs, rfl, hl, h'⟩ := h'
    obtain ⟨a, vs, rfl, h1, h2⟩ := dq.tup_inv
    exact ⟨a, vs, rfl, (same_seqF R.dh h1).seq, by rw [h2.len]; exact hl, C, env, Hd, xs, R, h2, h'⟩)⟩

/-! ### blocks and statements -/
theorem b_nil : BV X E [] sSkip := PSs_imp pss_nil fun D σ H ⟨C, env, Hd, ok, R, h⟩ => h σ Hd H (Same.refl _) R
theorem b_one {s : Stmt} {w : Stm} (h : SV X E s w) : BV X E [s] w := pss_one h
theorem oS_le {C : Ctx} {Hd Hd1 : Hp} {D : Ends} (sm : Same Hd Hd1) : (oS X C Hd D).Le (oS X C Hd1 D) :=
  ⟨fun _ q σ' Hd' H' s R => q σ' Hd' H' (sm.trans s) R, fun _ q => q, fun _ q σ' Hd' H' s R => q σ' Hd' H' (sm.trans s) R, fun _ q σ' Hd' H' s R => q σ' Hd' H' (sm.trans s) R⟩
theorem rS_seq {D : Ends} {σ : L2.St} {H : Hp} {a b : Stm} (h : rS X E (sSeq a b) D σ H) : rS X E a { D with nx := fun σ1 H1 => rS X E b D σ1 H1 } σ H := by
  obtain ⟨C, env, Hd, ok, R, h⟩ := h
  exact ⟨C, env, Hd, ok, R, a.mono (O := { oS X C Hd D with nx := fun e1 => b.run C.Z e1 (oS X C Hd D) }) (O' := oS X C Hd { D with nx := fun σ1 H1 => rS X E b D σ1 H1 }) (fun _ z => z)
    ⟨fun e1 q σ1 Hd1 H1 sm1 R1 => ⟨C, e1, Hd1, ok, R1, b.mono (fun _ z => z) (oS_le sm1) q⟩, fun r q => q, fun e q => q, fun e q => q⟩ h⟩
theorem b_cons {s : Stmt} {ss : List Stmt} {w u : Stm} (h : SV X E s w) (k : BV X E ss u) : BV X E (s :: ss) (sSeq w u) := PSs_imp (pss_cons h k) fun D σ H q => rS_seq q
theorem s_pass : SV X E (.Pass pos) sSkip := PS_imp ps_pass fun D σ H ⟨C, env, Hd, ok, R, h⟩ => h σ Hd H (Same.refl _) R
theorem s_break : SV X E (.Break pos) sBreak := PS_imp ps_break fun D σ H ⟨C, env, Hd, ok, R, h⟩ => h σ Hd H (Same.refl _) R
theorem s_continue : SV X E (.Continue pos) sCont := PS_imp ps_continue fun D σ H ⟨C, env, Hd, ok, R, h⟩ => h σ Hd H (Same.refl _) R
theorem s_set {i : Nat} {x : Str} {e : Expr} {w : Ex} {pos' : Pos} (hN : X.N.Nodup) (hi : X.N[i]? = some x) (hx : Loc X.env.scope x) (h : EV X E e w) (hs : swapsWith e (some (.Name x pos')) pos.line X.env = pure false := by rfl)
    (hf : X.fn x = true ∨ X.env.scope.names.lookup x = some .local := by first | exact .inl rfl | exact .inr rfl | assumption) : SV X E (.Assign [.Name x pos'] e pos) (sSet i w) :=
  PS_imp (ps_set hN hi hx h hs hf) fun D σ H ⟨C, env, Hd, ok, R, h⟩ => ⟨C, env, Hd, ok, R, w.mono (fun _ z => z) (fun m e1 q v Hd1 H1 sm1 R1 rr => q _ Hd1 H1 sm1 (R1.store rr)) h⟩
theorem s_expr {e : Expr} {w : Ex} (h : EV X E e w) (hs : swapsWith e none pos.line X.env = pure false := by rfl) : SV X E (.Expr e pos) (sExpr w) :=
  PS_imp (ps_expr h hs) fun D σ H ⟨C, env, Hd, ok, R, h⟩ => ⟨C, env, Hd, ok, R, w.mono (fun _ z => z) (fun m e1 q v Hd1 H1 sm1 R1 rr => q _ Hd1 H1 sm1 R1) h⟩
theorem RR.ret {K : PySem.W.Frag} {C : Ctx} {env : Env} {Hd H : Hp} {σ : L2.St} {v : V} {m : MV} (h : m ≠ .dk) (r : RR K C env Hd σ H v m) : RetR K C Hd H v m := by
  cases m with
  | d x => exact r
  | o c =>
    obtain ⟨a, h1, h2, h3, h4, _⟩ := r
    exact ⟨a, h1, h2, h3, h4⟩
  | dk => exact absurd rfl h
theorem s_ret {e : Expr} {w : Ex} (h : EV X E e w) : SV X E (.Return (some e) pos) (sRet w) :=
  PS_imp (ps_ret h) fun D σ H ⟨C, env, Hd, ok, R, h⟩ => ⟨C, env, Hd, ok, R, w.mono (fun _ z => z) (fun m e1 ⟨hm, q⟩ v Hd1 H1 sm1 R1 rr => q v Hd1 H1 R1.toBase (RR.ret hm rr)) h⟩
theorem s_retS (i : Nat) {x : Str} {p : Pos} (hN : X.N[i]? = some x := by rfl) (hv : Vis X.env.scope x := by first | exact Or.inl rfl | exact Or.inr (Or.inl rfl) | exact Or.inr (Or.inr rfl)) (hd : (x == ("__debug__" : Str)) = false := by decide)
    (hcd : (x == ("__classdict__" : Str)) = false := by decide) : SV X E (.Return (some (.Name x p)) pos) (sRetS i) :=
  PS_imp (ps_ret (pe_var (i := i) hN hv hd hcd)) fun D σ H ⟨C, env, Hd, ok, R, h⟩ => by
    unfold Stm.run sRetS at h
    dsimp only at h
    split at h
    · rename_i m e
      obtain ⟨hm, h⟩ := h
      obtain ⟨v, h1, h2⟩ := R.slot i m e
      refine ⟨v, h1, h v Hd H R.toBase ?_⟩
      cases m with
      | d x => exact h2
      | o c => exact h2
      | dk => exact absurd rfl hm
    · exact h.elim
theorem s_retN : SV X E (.Return none pos) sRetN := PS_imp ps_retN fun D σ H ⟨C, env, Hd, ok, R, h⟩ => h .non Hd H R.toBase .non
theorem s_if {c : Expr} {a b : List Stmt} {t : Tst} {w u : Stm} (hc : TV X E c t) (ha : BV X E a w) (hb : BV X E b u) : SV X E (.If c a b pos) (sIf t w u) :=
  PS_imp (ps_if hc ha hb) fun D σ H ⟨C, env, Hd, ok, R, h⟩ => ⟨C, env, Hd, ok, R, t.mono (fun _ z => z) (fun c e1 q Hd1 H1 sm1 R1 => by
    cases c
    · rw [if_neg (by decide)] at q ⊢
      exact ⟨C, e1, Hd1, ok, R1, u.mono (fun _ z => z) (oS_le sm1) q⟩
    · rw [if_pos rfl] at q ⊢
      exact ⟨C, e1, Hd1, ok, R1, w.mono (fun _ z => z) (oS_le sm1) q⟩) h⟩
end
end Mx

-- MxD
/-! Mx: loops, comprehensions, defs. -/
namespace Mx
open PySem PySem.Spec PyProof.Rows L2
variable [TheDeck]
section
variable {X : Cx} {E : XK} {pos : Pos}

/-! ### what is walked -/
theorem i_tup {tg e : Expr} {w : Ex} (h : EV X E e w) : IV X E tg e (Mx.iTup w) :=
  ⟨fun pins s σ H R I q => (pi_tup (tg := tg) h).run pins s σ H R I (by
    obtain ⟨C, env, Hd, ok, Rp, q⟩ := q
    refine ⟨C, env, Hd, ok, Rp, w.mono (fun _ z => z) (fun m e1 q v Hd1 H1 sm1 R1 rr => ?_) q⟩
    obtain ⟨Hd2, x, ⟨xs, rfl, hq⟩, sm2, R2, dq⟩ := RR.frz R1 rr q
    obtain ⟨a, vs, rfl, h1, h2⟩ := dq.tup_inv
    refine ⟨a, rfl, ⟨vs, (same_seqF R2.dh h1).seq⟩, hq _ Hd2 H1 (sm1.trans sm2) R2 fun C3 i env2 Hd3 σ3 H3 sm3 R3 => ⟨fun hl => ⟨vs, (same_seqF R3.dh (same_seqF sm3 h1)).seq, by rw [h2.len]; exact Nat.le_of_eq hl⟩, fun x hx => ?_⟩⟩
    obtain ⟨v, hv, hd⟩ := h2.get hx
    have sq : SqT X.K H3 a vs := (same_seqF R3.dh (same_seqF sm3 h1)).seq
    refine ⟨⟨vs, v, sq, hv⟩, fun v' H4 hy => ?_⟩
    obtain ⟨rfl, hy⟩ := hy
    have ev : v' = v := Option.some.inj ((hy _ sq).symm.trans hv)
    subst ev
    exact ⟨Hd3, Same.refl _, R3, hd.mono sm3⟩)⟩
theorem i_lst {tg e : Expr} {w : Ex} (h : EV X E e w) : IV X E tg e (Mx.iLst w) :=
  ⟨fun pins s σ H R I q => (pi_list (tg := tg) h).run pins s σ H R I (by
    obtain ⟨C, env, Hd, ok, Rp, q⟩ := q
    refine ⟨C, env, Hd, ok, Rp, w.mono (fun _ z => z) (fun m e1 q v Hd1 H1 sm1 R1 rr => ?_) q⟩
    obtain ⟨Hd2, x, ⟨xs, rfl, hq⟩, sm2, R2, dq⟩ := RR.frz R1 rr q
    obtain ⟨a, vs, rfl, h1, h2⟩ := dq.lst_inv
    refine ⟨a, rfl, ⟨vs, SqL.of (R2.dh _ _ h1)⟩, hq _ Hd2 H1 (sm1.trans sm2) R2 fun C3 i env2 Hd3 σ3 H3 sm3 R3 => ⟨fun hl => ⟨vs, SqL.of (R3.dh _ _ (sm3 _ _ h1)), by rw [h2.len]; exact Nat.le_of_eq hl⟩, fun x hx => ?_⟩⟩
    obtain ⟨v, hv, hd⟩ := h2.get hx
    have sq : SqL X.K H3 a vs := SqL.of (R3.dh _ _ (sm3 _ _ h1))
    refine ⟨⟨vs, v, sq, hv⟩, fun v' H4 hy => ?_⟩
    obtain ⟨rfl, hy⟩ := hy
    have ev : v' = v := Option.some.inj ((hy _ sq).symm.trans hv)
    subst ev
    exact ⟨Hd3, Same.refl _, R3, hd.mono sm3⟩)⟩
theorem rng_get {lo : Int} {n i : Nat} {x : D} (h : (rng lo n)[i]? = some x) : i < n ∧ x = .int (lo + i) := by
  unfold rng at h
  rw [List.getElem?_map] at h
  by_cases hi : i < n
  · rw [List.getElem?_range hi] at h
    exact ⟨hi, (Option.some.inj h).symm⟩
  · rw [List.getElem?_eq_none (by rw [List.length_range]; omega)] at h
    cases h
theorem rng_len (lo : Int) (n : Nat) : (rng lo n).length = n := by
  unfold rng
  rw [List.length_map, List.length_range]
theorem it_rng {K : PySem.W.Frag} {Hd : Hp} (lo : Int) (n : Nat) : ItOk K Hd (L2.Itr lo n) (rng lo n) := fun C i env2 Hd2 σ2 H2 sm R2 => by
  refine ⟨fun hl => by rw [rng_len] at hl; exact Nat.le_of_eq hl, fun x hx => ?_⟩
  obtain ⟨hi, rfl⟩ := rng_get hx
  refine ⟨hi, fun v H3 hy => ?_⟩
  obtain ⟨rfl, rfl⟩ := hy
  exact ⟨Hd2, Same.refl _, R2, .int _⟩
theorem i_range1 {tg a : Expr} {t : Args} {p : Pos} (hg : Gl X "range") (hm : X.mg "range" = none) (ha : AV X E [a] t) (hs : starEach [a] X.env = [(false, eval a X.env)] := by rfl) : IV X E tg (.Call (.Name "range" p) [a] [] pos) (Mx.iRange1 t) :=
  ⟨fun pins s σ H R I q => (pi_range1 (tg := tg) hg hm ha hs).run pins s σ H R I (by
    obtain ⟨C, env, Hd, ok, Rp, q⟩ := q
    refine ⟨C, env, Hd, ok, Rp, t.mono (fun _ z => z) (fun ms e1 ⟨j, hms, hb, hq⟩ vs Hd1 H1 sm1 R1 as => ?_) q⟩
    subst hms
    cases as with
    | d dq r =>
      cases r
      obtain rfl := dq.int_inv
      exact ⟨j, rfl, hb.1, hb.2, hq _ Hd1 H1 sm1 R1 (it_rng 0 _)⟩)⟩
theorem i_range2 {tg a b : Expr} {t : Args} {p : Pos} (hg : Gl X "range") (hm : X.mg "range" = none) (ha : AV X E [a, b] t) (hs : starEach [a, b] X.env = [(false, eval a X.env), (false, eval b X.env)] := by rfl) (hs2 : starEach [b] X.env = [(false, eval b X.env)] := by rfl) :
    IV X E tg (.Call (.Name "range" p) [a, b] [] pos) (Mx.iRange2 t) :=
  ⟨fun pins s σ H R I q => (pi_range2 (tg := tg) hg hm ha hs hs2).run pins s σ H R I (by
    obtain ⟨C, env, Hd, ok, Rp, q⟩ := q
    refine ⟨C, env, Hd, ok, Rp, t.mono (fun _ z => z) (fun ms e1 ⟨i, j, hms, hb, hq⟩ vs Hd1 H1 sm1 R1 as => ?_) q⟩
    subst hms
    cases as with
    | d dq r =>
      cases r with
      | d dq2 r =>
        cases r
        obtain rfl := dq.int_inv
        obtain rfl := dq2.int_inv
        exact ⟨i, j, rfl, hb, hq _ Hd1 H1 sm1 R1 (it_rng i _)⟩)⟩

/-! ### for, while -/
theorem s_for {tg iter : Expr} {body : List Stmt} {t : Itr} {g : Tgt} {b : Stm} (hp : PassesOwn (model X.prog X.w) X.A X.env X.xe) (hc : X.calm = true) (hi : IV X E tg iter t) (hg : GV X tg g) (hb : BV X E body b)
    (hs : ∀ x, foldedSetIterable iter X.env x = pure x := by intro _; rfl) : SV X E (.For tg iter body [] pos) (sFor t g b) :=
  PS_imp (ps_for hp hc hi hg hb hs) fun D σ H h => by
    obtain ⟨C, env, Hd, ok, R, h⟩ := h
    refine ⟨C, env, Hd, ok, R, t.mono (fun _ z => z) (fun xs e1 ⟨W, w0, ws, we⟩ J Hd1 H1 sm1 R1 it => ?_) h⟩
    refine ⟨fun i m σ' H' => m = xs.length - i ∧ i ≤ xs.length ∧ ∃ e2 Hd2, W i e2 ∧ Same Hd1 Hd2 ∧ Rep X.K C e2 Hd2 σ' H', ⟨_, rfl, Nat.zero_le _, e1, Hd1, w0, Same.refl _, R1⟩, fun i m σ2 H2 hW => ?_⟩
    obtain ⟨rfl, hl, e2, Hd2, w, sm2, R2⟩ := hW
    by_cases hi : i < xs.length
    · have hx : xs[i]? = some xs[i] := List.getElem?_eq_getElem hi
      obtain ⟨go, yl⟩ := (it C i e2 Hd2 σ2 H2 sm2 R2).2 _ hx
      refine Or.inr ⟨go, fun σ' H' => ∃ e3 Hd3, W (i + 1) e3 ∧ Same Hd1 Hd3 ∧ Rep X.K C e3 Hd3 σ' H', fun σ' H' ⟨e3, Hd3, w3, sm3, R3⟩ => ⟨_, by omega, rfl, by omega, e3, Hd3, w3, sm3, R3⟩, fun v H3 hy => ?_⟩
      obtain ⟨Hd3, sm3, R3, dq⟩ := yl v H3 hy
      refine ⟨C, e2, Hd3, _, R3, dq, g.mono (fun e3 q σ4 Hd4 H4 sm4 R4 _ => ?_) (ws i _ e2 hx w)⟩
      exact ⟨C, e3, Hd4, ok, R4, b.mono (O := { nx := W (i + 1), ct := W (i + 1), bk := (oS X C Hd D).nx, rt := (oS X C Hd D).rt })
        (O' := oS X C Hd4 { D with nx := fun σ' H' => ∃ e3 Hd3, W (i + 1) e3 ∧ Same Hd1 Hd3 ∧ Rep X.K C e3 Hd3 σ' H', ct := fun σ' H' => ∃ e3 Hd3, W (i + 1) e3 ∧ Same Hd1 Hd3 ∧ Rep X.K C e3 Hd3 σ' H', bk := D.nx })
        (fun _ z => z) ⟨fun e5 w5 σ5 Hd5 H5 sm5 R5 => ⟨e5, Hd5, w5, sm2.trans (sm3.trans (sm4.trans sm5)), R5⟩, fun r q => q, fun e5 q σ5 Hd5 H5 sm5 R5 => q σ5 Hd5 H5 (sm1.trans (sm2.trans (sm3.trans (sm4.trans sm5)))) R5,
          fun e5 w5 σ5 Hd5 H5 sm5 R5 => ⟨e5, Hd5, w5, sm2.trans (sm3.trans (sm4.trans sm5)), R5⟩⟩ q⟩
    · have ei : i = xs.length := by omega
      subst ei
      exact Or.inl ⟨(it C _ e2 Hd2 σ2 H2 sm2 R2).1 rfl, we e2 w σ2 Hd2 H2 (sm1.trans sm2) R2⟩
theorem s_while {c : Expr} {body : List Stmt} {t : Tst} {b : Stm} (hp : PassesOwn (model X.prog X.w) X.A X.env X.xe) (hc : TV X E c t) (hb : BV X E body b) : SV X E (.While c body [] pos) (sWhile t b) :=
  PS_imp (ps_while hp hc hb) fun D σ H h => by
    obtain ⟨C, env, Hd, ok, R, W, ⟨m0, w0⟩, ws⟩ := h
    refine ⟨fun m σ' H' => ∃ e2 Hd2, W m e2 ∧ Same Hd Hd2 ∧ Rep X.K C e2 Hd2 σ' H', ⟨m0, env, Hd, w0, Same.refl _, R⟩, fun m σ2 H2 hW => ?_⟩
    obtain ⟨e2, Hd2, w, sm2, R2⟩ := hW
    refine ⟨C, e2, Hd2, ok, R2, t.mono (fun _ z => z) (fun k e3 q Hd3 H3 sm3 R3 => ?_) (ws m e2 w)⟩
    cases k
    · rw [if_neg (by decide)] at q ⊢
      exact q σ2 Hd3 H3 (sm2.trans sm3) R3
    · rw [if_pos rfl] at q ⊢
      refine ⟨fun σ' H' => ∃ m', m' < m ∧ ∃ e2 Hd2, W m' e2 ∧ Same Hd Hd2 ∧ Rep X.K C e2 Hd2 σ' H', fun σ' H' z => z, C, e3, Hd3, ok, R3, b.mono (O := { nx := fun e3 => ∃ m', m' < m ∧ W m' e3, ct := fun e3 => ∃ m', m' < m ∧ W m' e3, bk := (oS X C Hd D).nx, rt := (oS X C Hd D).rt })
        (O' := oS X C Hd3 { D with nx := fun σ' H' => ∃ m', m' < m ∧ ∃ e2 Hd2, W m' e2 ∧ Same Hd Hd2 ∧ Rep X.K C e2 Hd2 σ' H', ct := fun σ' H' => ∃ m', m' < m ∧ ∃ e2 Hd2, W m' e2 ∧ Same Hd Hd2 ∧ Rep X.K C e2 Hd2 σ' H', bk := D.nx })
        (fun _ z => z) ⟨?_, fun r q => q, ?_, ?_⟩ q⟩
      · exact fun e4 ⟨m', hm, w4⟩ σ4 Hd4 H4 sm4 R4 => ⟨m', hm, e4, Hd4, w4, sm2.trans (sm3.trans sm4), R4⟩
      · exact fun e4 q σ4 Hd4 H4 sm4 R4 => q σ4 Hd4 H4 (sm2.trans (sm3.trans sm4)) R4
      · exact fun e4 ⟨m', hm, w4⟩ σ4 Hd4 H4 sm4 R4 => ⟨m', hm, e4, Hd4, w4, sm2.trans (sm3.trans sm4), R4⟩

/-! ### comprehensions -/
theorem wipe_get {α : Type} {e : List (Option α)} : True := trivial
theorem wipe_len (e : Env) : ∀ vs : List Nat, (Mx.wipe e vs).length = e.length
  | [] => rfl
  | i :: r => by
    unfold Mx.wipe
    rw [List.length_set, wipe_len e r]
theorem wipe_in {e : Env} {i : Nat} {m : MV} : ∀ {vs : List Nat}, (Mx.wipe e vs)[i]? = some (some m) → e[i]? = some (some m) ∧ i ∉ vs
  | [], h => ⟨h, List.not_mem_nil⟩
  | v :: vs, h => by
    unfold Mx.wipe at h
    rcases get_set h with ⟨_, z, _⟩ | ⟨n, z⟩
    · cases z
    · obtain ⟨h1, h2⟩ := wipe_in z
      exact ⟨h1, fun q => by
        rcases List.mem_cons.mp q with rfl | q
        · exact n rfl
        · exact h2 q⟩
theorem wipe_out_env {e : Env} {i : Nat} : ∀ {vs : List Nat}, i ∉ vs → (Mx.wipe e vs)[i]? = e[i]?
  | [], _ => rfl
  | v :: vs, h => by
    unfold Mx.wipe
    rw [List.getElem?_set_ne (fun (z : v = i) => h (by rw [z]; exact List.mem_cons_self ..)), wipe_out_env fun z => h (List.mem_cons_of_mem _ z)]
theorem wipe_out_st {σ : L2.St} {i : Nat} : ∀ {vs : List Nat}, i ∉ vs → (L2.wipe σ vs)[i]? = σ[i]?
  | [], _ => rfl
  | v :: vs, h => by
    unfold L2.wipe
    rw [List.getElem?_set_ne (fun (z : v = i) => h (by rw [z]; exact List.mem_cons_self ..)), wipe_out_st fun z => h (List.mem_cons_of_mem _ z)]
theorem wipe_at (σ : L2.St) {i : Nat} : ∀ {vs : List Nat}, i ∈ vs → (L2.wipe σ vs)[i]? = if i < σ.length then some none else none
  | v :: vs, h => by
    unfold L2.wipe
    by_cases e : v = i
    · subst e
      by_cases hl : v < σ.length
      · rw [if_pos hl, List.getElem?_set_self (by rw [wipe_length]; exact hl)]
      · rw [if_neg hl, List.getElem?_eq_none (by rw [List.length_set, wipe_length]; omega)]
    · rw [List.getElem?_set_ne e]
      refine wipe_at σ ?_
      rcases List.mem_cons.mp h with q | q
      · exact absurd q.symm e
      · exact q
theorem Rep.wipe {K : PySem.W.Frag} {C : Ctx} {env : Env} {Hd H : Hp} {σ : L2.St} (R : Rep K C env Hd σ H) (vs : List Nat) : Rep K C (Mx.wipe env vs) Hd (L2.wipe σ vs) H where
  toBase := R.toBase
  len := by rw [wipe_len, wipe_length, R.len]
  slot i m h := by
    obtain ⟨h1, h2⟩ := wipe_in h
    obtain ⟨v, q1, q2⟩ := R.slot i m h1
    exact ⟨v, by rw [wipe_out_st h2]; exact q1, q2⟩
  sep i j a h1 h2 := by
    obtain ⟨⟨c, e1⟩, s1⟩ := h1
    obtain ⟨⟨c', e2⟩, s2⟩ := h2
    obtain ⟨z1, n1⟩ := wipe_in e1
    obtain ⟨z2, n2⟩ := wipe_in e2
    rw [wipe_out_st n1] at s1
    rw [wipe_out_st n2] at s2
    exact R.sep i j a ⟨⟨c, z1⟩, s1⟩ ⟨⟨c', z2⟩, s2⟩
/-- the context of a comprehension's block: its list stands at p -/
def Ctx.prot (C : Ctx) (Z : XP) (p : Addr) (ho : HO) : Ctx := { Z := Z, H0 := upd C.H0 p ho, Hd0 := C.Hd0, dk := C.dk }
abbrev Ctx.blk (C : Ctx) (p : Addr) (vs : List V) : Ctx := C.prot (fun _ => False) p (.lst vs)
theorem Rep.toBlk {K : PySem.W.Frag} {C : Ctx} {env : Env} {Hd H : Hp} {σ : L2.St} {Z : XP} {p : Addr} {ho : HO} (R : Rep K C env Hd σ H) (h0 : C.H0 p = none) (hd : Hd p = none) (hp : H p = some ho) (no : ∀ i, ¬ Owns env σ i p) : Rep K (C.prot Z p ho) env Hd σ H where
  d0 := R.d0
  dh := R.dh
  fr b o h := by
    rcases R.fr b o h with q | q
    · exact Or.inl q
    · have nb : b ≠ p := fun z => by rw [z, hd] at h; cases h
      exact Or.inr (by show upd C.H0 p _ b = none; rw [upd_ne nb]; exact q)
  h0 b o h hk := by
    by_cases hb : b = p
    · subst hb
      rw [show (C.prot Z b ho).H0 b = some ho from upd_same] at h
      cases h
      exact hp
    · rw [show (C.prot Z p ho).H0 b = C.H0 b from upd_ne hb] at h
      exact R.h0 b o h hk
  dk K0 e := ⟨(R.dk K0 e).1, fun b hb => ⟨((R.dk K0 e).2 b hb).1, by
    show upd C.H0 p _ b ≠ none
    rw [upd_ne (fun (z : b = p) => R.toBase.fpOwn e h0 (z ▸ hb))]
    exact ((R.dk K0 e).2 b hb).2⟩⟩
  kd := R.kd
  len := R.len
  slot i m h := by
    obtain ⟨v, q1, q2⟩ := R.slot i m h
    refine ⟨v, q1, ?_⟩
    cases m with
    | d x => exact q2
    | o c =>
      obtain ⟨a, rfl, z1, z2, z3⟩ := q2
      have na : a ≠ p := fun z => no i (z ▸ ⟨⟨c, h⟩, q1⟩)
      exact ⟨a, rfl, z1, by show upd C.H0 p _ a = none; rw [upd_ne na]; exact z2, z3⟩
    | dk => exact q2
  sep := R.sep
theorem Rep.ofBlk {K : PySem.W.Frag} {C : Ctx} {env : Env} {Hd H : Hp} {σ : L2.St} {Z : XP} {p : Addr} {ho : HO} (R : Rep K (C.prot Z p ho) env Hd σ H) (h0 : C.H0 p = none) (hd0 : C.Hd0 p = none) (nk : ¬ C.isDk p) : Rep K C env Hd σ H ∧ H p = some ho ∧ Hd p = none ∧ ∀ i, ¬ Owns env σ i p := by
  have hp : H p = some ho := R.h0 p _ upd_same nk
  have hd : Hd p = none := by
    cases q : Hd p with
    | none => rfl
    | some o =>
      rcases R.fr p o q with z | z
      · rw [show (C.prot Z p ho).Hd0 p = C.Hd0 p from rfl, hd0] at z; cases z
      · rw [show (C.prot Z p ho).H0 p = some ho from upd_same] at z; cases z
  refine ⟨⟨⟨R.d0, R.dh, fun b o h => ?_, fun b o h hk => ?_, fun K0 e => ⟨(R.dk K0 e).1, fun b hb => ⟨((R.dk K0 e).2 b hb).1, ?_⟩⟩, R.kd⟩, R.len, fun i m h => ?_, R.sep⟩, hp, hd, fun i ho => ?_⟩
  · rcases R.fr b o h with q | q
    · exact Or.inl q
    · have nb : b ≠ p := fun z => by rw [z, hd] at h; cases h
      rw [show (C.prot Z p ho).H0 b = C.H0 b from upd_ne nb] at q
      exact Or.inr q
  · have nb : b ≠ p := fun z => by rw [z, h0] at h; cases h
    exact R.h0 b o (by rw [show (C.prot Z p ho).H0 b = C.H0 b from upd_ne nb]; exact h) hk
  · have q := ((R.dk K0 e).2 b hb).2
    rwa [show (C.prot Z p ho).H0 b = C.H0 b from upd_ne fun (z : b = p) => nk ⟨K0, e, z ▸ hb⟩] at q
  · obtain ⟨v, q1, q2⟩ := R.slot i m h
    refine ⟨v, q1, ?_⟩
    cases m with
    | d x => exact q2
    | o c =>
      obtain ⟨a, rfl, z1, z2, z3⟩ := q2
      have na : a ≠ p := fun z => by rw [z, show (C.prot Z p ho).H0 p = some ho from upd_same] at z2; cases z2
      exact ⟨a, rfl, z1, by rwa [show (C.prot Z p ho).H0 a = C.H0 a from upd_ne na] at z2, z3⟩
    | dk => exact q2
  · obtain ⟨⟨c, e⟩, s⟩ := ho
    obtain ⟨v, q1, a, rfl, _, z2, _⟩ := R.slot i _ e
    rw [s] at q1
    cases q1
    rw [show (C.prot Z p ho).H0 p = some ho from upd_same] at z2
    cases z2
/-- behind a block: the outer slots again -/
theorem Rep.unwipe {K : PySem.W.Frag} {C : Ctx} {env e' : Env} {Hd Hd' H H' : Hp} {σ σ' : L2.St} {vs : List Nat} (R : Rep K C env Hd σ H) (R' : Rep K C e' Hd' σ' H') (sm : Same Hd Hd') (he : Mx.wipe e' vs = Mx.wipe env vs) (hs : L2.wipe σ' vs = L2.wipe σ vs)
    (no : ∀ i ∈ vs, ∀ c, env[i]? ≠ some (some (.o c))) : Rep K C env Hd' σ H' where
  toBase := R'.toBase
  len := R.len
  slot i m h := by
    by_cases hi : i ∈ vs
    · obtain ⟨v, q1, q2⟩ := R.slot i m h
      refine ⟨v, q1, ?_⟩
      cases m with
      | d x => exact Dq.mono sm q2
      | o c => exact absurd h (no i hi c)
      | dk => exact q2
    · have h' : e'[i]? = some (some m) := by rw [← wipe_out_env hi, he, wipe_out_env hi]; exact h
      obtain ⟨v, q1, q2⟩ := R'.slot i m h'
      exact ⟨v, by rw [← wipe_out_st hi, ← hs, wipe_out_st hi]; exact q1, q2⟩
  sep := R.sep
theorem wipe_twice (σ : L2.St) (vs : List Nat) : L2.wipe (L2.wipe σ vs) vs = L2.wipe σ vs := by
  refine List.ext_getElem? fun k => ?_
  by_cases hk : k ∈ vs
  · rw [wipe_at _ hk, wipe_at _ hk, wipe_length]
  · rw [wipe_out_st hk]
theorem wipe_eq {ss vs : List Nat} {σ σ' : L2.St} (so : SameOut ss σ σ') (h : ∀ k ∈ ss, k ∈ vs) : L2.wipe σ' vs = L2.wipe σ vs := by
  refine List.ext_getElem? fun k => ?_
  by_cases hk : k ∈ vs
  · rw [wipe_at _ hk, wipe_at _ hk, so.1]
  · rw [wipe_out_st hk, wipe_out_st hk, so.2 k fun z => hk (h k z)]
/-- an own list is changed that no slot owns -/
theorem Rep.put {K : PySem.W.Frag} {C : Ctx} {env : Env} {Hd H : Hp} {σ : L2.St} {p : Addr} {o : HO} (R : Rep K C env Hd σ H) (h0 : C.H0 p = none) (hd : Hd p = none) (no : ∀ i, ¬ Owns env σ i p) : Rep K C env Hd σ (upd H p o) :=
  R.step (R.toBase.put h0 hd) (Same.refl _) fun a o' h1 h2 h3 h4 => by
    have na : a ≠ p := fun z => by
      obtain ⟨i, q⟩ := h4
      exact no i (z ▸ q)
    exact ⟨by rw [upd_ne na]; exact h3, h2⟩
/-- from the first turn on: the list stands at p -/
theorem lc_body {J : It} {xs : List D} {C : Ctx} {e1 : Env} {Hd1 H1 : Hp} {W : Nat → List D → Prop} {g : Tgt} {tt : Tst} {w : Ex} {tgs : TT} {vs : List Nat} {σ : L2.St} {Q : VK} (htt : ∀ σ H Q, rT X E0 tt σ H Q → tgs σ H Q) (hsl : ∀ k ∈ g.slots, k ∈ vs)
    (R1 : Rep X.K C e1 Hd1 σ H1) (it : ItOk X.K Hd1 J xs) (w0 : W 0 [])
    (ws : ∀ i x acc, xs[i]? = some x → W i acc → acc.length ≤ i → g.run x (Mx.wipe e1 vs) fun e2 => Mx.wipe e2 vs = Mx.wipe e1 vs ∧ tt.run (fun _ => False) e2 fun b e3 =>
      if b = true then w.run (fun _ => False) e3 fun r e4 => Mx.wipe e4 vs = Mx.wipe e1 vs ∧ asD r fun y => W (i + 1) (acc ++ [y]) else Mx.wipe e3 vs = Mx.wipe e1 vs ∧ W (i + 1) acc)
    (hlen : xs.length ≤ 16777216) (no : ∀ i ∈ vs, ∀ c, e1[i]? ≠ some (some (.o c))) (we : ∀ acc, W xs.length acc → ∀ v Hd' H', Same Hd1 Hd' → Rep X.K C e1 Hd' σ H' → RR X.K C e1 Hd' σ H' v (.o (.lst acc)) → Q v H') :
    ∀ p, H1 p = none → ∃ W' : Nat → Nat → Hp → Prop, (∃ m, W' 0 m (upd H1 p (.lst []))) ∧ ∀ i m H, W' i m H →
      (J.stop i H ∧ Q (.ref p) H) ∨ (J.go i H ∧ ∃ Nx : Hp → Prop, (∀ H', Nx H' → ∃ m', m' < m ∧ W' (i + 1) m' H') ∧ ∀ x H', J.yld i H x H' → rG X g x (L2.wipe σ vs) H' fun σ2 H2 => L2.wipe σ2 vs = L2.wipe σ vs ∧ tgs σ2 H2 fun b H3 =>
        if b = true then rE X E0 w σ2 H3 fun y H4 => ∃ acc, H4 p = some (.lst acc) ∧ acc.length < sizeLine ∧ Nx (upd H4 p (.lst (acc ++ [y]))) else Nx H3) := by
    intro p np
    have h0p : C.H0 p = none := R1.toBase.h0none np
    have hd0p : C.Hd0 p = none := R1.d0.free (R1.dh.free np)
    have nk : ¬ C.isDk p := R1.toBase.deckNot h0p
    -- between the turns: the block's own slots wiped, the list at p
    refine ⟨fun i m H' => m = xs.length - i ∧ i ≤ xs.length ∧ ∃ acc vc Hd2 , W i acc ∧ acc.length ≤ i ∧ Same Hd1 Hd2 ∧ DqAll X.K Hd2 vc acc ∧ Rep X.K (C.blk p vc) e1 Hd2 σ H', ⟨_, rfl, Nat.zero_le _, [], [], Hd1, w0, Nat.le_refl _, Same.refl _, .nil, (R1.newO np).toBlk h0p (R1.dh.free np) upd_same (not_owns_new R1 np)⟩, fun i m H2 hW => ?_⟩
    obtain ⟨rfl, hl, acc, vc, Hd2, wi, la, sm2, da, R2⟩ := hW
    by_cases hi : i < xs.length
    · have hx : xs[i]? = some xs[i] := List.getElem?_eq_getElem hi
      obtain ⟨go, yl⟩ := (it (C.blk p vc) i e1 Hd2 σ H2 sm2 R2).2 _ hx
      refine Or.inr ⟨go, fun H' => ∃ acc vc Hd2 , W (i + 1) acc ∧ acc.length ≤ i + 1 ∧ Same Hd1 Hd2 ∧ DqAll X.K Hd2 vc acc ∧ Rep X.K (C.blk p vc) e1 Hd2 σ H', fun H' z => ⟨_, by omega, rfl, by omega, z⟩, fun v H3 hy => ?_⟩
      obtain ⟨Hd3, sm3, R3, dq⟩ := yl v H3 hy
      refine ⟨C.blk p vc, Mx.wipe e1 vs, Hd3, _, R3.wipe vs, dq, g.mono (fun e2 ⟨hw2, q⟩ σ2 Hd4 H4 sm4 R4 so => ?_) (ws i _ acc hx wi la)⟩
      have hw : L2.wipe σ2 vs = L2.wipe σ vs := by
        refine (wipe_eq so hsl).trans ?_
        exact wipe_twice σ vs
      refine ⟨hw, htt _ _ _ ⟨C.blk p vc, e2, Hd4, fun _ _ _ _ _ _ _ z => z.elim, R4, tt.mono (fun _ z => z) (fun b e3 q Hd5 H5 sm5 R5 => ?_) q⟩⟩
      have back : ∀ (e4 : Env) (Hd7 : Hp) (H6 : Hp), Mx.wipe e4 vs = Mx.wipe e1 vs → Same Hd4 Hd7 → Rep X.K (C.blk p vc) e4 Hd7 σ2 H6 → Rep X.K (C.blk p vc) e1 Hd7 σ H6 := fun e4 Hd7 H6 he sm R7 =>
        Rep.unwipe R2 R7 (sm3.trans (sm4.trans sm)) he hw no
      cases b
      · rw [if_neg (by decide)] at q
        refine iteF ?_
        exact ⟨acc, vc, Hd5, q.2, by omega, sm2.trans (sm3.trans (sm4.trans sm5)), da.mono (sm3.trans (sm4.trans sm5)), back e3 Hd5 H5 q.1 sm5 R5⟩
      · rw [if_pos rfl] at q
        refine iteT ?_
        refine ⟨C.blk p vc, e3, Hd5, fun _ _ _ _ _ _ _ z => z.elim, R5, w.mono (fun _ z => z) (fun r e4 ⟨hw4, q⟩ v6 Hd6 H6 sm6 R6 rr => ?_) q⟩
        obtain ⟨Hd7, y, hy7, sm7, R7, dq7⟩ := RR.frz R6 rr q
        have sm47 : Same Hd4 Hd7 := sm5.trans (sm6.trans sm7)
        have R8 := back e4 Hd7 H6 hw4 sm47 R7
        obtain ⟨R9, hp9, hd9, no9⟩ := R8.ofBlk h0p hd0p nk
        have da7 : DqAll X.K Hd7 vc acc := da.mono (sm3.trans (sm4.trans sm47))
        have hlv : vc.length < sizeLine := by
          rw [da7.len, sizeLine_eq]
          omega
        refine ⟨vc, hp9, hlv, acc ++ [y], vc ++ [v6], Hd7, hy7, by rw [List.length_append, List.length_singleton]; omega, sm2.trans (sm3.trans (sm4.trans sm47)), da7.append (.one dq7), ?_⟩
        exact (R9.put h0p hd9 no9).toBlk h0p hd9 upd_same no9
    · have ei : i = xs.length := by omega
      subst ei
      obtain ⟨R9, hp9, hd9, no9⟩ := R2.ofBlk h0p hd0p nk
      exact Or.inl ⟨(it (C.blk p vc) _ e1 Hd2 σ H2 sm2 R2).1 rfl, we acc wi (.ref p) Hd2 H2 sm2 R9 ⟨p, rfl, hd9, h0p, ⟨vc, hp9, da⟩, no9⟩⟩
theorem lc_imp {t : Itr} {g : Tgt} {tt : Tst} {w : Ex} {tgs : TT} {vs : List Nat} {σ : L2.St} {H : Hp} {Q : VK} (htt : ∀ σ H Q, rT X E0 tt σ H Q → tgs σ H Q) (hsl : ∀ k ∈ g.slots, k ∈ vs) (h : rE X E (xLc t g tt w vs) σ H Q) :
    tLc (rI X E t) (rG X g) tgs (rE X E0 w) vs σ H Q := by
  obtain ⟨C, env, Hd, okc, R, h⟩ := h
  exact ⟨C, env, Hd, okc, R, t.mono (fun _ z => z) (fun xs e1 ⟨W, w0, ws, hlen, no, we⟩ J Hd1 H1 sm1 R1 it =>
    lc_body htt hsl R1 it w0 ws hlen no fun acc wi v Hd' H' sm => we acc wi v Hd' H' (sm1.trans sm)) h⟩
theorem m_lc {elt tg iter : Expr} {ifs : List Expr} {scope : Scope} {own : List (Str × Nat)} {t : Itr} {g : Tgt} {tt : Tst} {w : Ex} {tgs : TT} (hc : X.calm = true) (hN : X.N.Nodup) (hi : IV X E tg iter t) (ok : BlkOk X.N X.env.scope scope own)
    (hg : ∀ (s : Shared) (H : Hp) (C : Addr) (cl : List (Str × Addr)) (fp : List Addr), GV (X.blk s H scope (compEnvC scope cl C X.env) fp) tg g) (ht : ∀ (s : Shared) (H : Hp) (C : Addr) (cl : List (Str × Addr)) (fp : List Addr), PTs (X.blk s H scope (compEnvC scope cl C X.env) fp) ifs tgs)
    (htt : ∀ σ H Q, rT X E0 tt σ H Q → tgs σ H Q) (hsl : ∀ k ∈ g.slots, k ∈ own.map (·.2))
    (he : ∀ (s : Shared) (H : Hp) (C : Addr) (cl : List (Str × Addr)) (fp : List Addr), EV (X.blk s H scope (compEnvC scope cl C X.env) fp) E0 elt w) (hs : ∀ x, foldedSetIterable iter X.env x = pure x := by intro _; rfl) :
    EV X E (.ListComp elt [⟨tg, iter, ifs, 0⟩] scope pos) (xLc t g tt w (own.map (·.2))) :=
  PE_imp (pe_lc hc hN hi ok hg ht he hs) fun σ H Q h => lc_imp htt hsl h
/-- without an if; with one -/
theorem m_lc0 {elt tg iter : Expr} {scope : Scope} {own : List (Str × Nat)} {t : Itr} {g : Tgt} {w : Ex} (hc : X.calm = true) (hN : X.N.Nodup) (hi : IV X E tg iter t) (ok : BlkOk X.N X.env.scope scope own)
    (hg : ∀ (s : Shared) (H : Hp) (C : Addr) (cl : List (Str × Addr)) (fp : List Addr), GV (X.blk s H scope (compEnvC scope cl C X.env) fp) tg g)
    (he : ∀ (s : Shared) (H : Hp) (C : Addr) (cl : List (Str × Addr)) (fp : List Addr), EV (X.blk s H scope (compEnvC scope cl C X.env) fp) E0 elt w) (hsl : ∀ k ∈ g.slots, k ∈ own.map (·.2) := by decide) (hs : ∀ x, foldedSetIterable iter X.env x = pure x := by intro _; rfl) :
    EV X E (.ListComp elt [⟨tg, iter, [], 0⟩] scope pos) (xLc t g Mx.tYes w (own.map (·.2))) :=
  m_lc hc hN hi ok hg (fun _ _ _ _ _ => pts_nil) (fun σ H Q ⟨C, env, Hd, _, R, h⟩ => h Hd H (Same.refl _) R) hsl he hs
theorem m_lc1 {elt tg iter c : Expr} {scope : Scope} {own : List (Str × Nat)} {t : Itr} {g : Tgt} {tt : Tst} {w : Ex} (hc : X.calm = true) (hN : X.N.Nodup) (hi : IV X E tg iter t) (ok : BlkOk X.N X.env.scope scope own)
    (hg : ∀ (s : Shared) (H : Hp) (C : Addr) (cl : List (Str × Addr)) (fp : List Addr), GV (X.blk s H scope (compEnvC scope cl C X.env) fp) tg g)
    (ht : ∀ (s : Shared) (H : Hp) (C : Addr) (cl : List (Str × Addr)) (fp : List Addr), TV (X.blk s H scope (compEnvC scope cl C X.env) fp) E0 c tt)
    (he : ∀ (s : Shared) (H : Hp) (C : Addr) (cl : List (Str × Addr)) (fp : List Addr), EV (X.blk s H scope (compEnvC scope cl C X.env) fp) E0 elt w) (hsl : ∀ k ∈ g.slots, k ∈ own.map (·.2) := by decide) (hs : ∀ x, foldedSetIterable iter X.env x = pure x := by intro _; rfl) :
    EV X E (.ListComp elt [⟨tg, iter, [c], 0⟩] scope pos) (xLc t g tt w (own.map (·.2))) :=
  m_lc hc hN hi ok hg (fun s H C cl fp => pts_one (ht s H C cl fp)) (fun σ H Q h => h) hsl he hs
end
end Mx

-- MxN
/-! Mx: enumerate and zip over lists and tuples. -/
namespace Mx
open PySem PySem.Spec PyProof.Rows L2
/-- what is gone through: a list, a tuple -/
inductive Src
  | l
  | t
def SrcSq (K : PySem.W.Frag) (H : Hp) : Src → Addr → List V → Prop
  | .l, a, xs => SqL K H a xs
  | .t, a, xs => SqT K H a xs
def SrcIt (h : Heap) : Src → Addr → Addr → Nat → Prop
  | .l, it, a, i => h.IsListIter it a i
  | .t, it, a, i => h.IsTupleIter it a i
def SrcIs (h : Heap) : Src → Addr → Array Value → Prop
  | .l, a, xs => h.IsList a xs
  | .t, a, xs => h.IsTuple a xs
def SrcObj : Src → Addr → Obj
  | .l, a => { cls := .type "list_iterator", data := .fields #[.ref a, .int 0 0] }
  | .t, a => { cls := .type "tuple_iterator", data := .fields #[.ref a, .int 0 0] }
theorem SrcIt.obj {h : Heap} {k : Src} {it a : Addr} {i : Nat} (q : SrcIt h k it a i) : ∃ o, h.get? it = some o ∧ ∀ v, o.data ≠ .cell v := by
  cases k <;> exact let ⟨o, ho, _, hd⟩ := q; ⟨o, ho, fun v z => by rw [hd] at z; cases z⟩
theorem SrcIt.at {h h' : Heap} {k : Src} {it a : Addr} {i : Nat} (q : SrcIt h k it a i) (e : ∀ o, h.get? it = some o → h'.get? it = some o) : SrcIt h' k it a i := by
  cases k
  · exact Heap.IsListIter.at q e
  · exact Heap.IsTupleIter.at q e
theorem SrcIt.lt {h : Heap} {k : Src} {it a : Addr} {i : Nat} (q : SrcIt h k it a i) : it < h.objs.size := by
  obtain ⟨o, ho, _⟩ := q.obj
  exact Heap.lt_size ho
theorem SrcIt.new {h : Heap} {k : Src} {it a : Addr} (q : h.get? it = some (SrcObj k a)) : SrcIt h k it a 0 := by
  cases k <;> exact ⟨_, q, rfl, rfl⟩
theorem SrcIs.at {h h' : Heap} {k : Src} {a : Addr} {xs : Array Value} (q : SrcIs h k a xs) (e : ∀ o, h.get? a = some o → h'.get? a = some o) : SrcIs h' k a xs := by
  cases k
  · exact Heap.IsList.at q e
  · exact Heap.IsTuple.at q e
theorem src_draws {prog : Program} {w : World} {A : Around} (hh : A.handled = none) (k : Src) (it a : Addr) (hne : a ≠ it) (items : Array Value) :
    Draws prog w A it [it, a] items.size (fun i v => items[i]? = some v) (fun i h => SrcIt h k it a i ∧ SrcIs h k a items) := by
  cases k
  · exact Draws.list hh it a hne items
  · exact Draws.tuple hh it a hne items
theorem src_begins (k : Src) (a : Addr) (items : Array Value) : Begins (.ref a) (SrcObj k a) fun h => SrcIs h k a items := by
  cases k
  · exact begins_list a items
  · exact begins_tuple a items
section
variable {X : Cx} {pins : List (Addr × Obj)} {σ : L2.St} {H : Hp} {s : Shared}
theorem src_inv (I : L2.Inv X pins σ H s) {k : Src} {a : Addr} {xs : List V} (q : SrcSq X.K H k a xs) : ∃ its : List Value, Vals xs its ∧ SrcIs s.heap k a its.toArray ∧ a < s.heap.objs.size := by
  cases k
  · obtain ⟨its, rv, p, _⟩ := I.list q
    exact ⟨its, rv, p.isList, p.lt⟩
  · obtain ⟨its, rv, p, _⟩ := I.tuple q
    obtain ⟨o, ho, _⟩ := id p
    exact ⟨its, rv, p, Heap.lt_size ho⟩
theorem src_inj (I : L2.Inv X pins σ H s) {k : Src} {a : Addr} {xs ys : List V} (p : SrcSq X.K H k a xs) (q : SrcSq X.K H k a ys) : xs = ys := by
  cases k
  · exact I.list_inj p q
  · exact I.tuple_inj p q
end

/-! ### enumerate -/
def IteM (K : PySem.W.Frag) (k : Src) (a : Addr) : It :=
  ⟨fun i H => ∃ (xs : List V) (x : V), SrcSq K H k a xs ∧ xs[i]? = some x,
   fun i H v H' => ∃ T o x, v = .ref T ∧ H T = none ∧ o.dict = none ∧ H' = upd H T (.frz o (.tup [.int (i : Nat), x])) ∧ ∀ xs, SrcSq K H k a xs → xs[i]? = some x,
   fun i H => ∃ xs : List V, SrcSq K H k a xs ∧ xs.length = i⟩
theorem turn_enumM {P : Program} {w : World} {K : PySem.W.Frag} {elts : List Expr} {kk : Nat} {tpos : Pos} (k : Src) (a e it : Addr) :
    Turn P w K (.Tuple elts kk tpos) (IteM K k a) [e, it] e (fun i h => (∃ old, IsEnum h e it ((i : Nat) : Int) old) ∧ SrcIt h k it a i ∧ e ≠ it ∧ e ≠ a ∧ a ≠ it) where
  mem := by simp
  obj := fun i h st b hb => by
    obtain ⟨⟨old, he⟩, hi, _⟩ := st
    have e' : b = e ∨ b = it := by simpa using hb
    rcases e' with z | z
    · rw [z]; exact ⟨_, he, fun v q => nomatch q⟩
    · rw [z]; exact hi.obj
  keep := fun i h h' st k => let ⟨⟨old, he⟩, hi, hne⟩ := st; ⟨⟨old, k e (by simp) _ he⟩, hi.at fun o q => k it (by simp) o q, hne⟩
  item := by
    intro X hP hw hK hc i pins s σ H E I hf st hg
    subst hP hw hK
    obtain ⟨⟨old, he⟩, hit, hne, hea, hai⟩ := st
    obtain ⟨xs, x, hq, hx⟩ := hg
    obtain ⟨its, rv, p, _⟩ := src_inv I hq
    obtain ⟨u, hu, ru⟩ := rv.get hx
    have hel : e < s.heap.objs.size := Heap.lt_size he
    have hil : it < s.heap.objs.size := hit.lt
    have hlt : i < its.toArray.size := by
      have := (List.getElem?_eq_some_iff.mp hu).1
      simpa using this
    refine wpAny_pyNext_enum_itemD (src_draws (show X.A.in1.handled = none from I.ok.hd hc) k it a hai its.toArray) he ⟨hit, p⟩ hlt hne (by simp; exact ⟨hne, hea⟩) fun x1 h' tk hP ho hst hT hsz hk => ?_
    obtain rfl : x1 = u := by
      have z : its.toArray[i]? = some u := by simpa using hu
      exact Option.some.inj (hP.symm.trans z)
    refine ⟨_, rfl, wpAny_letOwnedTupleGo_enum (s := { s with heap := h', toks := tk + 1 }) ho fun h'' he' sb => ?_⟩
    have hT2 : h''.get? s.heap.objs.size = some { cls := .type "tuple", data := .seq #[.int i tk, x1] } := (sb.2 _ (Nat.ne_of_gt hel)).trans hT
    have new : ObjOk X.prog X.w (upd H s.heap.objs.size (.frz { cls := .type "tuple", data := .seq #[.int i tk, x1] } (.tup [.int (i : Nat), x]))) h'' s.heap.objs.size (.frz { cls := .type "tuple", data := .seq #[.int i tk, x1] } (.tup [.int (i : Nat), x])) :=
      ⟨hT2, by show 2 ≤ sizeLine; decide, [.int i tk, x1], .cons ⟨_, rfl⟩ (.cons ru .nil), ⟨_, hT2, rfl, _, rfl⟩⟩
    have I1 : Inv X pins σ (upd H s.heap.objs.size (.frz { cls := .type "tuple", data := .seq #[.int i tk, x1] } (.tup [.int (i : Nat), x]))) { s with heap := h'', toks := tk + 1 } :=
      I.turnedNew (ch := [e, it]) (fun b ob hb q => (sb.2 b (fun z => hb (by simp [z]))).trans (hk b ob (fun z => hb (by simp [z])) (fun z => hb (by simp [z])) q)) hf (Nat.le_refl _) new
    refine ⟨.ref s.heap.objs.size, _, I1, rfl, ⟨_, _, x, rfl, I.hok.fresh (Nat.le_refl _), rfl, rfl, fun ys hy => by rw [src_inj I hy hq]; exact hx⟩, ⟨⟨x1, ?_⟩, hst.1.at fun o q => (sb.2 it (Ne.symm hne)).trans q, hne, hea, hai⟩, fun b hb => ?_⟩
    · have e1 : ((i + 1 : Nat) : Int) = (i : Int) + 1 := by omega
      rw [e1]; exact he'
    · have hb' : b < s.heap.objs.size := by
        have e' : b = e ∨ b = it := by simpa using hb
        rcases e' with z | z
        · rw [z]; exact hel
        · rw [z]; exact hil
      rw [upd_ne (Nat.ne_of_lt hb')]
      exact (hf b hb).1
  done := by
    intro X hP hw hK hc i pins s σ H E I hf st hg
    subst hP hw hK
    obtain ⟨⟨old, he⟩, hit, hne, hea, hai⟩ := st
    obtain ⟨xs, hq, hx⟩ := hg
    obtain ⟨its, rv, p, _⟩ := src_inv I hq
    obtain ⟨f0, f1, f2, f3, f4, f5⟩ := hf it (by simp)
    have hl : its.toArray.size = i := by
      have := rv.length
      simp; omega
    subst hl
    exact wpAny_pyNext_enum_endD (src_draws (show X.A.in1.handled = none from I.ok.hd hc) k it a hai its.toArray) he ⟨hit, p⟩ fun h' eb => ⟨rfl, I.turned (t' := s.toks) (fun b o hb q => eb b o hb q) f0 f1 f3 f4 f5⟩
  self := fun A i s Q E st h => let ⟨⟨_, he⟩, _⟩ := st; wpAny_pyIter_enum he h
theorem meets_enumM {v : Value} {o : Obj} {H : Heap → Prop} (B : Begins v o H) :
    Meets (Builtin.«enumerate.__new__» ⟨[.type "enumerate", v], []⟩) (fun _ R s => H s.heap ∧
      R (.ok (.ret (.ref (s.heap.push o).objs.size))) { s with heap := (s.heap.push o).push { cls := .type "enumerate", data := .fields #[.none, .bool false, .ref s.heap.objs.size, rawInt 0, .none, .none] } }) :=
  .of_wp fun prog w A R s h => by
    obtain ⟨hp, g, d, tk, os⟩ := s; obtain ⟨h1, h⟩ := h
    have hsub := sub_enumerate
    have q1 : ∀ {A' : Around} {E : Value → Shared → Prop} {Q : Value → Shared → Prop}, Q (.ref hp.objs.size) ⟨hp.push o, g, d, tk, os⟩ → wpAny (model prog w) A' (pyIter v) Q E ⟨hp, g, d, tk, os⟩ :=
      fun q => B.iter prog w _ _ ⟨hp, g, d, tk, os⟩ _ h1 q
    wp_walk using q1
    refine wpAny_stack_any fun st => wpAny_pure ?_
    split
    · rename_i c _ _ _ _ _
      cases (c == Value.type "enumerate")
      · wp_walk using q1
        exact ⟨_, rfl, h⟩
      · wp_walk using q1
        exact ⟨_, rfl, h⟩
    · wp_walk using q1
      exact ⟨_, rfl, h⟩
section
variable {prog : Program} {w : World} {A : Around} {E : Value → Shared → Prop} {s : Shared}
theorem call_enumM {v : Value} {o : Obj} {H : Heap → Prop} {Q : Value → Shared → Prop} (B : Begins v o H) (h1 : H s.heap)
    (h : ∀ h', IsEnum h' (s.heap.objs.size + 1) s.heap.objs.size 0 .none → h'.get? s.heap.objs.size = some o → h'.objs.size = s.heap.objs.size + 2 →
      (∀ b o, s.heap.get? b = some o → h'.get? b = some o) → Q (.ref (s.heap.objs.size + 1)) { s with heap := h' }) :
    wpAny (model prog w) A (call (.type "enumerate") [v]) Q E s := by
  refine callType_new F.called_enumerate (by decide) (F.typeCall_enumerate_1 _) (F.newCall_enumerate_1 _) (fun obj => F.args_object_init_2 obj _) F.entry_enumerate_new
    (meets_enumM B) ⟨h1, ?_⟩
  have hz : (s.heap.push o).objs.size = s.heap.objs.size + 1 := Heap.size_push ..
  show _ ∧ _
  rw [hz]
  have he : IsEnum ((s.heap.push o).push { cls := .type "enumerate", data := .fields #[.none, .bool false, .ref s.heap.objs.size, rawInt 0, .none, .none] }) (s.heap.objs.size + 1) s.heap.objs.size 0 .none := by
    have := Heap.get?_push_size (s.heap.push o) (o := { cls := .type "enumerate", data := .fields #[.none, .bool false, .ref s.heap.objs.size, rawInt 0, .none, .none] }) rfl
    rw [hz] at this; exact this
  refine ⟨⟨_, he, rfl⟩, h _ he (Heap.get?_push_of_some _ (Heap.get?_push_size _ B.free)) (by rw [Heap.size_push, hz]) fun b o x => Heap.get?_push_of_some _ (Heap.get?_push_of_some _ x)⟩
end
def iEnumM (K : PySem.W.Frag) (ta : TA) : TI := fun σ H R => ta σ H fun vs H1 => ∃ k a xs, vs = [.ref a] ∧ SrcSq K H1 k a xs ∧ R (IteM K k a) H1
theorem pi_enumM {X : Cx} {e : Expr} {ta : TA} {p pos tpos : Pos} {elts : List Expr} {kk : Nat} (hg : Gl X "enumerate") (hm : X.mg "enumerate" = none) (ha : PA X [e] ta) (hs : starEach [e] X.env = [(false, eval e X.env)] := by rfl) :
    PI X (.Tuple elts kk tpos) (.Call (.Name "enumerate" p) [e] [] pos) (iEnumM X.K ta) := by
  refine ⟨fun pins s σ H R I h => ?_⟩
  refine Call_ (ld_blt I hg hm boot_enumerate (PyProof.Rows.callWith_type1 (thn (ha.run pos pins s σ H _ I h) fun us s1 ⟨vs, H1, I1, r1, q1⟩ => ?_) hs rfl))
  obtain ⟨k, a, xs, ex, hq, q⟩ := q1
  subst ex
  cases r1 with
  | cons r rr =>
    cases rr
    cases r
    obtain ⟨its, rv, p', la⟩ := src_inv I1 hq
    refine call_enumM (src_begins k a its.toArray) p' fun h' he hit hsz hk => wpAny_pyIter_enum he ?_
    have I2 : Inv X pins σ H1 { s1 with heap := h' } := I1.kept (t' := s1.toks) hk
    refine ⟨s1.heap.objs.size + 1, [s1.heap.objs.size + 1, s1.heap.objs.size], _, _, H1, rfl, I2, turn_enumM k a (s1.heap.objs.size + 1) s1.heap.objs.size, ⟨⟨.none, he⟩, .new hit, Nat.succ_ne_self _, Nat.ne_of_gt (Nat.lt_succ_of_lt la), Nat.ne_of_lt la⟩, fun b hb => ?_, q⟩
    have e' : b = s1.heap.objs.size + 1 ∨ b = s1.heap.objs.size := by simpa using hb
    have hle : s1.heap.objs.size ≤ b := by
      rcases e' with z | z
      · rw [z]; exact Nat.le_add_right _ _
      · rw [z]; exact Nat.le_refl _
    exact I1.fpOk hle (I1.hok.fresh hle)
/-! ### zip -/
def ItzM (K : PySem.W.Frag) (k : Src) (a : Addr) (k' : Src) (b : Addr) : It :=
  ⟨fun i H => ∃ (xs ys : List V) (x y : V), SrcSq K H k a xs ∧ SrcSq K H k' b ys ∧ xs[i]? = some x ∧ ys[i]? = some y,
   fun i H v H' => ∃ T o x y, v = .ref T ∧ H T = none ∧ o.dict = none ∧ H' = upd H T (.frz o (.tup [x, y])) ∧ (∀ xs, SrcSq K H k a xs → xs[i]? = some x) ∧ ∀ ys, SrcSq K H k' b ys → ys[i]? = some y,
   fun i H => ∃ xs ys : List V, SrcSq K H k a xs ∧ SrcSq K H k' b ys ∧ min xs.length ys.length = i⟩
theorem turn_zipM {P : Program} {w : World} {K : PySem.W.Frag} {elts : List Expr} {kk : Nat} {tpos : Pos} (k k' : Src) {a b z TI TO i1 i2 : Addr} (D : ZipSep2 z TI TO i1 i2 [i1, a] [i2, b]) :
    Turn P w K (.Tuple elts kk tpos) (ItzM K k a k' b) [z, TI, TO, i1, i2] z (fun i h => IsZip h z TI TO .none ∧ IsTupOf2 h TI (.ref i1) (.ref i2) ∧ (∃ x y, IsTupOf2 h TO x y) ∧ SrcIt h k i1 a i ∧ SrcIt h k' i2 b i) where
  mem := by simp
  obj := fun i h st c hc => by
    obtain ⟨hz, hTI, ⟨x, y, hTO⟩, h1, h2⟩ := st
    have e' : c = z ∨ c = TI ∨ c = TO ∨ c = i1 ∨ c = i2 := by simpa using hc
    rcases e' with q | q | q | q | q
    · rw [q]; exact ⟨_, hz, fun v q => nomatch q⟩
    · rw [q]; exact ⟨_, hTI, fun v q => nomatch q⟩
    · rw [q]; exact ⟨_, hTO, fun v q => nomatch q⟩
    · rw [q]; exact h1.obj
    · rw [q]; exact h2.obj
  keep := fun i h h' st k => by
    obtain ⟨hz, hTI, ⟨x, y, hTO⟩, h1, h2⟩ := st
    exact ⟨k z (by simp) _ hz, k TI (by simp) _ hTI, ⟨x, y, k TO (by simp) _ hTO⟩, h1.at fun o q => k i1 (by simp) o q, h2.at fun o q => k i2 (by simp) o q⟩
  item := by
    intro X hP hw hK hc i pins s σ H E I hf st hg
    subst hP hw hK
    obtain ⟨hz, hTI, ⟨x0, y0, hTO⟩, h1, h2⟩ := st
    obtain ⟨xs, ys, x, y, hqx, hqy, hx, hy⟩ := hg
    obtain ⟨its, rv, p, la⟩ := src_inv I hqx
    obtain ⟨its2, rv2, p2, lb⟩ := src_inv I hqy
    obtain ⟨u, hu, ru⟩ := rv.get hx
    obtain ⟨u2, hu2, ru2⟩ := rv2.get hy
    have hzl : z < s.heap.objs.size := Heap.lt_size hz
    have hl1 : i < its.toArray.size := by
      have := (List.getElem?_eq_some_iff.mp hu).1
      simpa using this
    have hl2 : i < its2.toArray.size := by
      have := (List.getElem?_eq_some_iff.mp hu2).1
      simpa using this
    have hai : a ≠ i1 := fun e => by
      obtain ⟨o, ho, _⟩ := h1.obj
      have n1 := (hf i1 (by simp)).1
      cases k with
      | l =>
        obtain ⟨o2, e2, c2, _⟩ := (show s.heap.IsList a its.toArray from p)
        obtain ⟨o3, e3, c3, _⟩ := (show s.heap.IsListIter i1 a i from h1)
        rw [e, e3] at e2
        cases e2
        rw [c3] at c2
        exact absurd c2 (by decide)
      | t =>
        obtain ⟨o2, e2, c2, _⟩ := (show s.heap.IsTuple a its.toArray from p)
        obtain ⟨o3, e3, c3, _⟩ := (show s.heap.IsTupleIter i1 a i from h1)
        rw [e, e3] at e2
        cases e2
        rw [c3] at c2
        exact absurd c2 (by decide)
    have hbi : b ≠ i2 := fun e => by
      cases k' with
      | l =>
        obtain ⟨o2, e2, c2, _⟩ := (show s.heap.IsList b its2.toArray from p2)
        obtain ⟨o3, e3, c3, _⟩ := (show s.heap.IsListIter i2 b i from h2)
        rw [e, e3] at e2
        cases e2
        rw [c3] at c2
        exact absurd c2 (by decide)
      | t =>
        obtain ⟨o2, e2, c2, _⟩ := (show s.heap.IsTuple b its2.toArray from p2)
        obtain ⟨o3, e3, c3, _⟩ := (show s.heap.IsTupleIter i2 b i from h2)
        rw [e, e3] at e2
        cases e2
        rw [c3] at c2
        exact absurd c2 (by decide)
    refine wpAny_pyNext_zipD2_item D (src_draws (show X.A.in1.handled = none from I.ok.hd hc) k i1 a hai its.toArray) (src_draws (show X.A.in1.handled = none from I.ok.hd hc) k' i2 b hbi its2.toArray) hz hTI hTO ⟨h1, p⟩ ⟨h2, p2⟩ hl1 hl2 fun x1 x2 h' tk hP1 hP2 z' TO' st1 st2 hT hsz hk => ?_
    obtain rfl : x1 = u := by
      have z : its.toArray[i]? = some u := by simpa using hu
      exact Option.some.inj (hP1.symm.trans z)
    obtain rfl : x2 = u2 := by
      have z : its2.toArray[i]? = some u2 := by simpa using hu2
      exact Option.some.inj (hP2.symm.trans z)
    refine ⟨_, rfl, wpAny_letOwnedTupleGo_zip (s := { s with heap := h', toks := tk }) z' fun h'' z'' sb => ?_⟩
    have hT2 : h''.get? s.heap.objs.size = some { cls := .type "tuple", data := .seq #[x1, x2] } := (sb.2 _ (Nat.ne_of_gt hzl)).trans hT
    have new : ObjOk X.prog X.w (upd H s.heap.objs.size (.frz { cls := .type "tuple", data := .seq #[x1, x2] } (.tup [x, y]))) h'' s.heap.objs.size (.frz { cls := .type "tuple", data := .seq #[x1, x2] } (.tup [x, y])) :=
      ⟨hT2, by show 2 ≤ sizeLine; decide, [x1, x2], .cons ru (.cons ru2 .nil), ⟨_, hT2, rfl, _, rfl⟩⟩
    have I1 : Inv X pins σ (upd H s.heap.objs.size (.frz { cls := .type "tuple", data := .seq #[x1, x2] } (.tup [x, y]))) { s with heap := h'', toks := tk } :=
      I.turnedNew (ch := [z, TI, TO, i1, i2]) (fun c o hb q => (sb.2 c (fun q' => hb (by simp [q']))).trans (hk c o (fun q' => hb (by simp [q'])) (fun q' => hb (by simp [q'])) (fun q' => hb (by simp [q'])) (fun q' => hb (by simp [q'])) q)) hf (Nat.le_refl _) new
    refine ⟨.ref s.heap.objs.size, _, I1, rfl, ⟨_, _, x, y, rfl, I.hok.fresh (Nat.le_refl _), rfl, rfl, fun l hl => by rw [src_inj I hl hqx]; exact hx, fun l hl => by rw [src_inj I hl hqy]; exact hy⟩, ⟨z'', ?_, ⟨x1, x2, ?_⟩, ?_, ?_⟩, fun c hcm => ?_⟩
    · exact (sb.2 _ D.TIz).trans (hk _ _ D.TIz D.TITO D.TIi1 D.TIi2 hTI)
    · exact (sb.2 _ D.TOz).trans TO'
    · exact st1.1.at fun o q => (sb.2 _ (Ne.symm D.zi1)).trans q
    · exact st2.1.at fun o q => (sb.2 _ (Ne.symm D.zi2)).trans q
    · have hlt : c < s.heap.objs.size := by
        have e' : c = z ∨ c = TI ∨ c = TO ∨ c = i1 ∨ c = i2 := by simpa using hcm
        rcases e' with q | q | q | q | q
        · rw [q]; exact hzl
        · rw [q]; exact Heap.lt_size hTI
        · rw [q]; exact Heap.lt_size hTO
        · rw [q]; exact h1.lt
        · rw [q]; exact h2.lt
      rw [upd_ne (Nat.ne_of_lt hlt)]
      exact (hf c hcm).1
  done := by
    intro X hP hw hK hc i pins s σ H E I hf st hg
    subst hP hw hK
    obtain ⟨hz, hTI, ⟨x0, y0, hTO⟩, h1, h2⟩ := st
    obtain ⟨xs, ys, hqx, hqy, hend⟩ := hg
    obtain ⟨its, rv, p, la⟩ := src_inv I hqx
    obtain ⟨its2, rv2, p2, lb⟩ := src_inv I hqy
    have l1 : its.toArray.size = xs.length := by
      have := rv.length
      simp; omega
    have l2 : its2.toArray.size = ys.length := by
      have := rv2.length
      simp; omega
    have hai : a ≠ i1 := fun e => by
      cases k with
      | l =>
        obtain ⟨o2, e2, c2, _⟩ := (show s.heap.IsList a its.toArray from p)
        obtain ⟨o3, e3, c3, _⟩ := (show s.heap.IsListIter i1 a i from h1)
        rw [e, e3] at e2
        cases e2
        rw [c3] at c2
        exact absurd c2 (by decide)
      | t =>
        obtain ⟨o2, e2, c2, _⟩ := (show s.heap.IsTuple a its.toArray from p)
        obtain ⟨o3, e3, c3, _⟩ := (show s.heap.IsTupleIter i1 a i from h1)
        rw [e, e3] at e2
        cases e2
        rw [c3] at c2
        exact absurd c2 (by decide)
    have hbi : b ≠ i2 := fun e => by
      cases k' with
      | l =>
        obtain ⟨o2, e2, c2, _⟩ := (show s.heap.IsList b its2.toArray from p2)
        obtain ⟨o3, e3, c3, _⟩ := (show s.heap.IsListIter i2 b i from h2)
        rw [e, e3] at e2
        cases e2
        rw [c3] at c2
        exact absurd c2 (by decide)
      | t =>
        obtain ⟨o2, e2, c2, _⟩ := (show s.heap.IsTuple b its2.toArray from p2)
        obtain ⟨o3, e3, c3, _⟩ := (show s.heap.IsTupleIter i2 b i from h2)
        rw [e, e3] at e2
        cases e2
        rw [c3] at c2
        exact absurd c2 (by decide)
    exact wpAny_pyNext_zipD2_end D (src_draws (show X.A.in1.handled = none from I.ok.hd hc) k i1 a hai its.toArray) (src_draws (show X.A.in1.handled = none from I.ok.hd hc) k' i2 b hbi its2.toArray) hz hTI hTO ⟨h1, p⟩ ⟨h2, p2⟩ (by omega) (by omega) (by omega) fun h' tk hk => ⟨rfl, I.turnedL (ch := [z, TI, TO, i1, i2]) (fun c o hb q =>
      hk c o (fun q' => hb (by simp [q'])) (fun q' => hb (by simp [q'])) (fun q' => hb (by simp [q'])) (fun q' => hb (by simp [q'])) q) hf⟩
  self := fun A i s Q E st h => wpAny_pyIter_zip st.1 h
def iZipM (K : PySem.W.Frag) (ta : TA) : TI := fun σ H R => ta σ H fun vs H1 => ∃ k a k' b xs ys, vs = [.ref a, .ref b] ∧ SrcSq K H1 k a xs ∧ SrcSq K H1 k' b ys ∧ R (ItzM K k a k' b) H1
theorem pi_zipM {X : Cx} {e e2 : Expr} {ta : TA} {p pos tpos : Pos} {elts : List Expr} {kk : Nat} (hg : Gl X "zip") (hm : X.mg "zip" = none) (ha : PA X [e, e2] ta)
    (hs : starEach [e, e2] X.env = (false, eval e X.env) :: starEach [e2] X.env := by rfl) (hpl : (backTo pos (starEach [e2] X.env)).any (·.1) = false := by rfl) :
    PI X (.Tuple elts kk tpos) (.Call (.Name "zip" p) [e, e2] [] pos) (iZipM X.K ta) := by
  refine ⟨fun pins s σ H R I h => ?_⟩
  refine Call_ (ld_blt I hg hm PyProof.Rows.boot_zip (PyProof.Rows.callWith_type1 (thn (ha.run pos pins s σ H _ I h) fun us s1 ⟨vs, H1, I1, r1, q1⟩ => ?_) hs hpl))
  obtain ⟨k, a, k', b, xs, ys, ex, hqx, hqy, q⟩ := q1
  subst ex
  cases r1 with
  | cons r rr =>
    cases rr with
    | cons r' rr =>
      cases rr
      cases r
      cases r'
      obtain ⟨its, rv, p1, la⟩ := src_inv I1 hqx
      obtain ⟨its2, rv2, p2, lb⟩ := src_inv I1 hqy
      refine zip_begins2 (src_begins k a its.toArray) (src_begins k' b its2.toArray) p1 p2 fun h' hz hTI hTO h1 h2 hsz hk => wpAny_pyIter_zip hz ?_
      have I2 : Inv X pins σ H1 { s1 with heap := h' } := I1.kept (t' := s1.toks) hk
      refine ⟨s1.heap.objs.size + 4, [s1.heap.objs.size + 4, s1.heap.objs.size + 2, s1.heap.objs.size + 3, s1.heap.objs.size, s1.heap.objs.size + 1], _, _, H1, rfl, I2,
        turn_zipM k k' (zip_sep2 (N := s1.heap.objs.size) (fp1 := [a]) (fp2 := [b]) (fun c hc => by rw [List.mem_singleton.mp hc]; exact la) (fun c hc => by rw [List.mem_singleton.mp hc]; exact lb)), ⟨hz, hTI, ⟨_, _, hTO⟩, .new h1, .new h2⟩, fun c hcm => ?_, q⟩
      have e' : c = s1.heap.objs.size + 4 ∨ c = s1.heap.objs.size + 2 ∨ c = s1.heap.objs.size + 3 ∨ c = s1.heap.objs.size ∨ c = s1.heap.objs.size + 1 := by simpa using hcm
      have hle : s1.heap.objs.size ≤ c := by
        rcases e' with z | z | z | z | z
        · rw [z]; exact Nat.le_add_right _ _
        · rw [z]; exact Nat.le_add_right _ _
        · rw [z]; exact Nat.le_add_right _ _
        · rw [z]; exact Nat.le_refl _
        · rw [z]; exact Nat.le_add_right _ _
      exact I1.fpOk hle (I1.hok.fresh hle)

/-! ### by plain data -/
def enumL (xs : List D) : List D := xs.mapIdx fun i x => PyData.tuple [.int (i : Nat), x]
def zipL (xs ys : List D) : List D := List.zipWith (fun x y => PyData.tuple [x, y]) xs ys
def iEnum (t : Args) : Itr where
  rr Z e Q := t.run Z e fun ms e1 => ∃ y xs, ms = [.d y] ∧ items y = some xs ∧ Q (enumL xs) e1
  mn hZ hQ h := t.mono hZ (fun r e1 ⟨y, xs, h1, h2, h3⟩ => ⟨y, xs, h1, h2, hQ _ _ h3⟩) h
def iZip (t : Args) : Itr where
  rr Z e Q := t.run Z e fun ms e1 => ∃ y z xs ys, ms = [.d y, .d z] ∧ items y = some xs ∧ items z = some ys ∧ Q (zipL xs ys) e1
  mn hZ hQ h := t.mono hZ (fun r e1 ⟨y, z, xs, ys, h1, h2, h3, h4⟩ => ⟨y, z, xs, ys, h1, h2, h3, hQ _ _ h4⟩) h
section
variable [TheDeck]
variable {X : Cx} {E : XK} {pos : Pos}
theorem Dq.src {K : PySem.W.Frag} {H : Hp} {v : V} {y : D} {xs : List D} (h : Dq K H v y) (hi : items y = some xs) : ∃ k a vs, v = .ref a ∧ DqAll K H vs xs ∧ ∀ H', Same H H' → SrcSq K H' k a vs := by
  unfold items at hi
  split at hi
  · cases hi
    obtain ⟨a, vs, rfl, h1, h2⟩ := h.lst_inv
    exact ⟨.l, a, vs, rfl, h2, fun H' e => SqL.of (e _ _ h1)⟩
  · cases hi
    obtain ⟨a, vs, rfl, h1, h2⟩ := h.tup_inv
    exact ⟨.t, a, vs, rfl, h2, fun H' e => (same_seqF e h1).seq⟩
  · cases hi
theorem enumL_get {xs : List D} {i : Nat} {z : D} (h : (enumL xs)[i]? = some z) : ∃ x, xs[i]? = some x ∧ z = .tuple [.int (i : Nat), x] := by
  unfold enumL at h
  rw [List.getElem?_mapIdx] at h
  cases e : xs[i]? with
  | none => rw [e] at h; cases h
  | some x => rw [e] at h; exact ⟨x, rfl, (Option.some.inj h).symm⟩
theorem zipL_get {xs ys : List D} {i : Nat} {z : D} (h : (zipL xs ys)[i]? = some z) : ∃ x y, xs[i]? = some x ∧ ys[i]? = some y ∧ z = .tuple [x, y] := by
  unfold zipL at h
  rw [List.getElem?_zipWith] at h
  split at h
  · rename_i x y h1 h2
    exact ⟨x, y, h1, h2, (Option.some.inj h).symm⟩
  · cases h
theorem i_enum {elts : List Expr} {kk : Nat} {tpos : Pos} {a : Expr} {t : Args} {p : Pos} (hg : Gl X "enumerate") (hm : X.mg "enumerate" = none) (ha : AV X E [a] t) (hs : starEach [a] X.env = [(false, eval a X.env)] := by rfl) : IV X E (.Tuple elts kk tpos) (.Call (.Name "enumerate" p) [a] [] pos) (Mx.iEnum t) :=
  ⟨fun pins s σ H R I q => (pi_enumM hg hm ha hs).run pins s σ H R I (by
    obtain ⟨C, env, Hd, ok, Rp, q⟩ := q
    refine ⟨C, env, Hd, ok, Rp, t.mono (fun _ z => z) (fun ms e1 ⟨y, xs, hms, hi, hq⟩ vs Hd1 H1 sm1 R1 as => ?_) q⟩
    subst hms
    cases as with
    | d dq r =>
      cases r
      obtain ⟨k, a, vs, rfl, dv, sq⟩ := dq.src hi
      refine ⟨k, a, vs, rfl, sq _ R1.dh, hq _ Hd1 H1 sm1 R1 fun C3 i env2 Hd3 σ3 H3 sm3 R3 => ⟨fun hl => ⟨vs, sq _ (sm3.trans R3.dh), ?_⟩, fun z hz => ?_⟩⟩
      · rw [dv.len, ← hl]
        unfold enumL
        rw [List.length_mapIdx]
      · obtain ⟨x, hx, rfl⟩ := enumL_get hz
        obtain ⟨v, hv, dx⟩ := dv.get hx
        refine ⟨⟨vs, v, sq _ (sm3.trans R3.dh), hv⟩, fun v' H4 hy => ?_⟩
        obtain ⟨T, o, x', rfl, hT, hd, rfl, hx'⟩ := hy
        obtain rfl : x' = v := Option.some.inj ((hx' _ (sq _ (sm3.trans R3.dh))).symm.trans hv)
        exact ⟨_, same_new (R3.dh.free hT), R3.newD hT, .tup (.inl ⟨o, upd_same, hd⟩) (.cons (.int _) (.cons (dx.mono (sm3.trans (same_new (R3.dh.free hT)))) .nil))⟩)⟩
theorem i_zip {elts : List Expr} {kk : Nat} {tpos : Pos} {a b : Expr} {t : Args} {p : Pos} (hg : Gl X "zip") (hm : X.mg "zip" = none) (ha : AV X E [a, b] t) (hs : starEach [a, b] X.env = (false, eval a X.env) :: starEach [b] X.env := by rfl)
    (hpl : (backTo pos (starEach [b] X.env)).any (·.1) = false := by rfl) : IV X E (.Tuple elts kk tpos) (.Call (.Name "zip" p) [a, b] [] pos) (Mx.iZip t) :=
  ⟨fun pins s σ H R I q => (pi_zipM hg hm ha hs hpl).run pins s σ H R I (by
    obtain ⟨C, env, Hd, ok, Rp, q⟩ := q
    refine ⟨C, env, Hd, ok, Rp, t.mono (fun _ z => z) (fun ms e1 ⟨y, z, xs, ys, hms, hi, hi2, hq⟩ vs Hd1 H1 sm1 R1 as => ?_) q⟩
    subst hms
    cases as with
    | d dq r =>
      cases r with
      | d dq2 r =>
        cases r
        obtain ⟨k, a, vs, rfl, dv, sq⟩ := dq.src hi
        obtain ⟨k2, a2, vs2, rfl, dv2, sq2⟩ := dq2.src hi2
        refine ⟨k, a, k2, a2, vs, vs2, rfl, sq _ R1.dh, sq2 _ R1.dh, hq _ Hd1 H1 sm1 R1 fun C3 i env2 Hd3 σ3 H3 sm3 R3 => ⟨fun hl => ⟨vs, vs2, sq _ (sm3.trans R3.dh), sq2 _ (sm3.trans R3.dh), ?_⟩, fun z hz => ?_⟩⟩
        · rw [dv.len, dv2.len, ← hl]
          unfold zipL
          rw [List.length_zipWith]
        · obtain ⟨x, y, hx, hy, rfl⟩ := zipL_get hz
          obtain ⟨v, hv, dx⟩ := dv.get hx
          obtain ⟨v2, hv2, dy⟩ := dv2.get hy
          refine ⟨⟨vs, vs2, v, v2, sq _ (sm3.trans R3.dh), sq2 _ (sm3.trans R3.dh), hv, hv2⟩, fun v' H4 hyy => ?_⟩
          obtain ⟨T, o, x', y', rfl, hT, hd, rfl, hx', hy'⟩ := hyy
          obtain rfl : x' = v := Option.some.inj ((hx' _ (sq _ (sm3.trans R3.dh))).symm.trans hv)
          obtain rfl : y' = v2 := Option.some.inj ((hy' _ (sq2 _ (sm3.trans R3.dh))).symm.trans hv2)
          have sn := sm3.trans (same_new (o := .frz o (.tup [x', y'])) (R3.dh.free hT))
          exact ⟨_, same_new (R3.dh.free hT), R3.newD hT, .tup (.inl ⟨o, upd_same, hd⟩) (.cons (dx.mono sn) (.cons (dy.mono sn) .nil))⟩)⟩
end
end Mx

-- MxE
/-! Mx: defs and calls, where it is known that nothing is being shown (guards). -/
namespace Mx
open PySem PySem.Spec PyProof.Rows L2
variable [TheDeck]

/-- a def's promise by the pure half -/
def spM (K : PySem.W.Frag) (mg : Str → Option Value) (sp : Spec) : Sp := fun vs H Q E => ∃ (Z : XP) (Hd : Hp) (dk : Option Deck) (ms : List MV),
  Base ⟨Z, H, Hd, dk⟩ Hd H ∧ ArgsR K ⟨Z, H, Hd, dk⟩ Hd vs ms ∧ (∀ x c od Hd' H', Base ⟨Z, H, Hd, dk⟩ Hd' H' → XR K mg x c od Hd' H' → Z x → E c od H') ∧
  sp.run Z ms fun r => ∀ v Hd' H', Base ⟨Z, H, Hd, dk⟩ Hd' H' → RetR K ⟨Z, H, Hd, dk⟩ Hd' H' v r → Q v H'
structure FnG (P : Program) (w : World) (K : PySem.W.Frag) (mg : Str → Option Value) (base : Heap) (CX : CXT) (k : Nat) (f : Addr) (fd : FuncData) (ps : List Str) (sp : Sp) : Prop where
  len : ∀ vs H Q E, sp vs H Q E → vs.length = ps.length
  run : ∀ (A : Around) (outer : List PySem.Env) (s : Shared) (H : Hp) (args : PySem.Args) (us : List Value) (vs : List V) (Q : VK) (E : XK), Room k A → A.guards = some [] →
    Env0 P w K mg base A outer s H → BindsTo s fd args (ps.zip us) → Vals vs us → sp vs H Q E → codeAny (model P w) A (.call (.ref f) args) (CR CX outer P w H s Q E) s
theorem FnG.mono {P : Program} {w : World} {K : PySem.W.Frag} {mg : Str → Option Value} {base : Heap} {CX : CXT} {j k : Nat} {f : Addr} {fd : FuncData} {ps : List Str} {sp : Sp} (F : FnG P w K mg base CX j f fd ps sp) (h : j ≤ k) : FnG P w K mg base CX k f fd ps sp :=
  ⟨F.len, fun A outer s H args us vs Q E hr hg => F.run A outer s H args us vs Q E (hr.mono h) hg⟩
/-- a weaker promise -/
theorem FnG.imp {P : Program} {w : World} {K : PySem.W.Frag} {mg : Str → Option Value} {base : Heap} {CX : CXT} {k : Nat} {f : Addr} {fd : FuncData} {ps : List Str} {sp sp' : Sp} (F : FnG P w K mg base CX k f fd ps sp)
    (h : ∀ vs H Q E, sp' vs H Q E → sp vs H Q E) : FnG P w K mg base CX k f fd ps sp' :=
  ⟨fun vs H Q E q => F.len vs H Q E (h _ _ _ _ q), fun A outer s H args us vs Q E hr hg e0 hb hv hs => F.run A outer s H args us vs Q E hr hg e0 hb hv (h _ _ _ _ hs)⟩
section
variable {P : Program} {w : World} {K : PySem.W.Frag} {mg : Str → Option Value} {base : Heap}
theorem deeper_guards {A : Around} {env : PySem.Env} (h : A.guards = some []) : (A.deeper env).guards = some [] := h
/-- from the text of a def to its promise -/
theorem fnG_of {CX : CXT} {x qual : Str} {st : Stmt} {f : Addr} {fd : FuncData} {N ps : List Str} {k : Nat} {sp : Sp} (F : Fun K x qual st f fd) (S : FnScope N ps (defScope st)) (len : ∀ vs H Q E, sp vs H Q E → vs.length = ps.length)
    (hbody : ∀ (cdv : Value) (A : Around) (outer : List PySem.Env) (s : Shared) (H : Hp) (vs : List V) (Q : VK) (E : XK), Room k (A.deeper (envOfC qual (defScope st) s.heap.objs.size f cdv)) → A.guards = some [] → sp vs H Q E →
      ∃ t, PSs (cxOf CX P w K mg base N qual (defScope st) f cdv A outer s H E) (defBody st) t ∧ t { nx := fun _ H' => Q .non H', rt := Q } (start N vs) H) : FnG P w K mg base CX (k + 1) f fd ps sp := by
  obtain ⟨oc, od, kV, doc, pm, an, cdv, ct, osl, rfl, lk, hcd⟩ := F.ex
  refine ⟨len, fun A outer s H args us vs Q E hr hgd e0 hb r hsp => ?_⟩
  have hl := len _ _ _ _ hsp
  have KX : K.In s.heap := e0.mod.kin.keeps (fun b o e => (e0.bs b o e).1)
  have lim : s.heap.NoLimit := e0.mod.nolimit.keeps (fun b o e => (e0.bs b o e).1)
  have hkind : ∀ y ∈ ps.zip us, (defScope st).names.lookup y.1 = some .local ∨ ((defScope st).names.lookup y.1 = some .cell ∧ ((cellsFrom (s.heap.objs.size + 1) (defScope st).names []).lookup y.1).isSome = true) := by
    rintro ⟨n, v⟩ hy
    rcases S.par n (List.of_mem_zip hy).1 with q | q
    · exact Or.inl q
    · exact Or.inr ⟨q, PySem.W.cellsFrom_some _ _ _ (Or.inl q)⟩
  refine codeAny_call_function hr.depth (KX _ _ lk) rfl S.co S.gen rfl
    (PySem.W.codeRec_of KX hcd) (hb _ _ _ _ (wpAny_newFunctionEnv_cells S.kind hkind fun env he s1 x => ?_))
  subst he
  refine ⟨lim.keeps x.toInCall.keep, codeAny_func ?_⟩
  obtain ⟨t, ht, hq⟩ := hbody cdv A outer s H vs Q E
    (hr.deeper _) hgd hsp
  have I : Inv (cxOf CX P w K mg base N qual (defScope st) f cdv A outer s H E) [] (start N vs) H s1 :=
    inv_start S hr.hd e0 hl r x
  refine wpAny_mono (ht.run [] s1 (start N vs) H _ I hq) (fun fl s' hs => ?_) (fun e s' z => z)
  cases fl with
  | ret u =>
    obtain ⟨v, σ', H', J, rv, q⟩ := hs
    exact ⟨v, H', J.os, J.bare, J.base, J.hok, rv, q⟩
  | next =>
    obtain ⟨σ', H', J, q⟩ := hs
    exact ⟨V.non, H', J.os, J.bare, J.base, J.hok, rfl, q⟩
  | brk =>
    obtain ⟨_, _, _, q⟩ := hs
    exact q.elim
  | cont =>
    obtain ⟨_, _, _, q⟩ := hs
    exact q.elim
theorem entry_rep {C : Ctx} {Hd H : Hp} {N : List Str} {vs : List V} {ms : List MV} (B : Base C Hd H) (as : ArgsR K C Hd vs ms) (hl : vs.length ≤ N.length) : Rep K C (entry N.length ms) Hd (start N vs) H := by
  have hlen : vs.length = ms.length := by
    clear hl
    induction as with
    | nil => rfl
    | d _ _ ih => simp [ih]
    | dk _ _ ih => simp [ih]
  have key : ∀ {vs : List V} {ms : List MV}, ArgsR K C Hd vs ms → ∀ (i : Nat) (m : MV), ms[i]? = some m → ∃ v, vs[i]? = some v ∧ SlotOk K C Hd H v m ∧ ∀ c, m ≠ .o c := by
    intro vs ms as
    induction as with
    | nil => intro i m h; simp at h
    | d dq r ih =>
      intro i m h
      cases i with
      | zero =>
        obtain rfl := Option.some.inj h
        exact ⟨_, rfl, dq, fun c z => by cases z⟩
      | succ j => exact ih j m h
    | dk e r ih =>
      intro i m h
      cases i with
      | zero =>
        obtain rfl := Option.some.inj h
        exact ⟨_, rfl, ⟨_, e, rfl⟩, fun c z => by cases z⟩
      | succ j => exact ih j m h
  have slot : ∀ (i : Nat) (m : MV), (entry N.length ms)[i]? = some (some m) → ms[i]? = some m := by
    intro i m h
    unfold entry at h
    by_cases hi : i < ms.length
    · rw [List.getElem?_append_left (by rw [List.length_map]; exact hi), List.getElem?_map] at h
      cases q : ms[i]? with
      | none => rw [q] at h; cases h
      | some x =>
        rw [q] at h
        exact congrArg some (Option.some.inj (Option.some.inj h))
    · rw [List.getElem?_append_right (by rw [List.length_map]; omega), List.getElem?_replicate] at h
      split at h <;> cases h
  refine ⟨B, ?_, fun i m h => ?_, fun i j a h1 h2 => ?_⟩
  · unfold L2.start entry
    simp only [List.length_append, List.length_map, List.length_replicate, hlen]
  · obtain ⟨v, h1, h2, _⟩ := key as i m (slot i m h)
    refine ⟨v, ?_, h2⟩
    unfold L2.start
    rw [List.getElem?_append_left (by rw [List.length_map]; exact (List.getElem?_eq_some_iff.mp h1).1), List.getElem?_map, h1]
    rfl
  · obtain ⟨⟨c, e⟩, _⟩ := h1
    obtain ⟨_, _, _, q⟩ := key as i _ (slot i _ e)
    exact absurd rfl (q c)
/-- THE RULE for a def: its body's meaning, and what the promise asks of it -/
theorem Fun.okM {x qual : Str} {st : Stmt} {f : Addr} {fd : FuncData} {N ps : List Str} {k : Nat} {sp : Spec} {W : Stm} (F : Fun K x qual st f fd) (S : FnScope N ps (defScope st)) (hN : ps.length ≤ N.length) (len : ∀ Z ms Q, sp.run Z ms Q → ms.length = ps.length)
    (hbody : ∀ (cdv : Value) (A : Around) (outer : List PySem.Env) (s : Shared) (H : Hp) (E : XK), Room k (A.deeper (envOfC qual (defScope st) s.heap.objs.size f cdv)) → A.guards = some [] → BV (cxOf CX0 P w K mg base N qual (defScope st) f cdv A outer s H E).nox E (defBody st) W)
    (hspec : ∀ Z ms Q, sp.run Z ms Q → W.run Z (entry N.length ms) { nx := fun _ => Q (.d .none), rt := Q }) : FnG P w K mg base CX0 (k + 1) f fd ps (spM K mg sp) := by
  have hlen : ∀ {C : Ctx} {Hd : Hp} {vs : List V} {ms : List MV}, ArgsR K C Hd vs ms → vs.length = ms.length := fun as => by
    induction as with
    | nil => rfl
    | d _ _ ih => simp [ih]
    | dk _ _ ih => simp [ih]
  have ln : ∀ vs H Q E, spM K mg sp vs H Q E → vs.length = ps.length := fun vs H Q E ⟨Z, Hd, dk, ms, _, as, _, h⟩ => (hlen as).trans (len _ _ _ h)
  refine fnG_of F S ln fun cdv A outer s H vs Q E hr hg h => ?_
  have hv := ln _ _ _ _ h
  obtain ⟨Z, Hd, dk, ms, B, as, hx, h⟩ := h
  refine ⟨_, (hbody cdv A outer s H E hr hg).nox, ⟨Z, H, Hd, dk⟩, entry N.length ms, Hd, hx, entry_rep B as (by rw [hv]; exact hN), ?_⟩
  exact W.mono (O := { nx := fun _ => ∀ v Hd' H', Base ⟨Z, H, Hd, dk⟩ Hd' H' → RetR K ⟨Z, H, Hd, dk⟩ Hd' H' v (.d .none) → Q v H', rt := fun r => ∀ v Hd' H', Base ⟨Z, H, Hd, dk⟩ Hd' H' → RetR K ⟨Z, H, Hd, dk⟩ Hd' H' v r → Q v H' }) (fun _ z => z)
    ⟨fun e q σ' Hd' H' sm R => q .non Hd' H' R.toBase .non, fun r q v Hd' H' B r' => q v Hd' H' B r', fun e q => q.elim, fun e q => q.elim⟩ (hspec Z ms _ h)
end

/-! ### calls -/
section
variable {X : Cx} {E : XK} {pos : Pos}
theorem Rep.call {C : Ctx} {env : Env} {Hd Hd' H H' : Hp} {σ : L2.St} {Z : XP} (R : Rep X.K C env Hd σ H) (B : Base ⟨Z, H, Hd, C.dk⟩ Hd' H') : Rep X.K C env Hd' σ H' :=
  R.step ⟨R.d0.trans B.d0, B.dh, fun b o h => by
      rcases B.fr b o h with q | q
      · exact R.fr b o q
      · exact Or.inr (R.toBase.h0none q),
    fun b o h hk => B.h0 b o (R.h0 b o h hk) hk, fun K0 e => ⟨(B.dk K0 e).1, fun b hb => ⟨((B.dk K0 e).2 b hb).1, ((R.dk K0 e).2 b hb).2⟩⟩, R.kd⟩ B.d0 fun a o h1 h2 h3 _ => by
    refine ⟨B.h0 a o h3 (R.toBase.deckNot h1), ?_⟩
    cases q : Hd' a with
    | none => rfl
    | some y =>
      rcases B.fr a y q with z | z
      · rw [show Hd a = some y from z] at h2; cases h2
      · rw [show H a = none from z] at h3; cases h3
theorem RetR.rr {C : Ctx} {env : Env} {Hd Hd' H H' : Hp} {σ : L2.St} {Z : XP} {v : V} {m : MV} (R : Rep X.K C env Hd σ H) (r : RetR X.K ⟨Z, H, Hd, C.dk⟩ Hd' H' v m) : RR X.K C env Hd' σ H' v m := by
  cases m with
  | d x => exact r
  | o c =>
    obtain ⟨a, rfl, h1, h2, h3⟩ := r
    exact ⟨a, rfl, h1, R.toBase.h0none h2, h3, not_owns_new R h2⟩
  | dk => exact r.elim
theorem Rep.toCall {C : Ctx} {env : Env} {Hd H : Hp} {σ : L2.St} {Z : XP} (R : Rep X.K C env Hd σ H) : Base ⟨Z, H, Hd, C.dk⟩ Hd H :=
  ⟨Same.refl _, R.dh, fun b o h => Or.inl h, fun b o h _ => h, fun K0 e => ⟨(R.dk K0 e).1, fun b hb => ⟨((R.dk K0 e).2 b hb).1, K0.there H b (R.dk K0 e).1 hb⟩⟩, R.kd⟩
theorem ArgsR.call {C : Ctx} {Hd H : Hp} {Z : XP} {vs : List V} {ms : List MV} (as : ArgsR X.K C Hd vs ms) : ArgsR X.K ⟨Z, H, Hd, C.dk⟩ Hd vs ms := by
  induction as with
  | nil => exact .nil
  | d h _ ih => exact .d h ih
  | dk h _ ih => exact .dk h ih
theorem call_imp {sp : Spec} {t : Args} {σ : L2.St} {H : Hp} {Q : VK} (h : rE X E (xCall sp t) σ H Q) : rA X E t σ H fun vs H1 => spM X.K X.mg sp vs H1 Q E0 := by
  obtain ⟨C, env, Hd, ok, R, h⟩ := h
  refine ⟨C, env, Hd, ok, R, t.mono (fun _ z => z) (fun ms e1 q vs Hd1 H1 sm1 R1 as => ?_) h⟩
  refine ⟨fun _ => False, Hd1, C.dk, ms, R1.toCall, as.call, fun _ _ _ _ _ _ _ z => z, sp.mono (fun _ z => z) (fun r q v Hd2 H2 B r2 => ?_) q⟩
  exact q v Hd2 H2 (sm1.trans B.d0) (R1.call B) (RetR.rr R1 r2)
theorem run_fnG {CX : CXT} {k : Nat} {f : Addr} {fd : FuncData} {ps : List Str} {sp : Sp} {args : PySem.Args} {pins : List (Addr × Obj)} {σ : L2.St} {H : Hp} {s : Shared} {Q : VK} {us : List Value} {vs : List V} {E' : XK}
    (F : FnG X.prog X.w X.K X.mg X.base CX k f fd ps sp) (hr : Room k X.A) (hgd : X.A.guards = some []) (hx : Passes CX X E') (I : Inv X pins σ H s) (hb : BindsTo s fd args (ps.zip us)) (r : Vals vs us) (h : sp vs H Q E') :
    codeAny (model X.prog X.w) X.A (.call (.ref f) args) (fun r s' => match r with | .ok (.ret u) => EP X pins σ Q u s' | .ok _ => False | .error e => X.xe e s') s :=
  codeAny_mono (F.run X.A X.stack s H args us vs Q E' hr hgd I.env0 hb r h) fun r s' hq => by
    cases r with
    | error e => exact hx pins σ H s e s' I hq
    | ok fl =>
      cases fl with
      | ret u => exact I.after hq
      | next => exact hq
      | brk => exact hq
      | cont => exact hq
theorem endG {P : Program} {w : World} {A : Around} {f : Addr} {us : List Value} {kw : List (Str × Value)} {Q : Value → Shared → Prop} {E' : Value → Shared → Prop} {s : Shared}
    (h : codeAny (model P w) A (.call (.ref f) ⟨us, kw⟩) (fun r s' => match r with | .ok (.ret u) => Q u s' | .ok _ => False | .error e => E' e s') s) : wpAny (model P w) A (call (.ref f) us kw) Q E' s :=
  wpAny_call (codeAny_mono h fun r s' hq => by
    cases r with
    | error e => exact hq
    | ok fl =>
      cases fl with
      | ret u => exact hq
      | next => exact hq.elim
      | brk => exact hq.elim
      | cont => exact hq.elim)
/-- f(e, ..) -/
theorem m_call {k : Nat} {f : Addr} {fd : FuncData} {ps : List Str} {sp : Spec} {x : Str} {p : Pos} {e : Expr} {es : List Expr} {t : Args} (F : FnG X.prog X.w X.K X.mg X.base CX0 k f fd ps (spM X.K X.mg sp)) (hr : Room k X.A) (hgd : X.A.guards = some []) (hg : Gl X x) (hm : X.mg x = some (.ref f))
    (hk : PySem.W.keepIn X.K (.ref f) = true) (hb : Binds X.K fd ps []) (ha : AV X E (e :: es) t) (hdb : (x == ("__debug__" : Str)) = false := by decide)
    (he : starEach (e :: es) X.env = (false, eval e X.env) :: starEach es X.env := by rfl) (hpl : (backTo pos (starEach es X.env)).any (·.1) = false := by rfl) : EV X E (.Call (.Name x p) (e :: es) [] pos) (xCall sp t) :=
  ⟨fun pins s σ H Q I h => by
    refine wpAny_Call_Name_kw (ld_glob I hg hm (PySem.W.callWith_K (h₀ := X.base) I.ok.mod.kin hk
      (thn (ha.run pos pins s σ H _ I (call_imp h)) fun us s1 ⟨vs, H1, I1, r, q⟩ => ⟨I1.kIn, endG ?_⟩) he hpl) hdb)
    have hl : us.length = ps.length := r.length.symm.trans (F.len _ _ _ _ q)
    have hb2 := hb s1 us I1.kIn (by rw [List.append_nil]; exact hl)
    rw [List.append_nil] at hb2
    exact run_fnG F hr hgd pass0 I1 hb2 r q⟩
theorem m_call0 {k : Nat} {f : Addr} {fd : FuncData} {ps : List Str} {sp : Spec} {x : Str} {p : Pos} (F : FnG X.prog X.w X.K X.mg X.base CX0 k f fd ps (spM X.K X.mg sp)) (hr : Room k X.A) (hgd : X.A.guards = some []) (hg : Gl X x) (hm : X.mg x = some (.ref f))
    (hk : PySem.W.keepIn X.K (.ref f) = true) (hb : Binds X.K fd ps []) (hdb : (x == ("__debug__" : Str)) = false := by decide) : EV X E (.Call (.Name x p) [] [] pos) (xCall sp aNil) :=
  ⟨fun pins s σ H Q I h => by
    obtain ⟨C, env, Hd, ok, R, h⟩ := call_imp h
    have q := h [] Hd H (Same.refl _) R .nil
    refine wpAny_Call_Name_kw (ld_glob I hg hm (PySem.W.callWith_K0 I.kIn hk (endG ?_)) hdb)
    have hb2 := hb s [] I.kIn (F.len _ _ _ _ q)
    exact run_fnG F hr hgd pass0 I hb2 .nil q⟩
end
end Mx

-- MxF
/-! Mx: the primitives. -/
namespace Mx
open PySem PySem.Spec PyProof.Rows L2
variable [TheDeck]

/-! ### what they ask -/
def pAdd : P2 where
  run x y Q := match x, y with
    | .int a, .int b => Q (.d (.int (a + b)))
    | .str a, .str b => a.length + b.length ≤ 16777216 ∧ Q (.d (.str (a ++ b)))
    | .tuple a, .tuple b => a.length + b.length ≤ 16777216 ∧ Q (.d (.tuple (a ++ b)))
    | _, _ => False
  mono h q := by
    split at q <;> first | exact h _ q | exact ⟨q.1, h _ q.2⟩ | exact q
def pCat : P2 where
  run x y Q := match x, y with
    | .list a, .list b => a.length + b.length ≤ 16777216 ∧ Q (.o (.lst (a ++ b)))
    | _, _ => False
  mono h q := by
    split at q <;> first | exact ⟨q.1, h _ q.2⟩ | exact q
def pI (C : Int → Int → Prop) (g : Int → Int → D) : P2 where
  run x y Q := match x, y with
    | .int a, .int b => C a b ∧ Q (.d (g a b))
    | _, _ => False
  mono h q := by
    split at q <;> first | exact ⟨q.1, h _ q.2⟩ | exact q
def pI0 (g : Int → Int → D) : P2 where
  run x y Q := match x, y with
    | .int a, .int b => Q (.d (g a b))
    | _, _ => False
  mono h q := by
    split at q <;> first | exact h _ q | exact q
def pSub : P2 := pI0 fun i j => .int (i - j)
def pMul : P2 := pI CMul fun i j => .int (i * j)
def pFdiv : P2 := pI CDiv fun i j => .int (i / j)
def pMod : P2 := pI (fun _ j => 0 < j) fun i j => .int (i % j)
def pPow : P2 := pI CPow fun i j => .int (i ^ j.toNat)
def pShl : P2 := pI CPow fun i j => .int (i * 2 ^ j.toNat)
def pLt : P2 := pI0 fun i j => .bool (decide (i < j))
def pLe : P2 := pI0 fun i j => .bool (decide (i ≤ j))
def pGt : P2 := pI0 fun i j => .bool (decide (j < i))
def pGe : P2 := pI0 fun i j => .bool (decide (j ≤ i))
/-- a tuple so many times -/
def pMulT : P2 where
  run x y Q := match x, y with
    | .tuple a, .int k => (-(2 ^ 63) ≤ k ∧ k < 2 ^ 63) ∧ a.length * k.toNat ≤ 1000000 ∧ Q (.d (.tuple (List.replicate k.toNat a).flatten))
    | _, _ => False
  mono h q := by
    split at q <;> first | exact ⟨q.1, q.2.1, h _ q.2.2⟩ | exact q
def pMulL : P2 where
  run x y Q := match x, y with
    | .list a, .int k => (-(2 ^ 63) ≤ k ∧ k < 2 ^ 63) ∧ a.length * k.toNat ≤ 1000000 ∧ Q (.o (.lst (List.replicate k.toNat a).flatten))
    | _, _ => False
  mono h q := by
    split at q <;> first | exact ⟨q.1, q.2.1, h _ q.2.2⟩ | exact q
/-- what may be compared -/
def eqOk (x y : D) : Prop := match x, y with
  | .int _, .int _ => True
  | .str _, .str _ => True
  | .bool _, .bool _ => True
  | _, _ => SeqAt.shaped x = true ∧ SeqAt.shaped y = true
def pEq : P2 where
  run x y Q := eqOk x y ∧ Q (.d (.bool (PyData.eqv x y)))
  mono h q := ⟨q.1, h _ q.2⟩
def pNe : P2 where
  run x y Q := eqOk x y ∧ Q (.d (.bool (!PyData.eqv x y)))
  mono h q := ⟨q.1, h _ q.2⟩
def flatD : D → Bool
  | .none | .bool _ | .int _ | .str _ => true
  | _ => false
/-- x in a list or a tuple of flat things -/
def pIn (neg : Bool) : P2 where
  run x y Q := ∃ ys, items y = some ys ∧ flatD x = true ∧ ys.all flatD = true ∧ Q (.d (.bool (if neg then !(ys.any fun z => PyData.eqv z x) else ys.any fun z => PyData.eqv z x)))
  mono h q := let ⟨ys, a, b, c, d⟩ := q; ⟨ys, a, b, c, h _ d⟩
def isNoneD : D → Bool
  | .none => true
  | _ => false
def pIsN : P2 where
  run x y Q := y = .none ∧ Q (.d (.bool (isNoneD x)))
  mono h q := ⟨q.1, h _ q.2⟩
def pNotN : P2 where
  run x y Q := y = .none ∧ Q (.d (.bool (!(isNoneD x))))
  mono h q := ⟨q.1, h _ q.2⟩
/-- xs[i] -/
def pIx : P2 where
  run x y Q := match x, y with
    | .list a, .int i => ∃ z, atI a i = some z ∧ Q (.d z)
    | .tuple a, .int i => ∃ z, atI a i = some z ∧ Q (.d z)
    | .str s, .int i => ∃ c, s.length ≤ 16777216 ∧ atI s.cps.toList i = some c ∧ Q (.d (.str ⟨#[c]⟩))
    | _, _ => False
  mono h q := by
    split at q <;> first | exact let ⟨z, a, b⟩ := q; ⟨z, a, h _ b⟩ | exact let ⟨z, a, b, c⟩ := q; ⟨z, a, b, h _ c⟩ | exact q
/-- xs[lo:hi] -/
def cutD {α : Type} (xs : List α) (lo hi : Option Int) : List α := (xs.drop (HT.sIx xs.length 0 lo)).take (HT.sIx xs.length xs.length hi - HT.sIx xs.length 0 lo)
structure PSl where
  run : D → Option Int → Option Int → (MV → Prop) → Prop
  mono : ∀ {x : D} {lo hi : Option Int} {Q Q' : MV → Prop}, (∀ r, Q r → Q' r) → run x lo hi Q → run x lo hi Q'
def pSl : PSl where
  run x lo hi Q := match x with
    | .list a => Q (.o (.lst (cutD a lo hi)))
    | .tuple a => Q (.d (.tuple (cutD a lo hi)))
    | .str s => s.length ≤ 16777216 ∧ Q (.d (.str (cutS s lo hi)))
    | _ => False
  mono h q := by
    split at q <;> first | exact h _ q | exact ⟨q.1, h _ q.2⟩ | exact q
/-- a slice's bound -/
structure Bd where
  run : XP → Env → (Option Int → Env → Prop) → Prop
  mono : ∀ {Z Z' : XP} {e : Env} {Q Q' : Option Int → Env → Prop}, (∀ x, Z x → Z' x) → (∀ r e, Q r e → Q' r e) → run Z e Q → run Z' e Q'
def bNone : Bd where
  run _ e Q := Q none e
  mono _ hQ h := hQ _ _ h
def bSome (w : Ex) : Bd where
  run Z e Q := w.run Z e fun r e1 => ∃ i, r = .d (.int i) ∧ Q (some i) e1
  mono hZ hQ h := w.mono hZ (fun r e1 ⟨i, a, b⟩ => ⟨i, a, hQ _ _ b⟩) h
def xSl (a : Od) (lo hi : Bd) : Ex where
  rr Z e Q := a.run Z e fun g e1 => lo.run Z e1 fun l e2 => hi.run Z e2 fun u e3 => ∃ x, g e3 = some x ∧ pSl.run x l u fun r => Q r e3
  mn hZ hQ h := a.mono hZ (fun g e1 q => lo.mono hZ (fun l e2 q => hi.mono hZ (fun u e3 ⟨x, a, b⟩ => ⟨x, a, pSl.mono (fun r q => hQ _ _ q) b⟩) q) q) h
/-! built-ins of one operand -/
def pLen : P1 where
  run x Q := match x with
    | .list a => Q (.d (.int a.length))
    | .tuple a => Q (.d (.int a.length))
    | .str s => s.length ≤ 16777216 ∧ Q (.d (.int s.length))
    | _ => False
  mono h q := by
    split at q <;> first | exact h _ q | exact ⟨q.1, h _ q.2⟩ | exact q
def pTuple : P1 where
  run x Q := ∃ a, items x = some a ∧ Q (.d (.tuple a))
  mono h q := let ⟨a, b, c⟩ := q; ⟨a, b, h _ c⟩
def pList : P1 where
  run x Q := ∃ a, items x = some a ∧ Q (.o (.lst a))
  mono h q := let ⟨a, b, c⟩ := q; ⟨a, b, h _ c⟩
def pAbs : P1 where
  run x Q := ∃ i, x = .int i ∧ Q (.d (.int (if i < 0 then -i else i)))
  mono h q := let ⟨a, b, c⟩ := q; ⟨a, b, h _ c⟩
def pInt : P1 where
  run x Q := match x with
    | .int i => Q (.d (.int i))
    | .bool b => Q (.d (.int (if b then 1 else 0)))
    | _ => False
  mono h q := by
    split at q <;> first | exact h _ q | exact q
def pNeg : P1 where
  run x Q := ∃ i, x = .int i ∧ Q (.d (.int (-i)))
  mono h q := let ⟨a, b, c⟩ := q; ⟨a, b, h _ c⟩
def pAll : P1 where
  run x Q := ∃ bs : List Bool, x = .list (bs.map .bool) ∧ Q (.d (.bool (bs.all id)))
  mono h q := let ⟨a, b, c⟩ := q; ⟨a, b, h _ c⟩
def pAny : P1 where
  run x Q := ∃ bs : List Bool, x = .list (bs.map .bool) ∧ Q (.d (.bool (bs.any id)))
  mono h q := let ⟨a, b, c⟩ := q; ⟨a, b, h _ c⟩
def pSum : P1 where
  run x Q := ∃ ns : List Int, x = .list (ns.map .int) ∧ Q (.d (.int ns.sum))
  mono h q := let ⟨a, b, c⟩ := q; ⟨a, b, h _ c⟩

section
variable {K : PySem.W.Frag} {H : Hp}
mutual
theorem Dq.dp : ∀ {v : V} {d : D}, Dq K H v d → d.canLay0 = true → Dp K H v d
  | _, _, .non, _ => .non
  | _, _, .bl b, _ => .bl b
  | _, _, .int i, _ => .int i
  | _, _, .str s, _ => .str s
  | _, _, .lst h q, c => .lst (SqL.of h) (DqAll.dp q (by simpa [PyData.canLay0] using c))
  | _, _, .tup h q, c => .tup h.seq (DqAll.dp q (by simpa [PyData.canLay0] using c))
  | _, _, .dic h q, c => by simp [PyData.canLay0] at c
theorem DqAll.dp : ∀ {vs : List V} {ds : List D}, DqAll K H vs ds → PyData.canLayAll0 ds = true → DpAll K H vs ds
  | _, _, .nil, _ => .nil
  | _, _, .cons h q, c => by
    have c' := (Bool.and_eq_true_iff.mp (show (PyData.canLay0 _ && PyData.canLayAll0 _) = true by simpa [PyData.canLayAll0] using c))
    exact .cons (Dq.dp h c'.1) (DqAll.dp q c'.2)
end
end
section
variable {X : Cx} {E : XK} {pos : Pos}
theorem vs_len {K : PySem.W.Frag} {H : Hp} {vs : List V} {ds : List D} (h : DqAll K H vs ds) {n : Nat} (q : ds.length ≤ n) : vs.length ≤ n := by rw [h.len]; exact q
theorem newT_res {K : PySem.W.Frag} {Hd H : Hp} {vs : List V} {ds : List D} {Q : VK} {Qm : MV → Prop} (e : Same Hd H) (h : DqAll K Hd vs ds) (q : Qm (.d (.tuple ds))) (k : ∀ m v' H', Qm m → Res K Hd H m v' H' → Q v' H') : newT vs H Q := fun p o np dn =>
  k _ _ _ q (.newD np (.tup (.inl ⟨o, upd_same, dn⟩) (h.mono (same_new (e.free np)))))
theorem tup_res {K : PySem.W.Frag} {Hd H : Hp} {a : Addr} {vs : List V} {ds : List D} {Q : VK} {Qm : MV → Prop} (h : Dq K Hd (.ref a) (.tuple ds)) (q : Qm (.d (.tuple ds))) (k : ∀ m v' H', Qm m → Res K Hd H m v' H' → Q v' H') : Q (.ref a) H := k _ _ _ q (.dat h)
theorem dat_res {K : PySem.W.Frag} {Hd H : Hp} {v : V} {x : D} {Q : VK} {Qm : MV → Prop} (h : Dq K Hd v x) (q : Qm (.d x)) (k : ∀ m v' H', Qm m → Res K Hd H m v' H' → Q v' H') : Q v H := k _ _ _ q (.dat h)
/-- a tuple, seen as data -/
theorem Pq.tupD {K : PySem.W.Frag} {Hd H : Hp} {v : V} {xs : List D} (p : Pq K Hd H v (.tuple xs)) : Dq K Hd v (.tuple xs) := by
  rcases p with p | ⟨a, c, rfl, q, p⟩
  · exact p
  · cases c <;> cases q
theorem op_addM : OpR X (binaryOp .Add) (fun x y H Q => rI0 (fun i j => .int (i + j)) x y H Q ∨ (∃ i j, x = .str i ∧ y = .str j ∧ i.length + j.length ≤ sizeLine ∧ Q (.str (i ++ j)) H) ∨ rCatF X.K x y H Q) := op_add.or (op_add_str.or op_catF)
theorem s_add : S2 X.K (fun x y H Q => rI0 (fun i j => .int (i + j)) x y H Q ∨ (∃ i j, x = .str i ∧ y = .str j ∧ i.length + j.length ≤ sizeLine ∧ Q (.str (i ++ j)) H) ∨ rCatF X.K x y H Q) pAdd := by
  intro Hd H x y v u Qm Q e hx hy h k
  unfold pAdd at h
  dsimp only at h
  split at h
  · exact .inl ⟨_, _, hx.int, hy.int, dat_res (.int _) h k⟩
  · exact .inr (.inl ⟨_, _, hx.str, hy.str, by rw [sizeLine_eq]; exact h.1, dat_res (.str _) h.2 k⟩)
  · rename_i a b
    obtain ⟨p, vs, rfl, q1, q2⟩ := hx.tup e
    obtain ⟨r, ws, rfl, q3, q4⟩ := hy.tup e
    have hl1 := q2.len
    have hl2 := q4.len
    refine .inr (.inr ⟨p, r, vs, ws, rfl, rfl, q1.seq, q3.seq, by rw [hl1, hl2, sizeLine_eq]; exact h.1, fun z => ?_, fun z => ?_, newT_res e (q2.append q4) h.2 k⟩)
    · have : a = [] := List.eq_nil_of_length_eq_zero (by rw [← hl1, z]; rfl)
      subst this
      exact dat_res hy.tupD h.2 k
    · have : b = [] := List.eq_nil_of_length_eq_zero (by rw [← hl2, z]; rfl)
      subst this
      rw [List.append_nil] at h
      exact dat_res hx.tupD h.2 k
  · exact h.elim
theorem s_I {C : Int → Int → Prop} {g : Int → Int → D} {gv : Int → Int → V} (hg : ∀ K H i j, Dq K H (gv i j) (g i j)) : S2 X.K (L2.rI C gv) (pI C g) := by
  intro Hd H x y v u Qm Q e hx hy h k
  unfold pI at h
  dsimp only at h
  split at h
  · exact ⟨_, _, hx.int, hy.int, h.1, dat_res (hg _ _ _ _) h.2 k⟩
  · exact h.elim
theorem s_I0 {g : Int → Int → D} {gv : Int → Int → V} (hg : ∀ K H i j, Dq K H (gv i j) (g i j)) : S2 X.K (rI0 gv) (pI0 g) := by
  intro Hd H x y v u Qm Q e hx hy h k
  unfold pI0 at h
  dsimp only at h
  split at h
  · exact ⟨_, _, hx.int, hy.int, dat_res (hg _ _ _ _) h k⟩
  · exact h.elim
variable {a b : Expr} {oa ob : Od}
theorem m_add (ha : OD X E a oa) (hb : OD X E b ob) : EV X E (.BinOp a .Add b pos) (xOp2 pAdd oa ob) := m_op op_addM s_add ha hb
theorem m_sub (ha : OD X E a oa) (hb : OD X E b ob) : EV X E (.BinOp a .Sub b pos) (xOp2 pSub oa ob) := m_op op_sub (s_I0 fun _ _ _ _ => .int _) ha hb
theorem m_mul (ha : OD X E a oa) (hb : OD X E b ob) : EV X E (.BinOp a .Mult b pos) (xOp2 pMul oa ob) := m_op op_mul (s_I fun _ _ _ _ => .int _) ha hb
theorem m_fdiv (ha : OD X E a oa) (hb : OD X E b ob) : EV X E (.BinOp a .FloorDiv b pos) (xOp2 pFdiv oa ob) := m_op op_fdiv (s_I fun _ _ _ _ => .int _) ha hb
theorem m_mod (ha : OD X E a oa) (hb : OD X E b ob) : EV X E (.BinOp a .Mod b pos) (xOp2 pMod oa ob) := m_op op_mod (s_I fun _ _ _ _ => .int _) ha hb
theorem m_pow (ha : OD X E a oa) (hb : OD X E b ob) : EV X E (.BinOp a .Pow b pos) (xOp2 pPow oa ob) := m_op op_pow (s_I fun _ _ _ _ => .int _) ha hb
theorem m_shl (ha : OD X E a oa) (hb : OD X E b ob) : EV X E (.BinOp a .LShift b pos) (xOp2 pShl oa ob) := m_op op_shl (s_I fun _ _ _ _ => .int _) ha hb
theorem s_mulT : S2 X.K (fun x y H Q => ∃ l, x = .ref l ∧ (∃ xs, SqF X.K H l xs) ∧ rMulF X.K x y H Q) pMulT := by
  intro Hd H x y v u Qm Q e hx hy h k
  unfold pMulT at h
  dsimp only at h
  split at h
  · rename_i c n
    obtain ⟨p, vs, rfl, q1, q2⟩ := hx.tupD.tup_inv
    obtain rfl := hy.int
    have rep : ∀ m : Nat, DqAll X.K Hd (List.replicate m vs).flatten (List.replicate m c).flatten := fun m => by
      induction m with
      | zero => exact .nil
      | succ m ih => exact q2.append ih
    exact ⟨p, rfl, ⟨vs, same_seqF e q1⟩, p, n, vs, rfl, rfl, (same_seqF e q1).seq, h.1, by rw [q2.len]; exact h.2.1, fun z => dat_res (.tup q1 (z ▸ rep n.toNat)) h.2.2 k, newT_res e (rep _) h.2.2 k⟩
  · exact h.elim
theorem m_mulT (ha : OD X E a oa) (hb : OD X E b ob) : EV X E (.BinOp a .Mult b pos) (xOp2 pMulT oa ob) := m_op op_mulF s_mulT ha hb
theorem s_cat : S2 X.K rCat pCat := by
  intro Hd H x y v u Qm Q e hx hy h k
  unfold pCat at h
  dsimp only at h
  split at h
  · rename_i c d
    obtain ⟨p, vs, rfl, q1, q2⟩ := hx.lst e
    obtain ⟨r, ws, rfl, q3, q4⟩ := hy.lst e
    exact ⟨p, r, vs, ws, rfl, rfl, q1, q3, by rw [q2.len, q4.len, sizeLine_eq]; exact h.1, fun t nt => k _ _ _ h.2 (.newO nt ⟨_, upd_same, q2.append q4⟩)⟩
  · exact h.elim
theorem m_cat (ha : OD X E a oa) (hb : OD X E b ob) : EV X E (.BinOp a .Add b pos) (xOp2 pCat oa ob) := m_op op_cat s_cat ha hb
theorem s_mulL : S2 X.K rRep pMulL := by
  intro Hd H x y v u Qm Q e hx hy h k
  unfold pMulL at h
  dsimp only at h
  split at h
  · rename_i c n
    obtain ⟨p, vs, rfl, q1, q2⟩ := hx.lst e
    obtain rfl := hy.int
    have rep : ∀ m : Nat, DqAll X.K Hd (List.replicate m vs).flatten (List.replicate m c).flatten := fun m => by
      induction m with
      | zero => exact .nil
      | succ m ih => exact q2.append ih
    exact ⟨p, n, vs, rfl, rfl, q1, h.1.1, h.1.2, by rw [q2.len, sizeLine_eq]; omega, fun t nt => k _ _ _ h.2.2 (.newO nt ⟨_, upd_same, rep _⟩)⟩
  · exact h.elim
theorem m_mulL (ha : OD X E a oa) (hb : OD X E b ob) : EV X E (.BinOp a .Mult b pos) (xOp2 pMulL oa ob) := m_op op_rep s_mulL ha hb

/-! comparisons -/
variable {op : CmpOp}
theorem s_eq : S2 X.K (fun x y H Q => L2.rEq x y H Q ∨ rEqD X.K x y H Q) pEq := by
  intro Hd H x y v u Qm Q e hx hy h k
  obtain ⟨ok, h⟩ := h
  unfold eqOk at ok
  split at ok
  · rename_i i j
    refine .inl ?_
    obtain rfl := hx.int
    obtain rfl := hy.int
    refine ⟨rfl, ?_⟩
    have : decide (V.int i = V.int j) = PyData.eqv (.int i) (.int j) := by rw [dec_int]; simp only [PyData.eqv]
    rw [this]
    exact dat_res (.bl _) h k
  · rename_i i j
    refine .inl ?_
    obtain rfl := hx.str
    obtain rfl := hy.str
    refine ⟨rfl, ?_⟩
    have : decide (V.str i = V.str j) = PyData.eqv (.str i) (.str j) := by rw [dec_str]; simp only [PyData.eqv]
    rw [this]
    exact dat_res (.bl _) h k
  · rename_i i j
    refine .inl ?_
    obtain rfl := hx.bool
    obtain rfl := hy.bool
    refine ⟨rfl, ?_⟩
    have : decide (V.bl i = V.bl j) = PyData.eqv (.bool i) (.bool j) := by rw [dec_bl]; simp only [PyData.eqv]
    rw [this]
    exact dat_res (.bl _) h k
  · have sx := SeqAt.canLay_of_shaped ok.1
    have sy := SeqAt.canLay_of_shaped ok.2
    exact .inr ⟨x, y, (hx.look e).dp sx, (hy.look e).dp sy, ok.1, ok.2, dat_res (.bl _) h k⟩
theorem s_ne : S2 X.K (fun x y H Q => L2.rNe x y H Q ∨ rNeD X.K x y H Q) pNe := by
  intro Hd H x y v u Qm Q e hx hy h k
  obtain ⟨ok, h⟩ := h
  unfold eqOk at ok
  split at ok
  · rename_i i j
    refine .inl ?_
    obtain rfl := hx.int
    obtain rfl := hy.int
    refine ⟨rfl, ?_⟩
    have : decide (V.int i = V.int j) = PyData.eqv (.int i) (.int j) := by rw [dec_int]; simp only [PyData.eqv]
    rw [this]
    exact dat_res (.bl _) h k
  · rename_i i j
    refine .inl ?_
    obtain rfl := hx.str
    obtain rfl := hy.str
    refine ⟨rfl, ?_⟩
    have : decide (V.str i = V.str j) = PyData.eqv (.str i) (.str j) := by rw [dec_str]; simp only [PyData.eqv]
    rw [this]
    exact dat_res (.bl _) h k
  · rename_i i j
    refine .inl ?_
    obtain rfl := hx.bool
    obtain rfl := hy.bool
    refine ⟨rfl, ?_⟩
    have : decide (V.bl i = V.bl j) = PyData.eqv (.bool i) (.bool j) := by rw [dec_bl]; simp only [PyData.eqv]
    rw [this]
    exact dat_res (.bl _) h k
  · have sx := SeqAt.canLay_of_shaped ok.1
    have sy := SeqAt.canLay_of_shaped ok.2
    exact .inr ⟨x, y, (hx.look e).dp sx, (hy.look e).dp sy, ok.1, ok.2, dat_res (.bl _) h k⟩
theorem flat_eq {K : PySem.W.Frag} {H H' : Hp} {v u : V} {x y : D} (h1 : Dq K H v x) (h2 : Dq K H' u y) (f1 : flatD x = true) (f2 : flatD y = true) : eqV v u = PyData.eqv x y := by
  cases h1 <;> first | (cases f1; done) | (cases h2 <;> first | (cases f2; done) | rfl | (simp only [eqV, PyData.eqv]))
theorem flat_v {K : PySem.W.Frag} {H : Hp} {v : V} {x : D} (h1 : Dq K H v x) (f1 : flatD x = true) : flatV v = true := by
  cases h1 <;> first | rfl | (cases f1; done)
theorem flat_all {K : PySem.W.Frag} {H : Hp} : ∀ {vs : List V} {xs : List D}, DqAll K H vs xs → xs.all flatD = true → vs.all flatV = true
  | _, _, .nil, _ => rfl
  | _, _, .cons h q, f => by
    rw [List.all_cons, Bool.and_eq_true] at f ⊢
    exact ⟨flat_v h f.1, flat_all q f.2⟩
theorem flat_any {K : PySem.W.Frag} {H H' : Hp} {u : V} {y : D} (h2 : Dq K H' u y) (f2 : flatD y = true) : ∀ {vs : List V} {xs : List D}, DqAll K H vs xs → xs.all flatD = true → inV u vs = xs.any fun z => PyData.eqv z y
  | _, _, .nil, _ => rfl
  | _, _, .cons h q, f => by
    rw [List.all_cons, Bool.and_eq_true] at f
    have ih := flat_any h2 f2 q f.2
    unfold inV at ih ⊢
    rw [List.any_cons, List.any_cons, flat_eq h h2 f.1 f2, ih]
/-- the items of a list or a tuple, in the heap -/
theorem Pq.items {K : PySem.W.Frag} {Hd H : Hp} {v : V} {x : D} {xs : List D} (p : Pq K Hd H v x) (e : Same Hd H) (h : items x = some xs) : ∃ a vs, v = .ref a ∧ (SqL K H a vs ∨ SqT K H a vs) ∧ DqAll K Hd vs xs := by
  unfold Mx.items at h
  split at h
  · cases h
    obtain ⟨a, vs, h1, h2, h3⟩ := p.lst e
    exact ⟨a, vs, h1, .inl (SqL.of h2), h3⟩
  · cases h
    obtain ⟨a, vs, h1, h2, h3⟩ := p.tup e
    exact ⟨a, vs, h1, .inr h2.seq, h3⟩
  · cases h
theorem s_in (neg : Bool) : S2 X.K (rIn X.K neg) (pIn neg) := by
  intro Hd H x y v u Qm Q e hx hy ⟨ys, hi, fx, fy, h⟩ k
  obtain ⟨p, vs, rfl, q1, q2⟩ := hy.items e hi
  have hv := hx.look e
  refine ⟨p, vs, rfl, q1, flat_v hv fx, flat_all q2 fy, ?_⟩
  rw [flat_any hv fx q2 fy]
  exact dat_res (.bl _) h k
theorem isN_of {K : PySem.W.Frag} {H : Hp} {v : V} {x : D} (h : Dq K H v x) : decide (v = .non) = (isNoneD x) := by
  cases h <;> simp [isNoneD]
theorem s_isN : S2 X.K (fun x y H Q => y = .non ∧ Q (.bl (decide (x = .non))) H) pIsN := by
  intro Hd H x y v u Qm Q e hx hy ⟨hn, h⟩ k
  subst hn
  refine ⟨hy.none, ?_⟩
  rw [isN_of (hx.look e)]
  exact dat_res (.bl _) h k
theorem s_notN : S2 X.K (fun x y H Q => y = .non ∧ Q (.bl (!decide (x = .non))) H) pNotN := by
  intro Hd H x y v u Qm Q e hx hy ⟨hn, h⟩ k
  subst hn
  refine ⟨hy.none, ?_⟩
  rw [isN_of (hx.look e)]
  exact dat_res (.bl _) h k
theorem m_eq (hu : X.A.units + 64 < cLine) (ha : OD X E a oa) (hb : OD X E b ob) : EV X E (.Compare a [.Eq] [b] pos) (xOp2 pEq oa ob) := m_cmp (op_eq.or (op_eqD hu)) s_eq ha hb (nomark _)
theorem m_ne (hu : X.A.units + 64 < cLine) (ha : OD X E a oa) (hb : OD X E b ob) : EV X E (.Compare a [.NotEq] [b] pos) (xOp2 pNe oa ob) := m_cmp (op_ne.or (op_neD hu)) s_ne ha hb (nomark _)
theorem m_lt (ha : OD X E a oa) (hb : OD X E b ob) : EV X E (.Compare a [.Lt] [b] pos) (xOp2 pLt oa ob) := m_cmp op_lt (s_I0 fun _ _ _ _ => .bl _) ha hb (nomark _)
theorem m_le (ha : OD X E a oa) (hb : OD X E b ob) : EV X E (.Compare a [.LtE] [b] pos) (xOp2 pLe oa ob) := m_cmp op_le (s_I0 fun _ _ _ _ => .bl _) ha hb (nomark _)
theorem m_gt (ha : OD X E a oa) (hb : OD X E b ob) : EV X E (.Compare a [.Gt] [b] pos) (xOp2 pGt oa ob) := m_cmp op_gt (s_I0 fun _ _ _ _ => .bl _) ha hb (nomark _)
theorem m_ge (ha : OD X E a oa) (hb : OD X E b ob) : EV X E (.Compare a [.GtE] [b] pos) (xOp2 pGe oa ob) := m_cmp op_ge (s_I0 fun _ _ _ _ => .bl _) ha hb (nomark _)
theorem m_in (ha : OD X E a oa) (hb : OD X E b ob) (hm : behindInMarks .In b = false := by rfl) : EV X E (.Compare a [.In] [b] pos) (xOp2 (pIn false) oa ob) := m_cmp op_in_seq (s_in false) ha hb hm
theorem m_notin (ha : OD X E a oa) (hb : OD X E b ob) (hm : behindInMarks .NotIn b = false := by rfl) : EV X E (.Compare a [.NotIn] [b] pos) (xOp2 (pIn true) oa ob) := m_cmp op_notIn_seq (s_in true) ha hb hm
theorem m_isN (ha : OD X E a oa) (hb : OD X E b ob) : EV X E (.Compare a [.Is] [b] pos) (xOp2 pIsN oa ob) := m_cmp op_isN s_isN ha hb (nomark _)
theorem m_notN (ha : OD X E a oa) (hb : OD X E b ob) : EV X E (.Compare a [.IsNot] [b] pos) (xOp2 pNotN oa ob) := m_cmp op_notN s_notN ha hb (nomark _)
/-! items and slices -/
theorem ixN_lt {n : Nat} {i : Int} {j : Nat} (h : ixN n i = some j) : j < n := (ixN_seq h).2.1
theorem at_dq {K : PySem.W.Frag} {Hd : Hp} {vs : List V} {xs : List D} {i : Int} {z : D} (h : DqAll K Hd vs xs) (q : atI xs i = some z) : ∃ w, atI vs i = some w ∧ Dq K Hd w z := by
  unfold atI at q ⊢
  rw [h.len]
  cases e : ixN xs.length i with
  | none => rw [e] at q; cases q
  | some j =>
    rw [e] at q
    exact h.get q
theorem s_ix : S2 X.K (rIx X.K) pIx := by
  intro Hd H x y v u Qm Q e hx hy h k
  unfold pIx at h
  dsimp only at h
  split at h
  · obtain ⟨z, hz, h⟩ := h
    obtain ⟨p, vs, rfl, q1, q2⟩ := hx.lst e
    obtain ⟨w, hw, dw⟩ := at_dq q2 hz
    exact .inl ⟨p, vs, _, w, rfl, hy.int, SqL.of q1, hw, dat_res dw h k⟩
  · obtain ⟨z, hz, h⟩ := h
    obtain ⟨p, vs, rfl, q1, q2⟩ := hx.tup e
    obtain ⟨w, hw, dw⟩ := at_dq q2 hz
    exact .inr (.inl ⟨p, vs, _, w, rfl, hy.int, q1.seq, hw, dat_res dw h k⟩)
  · obtain ⟨c, hl, hz, h⟩ := h
    exact .inr (.inr ⟨_, _, c, hx.str, hy.int, by rw [sizeLine_eq]; exact hl, hz, dat_res (.str _) h k⟩)
  · exact h.elim
theorem m_item (ha : OD X E a oa) (hb : OD X E b ob) (hp : PlainIx b := by intro _ _; rfl) : EV X E (.Subscript a b pos) (xOp2 pIx oa ob) := m_ix ix_seq s_ix ha hb hp
theorem bd_none : PO X none tNoPart := po_none
def rB (X : Cx) (E : XK) (b : Bd) : TO := fun σ H Q => ∃ C env Hd, COk X E C ∧ Rep X.K C env Hd σ H ∧ b.run C.Z env fun o env' => ∀ Hd' H', Same Hd Hd' → Rep X.K C env' Hd' σ H' → Q o H'
theorem b_none : PO X none (rB X E bNone) := ⟨fun pins s σ H Q I ⟨C, env, Hd, ok, R, h⟩ => po_none.run pins s σ H Q I (h Hd H (Same.refl _) R)⟩
theorem b_some {e : Expr} {w : Ex} (h : EV X E e w) : PO X (some e) (rB X E (bSome w)) := ⟨fun pins s σ H Q I ⟨C, env, Hd, ok, R, q⟩ => (po_some h).run pins s σ H Q I ⟨C, env, Hd, ok, R, w.mono (fun _ z => z) (fun r e1 ⟨i, hr, q⟩ v Hd1 H1 sm1 R1 rr => by
  subst hr
  exact ⟨i, Dq.int_inv rr, q Hd1 H1 sm1 R1⟩) q⟩⟩
theorem cut_dq {K : PySem.W.Frag} {Hd : Hp} {vs : List V} {xs : List D} {lo hi : Option Int} (h : DqAll K Hd vs xs) : DqAll K Hd (cutV vs lo hi) (cutD xs lo hi) := by
  unfold cutV cutD
  rw [h.len]
  exact (h.drop _).take _
def S3 (K : PySem.W.Frag) (r : V → Option Int → Option Int → Hp → VK → Prop) : Prop := ∀ (Hd H : Hp) (x : D) (v : V) (lo hi : Option Int) (Qm : MV → Prop) (Q : VK), Same Hd H → Pq K Hd H v x → pSl.run x lo hi Qm → (∀ m v' H', Qm m → Res K Hd H m v' H' → Q v' H') → r v lo hi H Q
theorem s_sl : S3 X.K (fun x lo hi H Q => rSlF X.K x lo hi H Q ∨ rSlL X.K x lo hi H Q ∨ rSlS x lo hi H Q) := by
  intro Hd H x v lo hi Qm Q e hx h k
  unfold pSl at h
  dsimp only at h
  split at h
  · obtain ⟨p, vs, rfl, q1, q2⟩ := hx.lst e
    exact .inr (.inl ⟨p, vs, rfl, SqL.of q1, fun t nt => k _ _ _ h (.newO nt ⟨_, upd_same, cut_dq q2⟩)⟩)
  · obtain ⟨p, vs, rfl, q1, q2⟩ := hx.tupD.tup_inv
    exact .inl ⟨p, vs, rfl, (same_seqF e q1).seq, fun z => dat_res (.tup q1 (by have := cut_dq (lo := lo) (hi := hi) q2; rwa [z] at this)) h k, newT_res e (cut_dq q2) h k⟩
  · exact .inr (.inr ⟨_, hx.str, by rw [sizeLine_eq]; exact h.1, dat_res (.str _) h.2 k⟩)
  · exact h.elim
theorem m_slice {lo hi : Option Expr} {bl bh : Bd} {p2 : Pos} (ha : OD X E a oa) (hl : PO X lo (rB X E bl)) (hh : PO X hi (rB X E bh)) : EV X E (.Subscript a (.Slice lo hi none p2) pos) (xSl oa bl bh) :=
  PE_imp (pe_slice (sl_tupF.or (sl_list.or sl_str)) ha hl hh) fun σ H Q ⟨C, env, Hd, ok, R, h⟩ => ⟨C, env, Hd, ok, R, oa.mono (fun _ z => z) (fun g e1 q v Hd1 H1 sm1 R1 ac => ⟨C, e1, Hd1, ok, R1, bl.mono (fun _ z => z) (fun l e2 q Hd2 H2 sm2 R2 => ⟨C, e2, Hd2, ok, R2, bh.mono (fun _ z => z) (fun u e3 ⟨x, hx, q⟩ Hd3 H3 sm3 R3 => by
    refine s_sl Hd3 H3 x v l u _ Q R3.dh (ac e3 Hd3 H3 (sm2.trans sm3) R3 x hx) q fun m v' H4 hm rs => ?_
    obtain ⟨Hd4, sm4, R4, rr⟩ := rs.fin R3
    exact hm v' Hd4 H4 (sm1.trans (sm2.trans (sm3.trans sm4))) R4 rr) q⟩) q⟩) h⟩
/-! built-ins of one operand -/
variable {x : Str} {p : Pos} {id T : String} {r : List V → Hp → VK → Prop} {f1 : P1}
theorem m_call1B (hc : CallR X (.builtin id) r) (s : S1 X.K (fun v H Q => r [v] H Q) f1) (hg : Gl X x) (hm : X.mg x = none) (hv : bootBuiltins x = some (.builtin id)) (ha : OD X E a oa) (hn : x ≠ "__name__" := by decide) (hdb : (x == ("__debug__" : Str)) = false := by decide)
    (he : starEach [a] X.env = [(false, eval a X.env)] := by rfl) (hpl : (backTo pos (starEach [] X.env)).any (·.1) = false := by rfl) : EV X E (.Call (.Name x p) [a] [] pos) (xOp1 f1 oa) :=
  PE_imp (pe_callB hc hg hm hv (pa_cons ha pa_nil he) hn hdb he hpl) fun _ _ _ h => op1_imp s h
theorem m_call1T (hc : CallR X (.type T) r) (s : S1 X.K (fun v H Q => r [v] H Q) f1) (hg : Gl X x) (hm : X.mg x = none) (hv : bootBuiltins x = some (.type T)) (ha : OD X E a oa) (hn : x ≠ "__name__" := by decide) (hdb : (x == ("__debug__" : Str)) = false := by decide)
    (he : starEach [a] X.env = [(false, eval a X.env)] := by rfl) (hpl : (backTo pos (starEach [] X.env)).any (·.1) = false := by rfl) : EV X E (.Call (.Name x p) [a] [] pos) (xOp1 f1 oa) :=
  PE_imp (pe_callTy hc hg hm hv (pa_cons ha pa_nil he) hn hdb he hpl) fun _ _ _ h => op1_imp s h
theorem s_len : S1 X.K (fun v H Q => (∃ p ys, [v] = [.ref p] ∧ (SqL X.K H p ys ∨ SqT X.K H p ys) ∧ Q (.int ys.length) H) ∨ ∃ z, [v] = [.str z] ∧ z.length ≤ sizeLine ∧ Q (.int z.length) H) pLen := by
  intro Hd H x v Qm Q e hx h k
  unfold pLen at h
  dsimp only at h
  split at h
  · obtain ⟨p, vs, rfl, q1, q2⟩ := hx.lst e
    exact .inl ⟨p, vs, rfl, .inl (SqL.of q1), by rw [q2.len]; exact dat_res (.int _) h k⟩
  · obtain ⟨p, vs, rfl, q1, q2⟩ := hx.tup e
    exact .inl ⟨p, vs, rfl, .inr q1.seq, by rw [q2.len]; exact dat_res (.int _) h k⟩
  · obtain rfl := hx.str
    exact .inr ⟨_, rfl, by rw [sizeLine_eq]; exact h.1, dat_res (.int _) h.2 k⟩
  · exact h.elim
theorem m_len (hg : Gl X "len") (hm : X.mg "len" = none) (ha : OD X E a oa) (he : starEach [a] X.env = [(false, eval a X.env)] := by rfl) : EV X E (.Call (.Name "len" p) [a] [] pos) (xOp1 pLen oa) :=
  m_call1B (call_len_seq.or call_len_str) s_len hg hm PySem.boot_len ha (he := he)
theorem s_tuple : S1 X.K (fun v H Q => ∃ p ys, [v] = [.ref p] ∧ ((SqL X.K H p ys ∧ newT ys H Q) ∨ (SqT X.K H p ys ∧ Q (.ref p) H))) pTuple := by
  intro Hd H x v Qm Q e hx ⟨xs, hi, h⟩ k
  unfold items at hi
  split at hi
  · cases hi
    obtain ⟨p, vs, rfl, q1, q2⟩ := hx.lst e
    exact ⟨p, vs, rfl, .inl ⟨SqL.of q1, newT_res e q2 h k⟩⟩
  · cases hi
    obtain ⟨p, vs, rfl, q1, q2⟩ := hx.tupD.tup_inv
    exact ⟨p, vs, rfl, .inr ⟨(same_seqF e q1).seq, dat_res (.tup q1 q2) h k⟩⟩
  · cases hi
theorem m_tuple (hg : Gl X "tuple") (hm : X.mg "tuple" = none) (ha : OD X E a oa) (he : starEach [a] X.env = [(false, eval a X.env)] := by rfl) : EV X E (.Call (.Name "tuple" p) [a] [] pos) (xOp1 pTuple oa) :=
  m_call1T call_tupF s_tuple hg hm (by decide +kernel) ha (he := he)
theorem s_list : S1 X.K (fun v H Q => ∃ p ys, [v] = [.ref p] ∧ (SqL X.K H p ys ∨ SqT X.K H p ys) ∧ ∀ l, H l = none → Q (.ref l) (upd H l (.lst ys))) pList := by
  intro Hd H x v Qm Q e hx ⟨xs, hi, h⟩ k
  obtain ⟨p, vs, rfl, q1, q2⟩ := hx.items e hi
  exact ⟨p, vs, rfl, q1, fun t nt => k _ _ _ h (.newO nt ⟨_, upd_same, q2⟩)⟩
theorem m_list (hg : Gl X "list") (hm : X.mg "list" = none) (ha : OD X E a oa) (he : starEach [a] X.env = [(false, eval a X.env)] := by rfl) : EV X E (.Call (.Name "list" p) [a] [] pos) (xOp1 pList oa) :=
  m_call1T call_list_of s_list hg hm (by decide +kernel) ha (he := he)
theorem s_abs : S1 X.K (fun v H Q => ∃ i, [v] = [.int i] ∧ Q (.int (if i < 0 then -i else i)) H) pAbs := by
  intro Hd H x v Qm Q e hx ⟨i, hi, h⟩ k
  subst hi
  obtain rfl := hx.int
  exact ⟨i, rfl, dat_res (.int _) h k⟩
theorem m_abs (hg : Gl X "abs") (hm : X.mg "abs" = none) (ha : OD X E a oa) (he : starEach [a] X.env = [(false, eval a X.env)] := by rfl) : EV X E (.Call (.Name "abs" p) [a] [] pos) (xOp1 pAbs oa) :=
  m_call1B call_abs s_abs hg hm (by decide +kernel) ha (he := he)
theorem s_int : S1 X.K (fun v H Q => (∃ i, [v] = [.int i] ∧ Q (.int i) H) ∨ ∃ k, [v] = [.bl k] ∧ Q (.int (if k then 1 else 0)) H) pInt := by
  intro Hd H x v Qm Q e hx h k
  unfold pInt at h
  dsimp only at h
  split at h
  · obtain rfl := hx.int
    exact .inl ⟨_, rfl, dat_res (.int _) h k⟩
  · obtain rfl := hx.bool
    exact .inr ⟨_, rfl, dat_res (.int _) h k⟩
  · exact h.elim
theorem m_intOf (hg : Gl X "int") (hm : X.mg "int" = none) (ha : OD X E a oa) (he : starEach [a] X.env = [(false, eval a X.env)] := by rfl) : EV X E (.Call (.Name "int" p) [a] [] pos) (xOp1 pInt oa) :=
  m_call1T call_int1 s_int hg hm (by decide +kernel) ha (he := he)
theorem s_neg : S1 X.K (rU fun i => .int (-i)) pNeg := by
  intro Hd H x v Qm Q e hx ⟨i, hi, h⟩ k
  subst hi
  obtain rfl := hx.int
  exact ⟨i, rfl, dat_res (.int _) h k⟩
theorem m_neg (ha : OD X E a oa) : EV X E (.UnaryOp .USub a pos) (xOp1 pNeg oa) := m_un un_neg s_neg ha
theorem s_all : S1 X.K (fun v H Q => rAll X.K [v] H Q) pAll := by
  intro Hd H x v Qm Q e hx ⟨bs, hb, h⟩ k
  subst hb
  obtain ⟨p, vs, rfl, q1, q2⟩ := hx.lst e
  obtain rfl := q2.bools
  exact ⟨p, bs, rfl, SqL.of q1, dat_res (.bl _) h k⟩
theorem s_any : S1 X.K (fun v H Q => rAny X.K [v] H Q) pAny := by
  intro Hd H x v Qm Q e hx ⟨bs, hb, h⟩ k
  subst hb
  obtain ⟨p, vs, rfl, q1, q2⟩ := hx.lst e
  obtain rfl := q2.bools
  exact ⟨p, bs, rfl, SqL.of q1, dat_res (.bl _) h k⟩
theorem s_sum : S1 X.K (fun v H Q => rSum X.K [v] H Q) pSum := by
  intro Hd H x v Qm Q e hx ⟨ns, hb, h⟩ k
  subst hb
  obtain ⟨p, vs, rfl, q1, q2⟩ := hx.lst e
  obtain rfl := q2.ints
  exact ⟨p, ns, rfl, SqL.of q1, dat_res (.int _) h k⟩
theorem m_all (hc : X.calm = true) (hg : Gl X "all") (hm : X.mg "all" = none) (ha : OD X E a oa) (he : starEach [a] X.env = [(false, eval a X.env)] := by rfl) : EV X E (.Call (.Name "all" p) [a] [] pos) (xOp1 pAll oa) :=
  m_call1B (cr_all hc) s_all hg hm (by decide +kernel) ha (he := he)
theorem m_any (hc : X.calm = true) (hg : Gl X "any") (hm : X.mg "any" = none) (ha : OD X E a oa) (he : starEach [a] X.env = [(false, eval a X.env)] := by rfl) : EV X E (.Call (.Name "any" p) [a] [] pos) (xOp1 pAny oa) :=
  m_call1B (cr_any hc) s_any hg hm (by decide +kernel) ha (he := he)
theorem m_sum (hc : X.calm = true) (hg : Gl X "sum") (hm : X.mg "sum" = none) (ha : OD X E a oa) (he : starEach [a] X.env = [(false, eval a X.env)] := by rfl) : EV X E (.Call (.Name "sum" p) [a] [] pos) (xOp1 pSum oa) :=
  m_call1B (cr_sum hc) s_sum hg hm (by decide +kernel) ha (he := he)
end
end Mx

-- MxG
/-! Mx: repr, methods, several targets, keywords, the law's end. -/
namespace Mx
open PySem PySem.Spec PyProof.Rows L2
variable [TheDeck]

/-! ### repr -/
/-- what may be shown -/
def pRepr : P1 where
  run x Q := x.showable = true ∧ x.hasDict = false ∧ x.depth ≤ 60 ∧ x.shown.length ≤ 16777216 ∧ Q (.d (.str x.shown))
  mono h q := ⟨q.1, q.2.1, q.2.2.1, q.2.2.2.1, h _ q.2.2.2.2⟩
section
variable {X : Cx} {pins : List (Addr × Obj)} {σ : L2.St} {H : Hp} {s : Shared}
theorem SqF.tupI {a : Addr} {vs : List V} (h : SqF X.K H a vs) (I : L2.Inv X pins σ H s) : ∃ its : List Value, Vals vs its ∧ IsTup s.heap a its.toArray :=
  let ⟨its, r, t, _⟩ := I.tuple h.seq
  ⟨its, r, t⟩
mutual
theorem Dq.reads (I : L2.Inv X pins σ H s) : ∀ {v : V} {d : D} {u : Value}, Dq X.K H v d → d.hasDict = false → RelV v u → ∃ as, Reads s.heap u d as
  | _, _, _, .non, _, r => by cases r; exact ⟨[], .none⟩
  | _, _, _, .bl b, _, r => by cases r; exact ⟨[], .bool b⟩
  | _, _, _, .int i, _, r => by obtain ⟨t, rfl⟩ := r; exact ⟨[], .int i t⟩
  | _, _, _, .str x, _, r => by obtain ⟨t, rfl⟩ := r; exact ⟨[], .str x t⟩
  | _, _, _, .lst (a := a) h q, hd, r => by
    cases r
    obtain ⟨its, rv, ⟨o, n, ho, hc, hdn, hdt⟩, _⟩ := I.list (SqL.of h)
    obtain ⟨as, hr⟩ := DqAll.reads I q (by simpa [PyData.hasDict] using hd) rv
    exact ⟨a :: as, .list ho hc hdt (by simpa using hr)⟩
  | _, _, _, .tup (a := a) h q, hd, r => by
    cases r
    obtain ⟨its, rv, o, ho, hc, n, hdt⟩ := SqF.tupI h I
    obtain ⟨as, hr⟩ := DqAll.reads I q (by simpa [PyData.hasDict] using hd) rv
    exact ⟨as, .tuple ho hc hdt (by simpa using hr)⟩
  | _, _, _, .dic h q, hd, r => by simp [PyData.hasDict] at hd
theorem DqAll.reads (I : L2.Inv X pins σ H s) : ∀ {vs : List V} {ds : List D} {us : List Value}, DqAll X.K H vs ds → PyData.hasDictAll ds = false → Vals vs us → ∃ as, ReadsAll s.heap us ds as
  | _, _, _, .nil, _, .nil => ⟨[], .nil⟩
  | _, _, _, .cons h q, hd, .cons r rs => by
    have hd' := (show (PyData.hasDict _ || PyData.hasDictAll _) = false by simpa [PyData.hasDictAll] using hd)
    rw [Bool.or_eq_false_iff] at hd'
    obtain ⟨as, h1⟩ := Dq.reads I h hd'.1 r
    obtain ⟨bs, h2⟩ := DqAll.reads I q hd'.2 rs
    exact ⟨as ++ bs, .cons h1 h2⟩
end
theorem call_reprD (hg : X.A.guards = some []) (hu : X.A.units + 64 < cLine) : CallR X (.builtin "repr") (fun xs H Q => ∃ v d, xs = [v] ∧ Dq X.K H v d ∧ d.showable = true ∧ d.hasDict = false ∧ d.depth ≤ 60 ∧ d.shown.length ≤ sizeLine ∧ Q (.str d.shown) H) := by
  intro pins s σ H xs us Q I r ⟨v, d, ex, h1, h2, h3, h4, h5, q⟩
  subst ex
  obtain ⟨u, rfl, ru⟩ := vals1 r
  have key : ∀ (a : Addr), u = Value.ref a → wpAny (model X.prog X.w) X.A (call (.builtin "repr") [u]) (EP X pins σ Q) X.xe s := fun a e => by
    obtain ⟨as, hr⟩ := Dq.reads I h1 h3 ru
    subst e
    exact repr_of_reads' hr h2 (PyData.noDict_hsm h3) hg (by omega) (fun _ _ e => e) (fun h' u' tk hk => ⟨.str d.shown, H, I.kept (t' := tk) hk, ⟨_, rfl⟩, q⟩) h5
  cases h1 with
  | non =>
    cases ru
    simp only [PyData.shown] at q
    exact PySem.P.repr_of_none ⟨.str _, H, I.tok _, ⟨_, rfl⟩, q⟩
  | bl b =>
    cases ru
    simp only [PyData.shown] at q
    exact PySem.P.repr_of_bool ⟨.str _, H, I.tok _, ⟨_, rfl⟩, by cases b <;> exact q⟩
  | int i =>
    obtain ⟨t, rfl⟩ := ru
    simp only [PyData.shown] at q
    exact PySem.P.repr_of_int (by simpa [PyData.showable] using h2) ⟨.str _, H, I.tok _, ⟨_, rfl⟩, q⟩
  | str x =>
    obtain ⟨t, rfl⟩ := ru
    simp only [PyData.shown] at q h5
    exact PySem.P.repr_of_str ⟨.str _, H, I.tok _, ⟨_, rfl⟩, q⟩ h5
  | lst h q' => cases ru; exact key _ rfl
  | tup h q' => cases ru; exact key _ rfl
  | dic h q' => simp [PyData.hasDict] at h3
end
section
variable {X : Cx} {E : XK} {pos p : Pos} {a b : Expr} {oa ob : Od}
theorem s_repr : S1 X.K (fun v H Q => ∃ v' d, [v] = [v'] ∧ Dq X.K H v' d ∧ d.showable = true ∧ d.hasDict = false ∧ d.depth ≤ 60 ∧ d.shown.length ≤ sizeLine ∧ Q (.str d.shown) H) pRepr := by
  intro Hd H x v Qm Q e hx ⟨h1, h2, h3, h4, h⟩ k
  exact ⟨v, x, rfl, hx.look e, h1, h2, h3, by rw [sizeLine_eq]; exact h4, dat_res (.str _) h k⟩
theorem m_repr (hgd : X.A.guards = some []) (hu : X.A.units + 64 < cLine) (hg : Gl X "repr") (hm : X.mg "repr" = none) (ha : OD X E a oa) (he : starEach [a] X.env = [(false, eval a X.env)] := by rfl) : EV X E (.Call (.Name "repr" p) [a] [] pos) (xOp1 pRepr oa) :=
  m_call1B (call_reprD hgd hu) s_repr hg hm (by decide +kernel) ha (he := he)

/-! ### an own list that is changed -/
theorem Rep.putS {K : PySem.W.Frag} {C : Ctx} {env : Env} {Hd H : Hp} {σ : L2.St} {i : Nat} {q : Addr} {c c' : Cont} {o : HO} (R : Rep K C env Hd σ H) (he : env[i]? = some (some (.o c))) (hs : σ[i]? = some (some (.ref q))) (hd : Hd q = none) (h0 : C.H0 q = none) (ho : OwnO K Hd (upd H q o) q c') :
    Rep K C (env.set i (some (.o c'))) Hd σ (upd H q o) where
  toBase := R.toBase.put h0 hd
  len := by rw [List.length_set]; exact R.len
  slot j m h := by
    rcases get_set h with ⟨rfl, e, hl⟩ | ⟨nj, e⟩
    · cases e
      exact ⟨_, hs, q, rfl, hd, h0, ho⟩
    · obtain ⟨v, h1, h2⟩ := R.slot j m e
      refine ⟨v, h1, ?_⟩
      cases m with
      | d x => exact h2
      | o c2 =>
        obtain ⟨b, rfl, q1, q2, q3⟩ := h2
        have nb : b ≠ q := fun z => nj (R.sep j i q (z ▸ ⟨⟨c2, e⟩, h1⟩) ⟨⟨c, he⟩, hs⟩)
        exact ⟨b, rfl, q1, q2, q3.mono (Same.refl _) fun o' z => by rw [upd_ne nb]; exact z⟩
      | dk => exact h2
  sep j k b h1 h2 := by
    have key : ∀ l, Owns (env.set i (some (.o c'))) σ l b → Owns env σ l b := by
      rintro l ⟨⟨c2, e⟩, s⟩
      rcases get_set e with ⟨rfl, _, _⟩ | ⟨_, z⟩
      · exact ⟨⟨c, he⟩, s⟩
      · exact ⟨⟨c2, z⟩, s⟩
    exact R.sep j k b (key j h1) (key k h2)
/-- the own list of slot i -/
def ownL (i : Nat) (e : Env) : Option (List D) := match e[i]? with
  | some (some (.o (.lst xs))) => some xs
  | _ => none
theorem ownL_at {i : Nat} {e : Env} {xs : List D} (h : ownL i e = some xs) : e[i]? = some (some (.o (.lst xs))) := by
  unfold ownL at h
  split at h
  · rename_i z; cases h; exact z
  · cases h
def setL (i : Nat) (xs : List D) (e : Env) : Env := e.set i (some (.o (.lst xs)))
theorem Rep.own {K : PySem.W.Frag} {C : Ctx} {env : Env} {Hd H : Hp} {σ : L2.St} {i : Nat} {xs : List D} (R : Rep K C env Hd σ H) (h : ownL i env = some xs) : ∃ q vs, σ[i]? = some (some (.ref q)) ∧ Hd q = none ∧ C.H0 q = none ∧ H q = some (.lst vs) ∧ DqAll K Hd vs xs := by
  obtain ⟨v, h1, q, rfl, h2, h3, vs, h4, h5⟩ := R.slot i _ (ownL_at h)
  exact ⟨q, vs, h1, h2, h3, h4, h5⟩
def xAppend (i : Nat) (w : Ex) : Ex where
  rr Z e Q := (ownL i e).isSome = true ∧ w.run Z e fun r e1 => asD r fun y => ∃ xs, ownL i e1 = some xs ∧ xs.length < 16777216 ∧ Q (.d .none) (setL i (xs ++ [y]) e1)
  mn hZ hQ h := ⟨h.1, w.mono hZ (fun r e1 q => asD_mono (fun y ⟨xs, h1, h2, q⟩ => ⟨xs, h1, h2, hQ _ _ q⟩) q) h.2⟩
def xPop (i : Nat) : Ex where
  rr Z e Q := ∃ xs y, ownL i e = some (xs ++ [y]) ∧ Q (.d y) (setL i xs e)
  mn hZ hQ h := let ⟨xs, y, h1, h2⟩ := h; ⟨xs, y, h1, hQ _ _ h2⟩
def xPopAt (i : Nat) (w : Ex) : Ex where
  rr Z e Q := (ownL i e).isSome = true ∧ w.run Z e fun r e1 => ∃ k : Nat, r = .d (.int k) ∧ k < 2 ^ 62 ∧ ∃ xs y, ownL i e1 = some xs ∧ xs[k]? = some y ∧ Q (.d y) (setL i (xs.eraseIdx k) e1)
  mn hZ hQ h := ⟨h.1, w.mono hZ (fun r e1 ⟨k, h1, h2, xs, y, h3, h4, q⟩ => ⟨k, h1, h2, xs, y, h3, h4, hQ _ _ q⟩) h.2⟩
/-- xs.extend(ys), ys a list -/
def xExtend (i : Nat) (w : Ex) : Ex where
  rr Z e Q := (ownL i e).isSome = true ∧ w.run Z e fun r e1 => asD r fun y => ∃ xs ys, ownL i e1 = some xs ∧ y = .list ys ∧ xs.length + ys.length ≤ 16777216 ∧ Q (.d .none) (setL i (xs ++ ys) e1)
  mn hZ hQ h := ⟨h.1, w.mono hZ (fun r e1 q => asD_mono (fun y ⟨xs, ys, h1, h2, h3, q⟩ => ⟨xs, ys, h1, h2, h3, hQ _ _ q⟩) q) h.2⟩
variable {x : Str} {pa : Pos} {w : Ex}
theorem m_append (i : Nat) (h : EV X E a w) (hN : X.N[i]? = some x := by rfl) (hv : Vis X.env.scope x := by first | exact Or.inl rfl | exact Or.inr (Or.inl rfl) | exact Or.inr (Or.inr rfl)) (hd : (x == ("__debug__" : Str)) = false := by decide)
    (hcd : (x == ("__classdict__" : Str)) = false := by decide) (hbase : attributeBase (.Name x p) "append" X.env (eval (.Name x p) X.env) = eval (.Name x p) X.env := by rfl) (hline : (pa.endLine == pos.line) = true := by rfl) (hs : starEach [a] X.env = [(false, eval a X.env)] := by rfl) :
    EV X E (.Call (.Attribute (.Name x p) "append" pa) [a] [] pos) (xAppend i w) :=
  PE_imp (pe_bm PySem.F.plainAttrs_list PySem.F.slot_list_append PySem.F.type_list_append mt_append (pe_var (i := i) hN hv hd hcd) (pa_cons h pa_nil hs) hbase (by rw [hs]; rfl) hline hs) fun σ H Q ⟨C, env, Hd, ok, R, h0, h⟩ => by
    obtain ⟨xs0, hx0⟩ := Option.isSome_iff_exists.mp h0
    obtain ⟨q, vs, h1, h2, h3, h4, h5⟩ := R.own hx0
    refine ⟨.ref q, h1, .inl ⟨rfl, vs, SqL.of h4⟩, C, env, Hd, ok, R, w.mono (fun _ z => z) (fun r e1 k v Hd1 H1 sm1 R1 rr => ?_) h⟩
    obtain ⟨Hd2, y, ⟨xs, hx, hl, k⟩, sm2, R2, dq⟩ := RR.frz R1 rr k
    obtain ⟨q', vs', g1, g2, g3, g4, g5⟩ := R2.own hx
    rw [h1] at g1
    cases g1
    refine ⟨q, vs', v, rfl, rfl, g4, by rw [g5.len, sizeLine_eq]; exact hl, ?_⟩
    exact k .non Hd2 _ (sm1.trans sm2) (R2.putS (ownL_at hx) h1 g2 g3 ⟨_, upd_same, g5.append (.one dq)⟩) .non
theorem m_extend (i : Nat) (h : EV X E a w) (hN : X.N[i]? = some x := by rfl) (hv : Vis X.env.scope x := by first | exact Or.inl rfl | exact Or.inr (Or.inl rfl) | exact Or.inr (Or.inr rfl)) (hd : (x == ("__debug__" : Str)) = false := by decide)
    (hcd : (x == ("__classdict__" : Str)) = false := by decide) (hbase : attributeBase (.Name x p) "extend" X.env (eval (.Name x p) X.env) = eval (.Name x p) X.env := by rfl) (hline : (pa.endLine == pos.line) = true := by rfl) (hs : starEach [a] X.env = [(false, eval a X.env)] := by rfl) :
    EV X E (.Call (.Attribute (.Name x p) "extend" pa) [a] [] pos) (xExtend i w) :=
  PE_imp (pe_bm PySem.F.plainAttrs_list PySem.F.slot_list_extend PySem.F.type_list_extend mt_extend (pe_var (i := i) hN hv hd hcd) (pa_cons h pa_nil hs) hbase (by rw [hs]; rfl) hline hs) fun σ H Q ⟨C, env, Hd, ok, R, h0, h⟩ => by
    obtain ⟨xs0, hx0⟩ := Option.isSome_iff_exists.mp h0
    obtain ⟨q, vs, h1, h2, h3, h4, h5⟩ := R.own hx0
    refine ⟨.ref q, h1, .inl ⟨rfl, vs, SqL.of h4⟩, C, env, Hd, ok, R, w.mono (fun _ z => z) (fun r e1 k v Hd1 H1 sm1 R1 rr => ?_) h⟩
    obtain ⟨Hd2, y, ⟨xs, ys, hx, rfl, hl, k⟩, sm2, R2, dq⟩ := RR.frz R1 rr k
    obtain ⟨q', vs', g1, g2, g3, g4, g5⟩ := R2.own hx
    rw [h1] at g1
    cases g1
    obtain ⟨b, ws, rfl, d1, d2⟩ := dq.lst_inv
    refine ⟨q, b, vs', ws, rfl, rfl, g4, R2.dh _ _ d1, by rw [g5.len, d2.len, sizeLine_eq]; exact hl, ?_⟩
    exact k .non Hd2 _ (sm1.trans sm2) (R2.putS (ownL_at hx) h1 g2 g3 ⟨_, upd_same, g5.append d2⟩) .non
theorem m_pop (i : Nat) (hN : X.N[i]? = some x := by rfl) (hv : Vis X.env.scope x := by first | exact Or.inl rfl | exact Or.inr (Or.inl rfl) | exact Or.inr (Or.inr rfl)) (hd : (x == ("__debug__" : Str)) = false := by decide)
    (hcd : (x == ("__classdict__" : Str)) = false := by decide) (hbase : attributeBase (.Name x p) "pop" X.env (eval (.Name x p) X.env) = eval (.Name x p) X.env := by rfl) (hline : (pa.endLine == pos.line) = true := by rfl) :
    EV X E (.Call (.Attribute (.Name x p) "pop" pa) [] [] pos) (xPop i) :=
  PE_imp (pe_bm0 PySem.F.plainAttrs_list PySem.F.slot_list_pop PySem.F.type_list_pop mt_pop (pe_var (i := i) hN hv hd hcd) hbase hline) fun σ H Q ⟨C, env, Hd, ok, R, xs, y, hx, h⟩ => by
    obtain ⟨q, vs, h1, h2, h3, h4, h5⟩ := R.own hx
    have hl : vs.length = xs.length + 1 := by rw [h5.len, List.length_append]; rfl
    obtain ⟨v, hv, dv⟩ := h5.get (i := xs.length) (d := y) (by rw [List.getElem?_append_right (Nat.le_refl _), Nat.sub_self]; rfl)
    refine ⟨.ref q, h1, .inl ⟨rfl, vs, SqL.of h4⟩, q, vs, v, rfl, rfl, h4, by rw [hl]; exact hv, ?_⟩
    have dl : DqAll X.K Hd vs.dropLast xs := by
      have := h5.take xs.length
      rw [List.take_append_of_le_length (Nat.le_refl _), List.take_length] at this
      rwa [show xs.length = vs.length - 1 by omega, ← List.dropLast_eq_take] at this
    exact h v Hd _ (Same.refl _) (R.putS (ownL_at hx) h1 h2 h3 ⟨_, upd_same, dl⟩) dv
theorem m_popAt (i : Nat) (h : EV X E a w) (hN : X.N[i]? = some x := by rfl) (hv : Vis X.env.scope x := by first | exact Or.inl rfl | exact Or.inr (Or.inl rfl) | exact Or.inr (Or.inr rfl)) (hd : (x == ("__debug__" : Str)) = false := by decide)
    (hcd : (x == ("__classdict__" : Str)) = false := by decide) (hbase : attributeBase (.Name x p) "pop" X.env (eval (.Name x p) X.env) = eval (.Name x p) X.env := by rfl) (hline : (pa.endLine == pos.line) = true := by rfl) (hs : starEach [a] X.env = [(false, eval a X.env)] := by rfl) :
    EV X E (.Call (.Attribute (.Name x p) "pop" pa) [a] [] pos) (xPopAt i w) :=
  PE_imp (pe_bm PySem.F.plainAttrs_list PySem.F.slot_list_pop PySem.F.type_list_pop mt_popAt (pe_var (i := i) hN hv hd hcd) (pa_cons h pa_nil hs) hbase (by rw [hs]; rfl) hline hs) fun σ H Q ⟨C, env, Hd, ok, R, h0, h⟩ => by
    obtain ⟨xs0, hx0⟩ := Option.isSome_iff_exists.mp h0
    obtain ⟨q, vs, h1, h2, h3, h4, h5⟩ := R.own hx0
    refine ⟨.ref q, h1, .inl ⟨rfl, vs, SqL.of h4⟩, C, env, Hd, ok, R, w.mono (fun _ z => z) (fun r e1 ⟨k, hr, hk, xs, y, hx, hy, q2⟩ v Hd1 H1 sm1 R1 rr => ?_) h⟩
    subst hr
    obtain rfl := Dq.int_inv rr
    obtain ⟨q', vs', g1, g2, g3, g4, g5⟩ := R1.own hx
    rw [h1] at g1
    cases g1
    obtain ⟨u, hu, du⟩ := g5.get hy
    have hkl : k < xs.length := (List.getElem?_eq_some_iff.mp hy).1
    have ei : ixN vs'.length (k : Int) = some k := by
      unfold ixN
      rw [if_pos (by omega), if_pos (by rw [g5.len]; omega), Int.toNat_natCast]
    refine ⟨q, vs', k, k, u, rfl, rfl, g4, by omega, by omega, (ixN_seq ei).1, hu, ?_⟩
    exact q2 u Hd1 _ sm1 (R1.putS (ownL_at hx) h1 g2 g3 ⟨_, upd_same, g5.eraseIdx k⟩) du

/-! ### methods that read -/
/-- t.index(x), l.index(x): the first place of an equal one, all of them flat -/
def firstAt (xs : List D) (x : D) : Option Nat := xs.findIdx? fun z => PyData.eqv z x
def pIndex (mk : List D → D) : P2 where
  run x y Q := ∃ xs j, x = mk xs ∧ flatD y = true ∧ xs.all flatD = true ∧ firstAt xs y = some j ∧ Q (.d (.int (j : Nat)))
  mono h q := let ⟨a, b, c, d, e, f, g⟩ := q; ⟨a, b, c, d, e, f, h _ g⟩
/-- the receiver is a tuple, a list -/
def xMeth (f : P2) (isT : D → Prop) (a b : Od) : Ex where
  rr Z e Q := a.run Z e fun g e1 => (∃ x, g e1 = some x ∧ isT x) ∧ b.run Z e1 fun k e2 => ∃ x y, g e2 = some x ∧ k e2 = some y ∧ f.run x y fun r => Q r e2
  mn hZ hQ h := a.mono hZ (fun g e1 ⟨q0, q⟩ => ⟨q0, b.mono hZ (fun k e2 ⟨x, y, h1, h2, h3⟩ => ⟨x, y, h1, h2, f.mono (fun r q => hQ _ _ q) h3⟩) q⟩) h
def isTup (x : D) : Prop := ∃ xs, x = .tuple xs
def isLst (x : D) : Prop := ∃ xs, x = .list xs
theorem first_ok {K : PySem.W.Frag} {Hd Hd' : Hp} {vs : List V} {xs : List D} {u : V} {y : D} {j : Nat} (h : DqAll K Hd vs xs) (hy : Dq K Hd' u y) (fy : flatD y = true) (fx : xs.all flatD = true) (q : firstAt xs y = some j) :
    ∃ z, vs[j]? = some z ∧ eqV z u = true ∧ ∀ (m : Nat) (z' : V), m < j → vs[m]? = some z' → eqV z' u = false := by
  unfold firstAt at q
  obtain ⟨hj, h1, h2⟩ := List.findIdx?_eq_some_iff_getElem.mp q
  obtain ⟨z, hz, dz⟩ := h.get (List.getElem?_eq_getElem hj)
  refine ⟨z, hz, ?_, fun m z' hm hz' => ?_⟩
  · rw [flat_eq dz hy (List.all_eq_true.mp fx _ (List.getElem_mem hj)) fy]
    exact h1
  · have hml : m < xs.length := by omega
    obtain ⟨d, hd, dd⟩ := h.getV hz'
    rw [List.getElem?_eq_getElem hml] at hd
    cases hd
    rw [flat_eq dd hy (List.all_eq_true.mp fx _ (List.getElem_mem hml)) fy]
    simpa using h2 m hm
theorem m_indexT (ha : OD X E a oa) (hb : OD X E b ob) (hbase : attributeBase a "index" X.env (eval a X.env) = eval a X.env := by rfl) (hline : (pa.endLine == pos.line) = true := by rfl) (hs : starEach [b] X.env = [(false, eval b X.env)] := by rfl) :
    EV X E (.Call (.Attribute a "index" pa) [b] [] pos) (xMeth (pIndex .tuple) isTup oa ob) :=
  PE_imp (pe_bmT PySem.F.slot_tuple_index PySem.F.type_tuple_index mt_indexF ha (pa_cons hb pa_nil hs) hbase (by rw [hs]; rfl) hline hs) fun σ H Q ⟨C, env, Hd, ok, R, h⟩ => ⟨C, env, Hd, ok, R, oa.mono (fun _ z => z) (fun g e1 ⟨⟨x, hx, xs, hxs⟩, q⟩ v Hd1 H1 sm1 R1 ac => by
    subst hxs
    obtain ⟨t, vs, rfl, t1, t2⟩ := (ac e1 Hd1 H1 (Same.refl _) R1 _ hx).tup R1.dh
    refine ⟨⟨t, vs, rfl, t1⟩, C, e1, Hd1, ok, R1, ob.mono (fun _ z => z) (fun k e2 ⟨x2, y, hx2, hy, xs2, j, hi, fy, fx, hj, q⟩ u Hd2 H2 sm2 R2 ac2 => ?_) q⟩
    subst hi
    have p2 := (ac2 e2 Hd2 H2 (Same.refl _) R2 _ hy).look R2.dh
    obtain ⟨t', vs', e3, t3, t4⟩ := (ac e2 Hd2 H2 sm2 R2 _ hx2).tup R2.dh
    cases e3
    obtain ⟨z, z1, z2, z3⟩ := first_ok t4 p2 fy fx hj
    exact ⟨t, vs', u, j, z, rfl, rfl, t3.seq, flat_v p2 fy, flat_all t4 fx, z1, z2, z3, q _ Hd2 H2 (sm1.trans sm2) R2 (.int _)⟩) h⟩
theorem m_indexL (ha : OD X E a oa) (hb : OD X E b ob) (hbase : attributeBase a "index" X.env (eval a X.env) = eval a X.env := by rfl) (hline : (pa.endLine == pos.line) = true := by rfl) (hs : starEach [b] X.env = [(false, eval b X.env)] := by rfl) :
    EV X E (.Call (.Attribute a "index" pa) [b] [] pos) (xMeth (pIndex .list) isLst oa ob) :=
  PE_imp (pe_bm PySem.F.plainAttrs_list PySem.F.slot_list_index PySem.F.type_list_index mt_index ha (pa_cons hb pa_nil hs) hbase (by rw [hs]; rfl) hline hs) fun σ H Q ⟨C, env, Hd, ok, R, h⟩ => ⟨C, env, Hd, ok, R, oa.mono (fun _ z => z) (fun g e1 ⟨⟨x, hx, xs, hxs⟩, q⟩ v Hd1 H1 sm1 R1 ac => by
    subst hxs
    obtain ⟨t, vs, rfl, t1, t2⟩ := (ac e1 Hd1 H1 (Same.refl _) R1 _ hx).lst R1.dh
    refine ⟨.inl ⟨rfl, vs, SqL.of t1⟩, C, e1, Hd1, ok, R1, ob.mono (fun _ z => z) (fun k e2 ⟨x2, y, hx2, hy, xs2, j, hi, fy, fx, hj, q⟩ u Hd2 H2 sm2 R2 ac2 => ?_) q⟩
    subst hi
    have p2 := (ac2 e2 Hd2 H2 (Same.refl _) R2 _ hy).look R2.dh
    obtain ⟨t', vs', e3, t3, t4⟩ := (ac e2 Hd2 H2 sm2 R2 _ hx2).lst R2.dh
    cases e3
    obtain ⟨z, z1, z2, z3⟩ := first_ok t4 p2 fy fx hj
    exact ⟨t, vs', u, j, z, rfl, rfl, SqL.of t3, flat_v p2 fy, flat_all t4 fx, z1, z2, z3, q _ Hd2 H2 (sm1.trans sm2) R2 (.int _)⟩) h⟩

/-! ### several targets -/
/-- a, b = x, y: both stored at once -/
def sPar (i j : Nat) (w u : Ex) : Stm where
  rr Z e O := w.run Z e fun r e1 => u.run Z e1 fun s e2 => O.nx ((e2.set i (some r)).set j (some s))
  mn hZ hO h := w.mono hZ (fun r e1 q => u.mono hZ (fun s e2 q => hO.nx _ q) q) h
def sPar3 (i j l : Nat) (w u t : Ex) : Stm where
  rr Z e O := w.run Z e fun r e1 => u.run Z e1 fun s e2 => t.run Z e2 fun q e3 => O.nx (((e3.set i (some r)).set j (some s)).set l (some q))
  mn hZ hO h := w.mono hZ (fun r e1 q => u.mono hZ (fun s e2 q => t.mono hZ (fun _ e3 q => hO.nx _ q) q) q) h
theorem prot_ok {C : Ctx} {q : Addr} {o : HO} (h0 : C.H0 q = none) (hd0 : C.Hd0 q = none) (nk : ¬ C.isDk q) (ok : COk X E C) : COk X E (C.prot C.Z q o) := fun x c od Hd H B xr z => by
  refine ok x c od Hd H ⟨B.d0, B.dh, fun b y h => ?_, fun b y h hk => ?_, fun K0 e => ⟨(B.dk K0 e).1, fun b hb => ⟨((B.dk K0 e).2 b hb).1, ?_⟩⟩, B.kd⟩ xr z
  · rcases B.fr b y h with k | k
    · exact Or.inl k
    · have nb : b ≠ q := fun z => by rw [z, show (C.prot C.Z q o).H0 q = some o from upd_same] at k; cases k
      rw [show (C.prot C.Z q o).H0 b = C.H0 b from upd_ne nb] at k
      exact Or.inr k
  · have nb : b ≠ q := fun z => by rw [z, h0] at h; cases h
    exact B.h0 b y (by rw [show (C.prot C.Z q o).H0 b = C.H0 b from upd_ne nb]; exact h) hk
  · have k := ((B.dk K0 e).2 b hb).2
    rwa [show (C.prot C.Z q o).H0 b = C.H0 b from upd_ne fun (z : b = q) => nk ⟨K0, e, z ▸ hb⟩] at k
theorem unprot {C : Ctx} {q : Addr} {o : HO} {env : Env} {Hd H : Hp} {σ : L2.St} {v : V} {m : MV} (h0 : C.H0 q = none) (r : RR X.K (C.prot C.Z q o) env Hd σ H v m) : RR X.K C env Hd σ H v m ∧ ∀ c, m = .o c → v ≠ .ref q := by
  cases m with
  | d x => exact ⟨r, fun c e => by cases e⟩
  | dk => exact ⟨r, fun c e => by cases e⟩
  | o c =>
    obtain ⟨b, rfl, h1, h2, h3, h4⟩ := r
    have nb : b ≠ q := fun z => by rw [z, show (C.prot C.Z q o).H0 q = some o from upd_same] at h2; cases h2
    rw [show (C.prot C.Z q o).H0 b = C.H0 b from upd_ne nb] at h2
    exact ⟨⟨b, rfl, h1, h2, h3, h4⟩, fun c' _ e => nb (V.ref.inj e)⟩
/-- two results own apart -/
def Apart (v : V) (m : MV) (v2 : V) (m2 : MV) : Prop := ∀ q c c2, m = .o c → v = .ref q → m2 = .o c2 → v2 ≠ .ref q
/-- a result waits while something else is reckoned -/
theorem hold {C : Ctx} {env : Env} {Hd H : Hp} {σ : L2.St} {v : V} {m : MV} (ok : COk X E C) (R : Rep X.K C env Hd σ H) (r : RR X.K C env Hd σ H v m) :
    ∃ C', COk X E C' ∧ C'.Z = C.Z ∧ Rep X.K C' env Hd σ H ∧ ∀ env' Hd' H', Same Hd Hd' → Rep X.K C' env' Hd' σ H' → Rep X.K C env' Hd' σ H' ∧ RR X.K C env' Hd' σ H' v m ∧
      ∀ v2 m2, RR X.K C' env' Hd' σ H' v2 m2 → RR X.K C env' Hd' σ H' v2 m2 ∧ Apart v m v2 m2 := by
  cases m with
  | d x => exact ⟨C, ok, rfl, R, fun env' Hd' H' sm R' => ⟨R', Dq.mono sm r, fun v2 m2 r2 => ⟨r2, fun q c c2 e => by cases e⟩⟩⟩
  | dk => exact ⟨C, ok, rfl, R, fun env' Hd' H' sm R' => ⟨R', r, fun v2 m2 r2 => ⟨r2, fun q c c2 e => by cases e⟩⟩⟩
  | o c =>
    obtain ⟨q, rfl, h1, h2, h3, h4⟩ := r
    obtain ⟨o, ho⟩ := h3.some
    have hd0 : C.Hd0 q = none := R.d0.free h1
    have nk := R.toBase.deckNot h2
    refine ⟨C.prot C.Z q o, prot_ok h2 hd0 nk ok, rfl, R.toBlk h2 h1 ho h4, fun env' Hd' H' sm R' => ?_⟩
    obtain ⟨R2, g1, g2, g3⟩ := R'.ofBlk h2 hd0 nk
    refine ⟨R2, ⟨q, rfl, g2, h2, h3.mono sm fun o' e => by rw [ho] at e; cases e; exact g1, g3⟩, fun v2 m2 r2 => ?_⟩
    obtain ⟨k1, k2⟩ := unprot h2 r2
    exact ⟨k1, fun q' c1 c2 e1 e2 e3 => by cases e2; exact k2 c2 e3⟩
theorem RR.behind {C : Ctx} {env : Env} {Hd H : Hp} {σ : L2.St} {i : Nat} {v v2 : V} {m m2 : MV} (R : Rep X.K C env Hd σ H) (r2 : RR X.K C env Hd σ H v2 m2) (ap : Apart v m v2 m2) : RR X.K C (env.set i (some m)) Hd (σ.set i (some v)) H v2 m2 := by
  cases m2 with
  | d x => exact r2
  | dk => exact r2
  | o c2 =>
    obtain ⟨q2, rfl, h1, h2, h3, h4⟩ := r2
    refine ⟨q2, rfl, h1, h2, h3, fun l ⟨⟨c, e⟩, s⟩ => ?_⟩
    rcases get_set e with ⟨rfl, z, hl⟩ | ⟨nl, z⟩
    · rw [List.getElem?_set_self (by rw [R.len]; exact hl)] at s
      cases z
      exact ap q2 c c2 rfl (Option.some.inj (Option.some.inj s)) rfl rfl
    · rw [List.getElem?_set_ne (fun z => nl z.symm)] at s
      exact h4 l ⟨⟨c, z⟩, s⟩
theorem s_par {i j : Nat} {x y : Str} {a b : Expr} {w u : Ex} {px py pt : Pos} {kt k2 pt2} (hc : X.calm = true) (hN : X.N.Nodup) (hi : X.N[i]? = some x) (hj : X.N[j]? = some y) (hij : i ≠ j) (hx : X.env.scope.names.lookup x = some .local) (hy : X.env.scope.names.lookup y = some .local)
    (ha : EV X E a w) (hb : EV X E b u) (hw : swappedStores [.Tuple [.Name x px, .Name y py] kt pt] (.Tuple [a, b] k2 pt2) X.env = pure (some [x, y])) (h1 : starEach [a, b] X.env = (false, eval a X.env) :: starEach [b] X.env := by rfl) (h2 : starEach [b] X.env = (false, eval b X.env) :: starEach [] X.env := by rfl)
    (hs : swapsWithSole [.Tuple [.Name x px, .Name y py] kt pt] (.Tuple [a, b] k2 pt2) pos.line X.env = pure false := by rfl) : SV X E (.Assign [.Tuple [.Name x px, .Name y py] kt pt] (.Tuple [a, b] k2 pt2) pos) (sPar i j w u) :=
  PS_imp (ps_par hc hN hi hj hij hx hy (pa_cons ha (pa_cons hb pa_nil h2) h1) hw hs) fun D σ H ⟨C, env, Hd, ok, R, h⟩ => ⟨C, env, Hd, ok, R, w.mono (fun _ z => z) (fun m e1 q v Hd1 H1 sm1 R1 rr => by
    obtain ⟨C', ok', eZ, R1', back⟩ := hold ok R1 rr
    refine ⟨C', e1, Hd1, ok', R1', ?_⟩
    rw [eZ]
    refine u.mono (fun _ z => z) (fun m2 e2 q v2 Hd2 H2 sm2 R2 rr2 => ?_) q
    obtain ⟨R3, r1, r2⟩ := back e2 Hd2 H2 sm2 R2
    obtain ⟨r2, ap⟩ := r2 v2 m2 rr2
    exact ⟨v, v2, rfl, q _ Hd2 H2 (sm1.trans sm2) ((R3.store r1).store (RR.behind R3 r2 ap))⟩) h⟩
/-- a target of any form -/
def sAsg (w : Ex) (g : Tgt) : Stm where
  rr Z e O := w.run Z e fun r e1 => asD r fun x => g.run x e1 O.nx
  mn hZ hO h := w.mono hZ (fun r e1 q => asD_mono (fun x q => g.mono hO.nx q) q) h
theorem s_asg {tg e : Expr} {w : Ex} {g : Tgt} (he : EV X E e w) (hg : GV X tg g) (hs : swapsWithSole [tg] e pos.line X.env = pure false := by rfl) (hw : swappedStores [tg] e X.env = pure none := by rfl)
    (h1 : (assignEach [tg] X.env).map (·.2) = [assign tg X.env] := by rfl) : SV X E (.Assign [tg] e pos) (sAsg w g) :=
  PS_imp (ps_asg he hg hs hw h1) fun D σ H ⟨C, env, Hd, ok, R, h⟩ => ⟨C, env, Hd, ok, R, w.mono (fun _ z => z) (fun m e1 q v Hd1 H1 sm1 R1 rr => by
    obtain ⟨Hd2, x, hx, sm2, R2, dq⟩ := RR.frz R1 rr q
    exact ⟨C, e1, Hd2, x, R2, dq, g.mono (fun e2 q σ2 Hd3 H3 sm3 R3 _ => q σ2 Hd3 H3 (sm1.trans (sm2.trans sm3)) R3) hx⟩) h⟩
end
end Mx

-- MxO
/-! Mx: more built-ins: [::-1], sorted, sum, min, max, isinstance, chains, insert, x += e. -/
namespace Mx
open PySem PySem.Spec PyProof.Rows L2
/-! ### t[::-1] -/
section
variable {prog : Program} {w : World} {A : Around} {E : Value → Shared → Prop} {s : Shared}
theorem adjust_rev (n : Nat) : Builtin.Slice.sliceAdjust none none (-1) (n : Int) = ((n : Int) - 1, -1) := by
  unfold Builtin.Slice.sliceAdjust
  simp
theorem places_rev (n : Nat) : Builtin.Slice.slicePlaces ((n : Int) - 1) (-1) (-1) = n := by
  unfold Builtin.Slice.slicePlaces
  have h1 : ¬ ((-1 : Int) > 0) := by omega
  simp only [h1, if_false]
  by_cases h : (n : Int) - 1 > -1
  · simp only [h, if_true]
    have : ((n : Int) - 1 - -1 - 1) / (- -1) + 1 = n := by
      rw [show (- -1 : Int) = 1 by decide, Int.ediv_one]
      omega
    rw [this]
    exact Int.toNat_natCast n
  · simp only [h, if_false]
    have : n = 0 := by omega
    subst this
    rfl
theorem sliceApplied_rev {sl : Addr} {vk : Value} {n : Nat} {Q : Int × Int × Nat → Shared → Prop} (hs : s.heap.IsSliceOf sl .none .none vk) (pk : IsPart vk (some (-1)))
    (h : Q ((n : Int) - 1, -1, n) s) : wpAny (model prog w) A (Builtin.Slice.sliceApplied (.ref sl) (pure (n : Int))) Q E s := by
  obtain ⟨os, hos, hcs, hds⟩ := id hs
  unfold Builtin.Slice.sliceApplied Builtin.Slice.sliceFields
  refine wpAny_bind (wpAny_bind (wpAny_field hos hds (x := .none) rfl (wpAny_bind (wpAny_field hos hds (x := .none) rfl (wpAny_bind (wpAny_field hos hds (x := vk) rfl (wpAny_pure ?_)))))))
  refine wpAny_bind (HT.slicePart_ pk ?_)
  show wpAny _ _ (if ((-1 : Int) == 0) = true then _ else _) _ _ s
  rw [if_neg (by decide)]
  refine wpAny_bind (HT.slicePart_ .none (wpAny_bind (HT.slicePart_ .none (wpAny_bind (wpAny_pure ?_)))))
  show wpAny _ _ (match Builtin.Slice.sliceAdjust none none (-1) (n : Int) with | (lo, hi) => pure (lo, (-1 : Int), Builtin.Slice.slicePlaces lo hi (-1))) _ _ s
  rw [adjust_rev]
  show wpAny _ _ (pure ((n : Int) - 1, (-1 : Int), Builtin.Slice.slicePlaces ((n : Int) - 1) (-1) (-1))) _ _ s
  rw [places_rev]
  exact wpAny_pure h
theorem pick_rev (xs : Array Value) : ((List.range xs.size).filterMap fun (m : Nat) => xs[(((xs.size : Int) - 1) + (m : Int) * (-1)).toNat]?).toArray = xs.toList.reverse.toArray := by
  have cong : ∀ {f g : Nat → Option Value} (l : List Nat), (∀ m ∈ l, f m = g m) → l.filterMap f = l.filterMap g := fun {f g} l => by
    induction l with
    | nil => intro _; rfl
    | cons a r ih =>
      intro h
      rw [List.filterMap_cons, List.filterMap_cons, h a (List.mem_cons_self ..), ih fun m hm => h m (List.mem_cons_of_mem _ hm)]
  have e : (List.range xs.size).filterMap (fun (m : Nat) => xs[(((xs.size : Int) - 1) + (m : Int) * (-1)).toNat]?) = ((List.range xs.size).map fun k => xs.size - 1 - k).filterMap (xs[·]?) := by
    rw [List.filterMap_map]
    refine cong _ fun m hm => ?_
    have := List.mem_range.mp hm
    show xs[(((xs.size : Int) - 1) + (m : Int) * (-1)).toNat]? = xs[xs.size - 1 - m]?
    rw [show (((xs.size : Int) - 1) + (m : Int) * (-1)).toNat = xs.size - 1 - m by omega]
  rw [e, PySem.W.krv_range, List.filterMap_reverse, PySem.W.krv_all]
theorem getItem_tuple_rev {t sl : Addr} {items : Array Value} {vk : Value} {Q : Value → Shared → Prop} (ht : IsTup s.heap t items) (hs : s.heap.IsSliceOf sl .none .none vk) (pk : IsPart vk (some (-1)))
    (h : Q (.ref s.heap.objs.size) { s with heap := s.heap.push { cls := .type "tuple", data := .seq items.toList.reverse.toArray } })
    (hsz : items.size ≤ sizeLine) : wpAny (model prog w) A (getItem (.ref t) (.ref sl)) Q E s := by
  have htake : sizeOk (.seq items.toList.reverse.toArray) := by
    show items.toList.reverse.toArray.size ≤ sizeLine
    rw [List.size_toArray, List.length_reverse, Array.length_toList]
    exact hsz
  obtain ⟨os, hos, hcs, hds⟩ := id hs
  have hTs : s.TypeIs (.ref sl) "slice" := ⟨os, hos, hcs⟩
  unfold getItem
  try with_reducible refine wpAny_holding ?_
  first | refine wpAny_bind (wpAny_pure ?_) | skip
  refine wpAny_bind (wpAny_sequenceKey ht.typeIs (by decide) ?_)
  refine wpAny_bind (wpAny_callSpecial?_slot (name := Str.ofString "__getitem__") ht.typeIs PyProof.Rows.slot_tuple_getitem
    (wpAny_call_entry PyProof.Rows.slot_tuple_getitem ht.typeIs entry_tuple_getitem ?_ (args_tuple_getitem _ _)))
  show wpAny _ _ (Builtin.Tuple.tupleItemsOf (.ref t) >>= _) _ _ s
  refine wpAny_bind (tupleItemsOf_ ht ?_)
  refine wpAny_bind (wpAny_typeOf hTs ?_)
  rw [if_pos (by decide)]
  refine wpAny_bind (sliceApplied_rev hs pk ?_)
  have hno : ¬ ((((items.size : Int) - 1) == 0 && (-1 : Int) == 1 && items.size == items.size) = true) := by
    intro q
    rw [Bool.and_eq_true, Bool.and_eq_true] at q
    exact absurd q.1.2 (by decide)
  show wpAny _ _ (if (((items.size : Int) - 1) == 0 && (-1 : Int) == 1 && items.size == items.size) = true then _ else _) _ _ s
  rw [if_neg hno, pick_rev]
  first
    | exact wpAny_bind (m := Builtin.Tuple.tupleExact _) (wpAny_newObj_type (wpAny_pure ⟨_, rfl, wpAny_pure h⟩) htake)
    | exact wpAny_bind (m := Builtin.Tuple.tupleExact _) (wpAny_newObj_type (wpAny_bind (wpAny_pure (wpAny_pure ⟨_, rfl, wpAny_pure h⟩))) htake)
    | exact wpAny_bind (wpAny_bind (m := Builtin.Tuple.tupleExact _) (wpAny_newObj_type (wpAny_pure (wpAny_pure ⟨_, rfl, wpAny_pure h⟩)) htake))
    | exact wpAny_bind (wpAny_bind (m := Builtin.Tuple.tupleExact _) (wpAny_newObj_type (wpAny_pure ⟨_, rfl, wpAny_pure h⟩) htake))
end
def rRev (K : PySem.W.Frag) : V → Hp → VK → Prop := fun x H Q => ∃ a xs, x = .ref a ∧ ((SqT K H a xs ∧ newT xs.reverse H Q) ∨ (SqL K H a xs ∧ ∀ p, H p = none → Q (.ref p) (upd H p (.lst xs.reverse))))
theorem Vals_rev : ∀ {xs : List V} {us : List Value}, Vals xs us → Vals xs.reverse us.reverse
  | _, _, .nil => .nil
  | _, _, .cons r k => by
    rw [List.reverse_cons, List.reverse_cons]
    exact (Vals_rev k).append (.cons r .nil)
section
variable {X : Cx} {e : Expr} {te : TE} {p2 p3 p4 pos : Pos} {j : Nat}
theorem pe_rev {kk} (he : PE X e te) : PE X (.Subscript e (.Slice none none (some (.UnaryOp .USub (.Constant (.int 1) kk p3) p4)) p2) pos) (fun σ H Q => te σ H fun x H1 => rRev X.K x H1 Q) := by
  refine ⟨fun pins s σ H Q I h => ?_⟩
  refine Subscript_ (thn (he.run pins s σ H _ I h) fun v s1 ⟨x, H1, I1, r1, q1⟩ => ?_)
  refine wpAny_Slice ?_
  rw [evalPart_none]
  refine wpAny_pure (wpAny_pure ?_)
  rw [evalPart_some]
  refine thn ((pe_un (pos := p4) un_neg (pe_int (i := 1) (j := kk) (pos := p3))).run pins s1 σ H1 (fun y H2 => y = .int (-1) ∧ H2 = H1) I1 ⟨1, rfl, rfl, rfl⟩) fun vk s2 ⟨y, H2, I2, r2, ey, eH⟩ => ?_
  subst ey eH
  obtain ⟨tk, rfl⟩ := (show ∃ t, vk = Value.int (-1) t from r2)
  have I4 : Inv X pins σ H2 { s2 with heap := s2.heap.push { cls := .type "slice", data := .fields #[.none, .none, .int (-1) tk] } } := I2.kept (t' := s2.toks) fun b ob q => Heap.get?_push_of_some _ q
  show wpAny (model X.prog X.w) X.A (subscriptTail e (.Slice none none (some (.UnaryOp .USub (.Constant (.int 1) kk p3) p4)) p2) v (.ref s2.heap.objs.size)) (EP X pins σ Q) X.xe { s2 with heap := s2.heap.push { cls := .type "slice", data := .fields #[.none, .none, .int (-1) tk] } }
  obtain ⟨a, xs, ex, q⟩ := q1
  subst ex
  obtain rfl := (show v = Value.ref a from r1)
  have hsl : ({ s2 with heap := s2.heap.push { cls := .type "slice", data := .fields #[.none, .none, .int (-1) tk] } } : Shared).heap.IsSliceOf s2.heap.objs.size .none .none (.int (-1) tk) := Heap.IsSliceOf.new ..
  rcases q with ⟨hx, q⟩ | ⟨hx, q⟩
  · obtain ⟨its, r, ht, hz⟩ := I4.tuple hx
    have hlen : its.toArray.size = xs.length := by rw [List.size_toArray]; exact r.length.symm
    refine tail_any (ops := [.ref a, .ref s2.heap.objs.size]) ht.typeIs PyProof.Rows.slot_tuple_getitem.lookup ?_ (by with_unfolding_all rfl)
    refine getItem_tuple_rev ht hsl (.int _ _) ?_ (by rw [hlen]; exact hz)
    exact Inv.tupF (t' := s2.toks) I4 (fun _ _ e => e) (Vals_rev r) (by rw [List.length_reverse]; exact hz) q
  · obtain ⟨its, r, ht, hz⟩ := I4.list hx
    have hlen := r.length
    refine tail_any (ops := [.ref a, .ref s2.heap.objs.size]) ht.isList.typeIs slot_list_getitem.lookup ?_ (by with_unfolding_all rfl)
    refine wpAny_getItem_list_slice ht.isList hsl .none .none (.int _ _) (by simp) ?_ (by rw [List.size_toArray] <;> omega)
    rw [PySem.W.krv_pick]
    refine ⟨.ref _, _, I4.laid (t' := s2.toks) (o := .lst xs.reverse) (fun b ob q => Heap.get?_push_of_some _ q) (Nat.le_refl _) ?_, rfl, q _ (I4.hok.fresh (Nat.le_refl _))⟩
    exact ⟨by rw [List.length_reverse]; exact hz, _, 0, Vals_rev r, Heap.get?_push_size _ rfl⟩
end
def pRev : P1 where
  run x Q := match x with
    | .tuple xs => Q (.d (.tuple xs.reverse))
    | .list xs => Q (.o (.lst xs.reverse))
    | _ => False
  mono {x Q Q'} hQ h := by
    cases x <;> first | exact hQ _ h | exact h
theorem DqAll.rev {K : PySem.W.Frag} {H : Hp} : ∀ {vs : List V} {ds : List D}, DqAll K H vs ds → DqAll K H vs.reverse ds.reverse
  | _, _, .nil => .nil
  | _, _, .cons d r => by
    rw [List.reverse_cons, List.reverse_cons]
    exact (DqAll.rev r).append (.one d)
section
variable [TheDeck]
variable {X : Cx} {E : XK} {pos : Pos} {a b c : Expr} {oa ob oc : Od} {p : Pos}
theorem s_rev : S1 X.K (fun v H Q => rRev X.K v H Q) pRev := by
  intro Hd H x v Qm Q e hx h k
  unfold pRev at h
  dsimp only at h
  split at h
  · obtain ⟨p, vs, rfl, q1, q2⟩ := hx.tupD.tup_inv
    exact ⟨p, vs, rfl, .inl ⟨(same_seqF e q1).seq, newT_res e q2.rev h k⟩⟩
  · obtain ⟨p, vs, rfl, q1, q2⟩ := hx.lst e
    exact ⟨p, vs, rfl, .inr ⟨SqL.of q1, fun t nt => k _ _ _ h (.newO nt ⟨_, upd_same, q2.rev⟩)⟩⟩
  · exact h.elim
theorem m_rev {kk} {p2 p3 p4 : Pos} (ha : OD X E a oa) : EV X E (.Subscript a (.Slice none none (some (.UnaryOp .USub (.Constant (.int 1) kk p3) p4)) p2) pos) (xOp1 pRev oa) :=
  PE_imp (pe_rev ha) fun _ _ _ h => op1_imp s_rev h
end
/-! ### sorted of whole numbers, a list or a tuple -/
section
variable {prog : Program} {w : World} {A : Around} {E : Value → Shared → Prop} {s : Shared}
theorem collect_tupleM {l : Addr} {vs : List Value} {Q : List Value → Shared → Prop} (hl : s.heap.IsTuple l vs.toArray)
    (h : Q vs { s with heap := (s.heap.push (seqObj "list" #[] 0)).update s.heap.objs.size (Obj.mapSeq (· ++ vs.toArray)) }) (hsz : vs.length ≤ sizeLine) :
    wpAny (model prog w) A (collect (.ref l)) Q E s := by
  obtain ⟨o, ho, hc, n, hd⟩ := id hl
  unfold collect
  refine wpAny_bind (wpAny_runValue (codeAny_builtin entry_proto_collect' ?_))
  show wpAny _ _ (do again (.builtin "list.__iadd__" ⟨[← newList [], .ref l], []⟩)) _ _ s
  refine wpAny_bind (wpAny_newList (wpAny_pure ⟨Code.quiet_builtin _ (by decide +kernel), codeAny_builtin entry_list_iadd' ?_⟩))
  show wpAny _ _ (Builtin.List.listExtendWith (.ref s.heap.objs.size) (.ref l) (.ref s.heap.objs.size)) _ _ { s with heap := s.heap.push (seqObj "list" #[] 0) }
  unfold Builtin.List.listExtendWith
  have ho' : (s.heap.push (seqObj "list" #[] 0)).get? l = some o := Heap.get?_push_of_some _ ho
  refine wpAny_bind (wpAny_typeOf (T := "tuple") ⟨o, ho', hc⟩ ?_)
  have ht : (Value.type "tuple" == Value.type "tuple") = true := by rfl
  rw [if_pos (by rw [ht]; simp)]
  refine wpAny_bind (listItems_at ho' hd ?_)
  refine wpAny_bind (listItems_at (xs := #[]) (n := 0) (Heap.get?_push_size _ rfl) rfl ?_)
  rw [if_neg (by simp)]
  refine wpAny_bind (listUpdate_at (xs := #[]) (n := 0) (Heap.get?_push_size _ rfl) rfl ?_ (Nat.zero_le _) (by show (#[] ++ vs.toArray).size ≤ sizeLine + 1; simp only [Array.size_append, List.size_toArray, List.length_nil]; omega))
  refine wpAny_pure ?_
  show wpAny (model prog w) A (do
      let o ← load s.heap.objs.size
      match o.data with
      | .seq xs _ => pure xs.toList
      | _ => unsupported "internal:collect") Q E { s with heap := (s.heap.push (seqObj "list" #[] 0)).update s.heap.objs.size (Obj.mapSeq (· ++ vs.toArray)) }
  refine wpAny_bind (wpAny_load (get?_update_seq (Heap.get?_push_size _ rfl) _) ?_)
  show wpAny _ _ (pure ((#[] : Array Value) ++ vs.toArray).toList) Q E _
  rw [show ((#[] : Array Value) ++ vs.toArray).toList = vs by simp]
  exact wpAny_pure h
open SrtO in
theorem sorted_ordT {l : Addr} {vs : List Value} {ltv : Value → Value → Bool} {Q : Value → Shared → Prop} (O : Swo ltv) (hl : s.heap.IsTuple l vs.toArray) (hz : vs.length ≤ sizeLine)
    (hS : 2 ≤ vs.length → ∀ (h₁ : Heap) (a : Addr), h₁.get? a = some (seqObj "list" vs.toArray 0) → (∀ b o, s.heap.get? b = some o → b ≠ a ∧ h₁.get? b = some o) → SortableO prog w A.in1.in1 { s with heap := h₁ } a vs ltv)
    (h : ∀ out : List Value, Srtd ltv out → Stb ltv out vs → Q (.ref (s.heap.objs.size + 1)) { s with heap := sortedAll s.heap vs out.toArray }) :
    wpAny (model prog w) A (call (.builtin "sorted") [.ref l]) Q E s := by
  refine Calls.call_function_entry kind_sorted plain_sorted entry_sorted (args_sorted1 _) ?_
  unfold Builtin.«sorted»
  refine wpAny_bind (m := checkCount "sorted" 1 1 _) (wpAny_pure ?_)
  refine wpAny_bind (collect_tupleM hl ?_ hz)
  refine wpAny_bind (wpAny_newList ?_ hz)
  have hsz : ((s.heap.push (seqObj "list" #[] 0)).update s.heap.objs.size (Obj.mapSeq (· ++ vs.toArray))).objs.size = s.heap.objs.size + 1 := by
    rw [Heap.size_update, size_push']
  have hoL : (((s.heap.push (seqObj "list" #[] 0)).update s.heap.objs.size (Obj.mapSeq (· ++ vs.toArray))).push (seqObj "list" vs.toArray 0)).get? (s.heap.objs.size + 1) = some (seqObj "list" vs.toArray 0) := by
    rw [← hsz]; exact Heap.get?_push_size _ rfl
  have keep : ∀ b o, s.heap.get? b = some o → b ≠ s.heap.objs.size + 1 ∧ (((s.heap.push (seqObj "list" #[] 0)).update s.heap.objs.size (Obj.mapSeq (· ++ vs.toArray))).push (seqObj "list" vs.toArray 0)).get? b = some o := fun b o q => by
    have hlt : b < s.heap.objs.size := Heap.lt_size q
    refine ⟨Nat.ne_of_lt (Nat.lt_succ_of_lt hlt), Heap.get?_push_of_some _ ?_⟩
    rw [Heap.get?_update_ne _ _ _ _ (Nat.ne_of_lt hlt)]
    exact Heap.get?_push_of_some _ q
  show wpAny _ _ _ _ _ { s with heap := ((s.heap.push (seqObj "list" #[] 0)).update s.heap.objs.size (Obj.mapSeq (· ++ vs.toArray))).push (seqObj "list" vs.toArray 0) }
  rw [hsz]
  refine wpAny_bind (wpAny_holding (wpAny_call_entry slot_list_sort ⟨_, hoL, rfl⟩ entry_list_sort (list_sort_ord O hoL hz (fun h2 => hS h2 _ _ hoL keep) fun out hs hb => ⟨_, rfl, ?_⟩) (args_list_sort _)))
  exact wpAny_pure ⟨_, rfl, h out hs hb⟩
end
def rSortM (K : PySem.W.Frag) : List V → Hp → VK → Prop := fun vs H Q => ∃ (k : Src) (a : Addr) (ns : List Int), vs = [V.ref a] ∧ SrcSq K H k a (ns.map V.int) ∧
  ∀ (ns' : List Int) (p : Addr), ns'.Perm ns → ns'.Pairwise (· ≤ ·) → H p = none → Q (.ref p) (upd H p (.lst (ns'.map V.int)))
theorem cr_sortM {X : Cx} : CallR X (.builtin "sorted") (rSortM X.K) := by
  intro pins s σ H vs us Q I r h
  obtain ⟨k, a, ns, rfl, hs, q⟩ := h
  cases k with
  | l => exact cr_sortedI pins s σ H _ us Q I r ⟨a, ns, rfl, hs, q⟩
  | t =>
    obtain ⟨its, rv, hl, hz⟩ := I.tuple hs
    rw [Vals.ref1 r]
    have hi := rv.ints
    have hl' : s.heap.IsTuple a its.toArray := hl
    refine sorted_ordT SrtO.swo_int hl' (by rw [← rv.length]; exact hz) (fun h2 h₁ a' _ _ => SrtO.ints_sortable hi h2) fun out h1 h2 => ?_
    obtain ⟨k1, k2, k3⟩ := SrtO.ints_out hi h1 h2
    obtain ⟨ep, he'⟩ := PyProof.Rows.sortedAll_at s.heap its out.toArray
    have hlen : ((out.map SrtO.iv).map V.int).length ≤ sizeLine := by
      rw [List.length_map, k2.length_eq]
      rw [List.length_map] at hz
      exact hz
    exact ⟨.ref _, upd H (s.heap.objs.size + 1) (.lst ((out.map SrtO.iv).map V.int)), I.laid (t' := s.toks) (fun _ _ => PyProof.Rows.sortedAll_old) (Nat.le_succ _) ⟨hlen, out, ep, vals_of_ints k1, he'⟩, rfl, q _ _ k2 k3 (I.hok.fresh (Nat.le_succ _))⟩
def pSortI : P1 where
  run x Q := ∃ ns : List Int, items x = some (ns.map PyData.int) ∧ ∀ ns' : List Int, ns'.Perm ns → ns'.Pairwise (· ≤ ·) → Q (.o (.lst (ns'.map PyData.int)))
  mono hQ h := let ⟨ns, h1, h2⟩ := h; ⟨ns, h1, fun ns' a b => hQ _ (h2 ns' a b)⟩
/-! ### sum, min, max of whole numbers, a list or a tuple -/
def rSumM (K : PySem.W.Frag) : List V → Hp → VK → Prop := fun vs H Q => ∃ (k : Src) (a : Addr) (ns : List Int), vs = [V.ref a] ∧ SrcSq K H k a (ns.map V.int) ∧ Q (.int ns.sum) H
theorem cr_sumM {X : Cx} (hc : X.calm = true) : CallR X (.builtin "sum") (rSumM X.K) := by
  intro pins s σ H vs us Q I r h
  obtain ⟨k, a, ns, rfl, hs, q⟩ := h
  cases k with
  | l => exact cr_sum hc pins s σ H _ us Q I r ⟨a, ns, rfl, hs, q⟩
  | t =>
    obtain ⟨its, rv, hl, hz⟩ := I.tuple hs
    rw [Vals.ref1 r]
    have hl' : s.heap.IsTuple a its.toArray := hl
    have hi := rv.ints
    obtain ⟨xs, e⟩ := hi.allInts.items
    have hn : numsOf (intItems xs).toList = ns := by rw [← e]; exact hi.numsOf
    rw [nums_intItems] at hn
    rw [e] at hl'
    refine PySem.W.ktm_sumG (I.ok.hd hc) hl' fun h' tk t' hk => ?_
    rw [preSum_eq, List.take_of_length_le (by simp), hn]
    exact ⟨.int _, H, I.kept hk, ⟨_, rfl⟩, q⟩
def pSumM : P1 where
  run x Q := ∃ ns : List Int, items x = some (ns.map PyData.int) ∧ Q (.d (.int ns.sum))
  mono hQ h := let ⟨ns, h1, h2⟩ := h; ⟨ns, h1, hQ _ h2⟩
theorem intsDp {K : PySem.W.Frag} {H : Hp} : ∀ ns : List Int, DqAll K H (ns.map V.int) (ns.map PyData.int) := DqAll.of_ints
theorem alikeInts (ns : List Int) : PySem.W.AlikeAll (ns.map PyData.int) := by
  constructor
  · intro x hx y hy
    obtain ⟨i, _, rfl⟩ := List.mem_map.mp hx
    obtain ⟨j, _, rfl⟩ := List.mem_map.mp hy
    simp [PySem.W.alike]
  · intro x hx
    obtain ⟨i, _, rfl⟩ := List.mem_map.mp hx
    intro z
    cases z
theorem depthInts : ∀ ns : List Int, PyData.depthAll (ns.map PyData.int) = 0
  | [] => rfl
  | x :: r => by rw [List.map_cons, PyData.depthAll, depthInts r]; rfl
theorem min_fold (n : Int) : ∀ ns : List Int, ns.foldl min n ∈ n :: ns ∧ ∀ y ∈ n :: ns, ns.foldl min n ≤ y
  | [] => ⟨List.mem_cons_self .., fun y hy => by rw [List.mem_singleton.mp hy]; exact Int.le_refl _⟩
  | m :: r => by
    obtain ⟨h1, h2⟩ := min_fold (min n m) r
    have h3 := h2 (min n m) (List.mem_cons_self ..)
    rw [List.foldl_cons]
    refine ⟨?_, fun y hy => ?_⟩
    · rcases List.mem_cons.mp h1 with e | e
      · rw [e]
        by_cases z : n ≤ m
        · rw [Int.min_eq_left z]; exact List.mem_cons_self ..
        · rw [Int.min_eq_right (by omega)]; exact List.mem_cons_of_mem _ (List.mem_cons_self ..)
      · exact List.mem_cons_of_mem _ (List.mem_cons_of_mem _ e)
    · rcases List.mem_cons.mp hy with rfl | hy
      · omega
      · rcases List.mem_cons.mp hy with rfl | hy
        · omega
        · exact h2 y (List.mem_cons_of_mem _ hy)
theorem max_fold (n : Int) : ∀ ns : List Int, ns.foldl max n ∈ n :: ns ∧ ∀ y ∈ n :: ns, y ≤ ns.foldl max n
  | [] => ⟨List.mem_cons_self .., fun y hy => by rw [List.mem_singleton.mp hy]; exact Int.le_refl _⟩
  | m :: r => by
    obtain ⟨h1, h2⟩ := max_fold (max n m) r
    have h3 := h2 (max n m) (List.mem_cons_self ..)
    rw [List.foldl_cons]
    refine ⟨?_, fun y hy => ?_⟩
    · rcases List.mem_cons.mp h1 with e | e
      · rw [e]
        by_cases z : n ≤ m
        · rw [Int.max_eq_right z]; exact List.mem_cons_of_mem _ (List.mem_cons_self ..)
        · rw [Int.max_eq_left (by omega)]; exact List.mem_cons_self ..
      · exact List.mem_cons_of_mem _ (List.mem_cons_of_mem _ e)
    · rcases List.mem_cons.mp hy with rfl | hy
      · omega
      · rcases List.mem_cons.mp hy with rfl | hy
        · omega
        · exact h2 y (List.mem_cons_of_mem _ hy)
def rMinM (K : PySem.W.Frag) : List V → Hp → VK → Prop := fun vs H Q => ∃ (k : Src) (a : Addr) (ns : List Int), vs = [V.ref a] ∧ SrcSq K H k a (ns.map V.int) ∧ 0 < ns.length ∧ ∀ m, m ∈ ns → (∀ y, y ∈ ns → m ≤ y) → Q (.int m) H
def rMaxM (K : PySem.W.Frag) : List V → Hp → VK → Prop := fun vs H Q => ∃ (k : Src) (a : Addr) (ns : List Int), vs = [V.ref a] ∧ SrcSq K H k a (ns.map V.int) ∧ 0 < ns.length ∧ ∀ m, m ∈ ns → (∀ y, y ∈ ns → y ≤ m) → Q (.int m) H
theorem intsReads {h : Heap} : ∀ {us : List Value} {ns : List Int}, IntsAre us ns → ReadsAll h us (ns.map PyData.int) []
  | _, _, .nil => .nil
  | _, _, .cons n t r => by
    exact ReadsAll.cons (h := h) (as := []) (bs := []) (Reads.int n t) (intsReads r)
theorem cr_minM {X : Cx} (hc : X.calm = true) (hu : X.A.units + 1 < cLine) : CallR X (.builtin "min") (rMinM X.K) := by
  intro pins s σ H vs us Q I r h
  obtain ⟨k, a, ns, rfl, hs, hne, q⟩ := h
  cases k with
  | l => exact cr_min hc pins s σ H _ us Q I r ⟨a, ns, rfl, hs, hne, q⟩
  | t =>
    obtain ⟨its, rv, hl, hz⟩ := I.tuple hs
    rw [Vals.ref1 r]
    have hl' : s.heap.IsTuple a its.toArray := hl
    have hi := rv.ints
    cases ns with
    | nil => exact absurd hne (Nat.lt_irrefl 0)
    | cons n ns =>
      refine PySem.W.min_tuple_data (I.ok.hd hc) hl' (x := .int n) (xs := ns.map PyData.int) (intsReads hi) (alikeInts (n :: ns)) (by rw [show PyData.int n :: ns.map PyData.int = (n :: ns).map PyData.int from rfl, depthInts]; exact hu) fun i v h' tk bs hv hr hk => ?_
      rw [PySem.W.minD_ints] at hr
      cases hr
      obtain ⟨h1, h2⟩ := min_fold n ns
      exact ⟨.int _, H, I.kept hk, ⟨_, rfl⟩, q _ h1 h2⟩
theorem cr_maxM {X : Cx} (hc : X.calm = true) (hu : X.A.units + 1 < cLine) : CallR X (.builtin "max") (rMaxM X.K) := by
  intro pins s σ H vs us Q I r h
  obtain ⟨k, a, ns, rfl, hs, hne, q⟩ := h
  cases k with
  | l => exact cr_max hc pins s σ H _ us Q I r ⟨a, ns, rfl, hs, hne, q⟩
  | t =>
    obtain ⟨its, rv, hl, hz⟩ := I.tuple hs
    rw [Vals.ref1 r]
    have hl' : s.heap.IsTuple a its.toArray := hl
    have hi := rv.ints
    cases ns with
    | nil => exact absurd hne (Nat.lt_irrefl 0)
    | cons n ns =>
      refine PySem.W.max_tuple_data (I.ok.hd hc) hl' (x := .int n) (xs := ns.map PyData.int) (intsReads hi) (alikeInts (n :: ns)) (by rw [show PyData.int n :: ns.map PyData.int = (n :: ns).map PyData.int from rfl, depthInts]; exact hu) fun i v h' tk bs hv hr hk => ?_
      rw [PySem.W.maxD_ints] at hr
      cases hr
      obtain ⟨h1, h2⟩ := max_fold n ns
      exact ⟨.int _, H, I.kept hk, ⟨_, rfl⟩, q _ h1 h2⟩
def pMinL : P1 where
  run x Q := ∃ ns : List Int, items x = some (ns.map PyData.int) ∧ ns ≠ [] ∧ ∀ m, m ∈ ns → (∀ y, y ∈ ns → m ≤ y) → Q (.d (.int m))
  mono hQ h := let ⟨ns, h1, h2, h3⟩ := h; ⟨ns, h1, h2, fun m a b => hQ _ (h3 m a b)⟩
def pMaxL : P1 where
  run x Q := ∃ ns : List Int, items x = some (ns.map PyData.int) ∧ ns ≠ [] ∧ ∀ m, m ∈ ns → (∀ y, y ∈ ns → y ≤ m) → Q (.d (.int m))
  mono hQ h := let ⟨ns, h1, h2, h3⟩ := h; ⟨ns, h1, h2, fun m a b => hQ _ (h3 m a b)⟩
section
variable [TheDeck]
variable {X : Cx} {E : XK} {pos : Pos} {a b c : Expr} {oa ob oc : Od} {p : Pos}
theorem Pq.src {K : PySem.W.Frag} {Hd H : Hp} {v : V} {x : D} {xs : List D} (p : Pq K Hd H v x) (e : Same Hd H) (h : Mx.items x = some xs) : ∃ k a vs, v = .ref a ∧ SrcSq K H k a vs ∧ DqAll K Hd vs xs := by
  obtain ⟨a, vs, rfl, q, d⟩ := p.items e h
  rcases q with q | q
  · exact ⟨.l, a, vs, rfl, q, d⟩
  · exact ⟨.t, a, vs, rfl, q, d⟩
theorem s_sortI : S1 X.K (fun v H Q => rSortM X.K [v] H Q) pSortI := by
  intro Hd H x v Qm Q e hx ⟨ns, hi, h⟩ k
  obtain ⟨kk, a, vs, rfl, q, d⟩ := hx.src e hi
  obtain rfl := d.ints
  exact ⟨kk, a, ns, rfl, q, fun ns' p h1 h2 np => k _ _ _ (h ns' h1 h2) (.newO np ⟨_, upd_same, DqAll.of_ints ns'⟩)⟩
theorem m_sortI (hg : Gl X "sorted") (hm : X.mg "sorted" = none) (ha : OD X E a oa) (he : starEach [a] X.env = [(false, eval a X.env)] := by rfl) : EV X E (.Call (.Name "sorted" p) [a] [] pos) (xOp1 pSortI oa) :=
  m_call1B cr_sortM s_sortI hg hm (by decide +kernel) ha (he := he)
theorem s_sumM : S1 X.K (fun v H Q => rSumM X.K [v] H Q) pSumM := by
  intro Hd H x v Qm Q e hx ⟨ns, hi, h⟩ k
  obtain ⟨kk, a, vs, rfl, q, d⟩ := hx.src e hi
  obtain rfl := d.ints
  exact ⟨kk, a, ns, rfl, q, dat_res (.int _) h k⟩
theorem m_sumM (hc : X.calm = true) (hg : Gl X "sum") (hm : X.mg "sum" = none) (ha : OD X E a oa) (he : starEach [a] X.env = [(false, eval a X.env)] := by rfl) : EV X E (.Call (.Name "sum" p) [a] [] pos) (xOp1 pSumM oa) :=
  m_call1B (cr_sumM hc) s_sumM hg hm (by decide +kernel) ha (he := he)
theorem s_minL : S1 X.K (fun v H Q => rMinM X.K [v] H Q) pMinL := by
  intro Hd H x v Qm Q e hx ⟨ns, hi, hne, h⟩ k
  obtain ⟨kk, a, vs, rfl, q, d⟩ := hx.src e hi
  obtain rfl := d.ints
  exact ⟨kk, a, ns, rfl, q, List.length_pos_iff.mpr hne, fun m h1 h2 => dat_res (.int _) (h m h1 h2) k⟩
theorem s_maxL : S1 X.K (fun v H Q => rMaxM X.K [v] H Q) pMaxL := by
  intro Hd H x v Qm Q e hx ⟨ns, hi, hne, h⟩ k
  obtain ⟨kk, a, vs, rfl, q, d⟩ := hx.src e hi
  obtain rfl := d.ints
  exact ⟨kk, a, ns, rfl, q, List.length_pos_iff.mpr hne, fun m h1 h2 => dat_res (.int _) (h m h1 h2) k⟩
theorem hu1 (hu : X.A.units + 64 < cLine) : X.A.units + 1 < cLine := by omega
theorem m_minL (hc : X.calm = true) (hu : X.A.units + 64 < cLine) (hg : Gl X "min") (hm : X.mg "min" = none) (ha : OD X E a oa) (he : starEach [a] X.env = [(false, eval a X.env)] := by rfl) : EV X E (.Call (.Name "min" p) [a] [] pos) (xOp1 pMinL oa) :=
  m_call1B (cr_minM hc (hu1 hu)) s_minL hg hm (by decide +kernel) ha (he := he)
theorem m_maxL (hc : X.calm = true) (hu : X.A.units + 64 < cLine) (hg : Gl X "max") (hm : X.mg "max" = none) (ha : OD X E a oa) (he : starEach [a] X.env = [(false, eval a X.env)] := by rfl) : EV X E (.Call (.Name "max" p) [a] [] pos) (xOp1 pMaxL oa) :=
  m_call1B (cr_maxM hc (hu1 hu)) s_maxL hg hm (by decide +kernel) ha (he := he)
end
end Mx

-- MxI
/-! Mx: keywords, the law's end. -/
namespace Mx
open PySem PySem.Spec PyProof.Rows L2
variable [TheDeck]
def reord {α : Type} (ix : List Nat) (l : List α) : List α := ix.filterMap fun i => l[i]?
/-- f(k = e, ..): t the keywords' values in the call's order, ix the places of the parameters in it -/
def xCallK (sp : Spec) (ix : List Nat) (n : Nat) (t : Args) : Ex where
  rr Z e Q := t.run Z e fun ms e1 => ms.length = n ∧ sp.run (fun _ => False) (reord ix ms) fun r => Q r e1
  mn hZ hQ h := t.mono hZ (fun ms e1 q => ⟨q.1, sp.mono (fun _ z => z) (fun r q => hQ _ _ q) q.2⟩) h
section
variable {X : Cx} {E : XK} {pos : Pos}
abbrev KV (X : Cx) (E : XK) (kws : List Keyword) (t : Args) : Prop := PK X kws (rA X E t)
theorem k_nil : KV X E [] aNil := PK_imp pk_nil fun σ H Q ⟨C, env, Hd, ok, R, h⟩ => h [] Hd H (Same.refl _) R .nil
theorem k_cons {e : Expr} {kws : List Keyword} {w : Ex} {t : Args} {nm : Option Str} {kpos : Pos} (h : EV X E e w) (r : KV X E kws t) : KV X E (⟨nm, e, kpos⟩ :: kws) (aCons w t) :=
  PK_imp (pk_cons h r) fun σ H Q ⟨C, env, Hd, ok, R, h⟩ => ⟨C, env, Hd, ok, R, w.mono (fun _ z => z) (fun m e1 q v Hd1 H1 sm1 R1 rr => by
    obtain ⟨Hd2, sm2, R2, ar⟩ := rr.arg R1
    refine ⟨C, e1, Hd2, ok, R2, t.mono (fun _ z => z) (fun ms e2 q vs Hd3 H3 sm3 R3 as => ?_) q⟩
    refine q (v :: vs) Hd3 H3 (sm1.trans (sm2.trans sm3)) R3 ?_
    have z := (ar [] [] .nil).mono sm3
    cases hm : asA m with
    | d x =>
      rw [hm] at z
      cases z with
      | d dq _ => exact .d dq as
    | dk =>
      rw [hm] at z
      cases z with
      | dk e _ => exact .dk e as
    | o c =>
      rw [hm] at z
      cases z) h⟩
theorem ArgsR.len {K : PySem.W.Frag} {C : Ctx} {Hd : Hp} {vs : List V} {ms : List MV} (h : ArgsR K C Hd vs ms) : vs.length = ms.length := by
  induction h with
  | nil => rfl
  | d _ _ ih => simp [ih]
  | dk _ _ ih => simp [ih]
theorem ArgsR.get1 {K : PySem.W.Frag} {C : Ctx} {Hd : Hp} {vs : List V} {ms : List MV} (h : ArgsR K C Hd vs ms) : ∀ {i : Nat} {m : MV}, ms[i]? = some m → ∃ v, vs[i]? = some v ∧ ∀ vs' ms', ArgsR K C Hd vs' ms' → ArgsR K C Hd (v :: vs') (m :: ms') := by
  induction h with
  | nil => intro i m h; simp at h
  | d dq r ih =>
    intro i m h
    cases i with
    | zero =>
      obtain rfl := Option.some.inj h
      exact ⟨_, rfl, fun _ _ q => .d dq q⟩
    | succ j => exact ih h
  | dk e r ih =>
    intro i m h
    cases i with
    | zero =>
      obtain rfl := Option.some.inj h
      exact ⟨_, rfl, fun _ _ q => .dk e q⟩
    | succ j => exact ih h
theorem ArgsR.reord {K : PySem.W.Frag} {C : Ctx} {Hd : Hp} {vs : List V} {ms : List MV} (h : ArgsR K C Hd vs ms) : ∀ ix : List Nat, ArgsR K C Hd (Mx.reord ix vs) (Mx.reord ix ms)
  | [] => .nil
  | i :: r => by
    have ih := ArgsR.reord h r
    unfold Mx.reord at ih ⊢
    rw [List.filterMap_cons, List.filterMap_cons]
    cases e : ms[i]? with
    | none =>
      have e2 : vs[i]? = none := List.getElem?_eq_none (by
        have := List.getElem?_eq_none_iff.mp e
        rw [h.len]; exact this)
      rw [e2]
      exact ih
    | some m =>
      obtain ⟨v, hv, k⟩ := h.get1 e
      rw [hv]
      exact k _ _ ih
theorem Vals.reord {vs : List V} {us : List Value} (h : Vals vs us) : ∀ ix : List Nat, Vals (Mx.reord ix vs) (Mx.reord ix us)
  | [] => .nil
  | i :: r => by
    have ih := Vals.reord h r
    unfold Mx.reord at ih ⊢
    rw [List.filterMap_cons, List.filterMap_cons]
    cases e : vs[i]? with
    | none =>
      rw [h.none_of e]
      exact ih
    | some v =>
      obtain ⟨u, hu, rv⟩ := h.get e
      rw [hu]
      exact .cons rv ih
/-- f(k = e, ..), keywords alone -/
theorem m_callK {k : Nat} {f : Addr} {fd : FuncData} {ps ks : List Str} {sp : Spec} {ix : List Nat} {n : Nat} {x : Str} {p : Pos} {kws : List Keyword} {t : Args} (F : FnG X.prog X.w X.K X.mg X.base CX0 k f fd ps (spM X.K X.mg sp)) (hr : Room k X.A) (hgd : X.A.guards = some []) (hg : Gl X x) (hm : X.mg x = some (.ref f))
    (hk : PySem.W.keepIn X.K (.ref f) = true) (hb : ∀ (s : Shared) (ws : List Value), ws.length = n → BindsTo s fd ⟨[], ks.zip ws⟩ (ps.zip (reord ix ws))) (hkw : KV X E kws t) (hall : (backToKw pos (keywordEach kws X.env)).all (·.1.isSome) = true := by rfl)
    (hks : (backToKw pos (keywordEach kws X.env)).filterMap (·.1) = ks := by rfl) (hdb : (x == ("__debug__" : Str)) = false := by decide) (hpl : ((backTo pos (starEach [] X.env)).any (·.1) || (backToKw pos (keywordEach kws X.env)).any (·.1.isNone)) = false := by rfl) :
    EV X E (.Call (.Name x p) [] kws pos) (xCallK sp ix n t) :=
  ⟨fun pins s σ H Q I h => by
    refine wpAny_Call_Name_kw (ld_glob I hg hm ?_ hdb)
    obtain ⟨C, env, Hd, ok, R, h⟩ := h
    refine PySem.W.callWith_KW0 (h₀ := X.base) I.ok.mod.kin hk hall ?_ hpl
    refine thn (hkw.run pos pins s σ H (fun vs H1 => vs.length = n ∧ spM X.K X.mg sp (reord ix vs) H1 Q E0) I ⟨C, env, Hd, ok, R, t.mono (fun _ z => z) (fun ms e1 ⟨hn, q⟩ vs Hd1 H1 sm1 R1 as => ?_) h⟩) fun ws s2 ⟨vs, H2, I2, rz, hn, q2⟩ => ⟨I2.kIn, endG ?_⟩
    · rw [hks]
      exact run_fnG F hr hgd pass0 I2 (hb s2 ws (by rw [← rz.length]; exact hn)) (Vals.reord rz ix) q2
    · refine ⟨by rw [as.len]; exact hn, fun _ => False, Hd1, C.dk, reord ix ms, R1.toCall, as.call.reord ix, fun _ _ _ _ _ _ _ z => z, sp.mono (fun _ z => z) (fun r q v Hd2 H2 B r2 => ?_) q⟩
      exact q v Hd2 H2 (sm1.trans B.d0) (R1.call B) (RetR.rr R1 r2)⟩
end

/-! ### the law's end -/
section
/-- the law's def keeps the promise «True, whatever the script» -/
def spTrue (K : PySem.W.Frag) : Sp := fun vs H Q _ => ∃ (a : Addr) (ns : List Int), vs = [.ref a] ∧ SqL K H a (ns.map V.int) ∧ ns.length ≤ 63 ∧ ∀ H', Q (.bl true) H'
section
variable {P : Program} {w : World} {K : PySem.W.Frag} {mg mb : Str → Option Value} {k : Nat} {fa a : Addr} {fd : FuncData} {t : Shared} {vs : List Value} {ns : List Int}
/-- from a heap in which at most the script is tracked -/
theorem law_core {H : Hp} (F : ∀ base : Heap, K.In base → base.Ns mainGlobals mg → FnG P w K mg base CX0 k fa fd ["script"] (spTrue K)) (hb : ∀ (s : Shared) (u : Value), BindsTo s fd ⟨[u], []⟩ [("script", u)])
    (KX : K.In t.heap) (hns : t.heap.Ns mainGlobals mg) (hmb : t.heap.Ns builtinsNs mb) (hbb : ∀ x : Str, x ≠ "__name__" → mb x = bootBuiltins x) (hlim : t.heap.NoLimit) (hg : t.gens = #[])
    (ha : t.heap.get? a = some { cls := .type "list", data := .seq vs.toArray }) (hl : ns.length ≤ 63) (hr : Room k callerA)
    (only : ∀ b u, H b = some u → b = a ∧ u = .frz { cls := .type "list", data := .seq vs.toArray } (.lst (ns.map V.int))) (hS : SqL K H a (ns.map V.int)) (ok : HOk P w H t.heap) (hK : H a ≠ none → K.lookup a = none) :
    codeAny (model P w) callerA (.call (.ref fa) ⟨[.ref a], []⟩) (fun r s' => r = .ok (.ret (.bool true)) ∧ OldK t.heap s'.heap ∧ s'.os = t.os ∧ AllBare s'.gens) t := by
  have off : ∀ {b : Addr} {x : Obj}, t.heap.get? b = some x → (b = a → H a = none) → (hidT t.heap H).get? b = some x := fun {b x} e n => hidT_get e (by
    cases q : H b with
    | none => rfl
    | some u =>
      obtain ⟨rfl, _⟩ := only b u q
      rw [n rfl] at q
      cases q)
  have ns' : ∀ {b : Addr} {m : Str → Option Value}, t.heap.Ns b m → (hidT t.heap H).Ns b m := fun {b m} ⟨x, es, ep, e, d, r⟩ => ⟨x, es, ep, off e (fun z => by
    subst z
    rw [ha] at e
    cases e
    cases d), d, r⟩
  have kin : K.In (hidT t.heap H) := fun b x e => off (KX b x e) fun z => by
    subst z
    cases q : H b with
    | none => rfl
    | some u =>
      have := hK (by rw [q]; exact fun z => by cases z)
      rw [this] at e
      cases e
  have md : Mod K mg (hidT t.heap H) := ⟨kin, ns' hns, ⟨mb, ns' hmb, hbb⟩, let ⟨mc, h1, h2⟩ := hlim; ⟨mc, ns' h1, h2⟩⟩
  have e0 : Env0 P w K mg (hidT t.heap H) callerA [] t H := ⟨rfl, md, fun b x e => of_hidT e, Nat.le_of_eq (hidT_size _ _), trivial, fun b z => (List.not_mem_nil (show b ∈ ([] : List Addr) from z)).elim, ok, .of_eq hg⟩
  refine codeAny_mono ((F _ kin (ns' hns)).run callerA [] t H ⟨[.ref a], []⟩ [.ref a] [.ref a] (fun v _ => v = .bl true) (fun _ _ _ => False) hr rfl e0 (hb t (.ref a)) (.cons rfl .nil) ⟨a, ns, rfl, hS, hl, fun _ => rfl⟩) fun r s' h => ?_
  match r, h with
  | .error e, h => exact False.elim h
  | .ok .next, h => exact False.elim h
  | .ok .brk, h => exact False.elim h
  | .ok .cont, h => exact False.elim h
  | .ok (.ret u), h =>
    obtain ⟨v, H', os, bare, un, ok', rv, rfl⟩ := h
    obtain rfl := (show u = Value.bool true from rv)
    refine ⟨rfl, OldK.of_keep fun b x e => ?_, os, bare⟩
    cases q : H b with
    | none => exact un.keep b x e q (fun z => (List.not_mem_nil (show b ∈ ([] : List Addr) from z)).elim) List.not_mem_nil
    | some u =>
      obtain ⟨rfl, rfl⟩ := only b u q
      obtain ⟨g1, _⟩ := ok b _ q
      obtain ⟨g2, _⟩ := ok' b _ (un.frzs b _ _ q)
      rw [g1] at e
      cases e
      exact g2
theorem law_run (F : ∀ base : Heap, K.In base → base.Ns mainGlobals mg → FnG P w K mg base CX0 k fa fd ["script"] (spTrue K)) (hb : ∀ (s : Shared) (u : Value), BindsTo s fd ⟨[u], []⟩ [("script", u)])
    (KX : K.In t.heap) (hns : t.heap.Ns mainGlobals mg) (hmb : t.heap.Ns builtinsNs mb) (hbb : ∀ x : Str, x ≠ "__name__" → mb x = bootBuiltins x) (hlim : t.heap.NoLimit) (hg : t.gens = #[])
    (ha : t.heap.get? a = some { cls := .type "list", data := .seq vs.toArray }) (hi : IntsAre vs ns) (hl : ns.length ≤ 63) (hr : Room k callerA) :
    codeAny (model P w) callerA (.call (.ref fa) ⟨[.ref a], []⟩) (fun r s' => r = .ok (.ret (.bool true)) ∧ OldK t.heap s'.heap ∧ s'.os = t.os ∧ AllBare s'.gens) t := by
  have rv : Vals (ns.map V.int) vs := vals_ints hi
  have hz : ns.length ≤ sizeLine := Nat.le_trans hl (by rw [sizeLine_eq]; decide)
  by_cases hk : K.lookup a = none
  · have at_ : (fun b => if b = a then some (HO.frz { cls := .type "list", data := .seq vs.toArray } (.lst (ns.map V.int))) else none : Hp) a = some (.frz { cls := .type "list", data := .seq vs.toArray } (.lst (ns.map V.int))) := if_pos rfl
    refine law_core (H := fun b => if b = a then some (.frz { cls := .type "list", data := .seq vs.toArray } (.lst (ns.map V.int))) else none) F hb KX hns hmb hbb hlim hg ha hl hr (fun b u q => ?_) (.inl (.inr ⟨_, at_⟩)) (fun b u q => ?_) (fun _ => hk)
    · by_cases e : b = a
      · exact ⟨e, (Option.some.inj ((if_pos e).symm.trans q)).symm⟩
      · exact nomatch (if_neg e).symm.trans q
    · by_cases e : b = a
      · have z := Option.some.inj ((if_pos e).symm.trans q)
        subst e
        subst z
        exact ⟨ha, by rw [List.length_map]; exact hz, vs, _, rv, ha⟩
      · exact nomatch (if_neg e).symm.trans q
  · obtain ⟨o, ho⟩ := Option.ne_none_iff_exists'.mp hk
    have e := KX a o ho
    rw [ha] at e
    cases e
    exact law_core (H := fun _ => none) F hb KX hns hmb hbb hlim hg ha hl hr (fun b u q => by cases q)
      (.inr ⟨_, vs.toArray, _, ho, rfl, rfl, rfl, by rw [List.size_toArray, hi.length]; exact hz, rv⟩) (fun b u q => by cases q) (fun z => absurd rfl z)
/-- the goal that the head leaves -/
theorem walk_G {l : PySem.W.OpenLaw} {q : Program} {loose : List Str} {XP : (Str → Option Value) → Heap → Prop} {YP : World → Heap → Prop} {d : DefRec} {K : PySem.Params → PySem.W.Frag}
    (hn : l.most = some 63) (hdf : d.params.defaults = []) (hr : Room k callerA) (hY : ∀ (w : World) (h : Heap), YP w h → (K w.params).In h)
    (F : ∀ (w : World) (mg : Str → Option Value) (fa : Addr) (h : Heap), (K w.params).In h → h.Ns mainGlobals mg → mg d.name = some (.ref fa) →
      ∃ fd : FuncData, (∀ (s : Shared) (u : Value), BindsTo s fd ⟨[u], []⟩ [("script", u)]) ∧ ∀ base : Heap, (K w.params).In base → base.Ns mainGlobals mg → FnG l.prog w (K w.params) mg base CX0 k fa fd ["script"] (spTrue (K w.params))) :
    PySem.W.WalkO q loose XP YP l.row.toRowW d [] (fun f vs => PySem.call f vs) :=
  Att.attach_call hn hdf fun w s₀ s₁ mg mb fa o pm cd doc a vs ns G Y ho hd hcd hmg hobj hints hlen hg => by
    obtain ⟨fd, hb, hF⟩ := F w mg fa _ (hY w _ Y) G.T.g hmg
    exact law_run hF hb (hY w _ Y) G.T.g G.T.b G.T.builtins G.T.nolimit hg hobj hints hlen hr
end
end
end Mx

-- MxJ
/-! Mx: the rules in the forms that are written. -/
namespace Mx
open PySem PySem.Spec PyProof.Rows L2
variable [TheDeck]
def P2.or2 (f g : P2) : P2 where
  run x y Q := f.run x y Q ∨ g.run x y Q
  mono h q := q.elim (fun q => .inl (f.mono h q)) (fun q => .inr (g.mono h q))
/-- + of ints, texts, tuples, lists -/
def qAdd : P2 where
  run x y Q := match x, y with
    | .int a, .int b => Q (.d (.int (a + b)))
    | .str a, .str b => a.length + b.length ≤ 16777216 ∧ Q (.d (.str (a ++ b)))
    | .tuple a, .tuple b => a.length + b.length ≤ 16777216 ∧ Q (.d (.tuple (a ++ b)))
    | .list a, .list b => a.length + b.length ≤ 16777216 ∧ Q (.o (.lst (a ++ b)))
    | _, _ => False
  mono h q := by
    split at q <;> first | exact h _ q | exact ⟨q.1, h _ q.2⟩ | exact q
def qMul : P2 where
  run x y Q := match x, y with
    | .int a, .int b => CMul a b ∧ Q (.d (.int (a * b)))
    | .tuple a, .int k => (-(2 ^ 63) ≤ k ∧ k < 2 ^ 63) ∧ a.length * k.toNat ≤ 1000000 ∧ Q (.d (.tuple (List.replicate k.toNat a).flatten))
    | .list a, .int k => (-(2 ^ 63) ≤ k ∧ k < 2 ^ 63) ∧ a.length * k.toNat ≤ 1000000 ∧ Q (.o (.lst (List.replicate k.toNat a).flatten))
    | _, _ => False
  mono h q := by
    split at q <;> first | exact ⟨q.1, h _ q.2⟩ | exact ⟨q.1, q.2.1, h _ q.2.2⟩ | exact q
section
variable {X : Cx} {E : XK} {pos p : Pos} {a b : Expr} {oa ob : Od}
theorem S2.or {K : PySem.W.Frag} {r r' : R2} {f g h : P2} (s : S2 K r f) (t : S2 K r' g) (k : ∀ x y Q, h.run x y Q → f.run x y Q ∨ g.run x y Q) : S2 K (fun x y H Q => r x y H Q ∨ r' x y H Q) h := by
  intro Hd H x y v u Qm Q e hx hy q kk
  rcases k x y Qm q with q | q
  · exact .inl (s Hd H x y v u Qm Q e hx hy q kk)
  · exact .inr (t Hd H x y v u Qm Q e hx hy q kk)
theorem q_add (ha : OD X E a oa) (hb : OD X E b ob) : EV X E (.BinOp a .Add b pos) (xOp2 qAdd oa ob) :=
  m_op (op_addM.or op_cat) (S2.or s_add s_cat (by
    intro x y Q h
    cases x <;> cases y <;> first | exact .inl h | exact .inr h | exact False.elim h)) ha hb
theorem q_mul (ha : OD X E a oa) (hb : OD X E b ob) : EV X E (.BinOp a .Mult b pos) (xOp2 qMul oa ob) :=
  m_op (op_mul.or (op_mulF.or op_rep)) (S2.or (s_I (g := fun i j => .int (i * j)) fun _ _ _ _ => .int _) (S2.or s_mulT s_mulL (h := P2.or2 pMulT pMulL) fun x y Q h => h) (by
    intro x y Q h
    cases x <;> cases y <;> first | exact .inl h | exact .inr (.inl h) | exact .inr (.inr h) | exact False.elim h)) ha hb
/-! tests -/
theorem t_eq (hu : X.A.units + 64 < cLine) (ha : OD X E a oa) (hb : OD X E b ob) : TV X E (.Compare a [.Eq] [b] pos) (Mx.tB (xOp2 pEq oa ob)) := t_cmp (op_eq.or (op_eqD hu)) s_eq ha hb (nomark _)
theorem t_ne (hu : X.A.units + 64 < cLine) (ha : OD X E a oa) (hb : OD X E b ob) : TV X E (.Compare a [.NotEq] [b] pos) (Mx.tB (xOp2 pNe oa ob)) := t_cmp (op_ne.or (op_neD hu)) s_ne ha hb (nomark _)
theorem t_lt (ha : OD X E a oa) (hb : OD X E b ob) : TV X E (.Compare a [.Lt] [b] pos) (Mx.tB (xOp2 pLt oa ob)) := t_cmp op_lt (s_I0 fun _ _ _ _ => .bl _) ha hb (nomark _)
theorem t_le (ha : OD X E a oa) (hb : OD X E b ob) : TV X E (.Compare a [.LtE] [b] pos) (Mx.tB (xOp2 pLe oa ob)) := t_cmp op_le (s_I0 fun _ _ _ _ => .bl _) ha hb (nomark _)
theorem t_gt (ha : OD X E a oa) (hb : OD X E b ob) : TV X E (.Compare a [.Gt] [b] pos) (Mx.tB (xOp2 pGt oa ob)) := t_cmp op_gt (s_I0 fun _ _ _ _ => .bl _) ha hb (nomark _)
theorem t_ge (ha : OD X E a oa) (hb : OD X E b ob) : TV X E (.Compare a [.GtE] [b] pos) (Mx.tB (xOp2 pGe oa ob)) := t_cmp op_ge (s_I0 fun _ _ _ _ => .bl _) ha hb (nomark _)
theorem t_in (ha : OD X E a oa) (hb : OD X E b ob) (hm : behindInMarks .In b = false := by rfl) : TV X E (.Compare a [.In] [b] pos) (Mx.tB (xOp2 (pIn false) oa ob)) := t_cmp op_in_seq (s_in false) ha hb hm
theorem t_notin (ha : OD X E a oa) (hb : OD X E b ob) (hm : behindInMarks .NotIn b = false := by rfl) : TV X E (.Compare a [.NotIn] [b] pos) (Mx.tB (xOp2 (pIn true) oa ob)) := t_cmp op_notIn_seq (s_in true) ha hb hm
theorem t_isN (ha : OD X E a oa) (hb : OD X E b ob) : TV X E (.Compare a [.Is] [b] pos) (Mx.tB (xOp2 pIsN oa ob)) := t_cmp op_isN s_isN ha hb (nomark _)
theorem t_notN (ha : OD X E a oa) (hb : OD X E b ob) : TV X E (.Compare a [.IsNot] [b] pos) (Mx.tB (xOp2 pNotN oa ob)) := t_cmp op_notN s_notN ha hb (nomark _)
theorem truth_of {K : PySem.W.Frag} {Hd H : Hp} {v : V} {x : D} (h : Pq K Hd H v x) (e : Same Hd H) (hs : ∀ s, x = .str s → s.length ≤ 16777216) (nd : ∀ kvs, x ≠ .dict kvs) : TruV K v H (truthD x) := by
  have em : ∀ {vs : List V} {xs : List D}, DqAll K Hd vs xs → vs.isEmpty = xs.isEmpty := fun q => by cases q <;> rfl
  cases x with
  | none => rw [h.none]; rfl
  | bool b => rw [h.bool]; rfl
  | int i => rw [h.int]; rfl
  | str s =>
    rw [h.str]
    refine ⟨by rw [sizeLine_eq]; exact hs s rfl, ?_⟩
    show (s.length != 0) = ((s.length : Int) != 0)
    rw [Bool.eq_iff_iff]
    simp [bne_iff_ne]
  | list xs =>
    obtain ⟨a, vs, rfl, h1, h2⟩ := h.lst e
    exact .inl ⟨vs, SqL.of h1, by rw [em h2]; rfl⟩
  | tuple xs =>
    obtain ⟨a, vs, rfl, h1, h2⟩ := h.tup e
    exact .inr (.inl ⟨vs, h1.seq, by rw [em h2]; rfl⟩)
  | dict kvs => exact absurd rfl (nd kvs)
/-- the truth of a value that is no dict -/
def tTru (a : Od) : Tst where
  rr Z e Q := a.run Z e fun g e1 => ∃ x, g e1 = some x ∧ (∀ s, x = .str s → s.length ≤ 16777216) ∧ (∀ kvs, x ≠ .dict kvs) ∧ Q (truthD x) e1
  mn hZ hQ h := a.mono hZ (fun g e1 ⟨x, h1, h2, h3, h4⟩ => ⟨x, h1, h2, h3, hQ _ _ h4⟩) h
theorem t_tru (ha : OD X E a oa) (he : ∀ whole, isTrue a X.env whole = (do let v ← whole; standAt a.pos; holding [v] (truthy v)) := by intro _; rfl) : TV X E a (Mx.tTru oa) :=
  PT_imp (pt_truth ha he) fun σ H Q ⟨C, env, Hd, ok, R, h⟩ => ⟨C, env, Hd, ok, R, oa.mono (fun _ z => z) (fun g e1 ⟨x, hx, hs, nd, q⟩ v Hd1 H1 sm1 R1 ac =>
    ⟨_, truth_of (ac e1 Hd1 H1 (Same.refl _) R1 x hx) R1.dh hs nd, q Hd1 H1 sm1 R1⟩) h⟩
/-! own defs, with all that a call wants; ko: the orders of keywords in which it is called -/
structure Cal (P : Program) (w : World) (K : PySem.W.Frag) (mg : Str → Option Value) (base : Heap) (k : Nat) (x : Str) (ps : List Str) (ko : List (List Str × List Nat)) (sp : Spec) : Prop where
  ex : ∃ f fd, FnG P w K mg base CX0 k f fd ps (spM K mg sp) ∧ mg x = some (.ref f) ∧ PySem.W.keepIn K (.ref f) = true ∧ Binds K fd ps [] ∧
    ∀ q ∈ ko, ∀ (s : Shared) (ws : List Value), ws.length = ps.length → BindsTo s fd ⟨[], q.1.zip ws⟩ (ps.zip (reord q.2 ws))
variable {k j : Nat} {x : Str} {ps ks : List Str} {ko : List (List Str × List Nat)} {ix : List Nat} {sp : Spec} {e : Expr} {es : List Expr} {kws : List Keyword} {t : Args}
theorem c_call (c : Cal X.prog X.w X.K X.mg X.base j x ps ko sp) (hr : Room j X.A) (hgd : X.A.guards = some []) (hg : Gl X x) (ha : AV X E (e :: es) t) (hdb : (x == ("__debug__" : Str)) = false := by decide)
    (he : starEach (e :: es) X.env = (false, eval e X.env) :: starEach es X.env := by rfl) (hpl : (backTo pos (starEach es X.env)).any (·.1) = false := by rfl) : EV X E (.Call (.Name x p) (e :: es) [] pos) (xCall sp t) := by
  obtain ⟨f, fd, F, hm, hk, hb, _⟩ := c.ex
  exact m_call F hr hgd hg hm hk hb ha hdb he hpl
theorem c_call0 (c : Cal X.prog X.w X.K X.mg X.base j x ps ko sp) (hr : Room j X.A) (hgd : X.A.guards = some []) (hg : Gl X x) (hdb : (x == ("__debug__" : Str)) = false := by decide) : EV X E (.Call (.Name x p) [] [] pos) (xCall sp aNil) := by
  obtain ⟨f, fd, F, hm, hk, hb, _⟩ := c.ex
  exact m_call0 F hr hgd hg hm hk hb hdb
theorem c_callK (c : Cal X.prog X.w X.K X.mg X.base j x ps ko sp) (hq : (ks, ix) ∈ ko) (hr : Room j X.A) (hgd : X.A.guards = some []) (hg : Gl X x) (hkw : KV X E kws t) (hall : (backToKw pos (keywordEach kws X.env)).all (·.1.isSome) = true := by rfl)
    (hks : (backToKw pos (keywordEach kws X.env)).filterMap (·.1) = ks := by rfl) (hdb : (x == ("__debug__" : Str)) = false := by decide) (hpl : ((backTo pos (starEach [] X.env)).any (·.1) || (backToKw pos (keywordEach kws X.env)).any (·.1.isNone)) = false := by rfl) :
    EV X E (.Call (.Name x p) [] kws pos) (xCallK sp ix ps.length t) := by
  obtain ⟨f, fd, F, hm, hk, hb, hbk⟩ := c.ex
  exact m_callK F hr hgd hg hm hk (hbk _ hq) hkw hall hks hdb hpl
end
end Mx

-- MxP
/-! Mx: isinstance, chains, min and max of two, insert, x += e. -/
namespace Mx
open PySem PySem.Spec PyProof.Rows L2
/-! ### isinstance(x, T) -/
def tyD : D → String
  | .none => "NoneType"
  | .bool _ => "bool"
  | .int _ => "int"
  | .str _ => "str"
  | .list _ => "list"
  | .tuple _ => "tuple"
  | .dict _ => "dict"
/-- of the built-in classes that are asked for, True is an int besides -/
def isB (t T : String) : Bool := t == T || (t == "bool" && T == "int")
def pIsi (T : String) : P1 where
  run x Q := Q (.d (.bool (isB (tyD x) T)))
  mono hQ h := hQ _ h
def okTy (T : String) : Bool := ["NoneType", "bool", "int", "str", "list", "tuple", "dict"].all fun t => kitB t T == some (isB t T)
section
variable [TheDeck]
variable {X : Cx} {E : XK} {pos : Pos} {a b c : Expr} {oa ob oc : Od} {p p2 : Pos}
theorem SqF.tyX {K : PySem.W.Frag} {H : Hp} {q : Addr} {vs : List V} (h : SqF K H q vs) : TyX K H (.ref q) (.type "tuple") := by
  rcases h with ⟨o, e, _⟩ | ⟨o, its, n, h1, h2, _⟩
  · exact .fTuple e
  · exact .kTuple h1 h2
theorem Pq.tyX {K : PySem.W.Frag} {Hd H : Hp} {v : V} {x : D} (e : Same Hd H) (h : Pq K Hd H v x) : TyX K H v (.type (tyD x)) := by
  rcases h with h | ⟨q, c, rfl, rfl, h⟩
  · cases h with
    | non => exact .base .non
    | bl b => exact .base (.bl b)
    | int i => exact .base (.int i)
    | str s => exact .base (.str s)
    | lst h1 h2 => exact .base (.lst (e _ _ h1))
    | tup h1 h2 => exact SqF.tyX (same_seqF e h1)
    | dic h1 h2 =>
      rcases h1 with h1 | ⟨o, h1⟩
      · exact .base (.dK (e _ _ h1))
      · exact .fDict (e _ _ h1)
  · cases c with
    | lst xs =>
      obtain ⟨vs, h1, h2⟩ := h
      exact .base (.lst h1)
    | dct kvs =>
      obtain ⟨vs, h1, h2⟩ := h
      exact .base (.dK h1)
theorem m_isi {x : Str} {T : String} (hT : okTy T = true) (hg : Gl X "isinstance") (hm : X.mg "isinstance" = none) (hg2 : Gl X x) (hm2 : X.mg x = none) (hv2 : bootBuiltins x = some (.type T)) (ha : OD X E a oa)
    (hn2 : x ≠ "__name__" := by decide) (hd2 : (x == ("__debug__" : Str)) = false := by decide)
    (he : starEach [a, .Name x p2] X.env = (false, eval a X.env) :: starEach [.Name x p2] X.env := by rfl) (he2 : starEach [.Name x p2] X.env = [(false, eval (.Name x p2) X.env)] := by rfl) (hpl : (backTo pos (starEach [.Name x p2] X.env)).any (·.1) = false := by rfl) :
    EV X E (.Call (.Name "isinstance" p) [a, .Name x p2] [] pos) (xOp1 (pIsi T) oa) :=
  PE_imp (pe_callB call_isi hg hm (by decide +kernel) (pa_cons ha (pa_cons (pe_bltn (v := .ty T) hg2 hm2 hv2 rfl hn2 hd2) pa_nil he2) he) (by decide) (by decide) he hpl) fun σ H Q h =>
    op1_imp (r := fun v H Q => rIsi X.K [v, .ty T] H Q) (fun Hd H x v Qm Q e hx h k => by
      refine ⟨v, .ty T, .type (tyD x), .type T, isB (tyD x) T, rfl, .ty T, hx.tyX e, kit_ty ?_, dat_res (.bl _) h k⟩
      have := List.all_eq_true.mp hT (tyD x) (by cases x <;> simp [tyD])
      exact eq_of_beq this) h
/-! ### two operands, by a call -/
theorem m_call2B {x : Str} {id : String} {r : List V → Hp → VK → Prop} {f2 : P2} (hc : CallR X (.builtin id) r) (s : S2 X.K (fun v u H Q => r [v, u] H Q) f2) (hg : Gl X x) (hm : X.mg x = none) (hv : bootBuiltins x = some (.builtin id)) (ha : OD X E a oa) (hb : OD X E b ob) (hn : x ≠ "__name__" := by decide) (hdb : (x == ("__debug__" : Str)) = false := by decide)
    (he : starEach [a, b] X.env = (false, eval a X.env) :: starEach [b] X.env := by rfl) (he2 : starEach [b] X.env = [(false, eval b X.env)] := by rfl) (hpl : (backTo pos (starEach [b] X.env)).any (·.1) = false := by rfl) : EV X E (.Call (.Name x p) [a, b] [] pos) (xOp2 f2 oa ob) :=
  PE_imp (pe_callB hc hg hm hv (pa_cons ha (pa_cons hb pa_nil he2) he) hn hdb he hpl) fun _ _ _ h => op2_imp s h
def pMin2 : P2 := pI0 fun i j => .int (if j < i then j else i)
def pMax2 : P2 := pI0 fun i j => .int (if j > i then j else i)
theorem s_min2 : S2 X.K (fun v u H Q => ∃ i j, [v, u] = [.int i, .int j] ∧ Q (.int (if j < i then j else i)) H) pMin2 := by
  intro Hd H x y v u Qm Q e hx hy h k
  unfold pMin2 pI0 at h
  dsimp only at h
  split at h
  · obtain rfl := hx.int
    obtain rfl := hy.int
    exact ⟨_, _, rfl, dat_res (.int _) h k⟩
  · exact h.elim
theorem s_max2 : S2 X.K (fun v u H Q => ∃ i j, [v, u] = [.int i, .int j] ∧ Q (.int (if j > i then j else i)) H) pMax2 := by
  intro Hd H x y v u Qm Q e hx hy h k
  unfold pMax2 pI0 at h
  dsimp only at h
  split at h
  · obtain rfl := hx.int
    obtain rfl := hy.int
    exact ⟨_, _, rfl, dat_res (.int _) h k⟩
  · exact h.elim
theorem m_min2 (hc : X.calm = true) (hg : Gl X "min") (hm : X.mg "min" = none) (ha : OD X E a oa) (hb : OD X E b ob) (he : starEach [a, b] X.env = (false, eval a X.env) :: starEach [b] X.env := by rfl) (he2 : starEach [b] X.env = [(false, eval b X.env)] := by rfl) (hpl : (backTo pos (starEach [b] X.env)).any (·.1) = false := by rfl) :
    EV X E (.Call (.Name "min" p) [a, b] [] pos) (xOp2 pMin2 oa ob) := m_call2B (call_min2 hc) s_min2 hg hm (by decide +kernel) ha hb (he := he) (he2 := he2) (hpl := hpl)
theorem m_max2 (hc : X.calm = true) (hg : Gl X "max") (hm : X.mg "max" = none) (ha : OD X E a oa) (hb : OD X E b ob) (he : starEach [a, b] X.env = (false, eval a X.env) :: starEach [b] X.env := by rfl) (he2 : starEach [b] X.env = [(false, eval b X.env)] := by rfl) (hpl : (backTo pos (starEach [b] X.env)).any (·.1) = false := by rfl) :
    EV X E (.Call (.Name "max" p) [a, b] [] pos) (xOp2 pMax2 oa ob) := m_call2B (call_max2 hc) s_max2 hg hm (by decide +kernel) ha hb (he := he) (he2 := he2) (hpl := hpl)
/-! ### a <= b < c, whole numbers -/
def xCh (f g : Int → Int → Bool) (a b c : Od) : Ex where
  rr Z e Q := a.run Z e fun ga e1 => b.run Z e1 fun gb e2 => ∃ x y, ga e2 = some (.int x) ∧ gb e2 = some (.int y) ∧ if f x y = true then c.run Z e2 fun gc e3 => ∃ z, gc e3 = some (.int z) ∧ Q (.d (.bool (g y z))) e3 else Q (.d (.bool false)) e2
  mn hZ hQ h := a.mono hZ (fun ga e1 q => b.mono hZ (fun gb e2 ⟨x, y, h1, h2, q⟩ => ⟨x, y, h1, h2, by
    cases e : f x y
    · rw [e, if_neg (by decide)] at q
      rw [if_neg (by decide)]
      exact hQ _ _ q
    · rw [e, if_pos rfl] at q
      rw [if_pos rfl]
      exact c.mono hZ (fun gc e3 ⟨z, h3, q⟩ => ⟨z, h3, hQ _ _ q⟩) q⟩) q) h
theorem m_chain {op op' : CmpOp} {f g : Int → Int → Bool} (ho : OpR X (compareOp op) (rI0 fun i j => .bl (f i j))) (ho' : OpR X (compareOp op') (rI0 fun i j => .bl (g i j))) (ha : OD X E a oa) (hb : OD X E b ob) (hc : OD X E c oc)
    (hm : lastMarks [op, op'] [b, c] = false := by with_unfolding_all rfl) : EV X E (.Compare a [op, op'] [b, c] pos) (xCh f g oa ob oc) :=
  PE_imp (pe_chain ho ho' ha hb hc hm) fun σ H Q ⟨C, env, Hd, ok, R, h⟩ => ⟨C, env, Hd, ok, R, oa.mono (fun _ z => z) (fun ga e1 q v Hd1 H1 sm1 R1 ac => ⟨C, e1, Hd1, ok, R1, ob.mono (fun _ z => z) (fun gb e2 ⟨x, y, h1, h2, q⟩ u Hd2 H2 sm2 R2 bc => by
    obtain rfl := (ac e2 Hd2 H2 sm2 R2 _ h1).int
    obtain rfl := (bc e2 Hd2 H2 (Same.refl _) R2 _ h2).int
    refine ⟨x, y, rfl, rfl, f x y, rfl, ?_⟩
    cases e : f x y
    · rw [e, if_neg (by decide)] at q
      rw [if_neg (by decide)]
      exact q _ Hd2 H2 (sm1.trans sm2) R2 (.bl _)
    · rw [e, if_pos rfl] at q
      rw [if_pos rfl]
      exact ⟨C, e2, Hd2, ok, R2, oc.mono (fun _ z => z) (fun gc e3 ⟨z, h3, q⟩ t Hd3 H3 sm3 R3 cc => by
        obtain rfl := (cc e3 Hd3 H3 (Same.refl _) R3 _ h3).int
        exact ⟨y, z, rfl, rfl, q _ Hd3 H3 (sm1.trans (sm2.trans sm3)) R3 (.bl _)⟩) q⟩) q⟩) h⟩
theorem t_of {e : Expr} {w : Ex} (h : EV X E e w) (he : ∀ whole, isTrue e X.env whole = (do let v ← whole; standAt e.pos; holding [v] (truthy v)) := by intro _; rfl) : TV X E e (Mx.tB w) := t_b h he
/-! ### xs.insert(i, y) -/
def xInsert (i : Nat) (w u : Ex) : Ex where
  rr Z e Q := (ownL i e).isSome = true ∧ w.run Z e fun r e1 => ∃ k : Nat, r = .d (.int k) ∧ k < 2 ^ 62 ∧ u.run Z e1 fun r2 e2 => asD r2 fun y => ∃ xs, ownL i e2 = some xs ∧ xs.length < 16777216 ∧ Q (.d .none) (setL i (xs.take k ++ [y] ++ xs.drop k) e2)
  mn hZ hQ h := ⟨h.1, w.mono hZ (fun r e1 ⟨k, h1, h2, q⟩ => ⟨k, h1, h2, u.mono hZ (fun r2 e2 q => asD_mono (fun y ⟨xs, h3, h4, q⟩ => ⟨xs, h3, h4, hQ _ _ q⟩) q) q⟩) h.2⟩
theorem m_insert (i : Nat) {x : Str} {pa : Pos} {w u : Ex} (h : EV X E a w) (h' : EV X E b u) (hN : X.N[i]? = some x := by rfl) (hv : Vis X.env.scope x := by first | exact Or.inl rfl | exact Or.inr (Or.inl rfl) | exact Or.inr (Or.inr rfl)) (hd : (x == ("__debug__" : Str)) = false := by decide)
    (hcd : (x == ("__classdict__" : Str)) = false := by decide) (hbase : attributeBase (.Name x p) "insert" X.env (eval (.Name x p) X.env) = eval (.Name x p) X.env := by rfl) (hline : (pa.endLine == pos.line) = true := by rfl)
    (hs : starEach [a, b] X.env = (false, eval a X.env) :: starEach [b] X.env := by rfl) (hs2 : starEach [b] X.env = [(false, eval b X.env)] := by rfl)
    (hfew : ((backTo pos (starEach [a, b] X.env)).all (fun x => !x.1) && (backToKw pos (keywordEach [] X.env)).all (fun x => x.1.isSome) && decide (([a, b] : List Expr).length + ([] : List Keyword).length + (if ([] : List Keyword).isEmpty then 0 else 1) < 30)) = true := by rfl)
    (hpl : (backTo pos (starEach [b] X.env)).any (·.1) = false := by rfl) :
    EV X E (.Call (.Attribute (.Name x p) "insert" pa) [a, b] [] pos) (xInsert i w u) :=
  PE_imp (pe_bm PySem.F.plainAttrs_list PySem.F.slot_list_insert PySem.F.type_list_insert mt_insert (pe_var (i := i) hN hv hd hcd) (pa_cons h (pa_cons h' pa_nil hs2) hs) hbase hfew hline hs hpl) fun σ H Q ⟨C, env, Hd, ok, R, h0, h⟩ => by
    obtain ⟨xs0, hx0⟩ := Option.isSome_iff_exists.mp h0
    obtain ⟨q, vs, h1, h2, h3, h4, h5⟩ := R.own hx0
    refine ⟨.ref q, h1, .inl ⟨rfl, vs, SqL.of h4⟩, C, env, Hd, ok, R, w.mono (fun _ z => z) (fun r e1 ⟨k, hr, hk, k1⟩ v Hd1 H1 sm1 R1 rr => ?_) h⟩
    subst hr
    obtain rfl := Dq.int_inv rr
    refine ⟨C, e1, Hd1, ok, R1, u.mono (fun _ z => z) (fun r2 e2 k2 v2 Hd2 H2 sm2 R2 rr2 => ?_) k1⟩
    obtain ⟨Hd3, y, ⟨xs, hx, hl, k2⟩, sm3, R3, dq⟩ := RR.frz R2 rr2 k2
    obtain ⟨q', vs', g1, g2, g3, g4, g5⟩ := R3.own hx
    rw [h1] at g1
    cases g1
    refine ⟨q, vs', k, v2, rfl, rfl, g4, by rw [g5.len, sizeLine_eq]; exact hl, by omega, by omega, ?_⟩
    rw [Int.toNat_natCast]
    exact k2 .non Hd3 _ (sm1.trans (sm2.trans sm3)) (R3.putS (ownL_at hx) h1 g2 g3 ⟨_, upd_same, ((g5.take k).append (.one dq)).append (g5.drop k)⟩) .non
/-! ### x += e, whole numbers -/
def sAug (i : Nat) (f : Int → Int → Int) (w : Ex) : Stm where
  rr Z e O := ∃ x, e[i]? = some (some (.d (.int x))) ∧ w.run Z e fun r e1 => ∃ y, r = .d (.int y) ∧ O.nx (e1.set i (some (.d (.int (f x y)))))
  mn hZ hO h := let ⟨x, h1, h2⟩ := h; ⟨x, h1, w.mono hZ (fun r e1 ⟨y, h3, q⟩ => ⟨y, h3, hO.nx _ q⟩) h2⟩
theorem s_aug {i : Nat} {x : Str} {e : Expr} {w : Ex} {op : Operator} {f : Int → Int → Int} {pos' : Pos} (ho : PIp X op (ipI f)) (hN : X.N.Nodup) (hi : X.N[i]? = some x) (hx : Loc X.env.scope x) (he : EV X E e w) (hf : X.fn x = true ∨ X.env.scope.names.lookup x = some .local := by first | exact .inl rfl | exact .inr rfl | assumption) :
    SV X E (.AugAssign (.Name x pos') op e pos) (sAug i f w) :=
  PS_imp (ps_aug hN hi hx he ho hf) fun D σ H ⟨C, env, Hd, ok, R, k, h1, h⟩ => by
    obtain ⟨v, q1, q2⟩ := R.slot i _ h1
    obtain rfl := Dq.int_inv q2
    refine ⟨_, q1, C, env, Hd, ok, R, w.mono (fun _ z => z) (fun r e1 ⟨y, hr, q⟩ u Hd1 H1 sm1 R1 rr => ?_) h⟩
    subst hr
    obtain rfl := Dq.int_inv rr
    exact ⟨k, y, rfl, rfl, q _ Hd1 H1 sm1 (R1.store (m := .d (.int (f k y))) (v := .int (f k y)) (.int _))⟩
/-! ### name = [..] -/
theorem s_setLc0 {i : Nat} {y : Str} {py : Pos} {elt tg iter : Expr} {scope : Scope} {own : List (Str × Nat)} {spos : Pos} {t : Itr} {g : Tgt} {w : Ex} (hc : X.calm = true) (hN : X.N.Nodup) (hy : X.N[i]? = some y) (hyl : X.env.scope.names.lookup y = some .local)
    (hsw : swapsWith (.ListComp elt [⟨tg, iter, [], 0⟩] scope pos) (some (.Name y py)) spos.line X.env = pure true) (hi : IV X E tg iter t) (ok : BlkOk X.N X.env.scope scope own)
    (hg : ∀ (s : Shared) (H : Hp) (C : Addr) (cl : List (Str × Addr)) (fp : List Addr), GV (X.blk s H scope (compEnvC scope cl C X.env) fp) tg g)
    (he : ∀ (s : Shared) (H : Hp) (C : Addr) (cl : List (Str × Addr)) (fp : List Addr), EV (X.blk s H scope (compEnvC scope cl C X.env) fp) E0 elt w) (hsl : ∀ k ∈ g.slots, k ∈ own.map (·.2) := by decide) (hs : ∀ x, foldedSetIterable iter X.env x = pure x := by intro _; rfl) :
    SV X E (.Assign [.Name y py] (.ListComp elt [⟨tg, iter, [], 0⟩] scope pos) spos) (sSet i (xLc t g Mx.tYes w (own.map (·.2)))) :=
  PS_imp (ps_setLc hc hN hy hyl hsw hi ok hg (fun _ _ _ _ _ => pts_nil) he hs) fun D σ H ⟨C, env, Hd, okc, R, h⟩ =>
    lc_imp (E := E) (tt := Mx.tYes) (Q := fun x H1 => L2.gName i x σ H1 D.nx) (fun σ H Q ⟨C, env, Hd, _, R, h⟩ => h Hd H (Same.refl _) R) hsl ⟨C, env, Hd, okc, R, (xLc t g Mx.tYes w (own.map fun (x : Str × Nat) => x.2)).mono (Q := fun r e1 => (oS X C Hd D).nx (e1.set i (some r))) (fun _ z => z) (fun m e1 q v Hd1 H1 sm1 R1 rr => q _ Hd1 H1 sm1 (R1.store rr)) h⟩
theorem s_setLc1 {i : Nat} {y : Str} {py : Pos} {elt tg iter c : Expr} {scope : Scope} {own : List (Str × Nat)} {spos : Pos} {t : Itr} {g : Tgt} {tt : Tst} {w : Ex} (hc : X.calm = true) (hN : X.N.Nodup) (hy : X.N[i]? = some y) (hyl : X.env.scope.names.lookup y = some .local)
    (hsw : swapsWith (.ListComp elt [⟨tg, iter, [c], 0⟩] scope pos) (some (.Name y py)) spos.line X.env = pure true) (hi : IV X E tg iter t) (ok : BlkOk X.N X.env.scope scope own)
    (hg : ∀ (s : Shared) (H : Hp) (C : Addr) (cl : List (Str × Addr)) (fp : List Addr), GV (X.blk s H scope (compEnvC scope cl C X.env) fp) tg g)
    (ht : ∀ (s : Shared) (H : Hp) (C : Addr) (cl : List (Str × Addr)) (fp : List Addr), TV (X.blk s H scope (compEnvC scope cl C X.env) fp) E0 c tt)
    (he : ∀ (s : Shared) (H : Hp) (C : Addr) (cl : List (Str × Addr)) (fp : List Addr), EV (X.blk s H scope (compEnvC scope cl C X.env) fp) E0 elt w) (hsl : ∀ k ∈ g.slots, k ∈ own.map (·.2) := by decide) (hs : ∀ x, foldedSetIterable iter X.env x = pure x := by intro _; rfl) :
    SV X E (.Assign [.Name y py] (.ListComp elt [⟨tg, iter, [c], 0⟩] scope pos) spos) (sSet i (xLc t g tt w (own.map (·.2)))) :=
  PS_imp (ps_setLc hc hN hy hyl hsw hi ok hg (fun s H C cl fp => pts_one (ht s H C cl fp)) he hs) fun D σ H ⟨C, env, Hd, okc, R, h⟩ =>
    lc_imp (E := E) (tt := tt) (Q := fun x H1 => L2.gName i x σ H1 D.nx) (fun σ H Q h => h) hsl ⟨C, env, Hd, okc, R, (xLc t g tt w (own.map fun (x : Str × Nat) => x.2)).mono (Q := fun r e1 => (oS X C Hd D).nx (e1.set i (some r))) (fun _ z => z) (fun m e1 q v Hd1 H1 sm1 R1 rr => q _ Hd1 H1 sm1 (R1.store rr)) h⟩
end
end Mx

-- MxK
/-! Mx: further rules; the first deck of draws. -/
namespace Mx
open PySem PySem.Spec PyProof.Rows L2
variable [TheDeck]
section
variable {X : Cx} {E : XK} {pos p p2 pos2 : Pos}
/-- list(range(n)) -/
def xListR1 (w : Ex) : Ex where
  rr Z e Q := w.run Z e fun r e1 => ∃ n : Int, r = .d (.int n) ∧ 0 ≤ n ∧ n ≤ 16777216 ∧ Q (.o (.lst (rng 0 n.toNat))) e1
  mn hZ hQ h := w.mono hZ (fun r e1 ⟨n, h1, h2, h3, q⟩ => ⟨n, h1, h2, h3, hQ _ _ q⟩) h
theorem rg_dq {K : PySem.W.Frag} {H : Hp} (a : Int) (n : Nat) : DqAll K H ((List.range n).map fun i : Nat => V.int (a + (i : Int))) (rng a n) := by
  unfold rng
  generalize List.range n = l
  induction l with
  | nil => exact .nil
  | cons x r ih => exact .cons (.int _) ih
theorem m_listR1 {a : Expr} {w : Ex} (hc : X.calm = true) (hg : Gl X "list") (hm : X.mg "list" = none) (hg2 : Gl X "range") (hm2 : X.mg "range" = none) (ha : EV X E a w) (na : starEach [a] X.env = (false, eval a X.env) :: starEach [] X.env := by rfl)
    (na2 : starEach [Expr.Call (.Name "range" p2) [a] [] pos2] X.env = (false, eval (.Call (.Name "range" p2) [a] [] pos2) X.env) :: starEach [] X.env := by rfl) : EV X E (.Call (.Name "list" p) [.Call (.Name "range" p2) [a] [] pos2] [] pos) (xListR1 w) :=
  PE_imp (pe_listRg hc hg hm (prg_1 hg2 hm2 ha na) na2) fun σ H Q ⟨C, env, Hd, ok, R, h⟩ => ⟨C, env, Hd, ok, R, w.mono (fun _ z => z) (fun r e1 ⟨n, hr, h0, h1, q⟩ v Hd1 H1 sm1 R1 rr => by
    subst hr
    obtain rfl := Dq.int_inv rr
    refine ⟨n, rfl, .of_le (by omega) (by omega) (by omega) (by omega), fun t nt => ?_⟩
    have ev : rgV 0 n = (List.range n.toNat).map fun i : Nat => V.int (0 + (i : Int)) := by
      unfold rgV
      rw [Int.sub_zero]
    exact q _ Hd1 _ sm1 (R1.newO nt) ⟨t, rfl, R1.dh.free nt, R1.toBase.h0none nt, ⟨_, upd_same, by rw [ev]; exact rg_dq 0 _⟩, not_owns_new R1 nt⟩) h⟩
theorem s_par3 {i j l : Nat} {x y z : Str} {a b c : Expr} {w u t : Ex} {px py pz pt : Pos} {kt k2 pt2} (hc : X.calm = true) (hN : X.N.Nodup) (hi : X.N[i]? = some x) (hj : X.N[j]? = some y) (hl : X.N[l]? = some z) (hij : i ≠ j) (hil : i ≠ l) (hjl : j ≠ l)
    (hx : X.env.scope.names.lookup x = some .local) (hy : X.env.scope.names.lookup y = some .local) (hz : X.env.scope.names.lookup z = some .local) (ha : EV X E a w) (hb : EV X E b u) (hcc : EV X E c t)
    (hw : swappedStores [.Tuple [.Name x px, .Name y py, .Name z pz] kt pt] (.Tuple [a, b, c] k2 pt2) X.env = pure (some [x, y, z])) (h1 : starEach [a, b, c] X.env = (false, eval a X.env) :: starEach [b, c] X.env := by rfl) (h2 : starEach [b, c] X.env = (false, eval b X.env) :: starEach [c] X.env := by rfl) (h3 : starEach [c] X.env = (false, eval c X.env) :: starEach [] X.env := by rfl)
    (hs : swapsWithSole [.Tuple [.Name x px, .Name y py, .Name z pz] kt pt] (.Tuple [a, b, c] k2 pt2) pos.line X.env = pure false := by rfl) : SV X E (.Assign [.Tuple [.Name x px, .Name y py, .Name z pz] kt pt] (.Tuple [a, b, c] k2 pt2) pos) (sPar3 i j l w u t) :=
  PS_imp (ps_par3 hc hN hi hj hl hij hil hjl hx hy hz (pa_cons ha (pa_cons hb (pa_cons hcc pa_nil h3) h2) h1) hw hs) fun D σ H ⟨C, env, Hd, ok, R, h⟩ => ⟨C, env, Hd, ok, R, w.mono (fun _ z => z) (fun m e1 q v Hd1 H1 sm1 R1 rr => by
    obtain ⟨C', ok', eZ, R1', back⟩ := hold ok R1 rr
    refine ⟨C', e1, Hd1, ok', R1', ?_⟩
    rw [eZ]
    refine u.mono (fun _ z => z) (fun m2 e2 q v2 Hd2 H2 sm2 R2 rr2 => ?_) q
    obtain ⟨C2, ok2, eZ2, R2', back2⟩ := hold ok' R2 rr2
    refine ⟨C2, e2, Hd2, ok2, R2', ?_⟩
    rw [eZ2, eZ]
    refine t.mono (fun _ z => z) (fun m3 e3 q v3 Hd3 H3 sm3 R3 rr3 => ?_) q
    obtain ⟨R4, g2, g3⟩ := back2 e3 Hd3 H3 sm3 R3
    obtain ⟨g3, ap23⟩ := g3 v3 m3 rr3
    obtain ⟨R5, k1, kk⟩ := back e3 Hd3 H3 (sm2.trans sm3) R4
    obtain ⟨k2, ap12⟩ := kk v2 m2 g2
    obtain ⟨k3, ap13⟩ := kk v3 m3 g3
    have S1 := R5.store (i := i) k1
    have S2 := S1.store (i := j) (RR.behind R5 k2 ap12)
    have S3 := S2.store (i := l) (RR.behind S1 (RR.behind R5 k3 ap13) ap23)
    exact ⟨v, v2, v3, rfl, q _ Hd3 H3 (sm1.trans (sm2.trans sm3)) S3⟩) h⟩
end
/-! ### the first deck: a dict of a list of great numbers and two numbers -/
def deckInv (k1 k2 k3 : Str) (d g : Addr) (H : Hp) : Prop := ∃ (gs : List Int) (m t : Int), H d = some (.dK [(Sum.inr k1, .ref g), (Sum.inr k2, .int m), (Sum.inr k3, .int t)]) ∧ H g = some (.lst (gs.map V.int)) ∧ gs.length ≤ 63
def deckA (k1 k2 k3 : Str) (d g : Addr) : Deck where
  root := d
  fp b := b = d ∨ b = g
  inv := deckInv k1 k2 k3 d g
  loc H H' h := fun ⟨gs, m, t, a, b, c⟩ => ⟨gs, m, t, by rw [h d (.inl rfl)]; exact a, by rw [h g (.inr rfl)]; exact b, c⟩
  there H b := fun ⟨gs, m, t, a, c, _⟩ q => by
    rcases q with rfl | rfl
    · rw [a]; exact fun z => by cases z
    · rw [c]; exact fun z => by cases z
/-- the deck is made of the script -/
def spDeckA (K : PySem.W.Frag) (k1 k2 k3 : Str) : Sp := fun vs H Q _ => ∃ (a : Addr) (ns : List Int), vs = [.ref a] ∧ SqL K H a (ns.map V.int) ∧ ns.length ≤ 63 ∧ ∀ H' d g, Same H H' → H d = none → H g = none → deckInv k1 k2 k3 d g H' → Q (.ref d) H'
/-- a draw: any number from 0 to many - 1 -/
def spDraw : Spec where
  run Z as Q := ∃ many : Int, as = [.dk, .d (.int many)] ∧ many < 18446744073709551616 ∧ ∀ k : Int, (many < 2 → k = 0) → (2 ≤ many → 0 ≤ k ∧ k < many) → Q (.d (.int k))
  mono hZ hQ h := let ⟨many, a, b, c⟩ := h; ⟨many, a, b, fun k h1 h2 => hQ _ (c k h1 h2)⟩
/-- behind a draw -/
theorem Base.drawn {Z : XP} {H H' Hd : Hp} {dk : Option Deck} {k1 k2 k3 : Str} {d g : Addr} (B : Base ⟨Z, H, Hd, dk⟩ Hd H) (e : dk = some (deckA k1 k2 k3 d g)) (k : ∀ b o, H b = some o → b ≠ d → b ≠ g → H' b = some o) (i : deckInv k1 k2 k3 d g H') : Base ⟨Z, H, Hd, dk⟩ Hd H' := by
  have nd : Hd d = none := ((B.dk _ e).2 d (.inl rfl)).1
  have ng : Hd g = none := ((B.dk _ e).2 g (.inr rfl)).1
  refine ⟨Same.refl _, fun b o h => k b o (B.dh b o h) (ne_of_none h nd) (ne_of_none h ng), fun b o h => Or.inl h, fun b o h hk => ?_, fun K0 e0 => ?_, B.kd⟩
  · exact k b o h (fun z => hk ⟨_, e, .inl z⟩) (fun z => hk ⟨_, e, .inr z⟩)
  · have ee : K0 = deckA k1 k2 k3 d g := Option.some.inj ((show dk = some K0 from e0).symm.trans e)
    subst ee
    exact ⟨i, (B.dk _ e).2⟩
theorem shaped_ints (l : List Int) : SeqAt.shaped (.list (l.map PyData.int)) = true := by
  unfold SeqAt.shaped
  have h1 : ∀ l : List Int, PyData.canLayAll0 (l.map PyData.int) = true := fun l => by
    induction l with
    | nil => rfl
    | cons x r ih => simp [PyData.canLayAll0, PyData.canLay0, ih]
  have h2 : ∀ l : List Int, PyData.depthAll (l.map PyData.int) = 0 := fun l => by
    induction l with
    | nil => rfl
    | cons x r ih => simp [PyData.depthAll, PyData.depth, ih]
  simp [PyData.canLay0, PyData.depth, h1, h2]
end Mx

-- MxS
/-! Mx: the stepping lemmas of the pure half. -/
namespace Mx
open PySem PyProof.Rows L2
theorem ite_t {p : Prop} [Decidable p] {A B : Prop} (h : p) (a : A) : if p then A else B := by rw [if_pos h]; exact a
theorem ite_f {p : Prop} [Decidable p] {A B : Prop} (h : ¬p) (a : B) : if p then A else B := by rw [if_neg h]; exact a
theorem ite_d {p : Prop} [Decidable p] {A B : Prop} (a : p → A) (b : ¬p → B) : if decide p = true then A else B := by
  by_cases h : p
  · exact ite_t (decide_eq_true h) (a h)
  · exact ite_f (fun z => h (of_decide_eq_true z)) (b h)
theorem ite_nd {p : Prop} [Decidable p] {A B : Prop} (a : ¬p → A) (b : p → B) : if (!decide p) = true then A else B := by
  by_cases h : p
  · exact ite_f (by simp [h]) (b h)
  · exact ite_t (by simp [h]) (a h)
theorem ite_b {c : Bool} {A B : Prop} (a : c = true → A) (b : c = false → B) : if c = true then A else B := by
  cases c
  · exact ite_f Bool.false_ne_true (b rfl)
  · exact ite_t rfl (a rfl)
theorem ite_nb {c : Bool} {A B : Prop} (a : c = false → A) (b : c = true → B) : if (!c) = true then A else B := by
  cases c
  · exact ite_t rfl (a rfl)
  · exact ite_f Bool.false_ne_true (b rfl)
/-- a promise: what comes in, what is wanted of it, what comes out -/
def spF {α : Type} (args : α → List MV) (pre : α → Prop) (post : α → MV → Prop) : Spec where
  run _ as Q := ∃ a, as = args a ∧ pre a ∧ ∀ m, post a m → Q m
  mono _ hQ h := let ⟨a, h1, h2, h3⟩ := h; ⟨a, h1, h2, fun m z => hQ _ (h3 m z)⟩
/-- a row of integers -/
abbrev dI (i : Int) : D := .int i
abbrev dT (l : List Int) : D := .tuple (l.map PyData.int)
theorem flat_T (l : List Int) : (l.map PyData.int).all flatD = true := by
  rw [List.all_map]
  exact List.all_eq_true.mpr fun x _ => rfl
theorem eqv_int (a b : Int) : PyData.eqv (.int a) (.int b) = (a == b) := by simp only [PyData.eqv]
theorem firstAt_T (o : List Int) (l : Int) (h : l ∈ o) : firstAt (o.map PyData.int) (.int l) = some (o.idxOf l) := by
  unfold firstAt
  rw [List.findIdx?_map]
  rw [show ((fun z => PyData.eqv z (PyData.int l)) ∘ PyData.int) = fun z => z == l from funext fun z => eqv_int z l]
  show List.findIdx? (· == l) o = some (List.findIdx (· == l) o)
  rw [List.findIdx?_eq_some_iff_findIdx_eq]
  exact ⟨List.findIdx_lt_length_of_exists ⟨l, h, by simp⟩, rfl⟩
theorem cutD_to {α : Type} (xs : List α) (k : Nat) : Mx.cutD xs none (some (k : Int)) = xs.take k := by
  unfold Mx.cutD
  rw [HT.sIx_none, HT.sIx_nat, List.drop_zero, Nat.sub_zero]
  rcases Nat.le_total k xs.length with h | h
  · rw [Nat.min_eq_left h]
  · rw [Nat.min_eq_right h, List.take_length, List.take_of_length_le h]
theorem cutD_from {α : Type} (xs : List α) (k : Nat) : Mx.cutD xs (some (k : Int)) none = xs.drop k := by
  unfold Mx.cutD
  rw [HT.sIx_none, HT.sIx_nat]
  rcases Nat.le_total k xs.length with h | h
  · rw [Nat.min_eq_left h, List.take_of_length_le (by rw [List.length_drop]; exact Nat.le_refl _)]
  · rw [Nat.min_eq_right h, List.drop_length, List.drop_of_length_le h, List.take_nil]
theorem cutD_mid {α : Type} (xs : List α) (j k : Nat) : Mx.cutD xs (some (j : Int)) (some (k : Int)) = (xs.take k).drop j := by
  unfold Mx.cutD
  rw [HT.sIx_nat, HT.sIx_nat]
  rw [List.drop_take]
  apply List.ext_getElem?
  intro i
  simp only [List.getElem?_take, List.getElem?_drop]
  rcases Nat.le_total j xs.length with h | h <;> rcases Nat.le_total k xs.length with h' | h' <;> simp only [Nat.min_eq_left, Nat.min_eq_right, h, h'] <;> repeat (first | split | rfl | omega | (rw [List.getElem?_eq_none (by omega)]) | (symm; rw [List.getElem?_eq_none (by omega)]))
theorem cutD_map {α β : Type} (f : α → β) (xs : List α) (lo hi : Option Int) : Mx.cutD (xs.map f) lo hi = (Mx.cutD xs lo hi).map f := by
  unfold Mx.cutD
  rw [List.length_map, List.map_take, List.map_drop]
theorem atI_map {α : Type} (f : α → D) (l : List α) (k : Nat) (x : α) (h : l[k]? = some x) : atI (l.map f) (k : Int) = some (f x) := atI_nat (by rw [List.getElem?_map, h]; rfl)
theorem cutD_le {α : Type} (xs : List α) (lo hi : Option Int) : (Mx.cutD xs lo hi).length ≤ xs.length := by
  unfold Mx.cutD
  rw [List.length_take, List.length_drop]
  exact Nat.le_trans (Nat.min_le_right _ _) (Nat.sub_le _ _)
theorem lb_add {a b n m : Nat} (h : a ≤ n) (k : b ≤ m) : a + b ≤ n + m := Nat.add_le_add h k
theorem lb_app {α : Type} {xs ys : List α} {n m : Nat} (h : xs.length ≤ n) (k : ys.length ≤ m) : (xs ++ ys).length ≤ n + m := by rw [List.length_append]; exact Nat.add_le_add h k
theorem lb_cut {α : Type} {xs : List α} {lo hi : Option Int} {n : Nat} (h : xs.length ≤ n) : (Mx.cutD xs lo hi).length ≤ n := Nat.le_trans (cutD_le _ _ _) h
theorem lb_map {α β : Type} {f : α → β} {xs : List α} {n : Nat} (h : xs.length ≤ n) : (xs.map f).length ≤ n := by rw [List.length_map]; exact h
theorem lb_take {α : Type} {xs : List α} {k n : Nat} (h : xs.length ≤ n) : (xs.take k).length ≤ n := by rw [List.length_take]; exact Nat.le_trans (Nat.min_le_right _ _) h
theorem lb_drop {α : Type} {xs : List α} {k n : Nat} (h : xs.length ≤ n) : (xs.drop k).length ≤ n := by rw [List.length_drop]; exact Nat.le_trans (Nat.sub_le _ _) h
theorem lb_nil {α : Type} : ([] : List α).length ≤ 0 := Nat.le_refl _
theorem lb_cons {α : Type} {x : α} {xs : List α} {n : Nat} (h : xs.length ≤ n) : (x :: xs).length ≤ n + 1 := Nat.succ_le_succ h
theorem lb_rng (lo : Int) (n : Nat) : (rng lo n).length ≤ n := by unfold rng; simp
theorem and_le {a b : Nat} {B : Prop} (h : a ≤ b) (k : B) : a ≤ b ∧ B := ⟨h, k⟩
theorem and_ltn {a b : Nat} {B : Prop} (h : a + 1 ≤ b) (k : B) : a < b ∧ B := ⟨h, k⟩
theorem and_lt {a b : Int} {B : Prop} (h : a < b) (k : B) : a < b ∧ B := ⟨h, k⟩
theorem any_T (o : List Int) (l : Int) : ((o.map PyData.int).any fun z => PyData.eqv z (.int l)) = true ↔ l ∈ o := by
  rw [List.any_map, List.any_eq_true]
  constructor
  · rintro ⟨x, hx, e⟩
    have e' : PyData.eqv (.int x) (.int l) = true := e
    rw [eqv_int] at e'
    rw [← beq_iff_eq.mp e']
    exact hx
  · exact fun h => ⟨l, h, by show PyData.eqv (.int l) (.int l) = true; rw [eqv_int]; exact beq_self_eq_true l⟩
theorem MVd_ne {x : D} : MV.d x ≠ .dk := fun h => by cases h
theorem MVo_ne {x : Cont} : MV.o x ≠ .dk := fun h => by cases h
theorem tru_b {b : Bool} {Q : Prop} (q : Q) : (∀ s, (.bool b : D) = .str s → s.length ≤ 16777216) ∧ (∀ kvs, (.bool b : D) ≠ .dict kvs) ∧ Q := ⟨(fun s h => by cases h), (fun s h => by cases h), q⟩
theorem tru_i {b : Int} {Q : Prop} (q : Q) : (∀ s, (.int b : D) = .str s → s.length ≤ 16777216) ∧ (∀ kvs, (.int b : D) ≠ .dict kvs) ∧ Q := ⟨(fun s h => by cases h), (fun s h => by cases h), q⟩
theorem tru_t {b : List D} {Q : Prop} (q : Q) : (∀ s, (.tuple b : D) = .str s → s.length ≤ 16777216) ∧ (∀ kvs, (.tuple b : D) ≠ .dict kvs) ∧ Q := ⟨(fun s h => by cases h), (fun s h => by cases h), q⟩
theorem tru_l {b : List D} {Q : Prop} (q : Q) : (∀ s, (.list b : D) = .str s → s.length ≤ 16777216) ∧ (∀ kvs, (.list b : D) ≠ .dict kvs) ∧ Q := ⟨(fun s h => by cases h), (fun s h => by cases h), q⟩
/-! ### what may be shown and compared: n its weight, k its depth -/
structure Okd (d : D) (n k : Nat) : Prop where
  sh : d.showable = true
  lay : d.canLay0 = true
  lv : d.leavesShort 40 = true
  dep : d.depth ≤ k
  wt : d.weight ≤ n
theorem Okd.mono {d : D} {n k n' k' : Nat} (h : Okd d n k) (hn : n ≤ n') (hk : k ≤ k') : Okd d n' k' := ⟨h.sh, h.lay, h.lv, Nat.le_trans h.dep hk, Nat.le_trans h.wt hn⟩
theorem Okd.int {i : Int} (h : -(10 ^ 20) ≤ i ∧ i ≤ 10 ^ 20) : Okd (.int i) 70 0 := by
  have hn : i.natAbs < 10 ^ 21 := by omega
  have hl : i.natAbs.log2 < 70 := by
    by_cases z : i.natAbs = 0
    · rw [z]; decide
    · exact (Nat.log2_lt z).mpr (Nat.lt_of_lt_of_le hn (by decide))
  refine ⟨?_, rfl, ?_, Nat.le_refl _, ?_⟩
  · show decide (i.natAbs.log2 < 1920) = true
    exact decide_eq_true (by omega)
  · show decide ((PyData.shown (.int i)).length ≤ 40) = true
    refine decide_eq_true ?_
    have := int_text_length_le10 (a := i) (k := 21) (by decide) hn
    show (Str.ofString (toString i)).length ≤ 40
    rw [PySem.ofString_length]
    omega
  · show (if i == 0 then 0 else i.natAbs.log2 + 1) ≤ 70
    split <;> omega
theorem Okd.big {i : Int} (h : -(10 ^ 35) ≤ i ∧ i ≤ 10 ^ 35) : Okd (.int i) 120 0 := by
  have hn : i.natAbs < 10 ^ 36 := by omega
  have hl : i.natAbs.log2 < 120 := by
    by_cases z : i.natAbs = 0
    · rw [z]; decide
    · exact (Nat.log2_lt z).mpr (Nat.lt_of_lt_of_le hn (by decide))
  refine ⟨?_, rfl, ?_, Nat.le_refl _, ?_⟩
  · show decide (i.natAbs.log2 < 1920) = true
    exact decide_eq_true (by omega)
  · show decide ((PyData.shown (.int i)).length ≤ 40) = true
    refine decide_eq_true ?_
    have := int_text_length_le10 (a := i) (k := 36) (by decide) hn
    show (Str.ofString (toString i)).length ≤ 40
    rw [PySem.ofString_length]
    omega
  · show (if i == 0 then 0 else i.natAbs.log2 + 1) ≤ 120
    split <;> omega
theorem Okd.none : Okd .none 0 0 := ⟨rfl, rfl, rfl, Nat.le_refl _, Nat.le_refl _⟩
theorem Okd.bool (b : Bool) : Okd (.bool b) 0 0 := ⟨rfl, rfl, rfl, Nat.le_refl _, Nat.le_refl _⟩
theorem okd_all {xs : List D} {n k : Nat} (h : ∀ x ∈ xs, Okd x n k) : PyData.showableAll xs = true ∧ PyData.canLayAll0 xs = true ∧ PyData.leavesShortAll 40 xs = true ∧ PyData.depthAll xs ≤ k ∧ PyData.weightAll xs ≤ xs.length * (n + 1) := by
  induction xs with
  | nil => exact ⟨rfl, rfl, rfl, Nat.zero_le _, Nat.zero_le _⟩
  | cons x r ih =>
    obtain ⟨a, b, c, d, e⟩ := ih fun y hy => h y (List.mem_cons_of_mem _ hy)
    have hx := h x (List.mem_cons_self ..)
    refine ⟨?_, ?_, ?_, ?_, ?_⟩
    · simp only [PyData.showableAll, hx.sh, a, Bool.and_self]
    · simp only [PyData.canLayAll0, hx.lay, b, Bool.and_self]
    · simp only [PyData.leavesShortAll, hx.lv, c, Bool.and_self]
    · simp only [PyData.depthAll]
      exact Nat.max_le.mpr ⟨hx.dep, d⟩
    · simp only [PyData.weightAll, List.length_cons, Nat.add_mul, Nat.one_mul]
      have := hx.wt
      omega
theorem Okd.tup {xs : List D} {n k m : Nat} (h : ∀ x ∈ xs, Okd x n k) (hm : xs.length ≤ m) : Okd (.tuple xs) (m * (n + 1)) (k + 1) := by
  obtain ⟨a, b, c, d, e⟩ := okd_all h
  exact ⟨by simpa only [PyData.showable] using a, by simpa only [PyData.canLay0] using b, by simpa only [PyData.leavesShort] using c, by simp only [PyData.depth]; omega, by simp only [PyData.weight]; exact Nat.le_trans e (Nat.mul_le_mul_right _ hm)⟩
theorem Okd.lst {xs : List D} {n k m : Nat} (h : ∀ x ∈ xs, Okd x n k) (hm : xs.length ≤ m) : Okd (.list xs) (m * (n + 1)) (k + 1) := by
  obtain ⟨a, b, c, d, e⟩ := okd_all h
  exact ⟨by simpa only [PyData.showable] using a, by simpa only [PyData.canLay0] using b, by simpa only [PyData.leavesShort] using c, by simp only [PyData.depth]; omega, by simp only [PyData.weight]; exact Nat.le_trans e (Nat.mul_le_mul_right _ hm)⟩
theorem Okd.ints {l : List Int} {m : Nat} (h : ∀ i ∈ l, -(10 ^ 20) ≤ i ∧ i ≤ (10 ^ 20 : Int)) (hm : l.length ≤ m) : Okd (dT l) (m * 71) 1 :=
  Okd.tup (fun x hx => by obtain ⟨i, hi, rfl⟩ := List.mem_map.mp hx; exact Okd.int (h i hi)) (by rw [List.length_map]; exact hm)
theorem Okd.shaped {d : D} {n k : Nat} (h : Okd d n k) (hk : k ≤ 64) : SeqAt.shaped d = true := by
  unfold SeqAt.shaped
  rw [h.lay, decide_eq_true (Nat.le_trans h.dep hk)]
  rfl
theorem Okd.len {d : D} {n k : Nat} (h : Okd d n k) (hn : n ≤ 390000) : d.shown.length ≤ 16777216 := by
  have := PyData.shown_le 40 (by decide) d h.lv
  have := h.wt
  omega
theorem Okd.repr {d : D} {n k : Nat} {Q : MV → Prop} (h : Okd d n k) (hn : n ≤ 390000) (hk : k ≤ 60) (q : Q (.d (.str d.shown))) : pRepr.run d Q := ⟨h.sh, PyData.hasDict_of_canLay d h.lay, Nat.le_trans h.dep hk, h.len hn, q⟩
theorem Okd.eq {x y : D} {n k n' k' : Nat} (h : Okd x n k) (h' : Okd y n' k') (hk : k ≤ 64) (hk' : k' ≤ 64) : eqOk x y := by
  have a := h.shaped hk
  have b := h'.shaped hk'
  unfold eqOk
  split <;> first | trivial | exact ⟨a, b⟩
theorem eqvAll_ints : ∀ a b : List Int, PyData.eqvAll (a.map PyData.int) (b.map PyData.int) = (a == b)
  | [], [] => rfl
  | [], _ :: _ => by simp [PyData.eqvAll]
  | _ :: _, [] => by simp [PyData.eqvAll]
  | x :: r, y :: q => by
    rw [List.map_cons, List.map_cons, PyData.eqvAll, eqvAll_ints r q, eqv_int]
    rfl
theorem eqv_T (a b : List Int) : PyData.eqv (dT a) (dT b) = (a == b) := by rw [PyData.eqv]; exact eqvAll_ints a b
theorem eqv_L (a b : List Int) : PyData.eqv (.list (a.map PyData.int)) (.list (b.map PyData.int)) = (a == b) := by rw [PyData.eqv]; exact eqvAll_ints a b
theorem eqv_str (a b : Str) : PyData.eqv (.str a) (.str b) = (a == b) := by rw [PyData.eqv]
theorem eraseIdx_map' {α β : Type} (f : α → β) (l : List α) (j : Nat) : (l.map f).eraseIdx j = (l.eraseIdx j).map f := by
  rw [List.eraseIdx_eq_take_drop_succ, List.eraseIdx_eq_take_drop_succ, List.map_append, List.map_take, List.map_drop]
theorem perm_eraseIdx {α : Type} (l : List α) (j : Nat) (h : j < l.length) : (l[j] :: l.eraseIdx j).Perm l := by
  rw [List.eraseIdx_eq_take_drop_succ]
  refine List.perm_middle.symm.trans ?_
  rw [← List.drop_eq_getElem_cons h, List.take_append_drop]
theorem rng_length (lo : Int) (n : Nat) : (rng lo n).length = n := by unfold rng; simp
/-- 0, 1, .. n - 1 -/
def iR (n : Nat) : List Int := (List.range n).map fun i : Nat => (0 : Int) + (i : Int)
theorem rng_iR (n : Nat) : rng 0 n = (iR n).map PyData.int := by unfold rng iR; rw [List.map_map]; rfl
theorem iR_length (n : Nat) : (iR n).length = n := by unfold iR; simp
theorem mem_iR {n : Nat} {x : Int} : x ∈ iR n ↔ 0 ≤ x ∧ x < n := by
  unfold iR
  rw [List.mem_map]
  constructor
  · rintro ⟨i, hi, rfl⟩
    have := List.mem_range.mp hi
    omega
  · rintro ⟨a, b⟩
    exact ⟨x.toNat, List.mem_range.mpr (by omega), by omega⟩
theorem all_in {α : Type} [BEq α] [LawfulBEq α] : ∀ (o R : List α), o.Nodup → (∀ x ∈ o, x ∈ R) → o.length = R.length → ∀ y ∈ R, y ∈ o
  | [], R, _, _, hl, y, hy => by
    rw [List.eq_nil_of_length_eq_zero hl.symm] at hy
    exact hy
  | a :: t, R, nd, sub, hl, y, hy => by
    obtain ⟨na, nt⟩ := List.nodup_cons.mp nd
    have ha := sub a (List.mem_cons_self ..)
    have ih := all_in t (R.erase a) nt (fun x hx => (List.mem_erase_of_ne (fun (z : x = a) => na (by rw [← z]; exact hx))).mpr (sub x (List.mem_cons_of_mem _ hx))) (by
      rw [List.length_erase_of_mem ha, ← hl, List.length_cons, Nat.add_sub_cancel])
    by_cases e : y = a
    · rw [e]; exact List.mem_cons_self ..
    · exact List.mem_cons_of_mem _ (ih y ((List.mem_erase_of_ne e).mpr hy))
theorem rep_T (n : Nat) (a : Int) : (List.replicate n [PyData.int a]).flatten = (List.replicate n a).map PyData.int := by
  induction n with
  | zero => rfl
  | succ k ih => rw [List.replicate_succ, List.replicate_succ, List.flatten_cons, ih]; rfl
theorem noOwn1 {e : Env} {i : Nat} (h : ∀ c, e[i]? ≠ some (some (.o c))) : ∀ j ∈ [i], ∀ c, e[j]? ≠ some (some (.o c)) := fun j hj c => by
  rw [List.mem_singleton.mp hj]; exact h c
end Mx
local macro_rules | `(tactic| walk_at "mxb") => `(tactic| (repeat (first | with_reducible exact Mx.lb_nil | with_reducible exact Mx.lb_rng _ _ | (with_reducible apply Mx.lb_add) | (with_reducible apply Mx.lb_app) | (with_reducible apply Mx.lb_cut) | (with_reducible apply Mx.lb_map) | (with_reducible apply Mx.lb_cons) | (with_reducible apply Mx.lb_take) | (with_reducible apply Mx.lb_drop) | with_reducible exact Nat.le_refl _)))
local macro_rules | `(tactic| walk_at "mxl") => `(tactic| ((try dsimp only); apply Nat.le_trans; (focus walk_at "mxb"); omega))
local macro_rules | `(tactic| walk_at "mxu") => `(tactic| fail)
local macro_rules | `(tactic| walk_at "mx1") => `(tactic| (first
  | refine And.intro Mx.MVd_ne ?_
  | refine And.intro Mx.MVo_ne ?_
  | refine Mx.tru_b ?_
  | refine Mx.tru_i ?_
  | refine Mx.tru_t ?_
  | refine Mx.tru_l ?_
  | refine And.intro (rfl : Option.isSome _ = true) ?_
  | (refine And.intro (a := @Eq Mx.Env _ _) ?_ ?_; (focus rfl))
  | (refine And.intro (a := @Eq Nat _ _) ?_ ?_; (focus rfl))
  | (refine And.intro (a := Mx.flatD _ = true) ?_ ?_; (focus rfl))
  | refine And.intro (Mx.flat_T _) ?_
  | refine And.intro True.intro ?_
  | refine And.intro (Exists.intro _ (And.intro rfl (Exists.intro _ rfl))) ?_
  | refine @Exists.intro Mx.D _ _ (And.intro (rfl : _ = some _) ?_)
  | refine @Exists.intro Mx.D _ _ (And.intro (Mx.atI_map _ _ _ _ (by assumption)) ?_)
  | refine @Exists.intro Mx.D _ _ (@Exists.intro Mx.D _ _ (And.intro (rfl : _ = some _) (And.intro (rfl : _ = some _) ?_)))
  | refine @Exists.intro (List Mx.D) _ _ (@Exists.intro (List Mx.D) _ _ (And.intro (rfl : _ = some _) (And.intro rfl ?_)))
  | refine @Exists.intro Mx.D _ _ (@Exists.intro (List Mx.D) _ _ (And.intro rfl ?_))
  | (refine And.intro (a := @Eq (List Mx.D) _ []) ?_ ?_; (focus rfl))
  | refine @Exists.intro Bool _ _ (And.intro rfl ?_)
  | refine @Exists.intro Int _ _ (And.intro rfl ?_)
  | refine @Exists.intro (List Mx.D) _ _ (And.intro rfl ?_)
  | (refine Mx.and_le ?a ?_; (case a => walk_at "mxl"))
  | (refine Mx.and_ltn ?a ?_; (case a => walk_at "mxl"))
  | refine @Exists.intro (List Mx.D) _ _ (@Exists.intro Nat _ _ (And.intro rfl (And.intro rfl (And.intro (Mx.flat_T _) (And.intro (Mx.firstAt_T _ _ (by assumption)) ?_)))))
  | refine Mx.ite_t rfl ?_
  | refine Mx.ite_f Bool.false_ne_true ?_
  | (refine Mx.and_lt ?_ ?_; (focus omega))
  | walk_at "mxu"))
local macro_rules | `(tactic| walk_at "mx") => `(tactic| ((repeat walk_at "mx1"); try dsimp only [List.set, Mx.entry, List.map, List.replicate, List.append]))

-- MxL
/-! Mx: the law's beginning: deck = _law_deck(script). -/
namespace Mx
open PySem PySem.Spec PyProof.Rows L2
variable [TheDeck]
section
variable {X : Cx} {E : XK} {pos : Pos}
theorem pe_callG {k : Nat} {f : Addr} {fd : FuncData} {ps : List Str} {sp : Sp} {ta : TA} {x : Str} {p : Pos} {e : Expr} {es : List Expr} (F : FnG X.prog X.w X.K X.mg X.base CX0 k f fd ps sp) (hr : Room k X.A) (hgd : X.A.guards = some []) (hg : Gl X x) (hm : X.mg x = some (.ref f))
    (hk : PySem.W.keepIn X.K (.ref f) = true) (hb : Binds X.K fd ps []) (ha : PA X (e :: es) ta) (hdb : (x == ("__debug__" : Str)) = false := by decide)
    (he : starEach (e :: es) X.env = (false, eval e X.env) :: starEach es X.env := by rfl) (hpl : (backTo pos (starEach es X.env)).any (·.1) = false := by rfl) : PE X (.Call (.Name x p) (e :: es) [] pos) (fun σ H Q => ta σ H fun vs H1 => sp vs H1 Q E0) :=
  ⟨fun pins s σ H Q I h => by
    refine wpAny_Call_Name_kw (ld_glob I hg hm (PySem.W.callWith_K (h₀ := X.base) I.ok.mod.kin hk
      (thn (ha.run pos pins s σ H _ I h) fun us s1 ⟨vs, H1, I1, r, q⟩ => ⟨I1.kIn, endG ?_⟩) he hpl) hdb)
    have hl : us.length = ps.length := r.length.symm.trans (F.len _ _ _ _ q)
    have hb2 := hb s1 us I1.kIn (by rw [List.append_nil]; exact hl)
    rw [List.append_nil] at hb2
    exact run_fnG F hr hgd pass0 I1 hb2 r q⟩
theorem rS_law {W : Stm} {D : Ends} {σ : L2.St} {H' : Hp} {K0 : Deck} {n : Nat} (hK : TheDeck.ok K0) (hi : K0.inv H') (hσ : σ[1]? = some (some (.ref K0.root))) (hl : σ.length = n + 2)
    (hW : ∀ O : Out, O.rt (.d (.bool true)) → W.run (fun _ => False) (none :: some .dk :: List.replicate n none) O) (hq : ∀ H'', D.rt (.bl true) H'') : rS X E W D σ H' := by
  refine ⟨⟨fun _ => False, H', fun _ => none, some K0⟩, none :: some .dk :: List.replicate n none, fun _ => none, fun x c od Hd H B xr z => z.elim, ?_, hW _ ?_⟩
  · refine ⟨⟨(fun b o e => e), (fun b o e => by cases e), (fun b o e => by cases e), (fun b o e _ => e), fun K e => ?_, fun K e => ?_⟩, ?_, fun i m h => ?_, fun i j a h1 h2 => ?_⟩
    · cases e
      exact ⟨hi, fun b hb => ⟨rfl, K0.there _ _ hi hb⟩⟩
    · cases e
      exact hK
    · rw [List.length_cons, List.length_cons, List.length_replicate, hl]
    · rcases i with _ | _ | i
      · cases h
      · cases h
        exact ⟨_, hσ, K0, rfl, rfl⟩
      · rw [List.getElem?_cons_succ, List.getElem?_cons_succ, List.getElem?_replicate] at h
        split at h <;> cases h
    · obtain ⟨⟨c, e⟩, _⟩ := h1
      rcases i with _ | _ | i
      · cases e
      · cases e
      · rw [List.getElem?_cons_succ, List.getElem?_cons_succ, List.getElem?_replicate] at e
        split at e <;> cases e
  · intro v Hd' H'' B r
    have r' : Dq X.K Hd' v (.bool true) := r
    cases r'
    exact hq H''
end
end Mx

-- MxQ
/-! Mx: the steps of great bodies, one by one. (go: a def of its own, so that two runs of one body are compared by what stands in them, not by what they unfold to.) -/
namespace Mx
open PySem PyProof.Rows L2
variable [TheDeck]
def go (s : Stm) (Z : XP) (e : Mx.Env) (O : Out) : Prop := s.run Z e O
theorem go_of {s : Stm} {Z : XP} {e : Mx.Env} {O : Out} (h : s.run Z e O) : go s Z e O := h
theorem go_to {s : Stm} {Z : XP} {e : Mx.Env} {O : Out} (h : go s Z e O) : s.run Z e O := h
theorem go_seq {a b : Stm} {Z : XP} {e : Mx.Env} {O : Out} (h : go a Z e { O with nx := fun e1 => go b Z e1 O }) : go (sSeq a b) Z e O := h
theorem nx_seq {b : Stm} {Z : XP} {e : Mx.Env} {O : Out} (h : go b Z e O) : ({ O with nx := fun e1 => go b Z e1 O } : Out).nx e := h
theorem go_mono {s : Stm} {Z : XP} {e : Mx.Env} {O O' : Out} (h : go s Z e O) (k : O.Le O') : go s Z e O' := s.mono (fun _ z => z) k h
/-- the body from e: nothing is broken off, nothing told but what is wanted -/
theorem for_int {k : Int} {i : Nat} {b : Stm} {Z : XP} {e : Mx.Env} {O : Out} (hk : 0 ≤ k ∧ k < 2 ^ 30) (W : Nat → Mx.Env → Prop) (h0 : W 0 e)
    (h1 : ∀ (j : Nat), (j : Int) < k → ∀ e2, W j e2 → go b Z (e2.set i (some (.d (.int j)))) { nx := W (j + 1), ct := W (j + 1), bk := O.nx, rt := O.rt }) (h2 : ∀ e2, W k.toNat e2 → O.nx e2) :
    go (sFor (iRange1 (aCons (xInt k) aNil)) (Mx.gName i) b) Z e O := by
  refine ⟨k, rfl, ⟨by omega, by omega⟩, W, h0, ?_, ?_⟩
  · intro j x e2 hx w
    obtain ⟨hj, rfl⟩ := rng_get hx
    have := h1 j (by omega) e2 w
    rw [show (0 : Int) + (j : Int) = (j : Int) by omega]
    exact this
  · intro e2 w
    rw [rng_length] at w
    exact h2 e2 w
/-- an invariant, by name: what stands in it is hidden from the bodies -/
theorem inv (P : Nat → Mx.Env → Prop) : ∃ W : Nat → Mx.Env → Prop, ∀ i e, W i e ↔ P i e := ⟨P, fun _ _ => Iff.rfl⟩
theorem inv1 (P : Mx.Env → Prop) : ∃ W : Mx.Env → Prop, ∀ e, W e ↔ P e := ⟨P, fun _ => Iff.rfl⟩
/-- for x in a list, a tuple: the items told by w -/
theorem for_list {w : Ex} {g : Tgt} {b : Stm} {Z : XP} {e : Mx.Env} {O : Out} (W : Nat → Mx.Env → Prop) (h : w.run Z e fun r e1 => asD r fun x => ∃ xs, x = .list xs ∧ W 0 e1 ∧ (∀ i x e2, xs[i]? = some x → W i e2 → g.run x e2 fun e3 => go b Z e3 { nx := W (i + 1), ct := W (i + 1), bk := O.nx, rt := O.rt }) ∧ ∀ e2, W xs.length e2 → O.nx e2) :
    go (sFor (Mx.iLst w) g b) Z e O := w.mono (fun _ z => z) (fun r e1 q => asD_mono (fun x ⟨xs, h1, h2, h3, h4⟩ => ⟨xs, h1, W, h2, h3, h4⟩) q) h
theorem for_tuple {w : Ex} {g : Tgt} {b : Stm} {Z : XP} {e : Mx.Env} {O : Out} (W : Nat → Mx.Env → Prop) (h : w.run Z e fun r e1 => asD r fun x => ∃ xs, x = .tuple xs ∧ W 0 e1 ∧ (∀ i x e2, xs[i]? = some x → W i e2 → g.run x e2 fun e3 => go b Z e3 { nx := W (i + 1), ct := W (i + 1), bk := O.nx, rt := O.rt }) ∧ ∀ e2, W xs.length e2 → O.nx e2) :
    go (sFor (Mx.iTup w) g b) Z e O := w.mono (fun _ z => z) (fun r e1 q => asD_mono (fun x ⟨xs, h1, h2, h3, h4⟩ => ⟨xs, h1, W, h2, h3, h4⟩) q) h
theorem for_any {it : Itr} {g : Tgt} {b : Stm} {Z : XP} {e : Mx.Env} {O : Out} (W : Nat → Mx.Env → Prop) (h : it.run Z e fun xs e1 => W 0 e1 ∧ (∀ i x e2, xs[i]? = some x → W i e2 → g.run x e2 fun e3 => go b Z e3 { nx := W (i + 1), ct := W (i + 1), bk := O.nx, rt := O.rt }) ∧ ∀ e2, W xs.length e2 → O.nx e2) :
    go (sFor it g b) Z e O := it.mono (fun _ z => z) (fun xs e1 ⟨h2, h3, h4⟩ => ⟨W, h2, h3, h4⟩) h
/-! tests on what is equal by its making -/
theorem ne_L (a : List Int) {Q : MV → Prop} (q : Q (.d (.bool false))) : pNe.run (.list (a.map PyData.int)) (.list (a.map PyData.int)) Q := by
  refine ⟨⟨shaped_ints a, shaped_ints a⟩, ?_⟩
  rw [eqv_L, beq_self_eq_true]
  exact q
theorem ne_S (s : Str) {Q : MV → Prop} (q : Q (.d (.bool false))) : pNe.run (.str s) (.str s) Q := by
  refine ⟨trivial, ?_⟩
  rw [eqv_str, beq_self_eq_true]
  exact q
theorem eq_S (s : Str) {Q : MV → Prop} (q : Q (.d (.bool true))) : pEq.run (.str s) (.str s) Q := by
  refine ⟨trivial, ?_⟩
  rw [eqv_str, beq_self_eq_true]
  exact q
theorem eqv_bool (a b : Bool) : PyData.eqv (.bool a) (.bool b) = (a == b) := by rw [PyData.eqv]
theorem ne_B {a b : Bool} {Q : MV → Prop} (h : a = b) (q : Q (.d (.bool false))) : pNe.run (.bool a) (.bool b) Q := by
  subst h
  refine ⟨trivial, ?_⟩
  rw [eqv_bool, beq_self_eq_true]
  exact q
theorem ne_I {a b : Int} {Q : MV → Prop} (h : a = b) (q : Q (.d (.bool false))) : pNe.run (.int a) (.int b) Q := by
  subst h
  refine ⟨trivial, ?_⟩
  rw [eqv_int, beq_self_eq_true]
  exact q
theorem eq_I {a b : Int} {Q : MV → Prop} (q : Q (.d (.bool (decide (a = b))))) : pEq.run (.int a) (.int b) Q := by
  refine ⟨trivial, ?_⟩
  rw [eqv_int, show (a == b) = decide (a = b) from rfl]
  exact q
theorem in_T {b : Int} {o : List Int} {Q : MV → Prop} (q : Q (.d (.bool (decide (b ∈ o))))) : (pIn false).run (.int b) (.tuple (o.map PyData.int)) Q := by
  refine ⟨_, rfl, rfl, flat_T _, ?_⟩
  rw [if_neg (by decide), show ((o.map PyData.int).any fun z => PyData.eqv z (.int b)) = decide (b ∈ o) by rw [Bool.eq_iff_iff, any_T, decide_eq_true_iff]]
  exact q
theorem notin_T {b : Int} {o : List Int} {Q : MV → Prop} (q : Q (.d (.bool (!decide (b ∈ o))))) : (pIn true).run (.int b) (.tuple (o.map PyData.int)) Q := by
  refine ⟨_, rfl, rfl, flat_T _, ?_⟩
  rw [if_pos rfl, show ((o.map PyData.int).any fun z => PyData.eqv z (.int b)) = decide (b ∈ o) by rw [Bool.eq_iff_iff, any_T, decide_eq_true_iff]]
  exact q
theorem add_I {a b : Int} {Q : MV → Prop} (q : Q (.d (.int (a + b)))) : qAdd.run (.int a) (.int b) Q := q
end Mx

-- MxR
/-! Mx: dicts whose keys are whole numbers or texts. -/
namespace Mx
open PySem PySem.Spec PyProof.Rows L2
def keyOf : D → Option Key
  | .int i => some (.inl i)
  | .str s => some (.inr s)
  | _ => none
def valD (kvs : List (D × D)) (k : Key) : Option D := (kvs.find? fun p => decide (keyOf p.1 = some k)).map (·.2)
def putD (kvs : List (D × D)) (k : Key) (v : D) : List (D × D) :=
  if (kvs.any fun p => decide (keyOf p.1 = some k)) = true then kvs.map (fun p => if keyOf p.1 = some k then (p.1, v) else p) else kvs ++ [(keyD k, v)]
theorem keyOf_keyD (k : Key) : keyOf (keyD k) = some k := by cases k <;> rfl
theorem dqkv_any {K : PySem.W.Frag} {H : Hp} (k : Key) : ∀ {ks : List (Key × V)} {kvs : List (D × D)}, DqKV K H ks kvs → (ks.any fun p => decide (p.1 = k)) = kvs.any fun p => decide (keyOf p.1 = some k)
  | _, _, .nil => rfl
  | _, _, .cons (k := k') d r => by
    rw [List.any_cons, List.any_cons, dqkv_any k r]
    simp only [keyOf_keyD, Option.some.injEq]
theorem dqkv_val {K : PySem.W.Frag} {H : Hp} (k : Key) : ∀ {ks : List (Key × V)} {kvs : List (D × D)}, DqKV K H ks kvs → (valV ks k = none ∧ valD kvs k = none) ∨ ∃ v d, valV ks k = some v ∧ valD kvs k = some d ∧ Dq K H v d
  | _, _, .nil => .inl ⟨rfl, rfl⟩
  | _, _, .cons (k := k') (v := v) (d := d) (ks := ks) (kvs := kvs) h r => by
    by_cases e : k' = k
    · refine .inr ⟨v, d, valV_pos (p := (k', v)) e, ?_, h⟩
      unfold valD
      rw [List.find?_cons]
      simp only [keyOf_keyD, Option.some.injEq, e, decide_true]
      rfl
    · have e1 : valV ((k', v) :: ks) k = valV ks k := valV_neg (p := (k', v)) e
      have e2 : valD ((keyD k', d) :: kvs) k = valD kvs k := by
        unfold valD
        rw [List.find?_cons]
        simp only [keyOf_keyD, Option.some.injEq, e, decide_false]
      rw [e1, e2]
      exact dqkv_val k r
theorem dqkv_len {K : PySem.W.Frag} {H : Hp} : ∀ {ks : List (Key × V)} {kvs : List (D × D)}, DqKV K H ks kvs → ks.length = kvs.length
  | _, _, .nil => rfl
  | _, _, .cons d r => by rw [List.length_cons, List.length_cons, dqkv_len r]
theorem dqkv_snoc {K : PySem.W.Frag} {H : Hp} {k : Key} {v : V} {d : D} (h : Dq K H v d) : ∀ {ks : List (Key × V)} {kvs : List (D × D)}, DqKV K H ks kvs → DqKV K H (ks ++ [(k, v)]) (kvs ++ [(keyD k, d)])
  | _, _, .nil => .cons h .nil
  | _, _, .cons d r => .cons d (dqkv_snoc h r)
theorem dqkv_map {K : PySem.W.Frag} {H : Hp} {k : Key} {v : V} {d : D} (h : Dq K H v d) : ∀ {ks : List (Key × V)} {kvs : List (D × D)}, DqKV K H ks kvs → DqKV K H (ks.map fun kv => if kv.1 = k then (kv.1, v) else kv) (kvs.map fun p => if keyOf p.1 = some k then (p.1, d) else p)
  | _, _, .nil => .nil
  | _, _, .cons (k := k') d' r => by
    rw [List.map_cons, List.map_cons]
    simp only [keyOf_keyD, Option.some.injEq]
    by_cases e : k' = k
    · rw [if_pos e, if_pos e]
      exact .cons h (dqkv_map h r)
    · rw [if_neg e, if_neg e]
      exact .cons d' (dqkv_map h r)
theorem dqkv_put {K : PySem.W.Frag} {H : Hp} {k : Key} {v : V} {d : D} (h : Dq K H v d) {ks : List (Key × V)} {kvs : List (D × D)} (q : DqKV K H ks kvs) : DqKV K H (putK ks k v) (putD kvs k d) := by
  unfold putK putD
  rw [dqkv_any k q]
  split
  · exact dqkv_map h q
  · exact dqkv_snoc h q
theorem putD_val (kvs : List (D × D)) (k j : Key) (v : D) : valD (putD kvs k v) j = if j = k then some v else valD kvs j := by
  have mp : ∀ l : List (D × D), valD (l.map fun p => if keyOf p.1 = some k then (p.1, v) else p) j = (valD l j).map fun x => if j = k then v else x := by
    intro l
    induction l with
    | nil => rfl
    | cons p r ih =>
      unfold valD at ih ⊢
      rw [List.map_cons, List.find?_cons, List.find?_cons]
      by_cases e : keyOf p.1 = some k
      · rw [if_pos e]
        by_cases e2 : keyOf p.1 = some j
        · have ejk : j = k := by rw [e] at e2; exact (Option.some.inj e2).symm
          simp only [e2, decide_true]
          rw [Option.map_some, Option.map_some, Option.map_some, if_pos ejk]
        · simp only [e2, decide_false]
          exact ih
      · rw [if_neg e]
        by_cases e2 : keyOf p.1 = some j
        · have ejk : j ≠ k := fun z => e (by rw [← z]; exact e2)
          simp only [e2, decide_true]
          rw [Option.map_some, Option.map_some, if_neg ejk]
        · simp only [e2, decide_false]
          exact ih
  have hany : ∀ l : List (D × D), (l.any fun p => decide (keyOf p.1 = some k)) = (valD l k).isSome := by
    intro l
    induction l with
    | nil => rfl
    | cons p r ih =>
      unfold valD at ih ⊢
      rw [List.any_cons, List.find?_cons]
      by_cases e : keyOf p.1 = some k
      · simp [e]
      · simp only [e, decide_false, Bool.false_or]
        exact ih
  unfold putD
  by_cases a : (kvs.any fun p => decide (keyOf p.1 = some k)) = true
  · rw [if_pos a, mp]
    rw [hany] at a
    by_cases e : j = k
    · rw [e] at *
      obtain ⟨x, hx⟩ := Option.isSome_iff_exists.mp a
      rw [hx, if_pos rfl, Option.map_some, if_pos rfl]
    · rw [if_neg e]
      cases valD kvs j with
      | none => rfl
      | some x => rw [Option.map_some, if_neg e]
  · rw [if_neg a]
    rw [hany] at a
    have hn : valD kvs k = none := by
      cases z : valD kvs k with
      | none => rfl
      | some x => rw [z] at a; exact absurd rfl a
    have sn : ∀ l : List (D × D), valD l k = none → valD (l ++ [(keyD k, v)]) j = if j = k then some v else valD l j := by
      intro l
      induction l with
      | nil =>
        intro _
        unfold valD
        rw [List.nil_append, List.find?_cons]
        by_cases e : j = k
        · simp [keyOf_keyD, e]
        · have : ¬ k = j := fun z => e z.symm
          simp [keyOf_keyD, e, this]
      | cons p r ih =>
        intro h
        unfold valD at ih h ⊢
        rw [List.find?_cons] at h
        rw [List.cons_append, List.find?_cons, List.find?_cons]
        by_cases e : keyOf p.1 = some k
        · simp [e] at h
        · simp only [e, decide_false] at h
          by_cases e2 : keyOf p.1 = some j
          · have ejk : j ≠ k := fun z => e (by rw [← z]; exact e2)
            simp [e2, ejk]
          · simp only [e2, decide_false]
            exact ih h
    exact sn kvs hn
/-- the own dict of slot i -/
def ownD (i : Nat) (e : Env) : Option (List (D × D)) := match e[i]? with
  | some (some (.o (.dct kvs))) => some kvs
  | _ => none
theorem ownD_at {i : Nat} {e : Env} {kvs : List (D × D)} (h : ownD i e = some kvs) : e[i]? = some (some (.o (.dct kvs))) := by
  unfold ownD at h
  split at h
  · rename_i z; cases h; exact z
  · cases h
def setD (i : Nat) (kvs : List (D × D)) (e : Env) : Env := e.set i (some (.o (.dct kvs)))
def xDct0 : Ex where
  rr _ e Q := Q (.o (.dct [])) e
  mn _ hQ h := hQ _ _ h
def pDGet : P2 where
  run x y Q := match x with
    | .dict kvs => ∃ k v, keyOf y = some k ∧ valD kvs k = some v ∧ Q (.d v)
    | _ => False
  mono h q := by
    split at q <;> first | exact let ⟨k, v, a, b, c⟩ := q; ⟨k, v, a, b, h _ c⟩ | exact q
def pDIn : P2 where
  run x y Q := match y with
    | .dict kvs => ∃ k, keyOf x = some k ∧ Q (.d (.bool (valD kvs k).isSome))
    | _ => False
  mono h q := by
    split at q <;> first | exact let ⟨k, a, c⟩ := q; ⟨k, a, h _ c⟩ | exact q
def sDput (i : Nat) (k v : Ex) : Stm where
  rr Z e O := v.run Z e fun r e1 => asD r fun y => (ownD i e1).isSome = true ∧ k.run Z e1 fun r2 e2 => ∃ x key kvs, r2 = .d x ∧ keyOf x = some key ∧ ownD i e2 = some kvs ∧ kvs.length < 16777216 ∧ O.nx (setD i (putD kvs key y) e2)
  mn hZ hO h := v.mono hZ (fun r e1 q => asD_mono (fun y ⟨h0, q⟩ => ⟨h0, k.mono hZ (fun r2 e2 ⟨x, key, kvs, h1, h2, h3, h4, q⟩ => ⟨x, key, kvs, h1, h2, h3, h4, hO.nx _ q⟩) q⟩) q) h
section
variable [TheDeck]
variable {X : Cx} {E : XK} {pos : Pos} {a b c : Expr} {oa ob oc : Od} {p : Pos}
theorem m_dnew : EV X E (.Dict [] [] pos) xDct0 := PE_imp pe_dnewK fun σ H Q ⟨C, env, Hd, ok, R, h⟩ q nq =>
  h (.ref q) Hd _ (Same.refl _) (R.newO nq) ⟨q, rfl, R.dh.free nq, R.toBase.h0none nq, ⟨_, upd_same, .nil⟩, not_owns_new R nq⟩
theorem Pq.dct {K : PySem.W.Frag} {Hd H : Hp} {v : V} {kvs : List (D × D)} (p : Pq K Hd H v (.dict kvs)) (e : Same Hd H) : ∃ a ks, v = .ref a ∧ Rd H a (.dK ks) ∧ DqKV K Hd ks kvs := by
  rcases p with h | ⟨q, c, rfl, ec, h⟩
  · cases h with
    | dic h1 h2 => exact ⟨_, _, rfl, same_rd e h1, h2⟩
  · cases c with
    | lst xs => cases ec
    | dct kvs' =>
      cases ec
      obtain ⟨ks, h1, h2⟩ := h
      exact ⟨q, ks, rfl, .inl h1, h2⟩
theorem key_of {K : PySem.W.Frag} {H : Hp} {v : V} {y : D} {k : Key} (h : Dq K H v y) (hk : keyOf y = some k) : v = kV k := by
  cases y <;> simp only [keyOf] at hk <;> first | (cases hk; first | exact h.int_inv | exact h.str_inv) | cases hk
theorem s_dget : S2 X.K (fun x y H Q => ∃ a v, x = .ref a ∧ DGet H a y (some v) ∧ Q v H) pDGet := by
  intro Hd H x y v u Qm Q e hx hy h k
  unfold pDGet at h
  dsimp only at h
  split at h
  · obtain ⟨key, d, hk, hv, q⟩ := h
    obtain ⟨a, ks, rfl, h1, h2⟩ := hx.dct e
    have hu : u = kV key := by
      rcases hy with hy | ⟨q', c, rfl, rfl, _⟩
      · exact key_of hy hk
      · cases c <;> cases hk
    subst hu
    rcases dqkv_val key h2 with ⟨_, z⟩ | ⟨w, d', z1, z2, z3⟩
    · rw [z] at hv; cases hv
    · rw [z2] at hv
      cases hv
      exact ⟨a, w, rfl, .inl ⟨ks, key, h1, rfl, z1.symm⟩, dat_res z3 q k⟩
  · exact h.elim
theorem m_dget (hu : X.A.units + 64 < cLine) (ha : OD X E a oa) (hb : OD X E b ob) (hs : NoSl b) : EV X E (.Subscript a b pos) (xOp2 pDGet oa ob) :=
  PE_imp (pe_dget (hu1 hu) ha hb hs) fun _ _ _ h => op2_imp s_dget h
theorem s_din : S2 X.K (fun y x H Q => ∃ a o, x = .ref a ∧ DGet H a y o ∧ Q (.bl o.isSome) H) pDIn := by
  intro Hd H x y v u Qm Q e hx hy h k
  unfold pDIn at h
  dsimp only at h
  split at h
  · rename_i kvs
    obtain ⟨key, hk, q⟩ := h
    obtain ⟨a, ks, rfl, h1, h2⟩ := hy.dct e
    have hu : v = kV key := by
      rcases hx with hx | ⟨q', c, rfl, rfl, _⟩
      · exact key_of hx hk
      · cases c <;> cases hk
    subst hu
    refine ⟨a, _, rfl, .inl ⟨ks, key, h1, rfl, rfl⟩, ?_⟩
    have e : (valV ks key).isSome = (valD kvs key).isSome := by
      rcases dqkv_val key h2 with ⟨z1, z2⟩ | ⟨w, d', z1, z2, z3⟩ <;> rw [z1, z2] <;> rfl
    rw [e]
    exact dat_res (.bl _) q k
  · exact h.elim
theorem m_din (hu : X.A.units + 64 < cLine) (ha : OD X E a oa) (hb : OD X E b ob) (hm : behindInMarks .In b = false := by rfl) : EV X E (.Compare a [.In] [b] pos) (xOp2 pDIn oa ob) :=
  PE_imp (pe_cmp (pc_din (hu1 hu) ha hb) hm) fun _ _ _ h => op2_imp s_din h
theorem s_dput (i : Nat) {x : Str} {pn ps : Pos} {k v : Expr} {wk wv : Ex} (hu : X.A.units + 64 < cLine) (hk : EV X E k wk) (hv : EV X E v wv) (hN : X.N[i]? = some x := by rfl) (hvis : Vis X.env.scope x := by first | exact Or.inl rfl | exact Or.inr (Or.inl rfl) | exact Or.inr (Or.inr rfl)) (hd : (x == ("__debug__" : Str)) = false := by decide)
    (hcd : (x == ("__classdict__" : Str)) = false := by decide) (hs : swapsWith v (some (.Subscript (.Name x pn) k ps)) pos.line X.env = pure false := by rfl) : SV X E (.Assign [.Subscript (.Name x pn) k ps] v pos) (sDput i wk wv) :=
  PS_imp (ps_dput (hu1 hu) (pe_var (i := i) hN hvis hd hcd) hk hv hs) fun D σ H ⟨C, env, Hd, ok, R, h⟩ => ⟨C, env, Hd, ok, R, wv.mono (fun _ z => z) (fun r e1 q u Hd1 H1 sm1 R1 rr => by
    obtain ⟨Hd2, y, ⟨h0, q⟩, sm2, R2, dq⟩ := RR.frz R1 rr q
    obtain ⟨kvs0, hx0⟩ := Option.isSome_iff_exists.mp h0
    obtain ⟨w0, g1, q0, ew0, g2, g3, _⟩ := R2.slot i _ (ownD_at hx0)
    refine ⟨w0, g1, C, e1, Hd2, ok, R2, wk.mono (fun _ z => z) (fun r2 e2 ⟨xx, key, kvs, hr, hkey, hx, hl, q⟩ u2 Hd3 H3 sm3 R3 rr2 => ?_) q⟩
    subst hr
    obtain rfl := key_of rr2 hkey
    obtain ⟨w1, g1', q1, ew1, g2', g3', ks, g4, g5⟩ := R3.slot i _ (ownD_at hx)
    rw [g1] at g1'
    cases g1'
    subst ew1
    refine ⟨q1, _, rfl, .inl ⟨ks, key, g4, rfl, by rw [dqkv_len g5, sizeLine_eq]; exact hl, rfl⟩, ?_⟩
    exact q σ Hd3 _ (sm1.trans (sm2.trans sm3)) (R3.putS (ownD_at hx) g1 g2' g3' ⟨_, upd_same, dqkv_put (dq.mono sm3) g5⟩)) h⟩
end
end Mx

-- MxT
/-! Mx: a module's constant. -/
namespace Mx
open PySem PySem.Spec PyProof.Rows L2
variable [TheDeck]
def constI : D → Value → Bool
  | .int j, .int i _ => i == j
  | .str j, .str i _ => i == j
  | _, _ => false
def constC (K : PySem.W.Frag) : Nat → D → Value → Bool
  | 0, d, u => constI d u
  | n + 1, .tuple ds, .ref a => match K.lookup a with
    | some ⟨.type s, none, .seq its _, _⟩ => s == "tuple" && decide (its.size ≤ sizeLine) && (ds.length == its.toList.length && (List.zip ds its.toList).all fun p => constC K n p.1 p.2)
    | _ => false
  | _ + 1, d, u => constI d u
def ConstIs (K : PySem.W.Frag) (d : D) (u : Value) : Prop := ∃ v, RelV v u ∧ ∀ Hd, Dq K Hd v d
theorem constI_ok {K : PySem.W.Frag} {d : D} {u : Value} (e : constI d u = true) : ConstIs K d u := by
  unfold constI at e
  split at e
  · rename_i j i t
    obtain rfl : i = j := by simpa using e
    exact ⟨.int i, ⟨t, rfl⟩, fun _ => .int i⟩
  · rename_i j i t
    obtain rfl : i = j := by simpa using e
    exact ⟨.str i, ⟨t, rfl⟩, fun _ => .str i⟩
  · cases e
theorem const_all {K : PySem.W.Frag} {f : D → Value → Bool} (h : ∀ d u, f d u = true → ConstIs K d u) : ∀ (ds : List D) (us : List Value), ds.length = us.length → (List.zip ds us).all (fun p => f p.1 p.2) = true → ∃ vs, Vals vs us ∧ ∀ Hd, DqAll K Hd vs ds
  | [], [], _, _ => ⟨[], .nil, fun _ => .nil⟩
  | d :: ds, u :: us, l, e => by
    rw [List.zip_cons_cons, List.all_cons] at e
    obtain ⟨e1, e2⟩ := Bool.and_eq_true_iff.mp e
    obtain ⟨v, r, q⟩ := h _ _ e1
    obtain ⟨vs, r2, q2⟩ := const_all h ds us (Nat.succ.inj l) e2
    exact ⟨v :: vs, .cons r r2, fun Hd => .cons (q Hd) (q2 Hd)⟩
  | [], _ :: _, l, _ => nomatch l
  | _ :: _, [], l, _ => nomatch l
theorem constC_ok {K : PySem.W.Frag} : ∀ (n : Nat) (d : D) (u : Value), constC K n d u = true → ConstIs K d u
  | 0, d, u, e => constI_ok (by unfold constC at e; exact e)
  | n + 1, d, u, e => by
    unfold constC at e
    split at e
    · rename_i h
      cases h
    · rename_i h
      cases h
      split at e
      · rename_i s its t sl hk
        obtain ⟨e1, e2⟩ := Bool.and_eq_true_iff.mp e
        obtain ⟨e3, e4⟩ := Bool.and_eq_true_iff.mp e1
        obtain ⟨e5, e6⟩ := Bool.and_eq_true_iff.mp e2
        obtain ⟨vs, r, q⟩ := const_all (constC_ok n) _ _ (by simpa using e5) e6
        exact ⟨.ref _, rfl, fun Hd => .tup (.inr ⟨_, its, _, hk, by rw [show s = "tuple" by simpa using e3], rfl, rfl, of_decide_eq_true e4, r⟩) (q Hd)⟩
      · cases e
    · exact constI_ok e
section
variable {X : Cx} {E : XK} {pos : Pos}
theorem m_glob {x : Str} {d : D} (hg : Gl X x) (h : ∃ u, X.mg x = some u ∧ ConstIs X.K d u) (hd : (x == ("__debug__" : Str)) = false := by decide) : EV X E (.Name x pos) (xC d) := by
  obtain ⟨u, hm, v, r, q⟩ := h
  exact PE_imp (pe_glob hg hm r hd) fun σ H Q ⟨C, env, Hd, ok, R, h⟩ => h v Hd H (Same.refl _) R (q Hd)
/-- what slot i holds is frozen first -/
def sFrz (i : Nat) (b : Stm) : Stm where
  rr Z e O := match e[i]? with
    | some (some (.o c)) => b.run Z (e.set i (some (.d c.data))) O
    | _ => b.run Z e O
  mn hZ hO h := by
    split at h <;> exact b.mono hZ hO h
theorem frz_o {i : Nat} {b : Stm} {Z : XP} {e : Mx.Env} {O : Out} {c : Cont} (h : e[i]? = some (some (.o c))) (q : b.run Z (e.set i (some (.d c.data))) O) : (sFrz i b).run Z e O := by
  unfold Stm.run sFrz
  dsimp only
  rw [h]
  exact q
theorem frz_d {i : Nat} {b : Stm} {Z : XP} {e : Mx.Env} {O : Out} {x : D} (h : e[i]? = some (some (.d x))) (q : b.run Z e O) : (sFrz i b).run Z e O := by
  unfold Stm.run sFrz
  dsimp only
  rw [h]
  exact q
theorem s_frz (i : Nat) {s : Stmt} {w : Stm} (h : SV X E s w) : SV X E s (sFrz i w) := PS_imp h fun D σ H ⟨C, env, Hd, ok, R, h⟩ => by
  unfold Stm.run sFrz at h
  dsimp only at h
  split at h
  · rename_i c e
    obtain ⟨Hd', v, h1, sm, R', q⟩ := R.frzS e
    exact ⟨C, _, Hd', ok, R', w.mono (fun _ z => z) (oS_le sm) h⟩
  · exact ⟨C, env, Hd, ok, R, h⟩
theorem t_chain {a b c : Expr} {oa ob oc : Od} {op op' : CmpOp} {f g : Int → Int → Bool} (ho : OpR X (compareOp op) (rI0 fun i j => .bl (f i j))) (ho' : OpR X (compareOp op') (rI0 fun i j => .bl (g i j))) (ha : OD X E a oa) (hb : OD X E b ob) (hc : OD X E c oc)
    (hm : lastMarks [op, op'] [b, c] = false := by with_unfolding_all rfl) : TV X E (.Compare a [op, op'] [b, c] pos) (Mx.tB (xCh f g oa ob oc)) :=
  PT_imp (pt_chain ho ho' ha hb hc hm) fun σ H Q ⟨C, env, Hd, ok, R, h⟩ => ⟨C, env, Hd, ok, R, oa.mono (fun _ z => z) (fun ga e1 q v Hd1 H1 sm1 R1 ac => ⟨C, e1, Hd1, ok, R1, ob.mono (fun _ z => z) (fun gb e2 ⟨x, y, h1, h2, q⟩ u Hd2 H2 sm2 R2 bc => by
    obtain rfl := (ac e2 Hd2 H2 sm2 R2 _ h1).int
    obtain rfl := (bc e2 Hd2 H2 (Same.refl _) R2 _ h2).int
    refine ⟨x, y, rfl, rfl, f x y, rfl, ?_⟩
    cases e : f x y
    · rw [e, if_neg (by decide)] at q
      rw [if_neg (by decide)]
      obtain ⟨k, hk, q⟩ := q
      cases hk
      exact ⟨_, rfl, q Hd2 H2 (sm1.trans sm2) R2⟩
    · rw [e, if_pos rfl] at q
      rw [if_pos rfl]
      exact ⟨C, e2, Hd2, ok, R2, oc.mono (fun _ z => z) (fun gc e3 ⟨z, h3, q⟩ t Hd3 H3 sm3 R3 cc => by
        obtain rfl := (cc e3 Hd3 H3 (Same.refl _) R3 _ h3).int
        obtain ⟨k, hk, q⟩ := q
        cases hk
        exact ⟨y, z, rfl, rfl, _, rfl, q Hd3 H3 (sm1.trans (sm2.trans sm3)) R3⟩) q⟩) q⟩) h⟩
end
end Mx

-- MxU
/-! Mx: t.count(x), l.count(x); a draw that wants one at least. -/
namespace Mx
open PySem PySem.Spec PyProof.Rows L2
/-- a draw of a deck that wants one at least -/
def spDrawG : Spec where
  run Z as Q := ∃ many : Int, as = [.dk, .d (.int many)] ∧ 0 < many ∧ many < 1073741824 ∧ ∀ k : Int, 0 ≤ k → k < many → Q (.d (.int k))
  mono hZ hQ h := let ⟨many, a, b, c, d⟩ := h; ⟨many, a, b, c, fun k h1 h2 => hQ _ (d k h1 h2)⟩
section
variable {X : Cx}
def rCountF (K : PySem.W.Frag) (sq : PySem.W.Frag → Hp → Addr → List V → Prop) : V → List V → Hp → VK → Prop := fun x xs H Q => ∃ (a : Addr) (ys : List V) (y : V), x = V.ref a ∧ xs = [y] ∧ sq K H a ys ∧ flatV y = true ∧ ys.all flatV = true ∧ Q (.int (ys.countP fun z => eqV z y : Nat)) H
theorem countP_U {y : V} : ∀ {ys : List V} {us : List Value}, Vals ys us → ys.all flatV = true → us.countP (eqU y) = ys.countP fun z => eqV z y
  | _, _, .nil, _ => rfl
  | x :: xs, u :: us, .cons r t, f => by
    rw [List.all_cons, Bool.and_eq_true] at f
    rw [List.countP_cons, List.countP_cons, countP_U t f.2, eqU_of r f.1]
theorem mt_tcountF : MtR X "tuple.count" (rCountF X.K SqT) := by
  intro pins s σ H x xs v us Q I rx rxs ⟨a, ys, y, ex, exs, hs, fy, fys, q⟩
  subst ex exs
  obtain rfl := (show v = Value.ref a from rx)
  obtain ⟨uy, rfl, ry⟩ := vals1 rxs
  obtain ⟨its, rv, ⟨⟨cls, dd, data, sl⟩, ho, hc, n, hd⟩, hlen⟩ := I.tuple hs
  simp only at hc hd
  subst hc hd
  refine call_meets PySem.F.slot_tuple_count ⟨_, ho, rfl⟩ PySem.F.entry_tuple_count (PySem.F.args_tuple_count_2 _ _)
    (SeqAt.tuple_countAt a its.toArray n dd sl uy (eqU y)) ⟨ho, fun u' hu' => mem_eqAt ry fy rv fys u' (by simpa using hu'), ?_⟩
  have ec : its.toArray.toList.countP (eqU y) = ys.countP fun z => eqV z y := countP_U rv fys
  refine ⟨.int (ys.countP fun z => eqV z y : Nat), H, I.tok _, ⟨s.toks, ?_⟩, q⟩
  show Value.int ((its.toArray.toList.countP (eqU y) : Nat) : Int) s.toks = _
  rw [ec]
theorem mt_lcountF : MtR X "list.count" (rCountF X.K SqL) := by
  intro pins s σ H x xs v us Q I rx rxs ⟨a, ys, y, ex, exs, hs, fy, fys, q⟩
  subst ex exs
  obtain rfl := (show v = Value.ref a from rx)
  obtain ⟨uy, rfl, ry⟩ := vals1 rxs
  obtain ⟨its, rv, ⟨⟨cls, dd, data, sl⟩, n, ho, hc, hdn, hd⟩, hlen⟩ := I.list hs
  simp only at hc hd
  subst hc hd
  refine call_meets PySem.F.slot_list_count ⟨_, ho, rfl⟩ PySem.F.entry_list_count (PySem.F.args_list_count_2 _ _)
    (SeqAt.list_countAt a its.toArray n dd sl uy (eqU y)) ⟨ho, fun u' hu' => mem_eqAt ry fy rv fys u' (by simpa using hu'), ?_⟩
  have ec : its.toArray.toList.countP (eqU y) = ys.countP fun z => eqV z y := countP_U rv fys
  refine ⟨.int (ys.countP fun z => eqV z y : Nat), H, I.tok _, ⟨s.toks, ?_⟩, q⟩
  show Value.int ((its.toArray.toList.countP (eqU y) : Nat) : Int) s.toks = _
  rw [ec]
end
variable [TheDeck]
def pCount (mk : List D → D) : P2 where
  run x y Q := ∃ xs, x = mk xs ∧ flatD y = true ∧ xs.all flatD = true ∧ Q (.d (.int (xs.countP fun z => PyData.eqv z y : Nat)))
  mono h q := let ⟨a, b, c, d, e⟩ := q; ⟨a, b, c, d, h _ e⟩
theorem flat_count {K : PySem.W.Frag} {H H' : Hp} {u : V} {y : D} (h2 : Dq K H' u y) (f2 : flatD y = true) : ∀ {vs : List V} {xs : List D}, DqAll K H vs xs → xs.all flatD = true → vs.countP (fun z => eqV z u) = xs.countP fun z => PyData.eqv z y
  | _, _, .nil, _ => rfl
  | _, _, .cons h q, f => by
    rw [List.all_cons, Bool.and_eq_true] at f
    rw [List.countP_cons, List.countP_cons, flat_count h2 f2 q f.2, flat_eq h h2 f.1 f2]
section
variable {X : Cx} {E : XK} {a b : Expr} {oa ob : Od} {pa pos : Pos}
theorem m_countT (ha : OD X E a oa) (hb : OD X E b ob) (hbase : attributeBase a "count" X.env (eval a X.env) = eval a X.env := by rfl) (hline : (pa.endLine == pos.line) = true := by rfl) (hs : starEach [b] X.env = [(false, eval b X.env)] := by rfl) :
    EV X E (.Call (.Attribute a "count" pa) [b] [] pos) (xMeth (pCount .tuple) isTup oa ob) :=
  PE_imp (pe_bmT PySem.F.slot_tuple_count PySem.F.type_tuple_count mt_tcountF ha (pa_cons hb pa_nil hs) hbase (by rw [hs]; rfl) hline hs) fun σ H Q ⟨C, env, Hd, ok, R, h⟩ => ⟨C, env, Hd, ok, R, oa.mono (fun _ z => z) (fun g e1 ⟨⟨x, hx, xs, hxs⟩, q⟩ v Hd1 H1 sm1 R1 ac => by
    subst hxs
    obtain ⟨t, vs, rfl, t1, t2⟩ := (ac e1 Hd1 H1 (Same.refl _) R1 _ hx).tup R1.dh
    refine ⟨⟨t, vs, rfl, t1⟩, C, e1, Hd1, ok, R1, ob.mono (fun _ z => z) (fun k e2 ⟨x2, y, hx2, hy, xs2, hi, fy, fx, q⟩ u Hd2 H2 sm2 R2 ac2 => ?_) q⟩
    subst hi
    have p2 := (ac2 e2 Hd2 H2 (Same.refl _) R2 _ hy).look R2.dh
    obtain ⟨t', vs', e3, t3, t4⟩ := (ac e2 Hd2 H2 sm2 R2 _ hx2).tup R2.dh
    cases e3
    refine ⟨t, vs', u, rfl, rfl, t3.seq, flat_v p2 fy, flat_all t4 fx, ?_⟩
    rw [flat_count p2 fy t4 fx]
    exact q _ Hd2 H2 (sm1.trans sm2) R2 (.int _)) h⟩
theorem m_countL (ha : OD X E a oa) (hb : OD X E b ob) (hbase : attributeBase a "count" X.env (eval a X.env) = eval a X.env := by rfl) (hline : (pa.endLine == pos.line) = true := by rfl) (hs : starEach [b] X.env = [(false, eval b X.env)] := by rfl) :
    EV X E (.Call (.Attribute a "count" pa) [b] [] pos) (xMeth (pCount .list) isLst oa ob) :=
  PE_imp (pe_bm PySem.F.plainAttrs_list PySem.F.slot_list_count PySem.F.type_list_count mt_lcountF ha (pa_cons hb pa_nil hs) hbase (by rw [hs]; rfl) hline hs) fun σ H Q ⟨C, env, Hd, ok, R, h⟩ => ⟨C, env, Hd, ok, R, oa.mono (fun _ z => z) (fun g e1 ⟨⟨x, hx, xs, hxs⟩, q⟩ v Hd1 H1 sm1 R1 ac => by
    subst hxs
    obtain ⟨t, vs, rfl, t1, t2⟩ := (ac e1 Hd1 H1 (Same.refl _) R1 _ hx).lst R1.dh
    refine ⟨.inl ⟨rfl, vs, SqL.of t1⟩, C, e1, Hd1, ok, R1, ob.mono (fun _ z => z) (fun k e2 ⟨x2, y, hx2, hy, xs2, hi, fy, fx, q⟩ u Hd2 H2 sm2 R2 ac2 => ?_) q⟩
    subst hi
    have p2 := (ac2 e2 Hd2 H2 (Same.refl _) R2 _ hy).look R2.dh
    obtain ⟨t', vs', e3, t3, t4⟩ := (ac e2 Hd2 H2 sm2 R2 _ hx2).lst R2.dh
    cases e3
    refine ⟨t, vs', u, rfl, rfl, SqL.of t3, flat_v p2 fy, flat_all t4 fx, ?_⟩
    rw [flat_count p2 fy t4 fx]
    exact q _ Hd2 H2 (sm1.trans sm2) R2 (.int _)) h⟩
end
theorem count_T (o : List Int) (l : Int) : ((o.map PyData.int).countP fun z => PyData.eqv z (.int l)) = o.count l := by
  rw [List.countP_map]
  show List.countP _ o = List.countP _ o
  refine List.countP_congr fun x _ => ?_
  show (PyData.eqv (.int x) (.int l) = true) ↔ _
  rw [eqv_int]
end Mx

-- MxV
/-! Mx: a deck that is a list of two lists and two numbers. -/
namespace Mx
open PySem PySem.Spec PyProof.Rows L2
variable [TheDeck]
def deckInvD (d g f : Addr) (H : Hp) : Prop := ∃ (gs fs : List Int) (s t : Int), H d = some (.lst [.ref g, .ref f, .int s, .int t]) ∧ H g = some (.lst (gs.map V.int)) ∧ H f = some (.lst (fs.map V.int)) ∧ gs.length ≤ 63 ∧ (0 < fs.length ∧ fs.length ≤ 64) ∧ d ≠ g ∧ d ≠ f ∧ g ≠ f
def deckD (d g f : Addr) : Deck where
  root := d
  fp b := b = d ∨ b = g ∨ b = f
  inv := deckInvD d g f
  loc H H' h := fun ⟨gs, fs, s, t, a, b, c, r⟩ => ⟨gs, fs, s, t, by rw [h d (.inl rfl)]; exact a, by rw [h g (.inr (.inl rfl))]; exact b, by rw [h f (.inr (.inr rfl))]; exact c, r⟩
  there H b := fun ⟨gs, fs, s, t, a, c, e, _⟩ q => by
    rcases q with rfl | rfl | rfl
    · rw [a]; exact fun z => by cases z
    · rw [c]; exact fun z => by cases z
    · rw [e]; exact fun z => by cases z
def spDeckD (K : PySem.W.Frag) : Sp := fun vs H Q _ => ∃ (a : Addr) (ns : List Int), vs = [.ref a] ∧ SqL K H a (ns.map V.int) ∧ ns.length ≤ 63 ∧ ∀ H' d g f, Same H H' → H d = none → H g = none → H f = none → deckInvD d g f H' → Q (.ref d) H'
theorem Base.drawnD {Z : XP} {H H' Hd : Hp} {dk : Option Deck} {d g f : Addr} (B : Base ⟨Z, H, Hd, dk⟩ Hd H) (e : dk = some (deckD d g f)) (k : ∀ b o, H b = some o → b ≠ d → b ≠ g → b ≠ f → H' b = some o) (i : deckInvD d g f H') : Base ⟨Z, H, Hd, dk⟩ Hd H' := by
  have nd : Hd d = none := ((B.dk _ e).2 d (.inl rfl)).1
  have ng : Hd g = none := ((B.dk _ e).2 g (.inr (.inl rfl))).1
  have nf : Hd f = none := ((B.dk _ e).2 f (.inr (.inr rfl))).1
  refine ⟨Same.refl _, fun b o h => k b o (B.dh b o h) (ne_of_none h nd) (ne_of_none h ng) (ne_of_none h nf), fun b o h => Or.inl h, fun b o h hk => ?_, fun K0 e0 => ?_, B.kd⟩
  · exact k b o h (fun z => hk ⟨_, e, .inl z⟩) (fun z => hk ⟨_, e, .inr (.inl z)⟩) (fun z => hk ⟨_, e, .inr (.inr z)⟩)
  · have ee : K0 = deckD d g f := Option.some.inj ((show dk = some K0 from e0).symm.trans e)
    subst ee
    exact ⟨i, (B.dk _ e).2⟩
end Mx

-- MxX
/-! Mx: how many unlike numbers a tuple has. -/
namespace Mx
open PySem PySem.Spec PyProof.Rows L2
section
variable {X : Cx}
def tLenSetT (K : PySem.W.Frag) (ta : TE) : TE := fun σ H Q => ta σ H fun x H1 => ∃ (l : Addr) (ns : List Int), x = V.ref l ∧ SqT K H1 l (ns.map V.int) ∧ ns.length ≤ 1000 ∧ ∀ out : List Int, out.Nodup → (∀ k, k ∈ out ↔ k ∈ ns) → Q (.int out.length) H1
theorem pe_lenSetT {a : Expr} {ta : TE} {p p2 q pos : Pos} (hc : X.calm = true) (hg : Gl X "len") (hm : X.mg "len" = none) (hg2 : Gl X "set") (hm2 : X.mg "set" = none) (ha : PE X a ta)
    (na : starEach [a] X.env = (false, eval a X.env) :: starEach [] X.env := by rfl) : PE X (.Call (.Name "len" p) [.Call (.Name "set" p2) [a] [] q] [] pos) (tLenSetT X.K ta) := by
  constructor
  intro pins s σ H Q I h
  refine Call_ ?_
  apply ld_blt I hg hm PySem.boot_len
  refine callWith_builtin1 (args_cons ?_ rfl) rfl rfl
  refine Call_ ?_
  apply ld_blt I hg2 hm2 boot_set
  refine callWith_type1 (args_cons (thn (ha.run pins s σ H _ I h) ?_) na) na rfl
  rintro v s1 ⟨x, H1, I1, r1, l, ns, ex, hq, h1, q1⟩
  apply args_nil
  subst ex
  cases r1
  obtain ⟨its, rv, pt, hz⟩ := I1.tuple hq
  apply call_set_tupI ns (I1.ok.hd hc) (show s1.heap.IsTuple l its.toArray from pt) (ints_of_vals rv) (by unfold scanBound; omega)
  intro h' tk c R1 hcn k
  apply args_nil
  obtain ⟨o, es, ep, t, ho, hex, hd, g, nd, hm3, hb, hf, hn, _, _⟩ := R1
  have I2 : Inv X pins σ H1 { s1 with heap := h', toks := tk } := I1.kept k
  have hl : (es.toList.map L2.keyOf).length = c := by rw [List.length_map, Array.length_toList, hn]
  apply call_len_set ho hex hd hf (by rw [hn]; omega)
  refine ⟨.int ((es.toList.map L2.keyOf).length : Nat), H1, I2.tok _, ⟨_, by rw [hn, hl]⟩, q1 _ nd fun j => ?_⟩
  rw [← hm3 j, decide_eq_true_eq]
end
variable [TheDeck]
/-- the unlike ones -/
def dist : List Int → List Int
  | [] => []
  | x :: r => if x ∈ r then dist r else x :: dist r
theorem mem_dist : ∀ {l : List Int} {x : Int}, x ∈ dist l ↔ x ∈ l
  | [], _ => Iff.rfl
  | y :: r, x => by
    unfold dist
    by_cases h : y ∈ r
    · rw [if_pos h, mem_dist, List.mem_cons]
      exact ⟨.inr, fun z => z.elim (fun e => e ▸ h) id⟩
    · rw [if_neg h, List.mem_cons, List.mem_cons, mem_dist]
theorem nd_dist : ∀ (l : List Int), (dist l).Nodup
  | [] => List.nodup_nil
  | y :: r => by
    unfold dist
    split
    · exact nd_dist r
    · rename_i h
      exact List.nodup_cons.mpr ⟨fun z => h (mem_dist.mp z), nd_dist r⟩
theorem len_dist {l out : List Int} (nd : out.Nodup) (h : ∀ k, k ∈ out ↔ k ∈ l) : out.length = (dist l).length :=
  ((List.perm_ext_iff_of_nodup nd (nd_dist l)).mpr fun k => (h k).trans mem_dist.symm).length_eq
def pLenSet : P1 where
  run x Q := ∃ ns : List Int, x = .tuple (ns.map PyData.int) ∧ ns.length ≤ 1000 ∧ Q (.d (.int ((dist ns).length : Nat)))
  mono h q := let ⟨a, b, c, d⟩ := q; ⟨a, b, c, h _ d⟩
section
variable {X : Cx} {E : XK} {p p2 q pos : Pos} {a : Expr} {oa : Od}
theorem s_lenSet : S1 X.K (fun v H Q => ∃ (l : Addr) (ns : List Int), v = V.ref l ∧ SqT X.K H l (ns.map V.int) ∧ ns.length ≤ 1000 ∧ ∀ out : List Int, out.Nodup → (∀ k, k ∈ out ↔ k ∈ ns) → Q (.int out.length) H) pLenSet := by
  intro Hd H x v Qm Q e hx ⟨ns, hi, hl, h⟩ k
  subst hi
  obtain ⟨t, vs, rfl, t1, t2⟩ := hx.tup e
  obtain rfl := t2.ints
  refine ⟨t, ns, rfl, t1.seq, hl, fun out nd hm => ?_⟩
  rw [len_dist nd hm]
  exact dat_res (.int _) h k
theorem m_lenSet (hc : X.calm = true) (hg : Gl X "len") (hm : X.mg "len" = none) (hg2 : Gl X "set") (hm2 : X.mg "set" = none) (ha : OD X E a oa)
    (na : starEach [a] X.env = (false, eval a X.env) :: starEach [] X.env := by rfl) : EV X E (.Call (.Name "len" p) [.Call (.Name "set" p2) [a] [] q] [] pos) (xOp1 pLenSet oa) :=
  PE_imp (pe_lenSetT hc hg hm hg2 hm2 ha na) fun _ _ _ h => op1_imp s_lenSet h
end
end Mx

-- MB
namespace Kx
open PySem PyProof.Rows L2 Mx
variable [TheDeck]
def W_asked : Stm := sSeq (sSet 3 (xMeth (pIndex .tuple) isTup (odS 1) (odS 2))) (sSeq (sSet 4 (xOp2 pIx (odS 0) (odS 3))) (sRet (xOp2 qAdd (odE (xOp2 qAdd (odE (xOp2 qAdd (odE (xSl (odS 1) (bNone) (bSome (xVar 4)))) (odE (xTup (aCons (xVar 2) (aNil)))))) (odE (xSl (odS 1) (bSome (xVar 4)) (bSome (xVar 3)))))) (odE (xSl (odS 1) (bSome (xOp2 qAdd (odS 3) (odE (xInt 1)))) (bNone))))))
/-- taken out and put in -/
def askL (r o : List Int) (l : Int) : List Int :=
  let p := o.idxOf l
  let rest := o.eraseIdx p
  rest.take (r.getD p 0).toNat ++ [l] ++ rest.drop (r.getD p 0).toNat
theorem erase_cut (o : List Int) (p : Nat) : o.take p ++ o.drop (p + 1) = o.eraseIdx p := (List.eraseIdx_eq_take_drop_succ o p).symm
def okRule (r : List Int) : Prop := ∀ (i : Nat) (x : Int), r[i]? = some x → 0 ≤ x ∧ x ≤ i
structure PAsk (r o : List Int) (l : Int) : Prop where
  hl : l ∈ o
  hr : r.length = o.length
  ok : okRule r
  hz : o.length ≤ 1000
theorem rt_eq {Q : MV → Prop} {x y : D} (e : x = y) (q : Q (.d y)) : Q (.d x) := e ▸ q
theorem cutD_from1 {α : Type} (xs : List α) (k : Nat) : Mx.cutD xs (some ((k : Int) + 1)) none = xs.drop (k + 1) := cutD_from xs (k + 1)
theorem dT_cons (a : Int) : [PyData.int a] = List.map PyData.int [a] := rfl
/-- what the program tells: at its place, the letter moved -/
theorem asked_eq (o : List Int) (l : Int) (p g : Nat) (hg : g ≤ p) : o.take g ++ [l] ++ (o.take p).drop g ++ o.drop (p + 1) = (o.eraseIdx p).take g ++ [l] ++ (o.eraseIdx p).drop g := by
  rw [List.eraseIdx_eq_take_drop_succ]
  rcases Nat.le_total p o.length with h | h
  · rw [List.take_append_of_le_length (by rw [List.length_take]; omega), List.drop_append_of_le_length (by rw [List.length_take]; omega), List.take_take, Nat.min_eq_left hg]
    simp only [List.append_assoc]
  · rw [List.drop_of_length_le (Nat.le_succ_of_le h), List.append_nil, List.append_nil, List.take_take, Nat.min_eq_left hg]
theorem h_asked {r o : List Int} {l : Int} (h : PAsk r o l) (Q : MV → Prop) (Z : XP) (q : Q (.d (dT (askL r o l)))) : W_asked.run Z (entry 5 [.d (dT r), .d (dT o), .d (.int l)]) { nx := fun _ => Q (.d .none), rt := Q } := by
  have hp : o.idxOf l < o.length := List.idxOf_lt_length_of_mem h.hl
  obtain ⟨g, hg⟩ : ∃ g, r[o.idxOf l]? = some g := ⟨_, List.getElem?_eq_getElem (by rw [h.hr]; exact hp)⟩
  obtain ⟨h0, h1⟩ := h.ok _ _ hg
  have hgd : r.getD (o.idxOf l) 0 = g := by rw [List.getD_eq_getElem?_getD, hg]; rfl
  obtain ⟨k, rfl⟩ : ∃ k : Nat, g = (k : Int) := ⟨g.toNat, by omega⟩
  have hl := h.hl; have hz := h.hz
  walk_at "mx"
  refine rt_eq ?_ q
  have e : askL r o l = _ := Eq.trans (show askL r o l = (o.eraseIdx _).take k ++ [l] ++ (o.eraseIdx _).drop k by simp only [askL, hgd, Int.toNat_natCast]) (asked_eq o l _ k (Int.ofNat_le.mp h1)).symm
  simp only [e, cutD_to, cutD_from1, cutD_from, cutD_mid, dT, List.map_append, List.map_take, List.map_drop, List.map_cons, List.map_nil]
/-! the deck's helpers -/
theorem draw_ix {n k : Int} (h : 0 < n) (k0 : n < 2 → k = 0) (k1 : 2 ≤ n → 0 ≤ k ∧ k < n) : 0 ≤ k ∧ k < n := by
  by_cases z : n < 2
  · rw [k0 z]; omega
  · exact k1 (by omega)
theorem okRule_snoc {r : List Int} {x : Int} (h : okRule r) (h0 : 0 ≤ x) (h1 : x ≤ r.length) : okRule (r ++ [x]) := fun i y hy => by
  rcases Nat.lt_or_ge i r.length with hi | hi
  · rw [List.getElem?_append_left hi] at hy
    exact h i y hy
  · rw [List.getElem?_append_right hi] at hy
    obtain ⟨z, rfl⟩ : i - r.length = 0 ∧ x = y := by
      cases e : i - r.length with
      | zero => rw [e] at hy; exact ⟨rfl, Option.some.inj hy⟩
      | succ k => rw [e] at hy; cases hy
    omega
theorem okRule_nil : okRule [] := fun i y hy => by cases hy
theorem okRule_rep (n : Nat) : okRule (List.replicate n 0) := fun i y hy => by
  have := List.mem_of_getElem? hy
  rw [List.mem_replicate] at this
  omega
def dTs (L : List (List Int)) : List D := L.map dT
theorem dTs_snoc (A : List (List Int)) (r : List Int) (x : Int) : dTs A ++ [.tuple (r.map PyData.int ++ [.int x])] = dTs (A ++ [r ++ [x]]) := by
  unfold dTs dT
  rw [List.map_append, List.map_cons, List.map_nil, List.map_append]
  rfl
theorem dTs_len (L : List (List Int)) : (dTs L).length = L.length := List.length_map ..
theorem dTs_app (A B : List (List Int)) : dTs A ++ dTs B = dTs (A ++ B) := List.map_append.symm
theorem dTs_get {L : List (List Int)} {i : Nat} {x : D} (h : (dTs L)[i]? = some x) : ∃ r, L[i]? = some r ∧ x = dT r := by
  unfold dTs at h
  rw [List.getElem?_map] at h
  cases e : L[i]? with
  | none => rw [e] at h; cases h
  | some r => rw [e] at h; exact ⟨r, rfl, (Option.some.inj h).symm⟩
structure POrd (n : Nat) (o : List Int) : Prop where
  len : o.length = n
  nd : o.Nodup
  mem : ∀ x ∈ o, 0 ≤ x ∧ x < n
theorem POrd.has {n : Nat} {o : List Int} (h : POrd n o) {l : Int} (h0 : 0 ≤ l) (h1 : l < n) : l ∈ o :=
  all_in o (iR n) h.nd (fun x hx => mem_iR.mpr (h.mem x hx)) (by rw [h.len, iR_length]) l (mem_iR.mpr ⟨h0, h1⟩)
abbrev RI := List Int × List Int × Int
def sp_asked : Mx.Spec := spF (α := RI) (fun a => [.d (dT a.1), .d (dT a.2.1), .d (.int a.2.2)]) (fun a => PAsk a.1 a.2.1 a.2.2) (fun a m => m = .d (dT (askL a.1 a.2.1 a.2.2)))
theorem askL_len {r o : List Int} {l : Int} (h : PAsk r o l) : (askL r o l).length = o.length := by
  unfold askL
  have hp : o.idxOf l < o.length := List.idxOf_lt_length_of_mem h.hl
  simp only [List.length_append, List.length_take, List.length_drop, List.length_eraseIdx_of_lt hp, List.length_cons, List.length_nil]
  omega
theorem askL_mem {r o : List Int} {l : Int} (h : PAsk r o l) : ∀ x ∈ askL r o l, x ∈ o := fun x hx => by
  unfold askL at hx
  rcases List.mem_append.mp hx with a | a
  · rcases List.mem_append.mp a with a | a
    · exact List.mem_of_mem_eraseIdx (List.mem_of_mem_take a)
    · rw [List.mem_singleton.mp a]
      exact h.hl
  · exact List.mem_of_mem_eraseIdx (List.mem_of_mem_drop a)
theorem h_asked_s (Z : XP) (ms : List MV) (Q : MV → Prop) (q : sp_asked.run Z ms Q) : W_asked.run Z (entry 5 ms) { nx := fun _ => Q (.d .none), rt := Q } := by
  obtain ⟨⟨r, o, l⟩, rfl, h, q⟩ := q
  have q' := q _ rfl
  dsimp only at h q' ⊢
  exact h_asked h Q Z q'
theorem bs_rep (n : Nat) : List.replicate n (PyData.bool true) = (List.replicate n true).map PyData.bool := by rw [List.map_replicate]
theorem all_rep (n : Nat) : (List.replicate n true).all id = true := by
  induction n with
  | zero => rfl
  | succ k ih => rw [List.replicate_succ, List.all_cons, ih]; rfl
theorem perm_ord {n : Nat} {o : List Int} (h : o.Perm (iR n)) : POrd n o where
  len := by rw [h.length_eq, iR_length]
  nd := by
    refine h.nodup_iff.mpr ?_
    unfold iR
    rw [List.Nodup, List.pairwise_map]
    refine List.Pairwise.imp (fun {a b} z e => z (by omega)) (List.nodup_range (n := n))
  mem := fun x hx => mem_iR.mp (h.mem_iff.mp hx)
theorem shaped_T (a : List Int) : SeqAt.shaped (dT a) = true := by
  have h : PyData.canLayAll0 (a.map PyData.int) = true ∧ PyData.depthAll (a.map PyData.int) = 0 := by
    induction a with
    | nil => exact ⟨rfl, rfl⟩
    | cons x r ih => exact ⟨by rw [List.map_cons, PyData.canLayAll0, ih.1]; rfl, by rw [List.map_cons, PyData.depthAll, ih.2]; rfl⟩
  unfold SeqAt.shaped
  rw [show (dT a).canLay0 = PyData.canLayAll0 (a.map PyData.int) from by simp only [dT, PyData.canLay0], h.1, show (dT a).depth = PyData.depthAll (a.map PyData.int) + 1 from by simp only [dT, PyData.depth], h.2]
  rfl
theorem ne_T (a : List Int) {Q : MV → Prop} (q : Q (.d (.bool false))) : pNe.run (dT a) (dT a) Q := by
  refine ⟨⟨shaped_T a, shaped_T a⟩, ?_⟩
  rw [eqv_T, beq_self_eq_true]
  exact q
theorem okd_r {r : List Int} (h : okRule r) (hn : r.length ≤ 12) : Okd (dT r) 900 1 :=
  (Okd.ints (m := 12) (fun x hx => by
    obtain ⟨i, hi, rfl⟩ := List.getElem_of_mem hx
    have := h i _ (List.getElem?_eq_getElem hi)
    omega) hn).mono (by decide) (Nat.le_refl _)
theorem okd_o {n : Nat} {o : List Int} (h : POrd n o) (hn : n ≤ 12) : Okd (dT o) 900 1 :=
  (Okd.ints (m := 12) (fun x hx => by
    have := h.mem x hx
    omega) (by rw [h.len]; exact hn)).mono (by decide) (Nat.le_refl _)
theorem ite_eqs {s : Str} {A B : Prop} (b : B) : if (!PyData.eqv (.str s) (.str s)) = true then A else B := by
  rw [eqv_str, beq_self_eq_true]
  exact ite_f Bool.false_ne_true b
theorem g_step {i : Nat} {x : D} {e : Mx.Env} {Q : Mx.Env → Prop} (h : Q (e.set i (some (.d x)))) : (Mx.gName i).run x e Q := h
/-! ### many asks -/
theorem askL_perm {r o : List Int} {l : Int} (h : l ∈ o) : (askL r o l).Perm o := by
  unfold askL
  have hp : o.idxOf l < o.length := List.idxOf_lt_length_of_mem h
  have he : o[o.idxOf l] = l := List.getElem_idxOf hp
  refine List.Perm.trans ?_ (perm_eraseIdx o (o.idxOf l) hp)
  rw [he, List.append_assoc]
  refine List.perm_middle.trans ?_
  show List.Perm (l :: (List.take _ _ ++ List.drop _ _)) _
  rw [List.take_append_drop]
theorem POrd.perm {n : Nat} {o o' : List Int} (h : POrd n o) (p : o'.Perm o) : POrd n o' :=
  ⟨by rw [p.length_eq]; exact h.len, p.nodup_iff.mpr h.nd, fun x hx => h.mem x (p.mem_iff.mp hx)⟩
structure PRule (n : Nat) (r : List Int) : Prop where
  len : r.length = n
  ok : okRule r
theorem pask {n : Nat} {r o : List Int} {l : Int} (hr : PRule n r) (ho : POrd n o) (hn : n ≤ 1000) (hl : 0 ≤ l ∧ l < n) : PAsk r o l :=
  ⟨ho.has hl.1 hl.2, by rw [hr.len, ho.len], hr.ok, by rw [ho.len]; exact hn⟩
theorem POrd.ask {n : Nat} {r o : List Int} {l : Int} (ho : POrd n o) (hl : 0 ≤ l ∧ l < n) : POrd n (askL r o l) := ho.perm (askL_perm (ho.has hl.1 hl.2))
def PText (n : Nat) (t : List Int) : Prop := ∀ l ∈ t, 0 ≤ l ∧ l < (n : Int)
def runL (r o t : List Int) : List Int := t.foldl (askL r) o
theorem POrd.run {n : Nat} {r o t : List Int} (ho : POrd n o) (ht : PText n t) : POrd n (runL r o t) := by
  induction t generalizing o with
  | nil => exact ho
  | cons x q ih => exact ih (ho.ask (ht x (List.mem_cons_self ..))) fun l hl => ht l (List.mem_cons_of_mem _ hl)
theorem PText.app {n : Nat} {a b : List Int} (h : PText n a) (k : PText n b) : PText n (a ++ b) := fun l hl => (List.mem_append.mp hl).elim (h l) (k l)
theorem PText.take {n : Nat} {a : List Int} (h : PText n a) (i : Nat) : PText n (a.take i) := fun l hl => h l (List.mem_of_mem_take hl)
theorem PText.drop {n : Nat} {a : List Int} (h : PText n a) (i : Nat) : PText n (a.drop i) := fun l hl => h l (List.mem_of_mem_drop hl)
theorem PText.nil {n : Nat} : PText n [] := fun l hl => nomatch hl
theorem POrd.text {n : Nat} {o : List Int} (h : POrd n o) : PText n o := h.mem
theorem runL_app (r o a b : List Int) : runL r o (a ++ b) = runL r (runL r o a) b := List.foldl_append
theorem runL_take {r o t : List Int} {i : Nat} {l : Int} (h : t[i]? = some l) : runL r o (t.take (i + 1)) = askL r (runL r o (t.take i)) l := by
  rw [List.take_succ, h, runL_app]
  rfl
theorem dT_get {t : List Int} {i : Nat} {x : D} (h : (t.map PyData.int)[i]? = some x) : ∃ l, t[i]? = some l ∧ x = .int l := by
  rw [List.getElem?_map] at h
  cases e : t[i]? with
  | none => rw [e] at h; cases h
  | some r => rw [e] at h; exact ⟨r, rfl, (Option.some.inj h).symm⟩
structure PRun (r o t : List Int) (n : Nat) : Prop where
  r : PRule n r
  o : POrd n o
  t : PText n t
  hn : n ≤ 1000
abbrev RO := (List Int × List Int × List Int) × Nat
def sp_run : Mx.Spec := spF (α := RO) (fun a => [.d (dT a.1.1), .d (dT a.1.2.1), .d (dT a.1.2.2)]) (fun a => PRun a.1.1 a.1.2.1 a.1.2.2 a.2) (fun a m => m = .d (dT (runL a.1.1 a.1.2.1 a.1.2.2)))
def W_run_b1 : Stm := sSet 3 (xCall sp_asked (aCons (xVar 0) (aCons (xVar 3) (aCons (xVar 4) (aNil)))))
def W_run : Stm := sSeq (sSet 3 (xVar 1)) (sSeq (sFor (iTup (xVar 2)) (gName 4) W_run_b1) (sRetS 3))
theorem h_run (Z : XP) (ms : List MV) (Q : MV → Prop) (q : sp_run.run Z ms Q) : W_run.run Z (entry 5 ms) { nx := fun _ => Q (.d .none), rt := Q } := by
  obtain ⟨⟨⟨r, o, t⟩, n⟩, rfl, h, q⟩ := q
  dsimp only at h q
  walk_at "mx"
  refine ⟨fun i e => ∃ x4, e = [some (.d (dT r)), some (.d (dT o)), some (.d (dT t)), some (.d (dT (runL r o (t.take i)))), x4], ⟨_, rfl⟩, ?_, ?_⟩
  · rintro i x e hi ⟨x4, rfl⟩
    obtain ⟨l, hl, rfl⟩ := dT_get hi
    have hm := h.t l (List.mem_of_getElem? hl)
    walk_at "mx"
    refine ⟨(r, runL r o (t.take i), l), rfl, pask h.r (h.o.run (h.t.take i)) h.hn hm, ?_⟩
    rintro m rfl
    exact ⟨_, by rw [runL_take hl]; rfl⟩
  · rintro e ⟨x4, rfl⟩
    rw [List.length_map, List.take_length]
    walk_at "mx"
    exact q _ rfl
/-! ### a drawn text, of deck A -/
theorem PText.snoc {n : Nat} {t : List Int} {l : Int} (h : PText n t) (hl : 0 ≤ l ∧ l < n) : PText n (t ++ [l]) := fun x hx => by
  rcases List.mem_append.mp hx with a | a
  · exact h x a
  · rw [List.mem_singleton.mp a]; exact hl
end Kx

-- MV
namespace Kx
open PySem PyProof.Rows L2 Mx
variable [TheDeck]
/-! ### pairs of letters in unlike orders -/
/-- over y of L: how many x of M -/
def pairL (R : Int → Int → Bool) (L M : List Int) : Nat := (L.map fun y => M.countP fun x => R x y).sum
theorem pairL_perm1 {R : Int → Int → Bool} {L L' M : List Int} (h : L.Perm L') : pairL R L M = pairL R L' M := (h.map _).sum_nat
theorem pairL_perm2 {R : Int → Int → Bool} {L M M' : List Int} (h : M.Perm M') : pairL R L M = pairL R L M' := by
  unfold pairL
  congr 1
  exact List.map_congr_left fun y _ => h.countP_eq _
theorem pairL_cons {R : Int → Int → Bool} {L M : List Int} {x : Int} : pairL R L (x :: M) = pairL R L M + L.countP fun y => R x y := by
  induction L with
  | nil => rfl
  | cons y L ih =>
    unfold pairL at ih ⊢
    rw [List.map_cons, List.map_cons, List.sum_cons, List.sum_cons, ih, List.countP_cons, List.countP_cons]
    omega
theorem pairL_swap {R : Int → Int → Bool} {L M : List Int} : pairL R L M = pairL (fun x y => R y x) M L := by
  induction M with
  | nil =>
    unfold pairL
    rw [List.map_nil, List.sum_nil]
    induction L with
    | nil => rfl
    | cons y L ih => rw [List.map_cons, List.sum_cons, ih]; rfl
  | cons x M ih =>
    rw [pairL_cons, ih]
    show _ = ((x :: M).map fun y => L.countP fun x => R y x).sum
    rw [List.map_cons, List.sum_cons]
    show (M.map fun y => L.countP fun x => R y x).sum + _ = _
    omega
theorem pairL_congr {R S : Int → Int → Bool} {L M : List Int} (h : ∀ x ∈ M, ∀ y ∈ L, R x y = S x y) : pairL R L M = pairL S L M := by
  unfold pairL
  congr 1
  exact List.map_congr_left fun y hy => List.countP_congr fun x hx => by rw [h x hx y hy]
/-- x stands ahead of y in p, behind it in o -/
def relL (o p : List Int) (x y : Int) : Bool := decide (p.idxOf x < p.idxOf y) && decide (o.idxOf y < o.idxOf x)
def unlikeL (o p : List Int) : Nat := pairL (relL o p) p p
theorem ord_perm {n : Nat} {o p : List Int} (ho : POrd n o) (hp : POrd n p) : o.Perm p := (List.perm_ext_iff_of_nodup ho.nd hp.nd).mpr fun x => ⟨fun h => hp.has (ho.mem x h).1 (ho.mem x h).2, fun h => ho.has (hp.mem x h).1 (hp.mem x h).2⟩
theorem unlike_any {n : Nat} {o p L M : List Int} (hp : POrd n p) (hL : POrd n L) (hM : POrd n M) : unlikeL o p = pairL (relL o p) L M := by
  unfold unlikeL
  rw [pairL_perm1 (ord_perm hp hL), pairL_perm2 (ord_perm hp hM)]
theorem unlike_symm {n : Nat} {o p : List Int} (ho : POrd n o) (hp : POrd n p) : unlikeL o p = unlikeL p o := by
  rw [unlike_any hp ho ho, pairL_swap]
  refine pairL_congr fun x _ y _ => ?_
  unfold relL
  rw [Bool.and_comm]
/-- what stands ahead of a place, counted -/
theorem take_count {p : List Int} (nd : p.Nodup) {Q : Int → Bool} {i : Nat} {y : Int} (h : p[i]? = some y) : (p.take i).countP Q = p.countP fun x => decide (p.idxOf x < p.idxOf y) && Q x := by
  obtain ⟨hi, e⟩ := List.getElem?_eq_some_iff.mp h
  have iy : p.idxOf y = i := by
    have := List.Nodup.idxOf_getElem nd i hi
    rw [e] at this
    exact this
  have idx : ∀ (j : Nat) (hj : j < p.length), p.idxOf p[j] = j := fun j hj => List.Nodup.idxOf_getElem nd j hj
  conv => rhs; arg 2; rw [← List.take_append_drop i p]
  rw [List.countP_append]
  have e1 : (p.take i).countP (fun x => decide (p.idxOf x < p.idxOf y) && Q x) = (p.take i).countP Q := by
    refine List.countP_congr fun x hx => ?_
    obtain ⟨j, hj, ej⟩ := List.getElem_of_mem hx
    rw [List.length_take] at hj
    rw [List.getElem_take] at ej
    have := idx j (by omega)
    rw [ej] at this
    rw [this, iy]
    simp
    omega
  have e2 : (p.drop i).countP (fun x => decide (p.idxOf x < p.idxOf y) && Q x) = 0 := by
    refine List.countP_eq_zero.mpr fun x hx => ?_
    obtain ⟨j, hj, ej⟩ := List.getElem_of_mem hx
    rw [List.length_drop] at hj
    rw [List.getElem_drop] at ej
    have := idx (i + j) (by omega)
    rw [ej] at this
    rw [this, iy]
    simp
    omega
  rw [e1, e2, Nat.add_zero]
def viewL (o p : List Int) : List Int := p.map fun x => (o.idxOf x : Int)
def sp_view : Mx.Spec := spF (α := (List Int × List Int) × Nat) (fun a => [.d (dT a.1.1), .d (dT a.1.2)]) (fun a => POrd a.2 a.1.1 ∧ POrd a.2 a.1.2 ∧ a.2 ≤ 1000) (fun a m => m = .d (dT (viewL a.1.1 a.1.2)))
def W_view : Stm := sRet (xOp1 pTuple (odE (xLc (iTup (xVar 1)) (gName 2) tYes (xMeth (pIndex .tuple) isTup (odS 0) (odS 2)) [2])))
theorem h_view (Z : XP) (ms : List MV) (Q : MV → Prop) (q : sp_view.run Z ms Q) : W_view.run Z (entry 3 ms) { nx := fun _ => Q (.d .none), rt := Q } := by
  obtain ⟨⟨⟨o, p⟩, n⟩, rfl, ⟨ho, hp, hn⟩, q⟩ := q
  dsimp only at ho hp hn q
  have lp := hp.len
  walk_at "mx"
  refine ⟨fun i acc => acc = (viewL o (p.take i)).map PyData.int, rfl, ?_, ?_⟩
  · rintro i x acc hi rfl _
    obtain ⟨l, hl, rfl⟩ := dT_get hi
    have hm := hp.mem l (List.mem_of_getElem? hl)
    have hlo : l ∈ o := ho.has hm.1 hm.2
    walk_at "mx"
    show _ ++ [_] = _
    unfold viewL
    rw [List.take_succ, hl, List.map_append, List.map_append]
    rfl
  refine ⟨by rw [List.length_map]; omega, noOwn1 (fun c h => nomatch h), ?_⟩
  rintro acc rfl
  rw [List.length_map, List.take_length]
  have hv : ((viewL o p).map PyData.int).length ≤ 1000 := by unfold viewL; rw [List.length_map, List.length_map]; omega
  walk_at "mx"
  exact q _ rfl
def sp_unlike : Mx.Spec := spF (α := (List Int × List Int) × Nat) (fun a => [.d (dT a.1.1), .d (dT a.1.2)]) (fun a => POrd a.2 a.1.1 ∧ POrd a.2 a.1.2 ∧ a.2 ≤ 1000) (fun a m => m = .d (.int (unlikeL a.1.1 a.1.2 : Nat)))
def W_unlike : Stm := sSeq (sSet 2 (xCall sp_view (aCons (xVar 0) (aCons (xVar 1) (aNil))))) (sRet (xOp1 pSumM (odE (xLc (iEnum (aCons (xVar 2) (aNil))) (gTup (gCons (gName 3) (gCons (gName 4) (gNil)))) tYes (xOp1 pLen (odE (xLc (iTup (xSl (odS 2) (bNone) (bSome (xVar 3)))) (gName 5) (tB (xOp2 pGt (odS 5) (odS 4))) (xVar 5) [5]))) [3, 4]))))
def cntAt (o p : List Int) (i : Nat) : Int := (((p.take i).countP fun x => decide (o.idxOf (p.getD i 0) < o.idxOf x) : Nat) : Int)
def cntsL (o p : List Int) (k : Nat) : List Int := (List.range k).map (cntAt o p)
theorem cnts_sum {n : Nat} {o p : List Int} (hp : POrd n p) : (cntsL o p p.length).sum = (unlikeL o p : Nat) := by
  have e : cntsL o p p.length = (p.map fun y => ((p.countP fun x => relL o p x y : Nat) : Int)) := by
    refine List.ext_getElem? fun i => ?_
    unfold cntsL
    rw [List.getElem?_map, List.getElem?_map]
    by_cases hi : i < p.length
    · rw [List.getElem?_range hi, List.getElem?_eq_getElem hi]
      show some (cntAt o p i) = some _
      unfold cntAt
      rw [List.getD_eq_getElem?_getD, List.getElem?_eq_getElem hi, take_count hp.nd (List.getElem?_eq_getElem hi)]
      rfl
    · rw [List.getElem?_eq_none (by rw [List.length_range]; omega), List.getElem?_eq_none (by omega)]
      rfl
  rw [e]
  have cast : ∀ (L : List Nat), (L.map fun k : Nat => (k : Int)).sum = ((L.sum : Nat) : Int) := fun L => by
    induction L with
    | nil => rfl
    | cons k L ih => rw [List.map_cons, List.sum_cons, List.sum_cons, ih]; omega
  unfold unlikeL pairL
  rw [← cast, List.map_map]
  rfl
theorem cnts_succ (o p : List Int) (k : Nat) : cntsL o p (k + 1) = cntsL o p k ++ [cntAt o p k] := by
  unfold cntsL
  rw [List.range_succ, List.map_append]
  rfl
theorem noOwn2 {e : Mx.Env} {i j : Nat} (h : ∀ c, e[i]? ≠ some (some (.o c))) (h' : ∀ c, e[j]? ≠ some (some (.o c))) : ∀ k ∈ [i, j], ∀ c, e[k]? ≠ some (some (.o c)) := fun k hk c => by
  rcases List.mem_cons.mp hk with rfl | hk
  · exact h c
  · rw [List.mem_singleton.mp hk]
    exact h' c
theorem enumL_length (xs : List D) : (enumL xs).length = xs.length := by unfold enumL; simp
theorem h_unlike (Z : XP) (ms : List MV) (Q : MV → Prop) (q : sp_unlike.run Z ms Q) : W_unlike.run Z (entry 6 ms) { nx := fun _ => Q (.d .none), rt := Q } := by
  obtain ⟨⟨⟨o, p⟩, n⟩, rfl, ⟨ho, hp, hn⟩, q⟩ := q
  dsimp only at ho hp hn q
  have lp := hp.len
  have q := q _ rfl
  have vl : (viewL o p).length = p.length := by unfold viewL; rw [List.length_map]
  rw [← cnts_sum hp] at q
  walk_at "mx"
  refine ⟨((o, p), n), rfl, ⟨ho, hp, hn⟩, ?_⟩
  rintro m rfl
  dsimp only
  walk_at "mx"
  refine ⟨_, _, rfl, rfl, ?_⟩
  refine ⟨fun i acc => acc = (cntsL o p i).map PyData.int, rfl, ?_, ?_⟩
  · rintro i x acc hi rfl _
    obtain ⟨y, hy, rfl⟩ := enumL_get hi
    obtain ⟨v, hv, rfl⟩ := dT_get hy
    have hi2 : i < p.length := by rw [← vl]; exact (List.getElem?_eq_some_iff.mp hv).1
    have ev : v = (o.idxOf (p.getD i 0) : Int) := by
      unfold viewL at hv
      rw [List.getElem?_map, List.getElem?_eq_getElem hi2] at hv
      rw [List.getD_eq_getElem?_getD, List.getElem?_eq_getElem hi2]
      exact (Option.some.inj hv).symm
    subst ev
    walk_at "mx"
    have c2 : Mx.cutD ((viewL o p).map PyData.int) none (some (i : Int)) = (viewL o (p.take i)).map PyData.int := by
      rw [cutD_map, cutD_to]
      unfold viewL
      rw [← List.map_take]
    have ec : cntAt o p i = ((((viewL o (p.take i)).filter fun x => decide ((o.idxOf (p.getD i 0) : Int) < x)).length : Nat) : Int) := by
      unfold cntAt viewL
      rw [← List.countP_eq_length_filter, List.countP_map]
      congr 1
      refine List.countP_congr fun x _ => ?_
      simp
    have vl2 : (viewL o (p.take i)).length ≤ 1000 := by unfold viewL; rw [List.length_map, List.length_take]; omega
    rw [c2]
    generalize viewL o (p.take i) = u at ec vl2 ⊢
    generalize (o.idxOf (p.getD i 0) : Int) = v at ec ⊢
    have hul := List.length_filter_le (fun x => decide (v < x)) u
    refine ⟨fun j acc => acc = ((u.take j).filter fun x => decide (v < x)).map PyData.int, rfl, ?_, ?_⟩
    · rintro j x acc hj rfl _
      obtain ⟨l, hl, rfl⟩ := dT_get hj
      walk_at "mx"
      refine ite_d (fun c => ?_) (fun c => ?_)
      · walk_at "mx"
        rw [List.take_succ, hl, List.filter_append, List.map_append]
        show _ = _ ++ (List.filter _ [l]).map _
        rw [List.filter_cons_of_pos (by simpa using c)]
        rfl
      · refine ⟨rfl, ?_⟩
        rw [List.take_succ, hl, List.filter_append, List.map_append]
        show _ = _ ++ (List.filter _ [l]).map _
        rw [List.filter_cons_of_neg (by simpa using c)]
        simp
    refine ⟨by rw [List.length_map]; omega, noOwn1 (fun c h => nomatch h), ?_⟩
    rintro acc rfl
    rw [List.length_map, List.take_length]
    walk_at "mx"
    show _ ++ [_] = _
    rw [cnts_succ, List.map_append, ec, List.length_map]
    rfl
  have hel : (enumL ((viewL o p).map PyData.int)).length = p.length := by rw [enumL_length, List.length_map, vl]
  refine ⟨by rw [hel]; omega, noOwn2 (fun c h => nomatch h) (fun c h => nomatch h), ?_⟩
  rintro acc rfl
  rw [hel]
  walk_at "mx"
  refine ⟨_, rfl, ?_⟩
  exact ⟨MVd_ne, q⟩
theorem unlike_le {n : Nat} {o p : List Int} (hp : POrd n p) : unlikeL o p ≤ n * n := by
  unfold unlikeL pairL
  have : ∀ L : List Int, (L.map fun y => p.countP fun x => relL o p x y).sum ≤ L.length * n := fun L => by
    induction L with
    | nil => simp
    | cons y L ih =>
      have := List.countP_le_length (p := fun x => relL o p x y) (l := p)
      rw [hp.len] at this
      rw [List.map_cons, List.sum_cons, List.length_cons, Nat.add_mul]
      omega
  have := this p
  rw [hp.len] at this
  exact this
end Kx

-- M34
namespace Kx
open PySem PyProof.Rows L2 Mx
variable [TheDeck]
def sumIdx (p t : List Int) : Int := (t.map fun l => (p.idxOf l : Int)).sum
theorem relL_iff {o p : List Int} {x y : Int} : relL o p x y = true ↔ p.idxOf x < p.idxOf y ∧ o.idxOf y < o.idxOf x := by
  unfold relL
  simp
theorem idx_inj {o : List Int} {x y : Int} (hx : x ∈ o) (h : o.idxOf x = o.idxOf y) : x = y := by
  have hi := List.idxOf_lt_length_of_mem hx
  have e1 : o[o.idxOf x] = x := List.getElem_idxOf hi
  have e2 : o[o.idxOf y]'(by rw [← h]; exact hi) = y := List.getElem_idxOf (by rw [← h]; exact hi)
  rw [← e1, ← e2]
  congr 1
theorem idx_count {n : Nat} {p : List Int} {l : Int} (hp : POrd n p) (hl : l ∈ p) : p.countP (fun x => decide (p.idxOf x < p.idxOf l)) = p.idxOf l := by
  have hi := List.idxOf_lt_length_of_mem hl
  have := take_count hp.nd (Q := fun _ => true) (i := p.idxOf l) (y := l) (by rw [List.getElem?_eq_getElem hi, List.getElem_idxOf hi])
  simp only [Bool.and_true] at this
  rw [← this, List.countP_true, List.length_take]
  omega
theorem sum_self {n : Nat} {p : List Int} (hp : POrd n p) : 2 * sumIdx p p = n * ((n : Int) - 1) := by
  have e : (p.map fun l => (p.idxOf l : Int)) = (List.range n).map fun i : Nat => (i : Int) := by
    refine List.ext_getElem? fun i => ?_
    rw [List.getElem?_map, List.getElem?_map]
    by_cases hi : i < p.length
    · rw [List.getElem?_range (by rw [← hp.len]; exact hi), List.getElem?_eq_getElem hi]
      show some ((p.idxOf p[i] : Nat) : Int) = some (i : Int)
      rw [List.Nodup.idxOf_getElem hp.nd]
    · rw [List.getElem?_eq_none (by omega), List.getElem?_eq_none (by rw [List.length_range, ← hp.len]; omega)]
      rfl
  unfold sumIdx
  rw [e]
  clear e
  have : ∀ m : Nat, 2 * ((List.range m).map fun i : Nat => (i : Int)).sum = m * ((m : Int) - 1) := fun m => by
    induction m with
    | zero => rfl
    | succ m ih =>
      rw [List.range_succ, List.map_append, List.sum_append, Int.mul_add, ih]
      simp only [List.map_cons, List.map_nil, List.sum_cons, List.sum_nil]
      rw [show ((m + 1 : Nat) : Int) = (m : Int) + 1 by omega, Int.add_mul (m : Int) 1, Int.one_mul, show (m : Int) + 1 - 1 = (m : Int) by omega, Int.mul_sub, Int.mul_one]
      omega
  exact this n
theorem unlike_self {p : List Int} : unlikeL p p = 0 := by
  have z : ∀ L : List Int, (L.map fun y => p.countP fun x => relL p p x y).sum = 0 := fun L => by
    induction L with
    | nil => rfl
    | cons y L ih =>
      rw [List.map_cons, List.sum_cons, ih, List.countP_eq_zero.mpr]
      intro x _
      unfold relL
      simp
      omega
  exact z p

theorem idx_rev {r : List Int} {l : Int} (nd : r.Nodup) (h : l ∈ r) : r.reverse.idxOf l = r.length - 1 - r.idxOf l := by
  have hi := List.idxOf_lt_length_of_mem h
  have nd2 : r.reverse.Nodup := (List.reverse_perm r).nodup_iff.mpr nd
  have e : r.reverse[r.length - 1 - r.idxOf l]? = some l := by
    rw [List.getElem?_reverse (by omega)]
    rw [show r.length - 1 - (r.length - 1 - r.idxOf l) = r.idxOf l by omega, List.getElem?_eq_getElem hi, List.getElem_idxOf hi]
  obtain ⟨hj, e2⟩ := List.getElem?_eq_some_iff.mp e
  have := List.Nodup.idxOf_getElem nd2 _ hj
  rw [e2] at this
  exact this
theorem cast_idx (p : List Int) : ∀ q : List Int, (((q.map fun x => p.idxOf x).sum : Nat) : Int) = sumIdx p q
  | [] => rfl
  | y :: q => by
    have := cast_idx p q
    unfold sumIdx at this ⊢
    rw [List.map_cons, List.map_cons, List.sum_cons, List.sum_cons, ← this]
    omega
theorem unlike_rev {n : Nat} {p : List Int} (hp : POrd n p) : 2 * ((unlikeL p p.reverse : Nat) : Int) = n * ((n : Int) - 1) := by
  have hr : POrd n p.reverse := hp.perm (List.reverse_perm p)
  have e1 : unlikeL p p.reverse = pairL (fun x y => decide (p.idxOf y < p.idxOf x)) p p := by
    rw [unlike_any hr hp hp]
    refine pairL_congr fun x hx y hy => ?_
    have hi := List.idxOf_lt_length_of_mem hx
    have hj := List.idxOf_lt_length_of_mem hy
    unfold relL
    rw [idx_rev hp.nd hx, idx_rev hp.nd hy, Bool.eq_iff_iff]
    simp only [Bool.and_eq_true, decide_eq_true_eq]
    omega
  have e2 : pairL (fun x y => decide (p.idxOf y < p.idxOf x)) p p = (p.map fun x => p.idxOf x).sum := by
    rw [pairL_swap]
    unfold pairL
    congr 1
    exact List.map_congr_left fun x hx => idx_count hp hx
  have e3 : (((p.map fun x => p.idxOf x).sum : Nat) : Int) = sumIdx p p := cast_idx p p
  rw [e1, e2, e3]
  exact sum_self hp

/-! letters called otherwise -/
theorem idx_map {f : Int → Int} : ∀ {o : List Int} {x : Int}, (∀ a ∈ x :: o, ∀ b ∈ x :: o, f a = f b → a = b) → (o.map f).idxOf (f x) = o.idxOf x
  | [], _, _ => rfl
  | y :: o, x, h => by
    rw [List.map_cons, List.idxOf_cons, List.idxOf_cons]
    by_cases e : y = x
    · subst e
      simp
    · have e1 : (f y == f x) = false := beq_eq_false_iff_ne.mpr fun z => e (h y (by simp) x (by simp) z)
      have e2 : (y == x) = false := beq_eq_false_iff_ne.mpr e
      rw [e1, e2]
      simp only [cond_false]
      rw [idx_map fun a ha b hb => h a (by rcases List.mem_cons.mp ha with z | z; exact List.mem_cons.mpr (.inl z); exact List.mem_cons_of_mem _ (List.mem_cons_of_mem _ z)) b (by rcases List.mem_cons.mp hb with z | z; exact List.mem_cons.mpr (.inl z); exact List.mem_cons_of_mem _ (List.mem_cons_of_mem _ z))]
def callL (c o : List Int) : List Int := o.map fun x => c.getD x.toNat 0
theorem call_inj {n : Nat} {c : List Int} (hc : POrd n c) {a b : Int} (ha : 0 ≤ a ∧ a < n) (hb : 0 ≤ b ∧ b < n) (h : c.getD a.toNat 0 = c.getD b.toNat 0) : a = b := by
  have lc := hc.len
  rw [List.getD_eq_getElem?_getD, List.getD_eq_getElem?_getD, List.getElem?_eq_getElem (by omega : a.toNat < c.length), List.getElem?_eq_getElem (by omega : b.toNat < c.length)] at h
  have := (List.getElem_inj hc.nd).mp (show c[a.toNat]'(by omega) = c[b.toNat]'(by omega) from h)
  omega
theorem call_ord {n : Nat} {c o : List Int} (hc : POrd n c) (ho : POrd n o) : POrd n (callL c o) := by
  have lc := hc.len
  refine ⟨by unfold callL; rw [List.length_map, ho.len], ?_, fun x hx => ?_⟩
  · unfold callL
    rw [List.Nodup, List.pairwise_map]
    exact List.Pairwise.imp_of_mem (fun {a b} ha hb ne e => ne (call_inj hc (ho.mem a ha) (ho.mem b hb) e)) ho.nd
  · obtain ⟨y, hy, rfl⟩ := List.mem_map.mp hx
    have := ho.mem y hy
    rw [List.getD_eq_getElem?_getD, List.getElem?_eq_getElem (by omega : y.toNat < c.length)]
    exact hc.mem _ (List.getElem_mem _)
theorem unlike_call {n : Nat} {c o p : List Int} (hc : POrd n c) (ho : POrd n o) (hp : POrd n p) : unlikeL (callL c o) (callL c p) = unlikeL o p := by
  have inj : ∀ q : List Int, POrd n q → ∀ x ∈ p, (callL c q).idxOf (c.getD x.toNat 0) = q.idxOf x := fun q hq x hx => by
    refine idx_map (f := fun x => c.getD x.toNat 0) fun a ha b hb e => call_inj hc ?_ ?_ e
    · rcases List.mem_cons.mp ha with rfl | ha
      · exact hp.mem _ hx
      · exact hq.mem a ha
    · rcases List.mem_cons.mp hb with rfl | hb
      · exact hp.mem _ hx
      · exact hq.mem b hb
  unfold unlikeL pairL
  conv => lhs; arg 1; arg 2; unfold callL
  rw [List.map_map]
  congr 1
  refine List.map_congr_left fun y hy => ?_
  show (callL c p).countP _ = _
  conv => lhs; arg 2; unfold callL
  rw [List.countP_map]
  refine List.countP_congr fun x hx => ?_
  show relL (callL c o) (callL c p) (c.getD x.toNat 0) (c.getD y.toNat 0) = true ↔ _
  rw [relL_iff, relL_iff, inj p hp x hx, inj p hp y hy, inj o ho x hx, inj o ho y hy]
/-! pairs, by their letters -/
def bitL (o p : List Int) (x y : Int) : Nat := if decide (o.idxOf x < o.idxOf y) = decide (p.idxOf x < p.idxOf y) then 0 else 1
def colL (o p : List Int) (x : Int) (k : Nat) : Nat := ((List.range k).map fun j => bitL o p x (x + 1 + (j : Nat))).sum
def rowsL (o p : List Int) (n i : Nat) : Nat := ((List.range i).map fun x => colL o p (x : Nat) (n - 1 - x)).sum
theorem col_succ (o p : List Int) (x : Int) (k : Nat) : colL o p x (k + 1) = colL o p x k + bitL o p x (x + 1 + (k : Nat)) := by
  unfold colL
  rw [List.range_succ, List.map_append, List.sum_append]
  simp
theorem rows_succ (o p : List Int) (n i : Nat) : rowsL o p n (i + 1) = rowsL o p n i + colL o p (i : Nat) (n - 1 - i) := by
  unfold rowsL
  rw [List.range_succ, List.map_append, List.sum_append]
  simp
theorem rows_next (o p : List Int) (n : Nat) : ∀ i : Nat, i ≤ n → rowsL o p (n + 1) i = rowsL o p n i + ((List.range i).map fun x => bitL o p (x : Nat) (n : Nat)).sum
  | 0, _ => rfl
  | i + 1, h => by
    rw [rows_succ, rows_succ, rows_next o p n i (by omega), List.range_succ, List.map_append, List.sum_append]
    have e : n + 1 - 1 - i = (n - 1 - i) + 1 := by omega
    rw [e, col_succ]
    have e2 : ((i : Nat) : Int) + 1 + ((n - 1 - i : Nat) : Int) = ((n : Nat) : Int) := by omega
    rw [e2]
    simp
    omega
theorem iR_succ (n : Nat) : iR (n + 1) = iR n ++ [(n : Int)] := by
  unfold iR
  rw [List.range_succ, List.map_append]
  simp
theorem pairs_R {N : Nat} {o p : List Int} (ho : POrd N o) (hp : POrd N p) : ∀ n : Nat, n ≤ N → pairL (relL o p) (iR n) (iR n) = rowsL o p n n
  | 0, _ => rfl
  | n + 1, h => by
    have ih := pairs_R ho hp n (by omega)
    have hP : (iR (n + 1)).Perm ((n : Int) :: iR n) := by rw [iR_succ]; exact List.perm_append_comm
    rw [pairL_perm1 hP, pairL_perm2 hP]
    have e0 : relL o p (n : Int) (n : Int) = false := by unfold relL; simp
    have e1 : pairL (relL o p) ((n : Int) :: iR n) ((n : Int) :: iR n) = pairL (relL o p) (iR n) (iR n) + (iR n).countP (fun x => relL o p x n) + (iR n).countP (fun y => relL o p n y) := by
      show (((n : Int) :: iR n).map fun y => ((n : Int) :: iR n).countP fun x => relL o p x y).sum = _
      rw [List.map_cons, List.sum_cons, List.countP_cons, e0]
      show _ + pairL (relL o p) (iR n) ((n : Int) :: iR n) = _
      rw [pairL_cons]
      simp
      omega
    rw [e1, ih, rows_succ, rows_next o p n n (Nat.le_refl _)]
    have e2 : n + 1 - 1 - n = 0 := by omega
    rw [e2]
    show _ = _ + 0
    have key : ∀ L : List Nat, (∀ x ∈ L, x < n) → (L.map fun x : Nat => (x : Int)).countP (fun x => relL o p x n) + (L.map fun x : Nat => (x : Int)).countP (fun y => relL o p n y) = (L.map fun x => bitL o p (x : Nat) (n : Nat)).sum := fun L => by
      induction L with
      | nil => intro _; rfl
      | cons x L ihL =>
        intro hL
        have hx := hL x (List.mem_cons_self ..)
        have ihL := ihL fun y hy => hL y (List.mem_cons_of_mem _ hy)
        rw [List.map_cons, List.map_cons, List.sum_cons, List.countP_cons, List.countP_cons, ← ihL]
        have no : o.idxOf (x : Int) ≠ o.idxOf (n : Int) := fun z => by
          have := idx_inj (ho.has (l := (x : Int)) (by omega) (by omega)) z
          omega
        have np : p.idxOf (x : Int) ≠ p.idxOf (n : Int) := fun z => by
          have := idx_inj (hp.has (l := (x : Int)) (by omega) (by omega)) z
          omega
        have eb : (if relL o p (x : Int) (n : Int) = true then 1 else 0) + (if relL o p (n : Int) (x : Int) = true then 1 else 0) = bitL o p (x : Nat) (n : Nat) := by
          unfold bitL
          simp only [relL_iff]
          by_cases h1 : o.idxOf (x : Int) < o.idxOf (n : Int) <;> by_cases h2 : p.idxOf (x : Int) < p.idxOf (n : Int)
          · rw [if_neg (by omega), if_neg (by omega), if_pos (by simp [h1, h2])]
          · rw [if_neg (by omega), if_pos (by omega), if_neg (by simp [h1, h2])]
          · rw [if_pos (by omega), if_neg (by omega), if_neg (by simp [h1, h2])]
          · rw [if_neg (by omega), if_neg (by omega), if_pos (by simp [h1, h2])]
        omega
    have := key (List.range n) fun x hx => List.mem_range.mp hx
    have ei : iR n = (List.range n).map fun x : Nat => (x : Int) := by
      unfold iR
      exact List.map_congr_left fun x _ => by omega
    rw [← ei] at this
    omega
theorem unlike_rows {n : Nat} {o p : List Int} (ho : POrd n o) (hp : POrd n p) : unlikeL o p = rowsL o p n n := by
  have hR : POrd n (iR n) := perm_ord (List.Perm.refl _)
  rw [unlike_any hp hR hR, pairs_R ho hp n (Nat.le_refl _)]
end Kx

-- MP
namespace Kx
open PySem PyProof.Rows L2 Mx
variable [TheDeck]
/-! ### places, cost -/
def plL (r : List Int) : List Int → List Int → List Int
  | _, [] => []
  | o, l :: t => (o.idxOf l : Int) :: plL r (askL r o l) t
theorem plL_len (r : List Int) : ∀ (o t : List Int), (plL r o t).length = t.length
  | _, [] => rfl
  | o, l :: t => by rw [plL, List.length_cons, plL_len r _ t, List.length_cons]
theorem plL_app (r : List Int) : ∀ (o a b : List Int), plL r o (a ++ b) = plL r o a ++ plL r (runL r o a) b
  | o, [], b => rfl
  | o, l :: a, b => by
    rw [List.cons_append, plL, plL, plL_app r _ a b]
    rfl
theorem plL_take {r o t : List Int} {i : Nat} {l : Int} (h : t[i]? = some l) : plL r o (t.take (i + 1)) = plL r o (t.take i) ++ [((runL r o (t.take i)).idxOf l : Int)] := by
  rw [List.take_succ, h, plL_app]
  rfl
theorem plL_mem {n : Nat} {r : List Int} : ∀ {o t : List Int}, POrd n o → PText n t → ∀ x ∈ plL r o t, 0 ≤ x ∧ x < n
  | o, [], _, _, x, h => nomatch h
  | o, l :: t, ho, ht, x, h => by
    have hl := ht l (List.mem_cons_self ..)
    rw [plL] at h
    rcases List.mem_cons.mp h with rfl | h
    · have := List.idxOf_lt_length_of_mem (ho.has hl.1 hl.2)
      rw [ho.len] at this
      omega
    · exact plL_mem (ho.ask hl) (fun y hy => ht y (List.mem_cons_of_mem _ hy)) x h
theorem sum_le {k : Int} (hk : 0 ≤ k) : ∀ (t : List Int), (∀ x ∈ t, 0 ≤ x ∧ x ≤ k) → 0 ≤ t.sum ∧ t.sum ≤ t.length * k
  | [], _ => by simp
  | x :: t, h => by
    obtain ⟨a, b⟩ := sum_le hk t fun y hy => h y (List.mem_cons_of_mem _ hy)
    have := h x (List.mem_cons_self ..)
    rw [List.sum_cons, List.length_cons, Int.natCast_add, Int.add_mul]
    omega
def sp_places_of : Mx.Spec := spF (α := RO) (fun a => [.d (dT a.1.1), .d (dT a.1.2.1), .d (dT a.1.2.2)]) (fun a => PRun a.1.1 a.1.2.1 a.1.2.2 a.2 ∧ a.1.2.2.length ≤ 100000) (fun a m => m = .d (dT (plL a.1.1 a.1.2.1 a.1.2.2)))
def W_places_of_b1 : Stm := sSeq (sExpr (xAppend 3 (xMeth (pIndex .tuple) isTup (odS 4) (odS 5)))) (sSet 4 (xCall sp_asked (aCons (xVar 0) (aCons (xVar 4) (aCons (xVar 5) (aNil))))))
def W_places_of : Stm := sSeq (sSet 3 (xLst (aNil))) (sSeq (sSet 4 (xVar 1)) (sSeq (sFor (iTup (xVar 2)) (gName 5) W_places_of_b1) (sRet (xOp1 pTuple (odS 3)))))
theorem h_places_of (Z : XP) (ms : List MV) (Q : MV → Prop) (q : sp_places_of.run Z ms Q) : W_places_of.run Z (entry 6 ms) { nx := fun _ => Q (.d .none), rt := Q } := by
  obtain ⟨⟨⟨r, o, t⟩, n⟩, rfl, ⟨h, hlen⟩, q⟩ := q
  dsimp only at h hlen q
  walk_at "mx"
  refine ⟨fun i e => ∃ x5, e = [some (.d (dT r)), some (.d (dT o)), some (.d (dT t)), some (.o (.lst ((plL r o (t.take i)).map PyData.int))), some (.d (dT (runL r o (t.take i)))), x5], ⟨_, rfl⟩, ?_, ?_⟩
  · rintro i x e hi ⟨x5, rfl⟩
    obtain ⟨l, hl, rfl⟩ := dT_get hi
    have hm := h.t l (List.mem_of_getElem? hl)
    have hO := h.o.run (r := r) (h.t.take i)
    have hml := hO.has hm.1 hm.2
    have hz : (plL r o (t.take i)).length < 16777216 := by rw [plL_len, List.length_take]; omega
    walk_at "mx"
    refine ⟨(r, runL r o (t.take i), l), rfl, pask h.r hO h.hn hm, ?_⟩
    rintro m rfl
    exact ⟨_, by rw [runL_take hl, plL_take hl, List.map_append]; rfl⟩
  · rintro e ⟨x5, rfl⟩
    rw [List.length_map, List.take_length]
    have hz : (plL r o t).length ≤ 100000 := by rw [plL_len]; exact hlen
    walk_at "mx"
    exact q _ rfl
def sp_cost : Mx.Spec := spF (α := RO) (fun a => [.d (dT a.1.1), .d (dT a.1.2.1), .d (dT a.1.2.2)]) (fun a => PRun a.1.1 a.1.2.1 a.1.2.2 a.2 ∧ a.1.2.2.length ≤ 100000) (fun a m => m = .d (.int (plL a.1.1 a.1.2.1 a.1.2.2).sum))
def W_cost : Stm := sRet (xOp1 pSumM (odE (xCall sp_places_of (aCons (xVar 0) (aCons (xVar 1) (aCons (xVar 2) (aNil)))))))
theorem h_cost (Z : XP) (ms : List MV) (Q : MV → Prop) (q : sp_cost.run Z ms Q) : W_cost.run Z (entry 3 ms) { nx := fun _ => Q (.d .none), rt := Q } := by
  obtain ⟨⟨⟨r, o, t⟩, n⟩, rfl, h, q⟩ := q
  dsimp only at h q
  walk_at "mx"
  refine ⟨((r, o, t), n), rfl, h, ?_⟩
  rintro m rfl
  walk_at "mx"
  refine ⟨_, rfl, ?_⟩
  exact ⟨MVd_ne, q _ rfl⟩
end Kx

-- MxY
/-! Mx: the items of an own dict in a comprehension; sorted of pairs of whole numbers. -/
namespace Mx
open PySem PySem.Spec PyProof.Rows L2

/-! ### a dict's items, each in a tuple whose object is known -/
def ItiM (d : Addr) (o : Obj) (kvs : List (Key × V)) : It :=
  ⟨fun i H => H d = some (.frz o (.dK kvs)) ∧ i < kvs.length,
   fun i H x H' => ∃ T ob k v, kvs[i]? = some (k, v) ∧ x = .ref T ∧ H T = none ∧ ob.dict = none ∧ H' = upd H T (.frz ob (.tup [kV k, v])),
   fun i H => H d = some (.frz o (.dK kvs)) ∧ kvs.length ≤ i⟩
theorem turn_itemsM {P : Program} {w : World} {K : PySem.W.Frag} {d : Addr} {o : Obj} {es : Array DictEntry} {ep : Nat} {kvs : List (Key × V)} {elts : List Expr} {kk : Nat} {tpos : Pos} (it : Addr) (hod : o.data = .dict es ep) :
    Turn P w K (.Tuple elts kk tpos) (ItiM d o kvs) [it] it (fun i h => ∃ ok ov, IsItemIter h it d i kvs.length ep ok ov) where
  mem := List.mem_singleton.mpr rfl
  obj := fun i h ⟨ok, ov, e⟩ b hb => by
    obtain rfl := List.mem_singleton.mp hb
    exact ⟨_, e, fun v z => nomatch z⟩
  keep := fun i h h' ⟨ok, ov, e⟩ k => ⟨ok, ov, k it (List.mem_singleton.mpr rfl) _ e⟩
  item := by
    intro X eP ew eK hc i pins s σ H E I hf ⟨ok, ov, he⟩ ⟨hd, hi⟩
    subst eP ew eK
    obtain ⟨hs, hgd, hx, es', ep', vs, hdt, hsz, kv, hm⟩ := I.frzK hd
    obtain ⟨rfl, rfl⟩ := dict_ep hod hdt
    obtain ⟨u, hu, ru⟩ := kv_get kv (i := i) (k := kvs[i].1) (v := kvs[i].2) (List.getElem?_eq_getElem hi)
    have hl : kvs.length = vs.length := Paired.length kv
    rw [hl] at he
    have hlt : it < s.heap.objs.size := Heap.lt_size he
    refine wpAny_pyNext_items_item he hm hu fun key h' hkey ho hT hz hk => ⟨_, rfl, wpAny_letOwnedTupleGo_items (s := { s with heap := h' }) ho fun h2 he2 sb => ?_⟩
    have hT2 : h2.get? s.heap.objs.size = some { cls := .type "tuple", data := .seq #[key, u] } := (sb.2 _ (Nat.ne_of_gt hlt)).trans hT
    have new : ObjOk X.prog X.w (upd H s.heap.objs.size (.frz { cls := .type "tuple", data := .seq #[key, u] } (.tup [kV kvs[i].1, kvs[i].2]))) h2 s.heap.objs.size (.frz { cls := .type "tuple", data := .seq #[key, u] } (.tup [kV kvs[i].1, kvs[i].2])) :=
      ⟨hT2, by show 2 ≤ sizeLine; decide, [key, u], .cons (relV_key (show keyIs kvs[i].1 key = true from hkey)) (.cons ru .nil), ⟨_, hT2, rfl, _, rfl⟩⟩
    have I1 : L2.Inv X pins σ (upd H s.heap.objs.size (.frz { cls := .type "tuple", data := .seq #[key, u] } (.tup [kV kvs[i].1, kvs[i].2]))) { s with heap := h2 } :=
      I.turnedNew (t' := s.toks) (ch := [it]) (fun b ob hb e => (sb.2 b fun z => hb (List.mem_singleton.mpr z)).trans (hk b ob (fun z => hb (List.mem_singleton.mpr z)) e)) hf (Nat.le_refl _) new
    refine ⟨.ref s.heap.objs.size, _, I1, rfl, ⟨_, _, kvs[i].1, kvs[i].2, List.getElem?_eq_getElem hi, rfl, I.hok.fresh (Nat.le_refl _), rfl, rfl⟩, ⟨key, u, by rw [hl]; exact he2⟩, fun b hb => ?_⟩
    obtain rfl := List.mem_singleton.mp hb
    rw [upd_ne (Nat.ne_of_lt hlt)]
    exact (hf b (List.mem_singleton.mpr rfl)).1
  done := by
    intro X eP ew eK hc i pins s σ H E I hf ⟨ok, ov, he⟩ ⟨hd, hi⟩
    subst eP ew eK
    obtain ⟨f0, f1, f2, f3, f4, f5⟩ := hf it (List.mem_singleton.mpr rfl)
    obtain ⟨hs, hgd, hx, es', ep', vs, hdt, hsz, kv, hm⟩ := I.frzK hd
    obtain ⟨rfl, rfl⟩ := dict_ep hod hdt
    have hl : kvs.length = vs.length := Paired.length kv
    rw [hl] at he
    exact wpAny_pyNext_items_end (I.ok.hd hc) he hm (List.getElem?_eq_none (by omega)) fun h' eb => ⟨rfl, I.turned (t' := s.toks) (fun b ob hb e => eb b ob hb e) f0 f1 f3 f4 f5⟩
  self := fun A i s Q E ⟨_, _, e⟩ h => PySem.W.kcp_self e h
def iItemsM (td : TE) : TI := fun σ H R => td σ H fun x H1 => ∃ d o kvs, x = .ref d ∧ H1 d = some (.frz o (.dK kvs)) ∧ R (ItiM d o kvs) H1
theorem pi_itemsM {X : Cx} {e : Expr} {td : TE} {apos cpos : Pos} {elts : List Expr} {kk : Nat} {tpos : Pos} (he : PE X e td) (hbase : attributeBase e "items" X.env (eval e X.env) = eval e X.env := by rfl) (hline : (apos.endLine == cpos.line) = true := by rfl) :
    PI X (.Tuple elts kk tpos) (.Call (.Attribute e "items" apos) [] [] cpos) (iItemsM td) :=
  ⟨fun pins s σ H R I h => wpAny_Call_method (T := "dict") (id := "dict.items") hbase rfl hline PySem.F.plainAttrs_dict PySem.F.slot_dict_items PySem.F.type_dict_items (thn (he.run pins s σ H _ I h) fun u s1 ⟨x, H1, I1, rx, d, o, kvs, ex, hd, q⟩ => by
    subst ex
    obtain rfl := (show u = Value.ref d from rx)
    obtain ⟨hs, hgd, hx, es, ep, vs, hdt, hsz, kv, hm⟩ := I1.frzK hd
    have hl : kvs.length = vs.length := Paired.length kv
    refine ⟨hm.dictOf.typeIs, hm.dictOf.mapOf.noDict, ?_⟩
    have I2 : L2.Inv X pins σ H1 { s1 with heap := s1.heap.push { cls := .type "dict_items", data := .fields #[.ref d] } } := I1.kept (t' := s1.toks) fun b ob q => Heap.get?_push_of_some _ q
    have fin : wpAny (model X.prog X.w) X.A (pyIter (.ref s1.heap.objs.size)) (PIE X pins σ (.Tuple elts kk tpos) R) X.xe { s1 with heap := s1.heap.push { cls := .type "dict_items", data := .fields #[.ref d] } } :=
      wpAny_pyIter_items (d := d) (knd := mixKind X.prog X.w) ⟨_, Heap.get?_push_size _ rfl, rfl, rfl⟩ (hm.push _) (pi_one (tk := s1.toks) I2 _ (turn_itemsM _ hdt) ⟨.none, .none, by
        rw [hl]
        exact Heap.get?_push_size _ rfl⟩ q)
    show wpAny _ _ (callWith cpos (.builtin "dict.items") [.ref d] [] []) _ X.xe s1
    exact method_meetsIn PySem.F.slot_dict_items PySem.F.entry_dict_items rfl (PySem.evalArgs_none ⟨rfl, hm.dictOf.typeIs, PySem.F.args_dict_items_1 _, _, meets_dict_items (mixKind X.prog X.w) d hs, ⟨vs, hm.dictOf⟩, fin⟩))⟩

/-! ### while a dict is locked it is data; behind that it is a plain dict again -/
section
variable {K : PySem.W.Frag} {Hd : Hp} {a : Addr} {od : Obj} {ks : List (Key × V)}
theorem rd_swap {b : Addr} {ks' : List (Key × V)} (h : Hd a = some (.frz od (.dK ks))) (q : Rd Hd b (.dK ks')) : Rd (upd Hd a (.dK ks)) b (.dK ks') := by
  by_cases e : b = a
  · subst e
    rcases q with q | ⟨o, q⟩
    · rw [h] at q; cases q
    · rw [h] at q
      cases q
      exact .inl upd_same
  · rcases q with q | ⟨o, q⟩
    · exact .inl (by rw [upd_ne e]; exact q)
    · exact .inr ⟨o, by rw [upd_ne e]; exact q⟩
theorem seqF_swap {b : Addr} {xs : List V} (h : Hd a = some (.frz od (.dK ks))) (q : SqF K Hd b xs) : SqF K (upd Hd a (.dK ks)) b xs := by
  rcases q with ⟨o, q, e⟩ | q
  · exact .inl ⟨o, by rw [upd_ne fun z => by rw [z, h] at q; cases q]; exact q, e⟩
  · exact .inr q
mutual
theorem Dq.swap (h : Hd a = some (.frz od (.dK ks))) : ∀ {v : V} {d : D}, Dq K Hd v d → Dq K (upd Hd a (.dK ks)) v d
  | _, _, .non => .non
  | _, _, .bl b => .bl b
  | _, _, .int i => .int i
  | _, _, .str s => .str s
  | _, _, .lst e q => .lst (by rw [upd_ne fun z => by rw [z, h] at e; cases e]; exact e) (DqAll.swap h q)
  | _, _, .tup e q => .tup (seqF_swap h e) (DqAll.swap h q)
  | _, _, .dic e q => .dic (rd_swap h e) (DqKV.swap h q)
theorem DqAll.swap (h : Hd a = some (.frz od (.dK ks))) : ∀ {vs : List V} {ds : List D}, DqAll K Hd vs ds → DqAll K (upd Hd a (.dK ks)) vs ds
  | _, _, .nil => .nil
  | _, _, .cons e q => .cons (Dq.swap h e) (DqAll.swap h q)
theorem DqKV.swap (h : Hd a = some (.frz od (.dK ks))) : ∀ {ks' : List (Key × V)} {kvs : List (D × D)}, DqKV K Hd ks' kvs → DqKV K (upd Hd a (.dK ks)) ks' kvs
  | _, _, .nil => .nil
  | _, _, .cons e q => .cons (Dq.swap h e) (DqKV.swap h q)
end
end
theorem own_swap {K : PySem.W.Frag} {Hd H : Hp} {a b : Addr} {od : Obj} {ks : List (Key × V)} {c : Cont} (h : Hd a = some (.frz od (.dK ks))) (n : b ≠ a) (q : OwnO K Hd H b c) : OwnO K (upd Hd a (.dK ks)) (upd H a (.dK ks)) b c := by
  cases c with
  | lst xs =>
    obtain ⟨vs, e, r⟩ := q
    exact ⟨vs, by rw [upd_ne n]; exact e, r.swap h⟩
  | dct kvs =>
    obtain ⟨vs, e, r⟩ := q
    exact ⟨vs, by rw [upd_ne n]; exact e, r.swap h⟩
section
variable [TheDeck]
variable {K : PySem.W.Frag} {C : Ctx} {env : Env} {Hd H : Hp} {σ : L2.St} {a : Addr} {od : Obj} {ks : List (Key × V)}
theorem Rep.lock {i : Nat} {kvs : List (D × D)} (R : Rep K C env Hd σ H) (he : env[i]? = some (some (.o (.dct kvs)))) (hs : σ[i]? = some (some (.ref a))) (hd : Hd a = none) (h0 : C.H0 a = none) (hk : DqKV K Hd ks kvs) (od : Obj) :
    Rep K C (env.set i (some (.d (.dict kvs)))) (upd Hd a (.frz od (.dK ks))) σ (upd H a (.frz od (.dK ks))) := by
  have sm : Same Hd (upd Hd a (.frz od (.dK ks))) := same_new hd
  refine ⟨(R.toBase.put h0 hd).frz upd_same h0 hd, by rw [List.length_set]; exact R.len, fun j m hj => ?_, fun j k b h5 h6 => ?_⟩
  · rcases get_set hj with ⟨rfl, e2, _⟩ | ⟨nj, e2⟩
    · cases e2
      exact ⟨_, hs, .dic (.inr ⟨od, upd_same⟩) (hk.mono sm)⟩
    · obtain ⟨w, w1, w2⟩ := R.slot j m e2
      refine ⟨w, w1, ?_⟩
      cases m with
      | d x => exact Dq.mono sm w2
      | o c' =>
        obtain ⟨b, rfl, q1, q2, q3⟩ := w2
        have nb : b ≠ a := fun z => nj (R.sep j i a (by subst z; exact ⟨⟨c', e2⟩, w1⟩) ⟨⟨_, he⟩, hs⟩)
        exact ⟨b, rfl, by rw [upd_ne nb]; exact q1, q2, q3.mono sm fun _ z => by rw [upd_ne nb]; exact z⟩
      | dk => exact w2
  · obtain ⟨⟨c5, e5⟩, s5⟩ := h5
    obtain ⟨⟨c6, e6⟩, s6⟩ := h6
    rcases get_set e5 with ⟨_, z, _⟩ | ⟨_, z5⟩
    · cases z
    · rcases get_set e6 with ⟨_, z, _⟩ | ⟨_, z6⟩
      · cases z
      · exact R.sep j k b ⟨⟨c5, z5⟩, s5⟩ ⟨⟨c6, z6⟩, s6⟩
theorem Rep.unlock (R : Rep K C env Hd σ H) (ha : Hd a = some (.frz od (.dK ks))) (h0 : C.H0 a = none) (hd0 : C.Hd0 a = none) : Rep K C env (upd Hd a (.dK ks)) σ (upd H a (.dK ks)) where
  d0 b o e := by
    rw [upd_ne fun z => by rw [z, hd0] at e; cases e]
    exact R.d0 b o e
  dh := same_both R.dh
  fr b x h := by
    by_cases hb : b = a
    · subst hb
      exact Or.inr h0
    · rw [upd_ne hb] at h
      exact R.fr b x h
  h0 b x h hk := by
    rw [upd_ne fun z => by rw [z, h0] at h; cases h]
    exact R.h0 b x h hk
  dk K0 e := ⟨R.toBase.dkStay e (R.toBase.fpOwn e h0), fun b hb => by
    have nb : b ≠ a := fun z => R.toBase.fpOwn e h0 (z ▸ hb)
    exact ⟨by rw [upd_ne nb]; exact ((R.dk K0 e).2 b hb).1, ((R.dk K0 e).2 b hb).2⟩⟩
  kd := R.kd
  len := R.len
  slot j m hj := by
    obtain ⟨v, h1, h2⟩ := R.slot j m hj
    refine ⟨v, h1, ?_⟩
    cases m with
    | d x => exact Dq.swap ha h2
    | o c =>
      obtain ⟨b, rfl, q1, q2, q3⟩ := h2
      have nb : b ≠ a := fun z => by rw [z, ha] at q1; cases q1
      exact ⟨b, rfl, by rw [upd_ne nb]; exact q1, q2, own_swap ha nb q3⟩
    | dk => exact h2
  sep := R.sep
end
/-- a row that is there -/
def iGiv (xs : List D) : Itr where
  rr _ e Q := Q xs e
  mn _ hQ h := hQ _ _ h
def itmsL (kvs : List (D × D)) : List D := kvs.map fun p => .tuple [p.1, p.2]
/-- [elt for g in d.items()], the slot i owns d -/
def xLcItems (i : Nat) (g : Tgt) (elt : Ex) (vs : List Nat) : Ex where
  rr Z e Q := ∃ kvs, e[i]? = some (some (.o (.dct kvs))) ∧ (xLc (iGiv (itmsL kvs)) g tYes elt vs).run Z (e.set i (some (.d (.dict kvs)))) Q
  mn hZ hQ h := let ⟨kvs, h1, h2⟩ := h; ⟨kvs, h1, (xLc (iGiv (itmsL kvs)) g tYes elt vs).mono hZ hQ h2⟩
theorem dqkv_get {K : PySem.W.Frag} {H : Hp} : ∀ {ks : List (Key × V)} {kvs : List (D × D)} {i : Nat} {k : Key} {v : V} {x : D}, DqKV K H ks kvs → ks[i]? = some (k, v) → (itmsL kvs)[i]? = some x → ∃ d, x = .tuple [keyD k, d] ∧ Dq K H v d
  | _, _, _, _, _, _, .nil, h, _ => by simp at h
  | _, _, 0, _, _, _, .cons q r, h, hx => by
    cases Option.some.inj h
    cases Option.some.inj hx
    exact ⟨_, rfl, q⟩
  | _, _, i + 1, _, _, _, .cons q r, h, hx => dqkv_get (i := i) r h hx
theorem dq_key {K : PySem.W.Frag} {H : Hp} (k : Key) : Dq K H (kV k) (keyD k) := by
  cases k with
  | inl i => exact .int i
  | inr s => exact .str s
section
variable [TheDeck]
variable {X : Cx} {E : XK} {pos : Pos}
theorem m_lcItems {elt : Expr} {x : Str} {px apos cpos : Pos} {elts : List Expr} {kk : Nat} {tpos : Pos} {scope : Scope} {own : List (Str × Nat)} {g : Tgt} {w : Ex} (i : Nat) (hc : X.calm = true) (hN : X.N.Nodup) (ok : BlkOk X.N X.env.scope scope own)
    (hg : ∀ (s : Shared) (H : Hp) (C : Addr) (cl : List (Str × Addr)) (fp : List Addr), GV (X.blk s H scope (compEnvC scope cl C X.env) fp) (.Tuple elts kk tpos) g)
    (he : ∀ (s : Shared) (H : Hp) (C : Addr) (cl : List (Str × Addr)) (fp : List Addr), EV (X.blk s H scope (compEnvC scope cl C X.env) fp) E0 elt w) (hsl : ∀ k ∈ g.slots, k ∈ own.map (·.2) := by decide)
    (hx : X.N[i]? = some x := by rfl) (hv : Vis X.env.scope x := by first | exact Or.inl rfl | exact Or.inr (Or.inl rfl) | exact Or.inr (Or.inr rfl)) (hd : (x == ("__debug__" : Str)) = false := by decide)
    (hcd : (x == ("__classdict__" : Str)) = false := by decide) (hbase : attributeBase (.Name x px) "items" X.env (eval (.Name x px) X.env) = eval (.Name x px) X.env := by rfl) (hline : (apos.endLine == cpos.line) = true := by rfl)
    (hs : ∀ z, foldedSetIterable (.Call (.Attribute (.Name x px) "items" apos) [] [] cpos) X.env z = pure z := by intro _; rfl) :
    EV X E (.ListComp elt [⟨.Tuple elts kk tpos, .Call (.Attribute (.Name x px) "items" apos) [] [] cpos, [], 0⟩] scope pos) (xLcItems i g w (own.map (·.2))) :=
  PE_imp (pe_lock (pe_lc hc hN (pi_itemsM (pe_var (i := i) hx hv hd hcd) hbase hline) ok hg (fun _ _ _ _ _ => pts_nil) he hs)) fun σ H Q ⟨C, env, Hd, okc, R, kvs, hi, W, w0, ws, hlen, no, we⟩ => by
    obtain ⟨v, h1, a, rfl, h2, h3, ks, h4, h5⟩ := R.slot i _ hi
    refine ⟨a, .dK ks, h4, True.intro, fun od => ?_⟩
    have R1 := R.lock hi h1 h2 h3 h5 od
    have hd0 : C.Hd0 a = none := R.d0.free h2
    refine ⟨_, h1, a, od, ks, rfl, upd_same, ?_⟩
    refine lc_body (J := ItiM a od ks) (Q := fun v H2 => H2 a = some (.frz od (.dK ks)) ∧ Q v (upd H2 a (.dK ks))) (xs := itmsL kvs) (tt := Mx.tYes) (fun σ H Q ⟨C, env, Hd, _, R, h⟩ => h Hd H (Same.refl _) R) hsl R1 (fun C3 j env2 Hd3 σ3 H3 sm3 R3 => ?_) w0 ws hlen no fun acc wa v Hd9 H9 sm9 R9 rr => ?_
    · have lk : H3 a = some (.frz od (.dK ks)) := R3.dh _ _ (sm3 _ _ upd_same)
      have ll : (itmsL kvs).length = ks.length := by
        rw [dqkv_len h5]
        exact List.length_map _
      refine ⟨fun hl => ⟨lk, by omega⟩, fun z hz => ⟨⟨lk, ?_⟩, fun v' H4 hy => ?_⟩⟩
      · rw [← ll]
        exact (List.getElem?_eq_some_iff.mp hz).1
      · obtain ⟨T, ob, k, v, hkv, rfl, hT, hob, rfl⟩ := hy
        obtain ⟨d, rfl, dq⟩ := dqkv_get h5 hkv hz
        have sn := same_new (o := .frz ob (.tup [kV k, v])) (R3.dh.free hT)
        exact ⟨_, sn, R3.newD hT, .tup (.inl ⟨ob, upd_same, hob⟩) (.cons (dq_key k) (.cons (dq.mono ((same_new h2).trans (sm3.trans sn))) .nil))⟩
    · have lk : Hd9 a = some (.frz od (.dK ks)) := sm9 _ _ upd_same
      refine ⟨R9.dh _ _ lk, we acc wa v (upd Hd9 a (.dK ks)) (upd H9 a (.dK ks)) (fun b o e => ?_) (R9.unlock lk h3 hd0) ?_⟩
      · have nb : b ≠ a := fun z => by rw [z, h2] at e; cases e
        rw [upd_ne nb]
        exact sm9 _ _ (by rw [upd_ne nb]; exact e)
      · obtain ⟨p, rfl, q1, q2, q3, q4⟩ := rr
        have np : p ≠ a := fun z => by rw [z, lk] at q1; cases q1
        exact ⟨p, rfl, by rw [upd_ne np]; exact q1, q2, own_swap lk np q3, q4⟩
end

/-! ### sorted of a list of pairs of whole numbers -/
def pairD (p : Int × Int) : D := .tuple [.int p.1, .int p.2]
/-- v is a tuple of the two -/
def IsPr (K : PySem.W.Frag) (H : Hp) (v : V) (p : Int × Int) : Prop := ∃ t, v = .ref t ∧ SqF K H t [.int p.1, .int p.2]
inductive Prs (K : PySem.W.Frag) (H : Hp) : List V → List (Int × Int) → Prop
  | nil : Prs K H [] []
  | cons {v : V} {vs : List V} {p : Int × Int} {ps : List (Int × Int)} : IsPr K H v p → Prs K H vs ps → Prs K H (v :: vs) (p :: ps)
def leP (p q : Int × Int) : Prop := p.1 < q.1 ∨ (p.1 = q.1 ∧ p.2 ≤ q.2)
def rSortedPM (K : PySem.W.Frag) : List V → Hp → VK → Prop := fun vs H Q => ∃ (Hd : Hp) (a : Addr) (xs : List V) (ps : List (Int × Int)), Same Hd H ∧ vs = [V.ref a] ∧ SqL K H a xs ∧ Prs K Hd xs ps ∧
  ∀ ys qs p, Prs K Hd ys qs → qs.Perm ps → qs.Pairwise leP → H p = none → Q (.ref p) (upd H p (.lst ys))
open Classical in
theorem cr_sortedPM {X : Cx} : CallR X (.builtin "sorted") (rSortedPM X.K) := by
  intro pins s σ H vs us Q I r ⟨Hd, a, xs, ps, sd, evs, hs, hps, q⟩
  subst evs
  obtain ⟨its, rv, hl, hz⟩ := I.list hs
  obtain ⟨u, rfl, ru⟩ := vals1 r
  obtain rfl := (show u = Value.ref a from ru)
  have uniq : ∀ {v p p'}, IsPr X.K Hd v p → IsPr X.K Hd v p' → p = p' := fun {v p p'} ⟨t, e, h⟩ ⟨t', e', h'⟩ => by
    subst e
    cases e'
    have := I.tuple_inj (same_seqF sd h).seq (same_seqF sd h').seq
    simp only [List.cons.injEq, V.int.injEq, and_true] at this
    exact Prod.ext this.1 this.2
  let k : V → Int × Int := fun v => if h : ∃ p, IsPr X.K Hd v p then h.choose else (0, 0)
  have hk : ∀ {v p}, IsPr X.K Hd v p → k v = p := fun {v p} h => by
    have hh : ∃ p, IsPr X.K Hd v p := ⟨p, h⟩
    show (if h : ∃ p, IsPr X.K Hd v p then h.choose else (0, 0)) = p
    rw [dif_pos hh]
    exact uniq hh.choose_spec h
  have mp : ∀ {ys : List V} {qs : List (Int × Int)}, Prs X.K Hd ys qs → ys.map k = qs ∧ ∀ y ∈ ys, IsPr X.K Hd y (k y) := by
    intro ys qs h
    induction h with
    | nil => exact ⟨rfl, fun y hy => by cases hy⟩
    | cons h _ ih =>
      refine ⟨by rw [List.map_cons, hk h, ih.1], fun y hy => ?_⟩
      rcases List.mem_cons.mp hy with rfl | hy
      · rw [hk h]; exact h
      · exact ih.2 y hy
  have pm : ∀ {ys : List V}, (∀ y ∈ ys, IsPr X.K Hd y (k y)) → Prs X.K Hd ys (ys.map k) := by
    intro ys
    induction ys with
    | nil => exact fun _ => .nil
    | cons y ys ih => exact fun h => .cons (h y (List.mem_cons_self ..)) (ih fun z hz => h z (List.mem_cons_of_mem _ hz))
  obtain ⟨m1, m2⟩ := mp hps
  obtain ⟨e1, e2⟩ := refs_back rv fun x m => by
    obtain ⟨t, e, _⟩ := m2 x m
    exact ⟨t, e⟩
  refine SrtO.sorted_pairsO (k := fun u => k (backV u)) hl.isList (by rw [← rv.length]; exact hz) (fun v hv => ?_) fun h' d out h1 h2 kp hd hn => ?_
  · obtain ⟨t, rfl⟩ := e2 v hv
    have hm : V.ref t ∈ xs := by rw [e1]; exact List.mem_map.mpr ⟨_, hv, rfl⟩
    obtain ⟨t', e, ht⟩ := m2 _ hm
    cases e
    obtain ⟨its2, r2, ⟨o, ho, hc, n, hd⟩, _⟩ := I.tuple (same_seqF sd ht).seq
    obtain ⟨u1, u2, e3, ri, rj⟩ := vals2 r2
    subst e3
    obtain ⟨t1, rfl⟩ := ri
    obtain ⟨t2, rfl⟩ := rj
    exact ⟨t, o, t1, t2, n, rfl, ho, hc, hd⟩
  · have h3 : ∀ u ∈ out, ∃ a, u = Value.ref a := fun u hu => e2 u (h2.perm.mem_iff.mp hu)
    have hp : (out.map backV).Perm xs := by
      rw [e1]
      exact h2.perm.map backV
    obtain ⟨n, hn⟩ := hn
    refine ⟨.ref d, upd H d (.lst (out.map backV)), I.laid (t' := s.toks) kp hd ⟨by rw [hp.length_eq]; exact hz, out, n, vals_back h3, hn⟩, rfl, q _ _ d (pm fun y hy => m2 y (hp.mem_iff.mp hy)) ?_ ?_ (I.hok.fresh hd)⟩
    · rw [← m1]
      exact hp.map k
    · rw [List.map_map]
      refine List.pairwise_map.mpr (h1.imp fun {x y} h => ?_)
      have := SrtO.lexB_no.mp h
      unfold leP
      show (k (backV x)).1 < (k (backV y)).1 ∨ ((k (backV x)).1 = (k (backV y)).1 ∧ (k (backV x)).2 ≤ (k (backV y)).2)
      rcases Int.lt_trichotomy (k (backV x)).1 (k (backV y)).1 with z | z | z
      · exact .inl z
      · exact .inr ⟨z, by omega⟩
      · exact absurd (.inl z) this
def pSortP : P1 where
  run x Q := ∃ ps : List (Int × Int), x = .list (ps.map pairD) ∧ ∀ qs : List (Int × Int), qs.Perm ps → qs.Pairwise leP → Q (.o (.lst (qs.map pairD)))
  mono hQ h := let ⟨ns, h1, h2⟩ := h; ⟨ns, h1, fun ns' a b => hQ _ (h2 ns' a b)⟩
section
variable [TheDeck]
variable {X : Cx} {E : XK} {pos p : Pos} {a : Expr} {oa : Od}
theorem prs_of {K : PySem.W.Frag} {Hd : Hp} : ∀ {ps : List (Int × Int)} {vs : List V}, DqAll K Hd vs (ps.map pairD) → Prs K Hd vs ps
  | [], _, .nil => .nil
  | q :: ps, _, .cons h r => by
    obtain ⟨t, us, rfl, h1, h2⟩ := h.tup_inv
    have e1 : us = [.int q.1, .int q.2] := DqAll.ints (ns := [q.1, q.2]) h2
    subst e1
    exact .cons ⟨t, rfl, h1⟩ (prs_of r)
theorem prs_to {K : PySem.W.Frag} {H : Hp} : ∀ {ys : List V} {qs : List (Int × Int)}, Prs K H ys qs → DqAll K H ys (qs.map pairD)
  | _, _, .nil => .nil
  | _, _, .cons ⟨t, e, h⟩ r => by
    subst e
    exact .cons (.tup h (DqAll.of_ints [_, _])) (prs_to r)
theorem s_sortP : S1 X.K (fun v H Q => rSortedPM X.K [v] H Q) pSortP := by
  intro Hd H x v Qm Q e hx ⟨ps, ex, h⟩ k
  subst ex
  obtain ⟨a, vs, rfl, q, d⟩ := hx.lst e
  exact ⟨Hd, a, vs, ps, e, rfl, SqL.of q, prs_of d, fun ys qs p h1 h2 h3 np => k _ _ _ (h qs h2 h3) (.newO np ⟨_, upd_same, prs_to h1⟩)⟩
theorem m_sortP (hg : Gl X "sorted") (hm : X.mg "sorted" = none) (ha : OD X E a oa) (he : starEach [a] X.env = [(false, eval a X.env)] := by rfl) : EV X E (.Call (.Name "sorted" p) [a] [] pos) (xOp1 pSortP oa) :=
  m_call1B cr_sortedPM s_sortP hg hm (by decide +kernel) ha (he := he)
end
end Mx

-- MxZ
/-! Mx: how many tuples of whole numbers a list has, all of them unlike. -/
namespace Mx
open PySem PySem.Spec PyProof.Rows L2
section
variable {X : Cx}
def tLenSetL (K : PySem.W.Frag) (ta : TE) : TE := fun σ H Q => ta σ H fun x H1 => ∃ (l : Addr) (ks : List (Addr × List Int)), x = V.ref l ∧ SqL K H1 l (ks.map fun p => V.ref p.1) ∧ (∀ p ∈ ks, SqT K H1 p.1 (p.2.map V.int)) ∧ ks.length < 64 ∧
  ∀ out : List (List Int), out.Nodup → (∀ k, k ∈ out ↔ k ∈ ks.map (·.2)) → Q (.int out.length) H1
theorem pe_lenSetL {a : Expr} {ta : TE} {p p2 q pos : Pos} (hc : X.calm = true) (hu : X.A.units + 64 < cLine) (hg : Gl X "len") (hm : X.mg "len" = none) (hg2 : Gl X "set") (hm2 : X.mg "set" = none) (ha : PE X a ta)
    (na : starEach [a] X.env = (false, eval a X.env) :: starEach [] X.env := by rfl) : PE X (.Call (.Name "len" p) [.Call (.Name "set" p2) [a] [] q] [] pos) (tLenSetL X.K ta) := by
  constructor
  intro pins s σ H Q I h
  refine Call_ ?_
  apply ld_blt I hg hm PySem.boot_len
  refine callWith_builtin1 (args_cons ?_ rfl) rfl rfl
  refine Call_ ?_
  apply ld_blt I hg2 hm2 boot_set
  refine callWith_type1 (args_cons (thn (ha.run pins s σ H _ I h) ?_) na) na rfl
  rintro v s1 ⟨x, H1, I1, r1, l, ks, ex, hq, hk, h1, q1⟩
  apply args_nil
  subst ex
  cases r1
  obtain ⟨its, rv, pt, hz⟩ := I1.list hq
  refine call_set_tups (P := X.prog) (w := X.w) ks (I1.ok.hd hc) pt.isList (by simpa using refs_of_vals rv) (fun p hp => I1.isT (hk p hp)) h1 (by omega) ?_
  intro h' tk L es ep t R g k
  apply args_nil
  have R' : SetTR X.prog X.w ({ s1 with heap := h', toks := tk } : Shared).heap s1.heap.objs.size L es ep t := R
  obtain ⟨o, ho, hex, hd⟩ := R'.ob
  have I2 : L2.Inv X pins σ H1 { s1 with heap := h', toks := tk } := I1.kept k
  have hz2 : es.size = L.length := R'.size
  apply call_len_set ho hex hd R'.fits (by rw [hz2]; have := R'.few; omega)
  refine ⟨.int ((L.map (·.2)).length : Nat), H1, I2.tok _, ⟨_, by rw [hz2, List.length_map]⟩, q1 _ R'.nd fun j => ⟨fun hj => ?_, fun hj => ?_⟩⟩
  · obtain ⟨p, hp, rfl⟩ := List.mem_map.mp hj
    exact List.mem_map.mpr ⟨p, List.mem_of_mem_take (g.sub p hp), rfl⟩
  · obtain ⟨p, hp, rfl⟩ := List.mem_map.mp hj
    exact g.all p (by rw [List.take_length]; exact hp)
end
variable [TheDeck]
def pLenSetL : P1 where
  run x Q := ∃ L : List (List Int), x = .list (L.map fun l => .tuple (l.map PyData.int)) ∧ L.length < 64 ∧ L.Nodup ∧ Q (.d (.int (L.length : Nat)))
  mono h q := let ⟨a, b, c, d, e⟩ := q; ⟨a, b, c, d, h _ e⟩
theorem ks_of {K : PySem.W.Frag} {Hd H : Hp} (e : Same Hd H) : ∀ {L : List (List Int)} {vs : List V}, DqAll K Hd vs (L.map fun l => .tuple (l.map PyData.int)) → ∃ ks : List (Addr × List Int), vs = ks.map (fun p => V.ref p.1) ∧ ks.map (·.2) = L ∧ ∀ p ∈ ks, SqT K H p.1 (p.2.map V.int)
  | [], _, .nil => ⟨[], rfl, rfl, fun p hp => by cases hp⟩
  | l :: L, _, .cons h r => by
    obtain ⟨t, us, rfl, h1, h2⟩ := h.tup_inv
    obtain rfl := DqAll.ints h2
    obtain ⟨ks, rfl, e2, h3⟩ := ks_of e r
    refine ⟨(t, l) :: ks, rfl, by rw [List.map_cons, e2], fun p hp => ?_⟩
    rcases List.mem_cons.mp hp with rfl | hp
    · exact (same_seqF e h1).seq
    · exact h3 p hp
section
variable {X : Cx} {E : XK} {p p2 q pos : Pos} {a : Expr} {oa : Od}
theorem s_lenSetL : S1 X.K (fun v H Q => ∃ (l : Addr) (ks : List (Addr × List Int)), v = V.ref l ∧ SqL X.K H l (ks.map fun p => V.ref p.1) ∧ (∀ p ∈ ks, SqT X.K H p.1 (p.2.map V.int)) ∧ ks.length < 64 ∧
    ∀ out : List (List Int), out.Nodup → (∀ k, k ∈ out ↔ k ∈ ks.map (·.2)) → Q (.int out.length) H) pLenSetL := by
  intro Hd H x v Qm Q e hx ⟨L, ex, hl, nd, h⟩ k
  subst ex
  obtain ⟨t, vs, rfl, t1, t2⟩ := hx.lst e
  obtain ⟨ks, rfl, e2, h3⟩ := ks_of e t2
  refine ⟨t, ks, rfl, SqL.of t1, h3, by rw [← e2, List.length_map] at hl; exact hl, fun out nd' hm => ?_⟩
  rw [e2] at hm
  rw [((List.perm_ext_iff_of_nodup nd' nd).mpr hm).length_eq]
  exact dat_res (.int _) h k
theorem m_lenSetL (hc : X.calm = true) (hu : X.A.units + 64 < cLine) (hg : Gl X "len") (hm : X.mg "len" = none) (hg2 : Gl X "set") (hm2 : X.mg "set" = none) (ha : OD X E a oa)
    (na : starEach [a] X.env = (false, eval a X.env) :: starEach [] X.env := by rfl) : EV X E (.Call (.Name "len" p) [.Call (.Name "set" p2) [a] [] q] [] pos) (xOp1 pLenSetL oa) :=
  PE_imp (pe_lenSetL hc hu hg hm hg2 hm2 ha na) fun _ _ _ h => op1_imp s_lenSetL h
end
end Mx

-- MxZ2
/-! Mx: four names at once; what they own stays theirs. -/
namespace Mx
open PySem PySem.Spec PyProof.Rows L2
variable [TheDeck]
section
variable {X : Cx} {E : XK} {pos : Pos}
def sPar4 (i j l k : Nat) (w u t s : Ex) : Stm where
  rr Z e O := w.run Z e fun r1 e1 => u.run Z e1 fun r2 e2 => t.run Z e2 fun r3 e3 => s.run Z e3 fun r4 e4 => O.nx ((((e4.set i (some r1)).set j (some r2)).set l (some r3)).set k (some r4))
  mn hZ hO h := w.mono hZ (fun _ _ q => u.mono hZ (fun _ _ q => t.mono hZ (fun _ _ q => s.mono hZ (fun _ _ q => hO.nx _ q) q) q) q) h
theorem RR.newO {K : PySem.W.Frag} {C : Ctx} {env : Env} {Hd H : Hp} {σ : L2.St} {v : V} {m : MV} {p : Addr} {o : HO} (np : H p = none) (r : RR K C env Hd σ H v m) : RR K C env Hd σ (upd H p o) v m := by
  cases m with
  | d x => exact r
  | dk => exact r
  | o c =>
    obtain ⟨a, rfl, h1, h2, h3, h4⟩ := r
    obtain ⟨o', ho⟩ := h3.some
    have na : a ≠ p := ne_of_none ho np
    exact ⟨a, rfl, h1, h2, h3.mono (Same.refl _) fun _ z => by rw [upd_ne na]; exact z, h4⟩
theorem s_par4 {i j l k : Nat} {x y z x4 : Str} {a b c d : Expr} {w u t s : Ex} {px py pz p4 pt : Pos} {kt k2 pt2} (hc : X.calm = true) (hN : X.N.Nodup) (hi : X.N[i]? = some x) (hj : X.N[j]? = some y) (hl : X.N[l]? = some z) (hk : X.N[k]? = some x4)
    (hx : X.env.scope.names.lookup x = some .local) (hy : X.env.scope.names.lookup y = some .local) (hz : X.env.scope.names.lookup z = some .local) (h4 : X.env.scope.names.lookup x4 = some .local) (ha : EV X E a w) (hb : EV X E b u) (hcc : EV X E c t) (hdd : EV X E d s)
    (h1 : starEach [a, b, c, d] X.env = (false, eval a X.env) :: starEach [b, c, d] X.env := by rfl) (h2 : starEach [b, c, d] X.env = (false, eval b X.env) :: starEach [c, d] X.env := by rfl) (h3 : starEach [c, d] X.env = (false, eval c X.env) :: starEach [d] X.env := by rfl) (h5 : starEach [d] X.env = (false, eval d X.env) :: starEach [] X.env := by rfl)
    (hs : swapsWithSole [.Tuple [.Name x px, .Name y py, .Name z pz, .Name x4 p4] kt pt] (.Tuple [a, b, c, d] k2 pt2) pos.line X.env = pure false := by rfl) (hw : swappedStores [.Tuple [.Name x px, .Name y py, .Name z pz, .Name x4 p4] kt pt] (.Tuple [a, b, c, d] k2 pt2) X.env = pure none := by rfl)
    (e1 : (assignEach [.Tuple [.Name x px, .Name y py, .Name z pz, .Name x4 p4] kt pt] X.env).map (·.2) = [assign (.Tuple [.Name x px, .Name y py, .Name z pz, .Name x4 p4] kt pt) X.env] := by rfl)
    (g1 : (assignEach [.Name x px, .Name y py, .Name z pz, .Name x4 p4] X.env).map (·.2) = assign (.Name x px) X.env :: (assignEach [.Name y py, .Name z pz, .Name x4 p4] X.env).map (·.2) := by rfl)
    (g2 : (assignEach [.Name y py, .Name z pz, .Name x4 p4] X.env).map (·.2) = assign (.Name y py) X.env :: (assignEach [.Name z pz, .Name x4 p4] X.env).map (·.2) := by rfl)
    (g3 : (assignEach [.Name z pz, .Name x4 p4] X.env).map (·.2) = assign (.Name z pz) X.env :: (assignEach [.Name x4 p4] X.env).map (·.2) := by rfl)
    (g4 : (assignEach [.Name x4 p4] X.env).map (·.2) = assign (.Name x4 p4) X.env :: (assignEach [] X.env).map (·.2) := by rfl)
    (gn : (assignEach [.Name x px, .Name y py, .Name z pz, .Name x4 p4] X.env).length = 4 := by rfl) (gf : (assignEach [.Name x px, .Name y py, .Name z pz, .Name x4 p4] X.env).findIdx? (·.1) = none := by rfl) :
    SV X E (.Assign [.Tuple [.Name x px, .Name y py, .Name z pz, .Name x4 p4] kt pt] (.Tuple [a, b, c, d] k2 pt2) pos) (sPar4 i j l k w u t s) :=
  PS_imp (ps_asg (pe_tupF (pa_cons ha (pa_cons hb (pa_cons hcc (pa_cons hdd pa_nil h5) h3) h2) h1))
    (pg_tup hc (pgs_cons (pg_name hN hi (.inl hx) (.inr hx)) (pgs_cons (pg_name hN hj (.inl hy) (.inr hy)) (pgs_cons (pg_name hN hl (.inl hz) (.inr hz)) (pgs_cons (pg_name hN hk (.inl h4) (.inr h4)) pgs_nil g4) g3) g2) g1) gn gf) hs hw e1) fun D σ H ⟨C, env, Hd, ok, R, h⟩ => ⟨C, env, Hd, ok, R, w.mono (fun _ z => z) (fun m e1 q v Hd1 H1 sm1 R1 rr => by
    obtain ⟨C', ok', eZ, R1', back⟩ := hold ok R1 rr
    refine ⟨C', e1, Hd1, ok', R1', ?_⟩
    rw [eZ]
    refine u.mono (fun _ z => z) (fun m2 e2 q v2 Hd2 H2 sm2 R2 rr2 => ?_) q
    obtain ⟨C2, ok2, eZ2, R2', back2⟩ := hold ok' R2 rr2
    refine ⟨C2, e2, Hd2, ok2, R2', ?_⟩
    rw [eZ2, eZ]
    refine t.mono (fun _ z => z) (fun m3 e3 q v3 Hd3 H3 sm3 R3 rr3 => ?_) q
    obtain ⟨C3, ok3, eZ3, R3', back3⟩ := hold ok2 R3 rr3
    refine ⟨C3, e3, Hd3, ok3, R3', ?_⟩
    rw [eZ3, eZ2, eZ]
    refine s.mono (fun _ z => z) (fun m4 e4 q v4 Hd4 H4 sm4 R4 rr4 => ?_) q
    obtain ⟨R5, b3, f3⟩ := back3 e4 Hd4 H4 sm4 R4
    obtain ⟨b4, ap34⟩ := f3 v4 m4 rr4
    obtain ⟨R6, c2, f2⟩ := back2 e4 Hd4 H4 (sm3.trans sm4) R5
    obtain ⟨c3, ap23⟩ := f2 v3 m3 b3
    obtain ⟨c4, ap24⟩ := f2 v4 m4 b4
    obtain ⟨R7, d1, f1⟩ := back e4 Hd4 H4 (sm2.trans (sm3.trans sm4)) R6
    obtain ⟨d2, ap12⟩ := f1 v2 m2 c2
    obtain ⟨d3, ap13⟩ := f1 v3 m3 c3
    obtain ⟨d4, ap14⟩ := f1 v4 m4 c4
    refine ⟨by show 4 ≤ sizeLine; decide, fun p o np od => ?_⟩
    have R8 := R7.newO (o := .frz o (.tup [v, v2, v3, v4])) np
    have d1 := RR.newO (o := .frz o (.tup [v, v2, v3, v4])) np d1
    have d2 := RR.newO (o := .frz o (.tup [v, v2, v3, v4])) np d2
    have d3 := RR.newO (o := .frz o (.tup [v, v2, v3, v4])) np d3
    have d4 := RR.newO (o := .frz o (.tup [v, v2, v3, v4])) np d4
    have S1 := R8.store (i := i) d1
    have S2 := S1.store (i := j) (RR.behind R8 d2 ap12)
    have S3 := S2.store (i := l) (RR.behind S1 (RR.behind R8 d3 ap13) ap23)
    have S4 := S3.store (i := k) (RR.behind S2 (RR.behind S1 (RR.behind R8 d4 ap14) ap24) ap34)
    exact ⟨p, [v, v2, v3, v4], rfl, .inl (.inr ⟨o, upd_same⟩), rfl, v, _, rfl, v2, _, rfl, v3, _, rfl, v4, _, rfl, rfl, q _ Hd4 _ (sm1.trans (sm2.trans (sm3.trans sm4))) S4⟩) h⟩
end
end Mx

-- MxSt
/-! Mx: sorted(set(a list of whole numbers)). -/
namespace Mx
open PySem PySem.Spec PyProof.Rows L2
section
variable {P : Program} {w : World} {A : Around} {E : Value → Shared → Prop} {s : Shared}
/-- a set that has just been made -/
abbrev set0 (w : World) : Obj := { cls := .type "set", dict := none, data := .set #[] 0 (.fresh 0 0 (!w.params.followText "set-order")) }
/-- a heap with a new set -/
abbrev hp0 (w : World) (h : Heap) : Heap := h.push (set0 w)
theorem vals_at {items : Array Value} {ns : List Int} (hit : IntsAre items.toList ns) (hz : items.size = ns.length) (i : Nat) (v : Value) (hv : items[i]? = some v) : ∃ k t, ns[i]? = some k ∧ v = .int k t := by
  have hi : i < ns.length := by rw [← hz]; exact (Array.getElem?_eq_some_iff.mp hv).1
  obtain ⟨t, e⟩ := IntsAre.int_at hit i v (by rw [Array.getElem?_toList]; exact hv)
  rw [List.getD_eq_getElem?_getD, List.getElem?_eq_getElem hi] at e
  exact ⟨ns[i], t, List.getElem?_eq_getElem hi, e⟩
theorem call_set_lstI {l : Addr} {items : Array Value} (ns : List Int) {Q : Value → Shared → Prop} (hh : A.handled = none) (hl : s.heap.IsList l items) (hit : IntsAre items.toList ns) (hb : ns.length + 1 < scanBound)
    (h : ∀ (h' : Heap) (tk c : Nat), SetR w h' s.heap.objs.size (fun j => decide (j ∈ ns)) c → (∀ b o, s.heap.get? b = some o → h'.get? b = some o) → Q (.ref s.heap.objs.size) { s with heap := h', toks := tk }) :
    wpAny (model P w) A (call (.type "set") [.ref l]) Q E s := by
  have hz : items.size = ns.length := by rw [← Array.length_toList]; exact hit.length
  have hlS : l < s.heap.objs.size := by
    obtain ⟨_, e, _⟩ := hl
    exact Heap.lt_size e
  have hS : (hp0 w s.heap).get? s.heap.objs.size = some (set0 w) := Heap.get?_push_size _ rfl
  have hT : Shared.TypeIs { s with heap := hp0 w s.heap } (.ref s.heap.objs.size) "set" := ⟨_, hS, rfl⟩
  obtain ⟨c, tl, hmro⟩ := PySem.F.called_set.mro
  have hmade := PySem.F.called_set.made
  have hsub := PySem.F.called_set.sub
  refine wpAny_call (codeAny_of_tree ?_)
  show wpAny _ _ (callAny (.type "set") _) _ _ _
  refine wpAny_pure ⟨Code.quiet_builtin _ (by decide +kernel), codeAny_builtin PySem.F.entry_type_call ?_⟩
  rw [Around.under_plain (weight_type_call_type "set" [.ref l] []) rfl]
  have h1 := PySem.F.called_set.notType
  have h2 := PySem.F.called_set.canCreate
  have hct := PySem.F.typeCall_set_1 (.ref l)
  have hli := PySem.F.called_set.init.lookup
  have hbi := PySem.F.called_set.init.bind (.ref s.heap.objs.size)
  repeat (any_goals (first | assumption | wp_step))
  refine codeAny_mono (code_set_led1 (.ref l) (E := E) (Q₁ := fun obj s₁ => obj = .ref s.heap.objs.size ∧ s₁ = { s with heap := hp0 w s.heap }) ⟨rfl, rfl⟩) ?_
  rintro (e | fl) s₁ hr
  · exact hr
  cases fl with
  | ret obj =>
    obtain ⟨rfl, rfl⟩ := hr
    repeat (any_goals (first | assumption | wp_step))
    refine codeAny_mono (codeAny_call_builtin (R := wants (fun r s₂ => r = .none ∧ ∃ h' tk c, s₂ = { s with heap := h', toks := tk } ∧ SetR w h' s.heap.objs.size (fun j => decide (j ∈ ns)) c ∧ (∀ b o, s.heap.get? b = some o → h'.get? b = some o)) E)
      PySem.F.called_set.init.plain PySem.F.entry_set_init (check_set_init_1 hT ?_)) ?_
    · have hl1 : (hp0 w s.heap).IsList l items := hl.push _
      obtain ⟨⟨ocls, odict, odata, oslots⟩, hol, hcl, nl, hdl⟩ := hl1
      cases hcl
      cases hdl
      have hl1 : (hp0 w s.heap).IsList l items := ⟨_, hol, rfl, nl, rfl⟩
      have hsls := PySem.F.sub_list_set
      have hslf := PySem.F.sub_list_frozenset
      have hne : (Value.type "list" == Value.type "dict") = false := by decide
      unfold Builtin.«set.__init__» noKeywords Builtin.Frozenset.updateFrom
      generalize hPI : pyIter = PI
      wp_walk
      subst hPI
      have sz : (hp0 w s.heap).objs.size = s.heap.objs.size + 1 := Heap.size_push ..
      have nI : l ≠ (hp0 w s.heap).objs.size := by rw [sz]; exact Nat.ne_of_lt (Nat.lt_succ_of_lt hlS)
      refine wpAny_pyIter_list hl1 (wpAny_bind (wpAny_runValue (set_update_ints ((Walks.list (by simp [hh]) _ l nI items).toS) s.heap.objs.size ?_ ns hz hb (vals_at hit hz) (items.size - 0) 0 _ (by omega) (Nat.zero_le _)
        ⟨⟨_, Heap.get?_push_size _ rfl, rfl, rfl⟩, (hl1.push _)⟩ ⟨0, Nat.le_refl 0, setR_new_at (Heap.get?_push_of_some _ hS)⟩ ?_)))
      · rw [sz]
        simp only [List.mem_cons, List.not_mem_nil, or_false, not_or]
        exact ⟨Nat.ne_of_lt (Nat.lt_succ_self _), Nat.ne_of_gt hlS⟩
      · rintro ⟨h', g2, d', tk', os'⟩ c' hm hc' hS'
        cases hm.gens
        cases hm.drawn
        cases hm.os
        show wpAny _ _ _ _ _ _
        refine wpAny_pure ?_
        show wpAny _ _ (ret Value.none) _ _ _
        refine wpAny_pure ⟨rfl, h', tk', c', rfl, hS', fun b o e => ?_⟩
        have hb0 : b < s.heap.objs.size := Heap.lt_size e
        exact hm.heap b o (by
          rw [sz]
          simp only [List.mem_cons, List.not_mem_nil, or_false, not_or]
          exact ⟨Nat.ne_of_lt hb0, Nat.ne_of_lt (Nat.lt_succ_of_lt hb0)⟩) (Heap.get?_push_of_some _ (Heap.get?_push_of_some _ e))
    · rintro (e | fl) s₂ hr
      · exact hr
      cases fl with
      | ret r =>
        obtain ⟨rfl, h', tk, c', rfl, hS', hk'⟩ := hr
        repeat (any_goals (first | assumption | wp_step))
        exact h _ _ _ hS' hk'
      | _ => exact hr.elim
  | _ => exact hr.elim
end
end Mx

-- MxSt2
/-! Mx: sorted(set(a list of whole numbers)), as a rule. -/
namespace Mx
open PySem PySem.Spec PyProof.Rows L2
section
variable {P : Program} {w : World} {A : Around} {E : Value → Shared → Prop} {s : Shared}
open SrtO in
theorem sorted_setI {a : Addr} {S : Int → Bool} {n : Nat} {Q : Value → Shared → Prop} (R : SetR w s.heap a S n) (hh : A.handled = none)
    (hQ : ∀ s' p (out : Array Value) (c : Nat) (ns : List Int), (∀ b o, s.heap.get? b = some o → s'.heap.get? b = some o) → s'.gens = s.gens → s'.os = s.os → s.heap.objs.size ≤ p → s'.heap.get? p = some (seqObj "list" out c) →
      IntsAre out.toList ns → ns.length = n → ns.length ≤ sizeLine → ns.Nodup → ns.Pairwise (· ≤ ·) → (∀ k, k ∈ ns ↔ S k = true) → Q (.ref p) s') :
    wpAny (model P w) A (call (.builtin "sorted") [.ref a]) Q E s := by
  obtain ⟨o, es, ep, t, ho, hex, hd, good, nd, mem, hlt, fits, hn, ris, led⟩ := R
  refine Calls.call_function_entry kind_sorted plain_sorted entry_sorted (args_sorted1 _) ?_
  unfold Builtin.«sorted»
  refine wpAny_bind (m := checkCount "sorted" 1 1 _) (wpAny_pure (wpAny_bind (collect_set (A := A.in1) hh ⟨o, ho, hex.1, hd⟩ fits hlt ris led ?_)))
  intro s1 vs k1 hz g1 o1 pm
  have hi : IntsAre vs (vs.map iv) := ints_iv fun v hv => by
    obtain ⟨e, he, rfl⟩ := List.mem_map.mp (pm.mem_iff.mp hv)
    obtain ⟨k, tk, q, _⟩ := good e he
    exact ⟨k, tk, q⟩
  have hk : (es.toList.map (·.2)).map iv = es.toList.map L2.keyOf := by
    rw [List.map_map]
    refine List.map_congr_left fun e he => ?_
    obtain ⟨k, tk, q, _⟩ := good e he
    show iv e.2 = L2.keyOf e
    unfold L2.keyOf
    rw [q]
    rfl
  have pv : (vs.map iv).Perm (es.toList.map L2.keyOf) := by rw [← hk]; exact pm.map iv
  have lv : vs.length ≤ sizeLine := by
    rw [pm.length_eq, List.length_map, Array.length_toList]
    have : scanBound ≤ sizeLine := by decide
    omega
  refine wpAny_bind (wpAny_newList ?_ lv)
  have hoL : (s1.heap.push (seqObj "list" vs.toArray 0)).get? s1.heap.objs.size = some (seqObj "list" vs.toArray 0) := Heap.get?_push_size _ rfl
  refine wpAny_bind (wpAny_holding (wpAny_call_entry slot_list_sort ⟨_, hoL, rfl⟩ entry_list_sort (list_sort_ord (s := { s1 with heap := s1.heap.push (seqObj "list" vs.toArray 0) }) swo_int hoL lv (fun h2 => ints_sortable hi h2) fun out h1 h2 => ⟨_, rfl, ?_⟩) (args_list_sort _)))
  obtain ⟨c1, c2, c3⟩ := ints_out hi h1 h2
  obtain ⟨c, hc⟩ := sortedHeap_at (vs := vs) (out := out.toArray) hoL
  have pp := c2.trans pv
  refine wpAny_pure ⟨_, rfl, hQ _ s1.heap.objs.size out.toArray c (out.map iv) (fun b u e => ?_) g1 o1 hz hc c1 ?_ ?_ (pp.nodup_iff.mpr nd) c3 fun k => pp.mem_iff.trans (mem k).symm⟩
  · have q := k1 b u e
    have hlt2 := Heap.lt_size q
    show (sortedHeap (s1.heap.push (seqObj "list" vs.toArray 0)) s1.heap.objs.size vs out.toArray).get? b = some u
    rw [sortedHeap_old (Nat.ne_of_lt hlt2) (by rw [size_push']; exact Nat.lt_succ_of_lt hlt2)]
    exact Heap.get?_push_of_some _ q
  · rw [pp.length_eq, List.length_map, Array.length_toList, hn]
  · rw [List.length_map, h2.perm.length_eq]
    exact lv
end
section
variable {X : Cx}
def tSortSet (K : PySem.W.Frag) (ta : TE) : TE := fun σ H Q => ta σ H fun x H1 => ∃ (l : Addr) (ns : List Int), x = V.ref l ∧ SqL K H1 l (ns.map V.int) ∧ ns.length ≤ 1000 ∧
  ∀ (ns' : List Int) (p : Addr), ns'.Nodup → ns'.Pairwise (· ≤ ·) → (∀ k, k ∈ ns' ↔ k ∈ ns) → H1 p = none → Q (.ref p) (upd H1 p (.lst (ns'.map V.int)))
theorem pe_sortSet {a : Expr} {ta : TE} {p p2 q pos : Pos} (hc : X.calm = true) (hg : Gl X "sorted") (hm : X.mg "sorted" = none) (hg2 : Gl X "set") (hm2 : X.mg "set" = none) (ha : PE X a ta)
    (na : starEach [a] X.env = (false, eval a X.env) :: starEach [] X.env := by rfl) : PE X (.Call (.Name "sorted" p) [.Call (.Name "set" p2) [a] [] q] [] pos) (tSortSet X.K ta) := by
  constructor
  intro pins s σ H Q I h
  refine Call_ ?_
  apply ld_blt I hg hm boot_sorted
  refine callWith_builtin1 (args_cons ?_ rfl) rfl rfl
  refine Call_ ?_
  apply ld_blt I hg2 hm2 boot_set
  refine callWith_type1 (args_cons (thn (ha.run pins s σ H _ I h) ?_) na) na rfl
  rintro v s1 ⟨x, H1, I1, r1, l, ns, ex, hq, hl, q1⟩
  apply args_nil
  subst ex
  cases r1
  obtain ⟨its, rv, pt, hz⟩ := I1.list hq
  refine call_set_lstI (items := its.toArray) ns (I1.ok.hd hc) pt.isList (by simpa using ints_of_vals rv) (by unfold scanBound; omega) ?_
  intro h' tk c R1 k
  apply args_nil
  have I2 : L2.Inv X pins σ H1 { s1 with heap := h', toks := tk } := I1.kept k
  refine sorted_setI (s := { s1 with heap := h', toks := tk }) R1 (I1.ok.hd hc) fun s' p out c' ns' kp g o hp hg' hi hn hz nd pw mem => ?_
  have hnp : H1 p = none := I2.hok.fresh hp
  have J : L2.Inv X pins σ (upd H1 p (.lst (ns'.map V.int))) { s1 with heap := s'.heap, gens := s'.gens, drawn := s'.drawn, toks := s'.toks } :=
    L2.Inv.call (s := { s1 with heap := h', toks := tk }) (ch := []) I2 (Un.laid kp hp hnp) (I2.hok.laid kp hp ⟨by rw [List.length_map]; exact hz, out.toList, c', vals_of_ints hi, hg'⟩) (by rw [g]; exact I2.bare) (fun _ z => nomatch z)
  have e : s' = { s1 with heap := s'.heap, gens := s'.gens, drawn := s'.drawn, toks := s'.toks } := by
    cases s'
    cases o
    rfl
  rw [e]
  refine ⟨.ref p, _, J, rfl, q1 ns' p nd pw (fun k => (mem k).trans ?_) hnp⟩
  exact decide_eq_true_iff
end
variable [TheDeck]
def pSortSet : P1 where
  run x Q := ∃ ns : List Int, x = .list (ns.map PyData.int) ∧ ns.length ≤ 1000 ∧ ∀ ns' : List Int, ns'.Nodup → ns'.Pairwise (· ≤ ·) → (∀ k, k ∈ ns' ↔ k ∈ ns) → Q (.o (.lst (ns'.map PyData.int)))
  mono hQ h := let ⟨ns, h1, h2, h3⟩ := h; ⟨ns, h1, h2, fun ns' a b c => hQ _ (h3 ns' a b c)⟩
section
variable {X : Cx} {E : XK} {p p2 q pos : Pos} {a : Expr} {oa : Od}
theorem s_sortSet : S1 X.K (fun v H Q => ∃ (l : Addr) (ns : List Int), v = V.ref l ∧ SqL X.K H l (ns.map V.int) ∧ ns.length ≤ 1000 ∧
    ∀ (ns' : List Int) (p : Addr), ns'.Nodup → ns'.Pairwise (· ≤ ·) → (∀ k, k ∈ ns' ↔ k ∈ ns) → H p = none → Q (.ref p) (upd H p (.lst (ns'.map V.int)))) pSortSet := by
  intro Hd H x v Qm Q e hx ⟨ns, ex, hl, h⟩ k
  subst ex
  obtain ⟨t, vs, rfl, t1, t2⟩ := hx.lst e
  obtain rfl := t2.ints
  exact ⟨t, ns, rfl, SqL.of t1, hl, fun ns' p h1 h2 h3 np => k _ _ _ (h ns' h1 h2 h3) (.newO np ⟨_, upd_same, DqAll.of_ints ns'⟩)⟩
theorem m_sortSet (hc : X.calm = true) (hg : Gl X "sorted") (hm : X.mg "sorted" = none) (hg2 : Gl X "set") (hm2 : X.mg "set" = none) (ha : OD X E a oa)
    (na : starEach [a] X.env = (false, eval a X.env) :: starEach [] X.env := by rfl) : EV X E (.Call (.Name "sorted" p) [.Call (.Name "set" p2) [a] [] q] [] pos) (xOp1 pSortSet oa) :=
  PE_imp (pe_sortSet hc hg hm hg2 hm2 ha na) fun _ _ _ h => op1_imp s_sortSet h
end
end Mx

-- MxLr
/-! Mx: list(range(a, b)), range downwards, a raise that never comes. -/
namespace Mx
open PySem PySem.Spec PyProof.Rows L2
variable [TheDeck]
section
variable {X : Cx} {E : XK} {pos p p2 pos2 : Pos}
def xListR2 (w u : Ex) : Ex where
  rr Z e Q := w.run Z e fun r e1 => ∃ a : Int, r = .d (.int a) ∧ u.run Z e1 fun r2 e2 => ∃ b : Int, r2 = .d (.int b) ∧ (0 ≤ a ∧ a ≤ 16777216 ∧ 0 ≤ b ∧ b ≤ 16777216) ∧ Q (.o (.lst (rng a (b - a).toNat))) e2
  mn hZ hQ h := w.mono hZ (fun r e1 ⟨n, h1, h2⟩ => ⟨n, h1, u.mono hZ (fun r2 e2 ⟨b, h3, h4, q⟩ => ⟨b, h3, h4, hQ _ _ q⟩) h2⟩) h
theorem m_listR2 {a b : Expr} {w u : Ex} (hc : X.calm = true) (hg : Gl X "list") (hm : X.mg "list" = none) (hg2 : Gl X "range") (hm2 : X.mg "range" = none) (ha : EV X E a w) (hb : EV X E b u) (na : starEach [a, b] X.env = (false, eval a X.env) :: starEach [b] X.env := by rfl) (nb : starEach [b] X.env = (false, eval b X.env) :: starEach [] X.env := by rfl)
    (hp : (backTo pos2 (starEach [b] X.env)).any (·.1) = false := by rfl)
    (na2 : starEach [Expr.Call (.Name "range" p2) [a, b] [] pos2] X.env = (false, eval (.Call (.Name "range" p2) [a, b] [] pos2) X.env) :: starEach [] X.env := by rfl) : EV X E (.Call (.Name "list" p) [.Call (.Name "range" p2) [a, b] [] pos2] [] pos) (xListR2 w u) :=
  PE_imp (pe_listRg hc hg hm (prg_2 hg2 hm2 ha hb na nb hp) na2) fun σ H Q ⟨C, env, Hd, ok, R, h⟩ => ⟨C, env, Hd, ok, R, w.mono (fun _ z => z) (fun r e1 ⟨n, hr, h⟩ v Hd1 H1 sm1 R1 rr => by
    subst hr
    obtain rfl := Dq.int_inv rr
    refine ⟨C, e1, Hd1, ok, R1, u.mono (fun _ z => z) (fun r2 e2 ⟨b, hr2, ⟨b1, b2, b3, b4⟩, q⟩ v2 Hd2 H2 sm2 R2 rr2 => ?_) h⟩
    subst hr2
    obtain rfl := Dq.int_inv rr2
    refine ⟨n, b, rfl, rfl, .of_le (by omega) (by omega) (by omega) (by omega), fun t nt => ?_⟩
    exact q _ Hd2 _ (sm1.trans sm2) (R2.newO nt) ⟨t, rfl, R2.dh.free nt, R2.toBase.h0none nt, ⟨_, upd_same, by unfold rgV; exact rg_dq n _⟩, not_owns_new R2 nt⟩) h⟩
/-- i, i - 1, .. n of them -/
def rngD (lo : Int) (n : Nat) : List D := (List.range n).map fun i : Nat => PyData.int (lo - (i : Int))
theorem rngD_get {lo : Int} {n i : Nat} {x : D} (h : (rngD lo n)[i]? = some x) : i < n ∧ x = .int (lo - i) := by
  unfold rngD at h
  rw [List.getElem?_map] at h
  by_cases hi : i < n
  · rw [List.getElem?_range hi] at h
    exact ⟨hi, (Option.some.inj h).symm⟩
  · rw [List.getElem?_eq_none (by rw [List.length_range]; omega)] at h
    cases h
theorem rngD_len (lo : Int) (n : Nat) : (rngD lo n).length = n := by
  unfold rngD
  rw [List.length_map, List.length_range]
def iRange3 (t : Args) : Itr where
  rr Z e Q := t.run Z e fun ms e1 => ∃ i j : Int, ms = [.d (.int i), .d (.int j), .d (.int (-1))] ∧ (-(2 ^ 62) ≤ i ∧ i < 2 ^ 62 ∧ -(2 ^ 62) ≤ j ∧ j < 2 ^ 62) ∧ Q (rngD i (i - j).toNat) e1
  mn hZ hQ h := t.mono hZ (fun r e1 ⟨i, j, h1, h2, h3⟩ => ⟨i, j, h1, h2, hQ _ _ h3⟩) h
theorem i_range3 {tg a b c : Expr} {t : Args} (hg : Gl X "range") (hm : X.mg "range" = none) (ha : AV X E [a, b, c] t) (hs : starEach [a, b, c] X.env = (false, eval a X.env) :: starEach [b, c] X.env := by rfl) (hpl : (backTo pos (starEach [b, c] X.env)).any (·.1) = false := by rfl) :
    IV X E tg (.Call (.Name "range" p) [a, b, c] [] pos) (iRange3 t) :=
  ⟨fun pins s σ H R I q => (pi_range3 (tg := tg) hg hm ha hs hpl).run pins s σ H R I (by
    obtain ⟨C, env, Hd, ok, Rp, q⟩ := q
    refine ⟨C, env, Hd, ok, Rp, t.mono (fun _ z => z) (fun ms e1 ⟨i, j, hms, hb, hq⟩ vs Hd1 H1 sm1 R1 as => ?_) q⟩
    subst hms
    cases as with
    | d dq r =>
      cases r with
      | d dq2 r =>
        cases r with
        | d dq3 r =>
          cases r
          obtain rfl := dq.int_inv
          obtain rfl := dq2.int_inv
          obtain rfl := dq3.int_inv
          refine ⟨i, j, -1, (i - j).toNat, rfl, RgC.neg hb.1 hb.2.1 hb.2.2.1 hb.2.2.2, hq _ Hd1 H1 sm1 R1 fun C i2 env2 Hd2 σ2 H2 sm R2 => ?_⟩
          refine ⟨fun hl => by rw [rngD_len] at hl; exact Nat.le_of_eq hl, fun x hx => ?_⟩
          obtain ⟨hi, rfl⟩ := rngD_get hx
          refine ⟨hi, fun v H3 hy => ?_⟩
          obtain ⟨rfl, rfl⟩ := hy
          have e : i + ((i2 : Nat) : Int) * (-1) = i - i2 := by omega
          rw [e]
          exact ⟨Hd2, Same.refl _, R2, .int _⟩)⟩
def sFail : Stm where
  rr _ _ _ := False
  mn _ _ h := h
theorem s_fail {e f : Option Expr} : SV X E (.Raise e f pos) sFail := ⟨fun pins s σ H D I ⟨_, _, _, _, _, h⟩ => h.elim⟩
end
end Mx

-- MxEv
/-! Mx: every second item of a tuple: t[::2]. -/
namespace Mx
open PySem PySem.Spec PyProof.Rows L2
def evs {α : Type} (xs : List α) : List α := (List.range ((xs.length + 1) / 2)).filterMap fun (m : Nat) => xs[2 * m]?
theorem evs_mem {α : Type} {xs : List α} {x : α} (h : x ∈ evs xs) : x ∈ xs := by
  obtain ⟨m, _, e⟩ := List.mem_filterMap.mp h
  exact List.mem_of_getElem? e
theorem evs_len {α : Type} (xs : List α) : (evs xs).length ≤ xs.length := by
  refine Nat.le_trans (List.length_filterMap_le ..) ?_
  rw [List.length_range]
  omega
theorem pw_fm {α β : Type} {R : List α → List β → Prop} (n0 : R [] []) (app : ∀ a b, R a b → ∀ x y, R [x] [y] → R (a ++ [x]) (b ++ [y])) {f : Nat → Option α} {g : Nat → Option β} (h : ∀ m, (f m = none ∧ g m = none) ∨ ∃ x y, f m = some x ∧ g m = some y ∧ R [x] [y]) :
    ∀ k, R ((List.range k).filterMap f) ((List.range k).filterMap g)
  | 0 => n0
  | k + 1 => by
    have ih := pw_fm n0 app h k
    rw [List.range_succ, List.filterMap_append, List.filterMap_append]
    rcases h k with ⟨e1, e2⟩ | ⟨x, y, e1, e2, r⟩
    · rw [show List.filterMap f [k] = [] by simp [e1], show List.filterMap g [k] = [] by simp [e2], List.append_nil, List.append_nil]
      exact ih
    · rw [show List.filterMap f [k] = [x] by simp [e1], show List.filterMap g [k] = [y] by simp [e2]]
      exact app _ _ ih x y r
section
variable {prog : Program} {w : World} {A : Around} {E : Value → Shared → Prop} {s : Shared}
theorem adjust_two (n : Nat) : Builtin.Slice.sliceAdjust none none 2 (n : Int) = (0, (n : Int)) := by
  unfold Builtin.Slice.sliceAdjust
  simp
theorem places_two (n : Nat) : Builtin.Slice.slicePlaces 0 (n : Int) 2 = (n + 1) / 2 := by
  unfold Builtin.Slice.slicePlaces
  rw [if_pos (by decide)]
  split <;> omega
theorem sliceApplied_two {sl : Addr} {vk : Value} {n : Nat} {Q : Int × Int × Nat → Shared → Prop} (hs : s.heap.IsSliceOf sl .none .none vk) (pk : IsPart vk (some 2))
    (h : Q (0, 2, (n + 1) / 2) s) : wpAny (model prog w) A (Builtin.Slice.sliceApplied (.ref sl) (pure (n : Int))) Q E s := by
  obtain ⟨os, hos, hcs, hds⟩ := id hs
  unfold Builtin.Slice.sliceApplied Builtin.Slice.sliceFields
  refine wpAny_bind (wpAny_bind (wpAny_field hos hds (x := .none) rfl (wpAny_bind (wpAny_field hos hds (x := .none) rfl (wpAny_bind (wpAny_field hos hds (x := vk) rfl (wpAny_pure ?_)))))))
  refine wpAny_bind (HT.slicePart_ pk ?_)
  show wpAny _ _ (if ((2 : Int) == 0) = true then _ else _) _ _ s
  rw [if_neg (by decide)]
  refine wpAny_bind (HT.slicePart_ .none (wpAny_bind (HT.slicePart_ .none (wpAny_bind (wpAny_pure ?_)))))
  show wpAny _ _ (match Builtin.Slice.sliceAdjust none none 2 (n : Int) with | (lo, hi) => pure (lo, (2 : Int), Builtin.Slice.slicePlaces lo hi 2)) _ _ s
  rw [adjust_two]
  show wpAny _ _ (pure ((0 : Int), (2 : Int), Builtin.Slice.slicePlaces 0 (n : Int) 2)) _ _ s
  rw [places_two]
  exact wpAny_pure h
theorem pick_two (xs : Array Value) : ((List.range ((xs.size + 1) / 2)).filterMap fun (m : Nat) => xs[((0 : Int) + (m : Int) * 2).toNat]?).toArray = (evs xs.toList).toArray := by
  congr 1
  unfold evs
  rw [Array.length_toList]
  congr 1
  funext m
  rw [show ((0 : Int) + (m : Int) * 2).toNat = 2 * m by omega, Array.getElem?_toList]
theorem getItem_tuple_two {t sl : Addr} {items : Array Value} {vk : Value} {Q : Value → Shared → Prop} (ht : IsTup s.heap t items) (hs : s.heap.IsSliceOf sl .none .none vk) (pk : IsPart vk (some 2))
    (h : Q (.ref s.heap.objs.size) { s with heap := s.heap.push { cls := .type "tuple", data := .seq (evs items.toList).toArray } })
    (hsz : items.size ≤ sizeLine) : wpAny (model prog w) A (getItem (.ref t) (.ref sl)) Q E s := by
  have htake : sizeOk (.seq (evs items.toList).toArray) := by
    show (evs items.toList).toArray.size ≤ sizeLine
    rw [List.size_toArray]
    exact Nat.le_trans (evs_len _) (by rw [Array.length_toList]; exact hsz)
  obtain ⟨os, hos, hcs, hds⟩ := id hs
  have hTs : s.TypeIs (.ref sl) "slice" := ⟨os, hos, hcs⟩
  unfold getItem
  try with_reducible refine wpAny_holding ?_
  first | refine wpAny_bind (wpAny_pure ?_) | skip
  refine wpAny_bind (wpAny_sequenceKey ht.typeIs (by decide) ?_)
  refine wpAny_bind (wpAny_callSpecial?_slot (name := Str.ofString "__getitem__") ht.typeIs PyProof.Rows.slot_tuple_getitem
    (wpAny_call_entry PyProof.Rows.slot_tuple_getitem ht.typeIs entry_tuple_getitem ?_ (args_tuple_getitem _ _)))
  show wpAny _ _ (Builtin.Tuple.tupleItemsOf (.ref t) >>= _) _ _ s
  refine wpAny_bind (tupleItemsOf_ ht ?_)
  refine wpAny_bind (wpAny_typeOf hTs ?_)
  rw [if_pos (by decide)]
  refine wpAny_bind (sliceApplied_two hs pk ?_)
  have hno : ¬ (((0 : Int) == 0 && (2 : Int) == 1 && (items.size + 1) / 2 == items.size) = true) := by
    intro q
    rw [Bool.and_eq_true, Bool.and_eq_true] at q
    exact absurd q.1.2 (by decide)
  show wpAny _ _ (if ((0 : Int) == 0 && (2 : Int) == 1 && (items.size + 1) / 2 == items.size) = true then _ else _) _ _ s
  rw [if_neg hno, pick_two]
  first
    | exact wpAny_bind (m := Builtin.Tuple.tupleExact _) (wpAny_newObj_type (wpAny_pure ⟨_, rfl, wpAny_pure h⟩) htake)
    | exact wpAny_bind (m := Builtin.Tuple.tupleExact _) (wpAny_newObj_type (wpAny_bind (wpAny_pure (wpAny_pure ⟨_, rfl, wpAny_pure h⟩))) htake)
    | exact wpAny_bind (wpAny_bind (m := Builtin.Tuple.tupleExact _) (wpAny_newObj_type (wpAny_pure (wpAny_pure ⟨_, rfl, wpAny_pure h⟩)) htake))
    | exact wpAny_bind (wpAny_bind (m := Builtin.Tuple.tupleExact _) (wpAny_newObj_type (wpAny_pure ⟨_, rfl, wpAny_pure h⟩) htake))
end
def rEvs (K : PySem.W.Frag) : V → Hp → VK → Prop := fun x H Q => ∃ a xs, x = .ref a ∧ SqT K H a xs ∧ newT (evs xs) H Q
theorem Vals_evs {xs : List V} {us : List Value} (r : Vals xs us) : Vals (evs xs) (evs us) := by
  unfold evs
  rw [← r.length]
  refine pw_fm (R := Vals) .nil (fun a b h x y r => h.append r) (fun m => ?_) _
  cases e : xs[2 * m]? with
  | none => exact .inl ⟨rfl, r.none_of e⟩
  | some x =>
    obtain ⟨u, hu, ru⟩ := r.get e
    exact .inr ⟨x, u, rfl, hu, .cons ru .nil⟩
section
variable {X : Cx} {e : Expr} {te : TE} {p2 p3 pos : Pos}
theorem pe_evs {kk} (he : PE X e te) : PE X (.Subscript e (.Slice none none (some (.Constant (.int 2) kk p3)) p2) pos) (fun σ H Q => te σ H fun x H1 => rEvs X.K x H1 Q) := by
  refine ⟨fun pins s σ H Q I h => ?_⟩
  refine Subscript_ (thn (he.run pins s σ H _ I h) fun v s1 ⟨x, H1, I1, r1, q1⟩ => ?_)
  refine wpAny_Slice ?_
  rw [evalPart_none]
  refine wpAny_pure (wpAny_pure ?_)
  rw [evalPart_some]
  refine thn ((pe_int (i := 2) (j := kk) (pos := p3)).run pins s1 σ H1 (fun y H2 => y = .int 2 ∧ H2 = H1) I1 ⟨rfl, rfl⟩) fun vk s2 ⟨y, H2, I2, r2, ey, eH⟩ => ?_
  subst ey eH
  obtain ⟨tk, rfl⟩ := (show ∃ t, vk = Value.int 2 t from r2)
  have I4 : L2.Inv X pins σ H2 { s2 with heap := s2.heap.push { cls := .type "slice", data := .fields #[.none, .none, .int 2 tk] } } := I2.kept (t' := s2.toks) fun b ob q => Heap.get?_push_of_some _ q
  show wpAny (model X.prog X.w) X.A (subscriptTail e (.Slice none none (some (.Constant (.int 2) kk p3)) p2) v (.ref s2.heap.objs.size)) (EP X pins σ Q) X.xe { s2 with heap := s2.heap.push { cls := .type "slice", data := .fields #[.none, .none, .int 2 tk] } }
  obtain ⟨a, xs, ex, hx, q⟩ := q1
  subst ex
  obtain rfl := (show v = Value.ref a from r1)
  have hsl : ({ s2 with heap := s2.heap.push { cls := .type "slice", data := .fields #[.none, .none, .int 2 tk] } } : Shared).heap.IsSliceOf s2.heap.objs.size .none .none (.int 2 tk) := Heap.IsSliceOf.new ..
  obtain ⟨its, r, ht, hz⟩ := I4.tuple hx
  have hlen : its.toArray.size = xs.length := by rw [List.size_toArray]; exact r.length.symm
  refine tail_any (ops := [.ref a, .ref s2.heap.objs.size]) ht.typeIs PyProof.Rows.slot_tuple_getitem.lookup ?_ (by with_unfolding_all rfl)
  refine getItem_tuple_two ht hsl (.int _ _) ?_ (by rw [hlen]; exact hz)
  exact Mx.Inv.tupF (t' := s2.toks) I4 (fun _ _ e => e) (Vals_evs r) (Nat.le_trans (evs_len _) hz) q
end
def pEvs : P1 where
  run x Q := match x with
    | .tuple xs => Q (.d (.tuple (evs xs)))
    | _ => False
  mono {x Q Q'} hQ h := by
    cases x <;> first | exact hQ _ h | exact h
theorem DqAll.evs {K : PySem.W.Frag} {H : Hp} {vs : List V} {ds : List D} (q : DqAll K H vs ds) : DqAll K H (evs vs) (Mx.evs ds) := by
  unfold Mx.evs
  rw [← q.len]
  refine pw_fm (R := DqAll K H) .nil (fun a b h x y r => h.append r) (fun m => ?_) _
  cases e : ds[2 * m]? with
  | none =>
    refine .inl ⟨?_, rfl⟩
    rw [List.getElem?_eq_none_iff] at e ⊢
    rw [q.len]
    exact e
  | some x =>
    obtain ⟨u, hu, ru⟩ := q.get e
    exact .inr ⟨u, x, hu, rfl, .one ru⟩
section
variable [TheDeck]
variable {X : Cx} {E : XK} {pos p2 p3 : Pos} {a : Expr} {oa : Od}
theorem s_evs : S1 X.K (fun v H Q => rEvs X.K v H Q) pEvs := by
  intro Hd H x v Qm Q e hx h k
  unfold pEvs at h
  dsimp only at h
  split at h
  · obtain ⟨p, vs, rfl, q1, q2⟩ := hx.tupD.tup_inv
    exact ⟨p, vs, rfl, (same_seqF e q1).seq, newT_res e q2.evs h k⟩
  · exact h.elim
theorem m_evs {kk} (ha : OD X E a oa) : EV X E (.Subscript a (.Slice none none (some (.Constant (.int 2) kk p3)) p2) pos) (xOp1 pEvs oa) :=
  PE_imp (pe_evs ha) fun _ _ _ h => op1_imp s_evs h
end
end Mx

-- MxNe
/-! Mx: xs != [] for a list of values of any kind, dicts among them. -/
namespace Mx
open PySem PySem.Spec PyProof.Rows L2
def rNeE (K : PySem.W.Frag) : R2 := fun x y H Q => ∃ a b xs, x = .ref a ∧ y = .ref b ∧ SqL K H a xs ∧ SqL K H b [] ∧ Q (.bl (!xs.isEmpty)) H
def pNeE : P2 where
  run x y Q := match x, y with
    | .list xs, .list [] => Q (.d (.bool (!xs.isEmpty)))
    | _, _ => False
  mono h q := by
    split at q <;> first | exact h _ q | exact q
section
variable [TheDeck] {X : Cx} {E : XK} {pos p : Pos} {a b : Expr} {oa ob : Od}
theorem op_neE (hu : X.A.units + 64 < cLine) : OpR X (compareOp .NotEq) (rNeE X.K) := by
  intro pins s σ H x y v u Q I rx ry h
  obtain ⟨a, b, xs, ex, ey, hx, hy, q⟩ := h
  subst ex ey
  obtain rfl := (show v = Value.ref a from rx)
  obtain rfl := (show u = Value.ref b from ry)
  obtain ⟨is, rv, ⟨o, n, ho, hc, hdd, hd⟩, _⟩ := I.list hx
  obtain ⟨js, rw', ⟨o', n', ho', hc', hdd', hd'⟩, _⟩ := I.list hy
  have l1 := rv.length
  have l2 := rw'.length
  have hl : s.heap.IsList a is.toArray := ⟨_, ho, hc, n, hd⟩
  have hl' : s.heap.IsList b js.toArray := ⟨_, ho', hc', n', hd'⟩
  have hj : js = [] := by
    cases js with
    | nil => rfl
    | cons _ _ => cases l2
  subst hj
  have go : ∀ c : Bool, c = !xs.isEmpty → SeqAt.RcNeAt X.A s (.ref a) (.ref b) c → wpAny (model X.prog X.w) X.A (compareOp .NotEq (.ref a) (.ref b)) (EP X pins σ Q) X.xe s := fun c e r => by
    subst e
    exact r X.prog X.w _ _ ⟨.bl _, H, I, rfl, q⟩
  cases is with
  | nil =>
    cases xs with
    | nil => exact go false rfl (SeqAt.RcNeAt.lists (e := fun _ => true) hl hl' rfl (by omega) fun j h1 h2 => absurd h2 (Nat.not_lt_zero _))
    | cons _ _ => cases l1
  | cons i is =>
    cases xs with
    | nil => cases l1
    | cons _ _ => exact go true rfl (SeqAt.RcNeAt.lists_lengths hl hl' rfl (by omega))
theorem s_neE : S2 X.K (rNeE X.K) pNeE := by
  intro Hd H x y v u Qm Q e hx hy h k
  unfold pNeE at h
  dsimp only at h
  split at h
  · rename_i xs
    obtain ⟨a, vs, rfl, h1, h2⟩ := hx.lst e
    obtain ⟨b, ws, rfl, h3, h4⟩ := hy.lst e
    cases h4
    refine ⟨a, b, vs, rfl, rfl, SqL.of h1, SqL.of h3, ?_⟩
    have : vs.isEmpty = xs.isEmpty := by cases h2 <;> rfl
    rw [this]
    exact dat_res (.bl _) h k
  · exact h.elim
theorem m_neE (hu : X.A.units + 64 < cLine) (ha : OD X E a oa) (hb : OD X E b ob) : EV X E (.Compare a [.NotEq] [b] pos) (xOp2 pNeE oa ob) := m_cmp (op_neE hu) s_neE ha hb (nomark _)
theorem t_neE (hu : X.A.units + 64 < cLine) (ha : OD X E a oa) (hb : OD X E b ob) : TV X E (.Compare a [.NotEq] [b] pos) (Mx.tB (xOp2 pNeE oa ob)) := t_cmp (op_neE hu) s_neE ha hb (nomark _)
end
end Mx

-- MxZp1
/-! list(zip(xs, ys)) of two lists: the loop that draws all pairs, the tuples kept. -/
namespace PySem
open Sem (wp)
open L2 (lstObj)
theorem zip_no_len : typeLookup (.type "zip") "__len__" = pure none := am_miss_of_fast (by decide +kernel)
theorem zip_no_hint : typeLookup (.type "zip") "__length_hint__" = pure none := am_miss_of_fast (by decide +kernel)
/-- the zip and what it draws from, i pairs drawn -/
structure ZS (h : Heap) (z TI TO i1 i2 l1 l2 S : Addr) (xs ys : Array Value) (i : Nat) : Prop where
  ti : IsPair h TI (.ref i1) (.ref i2)
  a1 : h.IsListIter i1 l1 i
  a2 : h.IsListIter i2 l2 i
  b1 : h.IsList l1 xs
  b2 : h.IsList l2 ys
  to_ : ∃ o, h.get? TO = some o
  zz : (IsZip h z TI TO .none ∧ ∃ a b, IsPair h TO a b) ∨ ∃ T f oT, IsZipHeld h z TI TO T f ∧ h.get? T = some oT ∧ T ≠ z ∧ T ≠ i1 ∧ T ≠ i2 ∧ T ≠ S
/-- the tuples that came so far -/
structure ZI (h : Heap) (B z TI TO i1 i2 S : Addr) (xs ys : Array Value) (ts : List Addr) (acc : Array Value) : Prop where
  eq : acc.toList = ts.map Value.ref
  pw : ts.Pairwise (· < ·)
  at_ : ∀ (j : Nat) (T : Addr), ts[j]? = some T → ∃ x y, xs[j]? = some x ∧ ys[j]? = some y ∧ IsPair h T x y
  lt : ∀ T ∈ ts, B ≤ T ∧ T < h.objs.size ∧ T ≠ z ∧ T ≠ TO ∧ T ≠ i1 ∧ T ≠ i2 ∧ T ≠ S
theorem ZS.keep {h h' : Heap} {z TI TO i1 i2 l1 l2 S : Addr} {xs ys : Array Value} {i : Nat} (st : ZS h z TI TO i1 i2 l1 l2 S xs ys i) (dz : z ≠ S) (dTI : TI ≠ S) (dTO : TO ≠ S) (d1 : i1 ≠ S) (d2 : i2 ≠ S) (e1 : l1 ≠ S) (e2 : l2 ≠ S) (hk : ∀ b o, b ≠ S → h.get? b = some o → h'.get? b = some o) : ZS h' z TI TO i1 i2 l1 l2 S xs ys i := by
  refine ⟨hk _ _ dTI st.ti, st.a1.at fun o e => hk _ o d1 e, st.a2.at fun o e => hk _ o d2 e, st.b1.at fun o e => hk _ o e1 e, st.b2.at fun o e => hk _ o e2 e, (let ⟨o, e⟩ := st.to_; ⟨o, hk _ _ dTO e⟩), ?_⟩
  rcases st.zz with ⟨hz, a, b, hTO⟩ | ⟨T, f, oT, hz, hT, r1, r2, r3, r4⟩
  · exact .inl ⟨hk _ _ dz hz, a, b, hk _ _ dTO hTO⟩
  · exact .inr ⟨T, f, oT, hk _ _ dz hz, hk _ _ r4 hT, r1, r2, r3, r4⟩
section
variable {prog : Program} {w : World} {A : Around} {E : Value → Shared → Prop} {s : Shared} {z TI TO i1 i2 l1 l2 S : Addr} {xs ys : Array Value} {i : Nat}
theorem next_zip {Q : Option Value → Shared → Prop} (D : ZipApart z TI TO i1 i2 l1 l2) (st : ZS s.heap z TI TO i1 i2 l1 l2 S xs ys i) (hS : ∃ o, s.heap.get? S = some o) {x y : Value} (hx : xs[i]? = some x) (hy : ys[i]? = some y)
    (hQ : ∀ h', ZS h' z TI TO i1 i2 l1 l2 S xs ys (i + 1) → IsPair h' s.heap.objs.size x y → h'.objs.size = s.heap.objs.size + 1 → (∀ c o, c ≠ z → c ≠ TO → c ≠ i1 → c ≠ i2 → s.heap.get? c = some o → h'.get? c = some o) → Q (some (.ref s.heap.objs.size)) { s with heap := h' }) :
    wpAny (model prog w) A (pyNext (.ref z)) Q E s := by
  obtain ⟨hTI, h1, h2, hl1, hl2, hto, hz⟩ := st
  obtain ⟨oS, hS⟩ := hS
  have lt : ∀ {c o}, s.heap.get? c = some o → s.heap.objs.size ≠ c := fun e => Nat.ne_of_gt (Heap.lt_size e)
  have n1 : s.heap.objs.size ≠ i1 := let ⟨_, e, _⟩ := h1; lt e
  have n2 : s.heap.objs.size ≠ i2 := let ⟨_, e, _⟩ := h2; lt e
  rcases hz with ⟨hz, a, b, hTO⟩ | ⟨T, f, oT, hz, hT, r1, r2, r3, r4⟩
  · refine wpAny_pyNext_zip_item D hz hTI hTO h1 h2 hl1 hl2 hx hy fun h' a1 a2 a3 a4 a5 a6 hk => ?_
    exact hQ h' ⟨hk _ _ D.TIz D.TITO D.TIi1 D.TIi2 hTI, a3, a4, hl1.at fun o e => hk _ o D.l1z D.l1TO D.l1i1 D.l1i2 e, hl2.at fun o e => hk _ o D.l2z D.l2TO D.l2i1 D.l2i2 e, ⟨_, a2⟩, .inr ⟨s.heap.objs.size, false, _, a1, a5, lt hz, n1, n2, lt hS⟩⟩ a5 a6 hk
  · refine wpAny_pyNext_zip_item_held D hz hT hTI h1 h2 hl1 hl2 hx hy fun h' a1 a3 a4 a5 a6 hk => ?_
    exact hQ h' ⟨hk _ _ D.TIz D.TIi1 D.TIi2 hTI, a3, a4, hl1.at fun o e => hk _ o D.l1z D.l1i1 D.l1i2 e, hl2.at fun o e => hk _ o D.l2z D.l2i1 D.l2i2 e, (let ⟨o, e⟩ := hto; ⟨o, hk _ _ D.TOz D.TOi1 D.TOi2 e⟩), .inr ⟨T, true, oT, a1, hk _ _ r1 r2 r3 hT, r1, r2, r3, r4⟩⟩ a5 a6 fun c o c1 _ c3 c4 e => hk c o c1 c3 c4 e
theorem last_zip {Q : Option Value → Shared → Prop} (hh : A.handled = none) (D : ZipApart z TI TO i1 i2 l1 l2) (st : ZS s.heap z TI TO i1 i2 l1 l2 S xs ys i) (hend : xs[i]? = none ∨ ys[i]? = none)
    (hQ : ∀ h', (∀ c o, c ≠ z → c ≠ TO → c ≠ i1 → c ≠ i2 → s.heap.get? c = some o → h'.get? c = some o) → Q none { s with heap := h' }) :
    wpAny (model prog w) A (pyNext (.ref z)) Q E s := by
  obtain ⟨hTI, h1, h2, hl1, hl2, hto, hz⟩ := st
  rcases hz with ⟨hz, a, b, hTO⟩ | ⟨T, f, oT, hz, hT, r1, r2, r3, r4⟩
  · exact wpAny_pyNext_zip_end hh D hz hTI hTO h1 h2 hl1 hl2 hend fun h' hk => hQ h' hk
  · exact wpAny_pyNext_zip_end_held hh D hz hT hTI h1 h2 hl1 hl2 hend fun h' hk => hQ h' fun c o c1 _ c3 c4 e => hk c o c1 c3 c4 e
end
theorem zip_drain {prog : Program} {w : World} {A : Around} {R : Result → Shared → Prop} {B z TI TO i1 i2 l1 l2 S : Addr} {xs ys : Array Value} {res : Value} {n : Nat} (hh : A.handled = none) (D : ZipApart z TI TO i1 i2 l1 l2)
    (dz : z ≠ S) (dTI : TI ≠ S) (dTO : TO ≠ S) (d1 : i1 ≠ S) (d2 : i2 ≠ S) (e1 : l1 ≠ S) (e2 : l2 ≠ S) (hn : n = min xs.size ys.size) (hz : n < sizeLine) :
    ∀ (k i : Nat) (s : Shared) (ts : List Addr) (acc : Array Value) (c : Nat), n - i = k → i ≤ n → ts.length = i → B ≤ s.heap.objs.size → ZS s.heap z TI TO i1 i2 l1 l2 S xs ys i → s.heap.get? S = some (lstObj acc c) → ZI s.heap B z TI TO i1 i2 S xs ys ts acc →
      (∀ h' ts' acc' c', ts'.length = n → h'.get? S = some (lstObj acc' c') → ZI h' B z TI TO i1 i2 S xs ys ts' acc' → (∀ b o, b ≠ S → b ≠ z → b ≠ TO → b ≠ i1 → b ≠ i2 → s.heap.get? b = some o → h'.get? b = some o) → R (.ok (.ret res)) { s with heap := h' }) →
      codeAny (model prog w) A (.builtin "list.extend.loop" ⟨[.ref S, .ref z, res], []⟩) R s := by
  intro k
  induction k with
  | zero =>
    intro i s ts acc c hk hi hl hB st hS it hR
    have hin : i = n := by omega
    refine codeAny_builtin F.entry_extend_loop ?_
    rw [Around.under_plainId F.plain_extend_loop _]
    show wpAny _ A.in1 (pyNext (.ref z) >>= _) _ _ s
    have hend : xs[i]? = none ∨ ys[i]? = none := by
      rw [hin, hn]
      rcases Nat.le_total xs.size ys.size with h | h
      · exact .inl (Array.getElem?_eq_none (by rw [Nat.min_eq_left h]; exact Nat.le_refl _))
      · exact .inr (Array.getElem?_eq_none (by rw [Nat.min_eq_right h]; exact Nat.le_refl _))
    refine wpAny_bind (last_zip (A := A.in1) hh D st hend fun h' hk => ?_)
    refine wpAny_pure (hR h' ts acc c (hl.trans hin) (hk _ _ (Ne.symm dz) (Ne.symm dTO) (Ne.symm d1) (Ne.symm d2) hS) ?_ fun b o _ b1 b2 b3 b4 e => hk b o b1 b2 b3 b4 e)
    refine ⟨it.eq, it.pw, fun j T e => ?_, fun T hT => ?_⟩
    · obtain ⟨x, y, hx, hy, p⟩ := it.at_ j T e
      obtain ⟨_, _, q1, q2, q3, q4, _⟩ := it.lt T (List.mem_of_getElem? e)
      exact ⟨x, y, hx, hy, hk _ _ q1 q2 q3 q4 p⟩
    · obtain ⟨q0, q, q1, q2, q3, q4, q5⟩ := it.lt T hT
      obtain ⟨j, hj, rfl⟩ := List.getElem_of_mem hT
      obtain ⟨x, y, hx, hy, p⟩ := it.at_ j _ (List.getElem?_eq_getElem hj)
      exact ⟨q0, Heap.lt_size (hk _ _ q1 q2 q3 q4 p), q1, q2, q3, q4, q5⟩
  | succ k ih =>
    intro i s ts acc c hk hi hl hB st hS it hR
    have hlt : i < n := by omega
    have hix : i < xs.size := Nat.lt_of_lt_of_le (hn ▸ hlt) (Nat.min_le_left ..)
    have hiy : i < ys.size := Nat.lt_of_lt_of_le (hn ▸ hlt) (Nat.min_le_right ..)
    have ex := Array.getElem?_eq_getElem hix
    have ey := Array.getElem?_eq_getElem hiy
    refine codeAny_builtin F.entry_extend_loop ?_
    rw [Around.under_plainId F.plain_extend_loop _]
    show wpAny _ A.in1 (pyNext (.ref z) >>= _) _ _ s
    refine wpAny_bind (next_zip (A := A.in1) D st ⟨_, hS⟩ ex ey fun h' st' p hsz hkk => ?_)
    have hS' := hkk _ _ (Ne.symm dz) (Ne.symm dTO) (Ne.symm d1) (Ne.symm d2) hS
    have hac : acc.size = i := by
      have := congrArg List.length it.eq
      rw [List.length_map, hl] at this
      simpa using this
    show wpAny _ A.in1 (updateSeq S (·.push (.ref s.heap.objs.size)) >>= _) _ _ _
    refine wpAny_bind ?_
    have keep : ∀ b o, b ≠ S → h'.get? b = some o → (h'.update S (Obj.mapSeq (·.push (.ref s.heap.objs.size)))).get? b = some o := fun b o hb e => (Heap.get?_update_other _ _ (Ne.symm hb)).trans e
    have lt : ∀ {c o}, s.heap.get? c = some o → c ≠ s.heap.objs.size := fun e => Nat.ne_of_lt (Heap.lt_size e)
    have nS : s.heap.objs.size ≠ S := Ne.symm (lt hS)
    refine wpAny_updateSeq (s := { s with heap := h' }) hS' rfl (wpAny_pure ⟨plainId_quiet F.plain_extend_loop _, ih (i + 1) _ (ts ++ [s.heap.objs.size]) (acc.push (.ref s.heap.objs.size)) _ (by omega) hlt (by rw [List.length_append, hl]; rfl) (by show B ≤ (Heap.update _ _ _).objs.size; rw [Heap.size_after_update, hsz]; exact Nat.le_trans hB (Nat.le_succ _))
      (st'.keep dz dTI dTO d1 d2 e1 e2 keep) (Heap.get?_update_self _ hS' rfl) ?_ fun h'' ts' acc' c' l' hS'' it' hk'' => ?_⟩) (by rw [hac]; omega) (by show (acc.push _).size ≤ sizeLine + 1; rw [Array.size_push, hac]; omega)
    · have zlt : z < s.heap.objs.size := by
        rcases st.zz with ⟨hz, _⟩ | ⟨T, f, oT, hz, _⟩ <;> exact Heap.lt_size hz
      have i1lt : i1 < s.heap.objs.size := let ⟨_, e, _⟩ := st.a1; Heap.lt_size e
      have i2lt : i2 < s.heap.objs.size := let ⟨_, e, _⟩ := st.a2; Heap.lt_size e
      have TOlt : TO < s.heap.objs.size := by
        obtain ⟨o, e⟩ := st.to_
        exact Heap.lt_size e
      have up : ∀ T x y, T ≠ z → T ≠ TO → T ≠ i1 → T ≠ i2 → T ≠ S → IsPair s.heap T x y → IsPair (h'.update S (Obj.mapSeq (·.push (.ref s.heap.objs.size)))) T x y := fun T x y q1 q2 q3 q4 q5 p => keep _ _ q5 (hkk _ _ q1 q2 q3 q4 p)
      refine ⟨?_, ?_, fun j T e => ?_, fun T hT => ?_⟩
      · rw [Array.toList_push, it.eq, List.map_append]
        rfl
      · refine List.pairwise_append.mpr ⟨it.pw, List.pairwise_singleton _ _, fun a ha b hb => ?_⟩
        rw [List.mem_singleton.mp hb]
        exact (it.lt a ha).2.1
      · by_cases hj : j < ts.length
        · rw [List.getElem?_append_left hj] at e
          obtain ⟨x, y, hx, hy, p⟩ := it.at_ j T e
          obtain ⟨_, _, q1, q2, q3, q4, q5⟩ := it.lt T (List.mem_of_getElem? e)
          exact ⟨x, y, hx, hy, up T x y q1 q2 q3 q4 q5 p⟩
        · rw [List.getElem?_append_right (by omega)] at e
          obtain ⟨h0, e⟩ := List.getElem?_eq_some_iff.mp e
          have hji : j = i := by
            have : j - ts.length < 1 := h0
            omega
          have e : s.heap.objs.size = T := by
            simpa using e
          subst e
          rw [hji]
          exact ⟨_, _, ex, ey, keep _ _ nS p⟩
      · rcases List.mem_append.mp hT with hT | hT
        · obtain ⟨q0, q, q1, q2, q3, q4, q5⟩ := it.lt T hT
          refine ⟨q0, ?_, q1, q2, q3, q4, q5⟩
          rw [Heap.size_after_update, hsz]
          exact Nat.lt_succ_of_lt q
        · rw [List.mem_singleton.mp hT]
          refine ⟨hB, ?_, Nat.ne_of_gt zlt, Nat.ne_of_gt TOlt, Nat.ne_of_gt i1lt, Nat.ne_of_gt i2lt, nS⟩
          rw [Heap.size_after_update, hsz]
          exact Nat.lt_succ_self _
    · exact hR h'' ts' acc' c' l' hS'' it' fun b o b0 b1 b2 b3 b4 e => hk'' b o b0 b1 b2 b3 b4 (keep b o b0 (hkk b o b1 b2 b3 b4 e))
end PySem

-- MxZp2
/-! list(zip(xs, ys)) of two lists: the call. -/
namespace PySem
open Sem (wp)
open L2 (lstObj)
section
variable {prog : Program} {w : World} {A : Around} {E : Value → Shared → Prop} {s : Shared} {z TI TO i1 i2 l1 l2 : Addr} {xs ys : Array Value}
theorem call_list_zip {Q : Value → Shared → Prop} (hh : A.handled = none) (D : ZipApart z TI TO i1 i2 l1 l2) (hz : IsZip s.heap z TI TO .none) (hTI : IsPair s.heap TI (.ref i1) (.ref i2)) (hTO : ∃ a b, IsPair s.heap TO a b)
    (h1 : s.heap.IsListIter i1 l1 0) (h2 : s.heap.IsListIter i2 l2 0) (hl1 : s.heap.IsList l1 xs) (hl2 : s.heap.IsList l2 ys) (hn : min xs.size ys.size < sizeLine)
    (hQ : ∀ h' ts acc c, ts.length = min xs.size ys.size → h'.get? s.heap.objs.size = some (lstObj acc c) → ZI h' s.heap.objs.size z TI TO i1 i2 s.heap.objs.size xs ys ts acc →
      (∀ b o, b ≠ z → b ≠ TO → b ≠ i1 → b ≠ i2 → s.heap.get? b = some o → h'.get? b = some o) → Q (.ref s.heap.objs.size) { s with heap := h' }) :
    wpAny (model prog w) A (call (.type "list") [.ref z]) Q E s := by
  have lt : ∀ {c o}, s.heap.get? c = some o → c ≠ s.heap.objs.size := fun e => Nat.ne_of_lt (Heap.lt_size e)
  have hSz : s.heap.objs.size ≠ z := Ne.symm (lt hz)
  refine callType_codes (Q₁ := fun obj s₁ => obj = .ref s.heap.objs.size ∧ s₁ = { s with heap := s.heap.push { cls := .type "list", data := .seq #[] } }) F.called_list (F.typeCall_list_1 _) F.entry_list_init
    (code_list_new _ ⟨rfl, rfl⟩) fun obj s₁ h₁ => ?_
  obtain ⟨rfl, rfl⟩ := h₁
  have hS : (s.heap.push { cls := .type "list", data := .seq #[] }).get? s.heap.objs.size = some { cls := .type "list", data := .seq #[] } := Heap.get?_push_size _ rfl
  refine ⟨⟨_, hS, rfl⟩, F.args_list_init_2 _ _, ?_⟩
  show wpAny _ A.in1.in1 (do let old ← Builtin.List.listItems (.ref s.heap.objs.size); Builtin.List.listUpdate (.ref s.heap.objs.size) (fun _ => #[]); letGo old.toList.reverse; Builtin.List.listExtendWith (.ref s.heap.objs.size) (.ref z) .none) _ _ _
  refine wpAny_bind ?_
  unfold Builtin.List.listItems
  refine wpAny_bind (wpAny_seqItems hS rfl (wpAny_pure ?_))
  show wpAny _ A.in1.in1 (updateSeq s.heap.objs.size (fun _ => #[]) >>= fun _ => letGo (#[] : Array Value).toList.reverse >>= fun _ => Builtin.List.listExtendWith (.ref s.heap.objs.size) (.ref z) .none) _ _ _
  refine wpAny_bind (wpAny_updateSeq hS rfl ?_)
  have hS2 := Heap.get?_update_self (Obj.mapSeq (fun _ => (#[] : Array Value))) hS rfl
  refine wpAny_bind (wpAny_letGo ?_)
  unfold Builtin.List.listExtendWith
  have up : ∀ (h : Heap) (f : Obj → Obj), (∀ b o, s.heap.get? b = some o → h.get? b = some o) → ∀ b o, s.heap.get? b = some o → (h.update s.heap.objs.size f).get? b = some o := fun h f q b o e =>
    (Heap.get?_update_other _ _ (Ne.symm (lt e))).trans (q b o e)
  have k1 : ∀ b o, s.heap.get? b = some o → (s.heap.push { cls := .type "list", data := .seq #[] }).get? b = some o := fun b o e => Heap.get?_push_of_some _ e
  have k2 := up _ (Obj.mapSeq (fun _ => (#[] : Array Value))) k1
  have zty : ∀ {h : Heap}, (∀ b o, s.heap.get? b = some o → h.get? b = some o) → IsZip h z TI TO .none := fun {h} q => q _ _ hz
  have zT : ∀ {h : Heap}, (∀ b o, s.heap.get? b = some o → h.get? b = some o) → Shared.TypeIs { s with heap := h } (.ref z) "zip" := fun {h} q => ⟨_, zty q, rfl⟩
  refine wpAny_bind (wpAny_typeOf (zT k2) ?_)
  have e1 : Builtin.List.listSameRef (.ref s.heap.objs.size) (.ref z) = false := by simp [Builtin.List.listSameRef, hSz]
  have e2 : (Value.type "zip" == Value.type "list") = false := by decide
  have e3 : (Value.type "zip" == Value.type "tuple") = false := by decide
  simp only [e1, e2, e3, Bool.or_false, Bool.false_eq_true, if_false]
  refine wpAny_bind (wpAny_pyIter_zip (s := { s with heap := _ }) (zty k2) ?_)
  refine wpAny_bind (wpAny_holding ?_)
  unfold Builtin.List.listLengthHint
  refine wpAny_bind (wpAny_specialOf (zT k2) zip_no_len ?_)
  show wpAny _ A.in1.in1 (specialOf (Value.ref z) (Str.ofString "__length_hint__") >>= _) _ _ _
  refine wpAny_bind (wpAny_specialOf (zT k2) zip_no_hint ?_)
  refine wpAny_pure ?_
  show wpAny _ A.in1.in1 (rule "list.extend.makes-room" >>= fun _ => Builtin.List.listTouch (.ref s.heap.objs.size) >>= fun _ =>
    again (.builtin "list.extend.loop" ⟨[.ref s.heap.objs.size, .ref z, .none], []⟩)) _ _ _
  refine wpAny_bind (wpAny_rule ?_)
  refine wpAny_bind ?_
  show wpAny _ A.in1.in1 (updateSeq s.heap.objs.size (·.push .none) >>= fun _ => updateSeq s.heap.objs.size (·.pop)) _ _ _
  refine wpAny_bind (wpAny_updateSeq hS2 rfl ?_)
  have hS3 := Heap.get?_update_self (Obj.mapSeq (·.push Value.none)) hS2 rfl
  refine wpAny_updateSeq (hz := by seq_fits) hS3 rfl ?_
  have hS4 := Heap.get?_update_self (Obj.mapSeq (·.pop)) hS3 rfl
  have k4 := up _ (Obj.mapSeq (·.pop)) (up _ (Obj.mapSeq (·.push Value.none)) k2)
  refine wpAny_pure ⟨plainId_quiet F.plain_extend_loop _, ?_⟩
  obtain ⟨p, q, hTO⟩ := hTO
  have dz := lt hz
  have dTI := lt hTI
  have dTO := lt hTO
  have d1 : i1 ≠ s.heap.objs.size := let ⟨_, e, _⟩ := h1; lt e
  have d2 : i2 ≠ s.heap.objs.size := let ⟨_, e, _⟩ := h2; lt e
  have f1 : l1 ≠ s.heap.objs.size := let ⟨_, e, _⟩ := hl1; lt e
  have f2 : l2 ≠ s.heap.objs.size := let ⟨_, e, _⟩ := hl2; lt e
  refine zip_drain (A := A.in1) (B := s.heap.objs.size) (n := min xs.size ys.size) hh D dz dTI dTO d1 d2 f1 f2 rfl hn (min xs.size ys.size) 0 _ [] _ _ (Nat.sub_zero _) (Nat.zero_le _) rfl ?_
    ⟨k4 _ _ hTI, h1.at fun o e => k4 _ o e, h2.at fun o e => k4 _ o e, hl1.at fun o e => k4 _ o e, hl2.at fun o e => k4 _ o e, ⟨_, k4 _ _ hTO⟩, .inl ⟨k4 _ _ hz, _, _, k4 _ _ hTO⟩⟩ hS4
    ⟨rfl, List.Pairwise.nil, fun j T e => by simp at e, fun T e => by cases e⟩ fun h' ts acc c hl hSS it hk => ?_
  · show s.heap.objs.size ≤ (Heap.update _ _ _).objs.size
    rw [Heap.size_after_update, Heap.size_after_update, Heap.size_after_update, Heap.size_push]
    exact Nat.le_succ _
  · exact ⟨rfl, hQ h' ts acc c hl hSS it fun b o b1 b2 b3 b4 e => hk b o (lt e) b1 b2 b3 b4 (k4 b o e)⟩
end
end PySem

-- MxZp3
/-! list(zip(xs, ys)): the expression. -/
namespace L2
open PySem PySem.Spec PyProof.Rows
section
variable {X : Cx} {pins : List (Addr × Obj)} {σ : St} {H H' : Hp} {s : Shared} {h' : Heap} {t' : Nat}
/-- many new objects at once -/
theorem Inv.newAll (I : Inv X pins σ H s) (k : ∀ b u, s.heap.get? b = some u → h'.get? b = some u) (low : ∀ b, b < s.heap.objs.size → H' b = H b) (new : ∀ b u, s.heap.objs.size ≤ b → H' b = some u → ObjOk X.prog X.w H' h' b u) :
    Inv X pins σ H' { s with heap := h', toks := t' } := by
  have lt : ∀ b u, H b = some u → b < s.heap.objs.size := fun b u e => by
    refine Nat.lt_of_not_le fun z => ?_
    rw [I.hok.fresh z] at e
    cases e
  have st : ∀ b u, H b = some u → H' b = some u := fun b u e => by rw [low b (lt b u e)]; exact e
  refine I.un ⟨fun b u q _ _ _ => k b u q, fun b u q _ _ _ => ⟨u.slots, k b u q⟩, fun b u q n _ => by rw [low b (Heap.lt_size q)]; exact n, fun b u q _ => ⟨u, k b u q⟩, fun b xs q => st b _ q, fun b o u q => st b _ q, fun b ps q => ⟨#[], by rw [st b _ q]; simp⟩⟩ fun b u e => ?_
  by_cases z : b < s.heap.objs.size
  · rw [low b z] at e
    exact (I.hok b u e).stay (fun c v _ q => k c v q) (fun c q => st c _ q) fun c xs q => st c _ q
  · exact new b u (Nat.le_of_not_lt z) e
end
/-- pairs laid at these places, frozen -/
abbrev PR := Addr × Obj × V × V
def pairsH (H : Hp) : List PR → Hp
  | [] => H
  | t :: r => upd (pairsH H r) t.1 (.frz t.2.1 (.tup [t.2.2.1, t.2.2.2]))
theorem pairsH_ne {H : Hp} {b : Addr} : ∀ {ts : List PR}, (∀ t ∈ ts, b ≠ t.1) → pairsH H ts b = H b
  | [], _ => rfl
  | t :: r, h => by
    show upd (pairsH H r) t.1 _ b = _
    rw [upd_ne (h t (List.mem_cons_self ..))]
    exact pairsH_ne fun x hx => h x (List.mem_cons_of_mem _ hx)
theorem pairsH_some {H : Hp} {b : Addr} {u : HO} : ∀ {ts : List PR}, pairsH H ts b = some u → H b = none → ∃ t ∈ ts, t.1 = b ∧ u = .frz t.2.1 (.tup [t.2.2.1, t.2.2.2])
  | [], h, n => by
    have h : H b = some u := h
    rw [n] at h
    cases h
  | t :: r, h, n => by
    have h : upd (pairsH H r) t.1 (.frz t.2.1 (.tup [t.2.2.1, t.2.2.2])) b = some u := h
    by_cases e : b = t.1
    · subst e
      rw [upd_same] at h
      cases h
      exact ⟨t, List.mem_cons_self .., rfl, rfl⟩
    · rw [upd_ne e] at h
      obtain ⟨x, hx, e1, e2⟩ := pairsH_some h n
      exact ⟨x, List.mem_cons_of_mem _ hx, e1, e2⟩
theorem vals_refs2 : ∀ ts : List Addr, Vals (ts.map V.ref) (ts.map Value.ref)
  | [] => .nil
  | _ :: r => .cons rfl (vals_refs2 r)
def pairObj (p : Value × Value) : Obj := { cls := .type "tuple", data := .seq #[p.1, p.2] }
def tListZip (K : PySem.W.Frag) (ta : TA) : TE := fun σ H Q => ta σ H fun vs H1 => ∃ a b xs ys, vs = [.ref a, .ref b] ∧ SqL K H1 a xs ∧ SqL K H1 b ys ∧ min xs.length ys.length < sizeLine ∧
  ∀ (ps : List PR) (p : Addr), ps.map (·.2.2) = xs.zip ys → (ps.map (·.1)).Nodup → (∀ t ∈ ps, H1 t.1 = none ∧ t.2.1.dict = none) → H1 p = none → p ∉ ps.map (·.1) → Q (.ref p) (upd (pairsH H1 ps) p (.lst (ps.map fun t => V.ref t.1)))
section
variable {X : Cx}
theorem pe_listZip {e e2 : Expr} {ta : TA} {p p2 pos pos2 : Pos} (hc : X.calm = true) (hg : Gl X "list") (hm : X.mg "list" = none) (hg2 : Gl X "zip") (hm2 : X.mg "zip" = none) (ha : PA X [e, e2] ta)
    (na : starEach [e, e2] X.env = (false, eval e X.env) :: starEach [e2] X.env := by rfl) (hpl : (backTo pos2 (starEach [e2] X.env)).any (·.1) = false := by rfl)
    (na2 : starEach [Expr.Call (.Name "zip" p2) [e, e2] [] pos2] X.env = (false, eval (.Call (.Name "zip" p2) [e, e2] [] pos2) X.env) :: starEach [] X.env := by rfl) :
    PE X (.Call (.Name "list" p) [.Call (.Name "zip" p2) [e, e2] [] pos2] [] pos) (tListZip X.K ta) := by
  refine ⟨fun pins s σ H Q I h => ?_⟩
  have inner : wpAny (model X.prog X.w) X.A (eval (.Call (.Name "zip" p2) [e, e2] [] pos2) X.env) (fun x s' => ∃ (s1 : Shared) (h' : Heap) (H1 : Hp) (a b : Addr) (xs ys : List V) (its its2 : List Value), s' = { s1 with heap := h' } ∧ x = .ref (s1.heap.objs.size + 4) ∧ Inv X pins σ H1 s1 ∧
      Vals xs its ∧ Vals ys its2 ∧ a < s1.heap.objs.size ∧ b < s1.heap.objs.size ∧ s1.heap.IsList a its.toArray ∧ s1.heap.IsList b its2.toArray ∧ min xs.length ys.length < sizeLine ∧
      IsZip h' (s1.heap.objs.size + 4) (s1.heap.objs.size + 2) (s1.heap.objs.size + 3) .none ∧ PySem.IsPair h' (s1.heap.objs.size + 2) (.ref s1.heap.objs.size) (.ref (s1.heap.objs.size + 1)) ∧ (∃ u v, PySem.IsPair h' (s1.heap.objs.size + 3) u v) ∧
      h'.IsListIter s1.heap.objs.size a 0 ∧ h'.IsListIter (s1.heap.objs.size + 1) b 0 ∧ h'.objs.size = s1.heap.objs.size + 5 ∧ (∀ c o, s1.heap.get? c = some o → h'.get? c = some o) ∧
      ∀ (ps : List PR) (p : Addr), ps.map (·.2.2) = xs.zip ys → (ps.map (·.1)).Nodup → (∀ t ∈ ps, H1 t.1 = none ∧ t.2.1.dict = none) → H1 p = none → p ∉ ps.map (·.1) → Q (.ref p) (upd (pairsH H1 ps) p (.lst (ps.map fun t => V.ref t.1)))) X.xe s := by
    refine Call_ (ld_blt I hg2 hm2 PyProof.Rows.boot_zip (PyProof.Rows.callWith_type1 (thn (ha.run pos2 pins s σ H _ I h) fun us s1 ⟨vs, H1, I1, r1, q1⟩ => ?_) na hpl))
    obtain ⟨a, b, xs, ys, ex, hqx, hqy, hz, q⟩ := q1
    subst ex
    cases r1 with
    | cons r rr =>
      cases rr with
      | cons r' rr =>
        cases rr
        cases r
        cases r'
        obtain ⟨its, rv, p1, _⟩ := I1.list hqx
        obtain ⟨its2, rv2, p3, _⟩ := I1.list hqy
        refine call_zip_2 p1.isList p3.isList fun h' hz' hTI hTO h1 h2 hsz hk => ?_
        exact ⟨s1, h', H1, a, b, xs, ys, its, its2, rfl, rfl, I1, rv, rv2, p1.lt, p3.lt, p1.isList, p3.isList, hz, hz', hTI, ⟨_, _, hTO⟩, h1, h2, hsz, hk, q⟩
  refine Call_ (ld_blt I hg hm boot_list (PyProof.Rows.callWith_type1 (args_cons (thn inner fun x s2 hx => args_nil ?_) na2) na2))
  obtain ⟨s1, h', H1, a, b, xs, ys, its, its2, rfl, rfl, I1, rv, rv2, la, lb, p1, p3, hz, z1, z2, z3, z4, z5, hsz, hk, q⟩ := hx
  have l1 := rv.length
  have l2 := rv2.length
  have em : min its.toArray.size its2.toArray.size = min xs.length ys.length := by
    rw [l1, l2]
    simp
  refine call_list_zip (s := { s1 with heap := h' }) (I1.ok.hd hc) (PySem.W.ktu_apart s1.heap.objs.size a b la lb) z1 z2 z3 z4 z5 (p1.at fun o e => hk _ o e) (p3.at fun o e => hk _ o e) (by rw [em]; exact hz) fun h'' ts acc c hl hS it hk2 => ?_
  rw [em] at hl
  have old : ∀ b u, s1.heap.get? b = some u → h''.get? b = some u := fun b u e => by
    have hb := Heap.lt_size e
    refine hk2 b u ?_ ?_ ?_ ?_ (hk b u e)
    · exact Nat.ne_of_lt (Nat.lt_of_lt_of_le hb (Nat.le_add_right _ _))
    · exact Nat.ne_of_lt (Nat.lt_of_lt_of_le hb (Nat.le_add_right _ _))
    · exact Nat.ne_of_lt hb
    · exact Nat.ne_of_lt (Nat.lt_of_lt_of_le hb (Nat.le_add_right _ _))
  have big : ∀ T ∈ ts, s1.heap.objs.size ≤ T := fun T hT => by
    have := (it.lt T hT).1
    have hsz : h'.objs.size = s1.heap.objs.size + 5 := hsz
    have this : h'.objs.size ≤ T := this
    rw [hsz] at this
    exact Nat.le_trans (Nat.le_add_right _ _) this
  have bigS : s1.heap.objs.size ≤ h'.objs.size := by rw [hsz]; exact Nat.le_add_right _ _
  have nS : h'.objs.size ∉ ts := fun hT => (it.lt _ hT).2.2.2.2.2.2 rfl
  have nd : ts.Nodup := it.pw.imp fun {a b} h => Nat.ne_of_lt h
  generalize hps : ts.zip (((its.zip its2).map pairObj).zip (xs.zip ys)) = ps
  have lz : (((its.zip its2).map pairObj).zip (xs.zip ys)).length = ts.length := by
    rw [List.length_zip, List.length_map, List.length_zip, List.length_zip, hl, ← l1, ← l2]
    exact Nat.min_self _
  have p1' : ps.map (·.1) = ts := by
    rw [← hps]
    exact List.map_fst_zip (Nat.le_of_eq lz.symm)
  have p2' : ps.map (·.2.2) = xs.zip ys := by
    have a : ps.map (·.2) = ((its.zip its2).map pairObj).zip (xs.zip ys) := by
      rw [← hps]
      exact List.map_snd_zip (Nat.le_of_eq lz)
    have b : (ps.map (·.2)).map (·.2) = xs.zip ys := by
      rw [a]
      refine List.map_snd_zip ?_
      rw [List.length_map, List.length_zip, List.length_zip, ← l1, ← l2]
      exact Nat.le_refl _
    rw [List.map_map] at b
    exact b
  have el : (ps.map fun t => V.ref t.1) = ts.map V.ref := by
    rw [← p1', List.map_map]
    rfl
  have at_ : ∀ t ∈ ps, ∃ u v, t.2.1 = pairObj (u, v) ∧ RelV t.2.2.1 u ∧ RelV t.2.2.2 v ∧ h''.get? t.1 = some (pairObj (u, v)) := fun t ht => by
    rw [← hps] at ht
    obtain ⟨j, ej⟩ := List.getElem?_of_mem ht
    obtain ⟨j1, j2⟩ := List.getElem?_zip_eq_some.mp ej
    obtain ⟨jo, j2⟩ := List.getElem?_zip_eq_some.mp j2
    obtain ⟨j2, j3⟩ := List.getElem?_zip_eq_some.mp j2
    obtain ⟨u, v, hu, hv, hp⟩ := it.at_ j _ j1
    obtain ⟨u', hu', ru⟩ := rv.get j2
    obtain ⟨v', hv', rv'⟩ := rv2.get j3
    have eu : u' = u := by
      have hu : its[j]? = some u := by simpa using hu
      rw [hu'] at hu
      exact Option.some.inj hu
    have ev : v' = v := by
      have hv : its2[j]? = some v := by simpa using hv
      rw [hv'] at hv
      exact Option.some.inj hv
    subst eu ev
    rw [List.getElem?_map, show (its.zip its2)[j]? = some (u', v') from List.getElem?_zip_eq_some.mpr ⟨hu', hv'⟩] at jo
    exact ⟨u', v', (Option.some.inj jo).symm, ru, rv', hp⟩
  have fst : ∀ t ∈ ps, t.1 ∈ ts := fun t ht => by rw [← p1']; exact List.mem_map.mpr ⟨t, ht, rfl⟩
  refine ⟨.ref h'.objs.size, upd (pairsH H1 ps) h'.objs.size (.lst (ps.map fun t => V.ref t.1)), ?_, rfl, q ps h'.objs.size p2' (by rw [p1']; exact nd) (fun t ht => ⟨I1.hok.fresh (big _ (fst t ht)), ?_⟩) (I1.hok.fresh bigS) (by rw [p1']; exact nS)⟩
  · refine I1.newAll (h' := h'') (t' := s1.toks) old (fun b hb => ?_) fun b u hb e => ?_
    · rw [upd_ne (Nat.ne_of_lt (Nat.lt_of_lt_of_le hb bigS))]
      exact pairsH_ne fun t ht => Nat.ne_of_lt (Nat.lt_of_lt_of_le hb (big _ (fst t ht)))
    · by_cases eS : b = h'.objs.size
      · subst eS
        rw [upd_same] at e
        cases e
        rw [el]
        refine ⟨by rw [List.length_map, hl]; exact Nat.le_of_lt hz, acc.toList, c, ?_, by rw [Array.toArray_toList]; exact hS⟩
        rw [it.eq]
        exact vals_refs2 ts
      · rw [upd_ne eS] at e
        obtain ⟨t, ht, rfl, rfl⟩ := pairsH_some e (I1.hok.fresh hb)
        obtain ⟨u, v, eo, ru, rv', hp⟩ := at_ t ht
        exact ⟨by rw [eo]; exact hp, by show 2 ≤ sizeLine; decide, [u, v], .cons ru (.cons rv' .nil), ⟨_, hp, rfl, _, rfl⟩⟩
  · obtain ⟨u, v', eo, _⟩ := at_ t ht
    rw [eo]
    rfl
end
end L2

-- MxZp4
/-! Mx: list(zip(xs, ys)) of two lists. -/
namespace Mx
open PySem PySem.Spec PyProof.Rows L2
def pairT (p : D × D) : D := .tuple [p.1, p.2]
def xListZip (t : Args) : Ex where
  rr Z e Q := t.run Z e fun ms e1 => ∃ xs ys, ms = [.d (.list xs), .d (.list ys)] ∧ min xs.length ys.length < 16777216 ∧ Q (.o (.lst ((xs.zip ys).map pairT))) e1
  mn hZ hQ h := t.mono hZ (fun ms e1 ⟨xs, ys, h1, h2, h3⟩ => ⟨xs, ys, h1, h2, hQ _ _ h3⟩) h
def PD (K : PySem.W.Frag) (Hd : Hp) : List (V × V) → List (D × D) → Prop
  | [], [] => True
  | p :: r, q :: s => Dq K Hd p.1 q.1 ∧ Dq K Hd p.2 q.2 ∧ PD K Hd r s
  | _, _ => False
theorem PD.zip {K : PySem.W.Frag} {Hd : Hp} : ∀ {vs us : List V} {xs ys : List D}, DqAll K Hd vs xs → DqAll K Hd us ys → PD K Hd (vs.zip us) (xs.zip ys)
  | _, _, _, _, .nil, _ => by simp [PD]
  | _, _, _, _, .cons a r, .nil => by simp [PD]
  | _, _, _, _, .cons a r, .cons b s => ⟨a, b, PD.zip r s⟩
section
variable [TheDeck] {X : Cx} {E : XK} {pos pos2 p p2 : Pos}
theorem pairs_in {K : PySem.W.Frag} {C : Mx.Ctx} {env : Mx.Env} {σ : L2.St} {Hd H : Hp} (R : Rep K C env Hd σ H) : ∀ {ps : List PR} {ds : List (D × D)}, PD K Hd (ps.map (·.2.2)) ds → (ps.map (·.1)).Nodup → (∀ t ∈ ps, H t.1 = none ∧ t.2.1.dict = none) →
    Rep K C env (pairsH Hd ps) σ (pairsH H ps) ∧ Same Hd (pairsH Hd ps) ∧ DqAll K (pairsH Hd ps) (ps.map fun t => V.ref t.1) (ds.map pairT)
  | [], [], _, _, _ => ⟨R, Same.refl _, .nil⟩
  | [], _ :: _, h, _, _ => h.elim
  | _ :: _, [], h, _, _ => h.elim
  | t :: r, d :: s, h, nd, hf => by
    obtain ⟨h1, h2, h3⟩ := h
    rw [List.map_cons, List.nodup_cons] at nd
    obtain ⟨Rr, sm, da⟩ := pairs_in R (ps := r) (ds := s) h3 nd.2 fun x hx => hf x (List.mem_cons_of_mem _ hx)
    obtain ⟨n, hd⟩ := hf t (List.mem_cons_self ..)
    have nt : pairsH H r t.1 = none := by
      rw [pairsH_ne fun x hx e => nd.1 (List.mem_map.mpr ⟨x, hx, e.symm⟩)]
      exact n
    have sn := same_new (o := .frz t.2.1 (.tup [t.2.2.1, t.2.2.2])) (Rr.dh.free nt)
    exact ⟨Rr.newD nt, sm.trans sn, .cons (.tup (.inl ⟨t.2.1, upd_same, hd⟩) (.cons (h1.mono (sm.trans sn)) (.cons (h2.mono (sm.trans sn)) .nil))) (da.mono sn)⟩
theorem m_listZip {a b : Expr} {t : Args} (hc : X.calm = true) (hg : Gl X "list") (hm : X.mg "list" = none) (hg2 : Gl X "zip") (hm2 : X.mg "zip" = none) (ha : AV X E [a, b] t)
    (na : starEach [a, b] X.env = (false, eval a X.env) :: starEach [b] X.env := by rfl) (hpl : (backTo pos2 (starEach [b] X.env)).any (·.1) = false := by rfl)
    (na2 : starEach [Expr.Call (.Name "zip" p2) [a, b] [] pos2] X.env = (false, eval (.Call (.Name "zip" p2) [a, b] [] pos2) X.env) :: starEach [] X.env := by rfl) :
    EV X E (.Call (.Name "list" p) [.Call (.Name "zip" p2) [a, b] [] pos2] [] pos) (xListZip t) :=
  PE_imp (pe_listZip hc hg hm hg2 hm2 ha na hpl na2) fun σ H Q ⟨C, env, Hd, ok, R, h⟩ => ⟨C, env, Hd, ok, R, t.mono (fun _ z => z) (fun ms e1 ⟨xs, ys, hms, hl, q⟩ vs Hd1 H1 sm1 R1 as => by
    subst hms
    cases as with
    | d dq r =>
      cases r with
      | d dq2 r =>
        cases r
        obtain ⟨a, vs, rfl, h1, d1⟩ := dq.lst_inv
        obtain ⟨b, us, rfl, h2, d2⟩ := dq2.lst_inv
        refine ⟨a, b, vs, us, rfl, SqL.of (R1.dh _ _ h1), SqL.of (R1.dh _ _ h2), by rw [d1.len, d2.len, sizeLine_eq]; exact hl, fun ps p hps nd hf np npp => ?_⟩
        have pd := PD.zip d1 d2
        rw [← hps] at pd
        obtain ⟨R2, sm2, da⟩ := pairs_in R1 pd nd hf
        have np2 : pairsH H1 ps p = none := by
          rw [pairsH_ne fun x hx e => npp (List.mem_map.mpr ⟨x, hx, e.symm⟩)]
          exact np
        exact q _ _ _ (sm1.trans sm2) (R2.newO np2) ⟨p, rfl, R2.dh.free np2, R2.toBase.h0none np2, ⟨_, upd_same, da⟩, not_owns_new R2 np2⟩) h⟩
end
end Mx

-- MxZt1
/-! tuple(zip(xs, ys)) of two tuples: `next` while the tuple that came before is still there. -/
namespace PySem
open Sem (wp)
open RZ (nextOf_tuple_item nextOf_tuple_end)
section
variable {prog : Program} {w : World} {A : Around} {E : Value → Shared → Prop} {s : Shared} {z TI TO T i1 i2 l1 l2 : Addr} {f : Bool} {oT : Obj} {k1 k2 : Nat} {xs ys : Array Value}
theorem zipT_item_held {x y : Value} {Q : Value → Shared → Prop} (D : ZipApart z TI TO i1 i2 l1 l2) (hz : IsZipHeld s.heap z TI TO T f) (hT : s.heap.get? T = some oT) (hTI : IsPair s.heap TI (.ref i1) (.ref i2))
    (h1 : s.heap.IsTupleIter i1 l1 k1) (h2 : s.heap.IsTupleIter i2 l2 k2) (hl1 : s.heap.IsTuple l1 xs) (hl2 : s.heap.IsTuple l2 ys) (hx : xs[k1]? = some x) (hy : ys[k2]? = some y)
    (hQ : ∀ h', IsZipHeld h' z TI TO T true → h'.IsTupleIter i1 l1 (k1 + 1) → h'.IsTupleIter i2 l2 (k2 + 1) → IsPair h' s.heap.objs.size x y → h'.objs.size = s.heap.objs.size + 1 → (∀ c o, c ≠ z → c ≠ i1 → c ≠ i2 → s.heap.get? c = some o → h'.get? c = some o) → Q (.ref s.heap.objs.size) { s with heap := h' }) :
    wpAny (model prog w) A (Builtin.«zip.__next__» ⟨[.ref z], []⟩) (fun fin s' => ∃ v, fin = .done (.ret v) ∧ Q v s') E s := by
  have one : ∀ (R : Value → Shared → Prop), R (.bool false) s → wpAny (model prog w) A (field (.ref z) 2) R E s := fun R r => wpAny_field hz rfl (x := .bool false) rfl r
  have two : ∀ (R : Value → Shared → Prop), R (.ref TI) s → wpAny (model prog w) A (field (.ref z) 3) R E s := fun R r => wpAny_field hz rfl (x := .ref TI) rfl r
  show wpAny _ _ (field (.ref z) 2 >>= _) _ _ _
  refine wpAny_bind (one _ ?_)
  show wpAny _ _ (field (.ref z) 3 >>= _) _ _ _
  refine wpAny_bind (two _ ?_)
  refine wpAny_bind (wpAny_seqItems hTI rfl ?_)
  show wpAny _ _ (Builtin.SmallTypes.ownedTupleIsFree (.ref z) >>= _) _ _ _
  refine wpAny_bind (wpAny_tupleHeld_zip hz hT fun g1 z1 b1 => ?_)
  rw [if_neg Bool.false_ne_true]
  have a1 : g1.IsTupleIter i1 l1 k1 := h1.extBut b1.extBut D.i1z
  have a2 : g1.IsTupleIter i2 l2 k2 := h2.extBut b1.extBut D.i2z
  have t1 : g1.IsTuple l1 xs := hl1.extBut b1.extBut D.l1z
  have t2 : g1.IsTuple l2 ys := hl2.extBut b1.extBut D.l2z
  refine wpAny_bind ?_
  rw [← Array.forIn_toList]
  simp only [List.forIn_cons, List.forIn_nil]
  refine wpAny_bind (wpAny_bind (wpAny_holding ?_))
  show wpAny _ _ (Builtin.SmallTypes.nextOf (.ref i1) >>= _) _ _ _
  refine wpAny_bind (nextOf_tuple_item (s := { s with heap := g1 }) a1 t1 hx fun g2 c1 b2 => wpAny_pure (wpAny_pure ?_))
  refine wpAny_bind (wpAny_bind (wpAny_holding ?_))
  show wpAny _ _ (Builtin.SmallTypes.nextOf (.ref i2) >>= _) _ _ _
  refine wpAny_bind (nextOf_tuple_item (s := { s with heap := g2 }) (a2.extBut b2.extBut D.i12.symm) (t2.extBut b2.extBut D.l2i1) hy fun g3 c2 b3 => wpAny_pure (wpAny_pure (wpAny_pure ?_)))
  show wpAny _ _ (newTuple [x, y] >>= _) _ _ _
  refine wpAny_bind (wpAny_newTuple ?_)
  have hs : g3.objs.size = s.heap.objs.size := by rw [b3.1, b2.1, b1.1]
  have kk : ∀ c o, c ≠ z → c ≠ i1 → c ≠ i2 → s.heap.get? c = some o → g3.get? c = some o := fun c o q1 q2 q3 e => b3.extBut _ _ q3 (b2.extBut _ _ q2 (b1.extBut _ _ q1 e))
  have c1' : g3.IsTupleIter i1 l1 (k1 + 1) := c1.extBut b3.extBut D.i12
  have z3 : IsZipHeld g3 z TI TO T true := b3.extBut _ _ D.i2z.symm (b2.extBut _ _ D.i1z.symm z1)
  have new : IsPair (g3.push { cls := .type "tuple", data := .seq #[x, y] }) g3.objs.size x y := Heap.get?_push_size _ rfl
  have sz : (g3.push { cls := .type "tuple", data := .seq #[x, y] }).objs.size = g3.objs.size + 1 := Heap.size_push ..
  refine wpAny_pure ⟨_, rfl, ?_⟩
  show Q (.ref g3.objs.size) _
  rw [hs] at new sz ⊢
  exact hQ _ (Heap.get?_push_of_some _ z3) (c1'.at fun o e => Heap.get?_push_of_some _ e) (c2.at fun o e => Heap.get?_push_of_some _ e) new sz fun c o q1 q2 q3 e => Heap.get?_push_of_some _ (kk c o q1 q2 q3 e)
theorem zipT_end_held {Q : Fin → Shared → Prop} (hh : A.handled = none) (D : ZipApart z TI TO i1 i2 l1 l2) (hz : IsZipHeld s.heap z TI TO T f) (hT : s.heap.get? T = some oT) (hTI : IsPair s.heap TI (.ref i1) (.ref i2))
    (h1 : s.heap.IsTupleIter i1 l1 k1) (h2 : s.heap.IsTupleIter i2 l2 k2) (hl1 : s.heap.IsTuple l1 xs) (hl2 : s.heap.IsTuple l2 ys) (hend : xs[k1]? = none ∨ ys[k2]? = none)
    (hE : ∀ h' e, (∀ c o, c ≠ z → c ≠ i1 → c ≠ i2 → s.heap.get? c = some o → h'.get? c = some o) → (∃ o, h'.get? e = some o ∧ o.cls = .type "StopIteration") → E (.ref e) { s with heap := h' }) :
    wpAny (model prog w) A (Builtin.«zip.__next__» ⟨[.ref z], []⟩) Q E s := by
  have one : ∀ (R : Value → Shared → Prop), R (.bool false) s → wpAny (model prog w) A (field (.ref z) 2) R E s := fun R r => wpAny_field hz rfl (x := .bool false) rfl r
  have two : ∀ (R : Value → Shared → Prop), R (.ref TI) s → wpAny (model prog w) A (field (.ref z) 3) R E s := fun R r => wpAny_field hz rfl (x := .ref TI) rfl r
  show wpAny _ _ (field (.ref z) 2 >>= _) _ _ _
  refine wpAny_bind (one _ ?_)
  show wpAny _ _ (field (.ref z) 3 >>= _) _ _ _
  refine wpAny_bind (two _ ?_)
  refine wpAny_bind (wpAny_seqItems hTI rfl ?_)
  show wpAny _ _ (Builtin.SmallTypes.ownedTupleIsFree (.ref z) >>= _) _ _ _
  refine wpAny_bind (wpAny_tupleHeld_zip hz hT fun g1 z1 b1 => ?_)
  rw [if_neg Bool.false_ne_true]
  have a1 : g1.IsTupleIter i1 l1 k1 := h1.extBut b1.extBut D.i1z
  have a2 : g1.IsTupleIter i2 l2 k2 := h2.extBut b1.extBut D.i2z
  have t1 : g1.IsTuple l1 xs := hl1.extBut b1.extBut D.l1z
  have t2 : g1.IsTuple l2 ys := hl2.extBut b1.extBut D.l2z
  refine wpAny_bind ?_
  rw [← Array.forIn_toList]
  simp only [List.forIn_cons, List.forIn_nil]
  refine wpAny_bind (wpAny_bind (wpAny_holding ?_))
  show wpAny _ _ (Builtin.SmallTypes.nextOf (.ref i1) >>= _) _ _ _
  rcases hx : xs[k1]? with _ | x
  · refine wpAny_bind (nextOf_tuple_end (s := { s with heap := g1 }) hh a1 t1 hx fun g2 e b2 he => ?_)
    exact hE g2 e (fun c o q1 q2 _ x => b2 _ _ q2 (b1.extBut _ _ q1 x)) he
  · have hy : ys[k2]? = none := hend.elim (fun h => by rw [hx] at h; cases h) id
    refine wpAny_bind (nextOf_tuple_item (s := { s with heap := g1 }) a1 t1 hx fun g2 c1 b2 => wpAny_pure (wpAny_pure ?_))
    refine wpAny_bind (wpAny_bind (wpAny_holding ?_))
    show wpAny _ _ (Builtin.SmallTypes.nextOf (.ref i2) >>= _) _ _ _
    refine wpAny_bind (nextOf_tuple_end (s := { s with heap := g2 }) hh (a2.extBut b2.extBut D.i12.symm) (t2.extBut b2.extBut D.l2i1) hy fun g3 e b3 he => ?_)
    exact hE g3 e (fun c o q1 q2 q3 x => b3 _ _ q3 (b2.extBut _ _ q2 (b1.extBut _ _ q1 x))) he
end
end PySem

-- MxZt2
/-! tuple(zip(xs, ys)) of two tuples: the loop. -/
namespace PySem
open Sem (wp)
open L2 (lstObj)
open RZ (pyNext_zipT_item pyNext_zipT_end)
section
variable {prog : Program} {w : World} {A : Around} {E : Value → Shared → Prop} {s : Shared} {z TI TO T i1 i2 l1 l2 : Addr} {f : Bool} {oT : Obj} {k1 k2 : Nat} {xs ys : Array Value}
theorem pyNext_zipT_item_held {x y : Value} {Q : Option Value → Shared → Prop} (D : ZipApart z TI TO i1 i2 l1 l2) (hz : IsZipHeld s.heap z TI TO T f) (hT : s.heap.get? T = some oT) (hTI : IsPair s.heap TI (.ref i1) (.ref i2))
    (h1 : s.heap.IsTupleIter i1 l1 k1) (h2 : s.heap.IsTupleIter i2 l2 k2) (hl1 : s.heap.IsTuple l1 xs) (hl2 : s.heap.IsTuple l2 ys) (hx : xs[k1]? = some x) (hy : ys[k2]? = some y)
    (hQ : ∀ h', IsZipHeld h' z TI TO T true → h'.IsTupleIter i1 l1 (k1 + 1) → h'.IsTupleIter i2 l2 (k2 + 1) → IsPair h' s.heap.objs.size x y → h'.objs.size = s.heap.objs.size + 1 → (∀ c o, c ≠ z → c ≠ i1 → c ≠ i2 → s.heap.get? c = some o → h'.get? c = some o) → Q (some (.ref s.heap.objs.size)) { s with heap := h' }) :
    wpAny (model prog w) A (pyNext (.ref z)) Q E s := by
  have ty : s.TypeIs (.ref z) "zip" := ⟨_, hz, rfl⟩
  unfold pyNext
  refine wpAny_bind (wpAny_attempt (wpAny_callSpecial?_slot (name := Str.ofString "__next__") ty F.slot_zip_next (wpAny_call_entry F.slot_zip_next ty F.entry_zip_next ?_ (F.args_zip_next_1 _))))
  exact zipT_item_held D hz hT hTI h1 h2 hl1 hl2 hx hy fun h' q1 q2 q3 q4 q5 q6 => wpAny_pure (hQ h' q1 q2 q3 q4 q5 q6)
theorem pyNext_zipT_end_held {Q : Option Value → Shared → Prop} (hh : A.handled = none) (D : ZipApart z TI TO i1 i2 l1 l2) (hz : IsZipHeld s.heap z TI TO T f) (hT : s.heap.get? T = some oT) (hTI : IsPair s.heap TI (.ref i1) (.ref i2))
    (h1 : s.heap.IsTupleIter i1 l1 k1) (h2 : s.heap.IsTupleIter i2 l2 k2) (hl1 : s.heap.IsTuple l1 xs) (hl2 : s.heap.IsTuple l2 ys) (hend : xs[k1]? = none ∨ ys[k2]? = none)
    (hQ : ∀ h', (∀ c o, c ≠ z → c ≠ i1 → c ≠ i2 → s.heap.get? c = some o → h'.get? c = some o) → Q none { s with heap := h' }) :
    wpAny (model prog w) A (pyNext (.ref z)) Q E s := by
  have ty : s.TypeIs (.ref z) "zip" := ⟨_, hz, rfl⟩
  unfold pyNext
  refine wpAny_bind (wpAny_attempt (wpAny_callSpecial?_slot (name := Str.ofString "__next__") ty F.slot_zip_next (wpAny_call_entry F.slot_zip_next ty F.entry_zip_next ?_ (F.args_zip_next_1 _))))
  refine zipT_end_held hh D hz hT hTI h1 h2 hl1 hl2 hend fun h' e hk ⟨o, ho, hc⟩ => ?_
  exact wpAny_bind (wpAny_isInstance (T := "StopIteration") (b := true) ⟨o, ho, hc⟩ isSubtype_stop (wpAny_pure (hQ _ hk)))
end
/-- the zip and what it draws from, i pairs drawn -/
structure ZST (h : Heap) (z TI TO i1 i2 l1 l2 S : Addr) (xs ys : Array Value) (i : Nat) : Prop where
  ti : IsPair h TI (.ref i1) (.ref i2)
  a1 : h.IsTupleIter i1 l1 i
  a2 : h.IsTupleIter i2 l2 i
  b1 : h.IsTuple l1 xs
  b2 : h.IsTuple l2 ys
  to_ : ∃ o, h.get? TO = some o
  zz : (IsZip h z TI TO .none ∧ ∃ a b, IsPair h TO a b) ∨ ∃ T f oT, IsZipHeld h z TI TO T f ∧ h.get? T = some oT ∧ T ≠ z ∧ T ≠ i1 ∧ T ≠ i2 ∧ T ≠ S
theorem ZST.keep {h h' : Heap} {z TI TO i1 i2 l1 l2 S : Addr} {xs ys : Array Value} {i : Nat} (st : ZST h z TI TO i1 i2 l1 l2 S xs ys i) (dz : z ≠ S) (dTI : TI ≠ S) (dTO : TO ≠ S) (d1 : i1 ≠ S) (d2 : i2 ≠ S) (e1 : l1 ≠ S) (e2 : l2 ≠ S) (hk : ∀ b o, b ≠ S → h.get? b = some o → h'.get? b = some o) : ZST h' z TI TO i1 i2 l1 l2 S xs ys i := by
  refine ⟨hk _ _ dTI st.ti, st.a1.at fun o e => hk _ o d1 e, st.a2.at fun o e => hk _ o d2 e, st.b1.at fun o e => hk _ o e1 e, st.b2.at fun o e => hk _ o e2 e, (let ⟨o, e⟩ := st.to_; ⟨o, hk _ _ dTO e⟩), ?_⟩
  rcases st.zz with ⟨hz, a, b, hTO⟩ | ⟨T, f, oT, hz, hT, r1, r2, r3, r4⟩
  · exact .inl ⟨hk _ _ dz hz, a, b, hk _ _ dTO hTO⟩
  · exact .inr ⟨T, f, oT, hk _ _ dz hz, hk _ _ r4 hT, r1, r2, r3, r4⟩
section
variable {prog : Program} {w : World} {A : Around} {E : Value → Shared → Prop} {s : Shared} {z TI TO i1 i2 l1 l2 S : Addr} {xs ys : Array Value} {i : Nat}
theorem next_zipT {Q : Option Value → Shared → Prop} (D : ZipApart z TI TO i1 i2 l1 l2) (st : ZST s.heap z TI TO i1 i2 l1 l2 S xs ys i) (hS : ∃ o, s.heap.get? S = some o) {x y : Value} (hx : xs[i]? = some x) (hy : ys[i]? = some y)
    (hQ : ∀ h', ZST h' z TI TO i1 i2 l1 l2 S xs ys (i + 1) → IsPair h' s.heap.objs.size x y → h'.objs.size = s.heap.objs.size + 1 → (∀ c o, c ≠ z → c ≠ TO → c ≠ i1 → c ≠ i2 → s.heap.get? c = some o → h'.get? c = some o) → Q (some (.ref s.heap.objs.size)) { s with heap := h' }) :
    wpAny (model prog w) A (pyNext (.ref z)) Q E s := by
  obtain ⟨hTI, h1, h2, hl1, hl2, hto, hz⟩ := st
  obtain ⟨oS, hS⟩ := hS
  have lt : ∀ {c o}, s.heap.get? c = some o → s.heap.objs.size ≠ c := fun e => Nat.ne_of_gt (Heap.lt_size e)
  have n1 : s.heap.objs.size ≠ i1 := let ⟨_, e, _⟩ := h1; lt e
  have n2 : s.heap.objs.size ≠ i2 := let ⟨_, e, _⟩ := h2; lt e
  rcases hz with ⟨hz, a, b, hTO⟩ | ⟨T, f, oT, hz, hT, r1, r2, r3, r4⟩
  · refine pyNext_zipT_item D hz hTI hTO h1 h2 hl1 hl2 hx hy fun h' a1 a2 a3 a4 a5 a6 hk => ?_
    exact hQ h' ⟨hk _ _ D.TIz D.TITO D.TIi1 D.TIi2 hTI, a3, a4, hl1.at fun o e => hk _ o D.l1z D.l1TO D.l1i1 D.l1i2 e, hl2.at fun o e => hk _ o D.l2z D.l2TO D.l2i1 D.l2i2 e, ⟨_, a2⟩, .inr ⟨s.heap.objs.size, false, _, a1, a5, lt hz, n1, n2, lt hS⟩⟩ a5 a6 hk
  · refine pyNext_zipT_item_held D hz hT hTI h1 h2 hl1 hl2 hx hy fun h' a1 a3 a4 a5 a6 hk => ?_
    exact hQ h' ⟨hk _ _ D.TIz D.TIi1 D.TIi2 hTI, a3, a4, hl1.at fun o e => hk _ o D.l1z D.l1i1 D.l1i2 e, hl2.at fun o e => hk _ o D.l2z D.l2i1 D.l2i2 e, (let ⟨o, e⟩ := hto; ⟨o, hk _ _ D.TOz D.TOi1 D.TOi2 e⟩), .inr ⟨T, true, oT, a1, hk _ _ r1 r2 r3 hT, r1, r2, r3, r4⟩⟩ a5 a6 fun c o c1 _ c3 c4 e => hk c o c1 c3 c4 e
theorem last_zipT {Q : Option Value → Shared → Prop} (hh : A.handled = none) (D : ZipApart z TI TO i1 i2 l1 l2) (st : ZST s.heap z TI TO i1 i2 l1 l2 S xs ys i) (hend : xs[i]? = none ∨ ys[i]? = none)
    (hQ : ∀ h', (∀ c o, c ≠ z → c ≠ TO → c ≠ i1 → c ≠ i2 → s.heap.get? c = some o → h'.get? c = some o) → Q none { s with heap := h' }) :
    wpAny (model prog w) A (pyNext (.ref z)) Q E s := by
  obtain ⟨hTI, h1, h2, hl1, hl2, hto, hz⟩ := st
  rcases hz with ⟨hz, a, b, hTO⟩ | ⟨T, f, oT, hz, hT, r1, r2, r3, r4⟩
  · exact pyNext_zipT_end hh D hz hTI hTO h1 h2 hl1 hl2 hend fun h' hk => hQ h' hk
  · exact pyNext_zipT_end_held hh D hz hT hTI h1 h2 hl1 hl2 hend fun h' hk => hQ h' fun c o c1 _ c3 c4 e => hk c o c1 c3 c4 e
end
theorem zipT_drain {prog : Program} {w : World} {A : Around} {R : Result → Shared → Prop} {B z TI TO i1 i2 l1 l2 S : Addr} {xs ys : Array Value} {res : Value} {n : Nat} (hh : A.handled = none) (D : ZipApart z TI TO i1 i2 l1 l2)
    (dz : z ≠ S) (dTI : TI ≠ S) (dTO : TO ≠ S) (d1 : i1 ≠ S) (d2 : i2 ≠ S) (e1 : l1 ≠ S) (e2 : l2 ≠ S) (hn : n = min xs.size ys.size) (hz : n < sizeLine) :
    ∀ (k i : Nat) (s : Shared) (ts : List Addr) (acc : Array Value) (c : Nat), n - i = k → i ≤ n → ts.length = i → B ≤ s.heap.objs.size → ZST s.heap z TI TO i1 i2 l1 l2 S xs ys i → s.heap.get? S = some (lstObj acc c) → ZI s.heap B z TI TO i1 i2 S xs ys ts acc →
      (∀ h' ts' acc' c', ts'.length = n → h'.get? S = some (lstObj acc' c') → ZI h' B z TI TO i1 i2 S xs ys ts' acc' → (∀ b o, b ≠ S → b ≠ z → b ≠ TO → b ≠ i1 → b ≠ i2 → s.heap.get? b = some o → h'.get? b = some o) → R (.ok (.ret res)) { s with heap := h' }) →
      codeAny (model prog w) A (.builtin "list.extend.loop" ⟨[.ref S, .ref z, res], []⟩) R s := by
  intro k
  induction k with
  | zero =>
    intro i s ts acc c hk hi hl hB st hS it hR
    have hin : i = n := by omega
    refine codeAny_builtin F.entry_extend_loop ?_
    rw [Around.under_plainId F.plain_extend_loop _]
    show wpAny _ A.in1 (pyNext (.ref z) >>= _) _ _ s
    have hend : xs[i]? = none ∨ ys[i]? = none := by
      rw [hin, hn]
      rcases Nat.le_total xs.size ys.size with h | h
      · exact .inl (Array.getElem?_eq_none (by rw [Nat.min_eq_left h]; exact Nat.le_refl _))
      · exact .inr (Array.getElem?_eq_none (by rw [Nat.min_eq_right h]; exact Nat.le_refl _))
    refine wpAny_bind (last_zipT (A := A.in1) hh D st hend fun h' hk => ?_)
    refine wpAny_pure (hR h' ts acc c (hl.trans hin) (hk _ _ (Ne.symm dz) (Ne.symm dTO) (Ne.symm d1) (Ne.symm d2) hS) ?_ fun b o _ b1 b2 b3 b4 e => hk b o b1 b2 b3 b4 e)
    refine ⟨it.eq, it.pw, fun j T e => ?_, fun T hT => ?_⟩
    · obtain ⟨x, y, hx, hy, p⟩ := it.at_ j T e
      obtain ⟨_, _, q1, q2, q3, q4, _⟩ := it.lt T (List.mem_of_getElem? e)
      exact ⟨x, y, hx, hy, hk _ _ q1 q2 q3 q4 p⟩
    · obtain ⟨q0, q, q1, q2, q3, q4, q5⟩ := it.lt T hT
      obtain ⟨j, hj, rfl⟩ := List.getElem_of_mem hT
      obtain ⟨x, y, hx, hy, p⟩ := it.at_ j _ (List.getElem?_eq_getElem hj)
      exact ⟨q0, Heap.lt_size (hk _ _ q1 q2 q3 q4 p), q1, q2, q3, q4, q5⟩
  | succ k ih =>
    intro i s ts acc c hk hi hl hB st hS it hR
    have hlt : i < n := by omega
    have hix : i < xs.size := Nat.lt_of_lt_of_le (hn ▸ hlt) (Nat.min_le_left ..)
    have hiy : i < ys.size := Nat.lt_of_lt_of_le (hn ▸ hlt) (Nat.min_le_right ..)
    have ex := Array.getElem?_eq_getElem hix
    have ey := Array.getElem?_eq_getElem hiy
    refine codeAny_builtin F.entry_extend_loop ?_
    rw [Around.under_plainId F.plain_extend_loop _]
    show wpAny _ A.in1 (pyNext (.ref z) >>= _) _ _ s
    refine wpAny_bind (next_zipT (A := A.in1) D st ⟨_, hS⟩ ex ey fun h' st' p hsz hkk => ?_)
    have hS' := hkk _ _ (Ne.symm dz) (Ne.symm dTO) (Ne.symm d1) (Ne.symm d2) hS
    have hac : acc.size = i := by
      have := congrArg List.length it.eq
      rw [List.length_map, hl] at this
      simpa using this
    show wpAny _ A.in1 (updateSeq S (·.push (.ref s.heap.objs.size)) >>= _) _ _ _
    refine wpAny_bind ?_
    have keep : ∀ b o, b ≠ S → h'.get? b = some o → (h'.update S (Obj.mapSeq (·.push (.ref s.heap.objs.size)))).get? b = some o := fun b o hb e => (Heap.get?_update_other _ _ (Ne.symm hb)).trans e
    have lt : ∀ {c o}, s.heap.get? c = some o → c ≠ s.heap.objs.size := fun e => Nat.ne_of_lt (Heap.lt_size e)
    have nS : s.heap.objs.size ≠ S := Ne.symm (lt hS)
    refine wpAny_updateSeq (s := { s with heap := h' }) hS' rfl (wpAny_pure ⟨plainId_quiet F.plain_extend_loop _, ih (i + 1) _ (ts ++ [s.heap.objs.size]) (acc.push (.ref s.heap.objs.size)) _ (by omega) hlt (by rw [List.length_append, hl]; rfl) (by show B ≤ (Heap.update _ _ _).objs.size; rw [Heap.size_after_update, hsz]; exact Nat.le_trans hB (Nat.le_succ _))
      (st'.keep dz dTI dTO d1 d2 e1 e2 keep) (Heap.get?_update_self _ hS' rfl) ?_ fun h'' ts' acc' c' l' hS'' it' hk'' => ?_⟩) (by rw [hac]; omega) (by show (acc.push _).size ≤ sizeLine + 1; rw [Array.size_push, hac]; omega)
    · have zlt : z < s.heap.objs.size := by
        rcases st.zz with ⟨hz, _⟩ | ⟨T, f, oT, hz, _⟩ <;> exact Heap.lt_size hz
      have i1lt : i1 < s.heap.objs.size := let ⟨_, e, _⟩ := st.a1; Heap.lt_size e
      have i2lt : i2 < s.heap.objs.size := let ⟨_, e, _⟩ := st.a2; Heap.lt_size e
      have TOlt : TO < s.heap.objs.size := by
        obtain ⟨o, e⟩ := st.to_
        exact Heap.lt_size e
      have up : ∀ T x y, T ≠ z → T ≠ TO → T ≠ i1 → T ≠ i2 → T ≠ S → IsPair s.heap T x y → IsPair (h'.update S (Obj.mapSeq (·.push (.ref s.heap.objs.size)))) T x y := fun T x y q1 q2 q3 q4 q5 p => keep _ _ q5 (hkk _ _ q1 q2 q3 q4 p)
      refine ⟨?_, ?_, fun j T e => ?_, fun T hT => ?_⟩
      · rw [Array.toList_push, it.eq, List.map_append]
        rfl
      · refine List.pairwise_append.mpr ⟨it.pw, List.pairwise_singleton _ _, fun a ha b hb => ?_⟩
        rw [List.mem_singleton.mp hb]
        exact (it.lt a ha).2.1
      · by_cases hj : j < ts.length
        · rw [List.getElem?_append_left hj] at e
          obtain ⟨x, y, hx, hy, p⟩ := it.at_ j T e
          obtain ⟨_, _, q1, q2, q3, q4, q5⟩ := it.lt T (List.mem_of_getElem? e)
          exact ⟨x, y, hx, hy, up T x y q1 q2 q3 q4 q5 p⟩
        · rw [List.getElem?_append_right (by omega)] at e
          obtain ⟨h0, e⟩ := List.getElem?_eq_some_iff.mp e
          have hji : j = i := by
            have : j - ts.length < 1 := h0
            omega
          have e : s.heap.objs.size = T := by
            simpa using e
          subst e
          rw [hji]
          exact ⟨_, _, ex, ey, keep _ _ nS p⟩
      · rcases List.mem_append.mp hT with hT | hT
        · obtain ⟨q0, q, q1, q2, q3, q4, q5⟩ := it.lt T hT
          refine ⟨q0, ?_, q1, q2, q3, q4, q5⟩
          rw [Heap.size_after_update, hsz]
          exact Nat.lt_succ_of_lt q
        · rw [List.mem_singleton.mp hT]
          refine ⟨hB, ?_, Nat.ne_of_gt zlt, Nat.ne_of_gt TOlt, Nat.ne_of_gt i1lt, Nat.ne_of_gt i2lt, nS⟩
          rw [Heap.size_after_update, hsz]
          exact Nat.lt_succ_self _
    · exact hR h'' ts' acc' c' l' hS'' it' fun b o b0 b1 b2 b3 b4 e => hk'' b o b0 b1 b2 b3 b4 (keep b o b0 (hkk b o b1 b2 b3 b4 e))
end PySem

-- MxZt3
/-! tuple(zip(xs, ys)) of two tuples: the call. -/
namespace PySem
open Sem (wp)
open L2 (lstObj)
section
variable {prog : Program} {w : World} {A : Around} {E : Value → Shared → Prop} {s : Shared} {z TI TO i1 i2 l1 l2 : Addr} {xs ys : Array Value}
theorem collect_zipT {Q : List Value → Shared → Prop} (hh : A.handled = none) (D : ZipApart z TI TO i1 i2 l1 l2) (hz : IsZip s.heap z TI TO .none) (hTI : IsPair s.heap TI (.ref i1) (.ref i2)) (hTO : ∃ a b, IsPair s.heap TO a b)
    (h1 : s.heap.IsTupleIter i1 l1 0) (h2 : s.heap.IsTupleIter i2 l2 0) (hl1 : s.heap.IsTuple l1 xs) (hl2 : s.heap.IsTuple l2 ys) (hn : min xs.size ys.size < sizeLine)
    (hQ : ∀ h' ts acc, ts.length = min xs.size ys.size → ZI h' s.heap.objs.size z TI TO i1 i2 s.heap.objs.size xs ys ts acc → (∀ b o, b ≠ z → b ≠ TO → b ≠ i1 → b ≠ i2 → s.heap.get? b = some o → h'.get? b = some o) → Q acc.toList { s with heap := h' }) :
    wpAny (model prog w) A (collect (.ref z)) Q E s := by
  have lt : ∀ {c o}, s.heap.get? c = some o → c ≠ s.heap.objs.size := fun e => Nat.ne_of_lt (Heap.lt_size e)
  have hSz : s.heap.objs.size ≠ z := Ne.symm (lt hz)
  unfold collect
  refine wpAny_bind (wpAny_runValue (codeAny_builtin F.entry_proto_collect ?_))
  rw [Around.under_plainId F.plain_proto_collect _]
  show wpAny _ A.in1 (newList [] >>= fun l => again (.builtin "list.__iadd__" ⟨[l, .ref z], []⟩)) _ _ s
  refine wpAny_bind (wpAny_newObj_type ?_)
  refine wpAny_pure ⟨plainId_quiet F.plain_list_iadd _, codeAny_builtin F.entry_list_iadd ?_⟩
  rw [Around.under_plainId F.plain_list_iadd _]
  show wpAny _ A.in1 (Builtin.List.listExtendWith (.ref s.heap.objs.size) (.ref z) (.ref s.heap.objs.size)) _ _ _
  have k1 : ∀ b o, s.heap.get? b = some o → (s.heap.push { cls := .type "list", data := .seq ([] : List Value).toArray }).get? b = some o := fun b o e => Heap.get?_push_of_some _ e
  have hS1 : (s.heap.push { cls := .type "list", data := .seq ([] : List Value).toArray }).get? s.heap.objs.size = some { cls := .type "list", data := .seq ([] : List Value).toArray } := Heap.get?_push_size _ rfl
  have up : ∀ (h : Heap) (f : Obj → Obj), (∀ b o, s.heap.get? b = some o → h.get? b = some o) → ∀ b o, s.heap.get? b = some o → (h.update s.heap.objs.size f).get? b = some o := fun h f q b o e =>
    (Heap.get?_update_other _ _ (Ne.symm (lt e))).trans (q b o e)
  have zT : ∀ {h : Heap}, (∀ b o, s.heap.get? b = some o → h.get? b = some o) → Shared.TypeIs { s with heap := h } (.ref z) "zip" := fun {h} q => ⟨_, q _ _ hz, rfl⟩
  unfold Builtin.List.listExtendWith
  refine wpAny_bind (wpAny_typeOf (zT k1) ?_)
  have e1 : Builtin.List.listSameRef (.ref s.heap.objs.size) (.ref z) = false := by simp [Builtin.List.listSameRef, hSz]
  have e2 : (Value.type "zip" == Value.type "list") = false := by decide
  have e3 : (Value.type "zip" == Value.type "tuple") = false := by decide
  simp only [e1, e2, e3, Bool.or_false, Bool.false_eq_true, if_false]
  refine wpAny_bind (wpAny_pyIter_zip (s := { s with heap := _ }) (k1 _ _ hz) ?_)
  refine wpAny_bind (wpAny_holding ?_)
  unfold Builtin.List.listLengthHint
  refine wpAny_bind (wpAny_specialOf (zT k1) zip_no_len ?_)
  show wpAny _ A.in1 (specialOf (Value.ref z) (Str.ofString "__length_hint__") >>= _) _ _ _
  refine wpAny_bind (wpAny_specialOf (zT k1) zip_no_hint (wpAny_pure ?_))
  show wpAny _ A.in1 (rule "list.extend.makes-room" >>= fun _ => Builtin.List.listTouch (.ref s.heap.objs.size) >>= fun _ => again (.builtin "list.extend.loop" ⟨[.ref s.heap.objs.size, .ref z, .ref s.heap.objs.size], []⟩)) _ _ _
  refine wpAny_bind (wpAny_rule (wpAny_bind ?_))
  show wpAny _ A.in1 (updateSeq s.heap.objs.size (·.push .none) >>= fun _ => updateSeq s.heap.objs.size (·.pop)) _ _ _
  refine wpAny_bind (wpAny_updateSeq hS1 rfl ?_)
  have hS2 := Heap.get?_update_self (Obj.mapSeq (·.push Value.none)) hS1 rfl
  refine wpAny_updateSeq hS2 rfl ?_
  have hS3 := Heap.get?_update_self (Obj.mapSeq (·.pop)) hS2 rfl
  have k3 := up _ (Obj.mapSeq (·.pop)) (up _ (Obj.mapSeq (·.push Value.none)) k1)
  refine wpAny_pure ⟨plainId_quiet F.plain_extend_loop _, ?_⟩
  obtain ⟨p, q, hTO⟩ := hTO
  have d1 : i1 ≠ s.heap.objs.size := let ⟨_, e, _⟩ := h1; lt e
  have d2 : i2 ≠ s.heap.objs.size := let ⟨_, e, _⟩ := h2; lt e
  have f1 : l1 ≠ s.heap.objs.size := let ⟨_, e, _⟩ := hl1; lt e
  have f2 : l2 ≠ s.heap.objs.size := let ⟨_, e, _⟩ := hl2; lt e
  refine zipT_drain (A := A) (B := s.heap.objs.size) (n := min xs.size ys.size) hh D (lt hz) (lt hTI) (lt hTO) d1 d2 f1 f2 rfl hn (min xs.size ys.size) 0 _ [] _ _ (Nat.sub_zero _) (Nat.zero_le _) rfl ?_
    ⟨k3 _ _ hTI, h1.at fun o e => k3 _ o e, h2.at fun o e => k3 _ o e, hl1.at fun o e => k3 _ o e, hl2.at fun o e => k3 _ o e, ⟨_, k3 _ _ hTO⟩, .inl ⟨k3 _ _ hz, _, _, k3 _ _ hTO⟩⟩ hS3
    ⟨rfl, List.Pairwise.nil, fun j T e => by simp at e, fun T e => by cases e⟩ fun h' ts acc c hl hSS it hk => ?_
  · show s.heap.objs.size ≤ (Heap.update _ _ _).objs.size
    rw [Heap.size_after_update, Heap.size_after_update, Heap.size_push]
    exact Nat.le_succ _
  · show wpAny _ A (load s.heap.objs.size >>= _) _ _ _
    refine wpAny_bind (wpAny_load (s := { s with heap := h' }) hSS (wpAny_pure ?_))
    exact hQ h' ts acc hl it fun b o b1 b2 b3 b4 e => hk b o (lt e) b1 b2 b3 b4 (k3 b o e)
theorem call_tuple_zip {Q : Value → Shared → Prop} (hh : A.handled = none) (D : ZipApart z TI TO i1 i2 l1 l2) (hz : IsZip s.heap z TI TO .none) (hTI : IsPair s.heap TI (.ref i1) (.ref i2)) (hTO : ∃ a b, IsPair s.heap TO a b)
    (h1 : s.heap.IsTupleIter i1 l1 0) (h2 : s.heap.IsTupleIter i2 l2 0) (hl1 : s.heap.IsTuple l1 xs) (hl2 : s.heap.IsTuple l2 ys) (hn : min xs.size ys.size < sizeLine)
    (hQ : ∀ h' ts acc, ts.length = min xs.size ys.size → ZI h' s.heap.objs.size z TI TO i1 i2 s.heap.objs.size xs ys ts acc → (∀ b o, b ≠ z → b ≠ TO → b ≠ i1 → b ≠ i2 → s.heap.get? b = some o → h'.get? b = some o) →
      Q (.ref h'.objs.size) { s with heap := h'.push { cls := .type "tuple", data := .seq acc } }) :
    wpAny (model prog w) A (call (.type "tuple") [.ref z]) Q E s := by
  have hT : s.TypeIs (.ref z) "zip" := ⟨_, hz, rfl⟩
  refine callType_codes (Q₁ := fun obj s₁ => s₁.TypeIs obj "tuple" ∧ Q obj s₁) F.called_tuple (F.typeCall_tuple_1 _) F.entry_object_init (codeAny_of_tree ?_)
    fun obj s₁ h₁ => ⟨h₁.1, F.args_object_init_2 obj _, object_init_meets F.called_tuple.init.lookup F.called_tuple.made (by decide) prog w A.in1 _ s₁ ⟨h₁.1, rfl, h₁.2⟩⟩
  show wpAny _ A.in1.in1 (do checkBuiltinCall "tuple.__new__" ⟨[.type "tuple", .ref z], []⟩; again (.builtin "tuple.__new__" ⟨[.type "tuple", .ref z], []⟩)) _ _ s
  refine wpAny_bind (wpAny_of_eq (F.newCall_tuple_1 _) (wpAny_pure ⟨plainId_quiet F.plain_tuple_new _, codeAny_builtin F.entry_tuple_new ?_⟩))
  rw [Around.under_plainId F.plain_tuple_new _]
  have s1 := sub_tuple_self
  have s2 := init_tuple_lookup
  have s3 := madeHere_tuple
  have col : ∀ {A' : Around} {E' : Value → Shared → Prop} {R : List Value → Shared → Prop}, A'.handled = none → (∀ h' ts acc, ts.length = min xs.size ys.size → ZI h' s.heap.objs.size z TI TO i1 i2 s.heap.objs.size xs ys ts acc → (∀ b o, b ≠ z → b ≠ TO → b ≠ i1 → b ≠ i2 → s.heap.get? b = some o → h'.get? b = some o) → R acc.toList { s with heap := h' }) → wpAny (model prog w) A' (collect (.ref z)) R E' s :=
    fun {A' E' R} ha k => collect_zipT ha D hz hTI hTO h1 h2 hl1 hl2 hn k
  wp_walk using wpAny_typeOf hT, col
  · exact hh
  · intro h' ts acc hl it hk
    have sz : acc.size = ts.length := by
      have := congrArg List.length it.eq
      rw [List.length_map] at this
      simpa using this
    have ea : acc.toList.toArray = acc := by simp
    show wpAny _ _ (Builtin.Tuple.tupleExact acc.toList.toArray >>= fun v => ret v) _ _ _
    rw [ea]
    unfold Builtin.Tuple.tupleExact
    refine wpAny_bind (wpAny_newObj_type ?_ (by show acc.size ≤ sizeLine; rw [sz, hl]; exact Nat.le_of_lt hn))
    refine wpAny_pure ?_
    exact ⟨⟨_, Heap.get?_push_size _ rfl, rfl⟩, hQ h' ts acc hl it hk⟩
end
end PySem

-- MxZt4
/-! tuple(zip(xs, ys)) of two tuples: the expression. -/
namespace L2
open PySem PySem.Spec PyProof.Rows
def tTupZip (K : PySem.W.Frag) (ta : TA) : TE := fun σ H Q => ta σ H fun vs H1 => ∃ a b xs ys, vs = [.ref a, .ref b] ∧ SqT K H1 a xs ∧ SqT K H1 b ys ∧ min xs.length ys.length < sizeLine ∧
  ∀ (ps : List PR) (p : Addr), ps.map (·.2.2) = xs.zip ys → (ps.map (·.1)).Nodup → (∀ t ∈ ps, H1 t.1 = none ∧ t.2.1.dict = none) → H1 p = none → p ∉ ps.map (·.1) → ∀ o : Obj, o.dict = none → Q (.ref p) (upd (pairsH H1 ps) p (.frz o (.tup (ps.map fun t => V.ref t.1))))
section
variable {X : Cx}
theorem pe_tupZip {e e2 : Expr} {ta : TA} {p p2 pos pos2 : Pos} (hc : X.calm = true) (hg : Gl X "tuple") (hm : X.mg "tuple" = none) (hg2 : Gl X "zip") (hm2 : X.mg "zip" = none) (ha : PA X [e, e2] ta)
    (na : starEach [e, e2] X.env = (false, eval e X.env) :: starEach [e2] X.env := by rfl) (hpl : (backTo pos2 (starEach [e2] X.env)).any (·.1) = false := by rfl)
    (na2 : starEach [Expr.Call (.Name "zip" p2) [e, e2] [] pos2] X.env = (false, eval (.Call (.Name "zip" p2) [e, e2] [] pos2) X.env) :: starEach [] X.env := by rfl) :
    PE X (.Call (.Name "tuple" p) [.Call (.Name "zip" p2) [e, e2] [] pos2] [] pos) (tTupZip X.K ta) := by
  refine ⟨fun pins s σ H Q I h => ?_⟩
  have inner : wpAny (model X.prog X.w) X.A (eval (.Call (.Name "zip" p2) [e, e2] [] pos2) X.env) (fun x s' => ∃ (s1 : Shared) (h' : Heap) (H1 : Hp) (a b : Addr) (xs ys : List V) (its its2 : List Value), s' = { s1 with heap := h' } ∧ x = .ref (s1.heap.objs.size + 4) ∧ Inv X pins σ H1 s1 ∧
      Vals xs its ∧ Vals ys its2 ∧ a < s1.heap.objs.size ∧ b < s1.heap.objs.size ∧ s1.heap.IsTuple a its.toArray ∧ s1.heap.IsTuple b its2.toArray ∧ min xs.length ys.length < sizeLine ∧
      IsZip h' (s1.heap.objs.size + 4) (s1.heap.objs.size + 2) (s1.heap.objs.size + 3) .none ∧ PySem.IsPair h' (s1.heap.objs.size + 2) (.ref s1.heap.objs.size) (.ref (s1.heap.objs.size + 1)) ∧ (∃ u v, PySem.IsPair h' (s1.heap.objs.size + 3) u v) ∧
      h'.IsTupleIter s1.heap.objs.size a 0 ∧ h'.IsTupleIter (s1.heap.objs.size + 1) b 0 ∧ h'.objs.size = s1.heap.objs.size + 5 ∧ (∀ c o, s1.heap.get? c = some o → h'.get? c = some o) ∧
      ∀ (ps : List PR) (p : Addr), ps.map (·.2.2) = xs.zip ys → (ps.map (·.1)).Nodup → (∀ t ∈ ps, H1 t.1 = none ∧ t.2.1.dict = none) → H1 p = none → p ∉ ps.map (·.1) → ∀ o : Obj, o.dict = none → Q (.ref p) (upd (pairsH H1 ps) p (.frz o (.tup (ps.map fun t => V.ref t.1))))) X.xe s := by
    refine Call_ (ld_blt I hg2 hm2 PyProof.Rows.boot_zip (PyProof.Rows.callWith_type1 (thn (ha.run pos2 pins s σ H _ I h) fun us s1 ⟨vs, H1, I1, r1, q1⟩ => ?_) na hpl))
    obtain ⟨a, b, xs, ys, ex, hqx, hqy, hz, q⟩ := q1
    subst ex
    cases r1 with
    | cons r rr =>
      cases rr with
      | cons r' rr =>
        cases rr
        cases r
        cases r'
        obtain ⟨its, rv, p1, _⟩ := I1.tuple hqx
        obtain ⟨its2, rv2, p3, _⟩ := I1.tuple hqy
        refine RZ.call_zipT p1 p3 fun h' hz' hTI hTO h1 h2 hsz hk => ?_
        exact ⟨s1, h', H1, a, b, xs, ys, its, its2, rfl, rfl, I1, rv, rv2, (let ⟨_, e, _⟩ := p1; Heap.lt_size e), (let ⟨_, e, _⟩ := p3; Heap.lt_size e), p1, p3, hz, hz', hTI, ⟨_, _, hTO⟩, h1, h2, hsz, hk, q⟩
  refine Call_ (ld_blt I hg hm boot_tuple (PyProof.Rows.callWith_type1 (args_cons (thn inner fun x s2 hx => args_nil ?_) na2) na2))
  obtain ⟨s1, h', H1, a, b, xs, ys, its, its2, rfl, rfl, I1, rv, rv2, la, lb, p1, p3, hz, z1, z2, z3, z4, z5, hsz, hk, q⟩ := hx
  have l1 := rv.length
  have l2 := rv2.length
  have em : min its.toArray.size its2.toArray.size = min xs.length ys.length := by
    rw [l1, l2]
    simp
  refine call_tuple_zip (s := { s1 with heap := h' }) (I1.ok.hd hc) (PySem.W.ktu_apart s1.heap.objs.size a b la lb) z1 z2 z3 z4 z5 (p1.at fun o e => hk _ o e) (p3.at fun o e => hk _ o e) (by rw [em]; exact hz) fun h'' ts acc hl it hk2 => ?_
  rw [em] at hl
  have old : ∀ b u, s1.heap.get? b = some u → h''.get? b = some u := fun b u e => by
    have hb := Heap.lt_size e
    refine hk2 b u ?_ ?_ ?_ ?_ (hk b u e)
    · exact Nat.ne_of_lt (Nat.lt_of_lt_of_le hb (Nat.le_add_right _ _))
    · exact Nat.ne_of_lt (Nat.lt_of_lt_of_le hb (Nat.le_add_right _ _))
    · exact Nat.ne_of_lt hb
    · exact Nat.ne_of_lt (Nat.lt_of_lt_of_le hb (Nat.le_add_right _ _))
  have big : ∀ T ∈ ts, s1.heap.objs.size ≤ T := fun T hT => by
    have := (it.lt T hT).1
    have hsz : h'.objs.size = s1.heap.objs.size + 5 := hsz
    have this : h'.objs.size ≤ T := this
    rw [hsz] at this
    exact Nat.le_trans (Nat.le_add_right _ _) this
  have below : ∀ T ∈ ts, T < h''.objs.size := fun T hT => (it.lt T hT).2.1
  have bigS : s1.heap.objs.size ≤ h''.objs.size := by
    have e5 := hk2 (s1.heap.objs.size + 2) _ (Nat.ne_of_lt (Nat.lt_succ_of_lt (Nat.lt_succ_self _))) (Nat.ne_of_lt (Nat.lt_succ_self _)) (Nat.ne_of_gt (Nat.lt_succ_of_lt (Nat.lt_succ_self _))) (Nat.ne_of_gt (Nat.lt_succ_self _)) z2
    exact Nat.le_trans (Nat.le_add_right _ 2) (Nat.le_of_lt (Heap.lt_size e5))
  have nS : h''.objs.size ∉ ts := fun hT => Nat.lt_irrefl _ (below _ hT)
  have nd : ts.Nodup := it.pw.imp fun {a b} h => Nat.ne_of_lt h
  generalize hps : ts.zip (((its.zip its2).map pairObj).zip (xs.zip ys)) = ps
  have lz : (((its.zip its2).map pairObj).zip (xs.zip ys)).length = ts.length := by
    rw [List.length_zip, List.length_map, List.length_zip, List.length_zip, hl, ← l1, ← l2]
    exact Nat.min_self _
  have p1' : ps.map (·.1) = ts := by
    rw [← hps]
    exact List.map_fst_zip (Nat.le_of_eq lz.symm)
  have p2' : ps.map (·.2.2) = xs.zip ys := by
    have a : ps.map (·.2) = ((its.zip its2).map pairObj).zip (xs.zip ys) := by
      rw [← hps]
      exact List.map_snd_zip (Nat.le_of_eq lz)
    have b : (ps.map (·.2)).map (·.2) = xs.zip ys := by
      rw [a]
      refine List.map_snd_zip ?_
      rw [List.length_map, List.length_zip, List.length_zip, ← l1, ← l2]
      exact Nat.le_refl _
    rw [List.map_map] at b
    exact b
  have el : (ps.map fun t => V.ref t.1) = ts.map V.ref := by
    rw [← p1', List.map_map]
    rfl
  have at_ : ∀ t ∈ ps, ∃ u v, t.2.1 = pairObj (u, v) ∧ RelV t.2.2.1 u ∧ RelV t.2.2.2 v ∧ h''.get? t.1 = some (pairObj (u, v)) := fun t ht => by
    rw [← hps] at ht
    obtain ⟨j, ej⟩ := List.getElem?_of_mem ht
    obtain ⟨j1, j2⟩ := List.getElem?_zip_eq_some.mp ej
    obtain ⟨jo, j2⟩ := List.getElem?_zip_eq_some.mp j2
    obtain ⟨j2, j3⟩ := List.getElem?_zip_eq_some.mp j2
    obtain ⟨u, v, hu, hv, hp⟩ := it.at_ j _ j1
    obtain ⟨u', hu', ru⟩ := rv.get j2
    obtain ⟨v', hv', rv'⟩ := rv2.get j3
    have eu : u' = u := by
      have hu : its[j]? = some u := by simpa using hu
      rw [hu'] at hu
      exact Option.some.inj hu
    have ev : v' = v := by
      have hv : its2[j]? = some v := by simpa using hv
      rw [hv'] at hv
      exact Option.some.inj hv
    subst eu ev
    rw [List.getElem?_map, show (its.zip its2)[j]? = some (u', v') from List.getElem?_zip_eq_some.mpr ⟨hu', hv'⟩] at jo
    exact ⟨u', v', (Option.some.inj jo).symm, ru, rv', hp⟩
  have fst : ∀ t ∈ ps, t.1 ∈ ts := fun t ht => by rw [← p1']; exact List.mem_map.mpr ⟨t, ht, rfl⟩
  refine ⟨.ref h''.objs.size, upd (pairsH H1 ps) h''.objs.size (.frz { cls := .type "tuple", data := .seq acc } (.tup (ps.map fun t => V.ref t.1))), ?_, rfl, q ps h''.objs.size p2' (by rw [p1']; exact nd) (fun t ht => ⟨I1.hok.fresh (big _ (fst t ht)), ?_⟩) (I1.hok.fresh bigS) (by rw [p1']; exact nS) _ rfl⟩
  · refine I1.newAll (h' := h''.push { cls := .type "tuple", data := .seq acc }) (t' := s1.toks) (fun b u e => Heap.get?_push_of_some _ (old b u e)) (fun b hb => ?_) fun b u hb e => ?_
    · rw [upd_ne (Nat.ne_of_lt (Nat.lt_of_lt_of_le hb bigS))]
      exact pairsH_ne fun t ht => Nat.ne_of_lt (Nat.lt_of_lt_of_le hb (big _ (fst t ht)))
    · by_cases eS : b = h''.objs.size
      · subst eS
        rw [upd_same] at e
        cases e
        rw [el]
        have hS : (h''.push { cls := .type "tuple", data := .seq acc }).get? h''.objs.size = some { cls := .type "tuple", data := .seq acc } := Heap.get?_push_size _ rfl
        refine ⟨hS, by rw [List.length_map, hl]; exact Nat.le_of_lt hz, acc.toList, ?_, ⟨_, hS, rfl, 0, by rw [Array.toArray_toList]⟩⟩
        rw [it.eq]
        exact vals_refs2 ts
      · rw [upd_ne eS] at e
        obtain ⟨t, ht, rfl, rfl⟩ := pairsH_some e (I1.hok.fresh hb)
        obtain ⟨u, v, eo, ru, rv', hp⟩ := at_ t ht
        have hp := Heap.get?_push_of_some { cls := .type "tuple", data := .seq acc } hp
        exact ⟨by rw [eo]; exact hp, by show 2 ≤ sizeLine; decide, [u, v], .cons ru (.cons rv' .nil), ⟨_, hp, rfl, _, rfl⟩⟩
  · obtain ⟨u, v', eo, _⟩ := at_ t ht
    rw [eo]
    rfl
end
end L2

-- MxZt5
/-! Mx: tuple(zip(xs, ys)) of two tuples. -/
namespace Mx
open PySem PySem.Spec PyProof.Rows L2
def xTupZip (t : Args) : Ex where
  rr Z e Q := t.run Z e fun ms e1 => ∃ xs ys, ms = [.d (.tuple xs), .d (.tuple ys)] ∧ min xs.length ys.length < 16777216 ∧ Q (.d (.tuple ((xs.zip ys).map pairT))) e1
  mn hZ hQ h := t.mono hZ (fun ms e1 ⟨xs, ys, h1, h2, h3⟩ => ⟨xs, ys, h1, h2, hQ _ _ h3⟩) h
section
variable [TheDeck] {X : Cx} {E : XK} {pos pos2 p p2 : Pos}
theorem m_tupZip {a b : Expr} {t : Args} (hc : X.calm = true) (hg : Gl X "tuple") (hm : X.mg "tuple" = none) (hg2 : Gl X "zip") (hm2 : X.mg "zip" = none) (ha : AV X E [a, b] t)
    (na : starEach [a, b] X.env = (false, eval a X.env) :: starEach [b] X.env := by rfl) (hpl : (backTo pos2 (starEach [b] X.env)).any (·.1) = false := by rfl)
    (na2 : starEach [Expr.Call (.Name "zip" p2) [a, b] [] pos2] X.env = (false, eval (.Call (.Name "zip" p2) [a, b] [] pos2) X.env) :: starEach [] X.env := by rfl) :
    EV X E (.Call (.Name "tuple" p) [.Call (.Name "zip" p2) [a, b] [] pos2] [] pos) (xTupZip t) :=
  PE_imp (pe_tupZip hc hg hm hg2 hm2 ha na hpl na2) fun σ H Q ⟨C, env, Hd, ok, R, h⟩ => ⟨C, env, Hd, ok, R, t.mono (fun _ z => z) (fun ms e1 ⟨xs, ys, hms, hl, q⟩ vs Hd1 H1 sm1 R1 as => by
    subst hms
    cases as with
    | d dq r =>
      cases r with
      | d dq2 r =>
        cases r
        obtain ⟨a, vs, rfl, h1, d1⟩ := dq.tup_inv
        obtain ⟨b, us, rfl, h2, d2⟩ := dq2.tup_inv
        refine ⟨a, b, vs, us, rfl, (same_seqF R1.dh h1).seq, (same_seqF R1.dh h2).seq, by rw [d1.len, d2.len, sizeLine_eq]; exact hl, fun ps p hps nd hf np npp o od => ?_⟩
        have pd := PD.zip d1 d2
        rw [← hps] at pd
        obtain ⟨R2, sm2, da⟩ := pairs_in R1 pd nd hf
        have np2 : pairsH H1 ps p = none := by
          rw [pairsH_ne fun x hx e => npp (List.mem_map.mpr ⟨x, hx, e.symm⟩)]
          exact np
        exact q _ _ _ ((sm1.trans sm2).trans (same_new (R2.dh.free np2))) (R2.newD np2) (.tup (.inl ⟨o, upd_same, od⟩) (da.mono (same_new (R2.dh.free np2))))) h⟩
end
end Mx

-- MxTr
/-! Mx: tuple(range(n)). -/
namespace Mx
open PySem PySem.Spec PyProof.Rows L2
/-- tuple of a range: the tuple known to stay -/
def tTupRgF (te : L2.St → Hp → (Int → Int → Hp → Prop) → Prop) : TE := fun σ H Q => te σ H fun a b H1 => RgOk a b ∧ ∀ p o, H1 p = none → o.dict = none → Q (.ref p) (upd H1 p (.frz o (.tup (rgV a b))))
def xTupR1 (w : Ex) : Ex where
  rr Z e Q := w.run Z e fun r e1 => ∃ n : Int, r = .d (.int n) ∧ 0 ≤ n ∧ n ≤ 16777216 ∧ Q (.d (.tuple (rng 0 n.toNat))) e1
  mn hZ hQ h := w.mono hZ (fun r e1 ⟨n, h1, h2, h3, q⟩ => ⟨n, h1, h2, h3, hQ _ _ q⟩) h
section
variable {X : Cx} {e : Expr} {te : L2.St → Hp → (Int → Int → Hp → Prop) → Prop}
theorem pe_tupRgF {p pos : Pos} (hc : X.calm = true) (hg : Gl X "tuple") (hm : X.mg "tuple" = none) (he : PRg X e te) (na : starEach [e] X.env = (false, eval e X.env) :: starEach [] X.env := by rfl) : PE X (.Call (.Name "tuple" p) [e] [] pos) (tTupRgF te) := by
  refine ⟨fun pins s σ H Q I h => ?_⟩
  refine Call_ (ld_blt I hg hm boot_tuple (PyProof.Rows.callWith_type1 (args_cons (thn (he pins s σ H _ I h) fun x s1 ⟨r, a, b, t, u, v, H1, ex, hr, I1, ok, q⟩ => args_nil ?_) na) na))
  subst ex
  obtain ⟨b1, b2, b3, b4, b5⟩ := ok
  refine call_tuple_range (n := (b - a).toNat) (I1.ok.hd hc) hr (small_one b1 b2 b3 b4) (rangeSize_nat a b) b5 fun h' tk acc hk hi => ?_
  have I2 : Inv X pins σ H1 { s1 with heap := h', toks := tk } := I1.kept hk
  have at_ : (h'.push { cls := .type "tuple", data := .seq acc }).get? h'.objs.size = some { cls := .type "tuple", data := .seq acc } := Heap.get?_push_size _ rfl
  refine ⟨.ref h'.objs.size, upd H1 h'.objs.size (.frz { cls := .type "tuple", data := .seq acc } (.tup (rgV a b))), I2.laid (t' := tk) (fun c o e => Heap.get?_push_of_some _ e) (Nat.le_refl _) ⟨at_, ?_, acc.toList, vals_rg hi, ⟨_, at_, rfl, 0, by rw [Array.toArray_toList]⟩⟩, rfl, q _ _ (I2.hok.fresh (Nat.le_refl _)) rfl⟩
  rw [rgV_length, sizeLine_eq]
  omega
end
section
variable [TheDeck] {X : Cx} {E : XK} {pos p p2 pos2 : Pos}
theorem m_tupR1 {a : Expr} {w : Ex} (hc : X.calm = true) (hg : Gl X "tuple") (hm : X.mg "tuple" = none) (hg2 : Gl X "range") (hm2 : X.mg "range" = none) (ha : EV X E a w) (na : starEach [a] X.env = (false, eval a X.env) :: starEach [] X.env := by rfl)
    (na2 : starEach [Expr.Call (.Name "range" p2) [a] [] pos2] X.env = (false, eval (.Call (.Name "range" p2) [a] [] pos2) X.env) :: starEach [] X.env := by rfl) : EV X E (.Call (.Name "tuple" p) [.Call (.Name "range" p2) [a] [] pos2] [] pos) (xTupR1 w) :=
  PE_imp (pe_tupRgF hc hg hm (prg_1 hg2 hm2 ha na) na2) fun σ H Q ⟨C, env, Hd, ok, R, h⟩ => ⟨C, env, Hd, ok, R, w.mono (fun _ z => z) (fun r e1 ⟨n, hr, h0, h1, q⟩ v Hd1 H1 sm1 R1 rr => by
    subst hr
    obtain rfl := Dq.int_inv rr
    refine ⟨n, rfl, .of_le (by omega) (by omega) (by omega) (by omega), fun p o np od => ?_⟩
    have ev : rgV 0 n = (List.range n.toNat).map fun i : Nat => V.int (0 + (i : Int)) := by
      unfold rgV
      rw [Int.sub_zero]
    exact q _ _ _ (sm1.trans (same_new (R1.dh.free np))) (R1.newD np) (.tup (.inl ⟨o, upd_same, od⟩) (by rw [ev]; exact rg_dq 0 _))) h⟩
end
end Mx

-- MxIn
/-! Mx: x in a tuple of tuples; a statement that is never reached. -/
namespace Mx
open PySem PySem.Spec PyProof.Rows L2
def rInDT (K : PySem.W.Frag) : R2 := fun x y H Q => ∃ d ds, Dp K H x d ∧ Dp K H y (.tuple ds) ∧ SeqAt.shaped d = true ∧ SeqAt.shaped (.tuple ds) = true ∧ d.depth ≤ 60 ∧ Q (.bl (ds.any fun z => PyData.eqv z d)) H
def pInD : P2 where
  run x y Q := ∃ ds, y = .tuple ds ∧ SeqAt.shaped x = true ∧ SeqAt.shaped (.tuple ds) = true ∧ x.depth ≤ 60 ∧ Q (.d (.bool (ds.any fun z => PyData.eqv z x)))
  mono h q := let ⟨ys, a, b, c, d, e⟩ := q; ⟨ys, a, b, c, d, h _ e⟩
section
variable [TheDeck] {X : Cx} {E : XK} {pos p : Pos} {a b : Expr} {oa ob : Od}
theorem op_inDT (hu : X.A.units + 64 < cLine) : OpR X (compareOp .In) (rInDT X.K) := by
  intro pins s σ H x y v u Q I rx ry h
  obtain ⟨d, ds, hd, he, sd, se, hdp, q⟩ := h
  obtain ⟨as, r1⟩ := Dp.reads I d x v hd rx
  obtain ⟨bs, r2⟩ := Dp.reads I (.tuple ds) y u he ry
  exact SeqAt.in_tuple_reads r2 r1 (SeqAt.canLay_of_shaped se) (SeqAt.canLay_of_shaped sd) (by
    have h2 : min (PyData.depthAll ds) d.depth ≤ d.depth := Nat.min_le_right _ _
    omega) ⟨.bl _, H, I, rfl, q⟩
theorem s_inD : S2 X.K (rInDT X.K) pInD := by
  intro Hd H x y v u Qm Q e hx hy ⟨ds, hy', sx, sy, hdp, h⟩ k
  subst hy'
  exact ⟨_, ds, (hx.look e).dp (SeqAt.canLay_of_shaped sx), (hy.look e).dp (SeqAt.canLay_of_shaped sy), sx, sy, hdp, dat_res (.bl _) h k⟩
theorem m_inD (hu : X.A.units + 64 < cLine) (ha : OD X E a oa) (hb : OD X E b ob) (hm : behindInMarks .In b = false := by rfl) : EV X E (.Compare a [.In] [b] pos) (xOp2 pInD oa ob) := m_cmp (op_inDT hu) s_inD ha hb hm
theorem t_inD (hu : X.A.units + 64 < cLine) (ha : OD X E a oa) (hb : OD X E b ob) (hm : behindInMarks .In b = false := by rfl) : TV X E (.Compare a [.In] [b] pos) (Mx.tB (xOp2 pInD oa ob)) := t_cmp (op_inDT hu) s_inD ha hb hm
theorem s_never {st : Stmt} : SV X E st sFail := ⟨fun pins s σ H D I ⟨_, _, _, _, _, h⟩ => h.elim⟩
theorem depth_ints : ∀ l : List Int, PyData.depthAll (l.map PyData.int) = 0
  | [] => rfl
  | _ :: l => by
    show max 0 (PyData.depthAll (l.map PyData.int)) = 0
    rw [depth_ints l]
    rfl
end
end Mx

-- M39tG
namespace Kx
open PySem PyProof.Rows L2 Mx
variable [TheDeck]
/-! ### gains: moves of single letters -/
theorem idx_mid {A B : List Int} {x : Int} (h : x ∉ A) : (A ++ x :: B).idxOf x = A.length := by
  rw [List.idxOf_append, if_neg h, List.idxOf_cons_self, Nat.zero_add]
theorem erase_mid {A B : List Int} {x : Int} : (A ++ x :: B).eraseIdx A.length = A ++ B := by
  rw [List.eraseIdx_append_of_length_le (Nat.le_refl _), Nat.sub_self]
  rfl
/-- a letter at place p (all of A ahead of it) goes to g: what stands there moves on -/
theorem ask_mid {r A B : List Int} {x : Int} {g : Nat} (h : x ∉ A) (hg : r.getD A.length 0 = (g : Int)) : askL r (A ++ x :: B) x = (A ++ B).take g ++ [x] ++ (A ++ B).drop g := by
  unfold askL
  dsimp only
  rw [idx_mid h, erase_mid, hg, show ((g : Int)).toNat = g by omega]
/-- .. to the end of C -/
theorem ask_to {r C D B : List Int} {x : Int} (h : x ∉ C ++ D) (hg : r.getD (C ++ D).length 0 = (C.length : Int)) : askL r ((C ++ D) ++ x :: B) x = C ++ x :: (D ++ B) := by
  rw [ask_mid h hg, List.append_assoc C D B, List.take_left' rfl, List.drop_left' rfl, List.append_assoc]
  rfl
theorem ask_stay {r A B : List Int} {x : Int} (h : x ∉ A) (hg : r.getD A.length 0 = (A.length : Int)) : askL r (A ++ x :: B) x = A ++ x :: B := by
  have := ask_to (r := r) (C := A) (D := []) (B := B) (x := x) (by rw [List.append_nil]; exact h) (by rw [List.append_nil]; exact hg)
  rw [List.append_nil] at this
  exact this
theorem runL_nil (r o : List Int) : runL r o [] = o := rfl
theorem runL_cons (r o : List Int) (x : Int) (t : List Int) : runL r o (x :: t) = runL r (askL r o x) t := rfl
/-- what a text costs, ask by ask -/
def payL (r : List Int) : List Int → List Int → Int
  | _, [] => 0
  | o, x :: t => (o.idxOf x : Int) + payL r (askL r o x) t
/-- a block turned round, its last letter asked each time -/
theorem turn_block {r P S : List Int} : ∀ (F D : List Int), (P ++ D ++ F ++ S).Nodup → (∀ m, m = P.length + D.length + F.length → 0 < F.length → r.getD (m - 1) 0 = (P.length : Int)) →
    runL r (P ++ D ++ F ++ S) F.reverse = P ++ F ++ D ++ S ∧ payL r (P ++ D ++ F ++ S) F.reverse = F.length * ((P.length : Int) + D.length + F.length - 1) := by
  intro F
  induction hF : F.length generalizing F with
  | zero =>
    intro D nd hr
    have : F = [] := List.eq_nil_of_length_eq_zero hF
    subst this
    refine ⟨by simp [runL_nil], ?_⟩
    show (0 : Int) = _
    simp
  | succ k ih =>
    intro D nd hr
    obtain ⟨F', x, rfl⟩ : ∃ F' x, F = F' ++ [x] := ⟨F.dropLast, F.getLast (by intro z; rw [z] at hF; cases hF), (List.dropLast_concat_getLast _).symm⟩
    have lF : F'.length = k := by
      rw [List.length_append] at hF
      have : F'.length + 1 = k + 1 := hF
      omega
    have hx : x ∉ P ++ (D ++ F') := fun z => by
      have nd2 : ((P ++ (D ++ F')) ++ ([x] ++ S)).Nodup := by
        have e : P ++ D ++ (F' ++ [x]) ++ S = (P ++ (D ++ F')) ++ ([x] ++ S) := by simp [List.append_assoc]
        rw [← e]
        exact nd
      exact (List.nodup_append.mp nd2).2.2 x z x (by simp) rfl
    have hg : r.getD (P ++ (D ++ F')).length 0 = (P.length : Int) := by
      have := hr (P.length + D.length + (k + 1)) rfl (by omega)
      rw [List.length_append, List.length_append, lF]
      rw [show P.length + (D.length + k) = P.length + D.length + (k + 1) - 1 by omega]
      exact this
    have e1 : P ++ D ++ (F' ++ [x]) ++ S = (P ++ (D ++ F')) ++ x :: S := by simp [List.append_assoc]
    have e2 : P ++ x :: ((D ++ F') ++ S) = P ++ (x :: D) ++ F' ++ S := by simp [List.append_assoc]
    have ha : askL r (P ++ D ++ (F' ++ [x]) ++ S) x = P ++ (x :: D) ++ F' ++ S := by
      rw [e1, ask_to hx hg, e2]
    have nd3 : (P ++ (x :: D) ++ F' ++ S).Nodup := by
      refine (List.Perm.nodup_iff ?_).mp nd
      rw [e1, ← e2, List.append_assoc]
      exact List.Perm.append_left P (List.perm_middle)
    obtain ⟨i1, i2⟩ := ih F' lF (x :: D) nd3 (fun m hm hp => by
      have := hr (P.length + D.length + (k + 1)) rfl (by omega)
      rw [hm, List.length_cons]
      rw [show P.length + (D.length + 1) + k - 1 = P.length + D.length + (k + 1) - 1 by omega]
      exact this)
    have er : (F' ++ [x]).reverse = x :: F'.reverse := by simp
    rw [er]
    refine ⟨?_, ?_⟩
    · rw [runL_cons, ha, i1]
      simp [List.append_assoc]
    · show ((P ++ D ++ (F' ++ [x]) ++ S).idxOf x : Int) + payL r (askL r (P ++ D ++ (F' ++ [x]) ++ S) x) F'.reverse = _
      rw [ha, i2, e1, idx_mid hx, List.length_append, List.length_append, List.length_cons, lF]
      have a1 : ((k + 1 : Nat) : Int) = (k : Int) + 1 := by omega
      have a2 : ((P.length + (D.length + k) : Nat) : Int) = (P.length : Int) + D.length + k := by omega
      have a3 : (P.length : Int) + ((D.length + 1 : Nat) : Int) + (k : Int) - 1 = (P.length : Int) + D.length + k := by omega
      have a4 : (P.length : Int) + (D.length : Int) + ((k : Int) + 1) - 1 = (P.length : Int) + D.length + k := by omega
      rw [a1, a2, a3, a4, Int.add_mul, Int.one_mul, Int.add_comm]
/-- each letter asked twice: by the last place to the end of C, from there to the end of P -/
theorem twice_lead {r P B S : List Int} {s : Nat} : ∀ (F D : List Int), (P ++ D ++ B ++ F ++ S).Nodup → P.length + D.length + B.length + F.length = s + 1 → P.length + B.length < s → r.getD s 0 = ((P.length + B.length : Nat) : Int) → (∀ p, P.length ≤ p → p < s → r.getD p 0 = (P.length : Int)) →
    runL r (P ++ D ++ B ++ F ++ S) ((F.reverse.map fun x => [x, x]).flatten) = P ++ F ++ D ++ B ++ S := by
  intro F
  induction hF : F.length generalizing F with
  | zero =>
    intro D _ _ _ _ _
    have : F = [] := List.eq_nil_of_length_eq_zero hF
    subst this
    simp [runL_nil]
  | succ k ih =>
    intro D nd hl hB hs hb
    obtain ⟨F', x, rfl⟩ : ∃ F' x, F = F' ++ [x] := ⟨F.dropLast, F.getLast (by intro z; rw [z] at hF; cases hF), (List.dropLast_concat_getLast _).symm⟩
    have lF : F'.length = k := by
      rw [List.length_append] at hF
      have : F'.length + 1 = k + 1 := hF
      omega
    have e1 : P ++ D ++ B ++ (F' ++ [x]) ++ S = (P ++ D ++ B ++ F') ++ x :: S := by simp [List.append_assoc]
    have hx : x ∉ P ++ D ++ B ++ F' := fun z => by
      rw [e1] at nd
      exact (List.nodup_append.mp nd).2.2 x z x (List.mem_cons_self ..) rfl
    have ll : (P ++ D ++ B ++ F').length = s := by
      simp only [List.length_append]
      omega
    -- the first ask: into the middle, at place |P| + |B|
    generalize hU : P ++ D ++ B ++ F' = U at *
    have hg1 : r.getD U.length 0 = ((P.length + B.length : Nat) : Int) := by rw [ll]; exact hs
    have a1 := ask_mid (r := r) (B := S) hx hg1
    have lt1 : P.length + B.length ≤ (U ++ S).length := by
      rw [List.length_append]
      omega
    have lg : ((U ++ S).take (P.length + B.length)).length = P.length + B.length := by rw [List.length_take]; omega
    have hx2 : x ∉ (U ++ S).take (P.length + B.length) := fun z => by
      have z := List.mem_of_mem_take z
      rcases List.mem_append.mp z with z | z
      · exact hx z
      · rw [e1] at nd
        have := (List.nodup_append.mp nd).2.1
        exact (List.nodup_cons.mp this).1 z
    have hg2 : r.getD ((U ++ S).take (P.length + B.length)).length 0 = (P.length : Int) := by
      rw [lg]
      exact hb _ (by omega) hB
    have a2 := ask_mid (r := r) (B := (U ++ S).drop (P.length + B.length)) hx2 hg2
    rw [List.take_append_drop] at a2
    have fin : askL r (askL r (P ++ D ++ B ++ (F' ++ [x]) ++ S) x) x = P ++ (x :: D) ++ B ++ F' ++ S := by
      rw [e1, a1]
      have : (U ++ S).take (P.length + B.length) ++ [x] ++ (U ++ S).drop (P.length + B.length) = (U ++ S).take (P.length + B.length) ++ x :: (U ++ S).drop (P.length + B.length) := by simp
      rw [this, a2, ← hU]
      have eA : P ++ D ++ B ++ F' ++ S = P ++ (D ++ B ++ F' ++ S) := by simp [List.append_assoc]
      rw [eA, List.take_left' rfl, List.drop_left' rfl]
      simp [List.append_assoc]
    have er : ((F' ++ [x]).reverse.map fun x => [x, x]).flatten = x :: x :: (F'.reverse.map fun x => [x, x]).flatten := by simp
    rw [er, runL_cons, runL_cons, fin]
    have nd3 : (P ++ (x :: D) ++ B ++ F' ++ S).Nodup := by
      refine (List.Perm.nodup_iff ?_).mp nd
      rw [e1, ← hU]
      have eA : P ++ (x :: D) ++ B ++ F' ++ S = P ++ x :: (D ++ B ++ F' ++ S) := by simp [List.append_assoc]
      have eB : P ++ D ++ B ++ F' ++ x :: S = (P ++ (D ++ B ++ F')) ++ x :: S := by simp [List.append_assoc]
      rw [eA, eB]
      refine List.perm_middle.trans ?_
      refine List.Perm.trans ?_ List.perm_middle.symm
      simp [List.append_assoc]
    rw [ih F' lF (x :: D) nd3 (by rw [List.length_cons]; omega) hB hs hb]
    simp [List.append_assoc]
theorem split_at {n : Nat} {o : List Int} {x : Int} (ho : POrd n o) (hx : x ∈ o) : ∃ A B, o = A ++ x :: B ∧ A.length = o.idxOf x ∧ x ∉ A ∧ x ∉ B := by
  have hi := List.idxOf_lt_length_of_mem hx
  have e : o = o.take (o.idxOf x) ++ x :: o.drop (o.idxOf x + 1) := by
    conv => lhs; rw [← List.take_append_drop (o.idxOf x) o, List.drop_eq_getElem_cons hi, List.getElem_idxOf hi]
  have nd := ho.nd
  rw [e] at nd
  refine ⟨_, _, e, by rw [List.length_take]; omega, fun z => (List.nodup_append.mp nd).2.2 x z x (List.mem_cons_self ..) rfl, (List.nodup_cons.mp (List.nodup_append.mp nd).2.1).1⟩
theorem ask_idx {n : Nat} {r o : List Int} {x : Int} {g : Nat} (ho : POrd n o) (hx : x ∈ o) (hg : r.getD (o.idxOf x) 0 = (g : Int)) (hl : g ≤ o.idxOf x) : (askL r o x).idxOf x = g := by
  obtain ⟨A, B, e, lA, hA, hB⟩ := split_at ho hx
  rw [← lA] at hg hl
  have a := ask_mid (B := B) hA hg
  rw [e, a]
  have h2 : x ∉ (A ++ B).take g := fun z => (List.mem_append.mp (List.mem_of_mem_take z)).elim hA hB
  rw [List.append_assoc]
  show ((A ++ B).take g ++ x :: (A ++ B).drop g).idxOf x = g
  rw [idx_mid h2, List.length_take, List.length_append]
  omega
/-- another letter, from behind x to ahead of it -/
theorem ask_push {n : Nat} {r o : List Int} {x y : Int} {g : Nat} (ho : POrd n o) (hx : x ∈ o) (hy : y ∈ o) (h : o.idxOf x < o.idxOf y) (hg : r.getD (o.idxOf y) 0 = (g : Int)) (hl : g ≤ o.idxOf x) : (askL r o y).idxOf x = o.idxOf x + 1 := by
  have ne : x ≠ y := fun z => by rw [z] at h; omega
  obtain ⟨A, B, e, lA, hA, hB⟩ := split_at ho hy
  rw [← lA] at hg h
  have a := ask_mid (B := B) hA hg
  have hxA : x ∈ A := by
    rw [e, List.idxOf_append] at h
    by_cases z : x ∈ A
    · exact z
    · rw [if_neg z] at h
      omega
  have ix : o.idxOf x = A.idxOf x := by rw [e, List.idxOf_append, if_pos hxA]
  rw [ix] at hl ⊢
  have hiA := List.idxOf_lt_length_of_mem hxA
  rw [e, a]
  have h2 : x ∉ (A ++ B).take g := fun z => by
    have z' : x ∈ A.take g := by
      rw [List.take_append_of_le_length (by omega)] at z
      exact z
    have e2 : A.idxOf x = (A.take g).idxOf x := by
      conv => lhs; rw [← List.take_append_drop g A, List.idxOf_append, if_pos z']
    have := List.idxOf_lt_length_of_mem z'
    rw [List.length_take] at this
    omega
  have ha : (A ++ B).drop g = A.drop g ++ B := List.drop_append_of_le_length (by omega)
  have i3 : ((A ++ B).drop g).idxOf x = A.idxOf x - g := by
    have e2 : A = A.take g ++ A.drop g := (List.take_append_drop g A).symm
    have h3 : x ∉ A.take g := fun z => h2 (by rw [List.take_append_of_le_length (by omega)]; exact z)
    have h4 : A.idxOf x = (A.drop g).idxOf x + (A.take g).length := by
      conv => lhs; rw [e2, List.idxOf_append, if_neg h3]
    have hxd : x ∈ A.drop g := by
      rw [e2] at hxA
      exact (List.mem_append.mp hxA).elim (fun z => absurd z h3) id
    rw [ha, List.idxOf_append, if_pos hxd, h4, List.length_take]
    omega
  have lt : ((A ++ B).take g).length = g := by rw [List.length_take, List.length_append]; omega
  rw [List.append_assoc, List.idxOf_append, if_neg h2, List.idxOf_append, if_neg (by simpa using ne), i3, lt]
  show A.idxOf x - g + 1 + g = _
  omega
/-- the letter behind is asked until x stands at f -/
def farL (r : List Int) (f : Nat) : Nat → List Int → List Int × List Int
  | 0, o => ([], o)
  | k + 1, o => let p := farL r f k o; (p.1 ++ [p.2.getD f 0], askL r p.2 (p.2.getD f 0))
theorem far_ok {n : Nat} {r o : List Int} {x : Int} {s f c : Nat} (ho : POrd n o) (hx : x ∈ o) (hs : o.idxOf x = s) (hf : f < n) (hc : r.getD f 0 = (c : Int)) (hcs : c < s) : ∀ k, s + k ≤ f →
    POrd n (farL r f k o).2 ∧ (farL r f k o).2.idxOf x = s + k ∧ (farL r f k o).2 = runL r o (farL r f k o).1 ∧ (farL r f k o).1.length = k ∧ PText n (farL r f k o).1
  | 0, _ => ⟨ho, hs, rfl, rfl, fun l hl => by cases hl⟩
  | k + 1, h => by
    obtain ⟨h1, h2, h3, h4, h5⟩ := far_ok ho hx hs hf hc hcs k (by omega)
    generalize hp : farL r f k o = p at *
    have hl := h1.len
    have hfl : f < p.2.length := by omega
    have ey : p.2.getD f 0 = p.2[f] := by rw [List.getD_eq_getElem?_getD, List.getElem?_eq_getElem hfl]; rfl
    have hy : p.2.getD f 0 ∈ p.2 := by rw [ey]; exact List.getElem_mem hfl
    have iy : p.2.idxOf (p.2.getD f 0) = f := by
      rw [ey]
      exact h1.nd.idxOf_getElem f hfl
    have hm := h1.mem _ hy
    have hx2 : x ∈ p.2 := h1.has (ho.mem x hx).1 (ho.mem x hx).2
    have e : farL r f (k + 1) o = (p.1 ++ [p.2.getD f 0], askL r p.2 (p.2.getD f 0)) := by
      show (let p := farL r f k o; (p.1 ++ [p.2.getD f 0], askL r p.2 (p.2.getD f 0))) = _
      rw [hp]
    rw [e]
    dsimp only
    refine ⟨h1.ask hm, ?_, ?_, ?_, ?_⟩
    · rw [ask_push h1 hx2 hy (by omega) (by rw [iy]; exact hc) (by omega), h2]
      omega
    · rw [runL_app, ← h3]
      rfl
    · rw [List.length_append, h4]
      rfl
    · exact h5.app fun l hl => by rw [List.mem_singleton.mp hl]; exact hm
/-- the second kind of gain -/
theorem gain_far {n : Nat} {r o : List Int} {x : Int} {s f c b : Nat} (ho : POrd n o) (hx : x ∈ o) (hs : o.idxOf x = s) (hf : f < n) (hsf : s < f) (hc : r.getD f 0 = (c : Int)) (hcs : c < s) (hbc : b ≤ c) (hb : ∀ p, b ≤ p → p < s → r.getD p 0 = (b : Int)) (hss : r.getD s 0 = (s : Int)) :
    askL r o x = o ∧ (runL r o ((farL r f (f - s) o).1 ++ [x, x])).idxOf x = b ∧ askL r (runL r o ((farL r f (f - s) o).1 ++ [x, x])) x = runL r o ((farL r f (f - s) o).1 ++ [x, x]) := by
  obtain ⟨h1, h2, h3, h4, h5⟩ := far_ok ho hx hs hf hc hcs (f - s) (by omega)
  have hm := ho.mem x hx
  have st : ∀ {o' : List Int}, POrd n o' → r.getD (o'.idxOf x) 0 = (o'.idxOf x : Int) → askL r o' x = o' := fun {o'} h' hg => by
    obtain ⟨A, B, e, lA, hA, hB⟩ := split_at h' (h'.has hm.1 hm.2)
    rw [← lA] at hg
    rw [e]
    exact ask_stay hA hg
  have hx1 : x ∈ (farL r f (f - s) o).2 := h1.has hm.1 hm.2
  rw [runL_app, ← h3]
  generalize (farL r f (f - s) o).2 = w at *
  have i1 : (askL r w x).idxOf x = c := ask_idx h1 hx1 (by rw [h2, show s + (f - s) = f by omega]; exact hc) (by omega)
  have h6 := h1.ask (r := r) hm
  have hx2 : x ∈ askL r w x := h6.has hm.1 hm.2
  have i2 : (askL r (askL r w x) x).idxOf x = b := ask_idx h6 hx2 (by rw [i1]; exact hb c hbc hcs) (by omega)
  have h7 := h6.ask (r := r) hm
  refine ⟨st ho (by rw [hs]; exact hss), i2, st h7 ?_⟩
  rw [show runL r w [x, x] = askL r (askL r w x) x from rfl, i2]
  exact hb b (Nat.le_refl _) (by omega)
end Kx

-- M39aG
namespace Kx
open PySem PyProof.Rows L2 Mx
variable [TheDeck]
/-! ### judges of values of all kinds -/
def withinD (d : D) (l u : Int) : Bool := match d with | .int i => decide (l ≤ i ∧ i ≤ u) | _ => false
def isNumD (d : D) : Bool := match d with | .int _ => true | _ => false
def lettersD (n : Nat) (xs : List D) : Bool := xs.all fun d => withinD d 0 ((n : Int) - 1)
def intD (d : D) : Int := match d with | .int i => i | _ => 0
def letD (d : D) : List Int := match d with | .tuple xs => xs.map intD | _ => []
def ordB (n : Nat) (d : D) : Bool := match d with
  | .tuple xs => decide (xs.length = n) && lettersD n xs && decide ((xs.map intD).Nodup)
  | _ => false
theorem letters_ints {n : Nat} : ∀ {xs : List D}, lettersD n xs = true → ∃ t : List Int, xs = t.map PyData.int ∧ PText n t ∧ xs.map intD = t
  | [], _ => ⟨[], rfl, fun x hx => (by cases hx), rfl⟩
  | d :: xs, h => by
    unfold lettersD at h
    rw [List.all_cons, Bool.and_eq_true] at h
    obtain ⟨t, e, ht, hm⟩ := letters_ints (n := n) (xs := xs) h.2
    have h1 := h.1
    cases d with
    | int i =>
      have hi : 0 ≤ i ∧ i ≤ (n : Int) - 1 := of_decide_eq_true h1
      refine ⟨i :: t, by rw [e]; rfl, fun x hx => ?_, by rw [List.map_cons, hm]; rfl⟩
      rcases List.mem_cons.mp hx with rfl | hx
      · omega
      · exact ht x hx
    | _ => cases h1
theorem ints_letters {n : Nat} : ∀ {t : List Int}, PText n t → lettersD n (t.map PyData.int) = true
  | [], _ => rfl
  | x :: t, h => by
    have ih := ints_letters (n := n) (t := t) fun y hy => h y (List.mem_cons_of_mem _ hy)
    have hx := h x (List.mem_cons_self ..)
    unfold lettersD at ih ⊢
    rw [List.map_cons, List.all_cons, ih, Bool.and_true]
    exact decide_eq_true (by omega)
theorem ints_intD (t : List Int) : (t.map PyData.int).map intD = t := by
  rw [List.map_map]
  exact List.map_id'' (fun x => rfl) t
theorem iR_nd (n : Nat) : (iR n).Nodup := by
  unfold iR
  rw [List.Nodup, List.pairwise_map]
  exact List.Pairwise.imp (fun {a b} z e => z (by omega)) (List.nodup_range (n := n))
theorem ord_of3 {n : Nat} {t : List Int} (hl : t.length = n) (ht : PText n t) (nd : t.Nodup) : POrd n t := by
  refine perm_ord ((List.perm_ext_iff_of_nodup nd (iR_nd n)).mpr fun x => ⟨fun h => mem_iR.mpr (ht x h), fun h => ?_⟩)
  exact all_in t (iR n) nd (fun x hx => mem_iR.mpr (ht x hx)) (by rw [hl, iR_length]) x h
theorem ordB_of {n : Nat} {t : List Int} (h : POrd n t) : ordB n (dT t) = true := by
  show (decide ((t.map PyData.int).length = n) && lettersD n (t.map PyData.int) && decide (((t.map PyData.int).map intD).Nodup)) = true
  rw [List.length_map, ints_letters h.mem, ints_intD, decide_eq_true h.len, decide_eq_true h.nd]
  rfl
theorem ordB_to {n : Nat} {d : D} (h : ordB n d = true) : ∃ t, d = dT t ∧ POrd n t ∧ letD d = t := by
  cases d with
  | tuple xs =>
    have h' : (decide (xs.length = n) && lettersD n xs && decide ((xs.map intD).Nodup)) = true := h
    rw [Bool.and_eq_true, Bool.and_eq_true] at h'
    obtain ⟨⟨h1, h2⟩, h3⟩ := h'
    obtain ⟨t, rfl, ht, e⟩ := letters_ints h2
    rw [e] at h3
    have h1 := of_decide_eq_true h1
    rw [List.length_map] at h1
    exact ⟨t, rfl, ord_of3 h1 ht (of_decide_eq_true h3), e⟩
  | _ => cases h
theorem let_dT (t : List Int) : letD (dT t) = t := ints_intD t
theorem letters_bad {n i : Nat} {xs : List D} {d : D} (h : xs[i]? = some d) (c : withinD d 0 ((n : Int) - 1) = false) : lettersD n xs = false := by
  unfold lettersD
  rw [List.all_eq_false]
  exact ⟨d, List.mem_of_getElem? h, by rw [c]; decide⟩
theorem letters_all {n : Nat} {xs : List D} (h : ∀ d ∈ xs, withinD d 0 ((n : Int) - 1) = true) : lettersD n xs = true := List.all_eq_true.mpr h
theorem not_ahead {n : Nat} {t : List Int} {i : Nat} {x : Int} (ht : POrd n t) (hx : t[i]? = some x) : x ∉ t.take i := fun h => by
  obtain ⟨hil, hxi⟩ := List.getElem?_eq_some_iff.mp hx
  obtain ⟨j, hj, e⟩ := List.mem_take_iff_getElem.mp h
  have := (List.getElem_inj ht.nd (h₁ := hil) (h₀ := by omega)).mp (e.trans hxi.symm)
  omega
theorem mem_take_succ {α : Type} {xs : List α} {i : Nat} {d x : α} (h : xs[i]? = some d) (hx : x ∈ xs.take (i + 1)) : x ∈ xs.take i ∨ x = d := by
  rw [List.take_succ, h] at hx
  rcases List.mem_append.mp hx with h | h
  · exact .inl h
  · exact .inr (by simpa using h)
theorem ordB_dT {n : Nat} {t : List Int} (h : ordB n (dT t) = true) : POrd n t := by
  obtain ⟨t', e, h1, h2⟩ := ordB_to h
  rw [let_dT] at h2
  rw [h2]
  exact h1
theorem any_in {r : List Int} {l : Int} : ((r.map PyData.int).any fun z => PyData.eqv z (.int l)) = decide (l ∈ r) := by rw [Bool.eq_iff_iff, any_T, decide_eq_true_iff]
def sp_is_number : Mx.Spec := spF (α := D) (fun a => [.d a]) (fun _ => True) (fun a m => m = .d (.bool (isNumD a)))
def sp_is_within : Mx.Spec := spF (α := D × Int × Int) (fun a => [.d a.1, .d (.int a.2.1), .d (.int a.2.2)]) (fun _ => True) (fun a m => m = .d (.bool (withinD a.1 a.2.1 a.2.2)))
def sp__stranger : Mx.Spec := spF (α := Nat × List D) (fun a => [.d (.int a.1), .d (.tuple a.2)]) (fun _ => True) (fun a m => (lettersD a.1 a.2 = true ∧ m = .d .none) ∨ (lettersD a.1 a.2 = false ∧ ∃ p : Nat, m = .d (.int p)))
def sp_order_error : Mx.Spec := spF (α := Nat × D) (fun a => [.d (.int a.1), .d a.2]) (fun a => a.1 ≤ 12) (fun a m => (ordB a.1 a.2 = true ∧ m = .d .none) ∨ (ordB a.1 a.2 = false ∧ ∃ x, m = .d x ∧ isNoneD x = false))
theorem pay_sum (r : List Int) : ∀ (t o : List Int), payL r o t = (plL r o t).sum
  | [], _ => rfl
  | x :: t, o => by
    show (o.idxOf x : Int) + payL r (askL r o x) t = ((o.idxOf x : Int) :: plL r (askL r o x) t).sum
    rw [pay_sum r t, List.sum_cons]
def textB (n m : Nat) (d : D) : Bool := match d with
  | .tuple xs => decide (xs.length ≤ m) && lettersD n xs
  | _ => false
theorem textB_to {n m : Nat} {d : D} (h : textB n m d = true) : ∃ t, d = dT t ∧ PText n t ∧ t.length ≤ m ∧ letD d = t := by
  cases d with
  | tuple xs =>
    have h' : (decide (xs.length ≤ m) && lettersD n xs) = true := h
    rw [Bool.and_eq_true] at h'
    obtain ⟨t, rfl, ht, e⟩ := letters_ints h'.2
    have h1 := of_decide_eq_true h'.1
    rw [List.length_map] at h1
    exact ⟨t, rfl, ht, h1, e⟩
  | _ => cases h
theorem textB_of {n m : Nat} {t : List Int} (h : PText n t) (hl : t.length ≤ m) : textB n m (dT t) = true := by
  show (decide ((t.map PyData.int).length ≤ m) && lettersD n (t.map PyData.int)) = true
  rw [List.length_map, ints_letters h, decide_eq_true hl]
  rfl
/-- what keeps three things from being a gain, when they are an order and texts -/
def backD (r o l t : List Int) : D :=
  if runL r o t ≠ o ∨ runL r (runL r o l) t ≠ runL r o l then .str "back" else if payL r o t ≤ payL r (runL r o l) t then .str "cost" else .none
def threeD (n : Nat) (r : List Int) (a b c : D) : D :=
  if ordB n a = false then .str "order" else if textB n 400 b = false then .str "lead" else if textB n n c = false ∨ letD c = [] then .str "text" else backD r (letD a) (letD b) (letD c)
def gainD (n : Nat) (r : List Int) (d : D) : D := match d with
  | .tuple [a, b, c] => threeD n r a b c
  | _ => .str "form"
def sp_text_error : Mx.Spec := spF (α := Nat × D) (fun a => [.d (.int a.1), .d a.2]) (fun _ => True) (fun a m => (textB a.1 400 a.2 = true ∧ m = .d .none) ∨ (textB a.1 400 a.2 = false ∧ ∃ x, m = .d x ∧ isNoneD x = false))
def sp_gains_error : Mx.Spec := spF (α := (List Int × D) × Nat) (fun a => [.d (dT a.1.1), .d a.1.2]) (fun a => PRule a.2 a.1.1 ∧ 1 ≤ a.2 ∧ a.2 ≤ 12) (fun a m => m = .d (gainD a.2 a.1.1 a.1.2))
def W_is_number : Stm := sRet (xAnd (xOp1 (pIsi "int") (odS 0)) (xNot (xOp1 (pIsi "bool") (odS 0))))
def W_is_within : Stm := sRet (xAnd (xCall sp_is_number (aCons (xVar 0) (aNil))) (xCh (fun i j => decide (i ≤ j)) (fun i j => decide (i ≤ j)) (odS 1) (odS 0) (odS 2)))
def W__stranger_b1 : Stm := sIf (tNot (tB (xCall sp_is_within (aCons (xVar 3) (aCons (xInt 0) (aCons (xOp2 pSub (odS 0) (odE (xInt 1))) (aNil))))))) (sRetS 2) (sSkip)
def W__stranger : Stm := sSeq (sFor (iEnum (aCons (xVar 1) (aNil))) (gTup (gCons (gName 2) (gCons (gName 3) (gNil)))) W__stranger_b1) (sRet (xNone))
def W_order_error_b1 : Stm := sIf (tB (xOp2 (pIn false) (odS 4) (odE (xSl (odS 1) (bNone) (bSome (xVar 3)))))) (sRet (xTup (aCons (xStr "twice") (aCons (xVar 3) (aNil))))) (sSkip)
def W_order_error : Stm := sSeq (sIf (tOr (tNot (tB (xOp1 (pIsi "tuple") (odS 1)))) (tB (xOp2 pNe (odE (xOp1 pLen (odS 1))) (odS 0)))) (sRet (xStr "form")) (sSkip)) (sSeq (sSet 2 (xCall sp__stranger (aCons (xVar 0) (aCons (xVar 1) (aNil))))) (sSeq (sIf (tB (xOp2 pNotN (odS 2) (odE (xNone)))) (sRet (xTup (aCons (xStr "letter") (aCons (xVar 2) (aNil))))) (sSkip)) (sSeq (sFor (iEnum (aCons (xVar 1) (aNil))) (gTup (gCons (gName 3) (gCons (gName 4) (gNil)))) W_order_error_b1) (sRet (xNone)))))
def W_text_error : Stm := sSeq (sIf (tOr (tNot (tB (xOp1 (pIsi "tuple") (odS 1)))) (tB (xOp2 pGt (odE (xOp1 pLen (odS 1))) (odE (xC (.int 400)))))) (sRet (xStr "form")) (sSkip)) (sSeq (sSet 2 (xCall sp__stranger (aCons (xVar 0) (aCons (xVar 1) (aNil))))) (sSeq (sIf (tB (xOp2 pNotN (odS 2) (odE (xNone)))) (sRet (xTup (aCons (xStr "letter") (aCons (xVar 2) (aNil))))) (sSkip)) (sRet (xNone))))
def W_ge2 : Stm := (sSeq (sSet 6 (xCall sp_run (aCons (xVar 0) (aCons (xVar 3) (aCons (xVar 4) (aNil)))))) (sSeq (sIf (tOr (tB (xOp2 pNe (odE (xCall sp_run (aCons (xVar 0) (aCons (xVar 3) (aCons (xVar 5) (aNil)))))) (odS 3))) (tB (xOp2 pNe (odE (xCall sp_run (aCons (xVar 0) (aCons (xVar 6) (aCons (xVar 5) (aNil)))))) (odS 6)))) (sRet (xStr "back")) (sSkip)) (sSeq (sIf (tB (xOp2 pLe (odE (xCall sp_cost (aCons (xVar 0) (aCons (xVar 3) (aCons (xVar 5) (aNil)))))) (odE (xCall sp_cost (aCons (xVar 0) (aCons (xVar 6) (aCons (xVar 5) (aNil)))))))) (sRet (xStr "cost")) (sSkip)) (sRet (xNone)))))
def W_gains_error : Stm := sSeq (sSet 2 (xOp1 pLen (odS 0))) (sSeq (sIf (tOr (tNot (tB (xOp1 (pIsi "tuple") (odS 1)))) (tB (xOp2 pNe (odE (xOp1 pLen (odS 1))) (odE (xInt 3))))) (sRet (xStr "form")) (sSkip)) (sSeq (sAsg (xVar 1) (gTup (gCons (gName 3) (gCons (gName 4) (gCons (gName 5) (gNil)))))) (sSeq (sIf (tB (xOp2 pNotN (odE (xCall sp_order_error (aCons (xVar 2) (aCons (xVar 3) (aNil))))) (odE (xNone)))) (sRet (xStr "order")) (sSkip)) (sSeq (sIf (tB (xOp2 pNotN (odE (xCall sp_text_error (aCons (xVar 2) (aCons (xVar 4) (aNil))))) (odE (xNone)))) (sRet (xStr "lead")) (sSkip)) (sSeq (sIf (tOr (tB (xOp2 pNotN (odE (xCall sp_text_error (aCons (xVar 2) (aCons (xVar 5) (aNil))))) (odE (xNone)))) (tNot (tB (xCh (fun i j => decide (i ≤ j)) (fun i j => decide (i ≤ j)) (odE (xInt 1)) (odE (xOp1 pLen (odS 5))) (odS 2))))) (sRet (xStr "text")) (sSkip)) W_ge2)))))
theorem h_is_number (Z : XP) (ms : List MV) (Q : MV → Prop) (q : sp_is_number.run Z ms Q) : W_is_number.run Z (entry 1 ms) { nx := fun _ => Q (.d .none), rt := Q } := by
  obtain ⟨d, rfl, _, q⟩ := q
  have q := q _ rfl
  cases d
  all_goals
    walk_at "mx"
    exact q
theorem h_is_within (Z : XP) (ms : List MV) (Q : MV → Prop) (q : sp_is_within.run Z ms Q) : W_is_within.run Z (entry 3 ms) { nx := fun _ => Q (.d .none), rt := Q } := by
  obtain ⟨⟨d, l, u⟩, rfl, _, q⟩ := q
  have q : Q (.d (.bool (withinD d l u))) := q _ rfl
  cases d with
  | int i =>
    walk_at "mx"
    refine ⟨.int i, rfl, trivial, ?_⟩
    rintro m rfl
    refine ⟨true, rfl, ite_t rfl ?_⟩
    walk_at "mx"
    refine ⟨l, i, rfl, rfl, ?_⟩
    refine ite_d (fun c => ?_) (fun c => ?_)
    · walk_at "mx"
      rw [show decide (i ≤ u) = withinD (.int i) l u by unfold withinD; dsimp only; rw [Bool.eq_iff_iff]; simp [c]]
      exact q
    · refine ⟨MVd_ne, ?_⟩
      rw [show false = withinD (.int i) l u by unfold withinD; dsimp only; rw [Bool.eq_iff_iff]; simp; omega]
      exact q
  | _ =>
    walk_at "mx"
    refine ⟨_, rfl, trivial, ?_⟩
    rintro m rfl
    refine ⟨false, rfl, ite_f (by decide) ?_⟩
    exact ⟨MVd_ne, q⟩
theorem h_stranger (Z : XP) (ms : List MV) (Q : MV → Prop) (q : sp__stranger.run Z ms Q) : W__stranger.run Z (entry 4 ms) { nx := fun _ => Q (.d .none), rt := Q } := by
  obtain ⟨⟨n, xs⟩, rfl, _, q⟩ := q
  have qa : lettersD n xs = true → Q (.d .none) := fun h => q _ (.inl ⟨h, rfl⟩)
  have qb : lettersD n xs = false → ∀ p : Nat, Q (.d (.int p)) := fun h p => q _ (.inr ⟨h, p, rfl⟩)
  walk_at "mx"
  refine ⟨_, _, rfl, rfl, ?_⟩
  refine ⟨fun i e => (∀ d ∈ xs.take i, withinD d 0 ((n : Int) - 1) = true) ∧ ∃ (x2 x3 : Option MV), e = [some (.d (.int n)), some (.d (.tuple xs)), x2, x3], ⟨fun d hd => (by cases hd), _, _, rfl⟩, ?_, ?_⟩
  · rintro i w e hi ⟨ih, x2, x3, rfl⟩
    obtain ⟨y, hy, rfl⟩ := enumL_get hi
    walk_at "mx"
    refine ⟨(y, 0, (n : Int) - 1), rfl, trivial, ?_⟩
    rintro m rfl
    dsimp only
    cases c : withinD y 0 ((n : Int) - 1) with
    | true =>
      walk_at "mx"
      exact ⟨fun d hd => (mem_take_succ hy hd).elim (ih d) (fun z => z ▸ c), _, _, rfl⟩
    | false =>
      walk_at "mx"
      exact qb (letters_bad hy c) i
  · rintro e ⟨ih, x2, x3, rfl⟩
    rw [enumL_length, List.take_length] at ih
    walk_at "mx"
    exact qa (letters_all ih)
theorem h_order_error (Z : XP) (ms : List MV) (Q : MV → Prop) (q : sp_order_error.run Z ms Q) : W_order_error.run Z (entry 5 ms) { nx := fun _ => Q (.d .none), rt := Q } := by
  obtain ⟨⟨n, d⟩, rfl, hn, q⟩ := q
  have hn : n ≤ 12 := hn
  have qa : ordB n d = true → Q (.d .none) := fun h => q _ (.inl ⟨h, rfl⟩)
  have qb : ordB n d = false → ∀ x, isNoneD x = false → Q (.d x) := fun h x hx => q _ (.inr ⟨h, x, rfl, hx⟩)
  clear q
  cases d with
  | tuple xs =>
    walk_at "mx"
    rw [eqv_int]
    by_cases hl : xs.length = n
    · rw [hl, beq_self_eq_true]
      walk_at "mx"
      refine ⟨(n, xs), rfl, trivial, ?_⟩
      rintro m (⟨c, rfl⟩ | ⟨c, p, rfl⟩)
      · obtain ⟨t, rfl, ht, -⟩ := letters_ints c
        rw [List.length_map] at hl
        walk_at "mx"
        refine ⟨rfl, ?_⟩
        walk_at "mx"
        refine ⟨_, _, rfl, rfl, ?_⟩
        refine ⟨fun i e => (t.take i).Nodup ∧ ∃ (x3 x4 : Option MV), e = [some (.d (.int n)), some (.d (dT t)), some (.d .none), x3, x4], ⟨List.nodup_nil, _, _, rfl⟩, ?_, ?_⟩
        · rintro i w e hi ⟨ih, x3, x4, rfl⟩
          obtain ⟨y, hy, rfl⟩ := enumL_get hi
          obtain ⟨x, hx, rfl⟩ := dT_get hy
          have c1 : Mx.cutD (t.map PyData.int) none (some (i : Int)) = (t.take i).map PyData.int := by rw [cutD_map, cutD_to]
          have la : (t.take i).length ≤ 100 := by rw [List.length_take]; omega
          walk_at "mx"
          rw [c1]
          walk_at "mx"
          rw [any_in]
          by_cases hxx : x ∈ t.take i
          · rw [decide_eq_true hxx]
            walk_at "mx"
            refine qb (Bool.eq_false_iff.mpr fun h => not_ahead (ordB_dT h) hx hxx) _ rfl
          · rw [decide_eq_false hxx]
            refine ite_f (by decide) ?_
            walk_at "mx"
            refine ⟨?_, _, _, rfl⟩
            rw [List.take_succ, hx]
            refine List.nodup_append.mpr ⟨ih, (by simp), fun a ha b hb e => ?_⟩
            subst e
            rw [List.mem_singleton.mp hb] at ha
            exact hxx ha
        · rintro e ⟨ih, x3, x4, rfl⟩
          rw [enumL_length, List.length_map, List.take_length] at ih
          walk_at "mx"
          exact qa (ordB_of (ord_of3 hl ht ih))
      · walk_at "mx"
        refine ⟨rfl, ?_⟩
        walk_at "mx"
        refine qb ?_ _ rfl
        show (decide (xs.length = n) && lettersD n xs && _) = false
        rw [c, Bool.and_false]
        rfl
    · rw [show ((xs.length : Int) == (n : Int)) = false from beq_eq_false_iff_ne.mpr (by omega)]
      walk_at "mx"
      refine qb ?_ _ rfl
      show (decide (xs.length = n) && lettersD n xs && _) = false
      rw [decide_eq_false hl]
      rfl
  | _ =>
    walk_at "mx"
    exact qb rfl _ rfl
theorem h_text_error (Z : XP) (ms : List MV) (Q : MV → Prop) (q : sp_text_error.run Z ms Q) : W_text_error.run Z (entry 3 ms) { nx := fun _ => Q (.d .none), rt := Q } := by
  obtain ⟨⟨n, d⟩, rfl, _, q⟩ := q
  have qa : textB n 400 d = true → Q (.d .none) := fun h => q _ (.inl ⟨h, rfl⟩)
  have qb : textB n 400 d = false → ∀ x, isNoneD x = false → Q (.d x) := fun h x hx => q _ (.inr ⟨h, x, rfl, hx⟩)
  clear q
  cases d with
  | tuple xs =>
    walk_at "mx"
    by_cases hl : xs.length ≤ 400
    · rw [decide_eq_false (show ¬ (400 : Int) < (xs.length : Int) by omega)]
      walk_at "mx"
      refine ⟨(n, xs), rfl, trivial, ?_⟩
      rintro m (⟨c, rfl⟩ | ⟨c, p, rfl⟩)
      · walk_at "mx"
        refine ⟨rfl, ?_⟩
        walk_at "mx"
        refine qa ?_
        show (decide (xs.length ≤ 400) && lettersD n xs) = true
        rw [c, decide_eq_true hl]
        rfl
      · walk_at "mx"
        refine ⟨rfl, ?_⟩
        walk_at "mx"
        refine qb ?_ _ rfl
        show (decide (xs.length ≤ 400) && lettersD n xs) = false
        rw [c, Bool.and_false]
    · rw [decide_eq_true (show (400 : Int) < (xs.length : Int) by omega)]
      walk_at "mx"
      refine qb ?_ _ rfl
      show (decide (xs.length ≤ 400) && lettersD n xs) = false
      rw [decide_eq_false hl]
      rfl
  | _ =>
    walk_at "mx"
    exact qb rfl _ rfl
theorem ne_T2 {a b : List Int} {Q : MV → Prop} (q : Q (.d (.bool (decide (a ≠ b))))) : pNe.run (dT a) (dT b) Q := by
  refine ⟨⟨shaped_T a, shaped_T b⟩, ?_⟩
  rw [eqv_T, show (!(a == b)) = decide (a ≠ b) by rw [Bool.eq_iff_iff]; simp]
  exact q
theorem h_ge2 {Z : XP} {n : Nat} {r o l t : List Int} {x1 x6 : Option MV} {O : Out} (hr : PRule n r) (hn : n ≤ 12) (ho : POrd n o) (hl : PText n l) (ht : PText n t) (ll : l.length ≤ 400) (lt : t.length ≤ n) (q : O.rt (.d (backD r o l t))) :
    W_ge2.run Z [some (.d (dT r)), x1, some (.d (.int n)), some (.d (dT o)), some (.d (dT l)), some (.d (dT t)), x6] O := by
  have h1 : POrd n (runL r o l) := ho.run hl
  have n1 : n ≤ 1000 := by omega
  unfold backD at q
  rw [pay_sum, pay_sum] at q
  walk_at "mx"
  refine ⟨((r, o, l), n), rfl, ⟨hr, ho, hl, n1⟩, ?_⟩
  rintro m rfl
  dsimp only
  generalize runL r o l = w at *
  walk_at "mx"
  refine ⟨((r, o, t), n), rfl, ⟨hr, ho, ht, n1⟩, ?_⟩
  rintro m rfl
  dsimp only
  walk_at "mx"
  refine ne_T2 ?_
  refine ⟨_, rfl, ?_⟩
  by_cases c1 : runL r o t = o
  · rw [decide_eq_false (by simpa using c1)]
    refine ite_f (by decide) ?_
    walk_at "mx"
    refine ⟨((r, w, t), n), rfl, ⟨hr, h1, ht, n1⟩, ?_⟩
    rintro m rfl
    dsimp only
    walk_at "mx"
    refine ne_T2 ?_
    refine ⟨_, rfl, ?_⟩
    by_cases c2 : runL r w t = w
    · rw [decide_eq_false (by simpa using c2)]
      rw [if_neg (by simp [c1, c2])] at q
      refine ite_f (by decide) ?_
      walk_at "mx"
      refine ⟨((r, o, t), n), rfl, ⟨⟨hr, ho, ht, n1⟩, by show t.length ≤ 100000; omega⟩, ?_⟩
      rintro m rfl
      dsimp only
      walk_at "mx"
      refine ⟨((r, w, t), n), rfl, ⟨⟨hr, h1, ht, n1⟩, by show t.length ≤ 100000; omega⟩, ?_⟩
      rintro m rfl
      dsimp only
      walk_at "mx"
      by_cases c3 : (plL r o t).sum ≤ (plL r w t).sum
      · rw [if_pos c3] at q
        rw [decide_eq_true c3]
        walk_at "mx"
        exact q
      · rw [if_neg c3] at q
        rw [decide_eq_false c3]
        walk_at "mx"
        exact q
    · rw [decide_eq_true (show runL r w t ≠ w from c2)]
      rw [if_pos (.inr c2)] at q
      refine ite_t rfl ?_
      walk_at "mx"
      exact q
  · rw [decide_eq_true (show runL r o t ≠ o from c1)]
    rw [if_pos (.inl c1)] at q
    refine ite_t rfl ?_
    refine ite_t rfl ?_
    walk_at "mx"
    exact q
theorem h_gains_error (Z : XP) (ms : List MV) (Q : MV → Prop) (q : sp_gains_error.run Z ms Q) : W_gains_error.run Z (entry 7 ms) { nx := fun _ => Q (.d .none), rt := Q } := by
  obtain ⟨⟨⟨r, d⟩, n⟩, rfl, ⟨hr, n1, hn⟩, q⟩ := q
  dsimp only at hr n1 hn q
  have q := q _ rfl
  have lr := hr.len
  have fin := fun {o l t : List Int} {x1 x6 : Option MV} ho hl ht ll lt q => h_ge2 (Z := Z) (n := n) (r := r) (o := o) (l := l) (t := t) (x1 := x1) (x6 := x6) (O := { nx := fun _ => Q (.d .none), rt := Q }) hr hn ho hl ht ll lt q
  unfold W_gains_error
  generalize W_ge2 = R at fin ⊢
  cases d with
  | tuple xs =>
    by_cases h3 : xs.length = 3
    · match xs, h3, q with
      | [a, b, c], _, q =>
        have q : Q (.d (threeD n r a b c)) := q
        unfold threeD at q
        walk_at "mx"
        rw [List.length_map, lr]
        refine ⟨(n, a), rfl, hn, ?_⟩
        rintro m (⟨ca, rfl⟩ | ⟨ca, z, rfl, hz⟩)
        · rw [if_neg (by rw [ca]; decide)] at q
          obtain ⟨o, rfl, ho, eo⟩ := ordB_to ca
          walk_at "mx"
          refine ⟨rfl, ?_⟩
          walk_at "mx"
          refine ⟨(n, b), rfl, trivial, ?_⟩
          rintro m (⟨cb, rfl⟩ | ⟨cb, z, rfl, hz⟩)
          · rw [if_neg (by rw [cb]; decide)] at q
            obtain ⟨l, rfl, hl, ll, el⟩ := textB_to cb
            walk_at "mx"
            refine ⟨rfl, ?_⟩
            walk_at "mx"
            refine ⟨(n, c), rfl, trivial, ?_⟩
            rintro m (⟨cc, rfl⟩ | ⟨cc, z, rfl, hz⟩)
            · obtain ⟨t, rfl, ht, lt, et⟩ := textB_to cc
              rw [let_dT, let_dT, let_dT] at q
              walk_at "mx"
              refine ⟨rfl, false, rfl, ite_f (by decide) ?_⟩
              walk_at "mx"
              refine ⟨1, ((t.map PyData.int).length : Int), rfl, rfl, ?_⟩
              rw [List.length_map]
              refine ite_d (fun c1 => ?_) (fun c1 => ?_)
              · walk_at "mx"
                by_cases c2 : t.length ≤ n
                · rw [if_neg (by rw [textB_of ht c2]; rintro (z | z); · cases z
                                 · rw [z] at c1; exact absurd c1 (by decide))] at q
                  rw [decide_eq_true (show (t.length : Int) ≤ (n : Int) by omega)]
                  walk_at "mx"
                  exact fin ho hl ht ll c2 q
                · rw [if_pos (.inl (by
                    show (decide ((t.map PyData.int).length ≤ n) && _) = false
                    rw [List.length_map, decide_eq_false c2]
                    rfl))] at q
                  rw [decide_eq_false (show ¬ (t.length : Int) ≤ (n : Int) by omega)]
                  walk_at "mx"
                  exact q
              · rw [if_pos (.inr (List.eq_nil_of_length_eq_zero (by omega)))] at q
                walk_at "mx"
                exact q
            · rw [if_pos (.inl (Bool.eq_false_iff.mpr fun z => by
                obtain ⟨t, rfl, ht, lt, _⟩ := textB_to z
                have := textB_of (m := 400) ht (by omega)
                rw [this] at cc
                cases cc))] at q
              walk_at "mx"
              refine ⟨rfl, true, by rw [hz]; rfl, ite_t rfl (ite_t rfl ?_)⟩
              walk_at "mx"
              exact q
          · rw [if_pos cb] at q
            walk_at "mx"
            refine ⟨rfl, true, by rw [hz]; rfl, ite_t rfl ?_⟩
            walk_at "mx"
            exact q
        · rw [if_pos ca] at q
          walk_at "mx"
          refine ⟨rfl, true, by rw [hz]; rfl, ite_t rfl ?_⟩
          walk_at "mx"
          exact q
    · have e : gainD n r (.tuple xs) = .str "form" := by
        match xs, h3 with
        | [], _ => rfl
        | [_], _ => rfl
        | [_, _], _ => rfl
        | [_, _, _], h => exact absurd rfl h
        | _ :: _ :: _ :: _ :: _, _ => rfl
      rw [e] at q
      walk_at "mx"
      rw [eqv_int, show ((xs.length : Int) == 3) = false from beq_eq_false_iff_ne.mpr (by omega)]
      walk_at "mx"
      exact q
  | _ =>
    walk_at "mx"
    exact q
end Kx

-- M39dG
namespace Kx
open PySem PyProof.Rows L2 Mx
variable [TheDeck]
/-- where a part begins -/
def isBeg (r : List Int) (n p : Nat) : Bool := decide (∀ q, q < n → p ≤ q → (p : Int) ≤ r.getD q 0)
def begs (r : List Int) (n m : Nat) : List Nat := (List.range m).filter fun p => isBeg r n p
def partsL (r : List Int) (n : Nat) : List (Nat × Nat) := (begs r n n).zip ((begs r n n).drop 1 ++ [n])
def pairN (p : Nat × Nat) : D := .tuple [.int (p.1 : Int), .int (p.2 : Int)]
/-- the places of a part that are led elsewhere than to its first one -/
def oddL (r : List Int) (p : Nat × Nat) : List Int := ((r.take p.2).drop p.1).filter fun g => decide (g ≠ (p.1 : Int))
def frontB (r : List Int) (n : Nat) : Bool := (partsL r n).all fun p => oddL r p == []
theorem parts_in {r : List Int} {n : Nat} {p : Nat × Nat} (h : p ∈ partsL r n) : p.1 < n ∧ p.2 ≤ n := by
  have h' : (p.1, p.2) ∈ (begs r n n).zip ((begs r n n).drop 1 ++ [n]) := h
  obtain ⟨h1, h2⟩ := List.of_mem_zip h'
  have lt : ∀ x ∈ begs r n n, x < n := fun x hx => List.mem_range.mp (List.mem_filter.mp hx).1
  refine ⟨lt _ h1, ?_⟩
  rcases List.mem_append.mp h2 with h2 | h2
  · exact Nat.le_of_lt (lt _ (List.mem_of_mem_drop h2))
  · rw [List.mem_singleton.mp h2]
    exact Nat.le_refl _
theorem parts_len {r : List Int} {n : Nat} (hn : n ≤ 12) : (partsL r n).length ≤ 12 := by
  unfold partsL
  rw [List.length_zip]
  refine Nat.le_trans (Nat.min_le_left ..) ?_
  unfold begs
  refine Nat.le_trans (List.length_filter_le ..) ?_
  rw [List.length_range]
  exact hn
theorem odd_take (r : List Int) (p : Nat × Nat) (i : Nat) (g : Int) (h : ((r.take p.2).drop p.1)[i]? = some g) : (((r.take p.2).drop p.1).take (i + 1)).filter (fun g => decide (g ≠ (p.1 : Int))) = (((r.take p.2).drop p.1).take i).filter (fun g => decide (g ≠ (p.1 : Int))) ++ [g].filter (fun g => decide (g ≠ (p.1 : Int))) := by
  rw [List.take_succ, h, List.filter_append]
  rfl
theorem back_none {r o l t : List Int} (h1 : runL r o t = o) (h2 : runL r (runL r o l) t = runL r o l) (h3 : payL r (runL r o l) t < payL r o t) : backD r o l t = .none := by
  unfold backD
  rw [if_neg (by rintro (z | z); · exact z h1
                 · exact z h2), if_neg (by omega)]
theorem back_to {r o l t : List Int} (h : backD r o l t = .none) : runL r o t = o ∧ runL r (runL r o l) t = runL r o l := by
  unfold backD at h
  by_cases c : runL r o t ≠ o ∨ runL r (runL r o l) t ≠ runL r o l
  · rw [if_pos c] at h
    cases h
  · exact ⟨Decidable.byContradiction fun z => c (.inl z), Decidable.byContradiction fun z => c (.inr z)⟩
theorem gain_near {n : Nat} {r o : List Int} {b a s : Nat} (ho : POrd n o) (hba : b < a) (has : a < s) (hs : s < n) (ha : r.getD s 0 = (a : Int)) (hb : ∀ p, b ≤ p → p < s → r.getD p 0 = (b : Int)) :
    backD r o ((((o.take (s + 1)).drop a).reverse.map fun x => [x, x]).flatten) ((o.take (s + 1)).drop a).reverse = .none := by
  have hl := ho.len
  have e1 : o = o.take a ++ [] ++ (o.take (s + 1)).drop a ++ o.drop (s + 1) := by
    conv => lhs; rw [← List.take_append_drop (s + 1) o, ← List.take_append_drop a (o.take (s + 1))]
    rw [List.take_take, Nat.min_eq_left (by omega), List.append_nil]
  have e2 : o = o.take b ++ [] ++ (o.take a).drop b ++ (o.take (s + 1)).drop a ++ o.drop (s + 1) := by
    conv => lhs; rw [e1, ← List.take_append_drop b (o.take a)]
    rw [List.take_take, Nat.min_eq_left (by omega), List.append_nil, List.append_nil]
  have lM : ((o.take (s + 1)).drop a).length = s + 1 - a := by rw [List.length_drop, List.length_take]; omega
  have la : (o.take a).length = a := by rw [List.length_take]; omega
  have lb : (o.take b).length = b := by rw [List.length_take]; omega
  have lB : ((o.take a).drop b).length = a - b := by rw [List.length_drop, List.length_take]; omega
  generalize (o.take (s + 1)).drop a = M at *
  generalize o.drop (s + 1) = S at *
  generalize o.take a = A at *
  generalize A.drop b = B at *
  generalize o.take b = P at *
  have nd1 := ho.nd
  rw [e1] at nd1
  have nd2 := ho.nd
  rw [e2] at nd2
  obtain ⟨t1, t2⟩ := turn_block (r := r) (P := A) (S := S) M [] nd1 (fun m hm hp => by
    rw [hm, la, lM, List.length_nil, show a + 0 + (s + 1 - a) - 1 = s by omega]
    exact ha)
  have tw := twice_lead (r := r) (P := P) (B := B) (S := S) (s := s) M [] nd2 (by rw [lb, lB, lM, List.length_nil]; omega) (by rw [lb, lB]; omega) (by rw [lb, lB, show b + (a - b) = a by omega]; exact ha) (fun p h1 h2 => by rw [lb] at h1 ⊢; exact hb p h1 h2)
  rw [← e1] at t1 t2
  rw [← e2] at tw
  have e3 : P ++ M ++ [] ++ B ++ S = P ++ [] ++ M ++ (B ++ S) := by simp [List.append_assoc]
  rw [e3] at tw
  have nd3 : (P ++ [] ++ M ++ (B ++ S)).Nodup := by
    rw [List.append_nil] at nd2 ⊢
    refine (List.Perm.nodup_iff ?_).mp nd2
    rw [List.append_assoc, List.append_assoc, List.append_assoc P]
    refine List.Perm.append_left P ?_
    rw [← List.append_assoc, ← List.append_assoc]
    exact List.Perm.append_right S List.perm_append_comm
  obtain ⟨t3, t4⟩ := turn_block (r := r) (P := P) (S := B ++ S) M [] nd3 (fun m hm hp => by
    rw [hm, lb, lM, List.length_nil]
    exact hb _ (by omega) (by omega))
  refine back_none ?_ ?_ ?_
  · rw [t1]
    conv => rhs; rw [e1]
    simp [List.append_assoc]
  · rw [tw, t3]
    simp [List.append_assoc]
  · rw [tw, t2, t4, la, lb, lM, List.length_nil]
    refine Int.mul_lt_mul_of_pos_left ?_ (by omega)
    omega
theorem gain_far' {n : Nat} {r o : List Int} {x : Int} {s f c b : Nat} (ho : POrd n o) (hx : x ∈ o) (hs : o.idxOf x = s) (hf : f < n) (hsf : s < f) (hc : r.getD f 0 = (c : Int)) (hcs : c < s) (hbc : b ≤ c) (hb : ∀ p, b ≤ p → p < s → r.getD p 0 = (b : Int)) (hss : r.getD s 0 = (s : Int)) :
    backD r o ((farL r f (f - s) o).1 ++ [x, x]) [x] = .none := by
  obtain ⟨h1, h2, h3⟩ := gain_far ho hx hs hf hsf hc hcs hbc hb hss
  refine back_none h1 h3 ?_
  show ((runL r o ((farL r f (f - s) o).1 ++ [x, x])).idxOf x : Int) + 0 < (o.idxOf x : Int) + 0
  rw [h2, hs]
  omega
/-- what is known of a part -/
structure Part (r : List Int) (n b e : Nat) : Prop where
  lt : b < e
  le : e ≤ n
  beg : ∀ q, q < n → b ≤ q → (b : Int) ≤ r.getD q 0
  mid : ∀ p, b < p → p < e → isBeg r n p = false
  fin : ∀ q, q < n → e ≤ q → (e : Int) ≤ r.getD q 0
theorem begs_sorted (r : List Int) (n m : Nat) : (begs r n m).Pairwise (· < ·) := List.Pairwise.filter _ List.pairwise_lt_range
theorem part_of {r : List Int} {n b e : Nat} (h : (b, e) ∈ partsL r n) : Part r n b e := by
  obtain ⟨i, hi⟩ := List.getElem?_of_mem h
  unfold partsL at hi
  obtain ⟨h1, h2⟩ := List.getElem?_zip_eq_some.mp hi
  have st := begs_sorted r n n
  have mem : ∀ p, p ∈ begs r n n ↔ p < n ∧ isBeg r n p = true := fun p => by
    unfold begs
    rw [List.mem_filter, List.mem_range]
  generalize begs r n n = B at *
  obtain ⟨hiB, rfl⟩ := List.getElem?_eq_some_iff.mp h1
  have hb := (mem _).mp (List.getElem_mem hiB)
  have bg := of_decide_eq_true hb.2
  have lts := fun (j k : Nat) (hj : j < B.length) (hk : k < B.length) (h : j < k) => List.pairwise_iff_getElem.mp st j k hj hk h
  by_cases c : i + 1 < B.length
  · have e2 : e = B[i + 1] := by
      rw [List.getElem?_append_left (by rw [List.length_drop]; omega), List.getElem?_drop, Nat.add_comm 1 i, List.getElem?_eq_getElem c] at h2
      exact (Option.some.inj h2).symm
    subst e2
    have he := (mem _).mp (List.getElem_mem c)
    refine ⟨lts _ _ hiB c (by omega), Nat.le_of_lt he.1, bg, fun p h1 h2 => ?_, of_decide_eq_true he.2⟩
    refine Bool.eq_false_iff.mpr fun z => ?_
    obtain ⟨j, hj, rfl⟩ := List.getElem_of_mem ((mem p).mpr ⟨by omega, z⟩)
    rcases Nat.lt_trichotomy j i with q | q | q
    · have := lts _ _ hj hiB q; omega
    · subst q; omega
    · rcases Nat.lt_trichotomy j (i + 1) with q2 | q2 | q2
      · omega
      · subst q2; omega
      · have := lts _ _ c hj q2; omega
  · have e2 : e = n := by
      rw [List.getElem?_append_right (by rw [List.length_drop]; omega)] at h2
      obtain ⟨_, h2⟩ := List.getElem?_eq_some_iff.mp h2
      simpa using h2.symm
    subst e2
    refine ⟨hb.1, Nat.le_refl _, bg, fun p h1 h2 => ?_, fun q h1 h2 => by omega⟩
    refine Bool.eq_false_iff.mpr fun z => ?_
    obtain ⟨j, hj, rfl⟩ := List.getElem_of_mem ((mem p).mpr ⟨by omega, z⟩)
    rcases Nat.lt_trichotomy j i with q | q | q
    · have := lts _ _ hj hiB q; omega
    · subst q; omega
    · omega
/-- the first place from b on, of k, that .. -/
def pickL (f : Nat → Bool) (b k : Nat) : List Nat := ((List.range k).filter fun j => f (b + j)).map fun j => b + j
theorem pick_succ (f : Nat → Bool) (b k : Nat) : pickL f b (k + 1) = pickL f b k ++ (if f (b + k) then [b + k] else []) := by
  unfold pickL
  rw [List.range_succ, List.filter_append, List.map_append]
  congr 1
  cases h : f (b + k) with
  | true => rw [List.filter_cons_of_pos (p := fun j => f (b + j)) h]; rfl
  | false => rw [List.filter_cons_of_neg (p := fun j => f (b + j)) (by rw [h]; decide)]; rfl
theorem pick_first {f : Nat → Bool} {b k : Nat} (h : ∃ p, b ≤ p ∧ p < b + k ∧ f p = true) : ∃ s, (pickL f b k)[0]? = some s ∧ b ≤ s ∧ s < b + k ∧ f s = true ∧ ∀ p, b ≤ p → p < s → f p = false := by
  induction k with
  | zero =>
    obtain ⟨p, h1, h2, _⟩ := h
    omega
  | succ k ih =>
    by_cases c : ∃ p, b ≤ p ∧ p < b + k ∧ f p = true
    · obtain ⟨s, h1, h2, h3, h4, h5⟩ := ih c
      refine ⟨s, ?_, h2, by omega, h4, h5⟩
      rw [pick_succ, List.getElem?_append_left (List.getElem?_eq_some_iff.mp h1).1]
      exact h1
    · obtain ⟨p, h1, h2, h3⟩ := h
      have hp : p = b + k := Decidable.byContradiction fun z => c ⟨p, h1, by omega, h3⟩
      subst hp
      have em : pickL f b k = [] := by
        unfold pickL
        rw [List.map_eq_nil_iff, List.filter_eq_nil_iff]
        intro j hj z
        exact c ⟨b + j, by omega, by have := List.mem_range.mp hj; omega, z⟩
      refine ⟨b + k, ?_, by omega, by omega, h3, fun p h1 h2 => Bool.eq_false_iff.mpr fun z => c ⟨p, h1, h2, z⟩⟩
      rw [pick_succ, em, h3]
      rfl
theorem far_pt {n : Nat} {r o : List Int} {f : Nat} (ho : POrd n o) (hf : f < n) : ∀ k, POrd n (farL r f k o).2 ∧ (farL r f k o).1.length = k
  | 0 => ⟨ho, rfl⟩
  | k + 1 => by
    obtain ⟨h1, h4⟩ := far_pt (r := r) ho hf k
    have e : farL r f (k + 1) o = ((farL r f k o).1 ++ [(farL r f k o).2.getD f 0], askL r (farL r f k o).2 ((farL r f k o).2.getD f 0)) := rfl
    rw [e]
    have hl := h1.len
    have hfl : f < (farL r f k o).2.length := by omega
    have ey : (farL r f k o).2.getD f 0 = (farL r f k o).2[f] := by rw [List.getD_eq_getElem?_getD, List.getElem?_eq_getElem hfl]; rfl
    refine ⟨h1.ask (h1.mem _ ?_), by rw [List.length_append, h4]; rfl⟩
    rw [ey]
    exact List.getElem_mem hfl
theorem at_rule {r : List Int} {n p : Nat} (hr : r.length = n) (hp : p < n) : atI (r.map PyData.int) (p : Int) = some (.int (r.getD p 0)) := by
  have : r[p]? = some (r.getD p 0) := by
    rw [List.getD_eq_getElem?_getD, List.getElem?_eq_getElem (by omega)]
    rfl
  exact atI_map _ _ _ _ this
end Kx

-- M38aG
namespace Kx
open PySem PyProof.Rows L2 Mx
variable [TheDeck]
def sp_walls : Mx.Spec := spF (α := List Int × Nat) (fun a => [.d (dT a.1)]) (fun a => PRule a.2 a.1 ∧ 1 ≤ a.2 ∧ a.2 ≤ 12) (fun a m => m = .d (.tuple ((begs a.1 a.2 a.2).map fun p : Nat => .int (p : Int))))
def sp_blocks : Mx.Spec := spF (α := List Int × Nat) (fun a => [.d (dT a.1)]) (fun a => PRule a.2 a.1 ∧ 1 ≤ a.2 ∧ a.2 ≤ 12) (fun a m => m = .d (.tuple ((partsL a.1 a.2).map pairN)))
def sp_is_front : Mx.Spec := spF (α := List Int × Nat) (fun a => [.d (dT a.1)]) (fun a => PRule a.2 a.1 ∧ 1 ≤ a.2 ∧ a.2 ≤ 12) (fun a m => m = .d (.bool (frontB a.1 a.2)))
/-- the letters that are found at these places, asked one behind the other -/
def tbL (r : List Int) : List Int → List Nat → List Int
  | _, [] => []
  | o, p :: ps => o.getD p 0 :: tbL r (askL r o (o.getD p 0)) ps
def sp_text_behind : Mx.Spec := spF (α := (List Int × List Int × List Nat) × Nat) (fun a => [.d (dT a.1.1), .d (dT a.1.2.1), .d (.tuple (a.1.2.2.map fun p : Nat => .int (p : Int)))]) (fun a => PRule a.2 a.1.1 ∧ POrd a.2 a.1.2.1 ∧ (∀ p ∈ a.1.2.2, p < a.2) ∧ a.2 ≤ 12 ∧ a.1.2.2.length ≤ 100) (fun a m => m = .d (dT (tbL a.1.1 a.1.2.1 a.1.2.2)))
/-- the first place behind the first one of its part that is led elsewhere -/
def latePart (r : List Int) (n : Nat) : Nat × Nat := (((partsL r n).filter fun p => decide (oddL r p ≠ []))[0]?).getD (0, 0)
def lateP (r : List Int) (n : Nat) : Nat := ((pickL (fun q => decide (r.getD q 0 ≠ ((latePart r n).1 : Int))) (latePart r n).1 ((latePart r n).2 - (latePart r n).1))[0]?).getD 0
def sp__late_place : Mx.Spec := spF (α := List Int × Nat) (fun a => [.d (dT a.1)]) (fun a => PRule a.2 a.1 ∧ 1 ≤ a.2 ∧ a.2 ≤ 12 ∧ frontB a.1 a.2 = false) (fun a m => m = .d (.int (lateP a.1 a.2 : Nat)))
def placesL (r : List Int) (n s : Nat) : List Nat :=
  if r.getD s 0 < (s : Int) then (List.replicate (s - (r.getD s 0).toNat + 1) [s, (r.getD s 0).toNat]).flatten
  else
    let f := ((pickL (fun p => decide (r.getD p 0 < (s : Int))) (s + 1) (n - (s + 1)))[0]?).getD 0
    List.replicate (f - s + 1) f ++ [(r.getD f 0).toNat]
def sp__places_to_front : Mx.Spec := spF (α := (List Int × Nat) × Nat) (fun a => [.d (dT a.1.1), .d (.int a.1.2)]) (fun a => PRule a.2 a.1.1 ∧ a.2 ≤ 12 ∧ a.1.2 < a.2 ∧ (a.1.1.getD a.1.2 0 < (a.1.2 : Int) ∨ ∃ p, a.1.2 < p ∧ p < a.2 ∧ a.1.1.getD p 0 < (a.1.2 : Int))) (fun a m => m = .d (.tuple ((placesL a.1.1 a.2 a.1.2).map fun p : Nat => .int (p : Int))))
def W_walls : Stm := sRet (xOp1 pTuple (odE (xLc (iRange1 (aCons (xOp1 pLen (odS 0)) (aNil))) (gName 1) (tB (xOp2 pGe (odE (xOp1 pMinL (odE (xSl (odS 0) (bSome (xVar 1)) (bNone))))) (odS 1))) (xVar 1) [1])))
def W_blocks : Stm := sSeq (sSet 1 (xCall sp_walls (aCons (xVar 0) (aNil)))) (sSeq (sSet 2 (xOp2 qAdd (odE (xSl (odS 1) (bSome (xInt 1)) (bNone))) (odE (xTup (aCons (xOp1 pLen (odS 0)) (aNil)))))) (sRet (xTupZip (aCons (xVar 1) (aCons (xVar 2) (aNil))))))
def W_is_front : Stm := sRet (xOp1 pAll (odE (xLc (iTup (xCall sp_blocks (aCons (xVar 0) (aNil)))) (gTup (gCons (gName 1) (gCons (gName 2) (gNil)))) tYes (xOp2 pEq (odE (xSl (odS 0) (bSome (xVar 1)) (bSome (xVar 2)))) (odE (xOp2 qMul (odE (xTup (aCons (xVar 1) (aNil)))) (odE (xOp2 pSub (odS 2) (odS 1)))))) [1, 2])))
def W__late_place_b1 : Stm := sIf (tB (xOp2 pNe (odE (xOp2 pIx (odS 0) (odS 3))) (odS 1))) (sRetS 3) (sSkip)
def W__late_place_b2 : Stm := sFor (iRange2 (aCons (xOp2 qAdd (odS 1) (odE (xInt 1))) (aCons (xVar 2) (aNil)))) (gName 3) W__late_place_b1
def W__late_place : Stm := sSeq (sFor (iTup (xCall sp_blocks (aCons (xVar 0) (aNil)))) (gTup (gCons (gName 1) (gCons (gName 2) (gNil)))) W__late_place_b2) (sRet (xNone))
def W__places_to_front_b1 : Stm := sAug 3 (fun i j => i + j) (xInt 1)
def W__places_to_front : Stm := sSeq (sSet 2 (xOp2 pIx (odS 0) (odS 1))) (sSeq (sIf (tB (xOp2 pLt (odS 2) (odS 1))) (sRet (xOp2 qMul (odE (xTup (aCons (xVar 1) (aCons (xVar 2) (aNil))))) (odE (xOp2 qAdd (odE (xOp2 pSub (odS 1) (odS 2))) (odE (xInt 1)))))) (sSkip)) (sSeq (sSet 3 (xOp2 qAdd (odS 1) (odE (xInt 1)))) (sSeq (sWhile (tB (xOp2 pGe (odE (xOp2 pIx (odS 0) (odS 3))) (odS 1))) W__places_to_front_b1) (sRet (xOp2 qAdd (odE (xOp2 qMul (odE (xTup (aCons (xVar 3) (aNil)))) (odE (xOp2 qAdd (odE (xOp2 pSub (odS 3) (odS 1))) (odE (xInt 1)))))) (odE (xTup (aCons (xOp2 pIx (odS 0) (odS 3)) (aNil)))))))))
def W_text_behind_b1 : Stm := sSeq (sSet 6 (xOp2 pIx (odS 4) (odS 5))) (sSeq (sExpr (xAppend 3 (xVar 6))) (sSet 4 (xCall sp_asked (aCons (xVar 0) (aCons (xVar 4) (aCons (xVar 6) (aNil)))))))
def W_text_behind : Stm := sSeq (sSet 3 (xLst (aNil))) (sSeq (sSet 4 (xVar 1)) (sSeq (sFor (iTup (xVar 2)) (gName 5) W_text_behind_b1) (sRet (xOp1 pTuple (odS 3)))))
theorem h_walls (Z : XP) (ms : List MV) (Q : MV → Prop) (q : sp_walls.run Z ms Q) : W_walls.run Z (entry 2 ms) { nx := fun _ => Q (.d .none), rt := Q } := by
  obtain ⟨⟨r, n⟩, rfl, ⟨hr, n1, hn⟩, q⟩ := q
  dsimp only at hr n1 hn q
  have q := q _ rfl
  have lr := hr.len
  walk_at "mx"
  rw [List.length_map, lr]
  refine ⟨⟨by omega, by omega⟩, fun i acc => acc = (begs r n i).map fun p : Nat => .int (p : Int), rfl, ?_, ?_⟩
  · rintro i x acc hi rfl _
    obtain ⟨hi, rfl⟩ := rng_get hi
    rw [show (0 : Int) + (i : Int) = (i : Int) by omega]
    have es : begs r n (i + 1) = begs r n i ++ [i].filter fun p => isBeg r n p := by
      unfold begs
      rw [List.range_succ, List.filter_append]
    have c1 : Mx.cutD (r.map PyData.int) (some (i : Int)) none = (r.drop i).map PyData.int := by rw [cutD_map, cutD_from]
    have hin : i < n := by omega
    walk_at "mx"
    rw [c1]
    refine ⟨r.drop i, rfl, ?_, fun m hm hle => ?_⟩
    · intro z
      have := congrArg List.length z
      rw [List.length_drop, lr] at this
      simp at this
      omega
    have key : isBeg r n i = decide ((i : Int) ≤ m) := by
      unfold isBeg
      rw [decide_eq_decide]
      constructor
      · intro h
        obtain ⟨j, hj, e⟩ := List.getElem_of_mem hm
        rw [List.length_drop] at hj
        have := h (i + j) (by omega) (by omega)
        rw [List.getElem_drop] at e
        rw [List.getD_eq_getElem?_getD, List.getElem?_eq_getElem (by omega), Option.getD_some, e] at this
        exact this
      · intro h p hp ip
        have hm : r.getD p 0 ∈ r.drop i := by
          rw [List.getD_eq_getElem?_getD, List.getElem?_eq_getElem (by omega), Option.getD_some, List.mem_drop_iff_getElem]
          exact ⟨p - i, by omega, by congr 1; omega⟩
        have := hle _ hm
        omega
    walk_at "mx"
    refine ite_d (fun c => ?_) (fun c => ?_)
    · walk_at "mx"
      rw [es, List.filter_cons_of_pos (by rw [key]; exact decide_eq_true c), List.map_append]
      rfl
    · refine ⟨rfl, ?_⟩
      rw [es, List.filter_cons_of_neg (by rw [key, decide_eq_false c]; decide), List.map_append]
      show _ = _ ++ []
      rw [List.append_nil]
  refine ⟨by rw [rng_len]; omega, noOwn1 (fun c h => nomatch h), ?_⟩
  rintro acc rfl
  have e : (rng 0 (n : Int).toNat).length = n := by rw [rng_len]; omega
  rw [e]
  have lb : (begs r n n).length ≤ 12 := by
    unfold begs
    refine Nat.le_trans (List.length_filter_le ..) ?_
    rw [List.length_range]
    exact hn
  generalize begs r n n = B at *
  have lB : (B.map fun p : Nat => PyData.int (p : Int)).length ≤ 12 := by rw [List.length_map]; exact lb
  walk_at "mx"
  exact q
theorem h_blocks (Z : XP) (ms : List MV) (Q : MV → Prop) (q : sp_blocks.run Z ms Q) : W_blocks.run Z (entry 3 ms) { nx := fun _ => Q (.d .none), rt := Q } := by
  obtain ⟨⟨r, n⟩, rfl, ⟨hr, n1, hn⟩, q⟩ := q
  dsimp only at hr n1 hn q
  have q := q _ rfl
  have lr := hr.len
  have lb : (begs r n n).length ≤ 12 := by
    unfold begs
    refine Nat.le_trans (List.length_filter_le ..) ?_
    rw [List.length_range]
    exact hn
  walk_at "mx"
  refine ⟨(r, n), rfl, ⟨hr, n1, hn⟩, ?_⟩
  rintro m rfl
  dsimp only
  unfold partsL at q
  generalize begs r n n = B at *
  have c2 : Mx.cutD (B.map fun p : Nat => PyData.int (p : Int)) (some 1) none = (B.drop 1).map fun p : Nat => PyData.int (p : Int) := by
    rw [cutD_map]
    exact congrArg _ (cutD_from B 1)
  have lb2 : (B.drop 1).length ≤ 12 := by rw [List.length_drop]; omega
  walk_at "mx"
  rw [c2, List.length_map, lr]
  have e3 : ((B.drop 1).map fun p : Nat => PyData.int (p : Int)) ++ [PyData.int (n : Int)] = (B.drop 1 ++ [n]).map fun p : Nat => PyData.int (p : Int) := by
    rw [List.map_append]
    rfl
  rw [e3]
  refine ⟨B.map fun p : Nat => PyData.int (p : Int), (B.drop 1 ++ [n]).map fun p : Nat => PyData.int (p : Int), rfl, ?_, MVd_ne, ?_⟩
  · rw [List.length_map]
    exact Nat.lt_of_le_of_lt (Nat.min_le_left ..) (by omega)
  · rw [List.zip_map, List.map_map]
    exact q
theorem h_text_behind (Z : XP) (ms : List MV) (Q : MV → Prop) (q : sp_text_behind.run Z ms Q) : W_text_behind.run Z (entry 7 ms) { nx := fun _ => Q (.d .none), rt := Q } := by
  obtain ⟨⟨⟨r, o, ps⟩, n⟩, rfl, ⟨hr, ho, hp, hn, hl⟩, q⟩ := q
  dsimp only at hr ho hp hn hl q
  have q := q _ rfl
  walk_at "mx"
  refine ⟨fun i e => ∃ (t w : List Int) (x5 x6 : Option MV), (POrd n w ∧ t.length = i ∧ tbL r o ps = t ++ tbL r w (ps.drop i)) ∧ e = [some (.d (dT r)), some (.d (dT o)), some (.d (.tuple (ps.map fun p : Nat => .int (p : Int)))), some (.o (.lst (t.map PyData.int))), some (.d (dT w)), x5, x6], ⟨[], o, _, _, ⟨ho, rfl, rfl⟩, rfl⟩, ?_, ?_⟩
  · rintro i y e hy ⟨t, w, x5, x6, ⟨hw, lt, et⟩, rfl⟩
    rw [List.getElem?_map] at hy
    obtain ⟨p, hpi, rfl⟩ := Option.map_eq_some_iff.mp hy
    have hpn := hp p (List.mem_of_getElem? hpi)
    have lw := hw.len
    have g1 : w[p]? = some (w.getD p 0) := by rw [List.getD_eq_getElem?_getD, List.getElem?_eq_getElem (by omega)]; rfl
    have i1 : atI (w.map PyData.int) (p : Int) = some (.int (w.getD p 0)) := atI_map _ _ _ _ g1
    have hm := hw.mem _ (List.mem_of_getElem? g1)
    have pk := pask hr hw (by omega) hm
    have es : tbL r w (ps.drop i) = w.getD p 0 :: tbL r (askL r w (w.getD p 0)) (ps.drop (i + 1)) := by
      obtain ⟨hi, e⟩ := List.getElem?_eq_some_iff.mp hpi
      rw [List.drop_eq_getElem_cons hi, e]
      rfl
    rw [es] at et
    have h2 := hw.ask (r := r) hm
    have hip : i < ps.length := (List.getElem?_eq_some_iff.mp hpi).1
    have lW : (t.map PyData.int).length ≤ 100 := by rw [List.length_map]; omega
    have en : (t ++ [w.getD p 0]).map PyData.int = t.map PyData.int ++ [.int (w.getD p 0)] := by rw [List.map_append]; rfl
    have et2 : tbL r o ps = (t ++ [w.getD p 0]) ++ tbL r (askL r w (w.getD p 0)) (ps.drop (i + 1)) := by rw [et]; simp
    generalize w.getD p 0 = y at *
    walk_at "mx"
    refine ⟨(r, w, y), rfl, pk, ?_⟩
    rintro m rfl
    exact ⟨t ++ [y], askL r w y, _, _, ⟨h2, by rw [List.length_append, lt]; rfl, et2⟩, by rw [en]; rfl⟩
  · rintro e ⟨t, w, x5, x6, ⟨hw, lt, et⟩, rfl⟩
    rw [List.length_map] at et lt
    rw [List.drop_length] at et
    have et : tbL r o ps = t := by rw [et]; show t ++ [] = t; rw [List.append_nil]
    rw [et] at q
    have : t.length ≤ 100 := by omega
    walk_at "mx"
    exact q
theorem h_is_front2 (Z : XP) (ms : List MV) (Q : MV → Prop) (q : sp_is_front.run Z ms Q) : W_is_front.run Z (entry 3 ms) { nx := fun _ => Q (.d .none), rt := Q } := by
  obtain ⟨⟨r, n⟩, rfl, ⟨hr, n1, hn⟩, q⟩ := q
  dsimp only at hr n1 hn q
  have q : Q (.d (.bool (frontB r n))) := q _ rfl
  have lr := hr.len
  have pl := parts_len (r := r) hn
  have prt := fun {p : Nat × Nat} (h : p ∈ partsL r n) => part_of (r := r) (n := n) (b := p.1) (e := p.2) h
  unfold frontB at q
  walk_at "mx"
  refine ⟨(r, n), rfl, ⟨hr, n1, hn⟩, ?_⟩
  rintro m rfl
  dsimp only
  generalize partsL r n = PP at *
  walk_at "mx"
  refine ⟨fun i acc => acc = (PP.take i).map fun p => .bool (oddL r p == []), rfl, ?_, ?_⟩
  · rintro i y acc hy rfl _
    rw [List.getElem?_map] at hy
    obtain ⟨p, hp, rfl⟩ := Option.map_eq_some_iff.mp hy
    have P := prt (List.mem_of_getElem? hp)
    have hb := P.lt
    have he := P.le
    have es : (PP.take (i + 1)).map (fun p => PyData.bool (oddL r p == [])) = (PP.take i).map (fun p => PyData.bool (oddL r p == [])) ++ [PyData.bool (oddL r p == [])] := by
      rw [List.take_succ, hp, List.map_append]
      rfl
    have c1 : Mx.cutD (r.map PyData.int) (some (p.1 : Int)) (some (p.2 : Int)) = ((r.take p.2).drop p.1).map PyData.int := by
      rw [cutD_map]
      exact congrArg _ (cutD_mid ..)
    have sl : ((r.take p.2).drop p.1).length = p.2 - p.1 := by rw [List.length_drop, List.length_take]; omega
    have so : oddL r p = ((r.take p.2).drop p.1).filter fun g => decide (g ≠ (p.1 : Int)) := rfl
    rw [so] at es
    unfold pairN
    generalize (r.take p.2).drop p.1 = S at *
    walk_at "mx"
    rw [c1]
    refine ⟨⟨by omega, by omega⟩, by show 1 * _ ≤ _; omega, ?_⟩
    have eR : (List.replicate ((p.2 : Int) - (p.1 : Int)).toNat [PyData.int (p.1 : Int)]).flatten = (List.replicate (p.2 - p.1) (p.1 : Int)).map PyData.int := by
      rw [show ((p.2 : Int) - (p.1 : Int)).toNat = p.2 - p.1 by omega]
      have : ∀ k : Nat, (List.replicate k [PyData.int (p.1 : Int)]).flatten = (List.replicate k (p.1 : Int)).map PyData.int := fun k => by
        induction k with
        | zero => rfl
        | succ k ih =>
          rw [List.replicate_succ, List.replicate_succ, List.flatten_cons, ih]
          rfl
      exact this _
    rw [eR]
    have ee : (S == List.replicate (p.2 - p.1) (p.1 : Int)) = (S.filter (fun g => decide (g ≠ (p.1 : Int))) == []) := by
      rw [Bool.eq_iff_iff, beq_iff_eq, beq_iff_eq, List.eq_replicate_iff, List.filter_eq_nil_iff]
      constructor
      · rintro ⟨_, h⟩ g hg z
        rw [h g hg] at z
        simp at z
      · exact fun h => ⟨sl, fun g hg => by have := h g hg; simpa using this⟩
    generalize hRR : List.replicate (p.2 - p.1) (p.1 : Int) = RR at *
    walk_at "mx"
    refine ⟨⟨shaped_T S, shaped_T RR⟩, ?_⟩
    refine ⟨rfl, ?_⟩
    show _ ++ [PyData.bool (PyData.eqv (dT S) (dT RR))] = _
    rw [eqv_T, ee, es]
  refine ⟨by rw [List.length_map]; omega, ?_, ?_⟩
  · intro j hj c h
    simp only [List.mem_cons, List.not_mem_nil, or_false] at hj
    rcases hj with rfl | rfl <;> cases h
  rintro acc rfl
  rw [List.length_map, List.take_length]
  have eA : PP.map (fun p => PyData.bool (oddL r p == [])) = (PP.map fun p => oddL r p == []).map PyData.bool := by
    rw [List.map_map]
    rfl
  rw [eA]
  have eB : ((PP.map fun p => oddL r p == []).all id) = PP.all fun p => oddL r p == [] := by
    rw [List.all_map]
    rfl
  rw [← eB] at q
  generalize (PP.map fun p => oddL r p == []) = BB at *
  walk_at "mx"
  refine ⟨BB, rfl, ?_⟩
  exact ⟨MVd_ne, q⟩
theorem odd_of {r : List Int} {n : Nat} {p : Nat × Nat} {q : Nat} (lr : r.length = n) (P : Part r n p.1 p.2) (h1 : p.1 ≤ q) (h2 : q < p.2) (h3 : r.getD q 0 ≠ (p.1 : Int)) : oddL r p ≠ [] := fun z => by
  unfold oddL at z
  rw [List.filter_eq_nil_iff] at z
  have le := P.le
  have hm : r.getD q 0 ∈ (r.take p.2).drop p.1 := by
    rw [List.getD_eq_getElem?_getD, List.getElem?_eq_getElem (by omega), Option.getD_some, List.mem_drop_iff_getElem]
    refine ⟨q - p.1, by rw [List.length_take]; omega, ?_⟩
    rw [List.getElem_take]
    congr 1
    omega
  have := z _ hm
  simp at this
  exact h3 this
theorem late_eq {r : List Int} {n i q : Nat} {p : Nat × Nat} (lr : r.length = n) (hp : (partsL r n)[i]? = some p) (h0 : ∀ p ∈ (partsL r n).take i, oddL r p = []) (h1 : p.1 ≤ q) (h2 : q < p.2) (h3 : r.getD q 0 ≠ (p.1 : Int)) (h4 : ∀ k, p.1 ≤ k → k < q → r.getD k 0 = (p.1 : Int)) : lateP r n = q := by
  have P := part_of (r := r) (n := n) (b := p.1) (e := p.2) (List.mem_of_getElem? hp)
  have lp : latePart r n = p := by
    unfold latePart
    obtain ⟨hi, e⟩ := List.getElem?_eq_some_iff.mp hp
    have f1 : ((partsL r n).take i).filter (fun p => decide (oddL r p ≠ [])) = [] := by
      rw [List.filter_eq_nil_iff]
      intro a ha
      rw [h0 a ha]
      decide
    have f2 : (partsL r n).filter (fun p => decide (oddL r p ≠ [])) = p :: ((partsL r n).drop (i + 1)).filter (fun p => decide (oddL r p ≠ [])) := by
      conv => lhs; rw [← List.take_append_drop i (partsL r n), List.filter_append, f1, List.drop_eq_getElem_cons hi, e]
      rw [List.filter_cons_of_pos (p := fun p => decide (oddL r p ≠ [])) (decide_eq_true (odd_of lr P h1 h2 h3))]
      rfl
    rw [f2]
    rfl
  unfold lateP
  rw [lp]
  obtain ⟨s, e, s1, s2, s3, s4⟩ := pick_first (f := fun q => decide (r.getD q 0 ≠ (p.1 : Int))) (b := p.1) (k := p.2 - p.1) ⟨q, h1, by omega, decide_eq_true h3⟩
  rw [e]
  show s = q
  have s3 : r.getD s 0 ≠ (p.1 : Int) := of_decide_eq_true s3
  rcases Nat.lt_trichotomy s q with z | z | z
  · exact absurd (h4 s s1 z) s3
  · exact z
  · have := of_decide_eq_false (s4 q h1 z)
    exact absurd h3 this
theorem first_own {r : List Int} {n b e : Nat} (hr : PRule n r) (P : Part r n b e) : r.getD b 0 = (b : Int) := by
  have lt := P.lt
  have le := P.le
  have h1 := P.beg b (by omega) (Nat.le_refl _)
  have h2 : r[b]? = some (r.getD b 0) := by
    rw [List.getD_eq_getElem?_getD, List.getElem?_eq_getElem (by rw [hr.len]; omega)]
    rfl
  have h3 := hr.ok b _ h2
  omega
theorem h_late_place (Z : XP) (ms : List MV) (Q : MV → Prop) (q : sp__late_place.run Z ms Q) : W__late_place.run Z (entry 4 ms) { nx := fun _ => Q (.d .none), rt := Q } := by
  obtain ⟨⟨r, n⟩, rfl, ⟨hr, n1, hn, hf⟩, q⟩ := q
  dsimp only at hr n1 hn hf q
  have q := q _ rfl
  have lr := hr.len
  have pl := parts_len (r := r) hn
  unfold W__late_place
  generalize hB : W__late_place_b2 = B
  walk_at "mx"
  refine ⟨(r, n), rfl, ⟨hr, n1, hn⟩, ?_⟩
  rintro m rfl
  dsimp only
  walk_at "mx"
  refine ⟨fun i e => (∀ p ∈ (partsL r n).take i, oddL r p = []) ∧ ∃ (x1 x2 x3 : Option MV), e = [some (.d (dT r)), x1, x2, x3], ⟨fun p hp => (by cases hp), _, _, _, rfl⟩, ?_, ?_⟩
  · rintro i y e hy ⟨h0, x1, x2, x3, rfl⟩
    rw [List.getElem?_map] at hy
    obtain ⟨p, hp, rfl⟩ := Option.map_eq_some_iff.mp hy
    have P := part_of (r := r) (n := n) (b := p.1) (e := p.2) (List.mem_of_getElem? hp)
    have lt := P.lt
    have le := P.le
    have fo := first_own hr P
    unfold pairN
    subst hB
    unfold W__late_place_b2
    walk_at "mx"
    refine add_I ?_
    walk_at "mx"
    refine ⟨(p.1 : Int) + 1, (p.2 : Int), rfl, ⟨by omega, by omega, by omega, by omega⟩, ?_⟩
    rw [show ((p.2 : Int) - ((p.1 : Int) + 1)).toNat = p.2 - (p.1 + 1) by omega]
    have one : ∀ k, p.1 ≤ k → k < p.1 + 1 + 0 → r.getD k 0 = (p.1 : Int) := fun k a b => by
      have : k = p.1 := by omega
      rw [this]
      exact fo
    refine ⟨fun j e => (∀ k, p.1 ≤ k → k < p.1 + 1 + j → r.getD k 0 = (p.1 : Int)) ∧ ∃ (x3 : Option MV), e = [some (.d (dT r)), some (.d (.int (p.1 : Int))), some (.d (.int (p.2 : Int))), x3], ⟨one, _, rfl⟩, ?_, ?_⟩
    · rintro j y e hj ⟨hk, x3, rfl⟩
      obtain ⟨hj, rfl⟩ := rng_get hj
      rw [show (p.1 : Int) + 1 + (j : Int) = ((p.1 + 1 + j : Nat) : Int) by omega]
      have ir := at_rule lr (show p.1 + 1 + j < n by omega)
      have leq := late_eq (q := p.1 + 1 + j) lr hp h0 (by omega) (by omega)
      walk_at "mx"
      refine ⟨_, ir, ?_⟩
      walk_at "mx"
      refine ite_b (fun c => ?_) (fun c => ?_)
      · rw [eqv_int] at c
        have c' : r.getD (p.1 + 1 + j) 0 ≠ (p.1 : Int) := by simpa using c
        walk_at "mx"
        rw [leq c' (fun k a b => hk k a b)] at q
        exact q
      · rw [eqv_int] at c
        have c' : r.getD (p.1 + 1 + j) 0 = (p.1 : Int) := by simpa using c
        walk_at "mx"
        refine ⟨fun k a b => ?_, _, rfl⟩
        by_cases z : k = p.1 + 1 + j
        · rw [z]; exact c'
        · exact hk k a (by omega)
    · rintro e ⟨hk, x3, rfl⟩
      rw [rng_len] at hk
      refine ⟨fun a ha => ?_, _, _, _, rfl⟩
      rcases mem_take_succ hp ha with ha | rfl
      · exact h0 a ha
      · unfold oddL
        rw [List.filter_eq_nil_iff]
        intro g hg z
        obtain ⟨k, hk2, e⟩ := List.getElem_of_mem hg
        rw [List.length_drop, List.length_take] at hk2
        rw [List.getElem_drop, List.getElem_take] at e
        have := hk (a.1 + k) (by omega) (by omega)
        rw [List.getD_eq_getElem?_getD, List.getElem?_eq_getElem (by omega), Option.getD_some, e] at this
        rw [this] at z
        simp at z
  · rintro e ⟨h0, x1, x2, x3, rfl⟩
    exfalso
    rw [List.length_map, List.take_length] at h0
    have : frontB r n = true := List.all_eq_true.mpr fun p hp => by rw [h0 p hp]; rfl
    rw [hf] at this
    cases this
theorem h_places (Z : XP) (ms : List MV) (Q : MV → Prop) (q : sp__places_to_front.run Z ms Q) : W__places_to_front.run Z (entry 4 ms) { nx := fun _ => Q (.d .none), rt := Q } := by
  obtain ⟨⟨⟨r, s⟩, n⟩, rfl, ⟨hr, hn, hs, hex⟩, q⟩ := q
  dsimp only at hr hn hs hex q
  have q := q _ rfl
  have lr := hr.len
  have ir := at_rule lr hs
  have r0 : 0 ≤ r.getD s 0 ∧ r.getD s 0 ≤ s := by
    have h2 : r[s]? = some (r.getD s 0) := by
      rw [List.getD_eq_getElem?_getD, List.getElem?_eq_getElem (by omega)]
      rfl
    exact hr.ok s _ h2
  unfold placesL at q
  have rep1 : ∀ (k : Nat) (L : List Nat), (List.replicate k (L.map fun p : Nat => PyData.int (p : Int))).flatten = (List.replicate k L).flatten.map fun p : Nat => PyData.int (p : Int) := fun k L => by rw [List.map_flatten, List.map_replicate]
  walk_at "mx"
  refine ⟨_, ir, ?_⟩
  walk_at "mx"
  refine ite_d (fun c => ?_) (fun c => ?_)
  · rw [if_pos c] at q
    obtain ⟨a, ha⟩ : ∃ a : Nat, r.getD s 0 = (a : Int) := ⟨(r.getD s 0).toNat, by omega⟩
    rw [ha] at q c ⊢
    rw [show ((a : Int)).toNat = a by omega] at q
    walk_at "mx"
    refine ⟨⟨by omega, by omega⟩, by show 2 * _ ≤ _; omega, ?_⟩
    rw [show ((s : Int) - (a : Int) + 1).toNat = s - a + 1 by omega]
    have := rep1 (s - a + 1) [s, a]
    rw [show ([s, a].map fun p : Nat => PyData.int (p : Int)) = [PyData.int (s : Int), PyData.int (a : Int)] from rfl] at this
    rw [this]
    exact ⟨MVd_ne, q⟩
  · rw [if_neg c] at q
    obtain ⟨f, f0, f1, f2, f3, f4⟩ := pick_first (f := fun p => decide (r.getD p 0 < (s : Int))) (b := s + 1) (k := n - (s + 1)) (by
      obtain ⟨p, p1, p2, p3⟩ := hex.resolve_left c
      exact ⟨p, by omega, by omega, decide_eq_true p3⟩)
    dsimp only at q
    rw [f0] at q
    have f3 : r.getD f 0 < (s : Int) := of_decide_eq_true f3
    walk_at "mx"
    refine add_I ?_
    walk_at "mx"
    refine ⟨fun m e => ∃ p : Nat, e = [some (.d (dT r)), some (.d (.int (s : Nat))), some (.d (.int (r.getD s 0))), some (.d (.int (p : Nat)))] ∧ s + 1 ≤ p ∧ p ≤ f ∧ m = f - p, ⟨f - (s + 1), s + 1, rfl, by omega, by omega, rfl⟩, ?_⟩
    rintro m e ⟨p, rfl, p1, p2, rfl⟩
    have ip := at_rule lr (show p < n by omega)
    walk_at "mx"
    refine ⟨_, ip, ?_⟩
    walk_at "mx"
    refine ite_d (fun c2 => ?_) (fun c2 => ?_)
    · have hpf : p ≠ f := fun z => by rw [z] at c2; omega
      walk_at "mx"
      refine ⟨f - (p + 1), by omega, p + 1, rfl, by omega, by omega, rfl⟩
    · have hpf : p = f := by
        rcases Nat.lt_or_ge p f with z | z
        · have := of_decide_eq_false (f4 p p1 z)
          omega
        · omega
      subst hpf
      have rc : ∃ a : Nat, r.getD p 0 = (a : Int) := by
        have h2 : r[p]? = some (r.getD p 0) := by
          rw [List.getD_eq_getElem?_getD, List.getElem?_eq_getElem (by omega)]
          rfl
        have h3 := hr.ok p _ h2
        exact ⟨(r.getD p 0).toNat, by omega⟩
      obtain ⟨a, ha⟩ := rc
      have q : Q (.d (.tuple ((List.replicate (p - s + 1) p ++ [(r.getD p 0).toNat]).map fun p : Nat => .int (p : Int)))) := q
      rw [ha, show ((a : Int)).toNat = a by omega] at q
      rw [ha] at ip
      walk_at "mx"
      refine ⟨⟨by omega, by omega⟩, by show 1 * _ ≤ _; omega, ?_⟩
      rw [show ((p : Int) - (s : Int) + 1).toNat = p - s + 1 by omega]
      have e1 : (List.replicate (p - s + 1) [PyData.int (p : Int)]).flatten = (List.replicate (p - s + 1) p).map fun p : Nat => PyData.int (p : Int) := by
        have h := rep1 (p - s + 1) [p]
        have h' : (List.replicate (p - s + 1) [p]).flatten = List.replicate (p - s + 1) p := by
          have : ∀ k : Nat, (List.replicate k [p]).flatten = List.replicate k p := fun k => by
            induction k with
            | zero => rfl
            | succ k ih =>
              rw [List.replicate_succ, List.replicate_succ, List.flatten_cons, ih]
              rfl
          exact this _
        rw [h'] at h
        exact h
      rw [e1]
      have l1 : ((List.replicate (p - s + 1) p).map fun p : Nat => PyData.int (p : Int)).length ≤ 100 := by rw [List.length_map, List.length_replicate]; omega
      rw [List.map_append] at q
      generalize (List.replicate (p - s + 1) p).map (fun p : Nat => PyData.int (p : Int)) = T at *
      walk_at "mx"
      first | exact q | (refine ⟨_, ip, ?_⟩; walk_at "mx"; exact q)
end Kx

-- M38bG
namespace Kx
open PySem PyProof.Rows L2 Mx
variable [TheDeck]
theorem twice_take {t : List Int} {i : Nat} {l : Int} (h : t[i]? = some l) : ((t.take (i + 1)).map fun x => [x, x]).flatten = ((t.take i).map fun x => [x, x]).flatten ++ [l, l] := by
  rw [List.take_succ, h, List.map_append, List.flatten_append]
  rfl
theorem twice_len (t : List Int) : ((t.map fun x => [x, x]).flatten).length = 2 * t.length := by
  induction t with
  | nil => rfl
  | cons x t ih =>
    have e : ((x :: t).map fun x => [x, x]).flatten = x :: x :: (t.map fun x => [x, x]).flatten := rfl
    rw [e, List.length_cons, List.length_cons, ih, List.length_cons]
    omega
theorem twice_text {n : Nat} {t : List Int} (h : PText n t) : PText n ((t.map fun x => [x, x]).flatten) := fun l hl => by
  obtain ⟨m, hm, hl⟩ := List.mem_flatten.mp hl
  obtain ⟨x, hx, rfl⟩ := List.mem_map.mp hm
  have : l = x := by simpa using hl
  rw [this]
  exact h x hx
/-- what stands at the places s, a by turns, when each goes from s to a and from there to the end of P -/
theorem tb_near {r P B S : List Int} {s : Nat} : ∀ (F D : List Int), (P ++ D ++ B ++ F ++ S).Nodup → P.length + D.length + B.length + F.length = s + 1 → P.length + B.length < s → r.getD s 0 = ((P.length + B.length : Nat) : Int) → (∀ p, P.length ≤ p → p < s → r.getD p 0 = (P.length : Int)) →
    tbL r (P ++ D ++ B ++ F ++ S) ((List.replicate F.length [s, P.length + B.length]).flatten) = (F.reverse.map fun x => [x, x]).flatten := by
  intro F
  induction hF : F.length generalizing F with
  | zero =>
    intro D _ _ _ _ _
    have : F = [] := List.eq_nil_of_length_eq_zero hF
    subst this
    rfl
  | succ k ih =>
    intro D nd hl hB hs hb
    obtain ⟨F', x, rfl⟩ : ∃ F' x, F = F' ++ [x] := ⟨F.dropLast, F.getLast (by intro z; rw [z] at hF; cases hF), (List.dropLast_concat_getLast _).symm⟩
    have lF : F'.length = k := by
      rw [List.length_append] at hF
      have : F'.length + 1 = k + 1 := hF
      omega
    have e1 : P ++ D ++ B ++ (F' ++ [x]) ++ S = (P ++ D ++ B ++ F') ++ x :: S := by simp [List.append_assoc]
    have hx : x ∉ P ++ D ++ B ++ F' := fun z => by
      rw [e1] at nd
      exact (List.nodup_append.mp nd).2.2 x z x (List.mem_cons_self ..) rfl
    have ll : (P ++ D ++ B ++ F').length = s := by
      simp only [List.length_append]
      omega
    have g0 : (P ++ D ++ B ++ (F' ++ [x]) ++ S).getD s 0 = x := by
      rw [e1, List.getD_eq_getElem?_getD, List.getElem?_append_right (by omega), ll, Nat.sub_self]
      rfl
    generalize hU : P ++ D ++ B ++ F' = U at *
    have hg1 : r.getD U.length 0 = ((P.length + B.length : Nat) : Int) := by rw [ll]; exact hs
    have a1 := ask_mid (r := r) (B := S) hx hg1
    have lt1 : P.length + B.length ≤ (U ++ S).length := by
      rw [List.length_append]
      omega
    have lg : ((U ++ S).take (P.length + B.length)).length = P.length + B.length := by rw [List.length_take]; omega
    have hx2 : x ∉ (U ++ S).take (P.length + B.length) := fun z => by
      have z := List.mem_of_mem_take z
      rcases List.mem_append.mp z with z | z
      · exact hx z
      · rw [e1] at nd
        have := (List.nodup_append.mp nd).2.1
        exact (List.nodup_cons.mp this).1 z
    have hg2 : r.getD ((U ++ S).take (P.length + B.length)).length 0 = (P.length : Int) := by
      rw [lg]
      exact hb _ (by omega) hB
    have a2 := ask_mid (r := r) (B := (U ++ S).drop (P.length + B.length)) hx2 hg2
    rw [List.take_append_drop] at a2
    have mid : askL r (P ++ D ++ B ++ (F' ++ [x]) ++ S) x = (U ++ S).take (P.length + B.length) ++ x :: (U ++ S).drop (P.length + B.length) := by
      rw [e1, a1]
      simp
    have g1 : ((U ++ S).take (P.length + B.length) ++ x :: (U ++ S).drop (P.length + B.length)).getD (P.length + B.length) 0 = x := by
      rw [List.getD_eq_getElem?_getD, List.getElem?_append_right (by omega), lg, Nat.sub_self]
      rfl
    have fin : askL r ((U ++ S).take (P.length + B.length) ++ x :: (U ++ S).drop (P.length + B.length)) x = P ++ (x :: D) ++ B ++ F' ++ S := by
      rw [a2, ← hU]
      have eA : P ++ D ++ B ++ F' ++ S = P ++ (D ++ B ++ F' ++ S) := by simp [List.append_assoc]
      rw [eA, List.take_left' rfl, List.drop_left' rfl]
      simp [List.append_assoc]
    have er : ((F' ++ [x]).reverse.map fun x => [x, x]).flatten = x :: x :: (F'.reverse.map fun x => [x, x]).flatten := by simp
    have es : (List.replicate (k + 1) [s, P.length + B.length]).flatten = s :: (P.length + B.length) :: (List.replicate k [s, P.length + B.length]).flatten := rfl
    rw [er, es]
    show (P ++ D ++ B ++ (F' ++ [x]) ++ S).getD s 0 :: (askL r (P ++ D ++ B ++ (F' ++ [x]) ++ S) ((P ++ D ++ B ++ (F' ++ [x]) ++ S).getD s 0)).getD (P.length + B.length) 0 :: tbL r (askL r (askL r (P ++ D ++ B ++ (F' ++ [x]) ++ S) ((P ++ D ++ B ++ (F' ++ [x]) ++ S).getD s 0)) ((askL r (P ++ D ++ B ++ (F' ++ [x]) ++ S) ((P ++ D ++ B ++ (F' ++ [x]) ++ S).getD s 0)).getD (P.length + B.length) 0)) _ = _
    rw [g0, mid, g1, fin]
    have nd3 : (P ++ (x :: D) ++ B ++ F' ++ S).Nodup := by
      refine (List.Perm.nodup_iff ?_).mp nd
      rw [e1, ← hU]
      have eA : P ++ (x :: D) ++ B ++ F' ++ S = P ++ x :: (D ++ B ++ F' ++ S) := by simp [List.append_assoc]
      have eB : P ++ D ++ B ++ F' ++ x :: S = (P ++ (D ++ B ++ F')) ++ x :: S := by simp [List.append_assoc]
      rw [eA, eB]
      refine List.perm_middle.trans ?_
      refine List.Perm.trans ?_ List.perm_middle.symm
      simp [List.append_assoc]
    have := ih F' lF (x :: D) nd3 (by rw [List.length_cons]; omega) hB hs hb
    rw [this]
theorem tb_app (r : List Int) : ∀ (ps qs : List Nat) (o : List Int), tbL r o (ps ++ qs) = tbL r o ps ++ tbL r (runL r o (tbL r o ps)) qs
  | [], qs, o => rfl
  | p :: ps, qs, o => by
    have ih := tb_app r ps qs (askL r o (o.getD p 0))
    show o.getD p 0 :: tbL r (askL r o (o.getD p 0)) (ps ++ qs) = _
    rw [ih]
    rfl
theorem tb_far {n : Nat} {r o : List Int} {f : Nat} : ∀ k, tbL r o (List.replicate k f) = (farL r f k o).1 ∧ runL r o (tbL r o (List.replicate k f)) = (farL r f k o).2
  | 0 => ⟨rfl, rfl⟩
  | k + 1 => by
    obtain ⟨h1, h2⟩ := tb_far (n := n) (r := r) (o := o) (f := f) k
    have e : farL r f (k + 1) o = ((farL r f k o).1 ++ [(farL r f k o).2.getD f 0], askL r (farL r f k o).2 ((farL r f k o).2.getD f 0)) := rfl
    have es : List.replicate (k + 1) f = List.replicate k f ++ [f] := List.replicate_succ'
    rw [es, tb_app, h1, e]
    have h2 : runL r o (farL r f k o).1 = (farL r f k o).2 := by rw [← h1]; exact h2
    rw [h2]
    refine ⟨rfl, ?_⟩
    show runL r o ((farL r f k o).1 ++ [(farL r f k o).2.getD f 0]) = _
    rw [runL_app, h2]
    rfl
def gainsD (r : List Int) (n : Nat) : D :=
  if frontB r n = true then .none else .tuple [dT (iR n), dT (tbL r (iR n) (placesL r n (lateP r n))), dT (((iR n).take (lateP r n + 1)).drop (r.getD (lateP r n) 0).toNat).reverse]
theorem iR_ord (n : Nat) : POrd n (iR n) := perm_ord (List.Perm.refl _)
theorem iR_at {n s : Nat} (h : s < n) : (iR n)[s]? = some (s : Int) := by
  unfold iR
  rw [List.getElem?_map, List.getElem?_range h]
  show some ((0 : Int) + (s : Int)) = _
  rw [Int.zero_add]
/-- what the late place is -/
theorem late_facts {r : List Int} {n : Nat} (hr : PRule n r) (hf : frontB r n = false) : ∃ b e, Part r n b e ∧ b ≤ lateP r n ∧ lateP r n < e ∧ r.getD (lateP r n) 0 ≠ (b : Int) ∧ ∀ p, b ≤ p → p < lateP r n → r.getD p 0 = (b : Int) := by
  have lr := hr.len
  obtain ⟨p0, hp0⟩ : ∃ p, (((partsL r n)).filter fun p => decide (oddL r p ≠ []))[0]? = some p := by
    cases h : (partsL r n).filter fun p => decide (oddL r p ≠ []) with
    | cons a l => exact ⟨a, rfl⟩
    | nil =>
      rw [List.filter_eq_nil_iff] at h
      have : frontB r n = true := List.all_eq_true.mpr fun p hp => by simpa using h p hp
      rw [hf] at this
      cases this
  have mp0 := List.mem_filter.mp (List.mem_of_getElem? hp0)
  have ho2 : oddL r p0 ≠ [] := of_decide_eq_true mp0.2
  have P := part_of (r := r) (n := n) (b := p0.1) (e := p0.2) mp0.1
  have le := P.le
  have lt := P.lt
  have lp : latePart r n = p0 := by
    unfold latePart
    rw [hp0]
    rfl
  have ex : ∃ p, p0.1 ≤ p ∧ p < p0.1 + (p0.2 - p0.1) ∧ (fun p => decide (r.getD p 0 ≠ (p0.1 : Int))) p = true := by
    refine Classical.byContradiction fun z => ho2 ?_
    unfold oddL
    rw [List.filter_eq_nil_iff]
    intro g hg
    obtain ⟨j, hj, ej⟩ := List.getElem_of_mem hg
    rw [List.length_drop, List.length_take] at hj
    rw [List.getElem_drop, List.getElem_take] at ej
    intro w
    refine z ⟨p0.1 + j, by omega, by omega, decide_eq_true ?_⟩
    rw [List.getD_eq_getElem?_getD, List.getElem?_eq_getElem (by omega), Option.getD_some, ej]
    simpa using w
  obtain ⟨s, s0, s1, s2, s3, s4⟩ := pick_first ex
  have es : lateP r n = s := by
    unfold lateP
    rw [lp, s0]
    rfl
  rw [es]
  exact ⟨p0.1, p0.2, P, s1, by omega, of_decide_eq_true s3, fun p h1 h2 => by have := s4 p h1 h2; simpa using this⟩
theorem gains_ok {r : List Int} {n : Nat} (hr : PRule n r) (hn : n ≤ 12) (hf : frontB r n = false) : ∃ l t, gainsD r n = .tuple [dT (iR n), dT l, dT t] ∧ PText n l ∧ l.length ≤ 40 ∧ PText n t ∧ t ≠ [] ∧ t.length ≤ n ∧ backD r (iR n) l t = .none := by
  obtain ⟨b, e, P, hbs, hse, hne, hb⟩ := late_facts hr hf
  have lr := hr.len
  have le := P.le
  have ho := iR_ord n
  have lo := ho.len
  refine ⟨_, _, by unfold gainsD; rw [if_neg (by rw [hf]; decide)], ?_⟩
  generalize lateP r n = s at *
  have b0 := P.beg s (by omega) hbs
  have rs : r[s]? = some (r.getD s 0) := by
    rw [List.getD_eq_getElem?_getD, List.getElem?_eq_getElem (by omega)]
    rfl
  have b1 := hr.ok s _ rs
  by_cases c : r.getD s 0 < (s : Int)
  · obtain ⟨a, ha⟩ : ∃ a : Nat, r.getD s 0 = (a : Int) := ⟨(r.getD s 0).toNat, by omega⟩
    have bk := gain_near ho (show b < a by omega) (show a < s by omega) (by omega) ha hb
    have el : tbL r (iR n) (placesL r n s) = ((((iR n).take (s + 1)).drop a).reverse.map fun x => [x, x]).flatten := by
      unfold placesL
      rw [if_pos c, ha, show ((a : Int)).toNat = a by omega]
      have e2 : iR n = (iR n).take b ++ [] ++ ((iR n).take a).drop b ++ ((iR n).take (s + 1)).drop a ++ (iR n).drop (s + 1) := by
        have e1 : iR n = (iR n).take a ++ [] ++ ((iR n).take (s + 1)).drop a ++ (iR n).drop (s + 1) := by
          conv => lhs; rw [← List.take_append_drop (s + 1) (iR n), ← List.take_append_drop a ((iR n).take (s + 1))]
          rw [List.take_take, Nat.min_eq_left (by omega), List.append_nil]
        conv => lhs; rw [e1, ← List.take_append_drop b ((iR n).take a)]
        rw [List.take_take, Nat.min_eq_left (by omega), List.append_nil, List.append_nil]
      have lM : (((iR n).take (s + 1)).drop a).length = s - a + 1 := by rw [List.length_drop, List.length_take]; omega
      have lb : ((iR n).take b).length = b := by rw [List.length_take]; omega
      have lB : (((iR n).take a).drop b).length = a - b := by rw [List.length_drop, List.length_take]; omega
      have nd := ho.nd
      rw [e2] at nd
      have tb := tb_near (r := r) (s := s) (((iR n).take (s + 1)).drop a) [] nd (by rw [lb, lB, lM, List.length_nil]; omega) (by rw [lb, lB]; omega) (by rw [lb, lB, show b + (a - b) = a by omega]; exact ha) (fun p h1 h2 => by rw [lb] at h1 ⊢; exact hb p h1 h2)
      rw [← e2, lM, lb, lB, show b + (a - b) = a by omega] at tb
      exact tb
    rw [ha, show ((a : Int)).toNat = a by omega, el]
    have pt : PText n (((iR n).take (s + 1)).drop a).reverse := fun x hx => ho.mem x (List.mem_of_mem_take (List.mem_of_mem_drop (List.mem_reverse.mp hx)))
    have lt : (((iR n).take (s + 1)).drop a).reverse.length = s + 1 - a := by rw [List.length_reverse, List.length_drop, List.length_take]; omega
    refine ⟨twice_text pt, by rw [twice_len, lt]; omega, pt, fun z => ?_, by omega, bk⟩
    rw [z] at lt
    have : (0 : Nat) = s + 1 - a := lt
    omega
  · have hss : r.getD s 0 = (s : Int) := by omega
    have bs : b < s := by
      rcases Nat.lt_or_ge b s with h | h
      · exact h
      · have : s = b := by omega
        subst this
        exact absurd hss hne
    have ex : ∃ p, s + 1 ≤ p ∧ p < s + 1 + (n - (s + 1)) ∧ (fun p => decide (r.getD p 0 < (s : Int))) p = true := by
      have m := P.mid s bs hse
      unfold isBeg at m
      rw [decide_eq_false_iff_not] at m
      refine Classical.byContradiction fun z => m fun p hp sp => Classical.byContradiction fun w => ?_
      by_cases h1 : p = s
      · subst h1
        omega
      · exact z ⟨p, by omega, by omega, decide_eq_true (by omega)⟩
    obtain ⟨f, f0, f1, f2, f3, _⟩ := pick_first ex
    have f3 : r.getD f 0 < (s : Int) := of_decide_eq_true f3
    have fb := P.beg f (by omega) (by omega)
    obtain ⟨c', hc⟩ : ∃ c : Nat, r.getD f 0 = (c : Int) := ⟨(r.getD f 0).toNat, by omega⟩
    have hx := iR_at (show s < n by omega)
    have hxm := List.mem_of_getElem? hx
    have ix : (iR n).idxOf (s : Int) = s := by
      obtain ⟨h, e⟩ := List.getElem?_eq_some_iff.mp hx
      conv => lhs; rw [← e]
      exact ho.nd.idxOf_getElem s h
    have bk := gain_far' ho hxm ix (by omega) (by omega : s < f) hc (by omega) (by omega : b ≤ c') hb hss
    have fo := far_ok (r := r) (f := f) (c := c') ho hxm ix (by omega) hc (by omega) (f - s) (by omega)
    have hm := ho.mem _ hxm
    have gd : ∀ {w : List Int} {k : Nat}, POrd n w → w.idxOf (s : Int) = k → w.getD k 0 = (s : Int) := fun {w k} hw e => by
      have hi := List.idxOf_lt_length_of_mem (hw.has hm.1 hm.2)
      rw [e] at hi
      rw [List.getD_eq_getElem?_getD, List.getElem?_eq_getElem hi, Option.getD_some]
      have := List.getElem_idxOf (List.idxOf_lt_length_of_mem (hw.has hm.1 hm.2))
      simp only [e] at this
      exact this
    have g1 : (farL r f (f - s) (iR n)).2.getD f 0 = (s : Int) := gd fo.1 (by rw [fo.2.1]; omega)
    have i2 : (askL r (farL r f (f - s) (iR n)).2 (s : Int)).idxOf (s : Int) = c' := ask_idx fo.1 (fo.1.has hm.1 hm.2) (by rw [fo.2.1, show s + (f - s) = f by omega]; exact hc) (by rw [fo.2.1]; omega)
    have g2 := gd (fo.1.ask (r := r) hm) i2
    have el : tbL r (iR n) (placesL r n s) = (farL r f (f - s) (iR n)).1 ++ [(s : Int), (s : Int)] := by
      unfold placesL
      rw [if_neg c]
      dsimp only
      rw [f0]
      show tbL r (iR n) (List.replicate (f - s + 1) f ++ [(r.getD f 0).toNat]) = _
      obtain ⟨t1, t2⟩ := tb_far (n := n) (r := r) (o := iR n) (f := f) (f - s + 1)
      rw [tb_app, t2, t1, hc, show ((c' : Int)).toNat = c' by omega]
      have e : farL r f (f - s + 1) (iR n) = ((farL r f (f - s) (iR n)).1 ++ [(farL r f (f - s) (iR n)).2.getD f 0], askL r (farL r f (f - s) (iR n)).2 ((farL r f (f - s) (iR n)).2.getD f 0)) := rfl
      rw [e, g1]
      show ((farL r f (f - s) (iR n)).1 ++ [(s : Int)]) ++ [(askL r (farL r f (f - s) (iR n)).2 (s : Int)).getD c' 0] = _
      rw [g2]
      simp
    have et : (((iR n).take (s + 1)).drop (r.getD s 0).toNat).reverse = [(s : Int)] := by
      rw [hss, show ((s : Int)).toNat = s by omega, List.take_succ, hx, List.drop_append_of_le_length (by rw [List.length_take]; omega), List.drop_of_length_le (by rw [List.length_take]; omega)]
      rfl
    rw [el, et]
    have px : PText n [(s : Int)] := fun l hl => by rw [List.mem_singleton.mp hl]; exact hm
    have pxx : PText n [(s : Int), (s : Int)] := fun l hl => by
      have : l = (s : Int) := by simpa using hl
      rw [this]
      exact hm
    exact ⟨fo.2.2.2.2.app pxx, by rw [List.length_append, fo.2.2.2.1]; show f - s + 2 ≤ 40; omega, px, by simp, by show 1 ≤ n; omega, bk⟩
def sp_gains : Mx.Spec := spF (α := List Int × Nat) (fun a => [.d (dT a.1)]) (fun a => PRule a.2 a.1 ∧ 1 ≤ a.2 ∧ a.2 ≤ 12) (fun a m => m = .d (gainsD a.1 a.2))
def W_gains : Stm := sSeq (sIf (tB (xCall sp_is_front (aCons (xVar 0) (aNil)))) (sRet (xNone)) (sSkip)) (sSeq (sSet 1 (xTupR1 (xOp1 pLen (odS 0)))) (sSeq (sSet 2 (xCall sp__late_place (aCons (xVar 0) (aNil)))) (sSeq (sSet 3 (xCall sp_text_behind (aCons (xVar 0) (aCons (xVar 1) (aCons (xCall sp__places_to_front (aCons (xVar 0) (aCons (xVar 2) (aNil)))) (aNil)))))) (sRet (xTup (aCons (xVar 1) (aCons (xVar 3) (aCons (xOp1 pRev (odE (xSl (odS 1) (bSome (xOp2 pIx (odS 0) (odS 2))) (bSome (xOp2 qAdd (odS 2) (odE (xInt 1))))))) (aNil)))))))))
theorem places_lt {r : List Int} {n s : Nat} (hr : PRule n r) (hn : n ≤ 12) (hs : s < n) (hex : r.getD s 0 < (s : Int) ∨ ∃ p, s < p ∧ p < n ∧ r.getD p 0 < (s : Int)) : (∀ p ∈ placesL r n s, p < n) ∧ (placesL r n s).length ≤ 100 := by
  unfold placesL
  by_cases c : r.getD s 0 < (s : Int)
  · rw [if_pos c]
    constructor
    · intro p hp
      obtain ⟨L, hL, hp⟩ := List.mem_flatten.mp hp
      rw [(List.mem_replicate.mp hL).2] at hp
      simp only [List.mem_cons, List.not_mem_nil, or_false] at hp
      rcases hp with rfl | rfl
      · exact hs
      · omega
    · rw [List.length_flatten, List.map_replicate, List.sum_replicate_nat]
      show _ * 2 ≤ 100
      omega
  · rw [if_neg c]
    obtain ⟨f, f0, f1, f2, f3, f4⟩ := pick_first (f := fun p => decide (r.getD p 0 < (s : Int))) (b := s + 1) (k := n - (s + 1)) (by
      obtain ⟨p, p1, p2, p3⟩ := hex.resolve_left c
      exact ⟨p, by omega, by omega, decide_eq_true p3⟩)
    have f3 : r.getD f 0 < (s : Int) := of_decide_eq_true f3
    dsimp only
    rw [f0]
    show (∀ p ∈ List.replicate (f - s + 1) f ++ [(r.getD f 0).toNat], p < n) ∧ (List.replicate (f - s + 1) f ++ [(r.getD f 0).toNat]).length ≤ 100
    constructor
    · intro p hp
      rcases List.mem_append.mp hp with hp | hp
      · rw [(List.mem_replicate.mp hp).2]
        omega
      · rw [List.mem_singleton.mp hp]
        omega
    · rw [List.length_append, List.length_replicate]
      show f - s + 1 + 1 ≤ 100
      omega
theorem h_gains (Z : XP) (ms : List MV) (Q : MV → Prop) (q : sp_gains.run Z ms Q) : W_gains.run Z (entry 4 ms) { nx := fun _ => Q (.d .none), rt := Q } := by
  obtain ⟨⟨r, n⟩, rfl, ⟨hr, n1, hn⟩, q⟩ := q
  dsimp only at hr n1 hn q
  have q : Q (.d (gainsD r n)) := q _ rfl
  have lr := hr.len
  unfold gainsD at q
  walk_at "mx"
  refine ⟨(r, n), rfl, ⟨hr, n1, hn⟩, ?_⟩
  rintro m rfl
  dsimp only
  cases hf : frontB r n with
  | true =>
    rw [if_pos hf] at q
    walk_at "mx"
    exact q
  | false =>
    rw [if_neg (by rw [hf]; decide)] at q
    obtain ⟨b, e, P, hbs, hse, hne, hb⟩ := late_facts hr hf
    have le := P.le
    have b0 := P.beg (lateP r n) (by omega) hbs
    have rs : r[lateP r n]? = some (r.getD (lateP r n) 0) := by
      rw [List.getD_eq_getElem?_getD, List.getElem?_eq_getElem (by omega)]
      rfl
    have b1 := hr.ok (lateP r n) _ rs
    have hex : r.getD (lateP r n) 0 < (lateP r n : Int) ∨ ∃ p, lateP r n < p ∧ p < n ∧ r.getD p 0 < (lateP r n : Int) := by
      by_cases c : r.getD (lateP r n) 0 < (lateP r n : Int)
      · exact .inl c
      · refine .inr ?_
        have bs : b < lateP r n := by
          rcases Nat.lt_or_ge b (lateP r n) with h | h
          · exact h
          · have z : lateP r n = b := by omega
            rw [z] at c hne b1
            omega
        have m := P.mid (lateP r n) bs hse
        unfold isBeg at m
        rw [decide_eq_false_iff_not] at m
        refine Classical.byContradiction fun z => m fun p hp sp => Classical.byContradiction fun w => ?_
        by_cases h1 : p = lateP r n
        · rw [h1] at w
          omega
        · exact z ⟨p, by omega, hp, by omega⟩
    obtain ⟨a, ha⟩ : ∃ a : Nat, r.getD (lateP r n) 0 = (a : Int) := ⟨(r.getD (lateP r n) 0).toNat, by omega⟩
    have hsn : lateP r n < n := by omega
    have pl := places_lt hr hn hsn hex
    have i1 := at_rule lr hsn
    generalize hes : lateP r n = s at *
    have ho := iR_ord n
    have lo := ho.len
    rw [ha, show ((a : Int)).toNat = a by omega] at q
    rw [ha] at i1
    have c1 : Mx.cutD ((iR n).map PyData.int) (some (a : Int)) (some ((s : Int) + 1)) = (((iR n).take (s + 1)).drop a).map PyData.int := by
      rw [cutD_map]
      exact congrArg _ (cutD_mid (iR n) a (s + 1))
    have q : Q (.d (.tuple [dT (iR n), dT (tbL r (iR n) (placesL r n s)), .tuple ((((iR n).take (s + 1)).drop a).map PyData.int).reverse])) := by
      rw [← List.map_reverse]
      exact q
    walk_at "mx"
    rw [List.length_map, lr]
    refine ⟨by omega, by omega, ?_⟩
    rw [show ((n : Int)).toNat = n by omega, rng_iR]
    walk_at "mx"
    refine ⟨(r, n), rfl, ⟨hr, n1, hn, hf⟩, ?_⟩
    rintro m rfl
    dsimp only
    rw [hes]
    walk_at "mx"
    refine ⟨((r, s), n), rfl, ⟨hr, hn, hsn, hex⟩, ?_⟩
    rintro m rfl
    dsimp only
    walk_at "mx"
    refine ⟨((r, iR n, placesL r n s), n), rfl, ⟨hr, ho, pl.1, hn, pl.2⟩, ?_⟩
    rintro m rfl
    dsimp only
    generalize placesL r n s = PL at *
    walk_at "mx"
    rw [ha, c1]
    exact q
end Kx

-- M36tG
namespace Kx
open PySem PyProof.Rows L2 Mx
variable [TheDeck]
/-! ### rules by which all are led to the first one of their part -/
structure FrontR (n : Nat) (r : List Int) : Prop where
  rule : PRule n r
  fr : ∀ p, p < n → ∃ b : Nat, r.getD p 0 = (b : Int) ∧ b ≤ p ∧ ∀ q, b ≤ q → q ≤ p → r.getD q 0 = (b : Int)
theorem isBeg_iff {r : List Int} {n p : Nat} : isBeg r n p = true ↔ ∀ q, q < n → p ≤ q → (p : Int) ≤ r.getD q 0 := by
  unfold isBeg
  exact decide_eq_true_iff
theorem FrontR.beg {n : Nat} {r : List Int} (F : FrontR n r) {p : Nat} (hp : p < n) : ∃ b : Nat, r.getD p 0 = (b : Int) ∧ b ≤ p ∧ (∀ q, b ≤ q → q ≤ p → r.getD q 0 = (b : Int)) ∧ isBeg r n b = true := by
  obtain ⟨b, e, h1, h2⟩ := F.fr p hp
  refine ⟨b, e, h1, h2, isBeg_iff.mpr fun q hq hbq => ?_⟩
  obtain ⟨c, ec, c1, c2⟩ := F.fr q hq
  rw [ec]
  by_cases z : b ≤ c
  · omega
  · have e1 := c2 b (by omega) hbq
    have e2 := h2 b (Nat.le_refl _) h1
    omega
/-- letters in other orders, but the parts hold the same ones -/
def Mate (r : List Int) (n : Nat) (o p : List Int) : Prop := ∀ b : Nat, isBeg r n b = true → ∀ x : Int, (o.idxOf x < b ↔ p.idxOf x < b)
theorem Mate.symm {r : List Int} {n : Nat} {o p : List Int} (M : Mate r n o p) : Mate r n p o := fun b hb x => (M b hb x).symm
theorem Mate.trans {r : List Int} {n : Nat} {o p t : List Int} (M : Mate r n o p) (M' : Mate r n p t) : Mate r n o t := fun b hb x => (M b hb x).trans (M' b hb x)
theorem Mate.refl {r : List Int} {n : Nat} {o : List Int} : Mate r n o o := fun b hb x => Iff.rfl
theorem Mate.goal {n : Nat} {r o p : List Int} (F : FrontR n r) (ho : POrd n o) (hp : POrd n p) (M : Mate r n o p) {x : Int} (hx : 0 ≤ x ∧ x < n) : r.getD (o.idxOf x) 0 = r.getD (p.idxOf x) 0 := by
  have i1 := List.idxOf_lt_length_of_mem (ho.has hx.1 hx.2)
  have i2 := List.idxOf_lt_length_of_mem (hp.has hx.1 hx.2)
  rw [ho.len] at i1
  rw [hp.len] at i2
  obtain ⟨b, e1, b1, b2, b3⟩ := F.beg i1
  obtain ⟨c, e2, c1, c2, c3⟩ := F.beg i2
  have m1 := M b b3 x
  have m2 := M c c3 x
  have w1 := isBeg_iff.mp b3 _ i2 (by omega)
  have w2 := isBeg_iff.mp c3 _ i1 (by omega)
  omega
theorem idx_ins {C D : List Int} {x y : Int} (h : y ≠ x) : (C ++ x :: D).idxOf y = if (C ++ D).idxOf y < C.length then (C ++ D).idxOf y else (C ++ D).idxOf y + 1 := by
  by_cases hy : y ∈ C
  · have := List.idxOf_lt_length_of_mem hy
    rw [List.idxOf_append, if_pos hy, List.idxOf_append, if_pos hy, if_pos this]
  · have ne : (x == y) = false := by
      rw [beq_eq_false_iff_ne]
      exact fun z => h z.symm
    rw [List.idxOf_append, if_neg hy, List.idxOf_append, if_neg hy, List.idxOf_cons, ne, if_neg (by omega)]
    show List.idxOf y D + 1 + C.length = _
    omega
/-- where letters stand behind an ask -/
theorem ask_rel {n : Nat} {r o : List Int} {x : Int} {g : Nat} (ho : POrd n o) (hx : x ∈ o) (hg : r.getD (o.idxOf x) 0 = (g : Int)) (hl : g ≤ o.idxOf x) :
    (askL r o x).idxOf x = g ∧ ∃ k : Int → Nat, ∀ y, y ≠ x → o.idxOf y = (if k y < o.idxOf x then k y else k y + 1) ∧ (askL r o x).idxOf y = (if k y < g then k y else k y + 1) := by
  refine ⟨ask_idx ho hx hg hl, ?_⟩
  obtain ⟨A, B, e, lA, hA, hB⟩ := split_at ho hx
  rw [← lA] at hg hl ⊢
  refine ⟨fun y => (A ++ B).idxOf y, fun y hy => ⟨?_, ?_⟩⟩
  · conv => lhs; rw [e]
    exact idx_ins hy
  · have a := ask_mid (B := B) hA hg
    rw [e, a, List.append_assoc]
    have lt : ((A ++ B).take g).length = g := by rw [List.length_take, List.length_append]; omega
    have := idx_ins (C := (A ++ B).take g) (D := (A ++ B).drop g) (x := x) hy
    rw [List.take_append_drop, lt] at this
    exact this
/-- two orders, one ask -/
structure Asked (n : Nat) (r o p : List Int) (x : Int) : Prop where
  other : ∀ y z, y ≠ x → z ≠ x → ((askL r o x).idxOf y < (askL r o x).idxOf z ↔ o.idxOf y < o.idxOf z)
  other' : ∀ y z, y ≠ x → z ≠ x → ((askL r p x).idxOf y < (askL r p x).idxOf z ↔ p.idxOf y < p.idxOf z)
  ahead : ∀ y, y ≠ x → ((askL r o x).idxOf y < (askL r o x).idxOf x ↔ (askL r p x).idxOf y < (askL r p x).idxOf x)
  behind : ∀ y, y ≠ x → ((askL r o x).idxOf x < (askL r o x).idxOf y ↔ (askL r p x).idxOf x < (askL r p x).idxOf y)
  mate : Mate r n (askL r o x) (askL r p x)
theorem asked_of {n : Nat} {r o p : List Int} (F : FrontR n r) (ho : POrd n o) (hp : POrd n p) (M : Mate r n o p) {x : Int} (hx : 0 ≤ x ∧ x < n) : Asked n r o p x := by
  have mo := ho.has hx.1 hx.2
  have mp := hp.has hx.1 hx.2
  have i1 := List.idxOf_lt_length_of_mem mo
  have i2 := List.idxOf_lt_length_of_mem mp
  rw [ho.len] at i1
  rw [hp.len] at i2
  obtain ⟨g, e1, b1, b2, b3⟩ := F.beg i1
  have e2 : r.getD (p.idxOf x) 0 = (g : Int) := by rw [← M.goal F ho hp hx, e1]
  have b1' : g ≤ p.idxOf x := by
    have := M g b3 x
    omega
  obtain ⟨u1, k, u2⟩ := ask_rel ho mo e1 b1
  obtain ⟨v1, l, v2⟩ := ask_rel hp mp e2 b1'
  have key : ∀ y, y ≠ x → ((askL r o x).idxOf y < g ↔ (askL r p x).idxOf y < g) := fun y hy => by
    have h1 := u2 y hy
    have h2 := v2 y hy
    have h3 := M g b3 y
    split at h1 <;> split at h2 <;> split at h1 <;> split at h2 <;> omega
  refine ⟨fun y z hy hz => ?_, fun y z hy hz => ?_, fun y hy => ?_, fun y hy => ?_, fun b hb y => ?_⟩
  · have h1 := u2 y hy
    have h2 := u2 z hz
    split at h1 <;> split at h2 <;> split at h1 <;> split at h2 <;> omega
  · have h1 := v2 y hy
    have h2 := v2 z hz
    split at h1 <;> split at h2 <;> split at h1 <;> split at h2 <;> omega
  · rw [u1, v1]
    exact key y hy
  · have h0 := key y hy
    have h1 := (u2 y hy).2
    have h2 := (v2 y hy).2
    rw [u1, v1]
    split at h1 <;> split at h2 <;> omega
  · have w := isBeg_iff.mp hb
    have w1 := w _ i1
    have w2 := w _ i2
    by_cases hy : y = x
    · rw [hy, u1, v1]
    · have h1 := u2 y hy
      have h2 := v2 y hy
      have h3 := M b hb y
      have h4 := M b hb x
      have c1 : b ≤ o.idxOf x ∨ o.idxOf x < b := by omega
      rcases c1 with c1 | c1
      · have := w1 c1
        split at h1 <;> split at h2 <;> split at h1 <;> split at h2 <;> omega
      · split at h1 <;> split at h2 <;> split at h1 <;> split at h2 <;> omega
theorem count_sum {f g h k : Int → Bool} : ∀ T : List Int, (∀ y ∈ T, (if f y then 1 else 0) + (if g y then 1 else 0) = (if h y then 1 else 0) + (if k y then (1 : Nat) else 0)) → T.countP f + T.countP g = T.countP h + T.countP k
  | [], _ => rfl
  | y :: T, H => by
    have h1 := H y (List.mem_cons_self ..)
    have h2 := count_sum T fun z hz => H z (List.mem_cons_of_mem _ hz)
    rw [List.countP_cons, List.countP_cons, List.countP_cons, List.countP_cons]
    omega
theorem count_or {f g h : Int → Bool} : ∀ T : List Int, (∀ y ∈ T, f y = true → g y = true ∨ h y = true) → T.countP f ≤ T.countP g + T.countP h
  | [], _ => Nat.le_refl _
  | y :: T, H => by
    have h1 := H y (List.mem_cons_self ..)
    have h2 := count_or T fun z hz => H z (List.mem_cons_of_mem _ hz)
    rw [List.countP_cons, List.countP_cons, List.countP_cons]
    cases hf : f y <;> cases hg : g y <;> cases hh : h y <;> simp_all <;> omega
theorem pairL_cc (R : Int → Int → Bool) (x : Int) (T : List Int) (h : R x x = false) : pairL R (x :: T) (x :: T) = pairL R T T + T.countP (fun y => R y x) + T.countP (fun y => R x y) := by
  show ((x :: T).map fun y => (x :: T).countP fun x => R x y).sum = _
  rw [List.map_cons, List.sum_cons, List.countP_cons, h]
  show _ + pairL R T (x :: T) = _
  rw [pairL_cons]
  simp
  omega
theorem pairL_zero {R : Int → Int → Bool} {M : List Int} : ∀ L : List Int, (∀ y ∈ L, ∀ x ∈ M, R x y = false) → pairL R L M = 0
  | [], _ => rfl
  | y :: L, H => by
    have h1 : M.countP (fun x => R x y) = 0 := List.countP_eq_zero.mpr fun x hx h => by
      rw [H y (List.mem_cons_self ..) x hx] at h
      cases h
    have h2 := pairL_zero L fun z hz => H z (List.mem_cons_of_mem _ hz)
    show ((y :: L).map _).sum = 0
    unfold pairL at h2
    rw [List.map_cons, List.sum_cons, h1, h2]
theorem relL_self (o p : List Int) (x : Int) : relL o p x x = false := by
  unfold relL
  simp
theorem relL_t {o p : List Int} {x y : Int} : relL o p x y = true ↔ p.idxOf x < p.idxOf y ∧ o.idxOf y < o.idxOf x := by
  unfold relL
  rw [Bool.and_eq_true, decide_eq_true_iff, decide_eq_true_iff]
theorem ord_ne {n : Nat} {o : List Int} (ho : POrd n o) {x y : Int} (hx : 0 ≤ x ∧ x < n) (h : x ≠ y) : o.idxOf x ≠ o.idxOf y := fun z => h (by
  have h1 := List.idxOf_lt_length_of_mem (ho.has hx.1 hx.2)
  have e1 := List.getElem_idxOf h1
  have h2 : o.idxOf y < o.length := by omega
  have e2 := List.getElem_idxOf h2
  rw [← e1, ← e2]
  congr 1)
theorem unlike_ask {n : Nat} {r o p : List Int} (F : FrontR n r) (ho : POrd n o) (hp : POrd n p) (M : Mate r n o p) {x : Int} (hx : 0 ≤ x ∧ x < n) :
    ∃ U : Nat, o.idxOf x + unlikeL (askL r o x) (askL r p x) + 2 * U = p.idxOf x + unlikeL o p ∧ ((∀ y, relL o p y x = false) → U = 0) := by
  have A := asked_of F ho hp M hx
  have ho' := ho.ask (r := r) hx
  have hp' := hp.ask (r := r) hx
  have hR : POrd n (iR n) := perm_ord (List.Perm.refl _)
  have mx : x ∈ iR n := hR.has hx.1 hx.2
  have pT : (iR n).Perm (x :: (iR n).erase x) := List.perm_cons_erase mx
  generalize (iR n).erase x = T at pT
  have hL : POrd n (x :: T) := hR.perm pT.symm
  have nx : ∀ y ∈ T, y ≠ x := fun y hy z => (List.nodup_cons.mp hL.nd).1 (z ▸ hy)
  have rg : ∀ y ∈ T, 0 ≤ y ∧ y < n := fun y hy => hL.mem y (List.mem_cons_of_mem _ hy)
  rw [unlike_any hp' hL hL, unlike_any hp hL hL, pairL_cc _ _ _ (relL_self ..), pairL_cc _ _ _ (relL_self ..)]
  have cnt : ∀ {w : List Int}, POrd n w → w.idxOf x = T.countP fun y => decide (w.idxOf y < w.idxOf x) := fun {w} hw => by
    have hi := List.idxOf_lt_length_of_mem (hw.has hx.1 hx.2)
    have e : w[w.idxOf x]? = some x := by rw [List.getElem?_eq_getElem hi, List.getElem_idxOf hi]
    have tc := take_count hw.nd (Q := fun _ => true) e
    have l1 : (w.take (w.idxOf x)).countP (fun _ => true) = w.idxOf x := by
      rw [List.countP_true, List.length_take]
      omega
    rw [l1, (ord_perm hw hL).countP_eq, List.countP_cons] at tc
    simpa using tc
  have z1 : T.countP (fun y => relL (askL r o x) (askL r p x) y x) = 0 := List.countP_eq_zero.mpr fun y hy h => by
    have h := relL_t.mp h
    have := A.ahead y (nx y hy)
    omega
  have z2 : T.countP (fun y => relL (askL r o x) (askL r p x) x y) = 0 := List.countP_eq_zero.mpr fun y hy h => by
    have h := relL_t.mp h
    have := A.behind y (nx y hy)
    omega
  have z3 : pairL (relL (askL r o x) (askL r p x)) T T = pairL (relL o p) T T := pairL_congr fun y hy z hz => by
    rw [Bool.eq_iff_iff, relL_t, relL_t, A.other' _ _ (nx y hy) (nx z hz), A.other _ _ (nx z hz) (nx y hy)]
  have cs : T.countP (fun y => decide (o.idxOf y < o.idxOf x)) + T.countP (fun y => relL o p y x) = T.countP (fun y => decide (p.idxOf y < p.idxOf x)) + T.countP (fun y => relL o p x y) := count_sum T fun y hy => by
    have n1 := ord_ne ho (rg y hy) (nx y hy)
    have n2 := ord_ne hp (rg y hy) (nx y hy)
    by_cases c1 : o.idxOf y < o.idxOf x <;> by_cases c2 : p.idxOf y < p.idxOf x
    · have a1 : ¬ relL o p y x = true := fun h => by have := relL_t.mp h; omega
      have a2 : ¬ relL o p x y = true := fun h => by have := relL_t.mp h; omega
      simp [c1, c2, a1, a2]
    · have a1 : ¬ relL o p y x = true := fun h => by have := relL_t.mp h; omega
      have a2 : relL o p x y = true := relL_t.mpr ⟨by omega, by omega⟩
      simp [c1, c2, a1, a2]
    · have a1 : relL o p y x = true := relL_t.mpr ⟨by omega, by omega⟩
      have a2 : ¬ relL o p x y = true := fun h => by have := relL_t.mp h; omega
      simp [c1, c2, a1, a2]
    · have a1 : ¬ relL o p y x = true := fun h => by have := relL_t.mp h; omega
      have a2 : ¬ relL o p x y = true := fun h => by have := relL_t.mp h; omega
      simp [c1, c2, a1, a2]
  rw [← cnt ho, ← cnt hp] at cs
  refine ⟨T.countP (fun y => relL o p y x), by rw [z1, z2, z3]; omega, fun H => List.countP_eq_zero.mpr fun y hy h => ?_⟩
  rw [H y] at h
  cases h
/-- no text costs more from the one than from the other, but by what is unlike -/
theorem text_le {n : Nat} {r : List Int} (F : FrontR n r) : ∀ (t : List Int) {o p : List Int}, POrd n o → POrd n p → Mate r n o p → PText n t → payL r o t ≤ payL r p t + (unlikeL o p : Nat)
  | [], _, _, _, _, _, _ => by
    show (0 : Int) ≤ 0 + _
    omega
  | x :: t, o, p, ho, hp, M, ht => by
    have hx := ht x (List.mem_cons_self ..)
    obtain ⟨U, e, _⟩ := unlike_ask F ho hp M hx
    have ih := text_le F t (ho.ask (r := r) hx) (hp.ask (r := r) hx) (asked_of F ho hp M hx).mate fun l hl => ht l (List.mem_cons_of_mem _ hl)
    show (o.idxOf x : Int) + payL r (askL r o x) t ≤ (p.idxOf x : Int) + payL r (askL r p x) t + _
    omega
/-- .. and the other's own letters cost just so much more -/
theorem text_eq {n : Nat} {r : List Int} (F : FrontR n r) : ∀ (t dn : List Int) {o p : List Int}, POrd n o → POrd n p → Mate r n o p → PText n t →
    (∀ y ∈ dn, ∀ z, 0 ≤ z ∧ z < (n : Int) → (p.idxOf y < p.idxOf z ↔ o.idxOf y < o.idxOf z)) → t.Pairwise (fun y z => p.idxOf y < p.idxOf z) → (∀ z, 0 ≤ z ∧ z < (n : Int) → z ∈ dn ∨ z ∈ t) → payL r o t = payL r p t + (unlikeL o p : Nat)
  | [], dn, o, p, ho, hp, M, ht, J, I2, cv => by
    have e : unlikeL o p = 0 := by
      refine pairL_zero _ fun y hy z hz => Bool.eq_false_iff.mpr fun h => ?_
      have h := relL_t.mp h
      rcases cv z (hp.mem z hz) with q | q
      · have := J z q y (hp.mem y hy)
        omega
      · cases q
    show (0 : Int) = 0 + _
    omega
  | x :: t, dn, o, p, ho, hp, M, ht, J, I2, cv => by
    have hx := ht x (List.mem_cons_self ..)
    obtain ⟨U, e, hU⟩ := unlike_ask F ho hp M hx
    have A := asked_of F ho hp M hx
    have I2' := List.pairwise_cons.mp I2
    have hU := hU fun y => Bool.eq_false_iff.mpr fun h => by
      have h := relL_t.mp h
      by_cases hy : 0 ≤ y ∧ y < (n : Int)
      · rcases cv y hy with q | q
        · have := J y q x hx
          omega
        · rcases List.mem_cons.mp q with q | q
          · rw [q] at h
            omega
          · have := I2'.1 y q
            omega
      · have nm : y ∉ p := fun z => hy (hp.mem y z)
        have := List.idxOf_eq_length nm
        have := List.idxOf_lt_length_of_mem (hp.has hx.1 hx.2)
        omega
    have ih := text_eq F t (x :: dn) (ho.ask (r := r) hx) (hp.ask (r := r) hx) A.mate (fun l hl => ht l (List.mem_cons_of_mem _ hl)) (fun y hy z hz => by
      by_cases hyx : y = x
      · rw [hyx]
        by_cases hzx : z = x
        · rw [hzx]
          omega
        · exact (A.behind z hzx).symm
      · have hy := (List.mem_cons.mp hy).resolve_left hyx
        by_cases hzx : z = x
        · rw [hzx]
          exact (A.ahead y hyx).symm
        · rw [A.other' y z hyx hzx, A.other y z hyx hzx]
          exact J y hy z hz) (by
      refine I2'.2.imp_of_mem fun {y z} hy hz h => ?_
      have n1 : y ≠ x := fun z => by have := I2'.1 y hy; rw [z] at this; omega
      have n2 : z ≠ x := fun w => by have := I2'.1 z hz; rw [w] at this; omega
      exact (A.other' y z n1 n2).mpr h) (fun z hz => by
      rcases cv z hz with q | q
      · exact .inl (List.mem_cons_of_mem _ q)
      · rcases List.mem_cons.mp q with q | q
        · exact .inl (q ▸ List.mem_cons_self ..)
        · exact .inr q)
    show (o.idxOf x : Int) + payL r (askL r o x) t = (p.idxOf x : Int) + payL r (askL r p x) t + _
    omega
theorem ord_asc {n : Nat} {p : List Int} (hp : POrd n p) : p.Pairwise (fun y z => p.idxOf y < p.idxOf z) := by
  refine List.pairwise_iff_getElem.mpr fun i j hi hj hij => ?_
  rw [hp.nd.idxOf_getElem i hi, hp.nd.idxOf_getElem j hj]
  exact hij
theorem own_text {n : Nat} {r o p : List Int} (F : FrontR n r) (ho : POrd n o) (hp : POrd n p) (M : Mate r n o p) : payL r o p = payL r p p + (unlikeL o p : Nat) :=
  text_eq F p [] ho hp M hp.text (fun y hy => by cases hy) (ord_asc hp) fun z hz => .inr (hp.has hz.1 hz.2)
theorem unlike_tri {n : Nat} {o p t : List Int} (ho : POrd n o) (hp : POrd n p) (ht : POrd n t) : unlikeL o p ≤ unlikeL o t + unlikeL t p := by
  have hR : POrd n (iR n) := perm_ord (List.Perm.refl _)
  rw [unlike_any hp hR hR, unlike_any ht hR hR, unlike_any hp hR hR]
  have key : ∀ L : List Int, (∀ y ∈ L, 0 ≤ y ∧ y < (n : Int)) → pairL (relL o p) L (iR n) ≤ pairL (relL o t) L (iR n) + pairL (relL t p) L (iR n) := fun L => by
    induction L with
    | nil => exact fun _ => Nat.le_refl _
    | cons y L ih =>
      intro H
      have ih := ih fun z hz => H z (List.mem_cons_of_mem _ hz)
      have h1 : (iR n).countP (fun x => relL o p x y) ≤ (iR n).countP (fun x => relL o t x y) + (iR n).countP (fun x => relL t p x y) := count_or _ fun x hx h => by
        have h := relL_t.mp h
        have ne : x ≠ y := fun z => by rw [z] at h; omega
        have := ord_ne ht (hR.mem x hx) ne
        rcases Nat.lt_or_ge (t.idxOf x) (t.idxOf y) with c | c
        · exact .inl (relL_t.mpr ⟨c, h.2⟩)
        · exact .inr (relL_t.mpr ⟨h.1, by omega⟩)
      show ((y :: L).map _).sum ≤ ((y :: L).map _).sum + ((y :: L).map _).sum
      rw [List.map_cons, List.map_cons, List.map_cons, List.sum_cons, List.sum_cons, List.sum_cons]
      unfold pairL at ih
      omega
  exact key _ hR.mem
end Kx

-- M36aG
namespace Kx
open PySem PyProof.Rows L2 Mx
variable [TheDeck]
def srt (l : List Int) : List Int := l.mergeSort fun a b => decide (a ≤ b)
theorem srt_perm (l : List Int) : (srt l).Perm l := List.mergeSort_perm ..
theorem srt_asc (l : List Int) : (srt l).Pairwise (· ≤ ·) := by
  have h := List.pairwise_mergeSort (le := fun a b : Int => decide (a ≤ b)) (fun a b c h1 h2 => by
    have h1 := of_decide_eq_true h1
    have h2 := of_decide_eq_true h2
    exact decide_eq_true (by omega)) (fun a b => by
    rw [Bool.or_eq_true, decide_eq_true_iff, decide_eq_true_iff]
    omega) l
  exact h.imp fun h => of_decide_eq_true h
theorem srt_of {l s : List Int} (h1 : s.Perm l) (h2 : s.Pairwise (· ≤ ·)) : s = srt l :=
  List.Perm.eq_of_pairwise (le := (· ≤ ·)) (fun a b _ _ h1 h2 => Int.le_antisymm h1 h2) h2 (srt_asc l) (h1.trans (srt_perm l).symm)
theorem srt_eq {l k : List Int} (h : l.Perm k) : srt l = srt k := srt_of ((srt_perm l).trans h) (srt_asc l)
def leastL (r : List Int) (n : Nat) (o : List Int) : List Int := ((partsL r n).map fun p => srt ((o.take p.2).drop p.1)).flatten
def sp_own_rule : Mx.Spec := spF (α := (List Int × Nat × Nat) × Nat) (fun a => [.d (dT a.1.1), .d (pairN a.1.2)]) (fun a => FrontR a.2 a.1.1 ∧ Part a.1.1 a.2 a.1.2.1 a.1.2.2 ∧ a.2 ≤ 12) (fun a m => m = .d (dT (List.replicate (a.1.2.2 - a.1.2.1) 0)))
def sp__check_staying : Mx.Spec := spF (α := Nat) (fun a => [.d (dT (List.replicate a 0))]) (fun a => a ≤ 12) (fun a m => m = .d .none)
def isKind (s : Str) : Prop := s = Str.ofString "one" ∨ s = Str.ofString "all"
def sp_kind_of : Mx.Spec := spF (α := (List Int × Nat × Nat) × Nat) (fun a => [.d (dT a.1.1), .d (pairN a.1.2)]) (fun a => FrontR a.2 a.1.1 ∧ Part a.1.1 a.2 a.1.2.1 a.1.2.2 ∧ a.2 ≤ 12) (fun a m => ∃ s, isKind s ∧ m = .d (.str s))
def sp__is_even : Mx.Spec := spF (α := D) (fun a => [.d a]) (fun _ => False) (fun a m => m = .d .none)
def sp__least_part : Mx.Spec := spF (α := Str × D × List Int) (fun a => [.d (.str a.1), .d a.2.1, .d (dT a.2.2)]) (fun a => isKind a.1 ∧ a.2.2.length ≤ 12) (fun a m => m = .d (dT (srt a.2.2)))
def sp_least_order : Mx.Spec := spF (α := (List Int × List Int) × Nat) (fun a => [.d (dT a.1.1), .d (dT a.1.2)]) (fun a => FrontR a.2 a.1.1 ∧ POrd a.2 a.1.2 ∧ 1 ≤ a.2 ∧ a.2 ≤ 12) (fun a m => m = .d (dT (leastL a.1.1 a.2 a.1.2)))
def W_own_rule : Stm := sSeq (sAsg (xVar 1) (gTup (gCons (gName 2) (gCons (gName 3) (gNil))))) (sRet (xOp1 pTuple (odE (xLc (iTup (xSl (odS 0) (bSome (xVar 2)) (bSome (xVar 3)))) (gName 4) tYes (xOp2 pSub (odS 4) (odS 2)) [4]))))
def W__check_staying : Stm := sSeq (sSet 1 (xLc (iRange2 (aCons (xInt 1) (aCons (xOp1 pLen (odS 0)) (aNil)))) (gName 2) (tB (xOp2 pEq (odE (xOp2 pIx (odS 0) (odS 2))) (odS 2))) (xVar 2) [2])) (sIf (tAnd (tB (xOp2 pGt (odE (xOp1 pLen (odS 0))) (odE (xC (.int 7))))) (tB (xOp2 pGt (odE (xOp1 pLen (odS 1))) (odE (xInt 0))))) (sFail) (sSkip))
theorem front_part {n b e : Nat} {r : List Int} (F : FrontR n r) (P : Part r n b e) : ∀ q, b ≤ q → q < e → r.getD q 0 = (b : Int) := fun q h1 h2 => by
  have le := P.le
  obtain ⟨c, ec, c1, c2, c3⟩ := F.beg (p := q) (by omega)
  have h3 := P.beg q (by omega) h1
  by_cases z : c = b
  · rw [ec, z]
  · have := P.mid c (by omega) (by omega)
    rw [this] at c3
    cases c3
theorem part_vals {n b e : Nat} {r : List Int} (F : FrontR n r) (P : Part r n b e) : (r.take e).drop b = List.replicate (e - b) (b : Int) := by
  have le := P.le
  have lr := F.rule.len
  refine List.eq_replicate_iff.mpr ⟨by rw [List.length_drop, List.length_take]; omega, fun g hg => ?_⟩
  obtain ⟨i, hi, rfl⟩ := List.getElem_of_mem hg
  rw [List.length_drop, List.length_take] at hi
  rw [List.getElem_drop, List.getElem_take]
  have := front_part F P (b + i) (by omega) (by omega)
  rw [List.getD_eq_getElem?_getD, List.getElem?_eq_getElem (by omega)] at this
  exact this
theorem front_yes {n : Nat} {r : List Int} (F : FrontR n r) : frontB r n = true := by
  unfold frontB
  refine List.all_eq_true.mpr fun p hp => ?_
  have P := part_of (r := r) (n := n) (b := p.1) (e := p.2) hp
  unfold oddL
  rw [part_vals F P]
  rw [beq_iff_eq, List.filter_eq_nil_iff]
  intro g hg
  rw [List.eq_of_mem_replicate hg]
  simp
theorem part_mem {n b e : Nat} {o : List Int} (ho : POrd n o) (hbe : b ≤ e) {x : Int} : x ∈ (o.take e).drop b ↔ x ∈ o ∧ b ≤ o.idxOf x ∧ o.idxOf x < e := by
  constructor
  · intro h
    obtain ⟨i, hi, rfl⟩ := List.getElem_of_mem h
    rw [List.length_drop, List.length_take] at hi
    rw [List.getElem_drop, List.getElem_take]
    refine ⟨List.getElem_mem _, ?_⟩
    rw [ho.nd.idxOf_getElem]
    omega
  · rintro ⟨h1, h2, h3⟩
    have hi := List.idxOf_lt_length_of_mem h1
    rw [List.mem_drop_iff_getElem]
    refine ⟨o.idxOf x - b, by rw [List.length_take]; omega, ?_⟩
    rw [List.getElem_take]
    have : b + (o.idxOf x - b) = o.idxOf x := by omega
    simp only [this]
    exact List.getElem_idxOf hi
theorem Mate.part {n b e : Nat} {r o p : List Int} (ho : POrd n o) (hp : POrd n p) (M : Mate r n o p) (P : Part r n b e) : ((o.take e).drop b).Perm ((p.take e).drop b) := by
  have hb : isBeg r n b = true := isBeg_iff.mpr P.beg
  have he : isBeg r n e = true := isBeg_iff.mpr P.fin
  refine (List.perm_ext_iff_of_nodup ((ho.nd.sublist (List.take_sublist ..)).sublist (List.drop_sublist ..)) ((hp.nd.sublist (List.take_sublist ..)).sublist (List.drop_sublist ..))).mpr fun x => ?_
  have lt := P.lt
  rw [part_mem ho (by omega), part_mem hp (by omega)]
  have m1 := M b hb x
  have m2 := M e he x
  constructor
  · rintro ⟨h1, h2, h3⟩
    exact ⟨hp.has (ho.mem x h1).1 (ho.mem x h1).2, by omega, by omega⟩
  · rintro ⟨h1, h2, h3⟩
    exact ⟨ho.has (hp.mem x h1).1 (hp.mem x h1).2, by omega, by omega⟩
theorem Mate.least {n : Nat} {r o p : List Int} (ho : POrd n o) (hp : POrd n p) (M : Mate r n o p) : leastL r n o = leastL r n p := by
  unfold leastL
  congr 1
  exact List.map_congr_left fun q hq => srt_eq (M.part ho hp (part_of (r := r) (n := n) (b := q.1) (e := q.2) hq))
theorem h_own_rule (Z : XP) (ms : List MV) (Q : MV → Prop) (q : sp_own_rule.run Z ms Q) : W_own_rule.run Z (entry 5 ms) { nx := fun _ => Q (.d .none), rt := Q } := by
  obtain ⟨⟨⟨r, b, e⟩, n⟩, rfl, ⟨F, P, hn⟩, q⟩ := q
  dsimp only at F P hn q
  have q := q _ rfl
  have le := P.le
  have c1 : Mx.cutD (r.map PyData.int) (some (b : Int)) (some (e : Int)) = (List.replicate (e - b) (b : Int)).map PyData.int := by
    rw [cutD_map, ← part_vals F P]
    exact congrArg _ (cutD_mid ..)
  unfold pairN
  walk_at "mx"
  rw [c1]
  refine ⟨fun i acc => acc = (List.replicate i (0 : Int)).map PyData.int, rfl, ?_, ?_⟩
  · rintro i x acc hi rfl _
    obtain ⟨g, hg, rfl⟩ := dT_get hi
    obtain ⟨_, hg⟩ := List.getElem?_eq_some_iff.mp hg
    rw [List.getElem_replicate] at hg
    subst hg
    walk_at "mx"
    show _ ++ [_] = _
    have e : (List.replicate (i + 1) (0 : Int)).map PyData.int = (List.replicate i (0 : Int)).map PyData.int ++ [.int 0] := by
      rw [List.replicate_succ', List.map_append]
      rfl
    rw [Int.sub_self]
    exact e.symm
  refine ⟨by rw [List.length_map, List.length_replicate]; omega, noOwn1 (fun c h => nomatch h), ?_⟩
  rintro acc rfl
  rw [List.length_map, List.length_replicate]
  have lz : ((List.replicate (e - b) (0 : Int)).map PyData.int).length ≤ 12 := by rw [List.length_map, List.length_replicate]; omega
  walk_at "mx"
  exact q
theorem zero_at {m i : Nat} (h : i < m) : atI ((List.replicate m (0 : Int)).map PyData.int) (i : Int) = some (.int 0) := atI_map _ _ _ _ (by rw [List.getElem?_replicate, if_pos h])
theorem h_check_staying (Z : XP) (ms : List MV) (Q : MV → Prop) (q : sp__check_staying.run Z ms Q) : W__check_staying.run Z (entry 3 ms) { nx := fun _ => Q (.d .none), rt := Q } := by
  obtain ⟨m, rfl, hm, q⟩ := q
  have hm : m ≤ 12 := hm
  have q := q _ rfl
  have at0 := fun {i : Nat} (h : i < m) => zero_at h
  have lz : ((List.replicate m (0 : Int)).map PyData.int).length = m := by rw [List.length_map, List.length_replicate]
  show W__check_staying.run Z (entry 3 [.d (.tuple ((List.replicate m (0 : Int)).map PyData.int))]) _
  generalize (List.replicate m (0 : Int)).map PyData.int = U at *
  walk_at "mx"
  refine ⟨_, _, rfl, ⟨by omega, by omega, by omega, by omega⟩, ?_⟩
  refine ⟨fun i acc => acc = [], rfl, ?_, ?_⟩
  · rintro i x acc hi rfl _
    obtain ⟨hi, rfl⟩ := rng_get hi
    have a := at0 (i := i + 1) (by omega)
    rw [show ((i + 1 : Nat) : Int) = 1 + (i : Int) by omega] at a
    walk_at "mx"
    refine ⟨_, a, ?_⟩
    walk_at "mx"
    refine ite_b (fun c => ?_) (fun c => ?_)
    · rw [eqv_int] at c
      have := beq_iff_eq.mp c
      omega
    · exact ⟨rfl, rfl⟩
  refine ⟨by rw [rng_len]; omega, noOwn1 (fun c h => nomatch h), ?_⟩
  rintro acc rfl
  walk_at "mx"
  refine ite_d (fun c => ?_) (fun c => ?_)
  · walk_at "mx"
    exact q
  · refine ite_f (by decide) ?_
    walk_at "mx"
    exact q
end Kx

-- M36bG
namespace Kx
open PySem PyProof.Rows L2 Mx
variable [TheDeck]
def W_ko2 : Stm := (sSeq (sIf (tB (xOp2 pInD (odS 2) (odE (xC (.tuple [(.tuple [(.int 0), (.int 1), (.int 2), (.int 0), (.int 4), (.int 1)]), (.tuple [(.int 0), (.int 1), (.int 2), (.int 0), (.int 4), (.int 2)]), (.tuple [(.int 0), (.int 1), (.int 2), (.int 3), (.int 0), (.int 2)])]))))) (sRet (xStr "odd")) (sSkip)) (sSeq (sIf (tB (xOp1 pAll (odE (xLc (iLst (xVar 3)) (gName 5) tYes (xOp2 pEq (odE (xOp2 pMod (odS 5) (odE (xInt 2)))) (odE (xInt 0))) [5])))) (sRet (xStr "even")) (sSkip)) (sRet (xStr "all"))))
def W_kind_of : Stm := sSeq (sSet 2 (xCall sp_own_rule (aCons (xVar 0) (aCons (xVar 1) (aNil))))) (sSeq (sExpr (xCall sp__check_staying (aCons (xVar 2) (aNil)))) (sSeq (sSet 3 (xLc (iRange1 (aCons (xOp1 pLen (odS 2)) (aNil))) (gName 4) (tB (xOp2 pLt (odE (xOp2 pIx (odS 2) (odS 4))) (odS 4))) (xOp2 pSub (odS 4) (odE (xOp2 pIx (odS 2) (odS 4)))) [4])) (sSeq (sIf (tB (xOp2 pEq (odE (xOp1 pLen (odS 2))) (odE (xInt 1)))) (sRet (xStr "one")) (sSkip)) (sSeq (sIf (tAnd (tB (xOp2 pGe (odE (xOp1 pLen (odS 2))) (odE (xInt 3)))) (tB (xOp2 pEq (odE (xOp1 pLen (odS 3))) (odE (xInt 1))))) (sRet (xStr "round")) (sSkip)) W_ko2))))
def W__is_even_b1 : Stm := sAug 1 (fun i j => i + j) (xOp1 pLen (odE (xLc (iTup (xSl (odS 0) (bNone) (bSome (xVar 2)))) (gName 4) (tB (xOp2 pGt (odS 4) (odS 3))) (xVar 4) [4])))
def W__is_even : Stm := sSeq (sSet 1 (xInt 0)) (sSeq (sFor (iEnum (aCons (xVar 0) (aNil))) (gTup (gCons (gName 2) (gCons (gName 3) (gNil)))) W__is_even_b1) (sRet (xOp2 pEq (odE (xOp2 pMod (odS 1) (odE (xInt 2)))) (odE (xInt 0)))))
def W__least_part : Stm := sSeq (sIf (tB (xOp2 pEq (odS 0) (odE (xStr "round")))) (sSeq (sSet 4 (xMeth (pIndex .tuple) isTup (odS 2) (odE (xOp1 pMinL (odS 2))))) (sRet (xOp2 qAdd (odE (xSl (odS 2) (bSome (xVar 4)) (bNone))) (odE (xSl (odS 2) (bNone) (bSome (xVar 4))))))) (sSkip)) (sSeq (sIf (tB (xOp2 pEq (odS 0) (odE (xStr "odd")))) (sFail) (sSkip)) (sSeq (sSet 3 (xOp1 pTuple (odE (xOp1 pSortI (odS 2))))) (sSeq (sIf (tAnd (tB (xOp2 pEq (odS 0) (odE (xStr "even")))) (tNot (tB (xCall sp__is_even (aCons (xVar 2) (aNil)))))) (sRet (xOp2 qAdd (odE (xSl (odS 3) (bNone) (bSome (xOp1 pNeg (odE (xInt 2)))))) (odE (xTup (aCons (xOp2 pIx (odS 3) (odE (xOp1 pNeg (odE (xInt 1))))) (aCons (xOp2 pIx (odS 3) (odE (xOp1 pNeg (odE (xInt 2))))) (aNil))))))) (sSkip)) (sRetS 3))))
def W_least_order_b1 : Stm := sSeq (sSet 5 (xCall sp_kind_of (aCons (xVar 0) (aCons (xTup (aCons (xVar 3) (aCons (xVar 4) (aNil)))) (aNil))))) (sSeq (sSet 6 (xCall sp_own_rule (aCons (xVar 0) (aCons (xTup (aCons (xVar 3) (aCons (xVar 4) (aNil)))) (aNil))))) (sSet 2 (xOp2 qAdd (odS 2) (odE (xCall sp__least_part (aCons (xVar 5) (aCons (xVar 6) (aCons (xSl (odS 1) (bSome (xVar 3)) (bSome (xVar 4))) (aNil)))))))))
def W_least_order : Stm := sSeq (sSet 2 (xTup (aNil))) (sSeq (sFor (iTup (xCall sp_blocks (aCons (xVar 0) (aNil)))) (gTup (gCons (gName 3) (gCons (gName 4) (gNil)))) W_least_order_b1) (sRetS 2))
/-- 1 to i - 1 -/
def stL (i : Nat) : List Int := (List.range (i - 1)).map fun j : Nat => (1 : Int) + (j : Int)
theorem stL_succ (i : Nat) (h : 1 ≤ i) : stL (i + 1) = stL i ++ [(i : Int)] := by
  unfold stL
  obtain ⟨k, rfl⟩ : ∃ k, i = k + 1 := ⟨i - 1, by omega⟩
  show (List.range (k + 1)).map _ = (List.range k).map _ ++ _
  rw [List.range_succ, List.map_append]
  simp
  omega
def oddsD : List D := [(.tuple [(.int 0), (.int 1), (.int 2), (.int 0), (.int 4), (.int 1)]), (.tuple [(.int 0), (.int 1), (.int 2), (.int 0), (.int 4), (.int 2)]), (.tuple [(.int 0), (.int 1), (.int 2), (.int 3), (.int 0), (.int 2)])]
theorem odd_no (m : Nat) : (oddsD.any fun z => PyData.eqv z (dT (List.replicate m 0))) = false := by
  have one : ∀ a : List Int, (1 : Int) ∈ a → PyData.eqv (dT a) (dT (List.replicate m 0)) = false := fun a h => by
    rw [eqv_T]
    refine beq_eq_false_iff_ne.mpr fun z => ?_
    rw [z] at h
    have := List.eq_of_mem_replicate h
    cases this
  have e1 := one [0, 1, 2, 0, 4, 1] (by decide)
  have e2 := one [0, 1, 2, 0, 4, 2] (by decide)
  have e3 := one [0, 1, 2, 3, 0, 2] (by decide)
  show ((PyData.eqv (dT [0, 1, 2, 0, 4, 1]) _) || ((PyData.eqv (dT [0, 1, 2, 0, 4, 2]) _) || ((PyData.eqv (dT [0, 1, 2, 3, 0, 2]) _) || false))) = false
  rw [e1, e2, e3]
  rfl
theorem ko_all {M : Nat} (h : 2 ≤ M) : ((stL M).map fun j => decide (j % 2 = 0)).all id = false := by
  obtain ⟨k, rfl⟩ : ∃ k, M = k + 2 := ⟨M - 2, by omega⟩
  have e : stL (k + 2) = 1 :: ((List.range k).map Nat.succ).map fun j : Nat => (1 : Int) + (j : Int) := by
    unfold stL
    show (List.range (k + 1)).map _ = _
    rw [List.range_succ_eq_map, List.map_cons]
    rfl
  rw [e, List.map_cons, List.all_cons]
  rfl
theorem sl_T {xs : List D} {lo hi : Option Int} {Q : MV → Prop} (q : Q (.d (.tuple (Mx.cutD xs lo hi)))) : pSl.run (.tuple xs) lo hi Q := q
theorem h_ko2 {Z : XP} {M : Nat} {x0 x1 x4 : Option MV} {U : List D} {O : Out} (h : 2 ≤ M) (hM : M ≤ 12) (sh : SeqAt.shaped (.tuple U) = true) (dp : PyData.depth (.tuple U) ≤ 60) (no : (oddsD.any fun z => PyData.eqv z (.tuple U)) = false)
    (q : O.rt (.d (.str (Str.ofString "all")))) : W_ko2.run Z [x0, x1, some (.d (.tuple U)), some (.o (.lst ((stL M).map PyData.int))), x4, none] O := by
  have ls : (stL M).length = M - 1 := by unfold stL; rw [List.length_map, List.length_range]
  have al := ko_all h
  generalize stL M = S at *
  walk_at "mx"
  refine ⟨sh, rfl, dp, ?_⟩
  have no' := no
  unfold oddsD at no'
  rw [no']
  walk_at "mx"
  refine ⟨fun i acc => acc = (S.take i).map fun j => .bool (decide (j % 2 = 0)), rfl, ?_, ?_⟩
  · rintro i x acc hi rfl _
    obtain ⟨y, hy, rfl⟩ := dT_get hi
    walk_at "mx"
    show _ ++ [_] = _
    have e : PyData.eqv (.int (y % 2)) (.int 0) = decide (y % 2 = 0) := by
      rw [eqv_int]
      rfl
    rw [List.take_succ, hy, List.map_append, e]
    rfl
  refine ⟨by rw [List.length_map]; omega, noOwn1 (fun c h => nomatch h), ?_⟩
  rintro acc rfl
  rw [List.length_map, List.take_length]
  have eA : (S.map fun j => PyData.bool (decide (j % 2 = 0))) = (S.map fun j => decide (j % 2 = 0)).map PyData.bool := by
    rw [List.map_map]
    rfl
  rw [eA]
  generalize S.map (fun j => decide (j % 2 = 0)) = BB at *
  walk_at "mx"
  refine ⟨BB, rfl, ?_⟩
  refine ⟨_, rfl, ?_⟩
  rw [al]
  walk_at "mx"
  exact q
theorem h_kind_of (Z : XP) (ms : List MV) (Q : MV → Prop) (q : sp_kind_of.run Z ms Q) : W_kind_of.run Z (entry 6 ms) { nx := fun _ => Q (.d .none), rt := Q } := by
  obtain ⟨⟨⟨r, b, e⟩, n⟩, rfl, ⟨F, P, hn⟩, q⟩ := q
  dsimp only at F P hn q
  have le := P.le
  have lt := P.lt
  walk_at "mx"
  refine ⟨((r, b, e), n), rfl, ⟨F, P, hn⟩, ?_⟩
  rintro m rfl
  dsimp only
  obtain ⟨M, hM⟩ : ∃ M, e - b = M := ⟨_, rfl⟩
  rw [hM]
  walk_at "mx"
  refine ⟨M, rfl, by show M ≤ 12; omega, ?_⟩
  rintro m rfl
  have at0 := fun {i : Nat} (h : i < M) => zero_at h
  have lz : ((List.replicate M (0 : Int)).map PyData.int).length = M := by rw [List.length_map, List.length_replicate]
  have sh : SeqAt.shaped (dT (List.replicate M 0)) = true := shaped_T _
  have dp : PyData.depth (dT (List.replicate M 0)) ≤ 60 := by
    show PyData.depthAll _ + 1 ≤ 60
    rw [depth_ints]
    decide
  have no := odd_no M
  unfold dT at sh dp no ⊢
  generalize (List.replicate M (0 : Int)).map PyData.int = U at *
  walk_at "mx"
  rw [lz]
  refine ⟨⟨by omega, by omega⟩, fun i acc => acc = (stL i).map PyData.int, rfl, ?_, ?_⟩
  · rintro i x acc hi rfl _
    obtain ⟨hi, rfl⟩ := rng_get hi
    rw [show (0 : Int) + (i : Int) = (i : Int) by omega]
    have a := at0 (i := i) (by omega)
    walk_at "mx"
    refine ⟨_, a, ?_⟩
    walk_at "mx"
    refine ite_d (fun c => ?_) (fun c => ?_)
    · walk_at "mx"
      refine ⟨_, a, ?_⟩
      walk_at "mx"
      show _ ++ [_] = _
      rw [stL_succ i (by omega), List.map_append]
      rw [show (i : Int) - 0 = (i : Int) by omega]
      rfl
    · refine ⟨rfl, ?_⟩
      rw [show i = 0 by omega]
      rfl
  refine ⟨by rw [rng_len]; omega, noOwn1 (fun c h => nomatch h), ?_⟩
  rintro acc rfl
  rw [rng_len, show ((M : Int)).toNat = M by omega]
  have ls : (stL M).length = M - 1 := by unfold stL; rw [List.length_map, List.length_range]
  have lS : ((stL M).map PyData.int).length = M - 1 := by rw [List.length_map, ls]
  walk_at "mx"
  refine ite_b (fun c => ?_) (fun c => ?_)
  · walk_at "mx"
    exact q _ ⟨_, .inl rfl, rfl⟩
  · rw [eqv_int] at c
    have c1 : M ≠ 1 := by
      have := beq_eq_false_iff_ne.mp c
      omega
    have fin := fun {x4 : Option MV} => h_ko2 (Z := Z) (M := M) (x0 := some (.d (dT r))) (x1 := some (.d (pairN (b, e)))) (x4 := x4) (U := U) (O := { nx := fun _ => Q (.d .none), rt := Q }) (by omega) (by omega) sh dp no (q _ ⟨_, .inr rfl, rfl⟩)
    generalize W_ko2 = R at fin ⊢
    walk_at "mx"
    refine ite_d (fun c2 => ?_) (fun c2 => ?_)
    · walk_at "mx"
      refine ite_b (fun c3 => ?_) (fun c3 => ?_)
      · rw [eqv_int] at c3
        have := beq_iff_eq.mp c3
        omega
      · walk_at "mx"
        exact fin
    · refine ite_f (by decide) ?_
      walk_at "mx"
      exact fin
theorem h_is_even (Z : XP) (ms : List MV) (Q : MV → Prop) (q : sp__is_even.run Z ms Q) : W__is_even.run Z (entry 5 ms) { nx := fun _ => Q (.d .none), rt := Q } := by
  obtain ⟨a, rfl, h, q⟩ := q
  exact False.elim h
theorem h_least_part (Z : XP) (ms : List MV) (Q : MV → Prop) (q : sp__least_part.run Z ms Q) : W__least_part.run Z (entry 5 ms) { nx := fun _ => Q (.d .none), rt := Q } := by
  obtain ⟨⟨s, d, p⟩, rfl, ⟨hs, lp⟩, q⟩ := q
  dsimp only at hs lp q
  have q := q _ rfl
  have e1 : PyData.eqv (.str s) (.str (Str.ofString "round")) = false := by
    rcases hs with rfl | rfl <;> (simp only [PyData.eqv]; decide)
  have e2 : PyData.eqv (.str s) (.str (Str.ofString "odd")) = false := by
    rcases hs with rfl | rfl <;> (simp only [PyData.eqv]; decide)
  have e3 : PyData.eqv (.str s) (.str (Str.ofString "even")) = false := by
    rcases hs with rfl | rfl <;> (simp only [PyData.eqv]; decide)
  walk_at "mx"
  rw [e1]
  walk_at "mx"
  rw [e2]
  walk_at "mx"
  refine ⟨p, rfl, fun ns' h1 h2 => ?_⟩
  obtain rfl := srt_of h1 h2
  have lS : (srt p).length ≤ 12 := by rw [(srt_perm p).length_eq]; exact lp
  have lT : ((srt p).map PyData.int).length ≤ 12 := by rw [List.length_map]; exact lS
  walk_at "mx"
  rw [e3]
  walk_at "mx"
  exact q
theorem h_least_order (Z : XP) (ms : List MV) (Q : MV → Prop) (q : sp_least_order.run Z ms Q) : W_least_order.run Z (entry 7 ms) { nx := fun _ => Q (.d .none), rt := Q } := by
  obtain ⟨⟨⟨r, o⟩, n⟩, rfl, ⟨F, ho, n1, hn⟩, q⟩ := q
  dsimp only at F ho n1 hn q
  have q := q _ rfl
  have lo := ho.len
  have prt := fun {p : Nat × Nat} (h : p ∈ partsL r n) => part_of (r := r) (n := n) (b := p.1) (e := p.2) h
  have pl := parts_len (r := r) hn
  unfold leastL at q
  walk_at "mx"
  refine ⟨(r, n), rfl, ⟨F.rule, n1, hn⟩, ?_⟩
  rintro m rfl
  dsimp only
  generalize partsL r n = PP at *
  walk_at "mx"
  refine ⟨fun i e => ∃ (x3 x4 x5 x6 : Option MV), e = [some (.d (dT r)), some (.d (dT o)), some (.d (dT ((PP.take i).map fun p => srt ((o.take p.2).drop p.1)).flatten)), x3, x4, x5, x6], ⟨_, _, _, _, rfl⟩, ?_, ?_⟩
  · rintro i y e hy ⟨x3, x4, x5, x6, rfl⟩
    rw [List.getElem?_map] at hy
    obtain ⟨p, hp, rfl⟩ := Option.map_eq_some_iff.mp hy
    have P := prt (List.mem_of_getElem? hp)
    have c1 : Mx.cutD (o.map PyData.int) (some (p.1 : Int)) (some (p.2 : Int)) = ((o.take p.2).drop p.1).map PyData.int := by
      rw [cutD_map]
      exact congrArg _ (cutD_mid ..)
    have sl : ((o.take p.2).drop p.1).length ≤ 12 := by rw [List.length_drop, List.length_take]; omega
    have es : ((PP.take (i + 1)).map fun p => srt ((o.take p.2).drop p.1)).flatten = ((PP.take i).map fun p => srt ((o.take p.2).drop p.1)).flatten ++ srt ((o.take p.2).drop p.1) := by
      rw [List.take_succ, hp, List.map_append, List.flatten_append]
      simp
    have fl : (((PP.take i).map fun p => srt ((o.take p.2).drop p.1)).flatten).length ≤ 1000 := by
      have : ∀ L : List (Nat × Nat), ((L.map fun p => srt ((o.take p.2).drop p.1)).flatten).length ≤ L.length * 12 := fun L => by
        induction L with
        | nil => exact Nat.zero_le _
        | cons p L ih =>
          rw [List.map_cons, List.flatten_cons, List.length_append, (srt_perm _).length_eq, List.length_drop, List.length_take, List.length_cons]
          omega
      have h1 := this (PP.take i)
      have h2 : (PP.take i).length ≤ 12 := by rw [List.length_take]; omega
      omega
    generalize (o.take p.2).drop p.1 = S at *
    generalize ((PP.take i).map fun p => srt ((o.take p.2).drop p.1)).flatten = A at *
    unfold pairN
    walk_at "mx"
    refine ⟨((r, p.1, p.2), n), rfl, ⟨F, P, hn⟩, ?_⟩
    rintro m ⟨s, hs, rfl⟩
    walk_at "mx"
    refine ⟨((r, p.1, p.2), n), rfl, ⟨F, P, hn⟩, ?_⟩
    rintro m rfl
    dsimp only
    walk_at "mx"
    refine sl_T ?_
    rw [c1]
    walk_at "mx"
    refine ⟨(s, _, S), rfl, ⟨hs, sl⟩, ?_⟩
    rintro m rfl
    dsimp only
    walk_at "mx"
    have lS : (srt S).length ≤ 12 := by rw [(srt_perm S).length_eq]; exact sl
    refine ⟨by rw [List.length_map, List.length_map]; omega, ?_⟩
    rw [es]
    have eA : dT (A ++ srt S) = .tuple (A.map PyData.int ++ (srt S).map PyData.int) := by
      unfold dT
      rw [List.map_append]
    rw [eA]
    exact ⟨_, _, _, _, rfl⟩
  · rintro e ⟨x3, x4, x5, x6, rfl⟩
    rw [List.length_map, List.take_length]
    walk_at "mx"
    exact q
end Kx

-- M36mG
namespace Kx
open PySem PyProof.Rows L2 Mx
variable [TheDeck]
/-- where the parts begin, and n -/
def bnd (r : List Int) (n i : Nat) : Nat := (begs r n n ++ [n]).getD i n
theorem parts_get {r : List Int} {n i : Nat} {p : Nat × Nat} (h : (partsL r n)[i]? = some p) : p = (bnd r n i, bnd r n (i + 1)) := by
  unfold partsL at h
  obtain ⟨h1, h2⟩ := List.getElem?_zip_eq_some.mp h
  unfold bnd
  generalize begs r n n = B at *
  obtain ⟨hi, h1⟩ := List.getElem?_eq_some_iff.mp h1
  obtain ⟨a, b⟩ := p
  dsimp only at h1 h2
  congr 1
  · rw [List.getD_eq_getElem?_getD, List.getElem?_append_left hi, List.getElem?_eq_getElem hi, ← h1]
    rfl
  · have e : (B ++ [n])[i + 1]? = (B.drop 1 ++ [n])[i]? := by
      cases B with
      | nil => cases hi
      | cons x B => rfl
    rw [List.getD_eq_getElem?_getD, e, h2]
    rfl
theorem bnd_zero {r : List Int} {n : Nat} (hr : PRule n r) (n1 : 1 ≤ n) : bnd r n 0 = 0 := by
  have h0 : isBeg r n 0 = true := isBeg_iff.mpr fun q hq _ => by
    have hl := hr.len
    have := hr.ok q (r.getD q 0) (by rw [List.getD_eq_getElem?_getD, List.getElem?_eq_getElem (by omega)]; rfl)
    omega
  have hm : 0 ∈ begs r n n := by
    unfold begs
    rw [List.mem_filter, List.mem_range]
    exact ⟨n1, h0⟩
  have st := begs_sorted r n n
  unfold bnd
  generalize begs r n n = B at *
  cases B with
  | nil => cases hm
  | cons x B =>
    show x = 0
    rcases List.mem_cons.mp hm with h | h
    · exact h.symm
    · have := (List.pairwise_cons.mp st).1 0 h
      omega
theorem bnd_end {r : List Int} {n : Nat} : bnd r n (partsL r n).length = n := by
  have l : (partsL r n).length = (begs r n n).length := by
    unfold partsL
    rw [List.length_zip, List.length_append, List.length_drop]
    show min _ (_ - 1 + 1) = _
    omega
  rw [l]
  unfold bnd
  rw [List.getD_eq_getElem?_getD, List.getElem?_append_right (Nat.le_refl _), Nat.sub_self]
  rfl
/-- an order mixed up to a wall -/
structure MixTo (r o : List Int) (n E : Nat) (w : List Int) : Prop where
  pm : w.Perm (o.take E)
  at_ : ∀ b, b ≤ E → isBeg r n b = true → (w.take b).Perm (o.take b)
theorem MixTo.app {r o w ys : List Int} {n E b e : Nat} (ho : POrd n o) (h : MixTo r o n E w) (P : Part r n b e) (hE : E = b) (hy : ys.Perm ((o.take e).drop b)) : MixTo r o n e (w ++ ys) := by
  subst hE
  have lt := P.lt
  have le := P.le
  have lo := ho.len
  have lw : w.length = E := by rw [h.pm.length_eq, List.length_take]; omega
  have sp : o.take e = o.take E ++ (o.take e).drop E := by
    conv => lhs; rw [← List.take_append_drop E (o.take e), List.take_take, Nat.min_eq_left (by omega)]
  have all : (w ++ ys).Perm (o.take e) := by
    rw [sp]
    exact h.pm.append hy
  refine ⟨all, fun c hc hb => ?_⟩
  by_cases z : c ≤ E
  · rw [List.take_append_of_le_length (by omega)]
    exact h.at_ c z hb
  · by_cases z2 : c < e
    · rw [P.mid c (by omega) z2] at hb
      cases hb
    · have : c = e := by omega
      subst this
      rw [List.take_of_length_le (by rw [all.length_eq, List.length_take]; omega)]
      exact all
theorem MixTo.mate {r o w : List Int} {n : Nat} (ho : POrd n o) (h : MixTo r o n n w) : POrd n w ∧ Mate r n o w := by
  have lo := ho.len
  have pm := h.pm
  rw [List.take_of_length_le (by omega)] at pm
  have hw := ho.perm pm
  refine ⟨hw, fun b hb x => ?_⟩
  have key : ∀ {u : List Int}, u.Nodup → ∀ {c : Nat}, c ≤ u.length → (u.idxOf x < c ↔ x ∈ u.take c) := fun {u} nd {c} hc => by
    constructor
    · intro z
      have hl : u.idxOf x < u.length := by omega
      have e := List.getElem_idxOf hl
      rw [List.mem_take_iff_getElem]
      exact ⟨u.idxOf x, by omega, e⟩
    · intro z
      obtain ⟨i, hi, e⟩ := List.mem_take_iff_getElem.mp z
      rw [← e, nd.idxOf_getElem]
      omega
  by_cases z : b ≤ n
  · rw [key ho.nd (by omega), key hw.nd (by rw [hw.len]; exact z)]
    exact (h.at_ b z hb).mem_iff.symm
  · have h1 := List.idxOf_le_length (a := x) (l := o)
    have h2 := List.idxOf_le_length (a := x) (l := w)
    rw [hw.len] at h2
    omega
theorem parts_cover {r : List Int} {n p : Nat} (hr : PRule n r) (hp : p < n) : ∃ b e, (b, e) ∈ partsL r n ∧ b ≤ p ∧ p < e := by
  have key : ∀ k, k ≤ (partsL r n).length → p < bnd r n k → ∃ b e, (b, e) ∈ partsL r n ∧ b ≤ p ∧ p < e := fun k => by
    induction k with
    | zero =>
      intro _ h
      rw [bnd_zero hr (by omega)] at h
      omega
    | succ k ih =>
      intro hk h
      by_cases z : p < bnd r n k
      · exact ih (by omega) z
      · have e : (partsL r n)[k]? = some (partsL r n)[k] := List.getElem?_eq_getElem (by omega)
        have g := parts_get e
        have m := List.getElem_mem (l := partsL r n) (n := k) (by omega)
        rw [g] at m
        exact ⟨_, _, m, by omega, h⟩
  exact key _ (Nat.le_refl _) (by rw [bnd_end]; exact hp)
theorem front_of {n : Nat} {r : List Int} (hr : PRule n r) (h : frontB r n = true) : FrontR n r := by
  refine ⟨hr, fun p hp => ?_⟩
  obtain ⟨b, e, m, h1, h2⟩ := parts_cover hr hp
  have P := part_of m
  have le := P.le
  have lr := hr.len
  have o := beq_iff_eq.mp (List.all_eq_true.mp h _ m)
  have val : ∀ q, b ≤ q → q ≤ p → r.getD q 0 = (b : Int) := fun q q1 q2 => by
    by_cases z : r.getD q 0 = (b : Int)
    · exact z
    · exact absurd o (odd_of (p := (b, e)) lr P q1 (by show q < e; omega) z)
  exact ⟨b, val p h1 (Nat.le_refl _), h1, val⟩
end Kx

-- M36gG
namespace Kx
open PySem PyProof.Rows L2 Mx
variable [TheDeck]
abbrev R2N := (List Int × List Int × List Int) × Nat
def okG (a : R2N) : Prop := FrontR a.2 a.1.1 ∧ POrd a.2 a.1.2.1 ∧ POrd a.2 a.1.2.2 ∧ Mate a.1.1 a.2 a.1.2.1 a.1.2.2 ∧ 1 ≤ a.2 ∧ a.2 ≤ 12
def sp_comes_out : Mx.Spec := spF (α := R2N) (fun a => [.d (dT a.1.1), .d (dT a.1.2.1), .d (dT a.1.2.2)]) okG (fun a m => m = .d (.bool true))
def sp__check_bounded : Mx.Spec := spF (α := R2N) (fun a => [.d (dT a.1.1), .d (dT a.1.2.1), .d (dT a.1.2.2)]) okG (fun a m => m = .d .none)
def sp_gap : Mx.Spec := spF (α := R2N) (fun a => [.d (dT a.1.1), .d (dT a.1.2.1), .d (dT a.1.2.2)]) okG (fun a m => m = .d (.int (unlikeL a.1.2.1 a.1.2.2 : Nat)))
def sp_gap_text : Mx.Spec := spF (α := R2N) (fun a => [.d (dT a.1.1), .d (dT a.1.2.1), .d (dT a.1.2.2)]) okG (fun a m => m = .d (dT a.1.2.2))
def W_comes_out : Stm := sRet (xOp2 pEq (odE (xCall sp_least_order (aCons (xVar 0) (aCons (xVar 1) (aNil))))) (odE (xCall sp_least_order (aCons (xVar 0) (aCons (xVar 2) (aNil))))))
def W__check_bounded : Stm := sIf (tOr (tNot (tB (xCall sp_is_front (aCons (xVar 0) (aNil))))) (tNot (tB (xCall sp_comes_out (aCons (xVar 0) (aCons (xVar 1) (aCons (xVar 2) (aNil)))))))) (sFail) (sSkip)
def W_gap : Stm := sSeq (sExpr (xCall sp__check_bounded (aCons (xVar 0) (aCons (xVar 1) (aCons (xVar 2) (aNil)))))) (sRet (xCall sp_unlike (aCons (xVar 1) (aCons (xVar 2) (aNil)))))
def W_gap_text : Stm := sSeq (sExpr (xCall sp__check_bounded (aCons (xVar 0) (aCons (xVar 1) (aCons (xVar 2) (aNil)))))) (sRetS 2)
theorem h_comes_out (Z : XP) (ms : List MV) (Q : MV → Prop) (q : sp_comes_out.run Z ms Q) : W_comes_out.run Z (entry 3 ms) { nx := fun _ => Q (.d .none), rt := Q } := by
  obtain ⟨⟨⟨r, o, p⟩, n⟩, rfl, ⟨F, ho, hp, M, n1, hn⟩, q⟩ := q
  dsimp only at F ho hp M n1 hn q
  have q := q _ rfl
  have e := M.least ho hp
  walk_at "mx"
  refine ⟨((r, o), n), rfl, ⟨F, ho, n1, hn⟩, ?_⟩
  rintro m rfl
  walk_at "mx"
  refine ⟨((r, p), n), rfl, ⟨F, hp, n1, hn⟩, ?_⟩
  rintro m rfl
  dsimp only
  rw [e]
  generalize leastL r n p = L
  walk_at "mx"
  refine ⟨⟨shaped_T L, shaped_T L⟩, ?_⟩
  refine ⟨MVd_ne, ?_⟩
  rw [eqv_T, beq_self_eq_true]
  exact q
theorem h_check_bounded (Z : XP) (ms : List MV) (Q : MV → Prop) (q : sp__check_bounded.run Z ms Q) : W__check_bounded.run Z (entry 3 ms) { nx := fun _ => Q (.d .none), rt := Q } := by
  obtain ⟨⟨⟨r, o, p⟩, n⟩, rfl, hg, q⟩ := q
  obtain ⟨F, ho, hp, M, n1, hn⟩ := hg
  dsimp only at F ho hp M n1 hn q
  have q := q _ rfl
  walk_at "mx"
  refine ⟨(r, n), rfl, ⟨F.rule, n1, hn⟩, ?_⟩
  rintro m rfl
  dsimp only
  rw [front_yes F]
  walk_at "mx"
  refine ⟨((r, o, p), n), rfl, ⟨F, ho, hp, M, n1, hn⟩, ?_⟩
  rintro m rfl
  walk_at "mx"
  exact q
theorem h_gap (Z : XP) (ms : List MV) (Q : MV → Prop) (q : sp_gap.run Z ms Q) : W_gap.run Z (entry 3 ms) { nx := fun _ => Q (.d .none), rt := Q } := by
  obtain ⟨⟨⟨r, o, p⟩, n⟩, rfl, hg, q⟩ := q
  have hg' := hg
  obtain ⟨F, ho, hp, M, n1, hn⟩ := hg
  dsimp only at F ho hp M n1 hn q
  have q := q _ rfl
  walk_at "mx"
  refine ⟨((r, o, p), n), rfl, hg', ?_⟩
  rintro m rfl
  walk_at "mx"
  refine ⟨((o, p), n), rfl, ⟨ho, hp, by show n ≤ 1000; omega⟩, ?_⟩
  rintro m rfl
  exact ⟨MVd_ne, q⟩
theorem h_gap_text (Z : XP) (ms : List MV) (Q : MV → Prop) (q : sp_gap_text.run Z ms Q) : W_gap_text.run Z (entry 3 ms) { nx := fun _ => Q (.d .none), rt := Q } := by
  obtain ⟨⟨⟨r, o, p⟩, n⟩, rfl, hg, q⟩ := q
  have q := q _ rfl
  walk_at "mx"
  refine ⟨((r, o, p), n), rfl, hg, ?_⟩
  rintro m rfl
  walk_at "mx"
  exact q
end Kx

-- M65a
namespace Kx
open PySem PyProof.Rows L2 Mx
variable [TheDeck]
def sp__law_draw : Mx.Spec := spDrawG
def sp__law_pick : Mx.Spec := spF (α := List D) (fun xs => [.dk, .d (.list xs)]) (fun xs => xs ≠ [] ∧ xs.length ≤ 100000) (fun xs m => ∃ x, x ∈ xs ∧ m = .d x)
def W__law_pick : Stm := sRet (xOp2 pIx (odS 1) (odE (xCall sp__law_draw (aCons (xVar 0) (aCons (xOp1 pLen (odS 1)) (aNil))))))
theorem h_pick (Z : XP) (ms : List MV) (Q : MV → Prop) (q : sp__law_pick.run Z ms Q) : W__law_pick.run Z (entry 2 ms) { nx := fun _ => Q (.d .none), rt := Q } := by
  obtain ⟨xs, rfl, ⟨hn, hl⟩, q⟩ := q
  have h0 := List.length_pos_iff.mpr hn
  walk_at "mx"
  intro k k0 k1
  obtain ⟨j, rfl⟩ : ∃ j : Nat, k = j := ⟨k.toNat, by omega⟩
  have hj : j < xs.length := by omega
  walk_at "mx"
  refine ⟨_, atI_nat (List.getElem?_eq_getElem hj), ?_⟩
  walk_at "mx"
  exact q _ ⟨_, List.getElem_mem hj, rfl⟩
def seqD (b : Bool) (xs : List D) : D := match b with
  | true => .list xs
  | false => .tuple xs
def sp__law_mixed : Mx.Spec := spF (α := Bool × List D) (fun a => [.dk, .d (seqD a.1 a.2)]) (fun a => a.2.length ≤ 100000 ∧ ∀ x ∈ a.2, Okd x 100000 60) (fun a m => ∃ ys : List D, ys.Perm a.2 ∧ m = .o (.lst ys))
def W__law_mixed_b1 : Stm := sExpr (xAppend 3 (xPopAt 2 (xCall sp__law_draw (aCons (xVar 0) (aCons (xOp1 pLen (odS 2)) (aNil))))))
def W__law_mixed : Stm := sSeq (sPar 2 3 (xOp1 pList (odS 1)) (xLst (aNil))) (sSeq (sWhile (tB (xOp2 pNe (odS 2) (odE (xLst (aNil))))) W__law_mixed_b1) (sRetS 3))
theorem shaped_all {xs : List D} (h : ∀ x ∈ xs, Okd x 100000 60) : SeqAt.shaped (.list xs) = true := (Okd.lst h (Nat.le_refl _)).shaped (by decide)
theorem eqv_nil (x : D) (xs : List D) : PyData.eqv (.list (x :: xs)) (.list []) = false := by simp [PyData.eqv, PyData.eqvAll]
theorem eqv_nil0 : PyData.eqv (.list []) (.list []) = true := by simp [PyData.eqv, PyData.eqvAll]
theorem h_mixed (Z : XP) (ms : List MV) (Q : MV → Prop) (q : sp__law_mixed.run Z ms Q) : W__law_mixed.run Z (entry 4 ms) { nx := fun _ => Q (.d .none), rt := Q } := by
  obtain ⟨⟨b, xs⟩, rfl, ⟨hl, hk⟩, q⟩ := q
  dsimp only at hl hk q
  cases b with
  | true =>
    unfold seqD
    walk_at "mx"
    refine ⟨fun m e => ∃ left rest : List D, e = [some .dk, some (.d (.list xs)), some (.o (.lst left)), some (.o (.lst rest))] ∧ (left ++ rest).Perm xs ∧ m = left.length, ⟨_, xs, [], rfl, by rw [List.append_nil], rfl⟩, ?_⟩
    rintro m e ⟨left, rest, rfl, hp, rfl⟩
    have hlen := hp.length_eq
    rw [List.length_append] at hlen
    have hkl : ∀ x ∈ left, Okd x 100000 60 := fun x hx => hk x (hp.mem_iff.mp (List.mem_append_left _ hx))
    walk_at "mx"
    refine ⟨⟨shaped_all hkl, shaped_all (fun x h => nomatch h)⟩, ?_⟩
    walk_at "mx"
    refine ite_nb (fun c => ?_) (fun c => ?_)
    · have h0 : 0 < left.length := by cases left with
        | nil => exact absurd ((show PyData.eqv (.list []) (.list []) = false from c).symm.trans eqv_nil0) (by decide)
        | cons _ _ => exact Nat.succ_pos _
      walk_at "mx"
      intro k a b
      obtain ⟨j, rfl⟩ : ∃ j : Nat, k = j := ⟨k.toNat, by omega⟩
      have hj : j < left.length := by omega
      refine ⟨j, rfl, by omega, _, left[j], rfl, List.getElem?_eq_getElem hj, ?_⟩
      refine ⟨_, rfl, by omega, ?_⟩
      refine ⟨_, ?_, left.eraseIdx j, rest ++ [left[j]], ?_, ?_, rfl⟩
      · rw [List.length_eraseIdx_of_lt hj]; omega
      · rfl
      · refine List.Perm.trans ?_ hp
        rw [← List.append_assoc]
        refine (List.perm_append_comm).trans ?_
        show (left[j] :: (left.eraseIdx j ++ rest)).Perm _
        rw [← List.cons_append]
        exact List.Perm.append_right _ (perm_eraseIdx _ _ hj)
    · obtain rfl : left = [] := by
        cases left with
        | nil => rfl
        | cons x r => exact absurd ((show PyData.eqv (.list (x :: r)) (.list []) = true from c).symm.trans (eqv_nil x r)) (by decide)
      walk_at "mx"
      exact q _ ⟨rest, hp, rfl⟩
  | false =>
    unfold seqD
    walk_at "mx"
    refine ⟨fun m e => ∃ left rest : List D, e = [some .dk, some (.d (.tuple xs)), some (.o (.lst left)), some (.o (.lst rest))] ∧ (left ++ rest).Perm xs ∧ m = left.length, ⟨_, xs, [], rfl, by rw [List.append_nil], rfl⟩, ?_⟩
    rintro m e ⟨left, rest, rfl, hp, rfl⟩
    have hlen := hp.length_eq
    rw [List.length_append] at hlen
    have hkl : ∀ x ∈ left, Okd x 100000 60 := fun x hx => hk x (hp.mem_iff.mp (List.mem_append_left _ hx))
    walk_at "mx"
    refine ⟨⟨shaped_all hkl, shaped_all (fun x h => nomatch h)⟩, ?_⟩
    walk_at "mx"
    refine ite_nb (fun c => ?_) (fun c => ?_)
    · have h0 : 0 < left.length := by cases left with
        | nil => exact absurd ((show PyData.eqv (.list []) (.list []) = false from c).symm.trans eqv_nil0) (by decide)
        | cons _ _ => exact Nat.succ_pos _
      walk_at "mx"
      intro k a b
      obtain ⟨j, rfl⟩ : ∃ j : Nat, k = j := ⟨k.toNat, by omega⟩
      have hj : j < left.length := by omega
      refine ⟨j, rfl, by omega, _, left[j], rfl, List.getElem?_eq_getElem hj, ?_⟩
      refine ⟨_, rfl, by omega, ?_⟩
      refine ⟨_, ?_, left.eraseIdx j, rest ++ [left[j]], ?_, ?_, rfl⟩
      · rw [List.length_eraseIdx_of_lt hj]; omega
      · rfl
      · refine List.Perm.trans ?_ hp
        rw [← List.append_assoc]
        refine (List.perm_append_comm).trans ?_
        show (left[j] :: (left.eraseIdx j ++ rest)).Perm _
        rw [← List.cons_append]
        exact List.Perm.append_right _ (perm_eraseIdx _ _ hj)
    · obtain rfl : left = [] := by
        cases left with
        | nil => rfl
        | cons x r => exact absurd ((show PyData.eqv (.list (x :: r)) (.list []) = true from c).symm.trans (eqv_nil x r)) (by decide)
      walk_at "mx"
      exact q _ ⟨rest, hp, rfl⟩
def unI : D → Int
  | .int i => i
  | _ => 0
theorem perm_map {ys : List D} {l : List Int} (h : ys.Perm (l.map PyData.int)) : ∃ zs : List Int, zs.Perm l ∧ ys = zs.map PyData.int := by
  refine ⟨ys.map unI, ?_, ?_⟩
  · have := h.map unI
    rw [List.map_map] at this
    rw [show (unI ∘ PyData.int) = id from rfl, List.map_id] at this
    exact this
  · rw [List.map_map]
    conv => lhs; rw [← List.map_id ys]
    refine List.map_congr_left fun y hy => ?_
    obtain ⟨i, _, rfl⟩ := List.mem_map.mp (h.mem_iff.mp hy)
    rfl
theorem okd_ints {l : List Int} (h : ∀ i ∈ l, -(10 ^ 20) ≤ i ∧ i ≤ (10 ^ 20 : Int)) : ∀ x ∈ l.map PyData.int, Okd x 100000 60 := fun x hx => by
  obtain ⟨i, hi, rfl⟩ := List.mem_map.mp hx
  exact (Okd.int (h i hi)).mono (by decide) (by decide)
/-- the numbers to n, mixed -/
theorem mixed_R {n : Nat} (hn : n ≤ 1000) {P : MV → Prop} (q : ∀ o : List Int, POrd n o → P (.o (.lst (o.map PyData.int)))) : ((rng 0 (n : Int).toNat).length ≤ 100000 ∧ ∀ x ∈ rng 0 (n : Int).toNat, Okd x 100000 60) ∧ ∀ m, (∃ ys : List D, ys.Perm (rng 0 (n : Int).toNat) ∧ m = .o (.lst ys)) → P m := by
  rw [Int.toNat_natCast, rng_iR]
  refine ⟨⟨by rw [List.length_map, iR_length]; omega, okd_ints fun i hi => by have := mem_iR.mp hi; omega⟩, ?_⟩
  rintro m ⟨ys, hp, rfl⟩
  obtain ⟨zs, hz, rfl⟩ := perm_map hp
  exact q zs (perm_ord hz)
def sp__law_list : Mx.Spec := spF (α := Nat) (fun n => [.dk, .d (.int n)]) (fun n => n ≤ 1000) (fun n m => ∃ o : List Int, POrd n o ∧ m = .d (dT o))
def W__law_list : Stm := sRet (xOp1 pTuple (odE (xCall sp__law_mixed (aCons (xVar 0) (aCons (xListR1 (xVar 1)) (aNil))))))
theorem h_list (Z : XP) (ms : List MV) (Q : MV → Prop) (q : sp__law_list.run Z ms Q) : W__law_list.run Z (entry 2 ms) { nx := fun _ => Q (.d .none), rt := Q } := by
  obtain ⟨n, rfl, hn, q⟩ := q
  walk_at "mx"
  refine ⟨by omega, by omega, ?_⟩
  walk_at "mx"
  refine ⟨(true, _), rfl, ?_⟩
  refine mixed_R (n := n) hn fun o ho => ?_
  have hol := ho.len
  walk_at "mx"
  exact q _ ⟨o, ho, rfl⟩

def sp__law_step : Mx.Spec := spF (α := RI) (fun a => [.d (dT a.1), .d (dT a.2.1), .d (.int a.2.2)]) (fun a => PAsk a.1 a.2.1 a.2.2) (fun a m => m = .d (dT (askL a.1 a.2.1 a.2.2)))
def sp__law_went : Mx.Spec := spF (α := RO) (fun a => [.d (dT a.1.1), .d (dT a.1.2.1), .d (dT a.1.2.2)]) (fun a => PRun a.1.1 a.1.2.1 a.1.2.2 a.2) (fun a m => m = .d (.tuple [dT (runL a.1.1 a.1.2.1 a.1.2.2), .int (payL a.1.1 a.1.2.1 a.1.2.2)]))
def sp__law_apart : Mx.Spec := spF (α := (List Int × List Int) × Nat) (fun a => [.d (dT a.1.1), .d (dT a.1.2)]) (fun a => POrd a.2 a.1.1 ∧ POrd a.2 a.1.2 ∧ a.2 ≤ 12) (fun a m => m = .d (.int (unlikeL a.1.1 a.1.2 : Nat)))
def sp__law_are_letters : Mx.Spec := spF (α := Nat × List Int) (fun a => [.d (.int a.1), .d (dT a.2)]) (fun a => PText a.1 a.2) (fun a m => m = .d (.bool true))
def sp__law_is_list : Mx.Spec := spF (α := Nat × List Int) (fun a => [.d (.int a.1), .d (dT a.2)]) (fun a => POrd a.1 a.2 ∧ a.1 ≤ 12) (fun a m => m = .d (.bool true))
def sp__law_is_text : Mx.Spec := spF (α := Nat × List Int) (fun a => [.d (.int a.1), .d (dT a.2)]) (fun a => PText a.1 a.2 ∧ a.2.length ≤ 400) (fun a m => m = .d (.bool true))
def bgN (r : List Int) (n : Nat) : List D := (begs r n n ++ [n]).map fun p : Nat => .int (p : Int)
def sp__law_begins : Mx.Spec := spF (α := List Int × Nat) (fun a => [.d (dT a.1)]) (fun a => PRule a.2 a.1 ∧ 1 ≤ a.2 ∧ a.2 ≤ 12) (fun a m => m = .o (.lst (bgN a.1 a.2)))
def sp__law_fronts : Mx.Spec := spF (α := List Int × Nat) (fun a => [.d (dT a.1)]) (fun a => PRule a.2 a.1 ∧ 1 ≤ a.2 ∧ a.2 ≤ 12) (fun a m => m = .d (.bool (frontB a.1 a.2)))
def sp__law_small : Mx.Spec := spF (α := Nat) (fun n => [.dk, .d (.int n)]) (fun n => 1 ≤ n ∧ n ≤ 12) (fun n m => ∃ r : List Int, PRule n r ∧ m = .d (dT r))
def sp__law_rule : Mx.Spec := spF (α := Nat) (fun n => [.dk, .d (.int n)]) (fun n => 1 ≤ n ∧ n ≤ 12) (fun n m => ∃ r : List Int, PRule n r ∧ m = .d (dT r))
def sp__law_within : Mx.Spec := spF (α := (List Int × List Int) × Nat) (fun a => [.dk, .d (dT a.1.1), .d (dT a.1.2)]) (fun a => PRule a.2 a.1.1 ∧ POrd a.2 a.1.2 ∧ 1 ≤ a.2 ∧ a.2 ≤ 12) (fun a m => ∃ w : List Int, POrd a.2 w ∧ Mate a.1.1 a.2 a.1.2 w ∧ m = .d (dT w))
def W__law_step : Stm := sSeq (sSet 3 (xMeth (pIndex .tuple) isTup (odS 1) (odS 2))) (sSeq (sSet 4 (xOp2 qAdd (odE (xSl (odS 1) (bNone) (bSome (xVar 3)))) (odE (xSl (odS 1) (bSome (xOp2 qAdd (odS 3) (odE (xInt 1)))) (bNone))))) (sRet (xOp2 qAdd (odE (xOp2 qAdd (odE (xSl (odS 4) (bNone) (bSome (xOp2 pIx (odS 0) (odS 3))))) (odE (xTup (aCons (xVar 2) (aNil)))))) (odE (xSl (odS 4) (bSome (xOp2 pIx (odS 0) (odS 3))) (bNone))))))
def W__law_went_b1 : Stm := sSeq (sSet 3 (xOp2 qAdd (odS 3) (odE (xMeth (pIndex .tuple) isTup (odS 1) (odS 4))))) (sSet 1 (xCall sp__law_step (aCons (xVar 0) (aCons (xVar 1) (aCons (xVar 4) (aNil))))))
def W__law_went : Stm := sSeq (sSet 3 (xInt 0)) (sSeq (sFor (iTup (xVar 2)) (gName 4) W__law_went_b1) (sRet (xTup (aCons (xVar 1) (aCons (xVar 3) (aNil))))))
def W__law_apart_b1 : Stm := sSet 2 (xOp2 qAdd (odS 2) (odE (xOp1 pLen (odE (xLc (iTup (xSl (odS 0) (bNone) (bSome (xVar 3)))) (gName 5) (tB (xOp2 pGt (odE (xMeth (pIndex .tuple) isTup (odS 1) (odS 5))) (odE (xMeth (pIndex .tuple) isTup (odS 1) (odS 4))))) (xVar 5) [5])))))
def W__law_apart : Stm := sSeq (sSet 2 (xInt 0)) (sSeq (sFor (iEnum (aCons (xVar 0) (aNil))) (gTup (gCons (gName 3) (gCons (gName 4) (gNil)))) W__law_apart_b1) (sRetS 2))
def W__law_are_letters_b1 : Stm := sIf (tOr (tNot (tB (xOp1 (pIsi "int") (odS 2)))) (tOr (tB (xOp1 (pIsi "bool") (odS 2))) (tNot (tB (xCh (fun i j => decide (i ≤ j)) (fun i j => decide (i < j)) (odE (xInt 0)) (odS 2) (odS 0)))))) (sRet (xBool false)) (sSkip)
def W__law_are_letters : Stm := sSeq (sFor (iTup (xVar 1)) (gName 2) W__law_are_letters_b1) (sRet (xBool true))
def W__law_is_list : Stm := sSeq (sIf (tOr (tNot (tB (xOp1 (pIsi "tuple") (odS 1)))) (tOr (tB (xOp2 pNe (odE (xOp1 pLen (odS 1))) (odS 0))) (tNot (tB (xCall sp__law_are_letters (aCons (xVar 0) (aCons (xVar 1) (aNil)))))))) (sRet (xBool false)) (sSkip)) (sRet (xOp2 pEq (odE (xOp1 pSortI (odS 1))) (odE (xListR1 (xVar 0)))))
def W__law_is_text : Stm := sRet (xAnd (xOp1 (pIsi "tuple") (odS 1)) (xAnd (xOp2 pLe (odE (xOp1 pLen (odS 1))) (odE (xInt 400))) (xCall sp__law_are_letters (aCons (xVar 0) (aCons (xVar 1) (aNil))))))
def W__law_begins_b1 : Stm := sIf (tB (xOp2 pEq (odE (xLc (iTup (xSl (odS 0) (bSome (xVar 2)) (bNone))) (gName 3) (tB (xOp2 pLt (odS 3) (odS 2))) (xInt 1) [3])) (odE (xLst (aNil))))) (sExpr (xAppend 1 (xVar 2))) (sSkip)
def W__law_begins : Stm := sSeq (sSet 1 (xLst (aNil))) (sSeq (sFor (iRange1 (aCons (xOp1 pLen (odS 0)) (aNil))) (gName 2) W__law_begins_b1) (sRet (xOp2 qAdd (odS 1) (odE (xLst (aCons (xOp1 pLen (odS 0)) (aNil)))))))
def W__law_fronts_b1 : Stm := sIf (tB (xOp2 pNe (odE (xLc (iTup (xSl (odS 0) (bSome (xVar 2)) (bSome (xVar 3)))) (gName 4) (tB (xOp2 pNe (odS 4) (odS 2))) (xInt 1) [4])) (odE (xLst (aNil))))) (sRet (xBool false)) (sSkip)
def W__law_fronts : Stm := sSeq (sSet 1 (xCall sp__law_begins (aCons (xVar 0) (aNil)))) (sSeq (sFor (iZip (aCons (xVar 1) (aCons (xSl (odS 1) (bSome (xInt 1)) (bNone)) (aNil)))) (gTup (gCons (gName 2) (gCons (gName 3) (gNil)))) W__law_fronts_b1) (sRet (xBool true)))
def W__law_small : Stm := sRet (xOp1 pTuple (odE (xLc (iRange1 (aCons (xVar 1) (aNil))) (gName 2) tYes (xCall sp__law_draw (aCons (xVar 0) (aCons (xOp2 qAdd (odS 2) (odE (xInt 1))) (aNil)))) [2])))
def W_ru3 : Stm := (sSeq (sIf (tB (xOp2 pEq (odS 2) (odE (xInt 3)))) (sSet 5 (xOp2 pMax2 (odE (xInt 0)) (odE (xOp2 pSub (odE (xOp2 pSub (odS 4) (odE (xInt 1)))) (odE (xCall sp__law_draw (aCons (xVar 0) (aCons (xInt 2) (aNil))))))))) (sSkip)) (sExpr (xAppend 3 (xVar 5))))
def W_ru2 : Stm := (sSeq (sIf (tB (xOp2 pEq (odS 2) (odE (xInt 2)))) (sSet 5 (xIf (tB (xOp2 pEq (odE (xCall sp__law_draw (aCons (xVar 0) (aCons (xInt 3) (aNil))))) (odE (xInt 0)))) (xVar 4) (xOp2 pIx (odS 3) (odE (xOp1 pNeg (odE (xInt 1))))))) (sSkip)) W_ru3)
def W__law_rule_b1 : Stm := sSeq (sSet 5 (xCall sp__law_draw (aCons (xVar 0) (aCons (xOp2 qAdd (odS 4) (odE (xInt 1))) (aNil))))) (sSeq (sIf (tB (xOp2 pEq (odS 2) (odE (xInt 1)))) (sSet 5 (xInt 0)) (sSkip)) W_ru2)
def W__law_rule : Stm := sSeq (sPar 2 3 (xCall sp__law_draw (aCons (xVar 0) (aCons (xInt 5) (aNil)))) (xLst (aCons (xInt 0) (aNil)))) (sSeq (sFor (iRange2 (aCons (xInt 1) (aCons (xVar 1) (aNil)))) (gName 4) W__law_rule_b1) (sRet (xOp1 pTuple (odS 3))))
def W__law_within_b1 : Stm := sSet 4 (xOp2 qAdd (odS 4) (odE (xCall sp__law_mixed (aCons (xVar 0) (aCons (xSl (odS 2) (bSome (xVar 5)) (bSome (xVar 6))) (aNil))))))
def W__law_within : Stm := sSeq (sPar 3 4 (xCall sp__law_begins (aCons (xVar 1) (aNil))) (xLst (aNil))) (sSeq (sFor (iZip (aCons (xVar 3) (aCons (xSl (odS 3) (bSome (xInt 1)) (bNone)) (aNil)))) (gTup (gCons (gName 5) (gCons (gName 6) (gNil)))) W__law_within_b1) (sRet (xOp1 pTuple (odS 4))))
theorem h_step (Z : XP) (ms : List MV) (Q : MV → Prop) (q : sp__law_step.run Z ms Q) : W__law_step.run Z (entry 5 ms) { nx := fun _ => Q (.d .none), rt := Q } := by
  obtain ⟨⟨r, o, l⟩, rfl, h, q⟩ := q
  dsimp only at h q
  have q := q _ rfl
  have hp : o.idxOf l < o.length := List.idxOf_lt_length_of_mem h.hl
  obtain ⟨g, hg⟩ : ∃ g, r[o.idxOf l]? = some g := ⟨_, List.getElem?_eq_getElem (by rw [h.hr]; exact hp)⟩
  obtain ⟨h0, h1⟩ := h.ok _ _ hg
  have hgd : r.getD (o.idxOf l) 0 = g := by rw [List.getD_eq_getElem?_getD, hg]; rfl
  obtain ⟨k, rfl⟩ : ∃ k : Nat, g = (k : Int) := ⟨g.toNat, by omega⟩
  have hl := h.hl; have hz := h.hz
  have i1 : atI (r.map PyData.int) ((o.idxOf l : Nat) : Int) = some (.int (k : Int)) := atI_map _ _ _ _ hg
  have e : askL r o l = (o.eraseIdx (o.idxOf l)).take k ++ [l] ++ (o.eraseIdx (o.idxOf l)).drop k := by simp only [askL, hgd, Int.toNat_natCast]
  have c0 : Mx.cutD (o.map PyData.int) none (some ((o.idxOf l : Nat) : Int)) ++ Mx.cutD (o.map PyData.int) (some (((o.idxOf l : Nat) : Int) + 1)) none = (o.eraseIdx (o.idxOf l)).map PyData.int := by
    rw [cutD_map, cutD_map, cutD_to, cutD_from1, ← List.map_append, erase_cut]
  have lE : (o.eraseIdx (o.idxOf l)).length ≤ 1000 := Nat.le_trans (List.length_eraseIdx_le ..) hz
  rw [e] at q
  walk_at "mx"
  rw [c0]
  generalize o.eraseIdx (o.idxOf l) = E at *
  generalize o.idxOf l = p at *
  walk_at "mx"
  refine rt_eq ?_ q
  unfold dT
  rw [List.map_append, List.map_append, cutD_map, cutD_map, cutD_to, cutD_from]
  rfl
theorem pay_take {r o t : List Int} {i : Nat} {l : Int} (h : t[i]? = some l) : payL r o (t.take (i + 1)) = payL r o (t.take i) + ((runL r o (t.take i)).idxOf l : Int) := by
  have app : ∀ (a b o : List Int), payL r o (a ++ b) = payL r o a + payL r (runL r o a) b := fun a => by
    induction a with
    | nil =>
      intro b o
      show payL r o b = 0 + payL r o b
      omega
    | cons x a ih =>
      intro b o
      show (o.idxOf x : Int) + payL r (askL r o x) (a ++ b) = (o.idxOf x : Int) + payL r (askL r o x) a + payL r (runL r (askL r o x) a) b
      rw [ih]
      omega
  rw [List.take_succ, h, app]
  show _ + (((runL r o (t.take i)).idxOf l : Int) + 0) = _
  omega
theorem h_went (Z : XP) (ms : List MV) (Q : MV → Prop) (q : sp__law_went.run Z ms Q) : W__law_went.run Z (entry 5 ms) { nx := fun _ => Q (.d .none), rt := Q } := by
  obtain ⟨⟨⟨r, o, t⟩, n⟩, rfl, h, q⟩ := q
  dsimp only at h q
  have q := q _ rfl
  walk_at "mx"
  refine ⟨fun i e => ∃ x4, e = [some (.d (dT r)), some (.d (dT (runL r o (t.take i)))), some (.d (dT t)), some (.d (.int (payL r o (t.take i)))), x4], ⟨_, rfl⟩, ?_, ?_⟩
  · rintro i x e hi ⟨x4, rfl⟩
    obtain ⟨l, hl, rfl⟩ := dT_get hi
    have hm := h.t l (List.mem_of_getElem? hl)
    have hr2 : POrd n (runL r o (t.take i)) := h.o.run (h.t.take i)
    have hin := hr2.has hm.1 hm.2
    have pk := pask h.r hr2 h.hn hm
    dsimp only
    rw [pay_take hl, runL_take hl]
    generalize runL r o (t.take i) = w at *
    walk_at "mx"
    refine ⟨(r, w, l), rfl, pk, ?_⟩
    rintro m rfl
    exact ⟨_, rfl⟩
  · rintro e ⟨x4, rfl⟩
    rw [List.length_map, List.take_length]
    walk_at "mx"
    exact q
theorem h_apart (Z : XP) (ms : List MV) (Q : MV → Prop) (q : sp__law_apart.run Z ms Q) : W__law_apart.run Z (entry 6 ms) { nx := fun _ => Q (.d .none), rt := Q } := by
  obtain ⟨⟨⟨p, o⟩, n⟩, rfl, ⟨hp, ho, hn⟩, q⟩ := q
  dsimp only at ho hp hn q
  have lp := hp.len
  have q := q _ rfl
  rw [unlike_symm hp ho, ← cnts_sum hp] at q
  unfold W__law_apart
  walk_at "mx"
  refine ⟨_, _, rfl, rfl, ?_⟩
  refine ⟨fun i e => ∃ (x3 x4 : Option MV), e = [some (.d (dT p)), some (.d (dT o)), some (.d (.int (cntsL o p i).sum)), x3, x4, none], ⟨_, _, rfl⟩, ?_, ?_⟩
  · rintro i x e hi ⟨x3, x4, rfl⟩
    obtain ⟨y, hy, rfl⟩ := enumL_get hi
    obtain ⟨v, hv, rfl⟩ := dT_get hy
    have hi2 : i < p.length := (List.getElem?_eq_some_iff.mp hv).1
    have ev : p.getD i 0 = v := by rw [List.getD_eq_getElem?_getD, hv]; rfl
    have hvm := hp.mem v (List.mem_of_getElem? hv)
    have hvo := ho.has hvm.1 hvm.2
    have c2 : Mx.cutD (p.map PyData.int) none (some (i : Int)) = (p.take i).map PyData.int := by rw [cutD_map, cutD_to]
    have ec : cntAt o p i = ((((p.take i).filter fun x => decide ((o.idxOf v : Int) < (o.idxOf x : Int))).length : Nat) : Int) := by
      unfold cntAt
      rw [ev, ← List.countP_eq_length_filter]
      congr 1
      refine List.countP_congr fun x _ => ?_
      simp
    have hlt : (p.take i).length ≤ 12 := by rw [List.length_take]; omega
    have hu : ∀ x ∈ p.take i, x ∈ o := fun x hx => by
      have := hp.mem x (List.mem_of_mem_take hx)
      exact ho.has this.1 this.2
    dsimp only
    rw [cnts_succ, List.sum_append, ec]
    clear ec
    generalize (cntsL o p i).sum = A at *
    generalize p.take i = u at *
    unfold W__law_apart_b1
    walk_at "mx"
    rw [c2]
    have hul := List.length_filter_le (fun x => decide ((o.idxOf v : Int) < (o.idxOf x : Int))) u
    refine ⟨fun j acc => acc = ((u.take j).filter fun x => decide ((o.idxOf v : Int) < (o.idxOf x : Int))).map PyData.int, rfl, ?_, ?_⟩
    · rintro j x acc hj rfl _
      obtain ⟨l, hl, rfl⟩ := dT_get hj
      have hlo := hu l (List.mem_of_getElem? hl)
      walk_at "mx"
      refine ite_d (fun c => ?_) (fun c => ?_)
      · walk_at "mx"
        rw [List.take_succ, hl, List.filter_append, List.map_append]
        show _ = _ ++ (List.filter _ [l]).map _
        rw [List.filter_cons_of_pos (by simpa using c)]
        rfl
      · refine ⟨rfl, ?_⟩
        rw [List.take_succ, hl, List.filter_append, List.map_append]
        show _ = _ ++ (List.filter _ [l]).map _
        rw [List.filter_cons_of_neg (by simpa using c)]
        simp
    refine ⟨by rw [List.length_map]; omega, noOwn1 (fun c h => nomatch h), ?_⟩
    rintro acc rfl
    rw [List.length_map, List.take_length]
    walk_at "mx"
    rw [List.length_map]
    refine add_I ?_
    simp only [List.sum_cons, List.sum_nil, Int.add_zero]
    exact ⟨_, _, rfl⟩
  · rintro e ⟨x3, x4, rfl⟩
    rw [enumL_length, List.length_map]
    walk_at "mx"
    exact q
theorem h_are_letters (Z : XP) (ms : List MV) (Q : MV → Prop) (q : sp__law_are_letters.run Z ms Q) : W__law_are_letters.run Z (entry 3 ms) { nx := fun _ => Q (.d .none), rt := Q } := by
  obtain ⟨⟨n, t⟩, rfl, ht, q⟩ := q
  have ht : PText n t := ht
  have q := q _ rfl
  walk_at "mx"
  refine ⟨fun i e => ∃ x2, e = [some (.d (.int n)), some (.d (dT t)), x2], ⟨_, rfl⟩, ?_, ?_⟩
  · rintro i x e hi ⟨x2, rfl⟩
    obtain ⟨v, hv, rfl⟩ := dT_get hi
    have hm := ht v (List.mem_of_getElem? hv)
    unfold W__law_are_letters_b1
    walk_at "mx"
    refine ⟨_, _, rfl, rfl, ite_t (decide_eq_true hm.1) ?_⟩
    refine ⟨rfl, _, rfl, ?_⟩
    rw [decide_eq_true hm.2]
    refine ⟨true, rfl, ite_f (by decide) ?_⟩
    exact ⟨_, rfl⟩
  · rintro e ⟨x2, rfl⟩
    walk_at "mx"
    exact q
theorem sort_ord65 {n : Nat} {o ns : List Int} (ho : POrd n o) (hp : ns.Perm o) (pw : ns.Pairwise (· ≤ ·)) : ns = iR n := by
  have pu : ∀ {a b : List Int}, a.Pairwise (· ≤ ·) → b.Pairwise (· ≤ ·) → a.Perm b → a = b := fun {a b} h1 h2 h3 => h3.eq_of_pairwise (fun x y _ _ h1 h2 => Int.le_antisymm h1 h2) h1 h2
  have hR : POrd n (iR n) := perm_ord (List.Perm.refl _)
  refine pu pw ?_ (hp.trans (ord_perm ho hR))
  unfold iR
  refine List.Pairwise.map _ (R := fun a b : Nat => a < b) (fun a b h => by omega) List.pairwise_lt_range
theorem h_is_list (Z : XP) (ms : List MV) (Q : MV → Prop) (q : sp__law_is_list.run Z ms Q) : W__law_is_list.run Z (entry 2 ms) { nx := fun _ => Q (.d .none), rt := Q } := by
  obtain ⟨⟨n, o⟩, rfl, ⟨ho, hn⟩, q⟩ := q
  dsimp only at ho hn q
  have lo := ho.len
  have q := q _ rfl
  walk_at "mx"
  rw [List.length_map, lo]
  refine ite_nb (fun c => ?_) (fun c => ?_)
  · rw [eqv_int] at c
    exact absurd rfl (beq_eq_false_iff_ne.mp c)
  walk_at "mx"
  refine ⟨(n, o), rfl, ho.text, ?_⟩
  rintro m rfl
  walk_at "mx"
  refine ⟨o, rfl, fun ns' h1 h2 => ?_⟩
  obtain rfl := sort_ord65 ho h1 h2
  walk_at "mx"
  refine ⟨by omega, by omega, ?_⟩
  rw [Int.toNat_natCast, rng_iR]
  walk_at "mx"
  refine ⟨⟨shaped_ints _, shaped_ints _⟩, MVd_ne, ?_⟩
  rw [show PyData.eqv (Cont.lst ((iR n).map PyData.int)).data (Cont.lst ((iR n).map PyData.int)).data = (iR n == iR n) from eqv_L _ _, beq_self_eq_true]
  exact q
theorem h_is_text (Z : XP) (ms : List MV) (Q : MV → Prop) (q : sp__law_is_text.run Z ms Q) : W__law_is_text.run Z (entry 2 ms) { nx := fun _ => Q (.d .none), rt := Q } := by
  obtain ⟨⟨n, t⟩, rfl, ⟨ht, lt⟩, q⟩ := q
  dsimp only at ht lt q
  have q := q _ rfl
  walk_at "mx"
  rw [List.length_map]
  refine ite_d (fun c => ?_) (fun c => ?_)
  · walk_at "mx"
    refine ⟨(n, t), rfl, ht, ?_⟩
    rintro m rfl
    exact ⟨MVd_ne, q⟩
  · omega
theorem h_begins (Z : XP) (ms : List MV) (Q : MV → Prop) (q : sp__law_begins.run Z ms Q) : W__law_begins.run Z (entry 4 ms) { nx := fun _ => Q (.d .none), rt := Q } := by
  obtain ⟨⟨r, n⟩, rfl, ⟨hr, n1, hn⟩, q⟩ := q
  dsimp only at hr n1 hn q
  have q := q _ rfl
  unfold bgN at q
  have lr := hr.len
  unfold W__law_begins
  generalize hB : W__law_begins_b1 = B
  walk_at "mx"
  rw [List.length_map, lr]
  refine ⟨⟨by omega, by omega⟩, ?_⟩
  refine ⟨fun i e => ∃ x2, e = [some (.d (dT r)), some (.o (.lst ((begs r n i).map fun p : Nat => .int (p : Int)))), x2, none], ⟨_, rfl⟩, ?_, ?_⟩
  · rintro i x e hi ⟨x2, rfl⟩
    obtain ⟨hi, rfl⟩ := rng_get hi
    rw [show (0 : Int) + (i : Int) = (i : Int) by omega]
    have hin : i < n := by omega
    have es : begs r n (i + 1) = begs r n i ++ [i].filter fun p => isBeg r n p := by
      unfold begs
      rw [List.range_succ, List.filter_append]
    have c1 : Mx.cutD (r.map PyData.int) (some (i : Int)) none = (r.drop i).map PyData.int := by rw [cutD_map, cutD_from]
    have lA : ((begs r n i).map fun p : Nat => PyData.int (p : Int)).length ≤ 12 := by
      rw [List.length_map]
      unfold begs
      refine Nat.le_trans (List.length_filter_le ..) ?_
      rw [List.length_range]
      omega
    have key : ((r.drop i).filter fun x => decide (x < (i : Int))) = [] ↔ isBeg r n i = true := by
      rw [List.filter_eq_nil_iff, isBeg_iff]
      constructor
      · intro h p hp ip
        have hm : r.getD p 0 ∈ r.drop i := by
          rw [List.getD_eq_getElem?_getD, List.getElem?_eq_getElem (by omega), Option.getD_some, List.mem_drop_iff_getElem]
          exact ⟨p - i, by omega, by congr 1; omega⟩
        have := h _ hm
        simp at this
        exact this
      · intro h x hx
        obtain ⟨j, hj, e⟩ := List.getElem_of_mem hx
        rw [List.length_drop] at hj
        rw [List.getElem_drop] at e
        have := h (i + j) (by omega) (by omega)
        rw [List.getD_eq_getElem?_getD, List.getElem?_eq_getElem (by omega), Option.getD_some, e] at this
        simp
        exact this
    have ln : (r.drop i).length ≤ 12 := by rw [List.length_drop]; omega
    dsimp only
    rw [es, List.map_append]
    generalize (begs r n i).map (fun p : Nat => PyData.int (p : Int)) = A at *
    generalize r.drop i = S at *
    subst hB
    unfold W__law_begins_b1
    walk_at "mx"
    rw [c1]
    refine ⟨fun j acc => acc = ((S.take j).filter fun x => decide (x < (i : Int))).map fun _ => .int 1, rfl, ?_, ?_⟩
    · rintro j x acc hj rfl _
      obtain ⟨v, hv, rfl⟩ := dT_get hj
      walk_at "mx"
      refine ite_d (fun c => ?_) (fun c => ?_)
      · walk_at "mx"
        rw [List.take_succ, hv, List.filter_append, List.map_append]
        show _ = _ ++ (List.filter _ [v]).map _
        rw [List.filter_cons_of_pos (by simpa using c)]
        rfl
      · refine ⟨rfl, ?_⟩
        rw [List.take_succ, hv, List.filter_append, List.map_append]
        show _ = _ ++ (List.filter _ [v]).map _
        rw [List.filter_cons_of_neg (by simpa using c)]
        simp
    refine ⟨by rw [List.length_map]; omega, noOwn1 (fun c h => nomatch h), ?_⟩
    rintro acc rfl
    rw [List.length_map, List.take_length]
    have e1 : (S.filter fun x => decide (x < (i : Int))).map (fun _ => PyData.int 1) = ((S.filter fun x => decide (x < (i : Int))).map fun _ => (1 : Int)).map PyData.int := by
      rw [List.map_map]
      rfl
    rw [e1]
    have key2 : ((S.filter fun x => decide (x < (i : Int))).map (fun _ => (1 : Int)) == []) = isBeg r n i := by
      rw [Bool.eq_iff_iff, beq_iff_eq, List.map_eq_nil_iff]
      exact key
    generalize (S.filter fun x => decide (x < (i : Int))).map (fun _ => (1 : Int)) = F at *
    walk_at "mx"
    refine ⟨⟨shaped_ints F, shaped_ints []⟩, ?_⟩
    rw [show PyData.eqv (Cont.lst (F.map PyData.int)).data (Cont.lst []).data = (F == []) from eqv_L F [], key2]
    cases c : isBeg r n i with
    | true =>
      have ef : List.filter (fun p => isBeg r n p) [i] = [i] := by simp [c]
      rw [ef]
      walk_at "mx"
      exact ⟨_, rfl⟩
    | false =>
      have ef : List.filter (fun p => isBeg r n p) [i] = [] := by simp [c]
      rw [ef, List.map_nil, List.append_nil]
      walk_at "mx"
      exact ⟨_, rfl⟩
  · rintro e ⟨x2, rfl⟩
    have e0 : (rng 0 (n : Int).toNat).length = n := by rw [rng_len]; omega
    rw [e0]
    have lA : ((begs r n n).map fun p : Nat => PyData.int (p : Int)).length ≤ 12 := by
      rw [List.length_map]
      unfold begs
      refine Nat.le_trans (List.length_filter_le ..) ?_
      rw [List.length_range]
      omega
    rw [List.map_append] at q
    generalize (begs r n n).map (fun p : Nat => PyData.int (p : Int)) = A at *
    walk_at "mx"
    rw [List.length_map, lr]
    exact q
theorem zipL_zip : ∀ A B : List D, zipL A B = (A.zip B).map fun p => PyData.tuple [p.1, p.2]
  | [], _ => rfl
  | _ :: _, [] => rfl
  | a :: A, b :: B => by
    show PyData.tuple [a, b] :: zipL A B = PyData.tuple [a, b] :: _
    rw [zipL_zip A B]
    rfl
theorem sl_L {xs : List D} {lo hi : Option Int} {Q : MV → Prop} (q : Q (.o (.lst (Mx.cutD xs lo hi)))) : pSl.run (.list xs) lo hi Q := q
theorem bg_zip (r : List Int) (n : Nat) : (bgN r n).zip ((bgN r n).drop 1) = (partsL r n).map fun p => ((PyData.int (p.1 : Int)), (PyData.int (p.2 : Int))) := by
  unfold bgN partsL
  generalize begs r n n = B
  rw [← List.map_drop, List.zip_map]
  have : ∀ (B : List Nat), (B ++ [n]).zip ((B ++ [n]).drop 1) = B.zip (B.drop 1 ++ [n]) := fun B => by
    cases B with
    | nil => rfl
    | cons x B =>
      show (x :: (B ++ [n])).zip (B ++ [n]) = (x :: B).zip (B ++ [n])
      have h : (x :: (B ++ [n])) = (x :: B) ++ [n] := rfl
      rw [h]
      have l1 : (x :: B).length = (B ++ [n]).length := by simp
      conv => lhs; rw [← List.append_nil (B ++ [n]), List.zip_append l1]
      show _ ++ [] = _
      rw [List.append_nil]
  rw [this]
  rfl
theorem h_fronts (Z : XP) (ms : List MV) (Q : MV → Prop) (q : sp__law_fronts.run Z ms Q) : W__law_fronts.run Z (entry 5 ms) { nx := fun _ => Q (.d .none), rt := Q } := by
  obtain ⟨⟨r, n⟩, rfl, ⟨hr, n1, hn⟩, q⟩ := q
  dsimp only at hr n1 hn q
  have q : Q (.d (.bool (frontB r n))) := q _ rfl
  have lr := hr.len
  have bz := bg_zip r n
  have lb : (bgN r n).length ≤ 13 := by
    unfold bgN begs
    rw [List.length_map, List.length_append]
    have := List.length_filter_le (fun p => isBeg r n p) (List.range n)
    rw [List.length_range] at this
    show _ + 1 ≤ _
    omega
  have pl := parts_len (r := r) hn
  have pin := fun {p : Nat × Nat} h => parts_in (r := r) (n := n) (p := p) h
  unfold frontB at q
  unfold W__law_fronts
  generalize hB : W__law_fronts_b1 = B
  walk_at "mx"
  refine ⟨(r, n), rfl, ⟨hr, n1, hn⟩, ?_⟩
  rintro m rfl
  dsimp only
  generalize bgN r n = L at *
  generalize partsL r n = PP at *
  have cD : Mx.cutD L (some 1) none = L.drop 1 := cutD_from L 1
  walk_at "mx"
  dsimp only [Cont.data]
  refine sl_L ?_
  rw [cD]
  have zl : zipL L (L.drop 1) = PP.map pairN := by
    rw [zipL_zip, bz, List.map_map]
    rfl
  walk_at "mx"
  refine ⟨_, _, _, _, rfl, rfl, rfl, ?_⟩
  rw [zl]
  refine ⟨fun i e => (∀ p ∈ PP.take i, oddL r p = []) ∧ ∃ x2 x3, e = [some (.d (dT r)), some (.d (.list L)), x2, x3, none], ⟨by simp, _, _, rfl⟩, ?_, ?_⟩
  · rintro i y e hy ⟨hall, x2, x3, rfl⟩
    rw [List.getElem?_map] at hy
    obtain ⟨p, hp, rfl⟩ := Option.map_eq_some_iff.mp hy
    have hpm := pin (List.mem_of_getElem? hp)
    have c1 : Mx.cutD (r.map PyData.int) (some (p.1 : Int)) (some (p.2 : Int)) = ((r.take p.2).drop p.1).map PyData.int := by
      rw [cutD_map]
      exact congrArg _ (cutD_mid ..)
    have so : oddL r p = ((r.take p.2).drop p.1).filter fun g => decide (g ≠ (p.1 : Int)) := rfl
    have sl : ((r.take p.2).drop p.1).length ≤ 12 := by rw [List.length_drop, List.length_take]; omega
    have good : oddL r p = [] → ∀ p ∈ PP.take (i + 1), oddL r p = [] := fun c d hd => by
      rw [List.take_succ, hp] at hd
      rcases List.mem_append.mp hd with hd | hd
      · exact hall d hd
      · have : d = p := by simpa using hd
        rw [this]
        exact c
    have bad : oddL r p ≠ [] → (PP.all fun p => oddL r p == []) = false := fun c => by
      refine Bool.eq_false_iff.mpr fun z => ?_
      have := List.all_eq_true.mp z p (List.mem_of_getElem? hp)
      exact c (beq_iff_eq.mp this)
    rw [so] at good bad
    generalize (r.take p.2).drop p.1 = S at *
    subst hB
    unfold pairN W__law_fronts_b1
    walk_at "mx"
    rw [c1]
    refine ⟨fun j acc => acc = ((S.take j).filter fun g => decide (g ≠ (p.1 : Int))).map fun _ => .int 1, rfl, ?_, ?_⟩
    · rintro j y acc hy rfl _
      obtain ⟨g, hg, rfl⟩ := dT_get hy
      have es : (S.take (j + 1)).filter (fun g => decide (g ≠ (p.1 : Int))) = (S.take j).filter (fun g => decide (g ≠ (p.1 : Int))) ++ [g].filter (fun g => decide (g ≠ (p.1 : Int))) := by
        rw [List.take_succ, hg, List.filter_append]
        rfl
      walk_at "mx"
      refine ite_b (fun c => ?_) (fun c => ?_)
      · rw [eqv_int] at c
        have c' : g ≠ (p.1 : Int) := by simpa using c
        walk_at "mx"
        rw [es, List.filter_cons_of_pos (by simpa using c'), List.map_append]
        rfl
      · rw [eqv_int] at c
        have c' : ¬ g ≠ (p.1 : Int) := by simpa using c
        refine ⟨rfl, ?_⟩
        rw [es, List.filter_cons_of_neg (by simpa using c'), List.map_append]
        show _ = _ ++ []
        rw [List.append_nil]
    refine ⟨by rw [List.length_map]; omega, noOwn1 (fun c h => nomatch h), ?_⟩
    rintro acc rfl
    rw [List.length_map, List.take_length]
    have e1 : (S.filter fun g => decide (g ≠ (p.1 : Int))).map (fun _ => PyData.int 1) = ((S.filter fun g => decide (g ≠ (p.1 : Int))).map fun _ => (1 : Int)).map PyData.int := by
      rw [List.map_map]
      rfl
    rw [e1]
    have key2 : ((S.filter fun g => decide (g ≠ (p.1 : Int))).map (fun _ => (1 : Int)) = []) ↔ S.filter (fun g => decide (g ≠ (p.1 : Int))) = [] := List.map_eq_nil_iff
    generalize S.filter (fun g => decide (g ≠ (p.1 : Int))) = F at *
    generalize F.map (fun _ => (1 : Int)) = F1 at *
    walk_at "mx"
    refine ⟨⟨shaped_ints F1, shaped_ints []⟩, ?_⟩
    rw [show PyData.eqv (Cont.lst (F1.map PyData.int)).data (Cont.lst []).data = (F1 == []) from eqv_L F1 []]
    by_cases cF : F = []
    · rw [show (F1 == []) = true from beq_iff_eq.mpr (key2.mpr cF)]
      walk_at "mx"
      exact ⟨good cF, _, _, rfl⟩
    · rw [show (F1 == []) = false from beq_eq_false_iff_ne.mpr fun z => cF (key2.mp z)]
      rw [bad cF] at q
      walk_at "mx"
      exact q
  · rintro e ⟨hall, x2, x3, rfl⟩
    rw [List.length_map, List.take_length] at hall
    rw [List.all_eq_true.mpr fun p hp => beq_iff_eq.mpr (hall p hp)] at q
    walk_at "mx"
    exact q
theorem h_small (Z : XP) (ms : List MV) (Q : MV → Prop) (q : sp__law_small.run Z ms Q) : W__law_small.run Z (entry 3 ms) { nx := fun _ => Q (.d .none), rt := Q } := by
  obtain ⟨n, rfl, ⟨n1, hn⟩, q⟩ := q
  walk_at "mx"
  refine ⟨⟨by omega, by omega⟩, fun i acc => ∃ t : List Int, acc = t.map PyData.int ∧ okRule t ∧ t.length = i, ⟨[], rfl, okRule_nil, rfl⟩, ?_, ?_⟩
  · rintro i x acc hi ⟨t, rfl, ht, hl⟩ _
    obtain ⟨hi, rfl⟩ := rng_get hi
    walk_at "mx"
    intro d d0 d1
    refine ⟨rfl, t ++ [d], ?_, okRule_snoc ht (by omega) (by omega), by rw [List.length_append, hl]; rfl⟩
    rw [List.map_append]
    rfl
  refine ⟨by rw [rng_len]; omega, noOwn1 (fun c h => nomatch h), ?_⟩
  rintro acc ⟨t, rfl, ht, hl⟩
  rw [rng_len] at hl
  have : t.length ≤ 1000 := by omega
  walk_at "mx"
  exact q _ ⟨t, ⟨by omega, ht⟩, rfl⟩
theorem h_ru3 {Z : XP} {i : Nat} {n way v : Int} {U : List D} {O : Out} (lU : U.length ≤ 1000) (h0 : 0 ≤ v) (h1 : v ≤ i + 1)
    (k : ∀ v : Int, 0 ≤ v → v ≤ i + 1 → O.nx [some .dk, some (.d (.int n)), some (.d (.int way)), some (.o (.lst (U ++ [.int v]))), some (.d (.int (1 + (i : Int)))), some (.d (.int v))]) :
    W_ru3.run Z [some .dk, some (.d (.int n)), some (.d (.int way)), some (.o (.lst U)), some (.d (.int (1 + (i : Int)))), some (.d (.int v))] O := by
  unfold W_ru3
  walk_at "mx"
  refine ite_b (fun c => ?_) (fun c => ?_)
  · walk_at "mx"
    intro d d0 d1
    walk_at "mx"
    exact k _ (by split <;> omega) (by split <;> omega)
  · walk_at "mx"
    exact k v h0 h1
theorem h_ru2 {Z : XP} {i : Nat} {n way v last : Int} {U : List D} {O : Out} (lU : U.length ≤ 1000) (hl : atI U (-1) = some (.int last)) (l0 : 0 ≤ last) (l1 : last ≤ i + 1) (h0 : 0 ≤ v) (h1 : v ≤ i + 1)
    (k : ∀ v : Int, 0 ≤ v → v ≤ i + 1 → O.nx [some .dk, some (.d (.int n)), some (.d (.int way)), some (.o (.lst (U ++ [.int v]))), some (.d (.int (1 + (i : Int)))), some (.d (.int v))]) :
    W_ru2.run Z [some .dk, some (.d (.int n)), some (.d (.int way)), some (.o (.lst U)), some (.d (.int (1 + (i : Int)))), some (.d (.int v))] O := by
  have fin := fun {v : Int} h0 h1 => h_ru3 (Z := Z) (i := i) (n := n) (way := way) (v := v) (U := U) (O := O) lU h0 h1 k
  generalize hR : W_ru3 = R at fin
  unfold W_ru2
  rw [hR]
  walk_at "mx"
  refine ite_b (fun c => ?_) (fun c => ?_)
  · walk_at "mx"
    intro d d0 d1
    walk_at "mx"
    refine ite_b (fun c => ?_) (fun c => ?_)
    · walk_at "mx"
      exact fin (by omega) (by omega)
    · walk_at "mx"
      refine ⟨_, hl, ?_⟩
      walk_at "mx"
      exact fin l0 l1
  · walk_at "mx"
    exact fin h0 h1
theorem h_rule (Z : XP) (ms : List MV) (Q : MV → Prop) (q : sp__law_rule.run Z ms Q) : W__law_rule.run Z (entry 6 ms) { nx := fun _ => Q (.d .none), rt := Q } := by
  obtain ⟨n, rfl, ⟨hn, hl⟩, q⟩ := q
  unfold W__law_rule
  generalize hB : W__law_rule_b1 = B
  walk_at "mx"
  intro way w0 w1
  walk_at "mx"
  refine ⟨1, n, rfl, ⟨by omega, by omega, by omega, by omega⟩, ?_⟩
  rw [show ((n : Int) - 1).toNat = n - 1 by omega]
  refine ⟨fun i e => ∃ (r : List Int) (x4 x5 : Option MV), e = [some .dk, some (.d (.int n)), some (.d (.int way)), some (.o (.lst (r.map PyData.int))), x4, x5] ∧ r.length = i + 1 ∧ okRule r, ⟨[0], _, _, rfl, rfl, okRule_snoc okRule_nil (by omega) (by simp)⟩, ?_, ?_⟩
  · rintro i x e hi ⟨r, x4, x5, rfl, hr, hok⟩
    obtain ⟨hin, rfl⟩ := rng_get hi
    have hr' : (r.map PyData.int).length ≤ 1000 := by rw [List.length_map]; omega
    have fin : ∀ v : Int, 0 ≤ v → v ≤ i + 1 → ∃ (r' : List Int) (x4' x5' : Option MV), [some .dk, some (.d (.int n)), some (.d (.int way)), some (MV.o (.lst (r.map PyData.int ++ [.int v]))), some (.d (.int (1 + (i : Int)))), some (.d (.int v))] = [some .dk, some (.d (.int n)), some (.d (.int way)), some (.o (.lst (r'.map PyData.int))), x4', x5'] ∧ r'.length = i + 1 + 1 ∧ okRule r' :=
      fun v h0 h1 => ⟨r ++ [v], _, _, by rw [List.map_append]; rfl, by rw [List.length_append, hr]; rfl, okRule_snoc hok h0 (by omega)⟩
    obtain ⟨last, hlast, l0, l1⟩ : ∃ v : Int, atI (r.map PyData.int) (-1) = some (.int v) ∧ 0 ≤ v ∧ v ≤ i + 1 := by
      have h1 : r[i]? = some r[i] := List.getElem?_eq_getElem (by omega)
      have h2 := hok i _ h1
      refine ⟨r[i], ?_, h2.1, by omega⟩
      unfold atI
      have e : ixN (r.map PyData.int).length (-1) = some i := by
        unfold ixN
        rw [List.length_map, hr]
        simp
        omega
      rw [e]
      show (r.map PyData.int)[i]? = _
      rw [List.getElem?_map, h1]
      rfl
    generalize r.map PyData.int = U at *
    subst hB
    have go2 := fun {v : Int} (h0 : 0 ≤ v) (h1 : v ≤ i + 1) => h_ru2 (Z := Z) (i := i) (n := (n : Int)) (way := way) (v := v) (U := U) (O := { nx := fun e => ∃ (r : List Int) (x4 x5 : Option MV), e = [some .dk, some (.d (.int n)), some (.d (.int way)), some (.o (.lst (r.map PyData.int))), x4, x5] ∧ r.length = i + 1 + 1 ∧ okRule r, rt := Q, bk := fun e1 => (sRet (xOp1 pTuple (odS 3))).run Z e1 { nx := fun _ => Q (.d .none), rt := Q }, ct := fun e => ∃ (r : List Int) (x4 x5 : Option MV), e = [some .dk, some (.d (.int n)), some (.d (.int way)), some (.o (.lst (r.map PyData.int))), x4, x5] ∧ r.length = i + 1 + 1 ∧ okRule r }) hr' hlast l0 l1 h0 h1 fin
    generalize hR : W_ru2 = R at go2
    unfold W__law_rule_b1
    rw [hR]
    walk_at "mx"
    intro d d0 d1
    walk_at "mx"
    refine ite_b (fun c => ?_) (fun c => ?_)
    · walk_at "mx"
      exact go2 (by omega) (by omega)
    · walk_at "mx"
      exact go2 (by omega) (by omega)
  · rintro e ⟨r, x4, x5, rfl, hr, hok⟩
    rw [rng_len] at hr
    have : r.length ≤ 1000 := by omega
    walk_at "mx"
    exact q _ ⟨r, ⟨by omega, hok⟩, rfl⟩
theorem h_within (Z : XP) (ms : List MV) (Q : MV → Prop) (q : sp__law_within.run Z ms Q) : W__law_within.run Z (entry 7 ms) { nx := fun _ => Q (.d .none), rt := Q } := by
  obtain ⟨⟨⟨r, o⟩, n⟩, rfl, ⟨hr, ho, n1, hn⟩, q⟩ := q
  dsimp only at hr ho n1 hn q
  have lo := ho.len
  have bz := bg_zip r n
  have lb : (bgN r n).length ≤ 13 := by
    unfold bgN begs
    rw [List.length_map, List.length_append]
    have := List.length_filter_le (fun p => isBeg r n p) (List.range n)
    rw [List.length_range] at this
    show _ + 1 ≤ _
    omega
  have pg := fun {i : Nat} {p : Nat × Nat} h => parts_get (r := r) (n := n) (i := i) (p := p) h
  have prt := fun {p : Nat × Nat} (h : p ∈ partsL r n) => part_of (r := r) (n := n) (b := p.1) (e := p.2) h
  have b0 := bnd_zero hr n1
  have bE := bnd_end (r := r) (n := n)
  have pl := parts_len (r := r) hn
  unfold W__law_within
  generalize hB : W__law_within_b1 = B
  walk_at "mx"
  refine ⟨(r, n), rfl, ⟨hr, n1, hn⟩, ?_⟩
  rintro m rfl
  dsimp only
  generalize bgN r n = L at *
  generalize partsL r n = PP at *
  have cD : Mx.cutD L (some 1) none = L.drop 1 := cutD_from L 1
  have zl : zipL L (L.drop 1) = PP.map pairN := by
    rw [zipL_zip, bz, List.map_map]
    rfl
  walk_at "mx"
  dsimp only [Cont.data]
  refine sl_L ?_
  rw [cD]
  walk_at "mx"
  refine ⟨_, _, _, _, rfl, rfl, rfl, ?_⟩
  rw [zl]
  refine ⟨fun i e => ∃ (w : List Int) (x5 x6 : Option MV), e = [some .dk, some (.d (dT r)), some (.d (dT o)), some (.d (.list L)), some (.o (.lst (w.map PyData.int))), x5, x6] ∧ MixTo r o n (bnd r n i) w, ⟨[], _, _, rfl, ?_⟩, ?_, ?_⟩
  · rw [b0]
    exact ⟨List.Perm.refl _, fun b hb _ => by rw [show b = 0 by omega]; exact List.Perm.refl _⟩
  · rintro i y e hy ⟨w, x5, x6, rfl, h⟩
    rw [List.getElem?_map] at hy
    obtain ⟨p, hp, rfl⟩ := Option.map_eq_some_iff.mp hy
    have P := prt (List.mem_of_getElem? hp)
    have ep := pg hp
    have hb := P.lt
    have he := P.le
    have c1 : Mx.cutD (o.map PyData.int) (some (p.1 : Int)) (some (p.2 : Int)) = ((o.take p.2).drop p.1).map PyData.int := by
      rw [cutD_map]
      exact congrArg _ (cutD_mid ..)
    have lw : w.length ≤ 12 := by rw [h.pm.length_eq, List.length_take]; omega
    have key := fun {ys : List Int} (hy : ys.Perm ((o.take p.2).drop p.1)) => h.app ho P (by rw [ep]) hy
    have sl : ((o.take p.2).drop p.1).length ≤ 12 := by rw [List.length_drop, List.length_take]; omega
    have sm : ∀ x ∈ (o.take p.2).drop p.1, 0 ≤ x ∧ x < (n : Int) := fun x hx => ho.mem x (List.mem_of_mem_take (List.mem_of_mem_drop hx))
    rw [show p.2 = bnd r n (i + 1) by rw [ep]] at key
    rw [show p.2 = bnd r n (i + 1) by rw [ep]] at sl c1 sm
    subst hB
    unfold pairN W__law_within_b1
    rw [show p.2 = bnd r n (i + 1) by rw [ep]]
    generalize (o.take (bnd r n (i + 1))).drop p.1 = S at *
    have lw2 : (w.map PyData.int).length ≤ 12 := by rw [List.length_map]; exact lw
    walk_at "mx"
    refine sl_T ?_
    rw [c1]
    walk_at "mx"
    refine ⟨(false, S.map PyData.int), rfl, ⟨by show (S.map PyData.int).length ≤ 100000; rw [List.length_map]; omega, okd_ints fun i hi => by have := sm i hi; omega⟩, ?_⟩
    rintro m ⟨ys, hys, rfl⟩
    obtain ⟨zs, hz, rfl⟩ := perm_map hys
    have lz : (zs.map PyData.int).length ≤ 12 := by rw [List.length_map, hz.length_eq]; exact sl
    walk_at "mx"
    dsimp only [Cont.data]
    exact ⟨by omega, w ++ zs, _, _, by rw [List.map_append], key hz⟩
  · rintro e ⟨w, x5, x6, rfl, h⟩
    rw [List.length_map, bE] at h
    obtain ⟨hw, M⟩ := h.mate ho
    have lw : (w.map PyData.int).length ≤ 12 := by rw [List.length_map, hw.len]; omega
    walk_at "mx"
    exact q _ ⟨w, hw, M, rfl⟩
end Kx

-- M65b
namespace Kx
open PySem PyProof.Rows L2 Mx
variable [TheDeck]
structure Pap (n : Nat) (r o p : List Int) : Prop where
  hr : PRule n r
  ho : POrd n o
  hp : POrd n p
  n1 : 1 ≤ n
  hn : n ≤ 12
  M : frontB r n = true → Mate r n o p
def endD (r : List Int) (n : Nat) : D := match gainsD r n with
  | .tuple xs => .tuple (.str (Str.ofString "endless") :: xs)
  | x => x
def paperD (n : Nat) (r o p : List Int) : D := if frontB r n = true then .tuple [.str (Str.ofString "most"), .int (unlikeL o p : Nat), dT p] else endD r n
abbrev A4 := Nat × List Int × List Int × List Int
def sp_is_same : Mx.Spec := spF (α := Int × Int) (fun a => [.d (.int a.1), .d (.int a.2)]) (fun _ => True) (fun a m => m = .d (.bool (a.1 == a.2)))
def sp__begins : Mx.Spec := spF (α := Str × List D) (fun a => [.d (.tuple (.str a.1 :: a.2)), .d (.int ((a.2.length + 1 : Nat) : Int)), .d (.str a.1)]) (fun _ => True) (fun a m => m = .d (.bool true))
def sp_gap_paper : Mx.Spec := spF (α := A4) (fun a => [.d (dT a.2.1), .d (dT a.2.2.1), .d (dT a.2.2.2)]) (fun a => Pap a.1 a.2.1 a.2.2.1 a.2.2.2) (fun a m => m = .d (paperD a.1 a.2.1 a.2.2.1 a.2.2.2))
def sp__endless_error : Mx.Spec := spF (α := List Int × Nat) (fun a => [.d (dT a.1), .d (endD a.1 a.2)]) (fun a => PRule a.2 a.1 ∧ 1 ≤ a.2 ∧ a.2 ≤ 12 ∧ frontB a.1 a.2 = false) (fun a m => m = .d .none)
def sp_gap_paper_error : Mx.Spec := spF (α := A4) (fun a => [.d (dT a.2.1), .d (dT a.2.2.1), .d (dT a.2.2.2), .d (paperD a.1 a.2.1 a.2.2.1 a.2.2.2)]) (fun a => Pap a.1 a.2.1 a.2.2.1 a.2.2.2) (fun a m => m = .d .none)
def sp__law_gain_fault : Mx.Spec := spF (α := Nat × List Int × List Int × List Int × List Int) (fun a => [.d (dT a.2.1), .d (.tuple [dT a.2.2.1, dT a.2.2.2.1, dT a.2.2.2.2])])
  (fun a => PRule a.1 a.2.1 ∧ POrd a.1 a.2.2.1 ∧ PText a.1 a.2.2.2.1 ∧ a.2.2.2.1.length ≤ 40 ∧ PText a.1 a.2.2.2.2 ∧ a.2.2.2.2 ≠ [] ∧ a.2.2.2.2.length ≤ a.1 ∧ backD a.2.1 a.2.2.1 a.2.2.2.1 a.2.2.2.2 = .none ∧ a.1 ≤ 12) (fun a m => m = .d .none)
def sp__law_gap_fault : Mx.Spec := spF (α := A4) (fun a => [.d (dT a.2.1), .d (dT a.2.2.1), .d (dT a.2.2.2), .d (paperD a.1 a.2.1 a.2.2.1 a.2.2.2)]) (fun a => Pap a.1 a.2.1 a.2.2.1 a.2.2.2) (fun a m => m = .d .none)
def W_is_same : Stm := sSeq (sIf (tNot (tB (xOp1 (pIsi "tuple") (odS 1)))) (sRet (xAnd (xCall sp_is_number (aCons (xVar 0) (aNil))) (xOp2 pEq (odS 0) (odS 1)))) (sSkip)) (sSeq (sFail) (sFail))
def W__begins : Stm := sRet (xAnd (xOp1 (pIsi "tuple") (odS 0)) (xAnd (xOp2 pEq (odE (xOp1 pLen (odS 0))) (odS 1)) (xOp2 pEq (odE (xOp2 pIx (odS 0) (odE (xInt 0)))) (odS 2))))
def W_gap_paper : Stm := sSeq (sIf (tNot (tB (xCall sp_is_front (aCons (xVar 0) (aNil))))) (sRet (xOp2 qAdd (odE (xTup (aCons (xStr "endless") (aNil)))) (odE (xCall sp_gains (aCons (xVar 0) (aNil)))))) (sSkip)) (sRet (xTup (aCons (xStr "most") (aCons (xCall sp_gap (aCons (xVar 0) (aCons (xVar 1) (aCons (xVar 2) (aNil))))) (aCons (xCall sp_gap_text (aCons (xVar 0) (aCons (xVar 1) (aCons (xVar 2) (aNil))))) (aNil))))))
def W__endless_error : Stm := sSeq (sIf (tNot (tB (xCall sp__begins (aCons (xVar 1) (aCons (xInt 4) (aCons (xStr "endless") (aNil))))))) (sRet (xStr "form")) (sSkip)) (sSeq (sSet 2 (xCall sp_gains_error (aCons (xVar 0) (aCons (xSl (odS 1) (bSome (xInt 1)) (bNone)) (aNil))))) (sRet (xIf (tB (xOp2 pIsN (odS 2) (odE (xNone)))) (xNone) (xTup (aCons (xStr "gains") (aCons (xVar 2) (aNil)))))))
def W_gap_paper_error : Stm := sSeq (sIf (tNot (tB (xCall sp_is_front (aCons (xVar 0) (aNil))))) (sRet (xCall sp__endless_error (aCons (xVar 0) (aCons (xVar 3) (aNil))))) (sSkip)) (sSeq (sSet 4 (xCall sp_gap (aCons (xVar 0) (aCons (xVar 1) (aCons (xVar 2) (aNil)))))) (sSeq (sIf (tNot (tB (xCall sp__begins (aCons (xVar 3) (aCons (xInt 3) (aCons (xStr "most") (aNil))))))) (sRet (xStr "form")) (sSkip)) (sSeq (sAsg (xVar 3) (gTup (gCons (gName 5) (gCons (gName 6) (gCons (gName 7) (gNil)))))) (sSeq (sIf (tNot (tB (xCall sp_is_same (aCons (xVar 6) (aCons (xVar 4) (aNil)))))) (sRet (xStr "number")) (sSkip)) (sSeq (sIf (tOr (tB (xOp2 pNotN (odE (xCall sp_text_error (aCons (xOp1 pLen (odS 0)) (aCons (xVar 7) (aNil))))) (odE (xNone)))) (tB (xOp2 pNe (odE (xOp2 pSub (odE (xCall sp_cost (aCons (xVar 0) (aCons (xVar 1) (aCons (xVar 7) (aNil)))))) (odE (xCall sp_cost (aCons (xVar 0) (aCons (xVar 2) (aCons (xVar 7) (aNil)))))))) (odS 4)))) (sRet (xStr "text")) (sSkip)) (sRet (xNone)))))))
def W_gf2 : Stm := (sSeq (sIf (tNot (tB (xCall sp__law_is_list (aCons (xVar 2) (aCons (xVar 3) (aNil)))))) (sRet (xStr "order")) (sSkip)) (sSeq (sIf (tNot (tB (xCall sp__law_is_text (aCons (xVar 2) (aCons (xVar 4) (aNil)))))) (sRet (xStr "lead")) (sSkip)) (sSeq (sIf (tOr (tNot (tB (xCall sp__law_is_text (aCons (xVar 2) (aCons (xVar 5) (aNil)))))) (tNot (tB (xCh (fun i j => decide (i ≤ j)) (fun i j => decide (i ≤ j)) (odE (xInt 1)) (odE (xOp1 pLen (odS 5))) (odS 2))))) (sRet (xStr "text")) (sSkip)) (sSeq (sSet 6 (xOp2 pIx (odE (xCall sp__law_went (aCons (xVar 0) (aCons (xVar 3) (aCons (xVar 4) (aNil)))))) (odE (xInt 0)))) (sSeq (sAsg (xCall sp__law_went (aCons (xVar 0) (aCons (xVar 3) (aCons (xVar 5) (aNil))))) (gTup (gCons (gName 7) (gCons (gName 8) (gNil))))) (sSeq (sAsg (xCall sp__law_went (aCons (xVar 0) (aCons (xVar 6) (aCons (xVar 5) (aNil))))) (gTup (gCons (gName 9) (gCons (gName 10) (gNil))))) (sSeq (sIf (tOr (tB (xOp2 pNe (odS 7) (odS 3))) (tB (xOp2 pNe (odS 9) (odS 6)))) (sRet (xStr "back")) (sSkip)) (sRet (xIf (tB (xOp2 pGt (odS 8) (odS 10))) (xNone) (xStr "cost"))))))))))
def W__law_gain_fault : Stm := sSeq (sAsg (xTup (aCons (xOp1 pLen (odS 0)) (aCons (xVar 1) (aNil)))) (gTup (gCons (gName 2) (gCons (gTup (gCons (gName 3) (gCons (gName 4) (gCons (gName 5) (gNil))))) (gNil))))) W_gf2
def W_pf2 : Stm := (sSeq (sIf (tOr (tNot (tB (xOp1 (pIsi "tuple") (odS 3)))) (tOr (tB (xOp2 pNe (odE (xOp1 pLen (odS 3))) (odS 5))) (tOr (tNot (tB (xOp1 (pIsi "str") (odE (xOp2 pIx (odS 3) (odE (xInt 0))))))) (tB (xOp2 pNe (odE (xOp2 pIx (odS 3) (odE (xInt 0)))) (odS 6)))))) (sRet (xStr "form")) (sSkip)) (sSeq (sIf (tB (xOp2 pEq (odS 6) (odE (xStr "endless")))) (sSeq (sSet 9 (xCall sp__law_gain_fault (aCons (xVar 0) (aCons (xSl (odS 3) (bSome (xInt 1)) (bNone)) (aNil))))) (sRet (xIf (tB (xOp2 pIsN (odS 9) (odE (xNone)))) (xNone) (xTup (aCons (xStr "gains") (aCons (xVar 9) (aNil))))))) (sSkip)) (sSeq (sPar 7 8 (xOp2 pIx (odS 3) (odE (xInt 1))) (xCall sp__law_apart (aCons (xVar 1) (aCons (xVar 2) (aNil))))) (sSeq (sIf (tOr (tNot (tB (xOp1 (pIsi "int") (odS 7)))) (tOr (tB (xOp1 (pIsi "bool") (odS 7))) (tB (xOp2 pNe (odS 7) (odS 8))))) (sRet (xStr "number")) (sSkip)) (sSeq (sIf (tNot (tB (xCall sp__law_is_text (aCons (xVar 4) (aCons (xOp2 pIx (odS 3) (odE (xInt 2))) (aNil)))))) (sRet (xStr "text")) (sSkip)) (sRet (xIf (tB (xOp2 pEq (odE (xOp2 pSub (odE (xOp2 pIx (odE (xCall sp__law_went (aCons (xVar 0) (aCons (xVar 1) (aCons (xOp2 pIx (odS 3) (odE (xInt 2))) (aNil)))))) (odE (xInt 1)))) (odE (xOp2 pIx (odE (xCall sp__law_went (aCons (xVar 0) (aCons (xVar 2) (aCons (xOp2 pIx (odS 3) (odE (xInt 2))) (aNil)))))) (odE (xInt 1)))))) (odS 8))) (xNone) (xStr "text"))))))))
def W__law_gap_fault : Stm := sSeq (sPar3 4 5 6 (xOp1 pLen (odS 0)) (xIf (tB (xCall sp__law_fronts (aCons (xVar 0) (aNil)))) (xInt 3) (xInt 4)) (xIf (tB (xCall sp__law_fronts (aCons (xVar 0) (aNil)))) (xStr "most") (xStr "endless"))) W_pf2
theorem end_form {n : Nat} {r : List Int} (hr : PRule n r) (hn : n ≤ 12) (hf : frontB r n = false) : ∃ l t, gainsD r n = .tuple [dT (iR n), dT l, dT t] ∧ endD r n = .tuple [.str (Str.ofString "endless"), dT (iR n), dT l, dT t] ∧ PText n l ∧ l.length ≤ 40 ∧ PText n t ∧ t ≠ [] ∧ t.length ≤ n ∧ backD r (iR n) l t = .none := by
  obtain ⟨l, t, e, h⟩ := gains_ok hr hn hf
  refine ⟨l, t, e, ?_, h⟩
  unfold endD
  rw [e]
theorem back_pay {r o l t : List Int} (h : backD r o l t = .none) : payL r (runL r o l) t < payL r o t := by
  unfold backD at h
  split at h
  · cases h
  · split at h
    · cases h
    · omega
theorem three_none1 {n : Nat} {r o l t : List Int} (ho : POrd n o) (hl : PText n l) (ll : l.length ≤ 400) (ht : PText n t) (t0 : t ≠ []) (lt : t.length ≤ n) (bk : backD r o l t = .none) : gainD n r (.tuple [dT o, dT l, dT t]) = .none := by
  show threeD n r (dT o) (dT l) (dT t) = .none
  unfold threeD
  have nt : ¬ (true = false ∨ t = []) := fun z => z.elim (fun z => by cases z) t0
  rw [ordB_of ho, textB_of hl ll, textB_of ht lt, let_dT, let_dT, let_dT, if_neg (by decide), if_neg (by decide), if_neg nt]
  exact bk
theorem eqv_int_self (i : Int) : PyData.eqv (.int i) (.int i) = true := by rw [eqv_int]; exact beq_self_eq_true _
theorem eqvS5 (s : Str) : PyData.eqv (.str s) (.str s) = true := by simp only [PyData.eqv, beq_self_eq_true]
theorem h_is_same (Z : XP) (ms : List MV) (Q : MV → Prop) (q : sp_is_same.run Z ms Q) : W_is_same.run Z (entry 4 ms) { nx := fun _ => Q (.d .none), rt := Q } := by
  obtain ⟨⟨a, b⟩, rfl, _, q⟩ := q
  have q := q _ rfl
  dsimp only at q
  walk_at "mx"
  refine ⟨.int a, rfl, trivial, ?_⟩
  rintro m rfl
  have e : isNumD (.int a) = true := rfl
  rw [e]
  walk_at "mx"
  rw [eqv_int]
  exact q
theorem h_begins2 (Z : XP) (ms : List MV) (Q : MV → Prop) (q : sp__begins.run Z ms Q) : W__begins.run Z (entry 3 ms) { nx := fun _ => Q (.d .none), rt := Q } := by
  obtain ⟨⟨w, xs⟩, rfl, _, q⟩ := q
  have q := q _ rfl
  walk_at "mx"
  rw [show ((PyData.str w :: xs).length : Nat) = xs.length + 1 from rfl, eqv_int_self]
  walk_at "mx"
  refine ⟨_, atI_nat (j := 0) rfl, ?_⟩
  walk_at "mx"
  rw [eqvS5]
  exact q
theorem len_T5 {o : List Int} {Q : MV → Prop} (q : Q (.d (.int (o.length : Nat)))) : pLen.run (dT o) Q := by
  show Q (.d (.int ((o.map PyData.int).length : Nat)))
  rw [List.length_map]
  exact q
theorem h_gap_paper (Z : XP) (ms : List MV) (Q : MV → Prop) (q : sp_gap_paper.run Z ms Q) : W_gap_paper.run Z (entry 3 ms) { nx := fun _ => Q (.d .none), rt := Q } := by
  obtain ⟨⟨n, r, o, p⟩, rfl, hP, q⟩ := q
  obtain ⟨hr, ho, hp, n1, hn, M⟩ := hP
  dsimp only at hr ho hp n1 hn M q
  have q := q _ rfl
  unfold paperD at q
  walk_at "mx"
  refine ⟨(r, n), rfl, ⟨hr, n1, hn⟩, ?_⟩
  rintro m rfl
  dsimp only
  cases hf : frontB r n with
  | false =>
    rw [hf, if_neg (by decide)] at q
    obtain ⟨l, t, e1, e2, _⟩ := end_form hr hn hf
    rw [e2] at q
    walk_at "mx"
    refine ⟨(r, n), rfl, ⟨hr, n1, hn⟩, ?_⟩
    rintro m rfl
    dsimp only
    rw [e1]
    walk_at "mx"
    exact q
  | true =>
    rw [hf, if_pos rfl] at q
    have okg : okG ((r, o, p), n) := ⟨front_of hr hf, ho, hp, M hf, n1, hn⟩
    walk_at "mx"
    refine ⟨((r, o, p), n), rfl, okg, ?_⟩
    rintro m rfl
    walk_at "mx"
    refine ⟨((r, o, p), n), rfl, okg, ?_⟩
    rintro m rfl
    walk_at "mx"
    exact q
theorem h_endless (Z : XP) (ms : List MV) (Q : MV → Prop) (q : sp__endless_error.run Z ms Q) : W__endless_error.run Z (entry 3 ms) { nx := fun _ => Q (.d .none), rt := Q } := by
  obtain ⟨⟨r, n⟩, rfl, ⟨hr, n1, hn, hf⟩, q⟩ := q
  dsimp only at hr n1 hn hf q
  have q := q _ rfl
  obtain ⟨l, t, e1, e2, hl, ll, ht, t0, lt, bk⟩ := end_form hr hn hf
  have hI : POrd n (iR n) := iR_ord n
  have g0 := three_none1 (r := r) hI hl (by omega) ht t0 lt bk
  dsimp only
  rw [e2]
  walk_at "mx"
  refine ⟨(Str.ofString "endless", [dT (iR n), dT l, dT t]), rfl, trivial, ?_⟩
  rintro m rfl
  walk_at "mx"
  refine ⟨((r, .tuple [dT (iR n), dT l, dT t]), n), rfl, ⟨hr, n1, hn⟩, ?_⟩
  rintro m rfl
  dsimp only
  rw [g0]
  walk_at "mx"
  refine ⟨rfl, true, rfl, ite_t rfl ?_⟩
  exact ⟨MVd_ne, q⟩
theorem h_gpe (Z : XP) (ms : List MV) (Q : MV → Prop) (q : sp_gap_paper_error.run Z ms Q) : W_gap_paper_error.run Z (entry 8 ms) { nx := fun _ => Q (.d .none), rt := Q } := by
  obtain ⟨⟨n, r, o, p⟩, rfl, hP, q⟩ := q
  obtain ⟨hr, ho, hp, n1, hn, M⟩ := hP
  dsimp only at hr ho hp n1 hn M q
  have q := q _ rfl
  have lr := hr.len
  have lp := hp.len
  dsimp only
  unfold paperD
  walk_at "mx"
  refine ⟨(r, n), rfl, ⟨hr, n1, hn⟩, ?_⟩
  rintro m rfl
  dsimp only
  cases hf : frontB r n with
  | false =>
    rw [if_neg (by decide)]
    walk_at "mx"
    refine ⟨(r, n), rfl, ⟨hr, n1, hn, hf⟩, ?_⟩
    rintro m rfl
    exact ⟨MVd_ne, q⟩
  | true =>
    rw [if_pos rfl]
    have F := front_of hr hf
    have okg : okG ((r, o, p), n) := ⟨F, ho, hp, M hf, n1, hn⟩
    have ow := own_text F ho hp (M hf)
    have tx := textB_of (n := n) (m := 400) hp.text (by omega)
    have e1 := pay_sum r p o
    have e2 := pay_sum r p p
    have cs1 : ∀ (Q : MV → Prop), Q (.d (.int (payL r o p))) → sp_cost.run (fun _ => False) [.d (dT r), .d (dT o), .d (dT p)] Q := fun Q q => ⟨((r, o, p), n), rfl, ⟨⟨hr, ho, hp.text, by show n ≤ 1000; omega⟩, by show p.length ≤ 100000; omega⟩, by rintro m rfl; rw [e1] at q; exact q⟩
    have cs2 : ∀ (Q : MV → Prop), Q (.d (.int (payL r p p))) → sp_cost.run (fun _ => False) [.d (dT r), .d (dT p), .d (dT p)] Q := fun Q q => ⟨((r, p, p), n), rfl, ⟨⟨hr, hp, hp.text, by show n ≤ 1000; omega⟩, by show p.length ≤ 100000; omega⟩, by rintro m rfl; rw [e2] at q; exact q⟩
    clear e1 e2
    walk_at "mx"
    refine ⟨((r, o, p), n), rfl, okg, ?_⟩
    rintro m rfl
    dsimp only
    generalize unlikeL o p = U at *
    generalize payL r o p = a at *
    generalize payL r p p = b at *
    walk_at "mx"
    refine ⟨(Str.ofString "most", [.int (U : Nat), dT p]), rfl, trivial, ?_⟩
    rintro m rfl
    walk_at "mx"
    refine ⟨((U : Int), (U : Int)), rfl, trivial, ?_⟩
    rintro m rfl
    dsimp only
    rw [beq_self_eq_true]
    walk_at "mx"
    refine len_T5 ?_
    rw [lr]
    walk_at "mx"
    refine ⟨(n, dT p), rfl, trivial, ?_⟩
    rintro m (⟨_, rfl⟩ | ⟨c, _⟩)
    · walk_at "mx"
      refine ⟨rfl, false, rfl, ite_f (by decide) ?_⟩
      walk_at "mx"
      refine cs1 _ ?_
      walk_at "mx"
      refine cs2 _ ?_
      walk_at "mx"
      refine ite_nb (fun c => ?_) (fun c => ?_)
      · rw [eqv_int] at c
        have := beq_eq_false_iff_ne.mp c
        omega
      walk_at "mx"
      exact q
    · dsimp only at c
      rw [tx] at c
      cases c
theorem h_gf2 {Z : XP} {n : Nat} {r o l t : List Int} {O : Out} (hr : PRule n r) (ho : POrd n o) (hl : PText n l) (ll : l.length ≤ 40) (ht : PText n t) (t0 : t ≠ []) (lt : t.length ≤ n) (bk : backD r o l t = .none) (hn : n ≤ 12) (q : O.rt (.d .none)) :
    W_gf2.run Z [some (.d (dT r)), some (.d (.tuple [dT o, dT l, dT t])), some (.d (.int n)), some (.d (dT o)), some (.d (dT l)), some (.d (dT t)), none, none, none, none, none] O := by
  obtain ⟨b1, b2⟩ := back_to bk
  have b3 := back_pay bk
  have hw : POrd n (runL r o l) := ho.run hl
  have lt1 : 1 ≤ t.length := by
    cases t with
    | nil => exact absurd rfl t0
    | cons _ _ => simp
  have lr0 : ∀ (Q : MV → Prop), Q (.d (.tuple [dT (runL r o l), .int (payL r o l)])) → sp__law_went.run (fun _ => False) [.d (dT r), .d (dT o), .d (dT l)] Q := fun Q q => ⟨((r, o, l), n), rfl, ⟨hr, ho, hl, by show n ≤ 1000; omega⟩, by rintro m rfl; exact q⟩
  have lr1 : ∀ (Q : MV → Prop), Q (.d (.tuple [dT o, .int (payL r o t)])) → sp__law_went.run (fun _ => False) [.d (dT r), .d (dT o), .d (dT t)] Q := fun Q q => ⟨((r, o, t), n), rfl, ⟨hr, ho, ht, by show n ≤ 1000; omega⟩, by rintro m rfl; dsimp only; rw [b1]; exact q⟩
  have lr2 : ∀ (Q : MV → Prop), Q (.d (.tuple [dT (runL r o l), .int (payL r (runL r o l) t)])) → sp__law_went.run (fun _ => False) [.d (dT r), .d (dT (runL r o l)), .d (dT t)] Q := fun Q q => ⟨((r, runL r o l, t), n), rfl, ⟨hr, hw, ht, by show n ≤ 1000; omega⟩, by rintro m rfl; dsimp only; rw [b2]; exact q⟩
  clear b1 b2
  generalize runL r o l = w at *
  generalize payL r o t = a at *
  generalize payL r w t = b at *
  unfold W_gf2
  walk_at "mx"
  refine ⟨(n, o), rfl, ⟨ho, hn⟩, ?_⟩
  rintro m rfl
  walk_at "mx"
  refine ⟨(n, l), rfl, ⟨hl, by show l.length ≤ 400; omega⟩, ?_⟩
  rintro m rfl
  walk_at "mx"
  refine ⟨(n, t), rfl, ⟨ht, by show t.length ≤ 400; omega⟩, ?_⟩
  rintro m rfl
  walk_at "mx"
  refine len_T5 ?_
  walk_at "mx"
  refine ⟨_, _, rfl, rfl, ite_t (decide_eq_true (by omega)) ?_⟩
  refine ⟨rfl, _, rfl, ?_⟩
  rw [decide_eq_true (show (t.length : Int) ≤ (n : Int) by omega)]
  walk_at "mx"
  refine lr0 _ ?_
  walk_at "mx"
  refine lr1 _ ?_
  walk_at "mx"
  refine lr2 _ ?_
  walk_at "mx"
  refine ne_T o ?_
  walk_at "mx"
  refine ne_T w ?_
  walk_at "mx"
  refine ite_d (fun c => ?_) (fun c => ?_)
  · walk_at "mx"
    exact q
  · omega
theorem h_gain_fault (Z : XP) (ms : List MV) (Q : MV → Prop) (q : sp__law_gain_fault.run Z ms Q) : W__law_gain_fault.run Z (entry 11 ms) { nx := fun _ => Q (.d .none), rt := Q } := by
  obtain ⟨⟨n, r, o, l, t⟩, rfl, ⟨hr, ho, hl, ll, ht, t0, lt, bk, hn⟩, q⟩ := q
  dsimp only at hr ho hl ll ht t0 lt bk hn q
  have q := q _ rfl
  have lr := hr.len
  have fin := h_gf2 (Z := Z) (O := { nx := fun _ => Q (.d .none), rt := Q }) hr ho hl ll ht t0 lt bk hn q
  generalize hR : W_gf2 = R at fin
  unfold W__law_gain_fault
  rw [hR]
  walk_at "mx"
  rw [List.length_map, lr]
  exact fin
theorem h_pf2a {Z : XP} {n U : Nat} {r o p : List Int} {O : Out} (hP : Pap n r o p) (hf : frontB r n = true) (hU : unlikeL o p = U) (q : O.rt (.d .none)) :
    W_pf2.run Z [some (.d (dT r)), some (.d (dT o)), some (.d (dT p)), some (.d (.tuple [.str (Str.ofString "most"), .int (U : Nat), dT p])), some (.d (.int n)), some (.d (.int 3)), some (.d (.str (Str.ofString "most"))), none, none, none] O := by
  obtain ⟨hr, ho, hp, n1, hn, M⟩ := hP
  have F := front_of hr hf
  have ow := own_text F ho hp (M hf)
  have lp := hp.len
  have em : PyData.eqv (.str (Str.ofString "most")) (.str (Str.ofString "endless")) = false := by simp only [PyData.eqv]; decide
  have ap : ∀ (Q : MV → Prop), Q (.d (.int (U : Nat))) → sp__law_apart.run (fun _ => False) [.d (dT o), .d (dT p)] Q := fun Q q => ⟨((o, p), n), rfl, ⟨ho, hp, hn⟩, by rintro m rfl; rw [← hU] at q; exact q⟩
  rw [hU] at ow
  have lr1 : ∀ (Q : MV → Prop), Q (.d (.tuple [dT (runL r o p), .int (payL r o p)])) → sp__law_went.run (fun _ => False) [.d (dT r), .d (dT o), .d (dT p)] Q := fun Q q => ⟨((r, o, p), n), rfl, ⟨hr, ho, hp.text, by show n ≤ 1000; omega⟩, by rintro m rfl; exact q⟩
  have lr2 : ∀ (Q : MV → Prop), Q (.d (.tuple [dT (runL r p p), .int (payL r p p)])) → sp__law_went.run (fun _ => False) [.d (dT r), .d (dT p), .d (dT p)] Q := fun Q q => ⟨((r, p, p), n), rfl, ⟨hr, hp, hp.text, by show n ≤ 1000; omega⟩, by rintro m rfl; exact q⟩
  generalize payL r o p = a at *
  generalize payL r p p = b at *
  unfold W_pf2
  walk_at "mx"
  refine ap _ ?_
  walk_at "mx"
  rw [eqv_int_self]
  walk_at "mx"
  refine ⟨(n, p), rfl, ⟨hp.text, by show p.length ≤ 400; omega⟩, ?_⟩
  rintro m rfl
  walk_at "mx"
  refine lr1 _ ?_
  walk_at "mx"
  refine lr2 _ ?_
  walk_at "mx"
  refine ite_b (fun c => ?_) (fun c => ?_)
  · walk_at "mx"
    exact q
  · rw [eqv_int] at c
    have := beq_eq_false_iff_ne.mp c
    omega
theorem h_pf2b {Z : XP} {n : Nat} {r o p l t : List Int} {O : Out} (hr : PRule n r) (hI : POrd n (iR n)) (hl : PText n l) (ll : l.length ≤ 40) (ht : PText n t) (t0 : t ≠ []) (lt : t.length ≤ n) (bk : backD r (iR n) l t = .none) (hn : n ≤ 12) (q : O.rt (.d .none)) :
    W_pf2.run Z [some (.d (dT r)), some (.d (dT o)), some (.d (dT p)), some (.d (.tuple [.str (Str.ofString "endless"), dT (iR n), dT l, dT t])), some (.d (.int n)), some (.d (.int 4)), some (.d (.str (Str.ofString "endless"))), none, none, none] O := by
  have gf : ∀ (Q : MV → Prop), Q (.d .none) → sp__law_gain_fault.run (fun _ => False) [.d (dT r), .d (.tuple [dT (iR n), dT l, dT t])] Q := fun Q q => ⟨(n, r, iR n, l, t), rfl, ⟨hr, hI, hl, ll, ht, t0, lt, bk, hn⟩, by rintro m rfl; exact q⟩
  clear hI bk
  generalize iR n = I at *
  unfold W_pf2
  walk_at "mx"
  refine gf _ ?_
  walk_at "mx"
  refine ⟨rfl, true, rfl, ite_t rfl ?_⟩
  walk_at "mx"
  exact q
theorem h_gap_fault (Z : XP) (ms : List MV) (Q : MV → Prop) (q : sp__law_gap_fault.run Z ms Q) : W__law_gap_fault.run Z (entry 10 ms) { nx := fun _ => Q (.d .none), rt := Q } := by
  obtain ⟨⟨n, r, o, p⟩, rfl, hP, q⟩ := q
  have hP' := hP
  obtain ⟨hr, ho, hp, n1, hn, M⟩ := hP'
  dsimp only at hr ho hp n1 hn M q hP
  have q := q _ rfl
  have lr := hr.len
  dsimp only
  unfold paperD
  have fr : ∀ (Q : MV → Prop), Q (.d (.bool (frontB r n))) → sp__law_fronts.run (fun _ => False) [.d (dT r)] Q := fun Q q => ⟨(r, n), rfl, ⟨hr, n1, hn⟩, by rintro m rfl; exact q⟩
  cases hf : frontB r n with
  | true =>
    rw [if_pos rfl]
    rw [hf] at fr
    have fin := h_pf2a (Z := Z) (O := { nx := fun _ => Q (.d .none), rt := Q }) hP hf rfl q
    generalize hR : W_pf2 = R at fin
    unfold W__law_gap_fault
    rw [hR]
    walk_at "mx"
    refine len_T5 ?_
    rw [lr]
    refine fr _ ?_
    walk_at "mx"
    refine fr _ ?_
    walk_at "mx"
    exact fin
  | false =>
    rw [if_neg (by decide)]
    rw [hf] at fr
    obtain ⟨l, t, e1, e2, hl, ll, ht, t0, lt, bk⟩ := end_form hr hn hf
    have fin := h_pf2b (Z := Z) (o := o) (p := p) (O := { nx := fun _ => Q (.d .none), rt := Q }) hr (iR_ord n) hl ll ht t0 lt bk hn q
    rw [e2]
    generalize hR : W_pf2 = R at fin
    unfold W__law_gap_fault
    rw [hR]
    walk_at "mx"
    refine len_T5 ?_
    rw [lr]
    refine fr _ ?_
    walk_at "mx"
    refine fr _ ?_
    walk_at "mx"
    exact fin
end Kx

-- M65c
namespace Kx
open PySem PyProof.Rows L2 Mx
variable [TheDeck]
def W_l2 : Stm := (sSeq (sSet 7 (xIf (tB (xOp2 pNe (odS 2) (odE (xInt 1)))) (xCall sp_gap_paper (aCons (xVar 4) (aCons (xVar 5) (aCons (xVar 6) (aNil))))) (xCallK sp_gap_paper [1, 2, 0] 3 (aCons (xVar 6) (aCons (xVar 4) (aCons (xVar 5) (aNil))))))) (sSeq (sIf (tOr (tB (xOp2 pNotN (odE (xCall sp__law_gap_fault (aCons (xVar 4) (aCons (xVar 5) (aCons (xVar 6) (aCons (xVar 7) (aNil))))))) (odE (xNone)))) (tB (xOp2 pNe (odE (xOp1 pRepr (odE (xCall sp_gap_paper (aCons (xVar 4) (aCons (xVar 5) (aCons (xVar 6) (aNil)))))))) (odE (xOp1 pRepr (odS 7)))))) (sRet (xBool false)) (sSkip)) (sIf (tB (xOp2 pNotN (odE (xCall sp_gap_paper_error (aCons (xVar 4) (aCons (xVar 5) (aCons (xVar 6) (aCons (xVar 7) (aNil))))))) (odE (xNone)))) (sRet (xBool false)) (sSkip))))
def W_l1 : Stm := (sSeq (sSet 5 (xCall sp__law_list (aCons (xVar 1) (aCons (xVar 3) (aNil))))) (sSeq (sSet 6 (xIf (tB (xCall sp__law_fronts (aCons (xVar 4) (aNil)))) (xCall sp__law_within (aCons (xVar 1) (aCons (xVar 4) (aCons (xVar 5) (aNil))))) (xCall sp__law_list (aCons (xVar 1) (aCons (xVar 3) (aNil)))))) W_l2))
def W_l0 : Stm := (sSeq (sSet 4 (xIf (tB (xOp2 pLt (odS 2) (odE (xInt 4)))) (xCall sp__law_small (aCons (xVar 1) (aCons (xVar 3) (aNil)))) (xCall sp__law_rule (aCons (xVar 1) (aCons (xVar 3) (aNil)))))) W_l1)
def W_law1_b1 : Stm := sSeq (sSet 3 (xIf (tB (xOp2 pLt (odS 2) (odE (xInt 4)))) (xCall sp__law_pick (aCons (xVar 1) (aCons (xLst (aCons (xInt 1) (aCons (xInt 2) (aCons (xInt 3) (aCons (xInt 3) (aCons (xInt 4) (aCons (xInt 4) (aNil)))))))) (aNil)))) (xCall sp__law_pick (aCons (xVar 1) (aCons (xLst (aCons (xInt 5) (aCons (xInt 6) (aCons (xInt 8) (aCons (xInt 12) (aNil)))))) (aNil)))))) W_l0
def W_law1 : Stm := sSeq (sFor (iRange1 (aCons (xInt 6) (aNil))) (gName 2) W_law1_b1) (sRet (xBool true))
theorem okd_s5 {s : Str} (h1 : (PyData.str s).showable = true) (h2 : (PyData.str s).canLay0 = true) (h3 : (PyData.str s).leavesShort 40 = true) (h4 : (PyData.str s).weight ≤ 400) : Okd (.str s) 400 0 := ⟨h1, h2, h3, Nat.le_refl _, h4⟩
theorem okd_paper {n : Nat} {r o p : List Int} (hP : Pap n r o p) : Okd (paperD n r o p) (4 * 3001) 2 := by
  obtain ⟨hr, ho, hp, n1, hn, M⟩ := hP
  unfold paperD
  by_cases c : frontB r n = true
  · rw [if_pos c]
    have b := unlike_le (o := o) hp
    have : n * n ≤ 12 * 12 := Nat.mul_le_mul hn hn
    refine (Okd.tup (m := 3) (n := 3000) (k := 1) (fun x hx => ?_) (by show 3 ≤ 3; decide)).mono (by decide) (by decide)
    simp only [List.mem_cons, List.not_mem_nil, or_false] at hx
    rcases hx with rfl | rfl | rfl
    · exact (okd_s5 (by decide) (by simp only [PyData.canLay0]; decide +kernel) (by decide) (by decide)).mono (by decide) (by decide)
    · exact (Okd.int (by omega)).mono (by decide) (by decide)
    · exact (okd_o hp hn).mono (by decide) (by decide)
  · rw [if_neg c]
    obtain ⟨l, t, e1, e2, hl, ll, ht, t0, lt, bk⟩ := end_form hr hn (Bool.eq_false_iff.mpr c)
    rw [e2]
    have row : ∀ {u : List Int}, PText n u → u.length ≤ 40 → Okd (dT u) 3000 1 := fun {u} h hl => (Okd.ints (m := 40) (fun i hi => by have := h i hi; omega) hl).mono (by decide) (by decide)
    refine (Okd.tup (m := 4) (n := 3000) (k := 1) (fun x hx => ?_) (by show 4 ≤ 4; decide)).mono (by decide) (by decide)
    simp only [List.mem_cons, List.not_mem_nil, or_false] at hx
    rcases hx with rfl | rfl | rfl | rfl
    · exact (okd_s5 (by decide) (by simp only [PyData.canLay0]; decide +kernel) (by decide) (by decide)).mono (by decide) (by decide)
    · exact row (iR_ord n).mem (by rw [(iR_ord n).len]; omega)
    · exact row hl ll
    · exact row ht (by omega)
theorem h_lt2 {Z : XP} {n : Nat} {w : Int} {x0 x3 : Option MV} {r o p : List Int} {O : Out} (hP : Pap n r o p)
    (k : ∀ x7, O.nx [x0, some .dk, some (.d (.int w)), x3, some (.d (dT r)), some (.d (dT o)), some (.d (dT p)), x7]) :
    ∀ x7, W_l2.run Z [x0, some .dk, some (.d (.int w)), x3, some (.d (dT r)), some (.d (dT o)), some (.d (dT p)), x7] O := fun x7 => by
  have okp := okd_paper hP
  have gp : ∀ (Q : MV → Prop), Q (.d (paperD n r o p)) → sp_gap_paper.run (fun _ => False) [.d (dT r), .d (dT o), .d (dT p)] Q := fun Q q => ⟨(n, r, o, p), rfl, hP, by rintro m rfl; exact q⟩
  have gf : ∀ (Q : MV → Prop), Q (.d .none) → sp__law_gap_fault.run (fun _ => False) [.d (dT r), .d (dT o), .d (dT p), .d (paperD n r o p)] Q := fun Q q => ⟨(n, r, o, p), rfl, hP, by rintro m rfl; exact q⟩
  have ge : ∀ (Q : MV → Prop), Q (.d .none) → sp_gap_paper_error.run (fun _ => False) [.d (dT r), .d (dT o), .d (dT p), .d (paperD n r o p)] Q := fun Q q => ⟨(n, r, o, p), rfl, hP, by rintro m rfl; exact q⟩
  generalize paperD n r o p = P at *
  have rest : (sSeq (sIf (Mx.tOr (Mx.tB (xOp2 pNotN (odE (xCall sp__law_gap_fault (aCons (xVar 4) (aCons (xVar 5) (aCons (xVar 6) (aCons (xVar 7) (aNil))))))) (odE (xNone)))) (Mx.tB (xOp2 pNe (odE (xOp1 pRepr (odE (xCall sp_gap_paper (aCons (xVar 4) (aCons (xVar 5) (aCons (xVar 6) (aNil)))))))) (odE (xOp1 pRepr (odS 7)))))) (sRet (xBool false)) (sSkip)) (sIf (Mx.tB (xOp2 pNotN (odE (xCall sp_gap_paper_error (aCons (xVar 4) (aCons (xVar 5) (aCons (xVar 6) (aCons (xVar 7) (aNil))))))) (odE (xNone)))) (sRet (xBool false)) (sSkip))).run Z [x0, some .dk, some (.d (.int w)), x3, some (.d (dT r)), some (.d (dT o)), some (.d (dT p)), some (.d P)] O := by
    walk_at "mx"
    refine gf _ ?_
    walk_at "mx"
    refine ⟨rfl, false, rfl, ite_f (by decide) ?_⟩
    walk_at "mx"
    refine gp _ ?_
    walk_at "mx"
    refine okp.repr (by decide) (by decide) ?_
    walk_at "mx"
    refine okp.repr (by decide) (by decide) ?_
    refine ⟨_, _, rfl, rfl, ne_S _ ?_⟩
    walk_at "mx"
    refine ge _ ?_
    walk_at "mx"
    refine ⟨rfl, false, rfl, ite_f (by decide) ?_⟩
    walk_at "mx"
    exact k _
  unfold W_l2
  generalize (sSeq (sIf (Mx.tOr (Mx.tB (xOp2 pNotN (odE (xCall sp__law_gap_fault (aCons (xVar 4) (aCons (xVar 5) (aCons (xVar 6) (aCons (xVar 7) (aNil))))))) (odE (xNone)))) (Mx.tB (xOp2 pNe (odE (xOp1 pRepr (odE (xCall sp_gap_paper (aCons (xVar 4) (aCons (xVar 5) (aCons (xVar 6) (aNil)))))))) (odE (xOp1 pRepr (odS 7)))))) (sRet (xBool false)) (sSkip)) (sIf (Mx.tB (xOp2 pNotN (odE (xCall sp_gap_paper_error (aCons (xVar 4) (aCons (xVar 5) (aCons (xVar 6) (aCons (xVar 7) (aNil))))))) (odE (xNone)))) (sRet (xBool false)) (sSkip))) = R at rest ⊢
  walk_at "mx"
  refine ite_nb (fun c => ?_) (fun c => ?_)
  · walk_at "mx"
    refine gp _ ?_
    exact rest
  · walk_at "mx"
    refine gp _ ?_
    exact rest
theorem h_l1 {Z : XP} {n : Nat} {w : Int} {x0 x5 x6 x7 : Option MV} {r : List Int} {O : Out} (hr : PRule n r) (n1 : 1 ≤ n) (hn : n ≤ 12)
    (k : ∀ x3 x4 x5 x6 x7, O.nx [x0, some .dk, some (.d (.int w)), x3, x4, x5, x6, x7]) :
    W_l1.run Z [x0, some .dk, some (.d (.int w)), some (.d (.int n)), some (.d (dT r)), x5, x6, x7] O := by
  have fin := fun {o p : List Int} (hP : Pap n r o p) => h_lt2 (Z := Z) (w := w) (x0 := x0) (x3 := some (.d (.int n))) (O := O) hP (fun x7 => k _ _ _ _ _) x7
  generalize hR : W_l2 = R at fin
  unfold W_l1
  rw [hR]
  walk_at "mx"
  refine ⟨n, rfl, by show n ≤ 1000; omega, ?_⟩
  rintro m ⟨o, ho, rfl⟩
  walk_at "mx"
  refine ⟨(r, n), rfl, ⟨hr, n1, hn⟩, ?_⟩
  rintro m rfl
  dsimp only
  cases hf : frontB r n with
  | true =>
    walk_at "mx"
    refine ⟨((r, o), n), rfl, ⟨hr, ho, n1, hn⟩, ?_⟩
    rintro m ⟨p, hp, M, rfl⟩
    exact fin ⟨hr, ho, hp, n1, hn, fun _ => M⟩
  | false =>
    walk_at "mx"
    refine ⟨n, rfl, by show n ≤ 1000; omega, ?_⟩
    rintro m ⟨p, hp, rfl⟩
    exact fin ⟨hr, ho, hp, n1, hn, fun z => by rw [hf] at z; cases z⟩
theorem h_l0 {Z : XP} {n : Nat} {w : Int} {x0 x4 x5 x6 x7 : Option MV} {O : Out} (n1 : 1 ≤ n) (hn : n ≤ 12)
    (k : ∀ x3 x4 x5 x6 x7, O.nx [x0, some .dk, some (.d (.int w)), x3, x4, x5, x6, x7]) :
    W_l0.run Z [x0, some .dk, some (.d (.int w)), some (.d (.int n)), x4, x5, x6, x7] O := by
  have fin := fun {r : List Int} (hr : PRule n r) => h_l1 (Z := Z) (w := w) (x0 := x0) (x5 := x5) (x6 := x6) (x7 := x7) (O := O) hr n1 hn k
  generalize hR : W_l1 = R at fin
  unfold W_l0
  rw [hR]
  walk_at "mx"
  refine ite_d (fun c => ?_) (fun c => ?_)
  · walk_at "mx"
    refine ⟨n, rfl, ⟨n1, hn⟩, ?_⟩
    rintro m ⟨r, hr, rfl⟩
    exact fin hr
  · walk_at "mx"
    refine ⟨n, rfl, ⟨n1, hn⟩, ?_⟩
    rintro m ⟨r, hr, rfl⟩
    exact fin hr
theorem h_lb1 {Z : XP} {w : Int} {x0 x3 x4 x5 x6 x7 : Option MV} {O : Out}
    (k : ∀ x3 x4 x5 x6 x7, O.nx [x0, some .dk, some (.d (.int w)), x3, x4, x5, x6, x7]) :
    W_law1_b1.run Z [x0, some .dk, some (.d (.int w)), x3, x4, x5, x6, x7] O := by
  have fin := fun {n : Nat} (n1 : 1 ≤ n) (hn : n ≤ 12) => h_l0 (Z := Z) (n := n) (w := w) (x0 := x0) (x4 := x4) (x5 := x5) (x6 := x6) (x7 := x7) (O := O) n1 hn k
  generalize hR : W_l0 = R at fin
  unfold W_law1_b1
  rw [hR]
  walk_at "mx"
  refine ite_d (fun c => ?_) (fun c => ?_)
  · walk_at "mx"
    refine ⟨⟨by simp, by show 6 ≤ 100000; decide⟩, ?_⟩
    rintro m ⟨y, hy, rfl⟩
    obtain ⟨n, rfl, n1, n2⟩ : ∃ n : Nat, y = .int (n : Int) ∧ 1 ≤ n ∧ n ≤ 12 := by
      simp only [List.mem_cons, List.not_mem_nil, or_false] at hy
      rcases hy with rfl | rfl | rfl | rfl | rfl | rfl
      · exact ⟨1, rfl, by decide, by decide⟩
      · exact ⟨2, rfl, by decide, by decide⟩
      · exact ⟨3, rfl, by decide, by decide⟩
      · exact ⟨3, rfl, by decide, by decide⟩
      · exact ⟨4, rfl, by decide, by decide⟩
      · exact ⟨4, rfl, by decide, by decide⟩
    exact fin n1 n2
  · walk_at "mx"
    refine ⟨⟨by simp, by show 4 ≤ 100000; decide⟩, ?_⟩
    rintro m ⟨y, hy, rfl⟩
    obtain ⟨n, rfl, n1, n2⟩ : ∃ n : Nat, y = .int (n : Int) ∧ 1 ≤ n ∧ n ≤ 12 := by
      simp only [List.mem_cons, List.not_mem_nil, or_false] at hy
      rcases hy with rfl | rfl | rfl | rfl
      · exact ⟨5, rfl, by decide, by decide⟩
      · exact ⟨6, rfl, by decide, by decide⟩
      · exact ⟨8, rfl, by decide, by decide⟩
      · exact ⟨12, rfl, by decide, by decide⟩
    exact fin n1 n2
theorem h_law {Z : XP} {Q : MV → Prop} (q : Q (.d (.bool true))) {O : Out} (hO : O.rt = Q) : W_law1.run Z [none, some .dk, none, none, none, none, none, none] O := by
  subst hO
  obtain ⟨W, hW⟩ := inv fun (i : Nat) e => ∃ (x2 x3 x4 x5 x6 x7 : Option MV), e = [none, some .dk, x2, x3, x4, x5, x6, x7]
  refine go_to ?_
  unfold W_law1
  refine go_seq (for_int (by omega) W ((hW _ _).mpr ⟨_, _, _, _, _, _, rfl⟩) ?_ ?_)
  · rintro i hi e w
    obtain ⟨x2, x3, x4, x5, x6, x7, rfl⟩ := (hW _ _).mp w
    dsimp only [List.set]
    refine Mx.go_of (h_lb1 ?_)
    exact fun x3 x4 x5 x6 x7 => (hW _ _).mpr ⟨_, _, _, _, _, _, rfl⟩
  rintro e w
  obtain ⟨x2, x3, x4, x5, x6, x7, rfl⟩ := (hW _ _).mp w
  refine nx_seq (Mx.go_of ?_)
  walk_at "mx"
  exact q
end Kx

-- Kk65f
namespace Kx
open PySem PySem.Spec PyProof.Rows L2 Mx
def topS (i : Nat) : Stmt := PySem.Challenge.pw_forwardlists_k65_whole_gap_papers_judged.main.body.getD i (.Pass ⟨0, 0, 0, 0⟩)
structure Bl (K : PySem.W.Frag) (mg : Str → Option Value) : Prop where
  abs : mg "abs" = none
  all : mg "all" = none
  bool : mg "bool" = none
  enumerate : mg "enumerate" = none
  int : mg "int" = none
  isinstance : mg "isinstance" = none
  len : mg "len" = none
  list : mg "list" = none
  max : mg "max" = none
  min : mg "min" = none
  range : mg "range" = none
  repr : mg "repr" = none
  sorted : mg "sorted" = none
  str : mg "str" = none
  sum : mg "sum" = none
  tuple : mg "tuple" = none
  zip : mg "zip" = none
  g_MAX_STAYING : ∃ u, mg "MAX_STAYING" = some u ∧ ConstIs K (.int 7) u
  g_MAX_TEXT : ∃ u, mg "MAX_TEXT" = some u ∧ ConstIs K (.int 400) u
  g_ODD_RULES : ∃ u, mg "ODD_RULES" = some u ∧ ConstIs K (.tuple [(.tuple [(.int 0), (.int 1), (.int 2), (.int 0), (.int 4), (.int 1)]), (.tuple [(.int 0), (.int 1), (.int 2), (.int 0), (.int 4), (.int 2)]), (.tuple [(.int 0), (.int 1), (.int 2), (.int 3), (.int 0), (.int 2)])]) u
instance : TheDeck := ⟨fun K0 => ∃ d g, K0 = deckA "far" "mixed" "count" d g⟩
abbrev s_is_number : Stmt := topS 5
abbrev s_is_within : Stmt := topS 6
abbrev s_is_same : Stmt := topS 7
abbrev s_asked : Stmt := topS 9
abbrev s_run : Stmt := topS 10
abbrev s_walls : Stmt := topS 12
abbrev s_blocks : Stmt := topS 13
abbrev s_own_rule : Stmt := topS 14
abbrev s_is_front : Stmt := topS 15
abbrev s__check_staying : Stmt := topS 20
abbrev s_kind_of : Stmt := topS 21
abbrev s__is_even : Stmt := topS 23
abbrev s__least_part : Stmt := topS 24
abbrev s_least_order : Stmt := topS 25
abbrev s_comes_out : Stmt := topS 26
abbrev s_places_of : Stmt := topS 28
abbrev s_text_behind : Stmt := topS 29
abbrev s_cost : Stmt := topS 30
abbrev s__stranger : Stmt := topS 32
abbrev s_order_error : Stmt := topS 33
abbrev s_text_error : Stmt := topS 34
abbrev s__late_place : Stmt := topS 36
abbrev s__places_to_front : Stmt := topS 37
abbrev s_gains : Stmt := topS 38
abbrev s_gains_error : Stmt := topS 39
abbrev s_view : Stmt := topS 41
abbrev s_unlike : Stmt := topS 43
abbrev s__check_bounded : Stmt := topS 44
abbrev s_gap : Stmt := topS 45
abbrev s_gap_text : Stmt := topS 46
abbrev s__begins : Stmt := topS 48
abbrev s_gap_paper : Stmt := topS 49
abbrev s__endless_error : Stmt := topS 50
abbrev s_gap_paper_error : Stmt := topS 51
abbrev s__law_bag : Stmt := topS 53
abbrev s__law_draw : Stmt := topS 54
abbrev s__law_pick : Stmt := topS 55
abbrev s__law_mixed : Stmt := topS 56
abbrev s__law_list : Stmt := topS 57
abbrev s__law_step : Stmt := topS 58
abbrev s__law_went : Stmt := topS 59
abbrev s__law_apart : Stmt := topS 60
abbrev s__law_is_list : Stmt := topS 61
abbrev s__law_are_letters : Stmt := topS 62
abbrev s__law_is_text : Stmt := topS 63
abbrev s__law_begins : Stmt := topS 64
abbrev s__law_fronts : Stmt := topS 65
abbrev s__law_rule : Stmt := topS 66
abbrev s__law_small : Stmt := topS 67
abbrev s__law_within : Stmt := topS 68
abbrev s__law_gain_fault : Stmt := topS 69
abbrev s__law_gap_fault : Stmt := topS 70
abbrev s_law : Stmt := topS 71
/-! ### the deck -/
theorem sc__law_bag : FnScope ["script", "marks", "mixed", "mark", "cell"] ["script"] (defScope s__law_bag) := ⟨rfl, rfl, rfl, by decide +kernel, rfl, by decide +kernel, by decide +kernel⟩
theorem sc__law_draw : FnScope ["bag", "many", "far", "count", "mixed", "mark"] ["bag", "many"] (defScope s__law_draw) := ⟨rfl, rfl, rfl, by decide +kernel, rfl, by decide +kernel, by decide +kernel⟩
section
variable {P : Program} {w : World} {K : PySem.W.Frag} {mg : Str → Option Value} {base : Heap}
theorem ok__law_bag {f : Addr} {fd : FuncData} (F : Fun K "_law_bag" "_law_bag" s__law_bag f fd) (T : Bl K mg) : FnG P w K mg base CX0 1 f fd ["script"] (spDeckA K "far" "mixed" "count") := by
  refine fnG_of F sc__law_bag (fun vs H Q E h => ?_) (fun cdv A outer s H vs Q E hr hg h => ?_)
  · obtain ⟨a, ns, rfl, _⟩ := h
    rfl
  obtain ⟨a, ns, rfl, hS, hlen, q⟩ := h
  refine ⟨_, PSs.nox (pss_cons (ps_par (i := 1) (j := 2) rfl sc__law_bag.nd rfl rfl (by decide) rfl rfl (pa_cons (pe_lc (own := [("cell", 4)]) (g := L2.gName 4) (tt := L2.tYes) rfl sc__law_bag.nd (pi_list (pe_slice sl_list (pv 0) po_none (po_some pe_int))) (blkOk_by (own := [("cell", 4)]) (N := ["script", "marks", "mixed", "mark", "cell"]) (sc := defScope s__law_bag) (by decide +kernel)) (fun _ _ _ _ _ => pg_name (i := 4) sc__law_bag.nd rfl (Or.inl rfl)) (fun _ _ _ _ _ => pts_nil) (fun _ _ _ _ _ => pe_op op_add (pe_op op_mul pe_int (pe_callB call_abs (by rfl) T.abs (by decide +kernel) (pa_cons (pv 4) pa_nil))) (pe_callTy call_int1 (by rfl) T.int (by decide +kernel) (pa_cons (pe_cmpR op_lt (pv 4) pe_int (nomark _)) pa_nil)))) (pa_cons (pe_op op_add pe_int (pe_op op_mul pe_int (pe_callB call_len_seq (by rfl) T.len PySem.boot_len (pa_cons (pv 0) pa_nil)))) pa_nil)) (by rfl))
    (pss_cons (ps_for PassesOwn.never rfl (pi_list (pv 1)) (pg_name (i := 3) sc__law_bag.nd rfl (.inl rfl)) (pss_one (ps_set (i := 2) sc__law_bag.nd rfl (.inl rfl) (pe_op op_mod (pe_callTy call_int1 (by rfl) T.int (by decide +kernel) (pa_cons (pe_op op_add (pe_op op_add (pe_op op_mul (pv 2) pe_int) (pv 3)) pe_int) pa_nil)) pe_int))))
    (pss_one (ps_ret (pe_disp (pps_cons pe_str (pe_lc (own := [("mark", 3)]) (g := L2.gName 3) rfl sc__law_bag.nd (pi_list (pv 1)) (blkOk_by (own := [("mark", 3)]) (N := ["script", "marks", "mixed", "mark", "cell"]) (sc := defScope s__law_bag) (by decide +kernel)) (fun _ _ _ _ _ => pg_name (i := 3) sc__law_bag.nd rfl (Or.inl rfl)) (fun _ _ _ _ _ => pts_one (pt_cmpR op_gt (pv 3) (pe_op op_pow pe_int pe_int) (nomark _))) (fun _ _ _ _ _ => pv 3)) (pps_cons pe_str (pv 2) (pps_cons pe_str pe_int pps_nil))) (by rfl) (by rfl) (fun z => by cases z) (by decide)))))), ?_⟩
  refine ⟨.ref a, rfl, 63, rfl, a, _, rfl, hS, fun c nc => ?_⟩
  have hcut : ∃ cs : List Int, cutV (ns.map V.int) none (some 63) = cs.map V.int ∧ cs.length ≤ 63 := by
    refine ⟨(ns.drop (HT.sIx ns.length 0 none)).take (HT.sIx ns.length ns.length (some 63) - HT.sIx ns.length 0 none), ?_, ?_⟩
    · unfold cutV
      rw [List.length_map, List.map_take, List.map_drop]
    · rw [List.length_take, List.length_drop]
      omega
  obtain ⟨cs, ecs, hcs⟩ := hcut
  rw [ecs]
  have s1 : Same H (upd H c (.lst (cs.map V.int))) := same_new nc
  refine ⟨c, rfl, ⟨_, .inl (.inl upd_same)⟩, fun D nD => ?_⟩
  have ncD : c ≠ D := ne_of_none upd_same nD
  refine lc_list (K := K) (a := c) (xs := cs.map V.int) (fun i H2 => ∃ ms : List Int, Same H H2 ∧ H2 c = some (.lst (cs.map V.int)) ∧ H2 D = some (.lst (ms.map V.int)) ∧ ms.length = i)
    ⟨[], fun b o e => (upd_ne (ne_of_none (s1 _ _ e) nD)).trans (s1 _ _ e), (upd_ne ncD).trans upd_same, upd_same, rfl⟩ (fun i H2 _ ⟨_, _, e, _⟩ => .inl (.inl e)) ?_ ?_
  · rintro i y H2 hi ⟨ms, sm, ec, eD, hl⟩
    have hi63 : i < cs.length := by
      have z := (List.getElem?_eq_some_iff.mp hi).1
      rw [List.length_map] at z
      exact z
    obtain ⟨u, rfl⟩ : ∃ u, y = V.int u := by
      rw [List.getElem?_map] at hi
      cases e : cs[i]? with
      | none => rw [e] at hi; cases hi
      | some u => rw [e] at hi; exact ⟨u, (Option.some.inj hi).symm⟩
    refine ⟨rfl, ?_⟩
    unfold L2.tYes
    refine ite2 (fun _ => ?_) (fun z => absurd rfl z)
    refine ⟨.int u, rfl, u, rfl, 2, _, rfl, rfl, .inl ⟨by decide, by decide⟩, .int u, rfl, _, _, rfl, rfl, .inr ⟨_, rfl, _, _, rfl, rfl, ?_⟩⟩
    refine ⟨_, eD, by rw [List.length_map, sizeLine_eq]; omega, ms ++ [2 * (if u < 0 then -u else u) + (if decide (u < 0) = true then 1 else 0)], ?_, ?_, ?_, by rw [List.length_append, hl]; rfl⟩
    · intro b o e
      rw [upd_ne (fun z => by rw [z] at e; have := (s1 _ _ e).symm.trans nD; cases this)]
      exact sm _ _ e
    · rw [upd_ne ncD]
      exact ec
    · rw [upd_same, List.map_append]
      rfl
  · rintro H2 ⟨ms, sm, ec, eD, hl⟩
    rw [List.length_map] at hl
    have nH : H D = none := by
      cases z : H D with
      | none => rfl
      | some o => have := (s1 _ _ z).symm.trans nD; cases this
    refine ⟨.ref a, rfl, a, _, rfl, .inl (sm.seq hS), _, _, rfl, rfl, .inl ⟨by decide, by decide⟩, _, _, rfl, rfl, ?_⟩
    refine ⟨_, _, rfl, ?_⟩
    refine ⟨.ref D, rfl, D, rfl, ⟨_, .inl (.inl eD)⟩, ?_⟩
    refine for_list (K := K) (a := D) (xs := ms.map V.int) (fun i σ H3 => ∃ (y3 : Option V) (m : Int), σ = [some (.ref a), some (.ref D), some (.int m), y3, none] ∧ H3 = H2) ⟨none, _, rfl, rfl⟩ (fun i σ H3 _ ⟨_, _, _, e⟩ => by subst e; exact .inl (.inl eD)) ?_ ?_
    · rintro i y σ H3 hi ⟨y3, m, rfl, rfl⟩
      obtain ⟨u, rfl⟩ : ∃ u, y = V.int u := by
        rw [List.getElem?_map] at hi
        cases e : ms[i]? with
        | none => rw [e] at hi; cases hi
        | some u => rw [e] at hi; exact ⟨u, (Option.some.inj hi).symm⟩
      exact ⟨.int m, rfl, _, _, rfl, rfl, .inr ⟨by decide, by decide⟩, .int u, rfl, _, _, rfl, rfl, _, _, rfl, rfl, .inl ⟨_, rfl, _, _, rfl, rfl, (by show (0 : Int) < 4294967291; decide), _, _, rfl, rfl⟩⟩
    · rintro σ H3 ⟨y3, m, rfl, rfl⟩
      intro d nd
      have nHd : H d = none := by
        cases z : H d with
        | none => rfl
        | some o => have := (sm _ _ z).symm.trans nd; cases this
      have ndD : D ≠ d := ne_of_none eD nd
      have sd : Same H (upd H3 d (.dK [])) := fun b o e => (upd_ne (ne_of_none (sm _ _ e) nd)).trans (sm _ _ e)
      refine ⟨.ref D, rfl, D, rfl, ⟨_, .inl (.inl ((upd_ne ndD).trans eD))⟩, fun g ng => ?_⟩
      have ndg : d ≠ g := ne_of_none upd_same ng
      have nDg : D ≠ g := ne_of_none ((upd_ne ndD).trans eD) ng
      have nHg : H g = none := by
        cases z : H g with
        | none => rfl
        | some o => have := (sd _ _ z).symm.trans ng; cases this
      refine lc_list (K := K) (a := D) (xs := ms.map V.int) (fun i H4 => ∃ gs : List Int, Same H H4 ∧ H4 D = some (.lst (ms.map V.int)) ∧ H4 d = some (.dK []) ∧ H4 g = some (.lst (gs.map V.int)) ∧ gs.length ≤ i)
        ⟨[], fun b o e => (upd_ne (ne_of_none (sd _ _ e) ng)).trans (sd _ _ e), (upd_ne nDg).trans ((upd_ne ndD).trans eD), (upd_ne ndg).trans upd_same, upd_same, Nat.le_refl _⟩ (fun i H4 _ ⟨_, _, e, _⟩ => .inl (.inl e)) ?_ ?_
      · rintro i y H4 hi ⟨gs, sm4, e1, e2, e3, hg4⟩
        obtain ⟨u, rfl⟩ : ∃ u, y = V.int u := by
          rw [List.getElem?_map] at hi
          cases e : ms[i]? with
          | none => rw [e] at hi; cases hi
          | some u => rw [e] at hi; exact ⟨u, (Option.some.inj hi).symm⟩
        have hi63 : i < ms.length := by
          have z := (List.getElem?_eq_some_iff.mp hi).1
          rw [List.length_map] at z
          exact z
        refine ⟨rfl, .int u, rfl, _, _, rfl, rfl, ⟨by decide, by decide, by decide⟩, _, _, rfl, rfl, _, rfl, ite2 (fun _ => ?_) (fun _ => ?_)⟩
        · refine ⟨.int u, rfl, _, e3, by rw [List.length_map, sizeLine_eq]; omega, gs ++ [u], fun b o e => ?_, ?_, ?_, ?_, by rw [List.length_append]; exact Nat.succ_le_succ hg4⟩
          · rw [upd_ne (fun z => by rw [z, nHg] at e; cases e)]
            exact sm4 _ _ e
          · rw [upd_ne nDg]
            exact e1
          · rw [upd_ne ndg]
            exact e2
          · rw [upd_same, List.map_append]
            rfl
        · exact ⟨gs, sm4, e1, e2, e3, Nat.le_succ_of_le hg4⟩
      · rintro H4 ⟨gs, sm4, e1, e2, e3, hg4⟩
        rw [List.length_map] at hg4
        have ef : ∀ b, b ≠ d → upd H4 d (.dK (mergeK [] [(Sum.inr "far", .ref g), (Sum.inr "mixed", .int m), (Sum.inr "count", .int 0)])) b = H4 b := fun b hb => upd_ne hb
        refine ⟨.int m, rfl, e2, [(Sum.inr "far", V.ref g), (Sum.inr "mixed", V.int m), (Sum.inr "count", .int 0)], rfl, (by show 3 ≤ 15; decide), ?_⟩
        exact q _ d g (fun b o e => (ef b (fun z => by rw [z, nHd] at e; cases e)).trans (sm4 _ _ e)) nHd nHg ⟨gs, m, 0, by rw [upd_same]; rfl, (ef g ndg.symm).trans e3, by omega⟩
theorem ok__law_draw {f : Addr} {fd : FuncData} (F : Fun K "_law_draw" "_law_draw" s__law_draw f fd) (T : Bl K mg) : FnG P w K mg base CX0 1 f fd ["bag", "many"] (spM K mg spDrawG) := by
  refine fnG_of F sc__law_draw (fun vs H Q E h => ?_) (fun cdv A outer s H vs Q E hr hg h => ?_)
  · obtain ⟨Z, Hd, dk, ms, _, as, _, many, rfl, _⟩ := h
    cases as with
    | dk e as => cases as with
      | d dq as => cases as; rfl
  obtain ⟨Z, Hd, dk, ms, B, as, _, many, rfl, hm0, hm, h⟩ := h
  cases as with
  | dk e as => cases as with
    | d dq as =>
      cases as
      obtain rfl := dq.int_inv
      obtain ⟨d, g, rfl⟩ := B.kd _ e
      obtain ⟨gs, m, t, e1, e2, hl⟩ := (B.dk _ e).1
      have ndg : d ≠ g := ne_of e1 e2 (by intro z; cases z)
      have hu : (A.deeper (envOfC "_law_draw" (defScope s__law_draw) s.heap.objs.size f cdv)).units + 1 < cLine := hu_of hr
      refine ⟨_, PSs.nox (pss_cons (ps_set (i := 2) sc__law_draw.nd rfl (.inl rfl) (pe_dget hu (pv 0) pe_str (fun _ _ => rfl)))
        (pss_cons (ps_if (pt_cmpR (op_neD hr.units) (pv 2) (pe_lst pa_nil) (nomark _))
          (pss_cons (ps_set (i := 5) sc__law_draw.nd rfl (.inl rfl) (pe_ix ix_list (pv 2) pe_int (fun _ _ => rfl)))
          (pss_cons (ps_asg (pe_op op_fdiv (pv 5) (pv 1)) (pg_sub (pv 2) pe_int set_list))
          (pss_cons (ps_if (pt_cmpR op_lt (pv 5) (pv 1) (nomark _)) (pss_one (ps_expr (pe_bm PySem.F.plainAttrs_list PySem.F.slot_list_pop PySem.F.type_list_pop mt_popAt (pv 2) (pa_cons pe_int pa_nil)))) pss_nil)
          (pss_one (ps_ret (pe_op op_mod (pe_callTy call_int1 (by rfl) T.int (by decide +kernel) (pa_cons (pv 5) pa_nil)) (pv 1))))))) pss_nil)
        (pss_cons (ps_set (i := 3) sc__law_draw.nd rfl (.inl rfl) (pe_op op_add (pe_dget hu (pv 0) pe_str (fun _ _ => rfl)) pe_int))
        (pss_cons (ps_dput hu (pv 0) pe_str (pv 3) rfl)
        (pss_cons (ps_set (i := 4) sc__law_draw.nd rfl (.inl rfl) (pe_op op_mod (pe_callTy call_int1 (by rfl) T.int (by decide +kernel) (pa_cons (pe_op op_add (pe_dget hu (pv 0) pe_str (fun _ _ => rfl)) (pe_op op_mul pe_int (pv 3))) pa_nil)) pe_int))
        (pss_cons (ps_set (i := 4) sc__law_draw.nd rfl (.inl rfl) (pe_op op_mod (pe_callTy call_int1 (by rfl) T.int (by decide +kernel) (pa_cons (pe_op op_add (pe_op op_add (pe_op op_mul (pv 4) (pv 4)) (pe_op op_mul pe_int (pv 3))) pe_int) pa_nil)) pe_int))
        (pss_cons (ps_set (i := 4) sc__law_draw.nd rfl (.inl rfl) (pe_op op_mod (pe_callTy call_int1 (by rfl) T.int (by decide +kernel) (pa_cons (pe_op op_add (pe_op op_mul (pv 4) (pv 4)) (pe_dget hu (pv 0) pe_str (fun _ _ => rfl))) pa_nil)) pe_int))
        (pss_one (ps_ret (pe_op op_mod (pe_callTy call_int1 (by rfl) T.int (by decide +kernel) (pa_cons (pe_op op_fdiv (pv 4) pe_int) pa_nil)) (pv 1))))))))))), ?_⟩
      have get : ∀ (H3 : Hp) (m t : Int), H3 d = some (.dK [(Sum.inr "far", .ref g), (Sum.inr "mixed", .int m), (Sum.inr "count", .int t)]) → DGet H3 d (.str "far") (some (.ref g)) ∧ DGet H3 d (.str "mixed") (some (.int m)) ∧ DGet H3 d (.str "count") (some (.int t)) := fun H3 m t e =>
        ⟨DGet.k (k := .inr "far") e, DGet.k (k := .inr "mixed") e, DGet.k (k := .inr "count") e⟩
      have done : ∀ (k : Int) (H' : Hp), (∀ b o, H b = some o → b ≠ d → b ≠ g → H' b = some o) → deckInv "far" "mixed" "count" d g H' → 0 ≤ k ∧ k < many → Q (.int k) H' := fun k H' h1 h2 h3 => h k h3.1 h3.2 (.int k) Hd H' (B.drawn e h1 h2) (.int k)
      refine ⟨_, rfl, d, _, rfl, (get _ _ _ e1).1, ?_⟩
      refine ⟨_, rfl, Nat.zero_le _, fun p np => ?_⟩
      have npd : d ≠ p := ne_of_none e1 np
      have npg : g ≠ p := ne_of_none e2 np
      have f1 : upd H p (.lst []) d = some (.dK [(Sum.inr "far", .ref g), (Sum.inr "mixed", .int m), (Sum.inr "count", .int t)]) := (upd_ne npd).trans e1
      have f2 : upd H p (.lst []) g = some (.lst (gs.map V.int)) := (upd_ne npg).trans e2
      have f3 : ∀ b o, H b = some o → upd H p (.lst []) b = some o := fun b o q => (upd_ne (ne_of_none q np)).trans q
      have dp : ∀ (l : List Int), DpAll K (upd H p (.lst [])) (l.map V.int) (l.map PyData.int) := fun l => by
        induction l with
        | nil => exact .nil
        | cons x r ih => exact .cons (.int x) ih
      refine ⟨.list (gs.map PyData.int), .list [], .lst (SqL.of f2) (dp gs), .lst (SqL.of upd_same) .nil, shaped_ints gs, shaped_ints [], _, rfl, ite2 (fun c2 => ?_) (fun c2 => ?_)⟩
      · rcases gs with _ | ⟨z, gs'⟩
        · simp [PyData.eqv, PyData.eqvAll] at c2
        rw [List.map_cons] at f2
        rw [List.length_cons] at hl
        refine ⟨_, rfl, g, _, _, _, rfl, rfl, SqL.of f2, atI_nat (j := 0) rfl, ?_⟩
        have i0 : ∀ n : Nat, ixN (n + 1) 0 = some 0 := fun n => by
          unfold ixN
          rw [if_pos (by decide), if_pos (by omega)]
          rfl
        have g2 : upd (upd H p (.lst [])) g (.lst ((V.int z :: gs'.map V.int).set 0 (V.int (z / many)))) g = some (.lst (V.int (z / many) :: gs'.map V.int)) := upd_same
        have g1 : upd (upd H p (.lst [])) g (.lst ((V.int z :: gs'.map V.int).set 0 (V.int (z / many)))) d = some (.dK [(Sum.inr "far", .ref g), (Sum.inr "mixed", .int m), (Sum.inr "count", .int t)]) := (upd_ne ndg).trans f1
        refine ⟨_, rfl, _, rfl, _, _, rfl, rfl, ⟨by omega, by omega⟩, _, rfl, g, _, 0, 0, rfl, rfl, f2, (by rw [List.length_cons]; exact i0 _), ?_⟩
        refine ⟨_, rfl, _, rfl, _, _, rfl, rfl, _, rfl, ite2 (fun c3 => ?_) (fun c3 => ?_)⟩
        · refine ⟨_, rfl, .inl ⟨rfl, _, SqL.of g2⟩, g, _, 0, 0, _, rfl, rfl, g2, by decide, by decide, (ixN_seq (by rw [List.length_cons]; exact i0 _)).1, rfl, ?_⟩
          refine ⟨_, rfl, .inl ⟨_, rfl, _, rfl, _, _, rfl, rfl, hm0, done _ _ (fun b o q n1 n2 => ?_) ⟨gs', m, t, ?_, upd_same, by omega⟩ ⟨Int.emod_nonneg _ (by omega), Int.emod_lt_of_pos _ (by omega)⟩⟩⟩
          · rw [upd_ne n2, upd_ne n2]
            exact f3 _ _ q
          · rw [upd_ne ndg]
            exact g1
        · refine ⟨_, rfl, .inl ⟨_, rfl, _, rfl, _, _, rfl, rfl, hm0, done _ _ (fun b o q n1 n2 => ?_) ⟨z / many :: gs', m, t, g1, g2, hl⟩ ⟨Int.emod_nonneg _ (by omega), Int.emod_lt_of_pos _ (by omega)⟩⟩⟩
          rw [upd_ne n2]
          exact f3 _ _ q
      · refine ⟨_, rfl, d, _, rfl, (get _ _ _ f1).2.2, _, _, rfl, rfl, ?_⟩
        refine ⟨_, rfl, _, rfl, d, _, rfl, DPut.k (k := .inr "count") (v := .int (t + 1)) f1 (by show 3 < sizeLine; rw [sizeLine_eq]; decide), ?_⟩
        have g1 : upd (upd H p (.lst [])) d (.dK (putK [(Sum.inr "far", .ref g), (Sum.inr "mixed", .int m), (Sum.inr "count", .int t)] (Sum.inr "count") (V.int (t + 1)))) d = some (.dK [(Sum.inr "far", .ref g), (Sum.inr "mixed", .int m), (Sum.inr "count", .int (t + 1))]) := upd_same
        have mm : ∀ x k : Int, 0 < k → 0 ≤ x % k ∧ x % k < k := fun x k hk => ⟨Int.emod_nonneg _ (by omega), Int.emod_lt_of_pos _ hk⟩
        refine ⟨_, rfl, d, _, rfl, (get _ _ _ g1).2.1, _, rfl, _, _, rfl, rfl, .inl ⟨by decide, by decide⟩, _, _, rfl, rfl, .inl ⟨_, rfl, _, _, rfl, rfl, (by show (0 : Int) < 4294967291; decide), ?_⟩⟩
        have hb := mm (m + 2654435761 * (t + 1)) 4294967291 (by decide)
        generalize hx1 : (m + 2654435761 * (t + 1)) % 4294967291 = x1 at hb ⊢
        refine ⟨_, rfl, _, rfl, _, _, rfl, rfl, .inl ⟨by have := hb.1; omega, by have := hb.2; omega⟩, _, rfl, _, _, rfl, rfl, .inl ⟨by decide, by decide⟩, _, _, rfl, rfl, _, _, rfl, rfl, .inl ⟨_, rfl, _, _, rfl, rfl, (by show (0 : Int) < 4294967279; decide), ?_⟩⟩
        have hb2 := mm (x1 * x1 + 40503 * (t + 1) + 11) 4294967279 (by decide)
        generalize hx2 : (x1 * x1 + 40503 * (t + 1) + 11) % 4294967279 = x2 at hb2 ⊢
        refine ⟨_, rfl, _, rfl, _, _, rfl, rfl, .inl ⟨by have := hb2.1; omega, by have := hb2.2; omega⟩, _, rfl, d, _, rfl, (get _ _ _ g1).2.1, _, _, rfl, rfl, .inl ⟨_, rfl, _, _, rfl, rfl, (by show (0 : Int) < 4294967231; decide), ?_⟩⟩
        refine ⟨_, rfl, _, _, rfl, rfl, ⟨by decide, by decide⟩, .inl ⟨_, rfl, _, rfl, _, _, rfl, rfl, hm0, done _ _ (fun b o q n1 n2 => ?_) ⟨gs, m, t + 1, g1, ?_, hl⟩ ⟨Int.emod_nonneg _ (by omega), Int.emod_lt_of_pos _ (by omega)⟩⟩⟩
        · rw [upd_ne n1]
          exact f3 _ _ q
        · rw [upd_ne ndg.symm]
          exact f2
end

theorem len_is_number : ∀ Z ms Q, sp_is_number.run Z ms Q → ms.length = 1 := fun Z ms Q h => by obtain ⟨a, rfl, _⟩ := h; rfl
theorem len_is_within : ∀ Z ms Q, sp_is_within.run Z ms Q → ms.length = 3 := fun Z ms Q h => by obtain ⟨a, rfl, _⟩ := h; rfl
theorem len_is_same : ∀ Z ms Q, sp_is_same.run Z ms Q → ms.length = 2 := fun Z ms Q h => by obtain ⟨a, rfl, _⟩ := h; rfl
theorem len_asked : ∀ Z ms Q, sp_asked.run Z ms Q → ms.length = 3 := fun Z ms Q h => by obtain ⟨a, rfl, _⟩ := h; rfl
theorem len_run : ∀ Z ms Q, sp_run.run Z ms Q → ms.length = 3 := fun Z ms Q h => by obtain ⟨a, rfl, _⟩ := h; rfl
theorem len_walls : ∀ Z ms Q, sp_walls.run Z ms Q → ms.length = 1 := fun Z ms Q h => by obtain ⟨a, rfl, _⟩ := h; rfl
theorem len_blocks : ∀ Z ms Q, sp_blocks.run Z ms Q → ms.length = 1 := fun Z ms Q h => by obtain ⟨a, rfl, _⟩ := h; rfl
theorem len_own_rule : ∀ Z ms Q, sp_own_rule.run Z ms Q → ms.length = 2 := fun Z ms Q h => by obtain ⟨a, rfl, _⟩ := h; rfl
theorem len_is_front : ∀ Z ms Q, sp_is_front.run Z ms Q → ms.length = 1 := fun Z ms Q h => by obtain ⟨a, rfl, _⟩ := h; rfl
theorem len__check_staying : ∀ Z ms Q, sp__check_staying.run Z ms Q → ms.length = 1 := fun Z ms Q h => by obtain ⟨a, rfl, _⟩ := h; rfl
theorem len_kind_of : ∀ Z ms Q, sp_kind_of.run Z ms Q → ms.length = 2 := fun Z ms Q h => by obtain ⟨a, rfl, _⟩ := h; rfl
theorem len__is_even : ∀ Z ms Q, sp__is_even.run Z ms Q → ms.length = 1 := fun Z ms Q h => by obtain ⟨a, rfl, _⟩ := h; rfl
theorem len__least_part : ∀ Z ms Q, sp__least_part.run Z ms Q → ms.length = 3 := fun Z ms Q h => by obtain ⟨a, rfl, _⟩ := h; rfl
theorem len_least_order : ∀ Z ms Q, sp_least_order.run Z ms Q → ms.length = 2 := fun Z ms Q h => by obtain ⟨a, rfl, _⟩ := h; rfl
theorem len_comes_out : ∀ Z ms Q, sp_comes_out.run Z ms Q → ms.length = 3 := fun Z ms Q h => by obtain ⟨a, rfl, _⟩ := h; rfl
theorem len_places_of : ∀ Z ms Q, sp_places_of.run Z ms Q → ms.length = 3 := fun Z ms Q h => by obtain ⟨a, rfl, _⟩ := h; rfl
theorem len_text_behind : ∀ Z ms Q, sp_text_behind.run Z ms Q → ms.length = 3 := fun Z ms Q h => by obtain ⟨a, rfl, _⟩ := h; rfl
theorem len_cost : ∀ Z ms Q, sp_cost.run Z ms Q → ms.length = 3 := fun Z ms Q h => by obtain ⟨a, rfl, _⟩ := h; rfl
theorem len__stranger : ∀ Z ms Q, sp__stranger.run Z ms Q → ms.length = 2 := fun Z ms Q h => by obtain ⟨a, rfl, _⟩ := h; rfl
theorem len_order_error : ∀ Z ms Q, sp_order_error.run Z ms Q → ms.length = 2 := fun Z ms Q h => by obtain ⟨a, rfl, _⟩ := h; rfl
theorem len_text_error : ∀ Z ms Q, sp_text_error.run Z ms Q → ms.length = 2 := fun Z ms Q h => by obtain ⟨a, rfl, _⟩ := h; rfl
theorem len__late_place : ∀ Z ms Q, sp__late_place.run Z ms Q → ms.length = 1 := fun Z ms Q h => by obtain ⟨a, rfl, _⟩ := h; rfl
theorem len__places_to_front : ∀ Z ms Q, sp__places_to_front.run Z ms Q → ms.length = 2 := fun Z ms Q h => by obtain ⟨a, rfl, _⟩ := h; rfl
theorem len_gains : ∀ Z ms Q, sp_gains.run Z ms Q → ms.length = 1 := fun Z ms Q h => by obtain ⟨a, rfl, _⟩ := h; rfl
theorem len_gains_error : ∀ Z ms Q, sp_gains_error.run Z ms Q → ms.length = 2 := fun Z ms Q h => by obtain ⟨a, rfl, _⟩ := h; rfl
theorem len_view : ∀ Z ms Q, sp_view.run Z ms Q → ms.length = 2 := fun Z ms Q h => by obtain ⟨a, rfl, _⟩ := h; rfl
theorem len_unlike : ∀ Z ms Q, sp_unlike.run Z ms Q → ms.length = 2 := fun Z ms Q h => by obtain ⟨a, rfl, _⟩ := h; rfl
theorem len__check_bounded : ∀ Z ms Q, sp__check_bounded.run Z ms Q → ms.length = 3 := fun Z ms Q h => by obtain ⟨a, rfl, _⟩ := h; rfl
theorem len_gap : ∀ Z ms Q, sp_gap.run Z ms Q → ms.length = 3 := fun Z ms Q h => by obtain ⟨a, rfl, _⟩ := h; rfl
theorem len_gap_text : ∀ Z ms Q, sp_gap_text.run Z ms Q → ms.length = 3 := fun Z ms Q h => by obtain ⟨a, rfl, _⟩ := h; rfl
theorem len__begins : ∀ Z ms Q, sp__begins.run Z ms Q → ms.length = 3 := fun Z ms Q h => by obtain ⟨a, rfl, _⟩ := h; rfl
theorem len_gap_paper : ∀ Z ms Q, sp_gap_paper.run Z ms Q → ms.length = 3 := fun Z ms Q h => by obtain ⟨a, rfl, _⟩ := h; rfl
theorem len__endless_error : ∀ Z ms Q, sp__endless_error.run Z ms Q → ms.length = 2 := fun Z ms Q h => by obtain ⟨a, rfl, _⟩ := h; rfl
theorem len_gap_paper_error : ∀ Z ms Q, sp_gap_paper_error.run Z ms Q → ms.length = 4 := fun Z ms Q h => by obtain ⟨a, rfl, _⟩ := h; rfl
theorem len__law_pick : ∀ Z ms Q, sp__law_pick.run Z ms Q → ms.length = 2 := fun Z ms Q h => by obtain ⟨a, rfl, _⟩ := h; rfl
theorem len__law_mixed : ∀ Z ms Q, sp__law_mixed.run Z ms Q → ms.length = 2 := fun Z ms Q h => by obtain ⟨a, rfl, _⟩ := h; rfl
theorem len__law_list : ∀ Z ms Q, sp__law_list.run Z ms Q → ms.length = 2 := fun Z ms Q h => by obtain ⟨a, rfl, _⟩ := h; rfl
theorem len__law_step : ∀ Z ms Q, sp__law_step.run Z ms Q → ms.length = 3 := fun Z ms Q h => by obtain ⟨a, rfl, _⟩ := h; rfl
theorem len__law_went : ∀ Z ms Q, sp__law_went.run Z ms Q → ms.length = 3 := fun Z ms Q h => by obtain ⟨a, rfl, _⟩ := h; rfl
theorem len__law_apart : ∀ Z ms Q, sp__law_apart.run Z ms Q → ms.length = 2 := fun Z ms Q h => by obtain ⟨a, rfl, _⟩ := h; rfl
theorem len__law_is_list : ∀ Z ms Q, sp__law_is_list.run Z ms Q → ms.length = 2 := fun Z ms Q h => by obtain ⟨a, rfl, _⟩ := h; rfl
theorem len__law_are_letters : ∀ Z ms Q, sp__law_are_letters.run Z ms Q → ms.length = 2 := fun Z ms Q h => by obtain ⟨a, rfl, _⟩ := h; rfl
theorem len__law_is_text : ∀ Z ms Q, sp__law_is_text.run Z ms Q → ms.length = 2 := fun Z ms Q h => by obtain ⟨a, rfl, _⟩ := h; rfl
theorem len__law_begins : ∀ Z ms Q, sp__law_begins.run Z ms Q → ms.length = 1 := fun Z ms Q h => by obtain ⟨a, rfl, _⟩ := h; rfl
theorem len__law_fronts : ∀ Z ms Q, sp__law_fronts.run Z ms Q → ms.length = 1 := fun Z ms Q h => by obtain ⟨a, rfl, _⟩ := h; rfl
theorem len__law_rule : ∀ Z ms Q, sp__law_rule.run Z ms Q → ms.length = 2 := fun Z ms Q h => by obtain ⟨a, rfl, _⟩ := h; rfl
theorem len__law_small : ∀ Z ms Q, sp__law_small.run Z ms Q → ms.length = 2 := fun Z ms Q h => by obtain ⟨a, rfl, _⟩ := h; rfl
theorem len__law_within : ∀ Z ms Q, sp__law_within.run Z ms Q → ms.length = 3 := fun Z ms Q h => by obtain ⟨a, rfl, _⟩ := h; rfl
theorem len__law_gain_fault : ∀ Z ms Q, sp__law_gain_fault.run Z ms Q → ms.length = 2 := fun Z ms Q h => by obtain ⟨a, rfl, _⟩ := h; rfl
theorem len__law_gap_fault : ∀ Z ms Q, sp__law_gap_fault.run Z ms Q → ms.length = 4 := fun Z ms Q h => by obtain ⟨a, rfl, _⟩ := h; rfl
section
variable {P : Program} {w : World} {K : PySem.W.Frag} {mg : Str → Option Value} {base : Heap}
def N_is_number : List Str := ["value"]
theorem sc_is_number : FnScope N_is_number ["value"] (defScope s_is_number) := ⟨rfl, rfl, rfl, by decide +kernel, rfl, by decide +kernel, by decide +kernel⟩
theorem hh_is_number : ∀ (Z : XP) (ms : List MV) (Q : MV → Prop), sp_is_number.run Z ms Q → W_is_number.run Z (entry N_is_number.length ms) { nx := fun _ => Q (.d .none), rt := Q } := by
  intro Z ms Q h
  rw [show N_is_number.length = 1 from rfl]
  exact h_is_number Z ms Q h
theorem ok_is_number {f : Addr} {fd : FuncData} (F : Fun K "is_number" "is_number" s_is_number f fd) (T : Bl K mg) : FnG P w K mg base CX0 1 f fd ["value"] (spM K mg sp_is_number) :=
  Mx.Fun.okM F (N := N_is_number) (k := 0) (W := W_is_number) sc_is_number (by decide) len_is_number (fun cdv A outer s H E hr hgd0 => by
   have hgd : (A.deeper (envOfC "is_number" (defScope s_is_number) s.heap.objs.size f cdv)).guards = some [] := hgd0
   have hu := hr.units
   exact b_one (s_ret (m_and (m_isi (T := "int") (by decide +kernel) (by rfl) T.isinstance (by rfl) T.int (by decide +kernel) (od_s 0)) (m_one (m_not (m_isi (T := "bool") (by decide +kernel) (by rfl) T.isinstance (by rfl) T.bool (by decide +kernel) (od_s 0))))))) hh_is_number
def N_is_within : List Str := ["value", "least", "most"]
theorem sc_is_within : FnScope N_is_within ["value", "least", "most"] (defScope s_is_within) := ⟨rfl, rfl, rfl, by decide +kernel, rfl, by decide +kernel, by decide +kernel⟩
theorem hh_is_within : ∀ (Z : XP) (ms : List MV) (Q : MV → Prop), sp_is_within.run Z ms Q → W_is_within.run Z (entry N_is_within.length ms) { nx := fun _ => Q (.d .none), rt := Q } := by
  intro Z ms Q h
  rw [show N_is_within.length = 3 from rfl]
  exact h_is_within Z ms Q h
theorem ok_is_within {f : Addr} {fd : FuncData} (F : Fun K "is_within" "is_within" s_is_within f fd) (T : Bl K mg) (c_is_number : Cal P w K mg base 1 "is_number" ["value"] [] sp_is_number) : FnG P w K mg base CX0 2 f fd ["value", "least", "most"] (spM K mg sp_is_within) :=
  Mx.Fun.okM F (N := N_is_within) (k := 1) (W := W_is_within) sc_is_within (by decide) len_is_within (fun cdv A outer s H E hr hgd0 => by
   have hgd : (A.deeper (envOfC "is_within" (defScope s_is_within) s.heap.objs.size f cdv)).guards = some [] := hgd0
   have hu := hr.units
   exact b_one (s_ret (m_and (c_call c_is_number (hr.mono (by decide)) hgd (by rfl) (a_cons (m_var 0) (a_nil))) (m_one (m_chain (f := fun i j => decide (i ≤ j)) (g := fun i j => decide (i ≤ j)) op_le op_le (od_s 1) (od_s 0) (od_s 2)))))) hh_is_within
def N_is_same : List Str := ["value", "wanted", "item", "other"]
theorem sc_is_same : FnScope N_is_same ["value", "wanted"] (defScope s_is_same) := ⟨rfl, rfl, rfl, by decide +kernel, rfl, by decide +kernel, by decide +kernel⟩
theorem hh_is_same : ∀ (Z : XP) (ms : List MV) (Q : MV → Prop), sp_is_same.run Z ms Q → W_is_same.run Z (entry N_is_same.length ms) { nx := fun _ => Q (.d .none), rt := Q } := by
  intro Z ms Q h
  rw [show N_is_same.length = 4 from rfl]
  exact h_is_same Z ms Q h
theorem ok_is_same {f : Addr} {fd : FuncData} (F : Fun K "is_same" "is_same" s_is_same f fd) (T : Bl K mg) (c_is_number : Cal P w K mg base 1 "is_number" ["value"] [] sp_is_number) : FnG P w K mg base CX0 2 f fd ["value", "wanted"] (spM K mg sp_is_same) :=
  Mx.Fun.okM F (N := N_is_same) (k := 1) (W := W_is_same) sc_is_same (by decide) len_is_same (fun cdv A outer s H E hr hgd0 => by
   have hgd : (A.deeper (envOfC "is_same" (defScope s_is_same) s.heap.objs.size f cdv)).guards = some [] := hgd0
   have hu := hr.units
   exact b_cons (s_if (t_not (t_b (m_isi (T := "tuple") (by decide +kernel) (by rfl) T.isinstance (by rfl) T.tuple (by decide +kernel) (od_s 1))))  (b_one (s_ret (m_and (c_call c_is_number (hr.mono (by decide)) hgd (by rfl) (a_cons (m_var 0) (a_nil))) (m_one (m_eq hu (od_s 0) (od_s 1))))))  (b_nil))  (b_cons (s_never)  (b_one (s_never)))) hh_is_same
def N_asked : List Str := ["rule", "order", "letter", "place", "goal"]
theorem sc_asked : FnScope N_asked ["rule", "order", "letter"] (defScope s_asked) := ⟨rfl, rfl, rfl, by decide +kernel, rfl, by decide +kernel, by decide +kernel⟩
theorem hh_asked : ∀ (Z : XP) (ms : List MV) (Q : MV → Prop), sp_asked.run Z ms Q → W_asked.run Z (entry N_asked.length ms) { nx := fun _ => Q (.d .none), rt := Q } := by
  intro Z ms Q h
  rw [show N_asked.length = 5 from rfl]
  exact h_asked_s Z ms Q h
theorem ok_asked {f : Addr} {fd : FuncData} (F : Fun K "asked" "asked" s_asked f fd) (T : Bl K mg) : FnG P w K mg base CX0 1 f fd ["rule", "order", "letter"] (spM K mg sp_asked) :=
  Mx.Fun.okM F (N := N_asked) (k := 0) (W := W_asked) sc_asked (by decide) len_asked (fun cdv A outer s H E hr hgd0 => by
   have hgd : (A.deeper (envOfC "asked" (defScope s_asked) s.heap.objs.size f cdv)).guards = some [] := hgd0
   have hu := hr.units
   exact b_cons (s_set (i := 3) sc_asked.nd rfl (Or.inl rfl) (m_indexT (od_s 1) (od_s 2)))  (b_cons (s_set (i := 4) sc_asked.nd rfl (Or.inl rfl) (m_item (od_s 0) (od_s 3)))  (b_one (s_ret (q_add (od_e (q_add (od_e (q_add (od_e (m_slice (od_s 1) (b_none) (b_some (m_var 4)))) (od_e (m_tup (a_cons (m_var 2) (a_nil)))))) (od_e (m_slice (od_s 1) (b_some (m_var 4)) (b_some (m_var 3)))))) (od_e (m_slice (od_s 1) (b_some (q_add (od_s 3) (od_e (m_int)))) (b_none)))))))) hh_asked
def N_run : List Str := ["rule", "order", "text", "now", "letter"]
theorem sc_run : FnScope N_run ["rule", "order", "text"] (defScope s_run) := ⟨rfl, rfl, rfl, by decide +kernel, rfl, by decide +kernel, by decide +kernel⟩
theorem hh_run : ∀ (Z : XP) (ms : List MV) (Q : MV → Prop), sp_run.run Z ms Q → W_run.run Z (entry N_run.length ms) { nx := fun _ => Q (.d .none), rt := Q } := by
  intro Z ms Q h
  rw [show N_run.length = 5 from rfl]
  exact h_run Z ms Q h
theorem ok_run {f : Addr} {fd : FuncData} (F : Fun K "run" "run" s_run f fd) (T : Bl K mg) (c_asked : Cal P w K mg base 1 "asked" ["rule", "order", "letter"] [] sp_asked) : FnG P w K mg base CX0 2 f fd ["rule", "order", "text"] (spM K mg sp_run) :=
  Mx.Fun.okM F (N := N_run) (k := 1) (W := W_run) sc_run (by decide) len_run (fun cdv A outer s H E hr hgd0 => by
   have hgd : (A.deeper (envOfC "run" (defScope s_run) s.heap.objs.size f cdv)).guards = some [] := hgd0
   have hu := hr.units
   exact b_cons (s_set (i := 3) sc_run.nd rfl (Or.inl rfl) (m_var 1))  (b_cons (s_for PassesOwn.never rfl (i_tup (m_var 2)) (g_name (i := 4) sc_run.nd rfl (Or.inl rfl))  (b_one (s_set (i := 3) sc_run.nd rfl (Or.inl rfl) (c_call c_asked (hr.mono (by decide)) hgd (by rfl) (a_cons (m_var 0) (a_cons (m_var 3) (a_cons (m_var 4) (a_nil))))))))  (b_one (s_retS 3)))) hh_run
def N_walls : List Str := ["rule", "place"]
theorem sc_walls : FnScope N_walls ["rule"] (defScope s_walls) := ⟨rfl, rfl, rfl, by decide +kernel, rfl, by decide +kernel, by decide +kernel⟩
theorem hh_walls : ∀ (Z : XP) (ms : List MV) (Q : MV → Prop), sp_walls.run Z ms Q → W_walls.run Z (entry N_walls.length ms) { nx := fun _ => Q (.d .none), rt := Q } := by
  intro Z ms Q h
  rw [show N_walls.length = 2 from rfl]
  exact h_walls Z ms Q h
theorem ok_walls {f : Addr} {fd : FuncData} (F : Fun K "walls" "walls" s_walls f fd) (T : Bl K mg) : FnG P w K mg base CX0 1 f fd ["rule"] (spM K mg sp_walls) :=
  Mx.Fun.okM F (N := N_walls) (k := 0) (W := W_walls) sc_walls (by decide) len_walls (fun cdv A outer s H E hr hgd0 => by
   have hgd : (A.deeper (envOfC "walls" (defScope s_walls) s.heap.objs.size f cdv)).guards = some [] := hgd0
   have hu := hr.units
   exact b_one (s_ret (m_tuple (by rfl) T.tuple (od_e (m_lc1 (own := [("place", 1)]) rfl sc_walls.nd (i_range1 (by rfl) T.range (a_cons (m_len (by rfl) T.len (od_s 0)) (a_nil))) (blkOk_by (own := [("place", 1)]) (N := N_walls) (sc := defScope s_walls) (by decide +kernel)) (fun _ _ _ _ _ => g_name (i := 1) sc_walls.nd rfl (Or.inl rfl)) (fun _ _ _ _ _ => t_ge (od_e (m_minL rfl hu (by rfl) T.min (od_e (m_slice (od_s 0) (b_some (m_var 1)) (b_none))))) (od_s 1)) (fun _ _ _ _ _ => m_var 1)))))) hh_walls
def N_blocks : List Str := ["rule", "begins", "ends"]
theorem sc_blocks : FnScope N_blocks ["rule"] (defScope s_blocks) := ⟨rfl, rfl, rfl, by decide +kernel, rfl, by decide +kernel, by decide +kernel⟩
theorem hh_blocks : ∀ (Z : XP) (ms : List MV) (Q : MV → Prop), sp_blocks.run Z ms Q → W_blocks.run Z (entry N_blocks.length ms) { nx := fun _ => Q (.d .none), rt := Q } := by
  intro Z ms Q h
  rw [show N_blocks.length = 3 from rfl]
  exact h_blocks Z ms Q h
theorem ok_blocks {f : Addr} {fd : FuncData} (F : Fun K "blocks" "blocks" s_blocks f fd) (T : Bl K mg) (c_walls : Cal P w K mg base 1 "walls" ["rule"] [] sp_walls) : FnG P w K mg base CX0 2 f fd ["rule"] (spM K mg sp_blocks) :=
  Mx.Fun.okM F (N := N_blocks) (k := 1) (W := W_blocks) sc_blocks (by decide) len_blocks (fun cdv A outer s H E hr hgd0 => by
   have hgd : (A.deeper (envOfC "blocks" (defScope s_blocks) s.heap.objs.size f cdv)).guards = some [] := hgd0
   have hu := hr.units
   exact b_cons (s_set (i := 1) sc_blocks.nd rfl (Or.inl rfl) (c_call c_walls (hr.mono (by decide)) hgd (by rfl) (a_cons (m_var 0) (a_nil))))  (b_cons (s_set (i := 2) sc_blocks.nd rfl (Or.inl rfl) (q_add (od_e (m_slice (od_s 1) (b_some (m_int)) (b_none))) (od_e (m_tup (a_cons (m_len (by rfl) T.len (od_s 0)) (a_nil))))))  (b_one (s_ret (m_tupZip rfl (by rfl) T.tuple (by rfl) T.zip (a_cons (m_var 1) (a_cons (m_var 2) (a_nil)))))))) hh_blocks
def N_own_rule : List Str := ["rule", "block", "begin", "end", "goal"]
theorem sc_own_rule : FnScope N_own_rule ["rule", "block"] (defScope s_own_rule) := ⟨rfl, rfl, rfl, by decide +kernel, rfl, by decide +kernel, by decide +kernel⟩
theorem hh_own_rule : ∀ (Z : XP) (ms : List MV) (Q : MV → Prop), sp_own_rule.run Z ms Q → W_own_rule.run Z (entry N_own_rule.length ms) { nx := fun _ => Q (.d .none), rt := Q } := by
  intro Z ms Q h
  rw [show N_own_rule.length = 5 from rfl]
  exact h_own_rule Z ms Q h
theorem ok_own_rule {f : Addr} {fd : FuncData} (F : Fun K "own_rule" "own_rule" s_own_rule f fd) (T : Bl K mg) : FnG P w K mg base CX0 1 f fd ["rule", "block"] (spM K mg sp_own_rule) :=
  Mx.Fun.okM F (N := N_own_rule) (k := 0) (W := W_own_rule) sc_own_rule (by decide) len_own_rule (fun cdv A outer s H E hr hgd0 => by
   have hgd : (A.deeper (envOfC "own_rule" (defScope s_own_rule) s.heap.objs.size f cdv)).guards = some [] := hgd0
   have hu := hr.units
   exact b_cons (s_asg (m_var 1) (g_tup rfl (gs_cons (g_name (i := 2) sc_own_rule.nd rfl (Or.inr rfl)) (gs_cons (g_name (i := 3) sc_own_rule.nd rfl (Or.inl rfl)) (gs_nil)))))  (b_one (s_ret (m_tuple (by rfl) T.tuple (od_e (m_lc0 (own := [("goal", 4)]) rfl sc_own_rule.nd (i_tup (m_slice (od_s 0) (b_some (m_var 2)) (b_some (m_var 3)))) (blkOk_by (own := [("goal", 4)]) (N := N_own_rule) (sc := defScope s_own_rule) (by decide +kernel)) (fun _ _ _ _ _ => g_name (i := 4) sc_own_rule.nd rfl (Or.inl rfl)) (fun _ _ _ _ _ => m_sub (od_s 4) (od_s 2)))))))) hh_own_rule
def N_is_front : List Str := ["rule", "begin", "end"]
theorem sc_is_front : FnScope N_is_front ["rule"] (defScope s_is_front) := ⟨rfl, rfl, rfl, by decide +kernel, rfl, by decide +kernel, by decide +kernel⟩
theorem hh_is_front : ∀ (Z : XP) (ms : List MV) (Q : MV → Prop), sp_is_front.run Z ms Q → W_is_front.run Z (entry N_is_front.length ms) { nx := fun _ => Q (.d .none), rt := Q } := by
  intro Z ms Q h
  rw [show N_is_front.length = 3 from rfl]
  exact h_is_front2 Z ms Q h
theorem ok_is_front {f : Addr} {fd : FuncData} (F : Fun K "is_front" "is_front" s_is_front f fd) (T : Bl K mg) (c_blocks : Cal P w K mg base 2 "blocks" ["rule"] [] sp_blocks) : FnG P w K mg base CX0 3 f fd ["rule"] (spM K mg sp_is_front) :=
  Mx.Fun.okM F (N := N_is_front) (k := 2) (W := W_is_front) sc_is_front (by decide) len_is_front (fun cdv A outer s H E hr hgd0 => by
   have hgd : (A.deeper (envOfC "is_front" (defScope s_is_front) s.heap.objs.size f cdv)).guards = some [] := hgd0
   have hu := hr.units
   exact b_one (s_ret (m_all rfl (by rfl) T.all (od_e (m_lc0 (own := [("begin", 1), ("end", 2)]) rfl sc_is_front.nd (i_tup (c_call c_blocks (hr.mono (by decide)) hgd (by rfl) (a_cons (m_var 0) (a_nil)))) (blkOk_by (own := [("begin", 1), ("end", 2)]) (N := N_is_front) (sc := defScope s_is_front) (by decide +kernel)) (fun _ _ _ _ _ => g_tup rfl (gs_cons (g_name (i := 1) sc_is_front.nd rfl (Or.inl rfl)) (gs_cons (g_name (i := 2) sc_is_front.nd rfl (Or.inl rfl)) (gs_nil)))) (fun _ _ _ _ _ => m_eq hu (od_e (m_slice (od_s 0) (b_some (m_var 1)) (b_some (m_var 2)))) (od_e (q_mul (od_e (m_tup (a_cons (m_var 1) (a_nil)))) (od_e (m_sub (od_s 2) (od_s 1))))))))))) hh_is_front
def N__check_staying : List Str := ["own", "stays", "place"]
theorem sc__check_staying : FnScope N__check_staying ["own"] (defScope s__check_staying) := ⟨rfl, rfl, rfl, by decide +kernel, rfl, by decide +kernel, by decide +kernel⟩
theorem hh__check_staying : ∀ (Z : XP) (ms : List MV) (Q : MV → Prop), sp__check_staying.run Z ms Q → W__check_staying.run Z (entry N__check_staying.length ms) { nx := fun _ => Q (.d .none), rt := Q } := by
  intro Z ms Q h
  rw [show N__check_staying.length = 3 from rfl]
  exact h_check_staying Z ms Q h
theorem ok__check_staying {f : Addr} {fd : FuncData} (F : Fun K "_check_staying" "_check_staying" s__check_staying f fd) (T : Bl K mg) : FnG P w K mg base CX0 1 f fd ["own"] (spM K mg sp__check_staying) :=
  Mx.Fun.okM F (N := N__check_staying) (k := 0) (W := W__check_staying) sc__check_staying (by decide) len__check_staying (fun cdv A outer s H E hr hgd0 => by
   have hgd : (A.deeper (envOfC "_check_staying" (defScope s__check_staying) s.heap.objs.size f cdv)).guards = some [] := hgd0
   have hu := hr.units
   exact b_cons (s_setLc1 (i := 1) (own := [("place", 2)]) rfl sc__check_staying.nd rfl rfl (sw_true rfl rfl rfl (by decide +kernel)) (i_range2 (by rfl) T.range (a_cons (m_int) (a_cons (m_len (by rfl) T.len (od_s 0)) (a_nil)))) (blkOk_by (own := [("place", 2)]) (N := N__check_staying) (sc := defScope s__check_staying) (by decide +kernel)) (fun _ _ _ _ _ => g_name (i := 2) sc__check_staying.nd rfl (Or.inl rfl)) (fun _ _ _ _ _ => t_eq hu (od_e (m_item (od_s 0) (od_s 2))) (od_s 2)) (fun _ _ _ _ _ => m_var 2))  (b_one (s_if (TW.tv (t_and (t_gt (od_e (m_len (by rfl) T.len (od_s 0))) (od_e (m_glob (by rfl) T.g_MAX_STAYING))) (t_and1 (t_gt (od_e (m_len (by rfl) T.len (od_s 1))) (od_e (m_int))))))  (b_one (s_fail))  (b_nil)))) hh__check_staying
def N_kind_of : List Str := ["rule", "block", "own", "steps", "place", "step"]
theorem sc_kind_of : FnScope N_kind_of ["rule", "block"] (defScope s_kind_of) := ⟨rfl, rfl, rfl, by decide +kernel, rfl, by decide +kernel, by decide +kernel⟩
theorem hh_kind_of : ∀ (Z : XP) (ms : List MV) (Q : MV → Prop), sp_kind_of.run Z ms Q → W_kind_of.run Z (entry N_kind_of.length ms) { nx := fun _ => Q (.d .none), rt := Q } := by
  intro Z ms Q h
  rw [show N_kind_of.length = 6 from rfl]
  exact h_kind_of Z ms Q h
theorem ok_kind_of {f : Addr} {fd : FuncData} (F : Fun K "kind_of" "kind_of" s_kind_of f fd) (T : Bl K mg) (c_own_rule : Cal P w K mg base 1 "own_rule" ["rule", "block"] [] sp_own_rule) (c__check_staying : Cal P w K mg base 1 "_check_staying" ["own"] [] sp__check_staying) : FnG P w K mg base CX0 2 f fd ["rule", "block"] (spM K mg sp_kind_of) :=
  Mx.Fun.okM F (N := N_kind_of) (k := 1) (W := W_kind_of) sc_kind_of (by decide) len_kind_of (fun cdv A outer s H E hr hgd0 => by
   have hgd : (A.deeper (envOfC "kind_of" (defScope s_kind_of) s.heap.objs.size f cdv)).guards = some [] := hgd0
   have hu := hr.units
   exact b_cons (s_set (i := 2) sc_kind_of.nd rfl (Or.inr rfl) (c_call c_own_rule (hr.mono (by decide)) hgd (by rfl) (a_cons (m_var 0) (a_cons (m_var 1) (a_nil)))))  (b_cons (s_expr (c_call c__check_staying (hr.mono (by decide)) hgd (by rfl) (a_cons (m_var 2) (a_nil))))  (b_cons (s_setLc1 (i := 3) (own := [("place", 4)]) rfl sc_kind_of.nd rfl rfl (sw_true rfl rfl rfl (by decide +kernel)) (i_range1 (by rfl) T.range (a_cons (m_len (by rfl) T.len (od_s 2)) (a_nil))) (blkOk_by (own := [("place", 4)]) (N := N_kind_of) (sc := defScope s_kind_of) (by decide +kernel)) (fun _ _ _ _ _ => g_name (i := 4) sc_kind_of.nd rfl (Or.inl rfl)) (fun _ _ _ _ _ => t_lt (od_e (m_item (od_s 2) (od_s 4))) (od_s 4)) (fun _ _ _ _ _ => m_sub (od_s 4) (od_e (m_item (od_s 2) (od_s 4)))))  (b_cons (s_if (t_eq hu (od_e (m_len (by rfl) T.len (od_s 2))) (od_e (m_int)))  (b_one (s_ret (m_str)))  (b_nil))  (b_cons (s_if (TW.tv (t_and (t_ge (od_e (m_len (by rfl) T.len (od_s 2))) (od_e (m_int))) (t_and1 (t_eq hu (od_e (m_len (by rfl) T.len (od_s 3))) (od_e (m_int))))))  (b_one (s_ret (m_str)))  (b_nil))  (b_cons (s_if (t_inD hu (od_s 2) (od_e (m_glob (by rfl) T.g_ODD_RULES)))  (b_one (s_ret (m_str)))  (b_nil))  (b_cons (s_if (t_b (m_all rfl (by rfl) T.all (od_e (m_lc0 (own := [("step", 5)]) rfl sc_kind_of.nd (i_lst (m_var 3)) (blkOk_by (own := [("step", 5)]) (N := N_kind_of) (sc := defScope s_kind_of) (by decide +kernel)) (fun _ _ _ _ _ => g_name (i := 5) sc_kind_of.nd rfl (Or.inl rfl)) (fun _ _ _ _ _ => m_eq hu (od_e (m_mod (od_s 5) (od_e (m_int)))) (od_e (m_int)))))))  (b_one (s_ret (m_str)))  (b_nil))  (b_one (s_ret (m_str)))))))))) hh_kind_of
def N__is_even : List Str := ["part", "turned", "place", "letter", "other"]
theorem sc__is_even : FnScope N__is_even ["part"] (defScope s__is_even) := ⟨rfl, rfl, rfl, by decide +kernel, rfl, by decide +kernel, by decide +kernel⟩
theorem hh__is_even : ∀ (Z : XP) (ms : List MV) (Q : MV → Prop), sp__is_even.run Z ms Q → W__is_even.run Z (entry N__is_even.length ms) { nx := fun _ => Q (.d .none), rt := Q } := by
  intro Z ms Q h
  rw [show N__is_even.length = 5 from rfl]
  exact h_is_even Z ms Q h
theorem ok__is_even {f : Addr} {fd : FuncData} (F : Fun K "_is_even" "_is_even" s__is_even f fd) (T : Bl K mg) : FnG P w K mg base CX0 1 f fd ["part"] (spM K mg sp__is_even) :=
  Mx.Fun.okM F (N := N__is_even) (k := 0) (W := W__is_even) sc__is_even (by decide) len__is_even (fun cdv A outer s H E hr hgd0 => by
   have hgd : (A.deeper (envOfC "_is_even" (defScope s__is_even) s.heap.objs.size f cdv)).guards = some [] := hgd0
   have hu := hr.units
   exact b_cons (s_set (i := 1) sc__is_even.nd rfl (Or.inl rfl) (m_int))  (b_cons (s_for PassesOwn.never rfl (i_enum (by rfl) T.enumerate (a_cons (m_var 0) (a_nil))) (g_tup rfl (gs_cons (g_name (i := 2) sc__is_even.nd rfl (Or.inl rfl)) (gs_cons (g_name (i := 3) sc__is_even.nd rfl (Or.inr rfl)) (gs_nil))))  (b_one (s_aug (i := 1) (f := fun i j => i + j) ip_add sc__is_even.nd rfl (Or.inl rfl) (m_len (by rfl) T.len (od_e (m_lc1 (own := [("other", 4)]) rfl sc__is_even.nd (i_tup (m_slice (od_s 0) (b_none) (b_some (m_var 2)))) (blkOk_by (own := [("other", 4)]) (N := N__is_even) (sc := defScope s__is_even) (by decide +kernel)) (fun _ _ _ _ _ => g_name (i := 4) sc__is_even.nd rfl (Or.inl rfl)) (fun _ _ _ _ _ => t_gt (od_s 4) (od_s 3)) (fun _ _ _ _ _ => m_var 4)))))))  (b_one (s_ret (m_eq hu (od_e (m_mod (od_s 1) (od_e (m_int)))) (od_e (m_int))))))) hh__is_even
def N__least_part : List Str := ["kind", "own", "part", "least", "at"]
theorem sc__least_part : FnScope N__least_part ["kind", "own", "part"] (defScope s__least_part) := ⟨rfl, rfl, rfl, by decide +kernel, rfl, by decide +kernel, by decide +kernel⟩
theorem hh__least_part : ∀ (Z : XP) (ms : List MV) (Q : MV → Prop), sp__least_part.run Z ms Q → W__least_part.run Z (entry N__least_part.length ms) { nx := fun _ => Q (.d .none), rt := Q } := by
  intro Z ms Q h
  rw [show N__least_part.length = 5 from rfl]
  exact h_least_part Z ms Q h
theorem ok__least_part {f : Addr} {fd : FuncData} (F : Fun K "_least_part" "_least_part" s__least_part f fd) (T : Bl K mg) (c__is_even : Cal P w K mg base 1 "_is_even" ["part"] [] sp__is_even) : FnG P w K mg base CX0 2 f fd ["kind", "own", "part"] (spM K mg sp__least_part) :=
  Mx.Fun.okM F (N := N__least_part) (k := 1) (W := W__least_part) sc__least_part (by decide) len__least_part (fun cdv A outer s H E hr hgd0 => by
   have hgd : (A.deeper (envOfC "_least_part" (defScope s__least_part) s.heap.objs.size f cdv)).guards = some [] := hgd0
   have hu := hr.units
   exact b_cons (s_if (t_eq hu (od_s 0) (od_e (m_str)))  (b_cons (s_set (i := 4) sc__least_part.nd rfl (Or.inl rfl) (m_indexT (od_s 2) (od_e (m_minL rfl hu (by rfl) T.min (od_s 2)))))  (b_one (s_ret (q_add (od_e (m_slice (od_s 2) (b_some (m_var 4)) (b_none))) (od_e (m_slice (od_s 2) (b_none) (b_some (m_var 4))))))))  (b_nil))  (b_cons (s_if (t_eq hu (od_s 0) (od_e (m_str)))  (b_one (s_never))  (b_nil))  (b_cons (s_set (i := 3) sc__least_part.nd rfl (Or.inl rfl) (m_tuple (by rfl) T.tuple (od_e (m_sortI (by rfl) T.sorted (od_s 2)))))  (b_cons (s_if (TW.tv (t_and (t_eq hu (od_s 0) (od_e (m_str))) (t_and1 (t_not (t_b (c_call c__is_even (hr.mono (by decide)) hgd (by rfl) (a_cons (m_var 2) (a_nil))))))))  (b_one (s_ret (q_add (od_e (m_slice (od_s 3) (b_none) (b_some (m_neg (od_e (m_int)))))) (od_e (m_tup (a_cons (m_item (od_s 3) (od_e (m_neg (od_e (m_int))))) (a_cons (m_item (od_s 3) (od_e (m_neg (od_e (m_int))))) (a_nil))))))))  (b_nil))  (b_one (s_retS 3)))))) hh__least_part
def N_least_order : List Str := ["rule", "order", "least", "begin", "end", "kind", "own"]
theorem sc_least_order : FnScope N_least_order ["rule", "order"] (defScope s_least_order) := ⟨rfl, rfl, rfl, by decide +kernel, rfl, by decide +kernel, by decide +kernel⟩
theorem hh_least_order : ∀ (Z : XP) (ms : List MV) (Q : MV → Prop), sp_least_order.run Z ms Q → W_least_order.run Z (entry N_least_order.length ms) { nx := fun _ => Q (.d .none), rt := Q } := by
  intro Z ms Q h
  rw [show N_least_order.length = 7 from rfl]
  exact h_least_order Z ms Q h
theorem ok_least_order {f : Addr} {fd : FuncData} (F : Fun K "least_order" "least_order" s_least_order f fd) (T : Bl K mg) (c_blocks : Cal P w K mg base 2 "blocks" ["rule"] [] sp_blocks) (c_kind_of : Cal P w K mg base 2 "kind_of" ["rule", "block"] [] sp_kind_of) (c_own_rule : Cal P w K mg base 1 "own_rule" ["rule", "block"] [] sp_own_rule) (c__least_part : Cal P w K mg base 2 "_least_part" ["kind", "own", "part"] [] sp__least_part) : FnG P w K mg base CX0 3 f fd ["rule", "order"] (spM K mg sp_least_order) :=
  Mx.Fun.okM F (N := N_least_order) (k := 2) (W := W_least_order) sc_least_order (by decide) len_least_order (fun cdv A outer s H E hr hgd0 => by
   have hgd : (A.deeper (envOfC "least_order" (defScope s_least_order) s.heap.objs.size f cdv)).guards = some [] := hgd0
   have hu := hr.units
   exact b_cons (s_set (i := 2) sc_least_order.nd rfl (Or.inl rfl) (m_tup (a_nil)))  (b_cons (s_for PassesOwn.never rfl (i_tup (c_call c_blocks (hr.mono (by decide)) hgd (by rfl) (a_cons (m_var 0) (a_nil)))) (g_tup rfl (gs_cons (g_name (i := 3) sc_least_order.nd rfl (Or.inl rfl)) (gs_cons (g_name (i := 4) sc_least_order.nd rfl (Or.inl rfl)) (gs_nil))))  (b_cons (s_set (i := 5) sc_least_order.nd rfl (Or.inl rfl) (c_call c_kind_of (hr.mono (by decide)) hgd (by rfl) (a_cons (m_var 0) (a_cons (m_tup (a_cons (m_var 3) (a_cons (m_var 4) (a_nil)))) (a_nil)))))  (b_cons (s_set (i := 6) sc_least_order.nd rfl (Or.inl rfl) (c_call c_own_rule (hr.mono (by decide)) hgd (by rfl) (a_cons (m_var 0) (a_cons (m_tup (a_cons (m_var 3) (a_cons (m_var 4) (a_nil)))) (a_nil)))))  (b_one (s_set (i := 2) sc_least_order.nd rfl (Or.inl rfl) (q_add (od_s 2) (od_e (c_call c__least_part (hr.mono (by decide)) hgd (by rfl) (a_cons (m_var 5) (a_cons (m_var 6) (a_cons (m_slice (od_s 1) (b_some (m_var 3)) (b_some (m_var 4))) (a_nil))))))))))))  (b_one (s_retS 2)))) hh_least_order
def N_comes_out : List Str := ["rule", "one", "other"]
theorem sc_comes_out : FnScope N_comes_out ["rule", "one", "other"] (defScope s_comes_out) := ⟨rfl, rfl, rfl, by decide +kernel, rfl, by decide +kernel, by decide +kernel⟩
theorem hh_comes_out : ∀ (Z : XP) (ms : List MV) (Q : MV → Prop), sp_comes_out.run Z ms Q → W_comes_out.run Z (entry N_comes_out.length ms) { nx := fun _ => Q (.d .none), rt := Q } := by
  intro Z ms Q h
  rw [show N_comes_out.length = 3 from rfl]
  exact h_comes_out Z ms Q h
theorem ok_comes_out {f : Addr} {fd : FuncData} (F : Fun K "comes_out" "comes_out" s_comes_out f fd) (T : Bl K mg) (c_least_order : Cal P w K mg base 3 "least_order" ["rule", "order"] [] sp_least_order) : FnG P w K mg base CX0 4 f fd ["rule", "one", "other"] (spM K mg sp_comes_out) :=
  Mx.Fun.okM F (N := N_comes_out) (k := 3) (W := W_comes_out) sc_comes_out (by decide) len_comes_out (fun cdv A outer s H E hr hgd0 => by
   have hgd : (A.deeper (envOfC "comes_out" (defScope s_comes_out) s.heap.objs.size f cdv)).guards = some [] := hgd0
   have hu := hr.units
   exact b_one (s_ret (m_eq hu (od_e (c_call c_least_order (hr.mono (by decide)) hgd (by rfl) (a_cons (m_var 0) (a_cons (m_var 1) (a_nil))))) (od_e (c_call c_least_order (hr.mono (by decide)) hgd (by rfl) (a_cons (m_var 0) (a_cons (m_var 2) (a_nil)))))))) hh_comes_out
def N_places_of : List Str := ["rule", "order", "text", "places", "now", "letter"]
theorem sc_places_of : FnScope N_places_of ["rule", "order", "text"] (defScope s_places_of) := ⟨rfl, rfl, rfl, by decide +kernel, rfl, by decide +kernel, by decide +kernel⟩
theorem hh_places_of : ∀ (Z : XP) (ms : List MV) (Q : MV → Prop), sp_places_of.run Z ms Q → W_places_of.run Z (entry N_places_of.length ms) { nx := fun _ => Q (.d .none), rt := Q } := by
  intro Z ms Q h
  rw [show N_places_of.length = 6 from rfl]
  exact h_places_of Z ms Q h
theorem ok_places_of {f : Addr} {fd : FuncData} (F : Fun K "places_of" "places_of" s_places_of f fd) (T : Bl K mg) (c_asked : Cal P w K mg base 1 "asked" ["rule", "order", "letter"] [] sp_asked) : FnG P w K mg base CX0 2 f fd ["rule", "order", "text"] (spM K mg sp_places_of) :=
  Mx.Fun.okM F (N := N_places_of) (k := 1) (W := W_places_of) sc_places_of (by decide) len_places_of (fun cdv A outer s H E hr hgd0 => by
   have hgd : (A.deeper (envOfC "places_of" (defScope s_places_of) s.heap.objs.size f cdv)).guards = some [] := hgd0
   have hu := hr.units
   exact b_cons (s_set (i := 3) sc_places_of.nd rfl (Or.inl rfl) (m_lst (a_nil)))  (b_cons (s_set (i := 4) sc_places_of.nd rfl (Or.inl rfl) (m_var 1))  (b_cons (s_for PassesOwn.never rfl (i_tup (m_var 2)) (g_name (i := 5) sc_places_of.nd rfl (Or.inl rfl))  (b_cons (s_expr (m_append 3 (m_indexT (od_s 4) (od_s 5))))  (b_one (s_set (i := 4) sc_places_of.nd rfl (Or.inl rfl) (c_call c_asked (hr.mono (by decide)) hgd (by rfl) (a_cons (m_var 0) (a_cons (m_var 4) (a_cons (m_var 5) (a_nil)))))))))  (b_one (s_ret (m_tuple (by rfl) T.tuple (od_s 3))))))) hh_places_of
def N_text_behind : List Str := ["rule", "order", "places", "text", "now", "place", "letter"]
theorem sc_text_behind : FnScope N_text_behind ["rule", "order", "places"] (defScope s_text_behind) := ⟨rfl, rfl, rfl, by decide +kernel, rfl, by decide +kernel, by decide +kernel⟩
theorem hh_text_behind : ∀ (Z : XP) (ms : List MV) (Q : MV → Prop), sp_text_behind.run Z ms Q → W_text_behind.run Z (entry N_text_behind.length ms) { nx := fun _ => Q (.d .none), rt := Q } := by
  intro Z ms Q h
  rw [show N_text_behind.length = 7 from rfl]
  exact h_text_behind Z ms Q h
theorem ok_text_behind {f : Addr} {fd : FuncData} (F : Fun K "text_behind" "text_behind" s_text_behind f fd) (T : Bl K mg) (c_asked : Cal P w K mg base 1 "asked" ["rule", "order", "letter"] [] sp_asked) : FnG P w K mg base CX0 2 f fd ["rule", "order", "places"] (spM K mg sp_text_behind) :=
  Mx.Fun.okM F (N := N_text_behind) (k := 1) (W := W_text_behind) sc_text_behind (by decide) len_text_behind (fun cdv A outer s H E hr hgd0 => by
   have hgd : (A.deeper (envOfC "text_behind" (defScope s_text_behind) s.heap.objs.size f cdv)).guards = some [] := hgd0
   have hu := hr.units
   exact b_cons (s_set (i := 3) sc_text_behind.nd rfl (Or.inl rfl) (m_lst (a_nil)))  (b_cons (s_set (i := 4) sc_text_behind.nd rfl (Or.inl rfl) (m_var 1))  (b_cons (s_for PassesOwn.never rfl (i_tup (m_var 2)) (g_name (i := 5) sc_text_behind.nd rfl (Or.inl rfl))  (b_cons (s_set (i := 6) sc_text_behind.nd rfl (Or.inl rfl) (m_item (od_s 4) (od_s 5)))  (b_cons (s_expr (m_append 3 (m_var 6)))  (b_one (s_set (i := 4) sc_text_behind.nd rfl (Or.inl rfl) (c_call c_asked (hr.mono (by decide)) hgd (by rfl) (a_cons (m_var 0) (a_cons (m_var 4) (a_cons (m_var 6) (a_nil))))))))))  (b_one (s_ret (m_tuple (by rfl) T.tuple (od_s 3))))))) hh_text_behind
def N_cost : List Str := ["rule", "order", "text"]
theorem sc_cost : FnScope N_cost ["rule", "order", "text"] (defScope s_cost) := ⟨rfl, rfl, rfl, by decide +kernel, rfl, by decide +kernel, by decide +kernel⟩
theorem hh_cost : ∀ (Z : XP) (ms : List MV) (Q : MV → Prop), sp_cost.run Z ms Q → W_cost.run Z (entry N_cost.length ms) { nx := fun _ => Q (.d .none), rt := Q } := by
  intro Z ms Q h
  rw [show N_cost.length = 3 from rfl]
  exact h_cost Z ms Q h
theorem ok_cost {f : Addr} {fd : FuncData} (F : Fun K "cost" "cost" s_cost f fd) (T : Bl K mg) (c_places_of : Cal P w K mg base 2 "places_of" ["rule", "order", "text"] [] sp_places_of) : FnG P w K mg base CX0 3 f fd ["rule", "order", "text"] (spM K mg sp_cost) :=
  Mx.Fun.okM F (N := N_cost) (k := 2) (W := W_cost) sc_cost (by decide) len_cost (fun cdv A outer s H E hr hgd0 => by
   have hgd : (A.deeper (envOfC "cost" (defScope s_cost) s.heap.objs.size f cdv)).guards = some [] := hgd0
   have hu := hr.units
   exact b_one (s_ret (m_sumM rfl (by rfl) T.sum (od_e (c_call c_places_of (hr.mono (by decide)) hgd (by rfl) (a_cons (m_var 0) (a_cons (m_var 1) (a_cons (m_var 2) (a_nil))))))))) hh_cost
def N__stranger : List Str := ["n", "items", "place", "item"]
theorem sc__stranger : FnScope N__stranger ["n", "items"] (defScope s__stranger) := ⟨rfl, rfl, rfl, by decide +kernel, rfl, by decide +kernel, by decide +kernel⟩
theorem hh__stranger : ∀ (Z : XP) (ms : List MV) (Q : MV → Prop), sp__stranger.run Z ms Q → W__stranger.run Z (entry N__stranger.length ms) { nx := fun _ => Q (.d .none), rt := Q } := by
  intro Z ms Q h
  rw [show N__stranger.length = 4 from rfl]
  exact h_stranger Z ms Q h
theorem ok__stranger {f : Addr} {fd : FuncData} (F : Fun K "_stranger" "_stranger" s__stranger f fd) (T : Bl K mg) (c_is_within : Cal P w K mg base 2 "is_within" ["value", "least", "most"] [] sp_is_within) : FnG P w K mg base CX0 3 f fd ["n", "items"] (spM K mg sp__stranger) :=
  Mx.Fun.okM F (N := N__stranger) (k := 2) (W := W__stranger) sc__stranger (by decide) len__stranger (fun cdv A outer s H E hr hgd0 => by
   have hgd : (A.deeper (envOfC "_stranger" (defScope s__stranger) s.heap.objs.size f cdv)).guards = some [] := hgd0
   have hu := hr.units
   exact b_cons (s_for PassesOwn.never rfl (i_enum (by rfl) T.enumerate (a_cons (m_var 1) (a_nil))) (g_tup rfl (gs_cons (g_name (i := 2) sc__stranger.nd rfl (Or.inl rfl)) (gs_cons (g_name (i := 3) sc__stranger.nd rfl (Or.inl rfl)) (gs_nil))))  (b_one (s_if (t_not (t_b (c_call c_is_within (hr.mono (by decide)) hgd (by rfl) (a_cons (m_var 3) (a_cons (m_int) (a_cons (m_sub (od_s 0) (od_e (m_int))) (a_nil)))))))  (b_one (s_retS 2))  (b_nil))))  (b_one (s_ret (m_non)))) hh__stranger
def N_order_error : List Str := ["n", "value", "strange", "place", "letter"]
theorem sc_order_error : FnScope N_order_error ["n", "value"] (defScope s_order_error) := ⟨rfl, rfl, rfl, by decide +kernel, rfl, by decide +kernel, by decide +kernel⟩
theorem hh_order_error : ∀ (Z : XP) (ms : List MV) (Q : MV → Prop), sp_order_error.run Z ms Q → W_order_error.run Z (entry N_order_error.length ms) { nx := fun _ => Q (.d .none), rt := Q } := by
  intro Z ms Q h
  rw [show N_order_error.length = 5 from rfl]
  exact h_order_error Z ms Q h
theorem ok_order_error {f : Addr} {fd : FuncData} (F : Fun K "order_error" "order_error" s_order_error f fd) (T : Bl K mg) (c__stranger : Cal P w K mg base 3 "_stranger" ["n", "items"] [] sp__stranger) : FnG P w K mg base CX0 4 f fd ["n", "value"] (spM K mg sp_order_error) :=
  Mx.Fun.okM F (N := N_order_error) (k := 3) (W := W_order_error) sc_order_error (by decide) len_order_error (fun cdv A outer s H E hr hgd0 => by
   have hgd : (A.deeper (envOfC "order_error" (defScope s_order_error) s.heap.objs.size f cdv)).guards = some [] := hgd0
   have hu := hr.units
   exact b_cons (s_if (TW.tv (t_or (t_not (t_b (m_isi (T := "tuple") (by decide +kernel) (by rfl) T.isinstance (by rfl) T.tuple (by decide +kernel) (od_s 1)))) (t_or1 (t_ne hu (od_e (m_len (by rfl) T.len (od_s 1))) (od_s 0)))))  (b_one (s_ret (m_str)))  (b_nil))  (b_cons (s_set (i := 2) sc_order_error.nd rfl (Or.inl rfl) (c_call c__stranger (hr.mono (by decide)) hgd (by rfl) (a_cons (m_var 0) (a_cons (m_var 1) (a_nil)))))  (b_cons (s_if (t_notN (od_s 2) (od_e (m_non)))  (b_one (s_ret (m_tup (a_cons (m_str) (a_cons (m_var 2) (a_nil))))))  (b_nil))  (b_cons (s_for PassesOwn.never rfl (i_enum (by rfl) T.enumerate (a_cons (m_var 1) (a_nil))) (g_tup rfl (gs_cons (g_name (i := 3) sc_order_error.nd rfl (Or.inl rfl)) (gs_cons (g_name (i := 4) sc_order_error.nd rfl (Or.inl rfl)) (gs_nil))))  (b_one (s_if (t_in (od_s 4) (od_e (m_slice (od_s 1) (b_none) (b_some (m_var 3)))))  (b_one (s_ret (m_tup (a_cons (m_str) (a_cons (m_var 3) (a_nil))))))  (b_nil))))  (b_one (s_ret (m_non))))))) hh_order_error
def N_text_error : List Str := ["n", "value", "strange"]
theorem sc_text_error : FnScope N_text_error ["n", "value"] (defScope s_text_error) := ⟨rfl, rfl, rfl, by decide +kernel, rfl, by decide +kernel, by decide +kernel⟩
theorem hh_text_error : ∀ (Z : XP) (ms : List MV) (Q : MV → Prop), sp_text_error.run Z ms Q → W_text_error.run Z (entry N_text_error.length ms) { nx := fun _ => Q (.d .none), rt := Q } := by
  intro Z ms Q h
  rw [show N_text_error.length = 3 from rfl]
  exact h_text_error Z ms Q h
theorem ok_text_error {f : Addr} {fd : FuncData} (F : Fun K "text_error" "text_error" s_text_error f fd) (T : Bl K mg) (c__stranger : Cal P w K mg base 3 "_stranger" ["n", "items"] [] sp__stranger) : FnG P w K mg base CX0 4 f fd ["n", "value"] (spM K mg sp_text_error) :=
  Mx.Fun.okM F (N := N_text_error) (k := 3) (W := W_text_error) sc_text_error (by decide) len_text_error (fun cdv A outer s H E hr hgd0 => by
   have hgd : (A.deeper (envOfC "text_error" (defScope s_text_error) s.heap.objs.size f cdv)).guards = some [] := hgd0
   have hu := hr.units
   exact b_cons (s_if (TW.tv (t_or (t_not (t_b (m_isi (T := "tuple") (by decide +kernel) (by rfl) T.isinstance (by rfl) T.tuple (by decide +kernel) (od_s 1)))) (t_or1 (t_gt (od_e (m_len (by rfl) T.len (od_s 1))) (od_e (m_glob (by rfl) T.g_MAX_TEXT))))))  (b_one (s_ret (m_str)))  (b_nil))  (b_cons (s_set (i := 2) sc_text_error.nd rfl (Or.inl rfl) (c_call c__stranger (hr.mono (by decide)) hgd (by rfl) (a_cons (m_var 0) (a_cons (m_var 1) (a_nil)))))  (b_cons (s_if (t_notN (od_s 2) (od_e (m_non)))  (b_one (s_ret (m_tup (a_cons (m_str) (a_cons (m_var 2) (a_nil))))))  (b_nil))  (b_one (s_ret (m_non)))))) hh_text_error
def N__late_place : List Str := ["rule", "begin", "end", "place"]
theorem sc__late_place : FnScope N__late_place ["rule"] (defScope s__late_place) := ⟨rfl, rfl, rfl, by decide +kernel, rfl, by decide +kernel, by decide +kernel⟩
theorem hh__late_place : ∀ (Z : XP) (ms : List MV) (Q : MV → Prop), sp__late_place.run Z ms Q → W__late_place.run Z (entry N__late_place.length ms) { nx := fun _ => Q (.d .none), rt := Q } := by
  intro Z ms Q h
  rw [show N__late_place.length = 4 from rfl]
  exact h_late_place Z ms Q h
theorem ok__late_place {f : Addr} {fd : FuncData} (F : Fun K "_late_place" "_late_place" s__late_place f fd) (T : Bl K mg) (c_blocks : Cal P w K mg base 2 "blocks" ["rule"] [] sp_blocks) : FnG P w K mg base CX0 3 f fd ["rule"] (spM K mg sp__late_place) :=
  Mx.Fun.okM F (N := N__late_place) (k := 2) (W := W__late_place) sc__late_place (by decide) len__late_place (fun cdv A outer s H E hr hgd0 => by
   have hgd : (A.deeper (envOfC "_late_place" (defScope s__late_place) s.heap.objs.size f cdv)).guards = some [] := hgd0
   have hu := hr.units
   exact b_cons (s_for PassesOwn.never rfl (i_tup (c_call c_blocks (hr.mono (by decide)) hgd (by rfl) (a_cons (m_var 0) (a_nil)))) (g_tup rfl (gs_cons (g_name (i := 1) sc__late_place.nd rfl (Or.inl rfl)) (gs_cons (g_name (i := 2) sc__late_place.nd rfl (Or.inl rfl)) (gs_nil))))  (b_one (s_for PassesOwn.never rfl (i_range2 (by rfl) T.range (a_cons (q_add (od_s 1) (od_e (m_int))) (a_cons (m_var 2) (a_nil)))) (g_name (i := 3) sc__late_place.nd rfl (Or.inl rfl))  (b_one (s_if (t_ne hu (od_e (m_item (od_s 0) (od_s 3))) (od_s 1))  (b_one (s_retS 3))  (b_nil))))))  (b_one (s_ret (m_non)))) hh__late_place
def N__places_to_front : List Str := ["rule", "late", "goal", "behind"]
theorem sc__places_to_front : FnScope N__places_to_front ["rule", "late"] (defScope s__places_to_front) := ⟨rfl, rfl, rfl, by decide +kernel, rfl, by decide +kernel, by decide +kernel⟩
theorem hh__places_to_front : ∀ (Z : XP) (ms : List MV) (Q : MV → Prop), sp__places_to_front.run Z ms Q → W__places_to_front.run Z (entry N__places_to_front.length ms) { nx := fun _ => Q (.d .none), rt := Q } := by
  intro Z ms Q h
  rw [show N__places_to_front.length = 4 from rfl]
  exact h_places Z ms Q h
theorem ok__places_to_front {f : Addr} {fd : FuncData} (F : Fun K "_places_to_front" "_places_to_front" s__places_to_front f fd) (T : Bl K mg) : FnG P w K mg base CX0 1 f fd ["rule", "late"] (spM K mg sp__places_to_front) :=
  Mx.Fun.okM F (N := N__places_to_front) (k := 0) (W := W__places_to_front) sc__places_to_front (by decide) len__places_to_front (fun cdv A outer s H E hr hgd0 => by
   have hgd : (A.deeper (envOfC "_places_to_front" (defScope s__places_to_front) s.heap.objs.size f cdv)).guards = some [] := hgd0
   have hu := hr.units
   exact b_cons (s_set (i := 2) sc__places_to_front.nd rfl (Or.inl rfl) (m_item (od_s 0) (od_s 1)))  (b_cons (s_if (t_lt (od_s 2) (od_s 1))  (b_one (s_ret (q_mul (od_e (m_tup (a_cons (m_var 1) (a_cons (m_var 2) (a_nil))))) (od_e (q_add (od_e (m_sub (od_s 1) (od_s 2))) (od_e (m_int)))))))  (b_nil))  (b_cons (s_set (i := 3) sc__places_to_front.nd rfl (Or.inl rfl) (q_add (od_s 1) (od_e (m_int))))  (b_cons (s_while PassesOwn.never (t_ge (od_e (m_item (od_s 0) (od_s 3))) (od_s 1))  (b_one (s_aug (i := 3) (f := fun i j => i + j) ip_add sc__places_to_front.nd rfl (Or.inl rfl) (m_int))))  (b_one (s_ret (q_add (od_e (q_mul (od_e (m_tup (a_cons (m_var 3) (a_nil)))) (od_e (q_add (od_e (m_sub (od_s 3) (od_s 1))) (od_e (m_int)))))) (od_e (m_tup (a_cons (m_item (od_s 0) (od_s 3)) (a_nil))))))))))) hh__places_to_front
def N_gains : List Str := ["rule", "order", "late", "lead"]
theorem sc_gains : FnScope N_gains ["rule"] (defScope s_gains) := ⟨rfl, rfl, rfl, by decide +kernel, rfl, by decide +kernel, by decide +kernel⟩
theorem hh_gains : ∀ (Z : XP) (ms : List MV) (Q : MV → Prop), sp_gains.run Z ms Q → W_gains.run Z (entry N_gains.length ms) { nx := fun _ => Q (.d .none), rt := Q } := by
  intro Z ms Q h
  rw [show N_gains.length = 4 from rfl]
  exact h_gains Z ms Q h
theorem ok_gains {f : Addr} {fd : FuncData} (F : Fun K "gains" "gains" s_gains f fd) (T : Bl K mg) (c_is_front : Cal P w K mg base 3 "is_front" ["rule"] [] sp_is_front) (c__late_place : Cal P w K mg base 3 "_late_place" ["rule"] [] sp__late_place) (c_text_behind : Cal P w K mg base 2 "text_behind" ["rule", "order", "places"] [] sp_text_behind) (c__places_to_front : Cal P w K mg base 1 "_places_to_front" ["rule", "late"] [] sp__places_to_front) : FnG P w K mg base CX0 4 f fd ["rule"] (spM K mg sp_gains) :=
  Mx.Fun.okM F (N := N_gains) (k := 3) (W := W_gains) sc_gains (by decide) len_gains (fun cdv A outer s H E hr hgd0 => by
   have hgd : (A.deeper (envOfC "gains" (defScope s_gains) s.heap.objs.size f cdv)).guards = some [] := hgd0
   have hu := hr.units
   exact b_cons (s_if (t_b (c_call c_is_front (hr.mono (by decide)) hgd (by rfl) (a_cons (m_var 0) (a_nil))))  (b_one (s_ret (m_non)))  (b_nil))  (b_cons (s_set (i := 1) sc_gains.nd rfl (Or.inl rfl) (m_tupR1 rfl (by rfl) T.tuple (by rfl) T.range (m_len (by rfl) T.len (od_s 0))))  (b_cons (s_set (i := 2) sc_gains.nd rfl (Or.inl rfl) (c_call c__late_place (hr.mono (by decide)) hgd (by rfl) (a_cons (m_var 0) (a_nil))))  (b_cons (s_set (i := 3) sc_gains.nd rfl (Or.inl rfl) (c_call c_text_behind (hr.mono (by decide)) hgd (by rfl) (a_cons (m_var 0) (a_cons (m_var 1) (a_cons (c_call c__places_to_front (hr.mono (by decide)) hgd (by rfl) (a_cons (m_var 0) (a_cons (m_var 2) (a_nil)))) (a_nil))))))  (b_one (s_ret (m_tup (a_cons (m_var 1) (a_cons (m_var 3) (a_cons (m_rev (od_e (m_slice (od_s 1) (b_some (m_item (od_s 0) (od_s 2))) (b_some (q_add (od_s 2) (od_e (m_int))))))) (a_nil))))))))))) hh_gains
def N_gains_error : List Str := ["rule", "value", "n", "one", "lead", "text", "other"]
theorem sc_gains_error : FnScope N_gains_error ["rule", "value"] (defScope s_gains_error) := ⟨rfl, rfl, rfl, by decide +kernel, rfl, by decide +kernel, by decide +kernel⟩
theorem hh_gains_error : ∀ (Z : XP) (ms : List MV) (Q : MV → Prop), sp_gains_error.run Z ms Q → W_gains_error.run Z (entry N_gains_error.length ms) { nx := fun _ => Q (.d .none), rt := Q } := by
  intro Z ms Q h
  rw [show N_gains_error.length = 7 from rfl]
  exact h_gains_error Z ms Q h
theorem ok_gains_error {f : Addr} {fd : FuncData} (F : Fun K "gains_error" "gains_error" s_gains_error f fd) (T : Bl K mg) (c_order_error : Cal P w K mg base 4 "order_error" ["n", "value"] [] sp_order_error) (c_text_error : Cal P w K mg base 4 "text_error" ["n", "value"] [] sp_text_error) (c_run : Cal P w K mg base 2 "run" ["rule", "order", "text"] [] sp_run) (c_cost : Cal P w K mg base 3 "cost" ["rule", "order", "text"] [] sp_cost) : FnG P w K mg base CX0 5 f fd ["rule", "value"] (spM K mg sp_gains_error) :=
  Mx.Fun.okM F (N := N_gains_error) (k := 4) (W := W_gains_error) sc_gains_error (by decide) len_gains_error (fun cdv A outer s H E hr hgd0 => by
   have hgd : (A.deeper (envOfC "gains_error" (defScope s_gains_error) s.heap.objs.size f cdv)).guards = some [] := hgd0
   have hu := hr.units
   exact b_cons (s_set (i := 2) sc_gains_error.nd rfl (Or.inl rfl) (m_len (by rfl) T.len (od_s 0)))  (b_cons (s_if (TW.tv (t_or (t_not (t_b (m_isi (T := "tuple") (by decide +kernel) (by rfl) T.isinstance (by rfl) T.tuple (by decide +kernel) (od_s 1)))) (t_or1 (t_ne hu (od_e (m_len (by rfl) T.len (od_s 1))) (od_e (m_int))))))  (b_one (s_ret (m_str)))  (b_nil))  (b_cons (s_asg (m_var 1) (g_tup rfl (gs_cons (g_name (i := 3) sc_gains_error.nd rfl (Or.inl rfl)) (gs_cons (g_name (i := 4) sc_gains_error.nd rfl (Or.inl rfl)) (gs_cons (g_name (i := 5) sc_gains_error.nd rfl (Or.inl rfl)) (gs_nil))))))  (b_cons (s_if (t_notN (od_e (c_call c_order_error (hr.mono (by decide)) hgd (by rfl) (a_cons (m_var 2) (a_cons (m_var 3) (a_nil))))) (od_e (m_non)))  (b_one (s_ret (m_str)))  (b_nil))  (b_cons (s_if (t_notN (od_e (c_call c_text_error (hr.mono (by decide)) hgd (by rfl) (a_cons (m_var 2) (a_cons (m_var 4) (a_nil))))) (od_e (m_non)))  (b_one (s_ret (m_str)))  (b_nil))  (b_cons (s_if (TW.tv (t_or (t_notN (od_e (c_call c_text_error (hr.mono (by decide)) hgd (by rfl) (a_cons (m_var 2) (a_cons (m_var 5) (a_nil))))) (od_e (m_non))) (t_or1 (t_not (t_chain (f := fun i j => decide (i ≤ j)) (g := fun i j => decide (i ≤ j)) op_le op_le (od_e (m_int)) (od_e (m_len (by rfl) T.len (od_s 5))) (od_s 2))))))  (b_one (s_ret (m_str)))  (b_nil))  (b_cons (s_set (i := 6) sc_gains_error.nd rfl (Or.inl rfl) (c_call c_run (hr.mono (by decide)) hgd (by rfl) (a_cons (m_var 0) (a_cons (m_var 3) (a_cons (m_var 4) (a_nil))))))  (b_cons (s_if (TW.tv (t_or (t_ne hu (od_e (c_call c_run (hr.mono (by decide)) hgd (by rfl) (a_cons (m_var 0) (a_cons (m_var 3) (a_cons (m_var 5) (a_nil)))))) (od_s 3)) (t_or1 (t_ne hu (od_e (c_call c_run (hr.mono (by decide)) hgd (by rfl) (a_cons (m_var 0) (a_cons (m_var 6) (a_cons (m_var 5) (a_nil)))))) (od_s 6)))))  (b_one (s_ret (m_str)))  (b_nil))  (b_cons (s_if (t_le (od_e (c_call c_cost (hr.mono (by decide)) hgd (by rfl) (a_cons (m_var 0) (a_cons (m_var 3) (a_cons (m_var 5) (a_nil)))))) (od_e (c_call c_cost (hr.mono (by decide)) hgd (by rfl) (a_cons (m_var 0) (a_cons (m_var 6) (a_cons (m_var 5) (a_nil)))))))  (b_one (s_ret (m_str)))  (b_nil))  (b_one (s_ret (m_non)))))))))))) hh_gains_error
def N_view : List Str := ["one", "other", "letter"]
theorem sc_view : FnScope N_view ["one", "other"] (defScope s_view) := ⟨rfl, rfl, rfl, by decide +kernel, rfl, by decide +kernel, by decide +kernel⟩
theorem hh_view : ∀ (Z : XP) (ms : List MV) (Q : MV → Prop), sp_view.run Z ms Q → W_view.run Z (entry N_view.length ms) { nx := fun _ => Q (.d .none), rt := Q } := by
  intro Z ms Q h
  rw [show N_view.length = 3 from rfl]
  exact h_view Z ms Q h
theorem ok_view {f : Addr} {fd : FuncData} (F : Fun K "view" "view" s_view f fd) (T : Bl K mg) : FnG P w K mg base CX0 1 f fd ["one", "other"] (spM K mg sp_view) :=
  Mx.Fun.okM F (N := N_view) (k := 0) (W := W_view) sc_view (by decide) len_view (fun cdv A outer s H E hr hgd0 => by
   have hgd : (A.deeper (envOfC "view" (defScope s_view) s.heap.objs.size f cdv)).guards = some [] := hgd0
   have hu := hr.units
   exact b_one (s_ret (m_tuple (by rfl) T.tuple (od_e (m_lc0 (own := [("letter", 2)]) rfl sc_view.nd (i_tup (m_var 1)) (blkOk_by (own := [("letter", 2)]) (N := N_view) (sc := defScope s_view) (by decide +kernel)) (fun _ _ _ _ _ => g_name (i := 2) sc_view.nd rfl (Or.inl rfl)) (fun _ _ _ _ _ => m_indexT (od_s 0) (od_s 2))))))) hh_view
def N_unlike : List Str := ["one", "other", "seen", "at", "place", "ahead"]
theorem sc_unlike : FnScope N_unlike ["one", "other"] (defScope s_unlike) := ⟨rfl, rfl, rfl, by decide +kernel, rfl, by decide +kernel, by decide +kernel⟩
theorem hh_unlike : ∀ (Z : XP) (ms : List MV) (Q : MV → Prop), sp_unlike.run Z ms Q → W_unlike.run Z (entry N_unlike.length ms) { nx := fun _ => Q (.d .none), rt := Q } := by
  intro Z ms Q h
  rw [show N_unlike.length = 6 from rfl]
  exact h_unlike Z ms Q h
theorem ok_unlike {f : Addr} {fd : FuncData} (F : Fun K "unlike" "unlike" s_unlike f fd) (T : Bl K mg) (c_view : Cal P w K mg base 1 "view" ["one", "other"] [] sp_view) : FnG P w K mg base CX0 2 f fd ["one", "other"] (spM K mg sp_unlike) :=
  Mx.Fun.okM F (N := N_unlike) (k := 1) (W := W_unlike) sc_unlike (by decide) len_unlike (fun cdv A outer s H E hr hgd0 => by
   have hgd : (A.deeper (envOfC "unlike" (defScope s_unlike) s.heap.objs.size f cdv)).guards = some [] := hgd0
   have hu := hr.units
   exact b_cons (s_set (i := 2) sc_unlike.nd rfl (Or.inr rfl) (c_call c_view (hr.mono (by decide)) hgd (by rfl) (a_cons (m_var 0) (a_cons (m_var 1) (a_nil)))))  (b_one (s_ret (m_sumM rfl (by rfl) T.sum (od_e (m_lc0 (own := [("at", 3), ("place", 4)]) rfl sc_unlike.nd (i_enum (by rfl) T.enumerate (a_cons (m_var 2) (a_nil))) (blkOk_by (own := [("at", 3), ("place", 4)]) (N := N_unlike) (sc := defScope s_unlike) (by decide +kernel)) (fun _ _ _ _ _ => g_tup rfl (gs_cons (g_name (i := 3) sc_unlike.nd rfl (Or.inl rfl)) (gs_cons (g_name (i := 4) sc_unlike.nd rfl (Or.inr rfl)) (gs_nil)))) (fun _ _ _ _ _ => m_len (by rfl) T.len (od_e (m_lc1 (own := [("ahead", 5)]) rfl sc_unlike.nd (i_tup (m_slice (od_s 2) (b_none) (b_some (m_var 3)))) (blkOk_by (own := [("ahead", 5)]) (N := N_unlike) (by kernel_rfl)) (fun _ _ _ _ _ => g_name (i := 5) sc_unlike.nd rfl (Or.inl rfl)) (fun _ _ _ _ _ => t_gt (od_s 5) (od_s 4)) (fun _ _ _ _ _ => m_var 5)))))))))) hh_unlike
def N__check_bounded : List Str := ["rule", "one", "other"]
theorem sc__check_bounded : FnScope N__check_bounded ["rule", "one", "other"] (defScope s__check_bounded) := ⟨rfl, rfl, rfl, by decide +kernel, rfl, by decide +kernel, by decide +kernel⟩
theorem hh__check_bounded : ∀ (Z : XP) (ms : List MV) (Q : MV → Prop), sp__check_bounded.run Z ms Q → W__check_bounded.run Z (entry N__check_bounded.length ms) { nx := fun _ => Q (.d .none), rt := Q } := by
  intro Z ms Q h
  rw [show N__check_bounded.length = 3 from rfl]
  exact h_check_bounded Z ms Q h
theorem ok__check_bounded {f : Addr} {fd : FuncData} (F : Fun K "_check_bounded" "_check_bounded" s__check_bounded f fd) (T : Bl K mg) (c_is_front : Cal P w K mg base 3 "is_front" ["rule"] [] sp_is_front) (c_comes_out : Cal P w K mg base 4 "comes_out" ["rule", "one", "other"] [] sp_comes_out) : FnG P w K mg base CX0 5 f fd ["rule", "one", "other"] (spM K mg sp__check_bounded) :=
  Mx.Fun.okM F (N := N__check_bounded) (k := 4) (W := W__check_bounded) sc__check_bounded (by decide) len__check_bounded (fun cdv A outer s H E hr hgd0 => by
   have hgd : (A.deeper (envOfC "_check_bounded" (defScope s__check_bounded) s.heap.objs.size f cdv)).guards = some [] := hgd0
   have hu := hr.units
   exact b_one (s_if (TW.tv (t_or (t_not (t_b (c_call c_is_front (hr.mono (by decide)) hgd (by rfl) (a_cons (m_var 0) (a_nil))))) (t_or1 (t_not (t_b (c_call c_comes_out (hr.mono (by decide)) hgd (by rfl) (a_cons (m_var 0) (a_cons (m_var 1) (a_cons (m_var 2) (a_nil))))))))))  (b_one (s_fail))  (b_nil))) hh__check_bounded
def N_gap : List Str := ["rule", "one", "other"]
theorem sc_gap : FnScope N_gap ["rule", "one", "other"] (defScope s_gap) := ⟨rfl, rfl, rfl, by decide +kernel, rfl, by decide +kernel, by decide +kernel⟩
theorem hh_gap : ∀ (Z : XP) (ms : List MV) (Q : MV → Prop), sp_gap.run Z ms Q → W_gap.run Z (entry N_gap.length ms) { nx := fun _ => Q (.d .none), rt := Q } := by
  intro Z ms Q h
  rw [show N_gap.length = 3 from rfl]
  exact h_gap Z ms Q h
theorem ok_gap {f : Addr} {fd : FuncData} (F : Fun K "gap" "gap" s_gap f fd) (T : Bl K mg) (c__check_bounded : Cal P w K mg base 5 "_check_bounded" ["rule", "one", "other"] [] sp__check_bounded) (c_unlike : Cal P w K mg base 2 "unlike" ["one", "other"] [] sp_unlike) : FnG P w K mg base CX0 6 f fd ["rule", "one", "other"] (spM K mg sp_gap) :=
  Mx.Fun.okM F (N := N_gap) (k := 5) (W := W_gap) sc_gap (by decide) len_gap (fun cdv A outer s H E hr hgd0 => by
   have hgd : (A.deeper (envOfC "gap" (defScope s_gap) s.heap.objs.size f cdv)).guards = some [] := hgd0
   have hu := hr.units
   exact b_cons (s_expr (c_call c__check_bounded (hr.mono (by decide)) hgd (by rfl) (a_cons (m_var 0) (a_cons (m_var 1) (a_cons (m_var 2) (a_nil))))))  (b_one (s_ret (c_call c_unlike (hr.mono (by decide)) hgd (by rfl) (a_cons (m_var 1) (a_cons (m_var 2) (a_nil))))))) hh_gap
def N_gap_text : List Str := ["rule", "one", "other"]
theorem sc_gap_text : FnScope N_gap_text ["rule", "one", "other"] (defScope s_gap_text) := ⟨rfl, rfl, rfl, by decide +kernel, rfl, by decide +kernel, by decide +kernel⟩
theorem hh_gap_text : ∀ (Z : XP) (ms : List MV) (Q : MV → Prop), sp_gap_text.run Z ms Q → W_gap_text.run Z (entry N_gap_text.length ms) { nx := fun _ => Q (.d .none), rt := Q } := by
  intro Z ms Q h
  rw [show N_gap_text.length = 3 from rfl]
  exact h_gap_text Z ms Q h
theorem ok_gap_text {f : Addr} {fd : FuncData} (F : Fun K "gap_text" "gap_text" s_gap_text f fd) (T : Bl K mg) (c__check_bounded : Cal P w K mg base 5 "_check_bounded" ["rule", "one", "other"] [] sp__check_bounded) : FnG P w K mg base CX0 6 f fd ["rule", "one", "other"] (spM K mg sp_gap_text) :=
  Mx.Fun.okM F (N := N_gap_text) (k := 5) (W := W_gap_text) sc_gap_text (by decide) len_gap_text (fun cdv A outer s H E hr hgd0 => by
   have hgd : (A.deeper (envOfC "gap_text" (defScope s_gap_text) s.heap.objs.size f cdv)).guards = some [] := hgd0
   have hu := hr.units
   exact b_cons (s_expr (c_call c__check_bounded (hr.mono (by decide)) hgd (by rfl) (a_cons (m_var 0) (a_cons (m_var 1) (a_cons (m_var 2) (a_nil))))))  (b_one (s_retS 2))) hh_gap_text
def N__begins : List Str := ["value", "many", "word"]
theorem sc__begins : FnScope N__begins ["value", "many", "word"] (defScope s__begins) := ⟨rfl, rfl, rfl, by decide +kernel, rfl, by decide +kernel, by decide +kernel⟩
theorem hh__begins : ∀ (Z : XP) (ms : List MV) (Q : MV → Prop), sp__begins.run Z ms Q → W__begins.run Z (entry N__begins.length ms) { nx := fun _ => Q (.d .none), rt := Q } := by
  intro Z ms Q h
  rw [show N__begins.length = 3 from rfl]
  exact h_begins2 Z ms Q h
theorem ok__begins {f : Addr} {fd : FuncData} (F : Fun K "_begins" "_begins" s__begins f fd) (T : Bl K mg) : FnG P w K mg base CX0 1 f fd ["value", "many", "word"] (spM K mg sp__begins) :=
  Mx.Fun.okM F (N := N__begins) (k := 0) (W := W__begins) sc__begins (by decide) len__begins (fun cdv A outer s H E hr hgd0 => by
   have hgd : (A.deeper (envOfC "_begins" (defScope s__begins) s.heap.objs.size f cdv)).guards = some [] := hgd0
   have hu := hr.units
   exact b_one (s_ret (m_and (m_isi (T := "tuple") (by decide +kernel) (by rfl) T.isinstance (by rfl) T.tuple (by decide +kernel) (od_s 0)) (m_and (m_eq hu (od_e (m_len (by rfl) T.len (od_s 0))) (od_s 1)) (m_one (m_eq hu (od_e (m_item (od_s 0) (od_e (m_int)))) (od_s 2))))))) hh__begins
def N_gap_paper : List Str := ["rule", "one", "other"]
theorem sc_gap_paper : FnScope N_gap_paper ["rule", "one", "other"] (defScope s_gap_paper) := ⟨rfl, rfl, rfl, by decide +kernel, rfl, by decide +kernel, by decide +kernel⟩
theorem hh_gap_paper : ∀ (Z : XP) (ms : List MV) (Q : MV → Prop), sp_gap_paper.run Z ms Q → W_gap_paper.run Z (entry N_gap_paper.length ms) { nx := fun _ => Q (.d .none), rt := Q } := by
  intro Z ms Q h
  rw [show N_gap_paper.length = 3 from rfl]
  exact h_gap_paper Z ms Q h
theorem ok_gap_paper {f : Addr} {fd : FuncData} (F : Fun K "gap_paper" "gap_paper" s_gap_paper f fd) (T : Bl K mg) (c_is_front : Cal P w K mg base 3 "is_front" ["rule"] [] sp_is_front) (c_gains : Cal P w K mg base 4 "gains" ["rule"] [] sp_gains) (c_gap_text : Cal P w K mg base 6 "gap_text" ["rule", "one", "other"] [] sp_gap_text) (c_gap : Cal P w K mg base 6 "gap" ["rule", "one", "other"] [] sp_gap) : FnG P w K mg base CX0 7 f fd ["rule", "one", "other"] (spM K mg sp_gap_paper) :=
  Mx.Fun.okM F (N := N_gap_paper) (k := 6) (W := W_gap_paper) sc_gap_paper (by decide) len_gap_paper (fun cdv A outer s H E hr hgd0 => by
   have hgd : (A.deeper (envOfC "gap_paper" (defScope s_gap_paper) s.heap.objs.size f cdv)).guards = some [] := hgd0
   have hu := hr.units
   exact b_cons (s_if (t_not (t_b (c_call c_is_front (hr.mono (by decide)) hgd (by rfl) (a_cons (m_var 0) (a_nil)))))  (b_one (s_ret (q_add (od_e (m_tup (a_cons (m_str) (a_nil)))) (od_e (c_call c_gains (hr.mono (by decide)) hgd (by rfl) (a_cons (m_var 0) (a_nil)))))))  (b_nil))  (b_one (s_ret (m_tup (a_cons (m_str) (a_cons (c_call c_gap (hr.mono (by decide)) hgd (by rfl) (a_cons (m_var 0) (a_cons (m_var 1) (a_cons (m_var 2) (a_nil))))) (a_cons (c_call c_gap_text (hr.mono (by decide)) hgd (by rfl) (a_cons (m_var 0) (a_cons (m_var 1) (a_cons (m_var 2) (a_nil))))) (a_nil)))))))) hh_gap_paper
def N__endless_error : List Str := ["rule", "value", "error"]
theorem sc__endless_error : FnScope N__endless_error ["rule", "value"] (defScope s__endless_error) := ⟨rfl, rfl, rfl, by decide +kernel, rfl, by decide +kernel, by decide +kernel⟩
theorem hh__endless_error : ∀ (Z : XP) (ms : List MV) (Q : MV → Prop), sp__endless_error.run Z ms Q → W__endless_error.run Z (entry N__endless_error.length ms) { nx := fun _ => Q (.d .none), rt := Q } := by
  intro Z ms Q h
  rw [show N__endless_error.length = 3 from rfl]
  exact h_endless Z ms Q h
theorem ok__endless_error {f : Addr} {fd : FuncData} (F : Fun K "_endless_error" "_endless_error" s__endless_error f fd) (T : Bl K mg) (c__begins : Cal P w K mg base 1 "_begins" ["value", "many", "word"] [] sp__begins) (c_gains_error : Cal P w K mg base 5 "gains_error" ["rule", "value"] [] sp_gains_error) : FnG P w K mg base CX0 6 f fd ["rule", "value"] (spM K mg sp__endless_error) :=
  Mx.Fun.okM F (N := N__endless_error) (k := 5) (W := W__endless_error) sc__endless_error (by decide) len__endless_error (fun cdv A outer s H E hr hgd0 => by
   have hgd : (A.deeper (envOfC "_endless_error" (defScope s__endless_error) s.heap.objs.size f cdv)).guards = some [] := hgd0
   have hu := hr.units
   exact b_cons (s_if (t_not (t_b (c_call c__begins (hr.mono (by decide)) hgd (by rfl) (a_cons (m_var 1) (a_cons (m_int) (a_cons (m_str) (a_nil)))))))  (b_one (s_ret (m_str)))  (b_nil))  (b_cons (s_set (i := 2) sc__endless_error.nd rfl (Or.inl rfl) (c_call c_gains_error (hr.mono (by decide)) hgd (by rfl) (a_cons (m_var 0) (a_cons (m_slice (od_s 1) (b_some (m_int)) (b_none)) (a_nil)))))  (b_one (s_ret (m_if (t_isN (od_s 2) (od_e (m_non))) (m_non) (m_tup (a_cons (m_str) (a_cons (m_var 2) (a_nil))))))))) hh__endless_error
def N_gap_paper_error : List Str := ["rule", "one", "other", "value", "most", "_", "number", "text"]
theorem sc_gap_paper_error : FnScope N_gap_paper_error ["rule", "one", "other", "value"] (defScope s_gap_paper_error) := ⟨rfl, rfl, rfl, by decide +kernel, rfl, by decide +kernel, by decide +kernel⟩
theorem hh_gap_paper_error : ∀ (Z : XP) (ms : List MV) (Q : MV → Prop), sp_gap_paper_error.run Z ms Q → W_gap_paper_error.run Z (entry N_gap_paper_error.length ms) { nx := fun _ => Q (.d .none), rt := Q } := by
  intro Z ms Q h
  rw [show N_gap_paper_error.length = 8 from rfl]
  exact h_gpe Z ms Q h
theorem ok_gap_paper_error {f : Addr} {fd : FuncData} (F : Fun K "gap_paper_error" "gap_paper_error" s_gap_paper_error f fd) (T : Bl K mg) (c_is_front : Cal P w K mg base 3 "is_front" ["rule"] [] sp_is_front) (c__endless_error : Cal P w K mg base 6 "_endless_error" ["rule", "value"] [] sp__endless_error) (c_gap : Cal P w K mg base 6 "gap" ["rule", "one", "other"] [] sp_gap) (c__begins : Cal P w K mg base 1 "_begins" ["value", "many", "word"] [] sp__begins) (c_is_same : Cal P w K mg base 2 "is_same" ["value", "wanted"] [] sp_is_same) (c_text_error : Cal P w K mg base 4 "text_error" ["n", "value"] [] sp_text_error) (c_cost : Cal P w K mg base 3 "cost" ["rule", "order", "text"] [] sp_cost) : FnG P w K mg base CX0 7 f fd ["rule", "one", "other", "value"] (spM K mg sp_gap_paper_error) :=
  Mx.Fun.okM F (N := N_gap_paper_error) (k := 6) (W := W_gap_paper_error) sc_gap_paper_error (by decide) len_gap_paper_error (fun cdv A outer s H E hr hgd0 => by
   have hgd : (A.deeper (envOfC "gap_paper_error" (defScope s_gap_paper_error) s.heap.objs.size f cdv)).guards = some [] := hgd0
   have hu := hr.units
   exact b_cons (s_if (t_not (t_b (c_call c_is_front (hr.mono (by decide)) hgd (by rfl) (a_cons (m_var 0) (a_nil)))))  (b_one (s_ret (c_call c__endless_error (hr.mono (by decide)) hgd (by rfl) (a_cons (m_var 0) (a_cons (m_var 3) (a_nil))))))  (b_nil))  (b_cons (s_set (i := 4) sc_gap_paper_error.nd rfl (Or.inl rfl) (c_call c_gap (hr.mono (by decide)) hgd (by rfl) (a_cons (m_var 0) (a_cons (m_var 1) (a_cons (m_var 2) (a_nil))))))  (b_cons (s_if (t_not (t_b (c_call c__begins (hr.mono (by decide)) hgd (by rfl) (a_cons (m_var 3) (a_cons (m_int) (a_cons (m_str) (a_nil)))))))  (b_one (s_ret (m_str)))  (b_nil))  (b_cons (s_asg (m_var 3) (g_tup rfl (gs_cons (g_name (i := 5) sc_gap_paper_error.nd rfl (Or.inl rfl)) (gs_cons (g_name (i := 6) sc_gap_paper_error.nd rfl (Or.inl rfl)) (gs_cons (g_name (i := 7) sc_gap_paper_error.nd rfl (Or.inl rfl)) (gs_nil))))))  (b_cons (s_if (t_not (t_b (c_call c_is_same (hr.mono (by decide)) hgd (by rfl) (a_cons (m_var 6) (a_cons (m_var 4) (a_nil))))))  (b_one (s_ret (m_str)))  (b_nil))  (b_cons (s_if (TW.tv (t_or (t_notN (od_e (c_call c_text_error (hr.mono (by decide)) hgd (by rfl) (a_cons (m_len (by rfl) T.len (od_s 0)) (a_cons (m_var 7) (a_nil))))) (od_e (m_non))) (t_or1 (t_ne hu (od_e (m_sub (od_e (c_call c_cost (hr.mono (by decide)) hgd (by rfl) (a_cons (m_var 0) (a_cons (m_var 1) (a_cons (m_var 7) (a_nil)))))) (od_e (c_call c_cost (hr.mono (by decide)) hgd (by rfl) (a_cons (m_var 0) (a_cons (m_var 2) (a_cons (m_var 7) (a_nil)))))))) (od_s 4)))))  (b_one (s_ret (m_str)))  (b_nil))  (b_one (s_ret (m_non))))))))) hh_gap_paper_error
def N__law_pick : List Str := ["bag", "items"]
theorem sc__law_pick : FnScope N__law_pick ["bag", "items"] (defScope s__law_pick) := ⟨rfl, rfl, rfl, by decide +kernel, rfl, by decide +kernel, by decide +kernel⟩
theorem hh__law_pick : ∀ (Z : XP) (ms : List MV) (Q : MV → Prop), sp__law_pick.run Z ms Q → W__law_pick.run Z (entry N__law_pick.length ms) { nx := fun _ => Q (.d .none), rt := Q } := by
  intro Z ms Q h
  rw [show N__law_pick.length = 2 from rfl]
  exact h_pick Z ms Q h
theorem ok__law_pick {f : Addr} {fd : FuncData} (F : Fun K "_law_pick" "_law_pick" s__law_pick f fd) (T : Bl K mg) (c__law_draw : Cal P w K mg base 1 "_law_draw" ["bag", "many"] [] sp__law_draw) : FnG P w K mg base CX0 2 f fd ["bag", "items"] (spM K mg sp__law_pick) :=
  Mx.Fun.okM F (N := N__law_pick) (k := 1) (W := W__law_pick) sc__law_pick (by decide) len__law_pick (fun cdv A outer s H E hr hgd0 => by
   have hgd : (A.deeper (envOfC "_law_pick" (defScope s__law_pick) s.heap.objs.size f cdv)).guards = some [] := hgd0
   have hu := hr.units
   exact b_one (s_ret (m_item (od_s 1) (od_e (c_call c__law_draw (hr.mono (by decide)) hgd (by rfl) (a_cons (m_var 0) (a_cons (m_len (by rfl) T.len (od_s 1)) (a_nil)))))))) hh__law_pick
def N__law_mixed : List Str := ["bag", "items", "left", "found"]
theorem sc__law_mixed : FnScope N__law_mixed ["bag", "items"] (defScope s__law_mixed) := ⟨rfl, rfl, rfl, by decide +kernel, rfl, by decide +kernel, by decide +kernel⟩
theorem hh__law_mixed : ∀ (Z : XP) (ms : List MV) (Q : MV → Prop), sp__law_mixed.run Z ms Q → W__law_mixed.run Z (entry N__law_mixed.length ms) { nx := fun _ => Q (.d .none), rt := Q } := by
  intro Z ms Q h
  rw [show N__law_mixed.length = 4 from rfl]
  exact h_mixed Z ms Q h
theorem ok__law_mixed {f : Addr} {fd : FuncData} (F : Fun K "_law_mixed" "_law_mixed" s__law_mixed f fd) (T : Bl K mg) (c__law_draw : Cal P w K mg base 1 "_law_draw" ["bag", "many"] [] sp__law_draw) : FnG P w K mg base CX0 2 f fd ["bag", "items"] (spM K mg sp__law_mixed) :=
  Mx.Fun.okM F (N := N__law_mixed) (k := 1) (W := W__law_mixed) sc__law_mixed (by decide) len__law_mixed (fun cdv A outer s H E hr hgd0 => by
   have hgd : (A.deeper (envOfC "_law_mixed" (defScope s__law_mixed) s.heap.objs.size f cdv)).guards = some [] := hgd0
   have hu := hr.units
   exact b_cons (s_par (i := 2) (j := 3) rfl sc__law_mixed.nd rfl rfl (by decide) rfl rfl (m_list (by rfl) T.list (od_s 1)) (m_lst (a_nil)) (by rfl))  (b_cons (s_while PassesOwn.never (t_ne hu (od_s 2) (od_e (m_lst (a_nil))))  (b_one (s_expr (m_append 3 (m_popAt 2 (c_call c__law_draw (hr.mono (by decide)) hgd (by rfl) (a_cons (m_var 0) (a_cons (m_len (by rfl) T.len (od_s 2)) (a_nil)))))))))  (b_one (s_retS 3)))) hh__law_mixed
def N__law_list : List Str := ["bag", "n"]
theorem sc__law_list : FnScope N__law_list ["bag", "n"] (defScope s__law_list) := ⟨rfl, rfl, rfl, by decide +kernel, rfl, by decide +kernel, by decide +kernel⟩
theorem hh__law_list : ∀ (Z : XP) (ms : List MV) (Q : MV → Prop), sp__law_list.run Z ms Q → W__law_list.run Z (entry N__law_list.length ms) { nx := fun _ => Q (.d .none), rt := Q } := by
  intro Z ms Q h
  rw [show N__law_list.length = 2 from rfl]
  exact h_list Z ms Q h
theorem ok__law_list {f : Addr} {fd : FuncData} (F : Fun K "_law_list" "_law_list" s__law_list f fd) (T : Bl K mg) (c__law_mixed : Cal P w K mg base 2 "_law_mixed" ["bag", "items"] [] sp__law_mixed) : FnG P w K mg base CX0 3 f fd ["bag", "n"] (spM K mg sp__law_list) :=
  Mx.Fun.okM F (N := N__law_list) (k := 2) (W := W__law_list) sc__law_list (by decide) len__law_list (fun cdv A outer s H E hr hgd0 => by
   have hgd : (A.deeper (envOfC "_law_list" (defScope s__law_list) s.heap.objs.size f cdv)).guards = some [] := hgd0
   have hu := hr.units
   exact b_one (s_ret (m_tuple (by rfl) T.tuple (od_e (c_call c__law_mixed (hr.mono (by decide)) hgd (by rfl) (a_cons (m_var 0) (a_cons (m_listR1 rfl (by rfl) T.list (by rfl) T.range (m_var 1)) (a_nil)))))))) hh__law_list
def N__law_step : List Str := ["rule", "own", "letter", "at", "left"]
theorem sc__law_step : FnScope N__law_step ["rule", "own", "letter"] (defScope s__law_step) := ⟨rfl, rfl, rfl, by decide +kernel, rfl, by decide +kernel, by decide +kernel⟩
theorem hh__law_step : ∀ (Z : XP) (ms : List MV) (Q : MV → Prop), sp__law_step.run Z ms Q → W__law_step.run Z (entry N__law_step.length ms) { nx := fun _ => Q (.d .none), rt := Q } := by
  intro Z ms Q h
  rw [show N__law_step.length = 5 from rfl]
  exact h_step Z ms Q h
theorem ok__law_step {f : Addr} {fd : FuncData} (F : Fun K "_law_step" "_law_step" s__law_step f fd) (T : Bl K mg) : FnG P w K mg base CX0 1 f fd ["rule", "own", "letter"] (spM K mg sp__law_step) :=
  Mx.Fun.okM F (N := N__law_step) (k := 0) (W := W__law_step) sc__law_step (by decide) len__law_step (fun cdv A outer s H E hr hgd0 => by
   have hgd : (A.deeper (envOfC "_law_step" (defScope s__law_step) s.heap.objs.size f cdv)).guards = some [] := hgd0
   have hu := hr.units
   exact b_cons (s_set (i := 3) sc__law_step.nd rfl (Or.inl rfl) (m_indexT (od_s 1) (od_s 2)))  (b_cons (s_set (i := 4) sc__law_step.nd rfl (Or.inl rfl) (q_add (od_e (m_slice (od_s 1) (b_none) (b_some (m_var 3)))) (od_e (m_slice (od_s 1) (b_some (q_add (od_s 3) (od_e (m_int)))) (b_none)))))  (b_one (s_ret (q_add (od_e (q_add (od_e (m_slice (od_s 4) (b_none) (b_some (m_item (od_s 0) (od_s 3))))) (od_e (m_tup (a_cons (m_var 2) (a_nil)))))) (od_e (m_slice (od_s 4) (b_some (m_item (od_s 0) (od_s 3))) (b_none)))))))) hh__law_step
def N__law_went : List Str := ["rule", "own", "text", "price", "letter"]
theorem sc__law_went : FnScope N__law_went ["rule", "own", "text"] (defScope s__law_went) := ⟨rfl, rfl, rfl, by decide +kernel, rfl, by decide +kernel, by decide +kernel⟩
theorem hh__law_went : ∀ (Z : XP) (ms : List MV) (Q : MV → Prop), sp__law_went.run Z ms Q → W__law_went.run Z (entry N__law_went.length ms) { nx := fun _ => Q (.d .none), rt := Q } := by
  intro Z ms Q h
  rw [show N__law_went.length = 5 from rfl]
  exact h_went Z ms Q h
theorem ok__law_went {f : Addr} {fd : FuncData} (F : Fun K "_law_went" "_law_went" s__law_went f fd) (T : Bl K mg) (c__law_step : Cal P w K mg base 1 "_law_step" ["rule", "own", "letter"] [] sp__law_step) : FnG P w K mg base CX0 2 f fd ["rule", "own", "text"] (spM K mg sp__law_went) :=
  Mx.Fun.okM F (N := N__law_went) (k := 1) (W := W__law_went) sc__law_went (by decide) len__law_went (fun cdv A outer s H E hr hgd0 => by
   have hgd : (A.deeper (envOfC "_law_went" (defScope s__law_went) s.heap.objs.size f cdv)).guards = some [] := hgd0
   have hu := hr.units
   exact b_cons (s_set (i := 3) sc__law_went.nd rfl (Or.inl rfl) (m_int))  (b_cons (s_for PassesOwn.never rfl (i_tup (m_var 2)) (g_name (i := 4) sc__law_went.nd rfl (Or.inl rfl))  (b_cons (s_set (i := 3) sc__law_went.nd rfl (Or.inl rfl) (q_add (od_s 3) (od_e (m_indexT (od_s 1) (od_s 4)))))  (b_one (s_set (i := 1) sc__law_went.nd rfl (Or.inl rfl) (c_call c__law_step (hr.mono (by decide)) hgd (by rfl) (a_cons (m_var 0) (a_cons (m_var 1) (a_cons (m_var 4) (a_nil)))))))))  (b_one (s_ret (m_tup (a_cons (m_var 1) (a_cons (m_var 3) (a_nil)))))))) hh__law_went
def N__law_apart : List Str := ["one", "other", "many", "place", "letter", "own"]
theorem sc__law_apart : FnScope N__law_apart ["one", "other"] (defScope s__law_apart) := ⟨rfl, rfl, rfl, by decide +kernel, rfl, by decide +kernel, by decide +kernel⟩
theorem hh__law_apart : ∀ (Z : XP) (ms : List MV) (Q : MV → Prop), sp__law_apart.run Z ms Q → W__law_apart.run Z (entry N__law_apart.length ms) { nx := fun _ => Q (.d .none), rt := Q } := by
  intro Z ms Q h
  rw [show N__law_apart.length = 6 from rfl]
  exact h_apart Z ms Q h
theorem ok__law_apart {f : Addr} {fd : FuncData} (F : Fun K "_law_apart" "_law_apart" s__law_apart f fd) (T : Bl K mg) : FnG P w K mg base CX0 1 f fd ["one", "other"] (spM K mg sp__law_apart) :=
  Mx.Fun.okM F (N := N__law_apart) (k := 0) (W := W__law_apart) sc__law_apart (by decide) len__law_apart (fun cdv A outer s H E hr hgd0 => by
   have hgd : (A.deeper (envOfC "_law_apart" (defScope s__law_apart) s.heap.objs.size f cdv)).guards = some [] := hgd0
   have hu := hr.units
   exact b_cons (s_set (i := 2) sc__law_apart.nd rfl (Or.inl rfl) (m_int))  (b_cons (s_for PassesOwn.never rfl (i_enum (by rfl) T.enumerate (a_cons (m_var 0) (a_nil))) (g_tup rfl (gs_cons (g_name (i := 3) sc__law_apart.nd rfl (Or.inl rfl)) (gs_cons (g_name (i := 4) sc__law_apart.nd rfl (Or.inr rfl)) (gs_nil))))  (b_one (s_set (i := 2) sc__law_apart.nd rfl (Or.inl rfl) (q_add (od_s 2) (od_e (m_len (by rfl) T.len (od_e (m_lc1 (own := [("own", 5)]) rfl sc__law_apart.nd (i_tup (m_slice (od_s 0) (b_none) (b_some (m_var 3)))) (blkOk_by (own := [("own", 5)]) (N := N__law_apart) (sc := defScope s__law_apart) (by decide +kernel)) (fun _ _ _ _ _ => g_name (i := 5) sc__law_apart.nd rfl (Or.inl rfl)) (fun _ _ _ _ _ => t_gt (od_e (m_indexT (od_s 1) (od_s 5))) (od_e (m_indexT (od_s 1) (od_s 4)))) (fun _ _ _ _ _ => m_var 5)))))))))  (b_one (s_retS 2)))) hh__law_apart
def N__law_is_list : List Str := ["n", "value"]
theorem sc__law_is_list : FnScope N__law_is_list ["n", "value"] (defScope s__law_is_list) := ⟨rfl, rfl, rfl, by decide +kernel, rfl, by decide +kernel, by decide +kernel⟩
theorem hh__law_is_list : ∀ (Z : XP) (ms : List MV) (Q : MV → Prop), sp__law_is_list.run Z ms Q → W__law_is_list.run Z (entry N__law_is_list.length ms) { nx := fun _ => Q (.d .none), rt := Q } := by
  intro Z ms Q h
  rw [show N__law_is_list.length = 2 from rfl]
  exact h_is_list Z ms Q h
theorem ok__law_is_list {f : Addr} {fd : FuncData} (F : Fun K "_law_is_list" "_law_is_list" s__law_is_list f fd) (T : Bl K mg) (c__law_are_letters : Cal P w K mg base 1 "_law_are_letters" ["n", "value"] [] sp__law_are_letters) : FnG P w K mg base CX0 2 f fd ["n", "value"] (spM K mg sp__law_is_list) :=
  Mx.Fun.okM F (N := N__law_is_list) (k := 1) (W := W__law_is_list) sc__law_is_list (by decide) len__law_is_list (fun cdv A outer s H E hr hgd0 => by
   have hgd : (A.deeper (envOfC "_law_is_list" (defScope s__law_is_list) s.heap.objs.size f cdv)).guards = some [] := hgd0
   have hu := hr.units
   exact b_cons (s_if (TW.tv (t_or (t_not (t_b (m_isi (T := "tuple") (by decide +kernel) (by rfl) T.isinstance (by rfl) T.tuple (by decide +kernel) (od_s 1)))) (t_or (t_ne hu (od_e (m_len (by rfl) T.len (od_s 1))) (od_s 0)) (t_or1 (t_not (t_b (c_call c__law_are_letters (hr.mono (by decide)) hgd (by rfl) (a_cons (m_var 0) (a_cons (m_var 1) (a_nil))))))))))  (b_one (s_ret (m_bl)))  (b_nil))  (b_one (s_ret (m_eq hu (od_e (m_sortI (by rfl) T.sorted (od_s 1))) (od_e (m_listR1 rfl (by rfl) T.list (by rfl) T.range (m_var 0))))))) hh__law_is_list
def N__law_are_letters : List Str := ["n", "value", "item"]
theorem sc__law_are_letters : FnScope N__law_are_letters ["n", "value"] (defScope s__law_are_letters) := ⟨rfl, rfl, rfl, by decide +kernel, rfl, by decide +kernel, by decide +kernel⟩
theorem hh__law_are_letters : ∀ (Z : XP) (ms : List MV) (Q : MV → Prop), sp__law_are_letters.run Z ms Q → W__law_are_letters.run Z (entry N__law_are_letters.length ms) { nx := fun _ => Q (.d .none), rt := Q } := by
  intro Z ms Q h
  rw [show N__law_are_letters.length = 3 from rfl]
  exact h_are_letters Z ms Q h
theorem ok__law_are_letters {f : Addr} {fd : FuncData} (F : Fun K "_law_are_letters" "_law_are_letters" s__law_are_letters f fd) (T : Bl K mg) : FnG P w K mg base CX0 1 f fd ["n", "value"] (spM K mg sp__law_are_letters) :=
  Mx.Fun.okM F (N := N__law_are_letters) (k := 0) (W := W__law_are_letters) sc__law_are_letters (by decide) len__law_are_letters (fun cdv A outer s H E hr hgd0 => by
   have hgd : (A.deeper (envOfC "_law_are_letters" (defScope s__law_are_letters) s.heap.objs.size f cdv)).guards = some [] := hgd0
   have hu := hr.units
   exact b_cons (s_for PassesOwn.never rfl (i_tup (m_var 1)) (g_name (i := 2) sc__law_are_letters.nd rfl (Or.inl rfl))  (b_one (s_if (TW.tv (t_or (t_not (t_b (m_isi (T := "int") (by decide +kernel) (by rfl) T.isinstance (by rfl) T.int (by decide +kernel) (od_s 2)))) (t_or (t_b (m_isi (T := "bool") (by decide +kernel) (by rfl) T.isinstance (by rfl) T.bool (by decide +kernel) (od_s 2))) (t_or1 (t_not (t_chain (f := fun i j => decide (i ≤ j)) (g := fun i j => decide (i < j)) op_le op_lt (od_e (m_int)) (od_s 2) (od_s 0)))))))  (b_one (s_ret (m_bl)))  (b_nil))))  (b_one (s_ret (m_bl)))) hh__law_are_letters
def N__law_is_text : List Str := ["n", "value"]
theorem sc__law_is_text : FnScope N__law_is_text ["n", "value"] (defScope s__law_is_text) := ⟨rfl, rfl, rfl, by decide +kernel, rfl, by decide +kernel, by decide +kernel⟩
theorem hh__law_is_text : ∀ (Z : XP) (ms : List MV) (Q : MV → Prop), sp__law_is_text.run Z ms Q → W__law_is_text.run Z (entry N__law_is_text.length ms) { nx := fun _ => Q (.d .none), rt := Q } := by
  intro Z ms Q h
  rw [show N__law_is_text.length = 2 from rfl]
  exact h_is_text Z ms Q h
theorem ok__law_is_text {f : Addr} {fd : FuncData} (F : Fun K "_law_is_text" "_law_is_text" s__law_is_text f fd) (T : Bl K mg) (c__law_are_letters : Cal P w K mg base 1 "_law_are_letters" ["n", "value"] [] sp__law_are_letters) : FnG P w K mg base CX0 2 f fd ["n", "value"] (spM K mg sp__law_is_text) :=
  Mx.Fun.okM F (N := N__law_is_text) (k := 1) (W := W__law_is_text) sc__law_is_text (by decide) len__law_is_text (fun cdv A outer s H E hr hgd0 => by
   have hgd : (A.deeper (envOfC "_law_is_text" (defScope s__law_is_text) s.heap.objs.size f cdv)).guards = some [] := hgd0
   have hu := hr.units
   exact b_one (s_ret (m_and (m_isi (T := "tuple") (by decide +kernel) (by rfl) T.isinstance (by rfl) T.tuple (by decide +kernel) (od_s 1)) (m_and (m_le (od_e (m_len (by rfl) T.len (od_s 1))) (od_e (m_int))) (m_one (c_call c__law_are_letters (hr.mono (by decide)) hgd (by rfl) (a_cons (m_var 0) (a_cons (m_var 1) (a_nil))))))))) hh__law_is_text
def N__law_begins : List Str := ["rule", "found", "place", "to"]
theorem sc__law_begins : FnScope N__law_begins ["rule"] (defScope s__law_begins) := ⟨rfl, rfl, rfl, by decide +kernel, rfl, by decide +kernel, by decide +kernel⟩
theorem hh__law_begins : ∀ (Z : XP) (ms : List MV) (Q : MV → Prop), sp__law_begins.run Z ms Q → W__law_begins.run Z (entry N__law_begins.length ms) { nx := fun _ => Q (.d .none), rt := Q } := by
  intro Z ms Q h
  rw [show N__law_begins.length = 4 from rfl]
  exact h_begins Z ms Q h
theorem ok__law_begins {f : Addr} {fd : FuncData} (F : Fun K "_law_begins" "_law_begins" s__law_begins f fd) (T : Bl K mg) : FnG P w K mg base CX0 1 f fd ["rule"] (spM K mg sp__law_begins) :=
  Mx.Fun.okM F (N := N__law_begins) (k := 0) (W := W__law_begins) sc__law_begins (by decide) len__law_begins (fun cdv A outer s H E hr hgd0 => by
   have hgd : (A.deeper (envOfC "_law_begins" (defScope s__law_begins) s.heap.objs.size f cdv)).guards = some [] := hgd0
   have hu := hr.units
   exact b_cons (s_set (i := 1) sc__law_begins.nd rfl (Or.inl rfl) (m_lst (a_nil)))  (b_cons (s_for PassesOwn.never rfl (i_range1 (by rfl) T.range (a_cons (m_len (by rfl) T.len (od_s 0)) (a_nil))) (g_name (i := 2) sc__law_begins.nd rfl (Or.inr rfl))  (b_one (s_if (t_eq hu (od_e (m_lc1 (own := [("to", 3)]) rfl sc__law_begins.nd (i_tup (m_slice (od_s 0) (b_some (m_var 2)) (b_none))) (blkOk_by (own := [("to", 3)]) (N := N__law_begins) (sc := defScope s__law_begins) (by decide +kernel)) (fun _ _ _ _ _ => g_name (i := 3) sc__law_begins.nd rfl (Or.inl rfl)) (fun _ _ _ _ _ => t_lt (od_s 3) (od_s 2)) (fun _ _ _ _ _ => m_int))) (od_e (m_lst (a_nil))))  (b_one (s_expr (m_append 1 (m_var 2))))  (b_nil))))  (b_one (s_ret (q_add (od_s 1) (od_e (m_lst (a_cons (m_len (by rfl) T.len (od_s 0)) (a_nil))))))))) hh__law_begins
def N__law_fronts : List Str := ["rule", "begins", "begin", "end", "to"]
theorem sc__law_fronts : FnScope N__law_fronts ["rule"] (defScope s__law_fronts) := ⟨rfl, rfl, rfl, by decide +kernel, rfl, by decide +kernel, by decide +kernel⟩
theorem hh__law_fronts : ∀ (Z : XP) (ms : List MV) (Q : MV → Prop), sp__law_fronts.run Z ms Q → W__law_fronts.run Z (entry N__law_fronts.length ms) { nx := fun _ => Q (.d .none), rt := Q } := by
  intro Z ms Q h
  rw [show N__law_fronts.length = 5 from rfl]
  exact h_fronts Z ms Q h
theorem ok__law_fronts {f : Addr} {fd : FuncData} (F : Fun K "_law_fronts" "_law_fronts" s__law_fronts f fd) (T : Bl K mg) (c__law_begins : Cal P w K mg base 1 "_law_begins" ["rule"] [] sp__law_begins) : FnG P w K mg base CX0 2 f fd ["rule"] (spM K mg sp__law_fronts) :=
  Mx.Fun.okM F (N := N__law_fronts) (k := 1) (W := W__law_fronts) sc__law_fronts (by decide) len__law_fronts (fun cdv A outer s H E hr hgd0 => by
   have hgd : (A.deeper (envOfC "_law_fronts" (defScope s__law_fronts) s.heap.objs.size f cdv)).guards = some [] := hgd0
   have hu := hr.units
   exact b_cons (s_set (i := 1) sc__law_fronts.nd rfl (Or.inl rfl) (c_call c__law_begins (hr.mono (by decide)) hgd (by rfl) (a_cons (m_var 0) (a_nil))))  (b_cons (s_for PassesOwn.never rfl (i_zip (by rfl) T.zip (a_cons (m_var 1) (a_cons (m_slice (od_s 1) (b_some (m_int)) (b_none)) (a_nil)))) (g_tup rfl (gs_cons (g_name (i := 2) sc__law_fronts.nd rfl (Or.inr rfl)) (gs_cons (g_name (i := 3) sc__law_fronts.nd rfl (Or.inl rfl)) (gs_nil))))  (b_one (s_if (t_ne hu (od_e (m_lc1 (own := [("to", 4)]) rfl sc__law_fronts.nd (i_tup (m_slice (od_s 0) (b_some (m_var 2)) (b_some (m_var 3)))) (blkOk_by (own := [("to", 4)]) (N := N__law_fronts) (sc := defScope s__law_fronts) (by decide +kernel)) (fun _ _ _ _ _ => g_name (i := 4) sc__law_fronts.nd rfl (Or.inl rfl)) (fun _ _ _ _ _ => t_ne hu (od_s 4) (od_s 2)) (fun _ _ _ _ _ => m_int))) (od_e (m_lst (a_nil))))  (b_one (s_ret (m_bl)))  (b_nil))))  (b_one (s_ret (m_bl))))) hh__law_fronts
def N__law_rule : List Str := ["bag", "n", "way", "found", "place", "to"]
theorem sc__law_rule : FnScope N__law_rule ["bag", "n"] (defScope s__law_rule) := ⟨rfl, rfl, rfl, by decide +kernel, rfl, by decide +kernel, by decide +kernel⟩
theorem hh__law_rule : ∀ (Z : XP) (ms : List MV) (Q : MV → Prop), sp__law_rule.run Z ms Q → W__law_rule.run Z (entry N__law_rule.length ms) { nx := fun _ => Q (.d .none), rt := Q } := by
  intro Z ms Q h
  rw [show N__law_rule.length = 6 from rfl]
  exact h_rule Z ms Q h
theorem ok__law_rule {f : Addr} {fd : FuncData} (F : Fun K "_law_rule" "_law_rule" s__law_rule f fd) (T : Bl K mg) (c__law_draw : Cal P w K mg base 1 "_law_draw" ["bag", "many"] [] sp__law_draw) : FnG P w K mg base CX0 2 f fd ["bag", "n"] (spM K mg sp__law_rule) :=
  Mx.Fun.okM F (N := N__law_rule) (k := 1) (W := W__law_rule) sc__law_rule (by decide) len__law_rule (fun cdv A outer s H E hr hgd0 => by
   have hgd : (A.deeper (envOfC "_law_rule" (defScope s__law_rule) s.heap.objs.size f cdv)).guards = some [] := hgd0
   have hu := hr.units
   exact b_cons (s_par (i := 2) (j := 3) rfl sc__law_rule.nd rfl rfl (by decide) rfl rfl (c_call c__law_draw (hr.mono (by decide)) hgd (by rfl) (a_cons (m_var 0) (a_cons (m_int) (a_nil)))) (m_lst (a_cons (m_int) (a_nil))) (by rfl))  (b_cons (s_for PassesOwn.never rfl (i_range2 (by rfl) T.range (a_cons (m_int) (a_cons (m_var 1) (a_nil)))) (g_name (i := 4) sc__law_rule.nd rfl (Or.inl rfl))  (b_cons (s_set (i := 5) sc__law_rule.nd rfl (Or.inl rfl) (c_call c__law_draw (hr.mono (by decide)) hgd (by rfl) (a_cons (m_var 0) (a_cons (q_add (od_s 4) (od_e (m_int))) (a_nil)))))  (b_cons (s_if (t_eq hu (od_s 2) (od_e (m_int)))  (b_one (s_set (i := 5) sc__law_rule.nd rfl (Or.inl rfl) (m_int)))  (b_nil))  (b_cons (s_if (t_eq hu (od_s 2) (od_e (m_int)))  (b_one (s_set (i := 5) sc__law_rule.nd rfl (Or.inl rfl) (m_if (t_eq hu (od_e (c_call c__law_draw (hr.mono (by decide)) hgd (by rfl) (a_cons (m_var 0) (a_cons (m_int) (a_nil))))) (od_e (m_int))) (m_var 4) (m_item (od_s 3) (od_e (m_neg (od_e (m_int))))))))  (b_nil))  (b_cons (s_if (t_eq hu (od_s 2) (od_e (m_int)))  (b_one (s_set (i := 5) sc__law_rule.nd rfl (Or.inl rfl) (m_max2 rfl (by rfl) T.max (od_e (m_int)) (od_e (m_sub (od_e (m_sub (od_s 4) (od_e (m_int)))) (od_e (c_call c__law_draw (hr.mono (by decide)) hgd (by rfl) (a_cons (m_var 0) (a_cons (m_int) (a_nil))))))))))  (b_nil))  (b_one (s_expr (m_append 3 (m_var 5)))))))))  (b_one (s_ret (m_tuple (by rfl) T.tuple (od_s 3)))))) hh__law_rule
def N__law_small : List Str := ["bag", "n", "place"]
theorem sc__law_small : FnScope N__law_small ["bag", "n"] (defScope s__law_small) := ⟨rfl, rfl, rfl, by decide +kernel, rfl, by decide +kernel, by decide +kernel⟩
theorem hh__law_small : ∀ (Z : XP) (ms : List MV) (Q : MV → Prop), sp__law_small.run Z ms Q → W__law_small.run Z (entry N__law_small.length ms) { nx := fun _ => Q (.d .none), rt := Q } := by
  intro Z ms Q h
  rw [show N__law_small.length = 3 from rfl]
  exact h_small Z ms Q h
theorem ok__law_small {f : Addr} {fd : FuncData} (F : Fun K "_law_small" "_law_small" s__law_small f fd) (T : Bl K mg) (c__law_draw : Cal P w K mg base 1 "_law_draw" ["bag", "many"] [] sp__law_draw) : FnG P w K mg base CX0 2 f fd ["bag", "n"] (spM K mg sp__law_small) :=
  Mx.Fun.okM F (N := N__law_small) (k := 1) (W := W__law_small) sc__law_small (by decide) len__law_small (fun cdv A outer s H E hr hgd0 => by
   have hgd : (A.deeper (envOfC "_law_small" (defScope s__law_small) s.heap.objs.size f cdv)).guards = some [] := hgd0
   have hu := hr.units
   exact b_one (s_ret (m_tuple (by rfl) T.tuple (od_e (m_lc0 (own := [("place", 2)]) rfl sc__law_small.nd (i_range1 (by rfl) T.range (a_cons (m_var 1) (a_nil))) (blkOk_by (own := [("place", 2)]) (N := N__law_small) (sc := defScope s__law_small) (by decide +kernel)) (fun _ _ _ _ _ => g_name (i := 2) sc__law_small.nd rfl (Or.inl rfl)) (fun _ _ _ _ _ => c_call c__law_draw (hr.mono (by decide)) hgd (by rfl) (a_cons (m_var 0) (a_cons (q_add (od_s 2) (od_e (m_int))) (a_nil))))))))) hh__law_small
def N__law_within : List Str := ["bag", "rule", "own", "begins", "found", "begin", "end"]
theorem sc__law_within : FnScope N__law_within ["bag", "rule", "own"] (defScope s__law_within) := ⟨rfl, rfl, rfl, by decide +kernel, rfl, by decide +kernel, by decide +kernel⟩
theorem hh__law_within : ∀ (Z : XP) (ms : List MV) (Q : MV → Prop), sp__law_within.run Z ms Q → W__law_within.run Z (entry N__law_within.length ms) { nx := fun _ => Q (.d .none), rt := Q } := by
  intro Z ms Q h
  rw [show N__law_within.length = 7 from rfl]
  exact h_within Z ms Q h
theorem ok__law_within {f : Addr} {fd : FuncData} (F : Fun K "_law_within" "_law_within" s__law_within f fd) (T : Bl K mg) (c__law_begins : Cal P w K mg base 1 "_law_begins" ["rule"] [] sp__law_begins) (c__law_mixed : Cal P w K mg base 2 "_law_mixed" ["bag", "items"] [] sp__law_mixed) : FnG P w K mg base CX0 3 f fd ["bag", "rule", "own"] (spM K mg sp__law_within) :=
  Mx.Fun.okM F (N := N__law_within) (k := 2) (W := W__law_within) sc__law_within (by decide) len__law_within (fun cdv A outer s H E hr hgd0 => by
   have hgd : (A.deeper (envOfC "_law_within" (defScope s__law_within) s.heap.objs.size f cdv)).guards = some [] := hgd0
   have hu := hr.units
   exact b_cons (s_par (i := 3) (j := 4) rfl sc__law_within.nd rfl rfl (by decide) rfl rfl (c_call c__law_begins (hr.mono (by decide)) hgd (by rfl) (a_cons (m_var 1) (a_nil))) (m_lst (a_nil)) (by rfl))  (b_cons (s_for PassesOwn.never rfl (i_zip (by rfl) T.zip (a_cons (m_var 3) (a_cons (m_slice (od_s 3) (b_some (m_int)) (b_none)) (a_nil)))) (g_tup rfl (gs_cons (g_name (i := 5) sc__law_within.nd rfl (Or.inl rfl)) (gs_cons (g_name (i := 6) sc__law_within.nd rfl (Or.inl rfl)) (gs_nil))))  (b_one (s_set (i := 4) sc__law_within.nd rfl (Or.inl rfl) (q_add (od_s 4) (od_e (c_call c__law_mixed (hr.mono (by decide)) hgd (by rfl) (a_cons (m_var 0) (a_cons (m_slice (od_s 2) (b_some (m_var 5)) (b_some (m_var 6))) (a_nil)))))))))  (b_one (s_ret (m_tuple (by rfl) T.tuple (od_s 4)))))) hh__law_within
def N__law_gain_fault : List Str := ["rule", "value", "n", "own", "lead", "text", "other", "end", "price", "other_end", "other_price"]
theorem sc__law_gain_fault : FnScope N__law_gain_fault ["rule", "value"] (defScope s__law_gain_fault) := ⟨rfl, rfl, rfl, by decide +kernel, rfl, by decide +kernel, by decide +kernel⟩
theorem hh__law_gain_fault : ∀ (Z : XP) (ms : List MV) (Q : MV → Prop), sp__law_gain_fault.run Z ms Q → W__law_gain_fault.run Z (entry N__law_gain_fault.length ms) { nx := fun _ => Q (.d .none), rt := Q } := by
  intro Z ms Q h
  rw [show N__law_gain_fault.length = 11 from rfl]
  exact h_gain_fault Z ms Q h
theorem ok__law_gain_fault {f : Addr} {fd : FuncData} (F : Fun K "_law_gain_fault" "_law_gain_fault" s__law_gain_fault f fd) (T : Bl K mg) (c__law_is_list : Cal P w K mg base 2 "_law_is_list" ["n", "value"] [] sp__law_is_list) (c__law_is_text : Cal P w K mg base 2 "_law_is_text" ["n", "value"] [] sp__law_is_text) (c__law_went : Cal P w K mg base 2 "_law_went" ["rule", "own", "text"] [] sp__law_went) : FnG P w K mg base CX0 3 f fd ["rule", "value"] (spM K mg sp__law_gain_fault) :=
  Mx.Fun.okM F (N := N__law_gain_fault) (k := 2) (W := W__law_gain_fault) sc__law_gain_fault (by decide) len__law_gain_fault (fun cdv A outer s H E hr hgd0 => by
   have hgd : (A.deeper (envOfC "_law_gain_fault" (defScope s__law_gain_fault) s.heap.objs.size f cdv)).guards = some [] := hgd0
   have hu := hr.units
   exact b_cons (s_asg (m_tup (a_cons (m_len (by rfl) T.len (od_s 0)) (a_cons (m_var 1) (a_nil)))) (g_tup rfl (gs_cons (g_name (i := 2) sc__law_gain_fault.nd rfl (Or.inl rfl)) (gs_cons (g_tup rfl (gs_cons (g_name (i := 3) sc__law_gain_fault.nd rfl (Or.inl rfl)) (gs_cons (g_name (i := 4) sc__law_gain_fault.nd rfl (Or.inl rfl)) (gs_cons (g_name (i := 5) sc__law_gain_fault.nd rfl (Or.inl rfl)) (gs_nil))))) (gs_nil)))))  (b_cons (s_if (t_not (t_b (c_call c__law_is_list (hr.mono (by decide)) hgd (by rfl) (a_cons (m_var 2) (a_cons (m_var 3) (a_nil))))))  (b_one (s_ret (m_str)))  (b_nil))  (b_cons (s_if (t_not (t_b (c_call c__law_is_text (hr.mono (by decide)) hgd (by rfl) (a_cons (m_var 2) (a_cons (m_var 4) (a_nil))))))  (b_one (s_ret (m_str)))  (b_nil))  (b_cons (s_if (TW.tv (t_or (t_not (t_b (c_call c__law_is_text (hr.mono (by decide)) hgd (by rfl) (a_cons (m_var 2) (a_cons (m_var 5) (a_nil)))))) (t_or1 (t_not (t_chain (f := fun i j => decide (i ≤ j)) (g := fun i j => decide (i ≤ j)) op_le op_le (od_e (m_int)) (od_e (m_len (by rfl) T.len (od_s 5))) (od_s 2))))))  (b_one (s_ret (m_str)))  (b_nil))  (b_cons (s_set (i := 6) sc__law_gain_fault.nd rfl (Or.inl rfl) (m_item (od_e (c_call c__law_went (hr.mono (by decide)) hgd (by rfl) (a_cons (m_var 0) (a_cons (m_var 3) (a_cons (m_var 4) (a_nil)))))) (od_e (m_int))))  (b_cons (s_asg (c_call c__law_went (hr.mono (by decide)) hgd (by rfl) (a_cons (m_var 0) (a_cons (m_var 3) (a_cons (m_var 5) (a_nil))))) (g_tup rfl (gs_cons (g_name (i := 7) sc__law_gain_fault.nd rfl (Or.inl rfl)) (gs_cons (g_name (i := 8) sc__law_gain_fault.nd rfl (Or.inl rfl)) (gs_nil)))))  (b_cons (s_asg (c_call c__law_went (hr.mono (by decide)) hgd (by rfl) (a_cons (m_var 0) (a_cons (m_var 6) (a_cons (m_var 5) (a_nil))))) (g_tup rfl (gs_cons (g_name (i := 9) sc__law_gain_fault.nd rfl (Or.inl rfl)) (gs_cons (g_name (i := 10) sc__law_gain_fault.nd rfl (Or.inl rfl)) (gs_nil)))))  (b_cons (s_if (TW.tv (t_or (t_ne hu (od_s 7) (od_s 3)) (t_or1 (t_ne hu (od_s 9) (od_s 6)))))  (b_one (s_ret (m_str)))  (b_nil))  (b_one (s_ret (m_if (t_gt (od_s 8) (od_s 10)) (m_non) (m_str)))))))))))) hh__law_gain_fault
def N__law_gap_fault : List Str := ["rule", "one", "other", "value", "n", "size", "word", "number", "due", "fault"]
theorem sc__law_gap_fault : FnScope N__law_gap_fault ["rule", "one", "other", "value"] (defScope s__law_gap_fault) := ⟨rfl, rfl, rfl, by decide +kernel, rfl, by decide +kernel, by decide +kernel⟩
theorem hh__law_gap_fault : ∀ (Z : XP) (ms : List MV) (Q : MV → Prop), sp__law_gap_fault.run Z ms Q → W__law_gap_fault.run Z (entry N__law_gap_fault.length ms) { nx := fun _ => Q (.d .none), rt := Q } := by
  intro Z ms Q h
  rw [show N__law_gap_fault.length = 10 from rfl]
  exact h_gap_fault Z ms Q h
theorem ok__law_gap_fault {f : Addr} {fd : FuncData} (F : Fun K "_law_gap_fault" "_law_gap_fault" s__law_gap_fault f fd) (T : Bl K mg) (c__law_fronts : Cal P w K mg base 2 "_law_fronts" ["rule"] [] sp__law_fronts) (c__law_gain_fault : Cal P w K mg base 3 "_law_gain_fault" ["rule", "value"] [] sp__law_gain_fault) (c__law_apart : Cal P w K mg base 1 "_law_apart" ["one", "other"] [] sp__law_apart) (c__law_is_text : Cal P w K mg base 2 "_law_is_text" ["n", "value"] [] sp__law_is_text) (c__law_went : Cal P w K mg base 2 "_law_went" ["rule", "own", "text"] [] sp__law_went) : FnG P w K mg base CX0 4 f fd ["rule", "one", "other", "value"] (spM K mg sp__law_gap_fault) :=
  Mx.Fun.okM F (N := N__law_gap_fault) (k := 3) (W := W__law_gap_fault) sc__law_gap_fault (by decide) len__law_gap_fault (fun cdv A outer s H E hr hgd0 => by
   have hgd : (A.deeper (envOfC "_law_gap_fault" (defScope s__law_gap_fault) s.heap.objs.size f cdv)).guards = some [] := hgd0
   have hu := hr.units
   exact b_cons (s_par3 (i := 4) (j := 5) (l := 6) rfl sc__law_gap_fault.nd rfl rfl rfl (by decide) (by decide) (by decide) rfl rfl rfl (m_len (by rfl) T.len (od_s 0)) (m_if (t_b (c_call c__law_fronts (hr.mono (by decide)) hgd (by rfl) (a_cons (m_var 0) (a_nil)))) (m_int) (m_int)) (m_if (t_b (c_call c__law_fronts (hr.mono (by decide)) hgd (by rfl) (a_cons (m_var 0) (a_nil)))) (m_str) (m_str)) (by rfl))  (b_cons (s_if (TW.tv (t_or (t_not (t_b (m_isi (T := "tuple") (by decide +kernel) (by rfl) T.isinstance (by rfl) T.tuple (by decide +kernel) (od_s 3)))) (t_or (t_ne hu (od_e (m_len (by rfl) T.len (od_s 3))) (od_s 5)) (t_or (t_not (t_b (m_isi (T := "str") (by decide +kernel) (by rfl) T.isinstance (by rfl) T.str (by decide +kernel) (od_e (m_item (od_s 3) (od_e (m_int))))))) (t_or1 (t_ne hu (od_e (m_item (od_s 3) (od_e (m_int)))) (od_s 6)))))))  (b_one (s_ret (m_str)))  (b_nil))  (b_cons (s_if (t_eq hu (od_s 6) (od_e (m_str)))  (b_cons (s_set (i := 9) sc__law_gap_fault.nd rfl (Or.inl rfl) (c_call c__law_gain_fault (hr.mono (by decide)) hgd (by rfl) (a_cons (m_var 0) (a_cons (m_slice (od_s 3) (b_some (m_int)) (b_none)) (a_nil)))))  (b_one (s_ret (m_if (t_isN (od_s 9) (od_e (m_non))) (m_non) (m_tup (a_cons (m_str) (a_cons (m_var 9) (a_nil))))))))  (b_nil))  (b_cons (s_par (i := 7) (j := 8) rfl sc__law_gap_fault.nd rfl rfl (by decide) rfl rfl (m_item (od_s 3) (od_e (m_int))) (c_call c__law_apart (hr.mono (by decide)) hgd (by rfl) (a_cons (m_var 1) (a_cons (m_var 2) (a_nil)))) (by rfl))  (b_cons (s_if (TW.tv (t_or (t_not (t_b (m_isi (T := "int") (by decide +kernel) (by rfl) T.isinstance (by rfl) T.int (by decide +kernel) (od_s 7)))) (t_or (t_b (m_isi (T := "bool") (by decide +kernel) (by rfl) T.isinstance (by rfl) T.bool (by decide +kernel) (od_s 7))) (t_or1 (t_ne hu (od_s 7) (od_s 8))))))  (b_one (s_ret (m_str)))  (b_nil))  (b_cons (s_if (t_not (t_b (c_call c__law_is_text (hr.mono (by decide)) hgd (by rfl) (a_cons (m_var 4) (a_cons (m_item (od_s 3) (od_e (m_int))) (a_nil))))))  (b_one (s_ret (m_str)))  (b_nil))  (b_one (s_ret (m_if (t_eq hu (od_e (m_sub (od_e (m_item (od_e (c_call c__law_went (hr.mono (by decide)) hgd (by rfl) (a_cons (m_var 0) (a_cons (m_var 1) (a_cons (m_item (od_s 3) (od_e (m_int))) (a_nil)))))) (od_e (m_int)))) (od_e (m_item (od_e (c_call c__law_went (hr.mono (by decide)) hgd (by rfl) (a_cons (m_var 0) (a_cons (m_var 2) (a_cons (m_item (od_s 3) (od_e (m_int))) (a_nil)))))) (od_e (m_int)))))) (od_s 8)) (m_non) (m_str)))))))))) hh__law_gap_fault
def N_law : List Str := ["script", "bag", "turn", "n", "rule", "one", "other", "paper"]
theorem sc_law : FnScope N_law ["script"] (defScope s_law) := ⟨rfl, rfl, rfl, by decide +kernel, rfl, by decide +kernel, by decide +kernel⟩
theorem ok_law {f : Addr} {fd : FuncData} (F : Fun K "law" "law" s_law f fd) (T : Bl K mg) {fk : Addr} {fdk : FuncData} (FK : FnG P w K mg base CX0 1 fk fdk ["script"] (spDeckA K "far" "mixed" "count")) (hmK : mg "_law_bag" = some (.ref fk)) (hkK : PySem.W.keepIn K (.ref fk) = true) (hbK : Binds K fdk ["script"] []) (c__law_pick : Cal P w K mg base 2 "_law_pick" ["bag", "items"] [] sp__law_pick) (c__law_small : Cal P w K mg base 2 "_law_small" ["bag", "n"] [] sp__law_small) (c__law_rule : Cal P w K mg base 2 "_law_rule" ["bag", "n"] [] sp__law_rule) (c__law_list : Cal P w K mg base 3 "_law_list" ["bag", "n"] [] sp__law_list) (c__law_fronts : Cal P w K mg base 2 "_law_fronts" ["rule"] [] sp__law_fronts) (c__law_within : Cal P w K mg base 3 "_law_within" ["bag", "rule", "own"] [] sp__law_within) (c_gap_paper : Cal P w K mg base 7 "gap_paper" ["rule", "one", "other"] [(["other", "rule", "one"], [1, 2, 0])] sp_gap_paper) (c__law_gap_fault : Cal P w K mg base 4 "_law_gap_fault" ["rule", "one", "other", "value"] [] sp__law_gap_fault) (c_gap_paper_error : Cal P w K mg base 7 "gap_paper_error" ["rule", "one", "other", "value"] [] sp_gap_paper_error) : FnG P w K mg base CX0 8 f fd ["script"] (spTrue K) := by
  refine fnG_of F sc_law (fun vs H Q E h => ?_) (fun cdv A outer s H vs Q E hr hgd0 h => ?_)
  · obtain ⟨a, ns, rfl, _⟩ := h
    rfl
  obtain ⟨a, ns, rfl, hS, hlen, q⟩ := h
  have hgd : (A.deeper (envOfC "law" (defScope s_law) s.heap.objs.size f cdv)).guards = some [] := hgd0
  have hu := hr.units
  have rest : BV (cxOf CX0 P w K mg base N_law "law" (defScope s_law) f cdv A outer s H E).nox E0 ((defBody s_law).drop 1) W_law1 := b_cons (s_for PassesOwn.never rfl (i_range1 (by rfl) T.range (a_cons (m_int) (a_nil))) (g_name (i := 2) sc_law.nd rfl (Or.inl rfl))  (b_cons (s_set (i := 3) sc_law.nd rfl (Or.inl rfl) (m_if (t_lt (od_s 2) (od_e (m_int))) (c_call c__law_pick (hr.mono (by decide)) hgd (by rfl) (a_cons (m_var 1) (a_cons (m_lst (a_cons (m_int) (a_cons (m_int) (a_cons (m_int) (a_cons (m_int) (a_cons (m_int) (a_cons (m_int) (a_nil)))))))) (a_nil)))) (c_call c__law_pick (hr.mono (by decide)) hgd (by rfl) (a_cons (m_var 1) (a_cons (m_lst (a_cons (m_int) (a_cons (m_int) (a_cons (m_int) (a_cons (m_int) (a_nil)))))) (a_nil))))))  (b_cons (s_set (i := 4) sc_law.nd rfl (Or.inl rfl) (m_if (t_lt (od_s 2) (od_e (m_int))) (c_call c__law_small (hr.mono (by decide)) hgd (by rfl) (a_cons (m_var 1) (a_cons (m_var 3) (a_nil)))) (c_call c__law_rule (hr.mono (by decide)) hgd (by rfl) (a_cons (m_var 1) (a_cons (m_var 3) (a_nil))))))  (b_cons (s_set (i := 5) sc_law.nd rfl (Or.inl rfl) (c_call c__law_list (hr.mono (by decide)) hgd (by rfl) (a_cons (m_var 1) (a_cons (m_var 3) (a_nil)))))  (b_cons (s_set (i := 6) sc_law.nd rfl (Or.inl rfl) (m_if (t_b (c_call c__law_fronts (hr.mono (by decide)) hgd (by rfl) (a_cons (m_var 4) (a_nil)))) (c_call c__law_within (hr.mono (by decide)) hgd (by rfl) (a_cons (m_var 1) (a_cons (m_var 4) (a_cons (m_var 5) (a_nil))))) (c_call c__law_list (hr.mono (by decide)) hgd (by rfl) (a_cons (m_var 1) (a_cons (m_var 3) (a_nil))))))  (b_cons (s_set (i := 7) sc_law.nd rfl (Or.inl rfl) (m_if (t_ne hu (od_s 2) (od_e (m_int))) (c_call c_gap_paper (hr.mono (by decide)) hgd (by rfl) (a_cons (m_var 4) (a_cons (m_var 5) (a_cons (m_var 6) (a_nil))))) (c_callK c_gap_paper (ps := ["rule", "one", "other"]) (ks := ["other", "rule", "one"]) (ix := [1, 2, 0]) (by first | exact List.mem_cons_self .. | exact List.mem_cons_of_mem _ (List.mem_cons_self ..)) (hr.mono (by decide)) hgd (by rfl) (k_cons (m_var 6) (k_cons (m_var 4) (k_cons (m_var 5) (k_nil)))))))  (b_cons (s_if (TW.tv (t_or (t_notN (od_e (c_call c__law_gap_fault (hr.mono (by decide)) hgd (by rfl) (a_cons (m_var 4) (a_cons (m_var 5) (a_cons (m_var 6) (a_cons (m_var 7) (a_nil))))))) (od_e (m_non))) (t_or1 (t_ne hu (od_e (m_repr hgd hu (by rfl) T.repr (od_e (c_call c_gap_paper (hr.mono (by decide)) hgd (by rfl) (a_cons (m_var 4) (a_cons (m_var 5) (a_cons (m_var 6) (a_nil)))))))) (od_e (m_repr hgd hu (by rfl) T.repr (od_s 7)))))))  (b_one (s_ret (m_bl)))  (b_nil))  (b_one (s_if (t_notN (od_e (c_call c_gap_paper_error (hr.mono (by decide)) hgd (by rfl) (a_cons (m_var 4) (a_cons (m_var 5) (a_cons (m_var 6) (a_cons (m_var 7) (a_nil))))))) (od_e (m_non)))  (b_one (s_ret (m_bl)))  (b_nil))))))))))  (b_one (s_ret (m_bl)))
  refine ⟨_, PSs.nox (pss_cons (ps_set (i := 1) sc_law.nd rfl (.inl rfl) (pe_callG FK (hr.mono (by decide)) hgd (by rfl) hmK hkK hbK (pa_cons (pv 0) pa_nil))) rest), ?_⟩
  refine ⟨.ref a, rfl, a, ns, rfl, hS, hlen, fun H' d g sm nd ng inv => ?_⟩
  exact rS_law (K0 := deckA "far" "mixed" "count" d g) (n := 6) ⟨d, g, rfl⟩ inv rfl rfl (fun O hO => h_law (Q := O.rt) hO rfl) (fun H'' => q H'')
end
theorem all_mk {l : PySem.W.OpenLaw} {w : World} {K : PySem.W.Frag} {h : Heap} {mg : Str → Option Value} {fa f0 f1 f2 f3 f4 f5 f6 f7 f8 f9 f10 f11 f12 f13 f14 f15 f16 f17 f18 f19 f20 f21 f22 f23 f24 f25 f26 f27 f28 f29 f30 f31 f32 f33 f34 f35 f36 f37 f38 f39 f40 f41 f42 f43 f44 f45 f46 f47 f48 f49 f50 f51 f52 : Addr} (X : K.In h) (G : h.Ns mainGlobals mg) (hfa : mg "law" = some (.ref fa))
    {od0 an0 od1 an1 od2 an2 od3 an3 od4 an4 od5 an5 od6 an6 od7 an7 od8 an8 od9 an9 od10 an10 od11 an11 od12 an12 od13 an13 od14 an14 od15 an15 od16 an16 od17 an17 od18 an18 od19 an19 od20 an20 od21 an21 od22 an22 od23 an23 od24 an24 od25 an25 od26 an26 od27 an27 od28 an28 od29 an29 od30 an30 od31 an31 od32 an32 od33 an33 od34 an34 od35 an35 od36 an36 od37 an37 od38 an38 od39 an39 od40 an40 od41 an41 od42 an42 od43 an43 od44 an44 od45 an45 od46 an46 od47 an47 od48 an48 od49 an49 od50 an50 od51 an51 od52 an52 : Option Addr} {sl0 sl1 sl2 sl3 sl4 sl5 sl6 sl7 sl8 sl9 sl10 sl11 sl12 sl13 sl14 sl15 sl16 sl17 sl18 sl19 sl20 sl21 sl22 sl23 sl24 sl25 sl26 sl27 sl28 sl29 sl30 sl31 sl32 sl33 sl34 sl35 sl36 sl37 sl38 sl39 sl40 sl41 sl42 sl43 sl44 sl45 sl46 sl47 sl48 sl49 sl50 sl51 sl52 : Array (Option Value)} {oc0 kV0 dc0 pm0 cd0 ct0 oc1 kV1 dc1 pm1 cd1 ct1 oc2 kV2 dc2 pm2 cd2 ct2 oc3 kV3 dc3 pm3 cd3 ct3 oc4 kV4 dc4 pm4 cd4 ct4 oc5 kV5 dc5 pm5 cd5 ct5 oc6 kV6 dc6 pm6 cd6 ct6 oc7 kV7 dc7 pm7 cd7 ct7 oc8 kV8 dc8 pm8 cd8 ct8 oc9 kV9 dc9 pm9 cd9 ct9 oc10 kV10 dc10 pm10 cd10 ct10 oc11 kV11 dc11 pm11 cd11 ct11 oc12 kV12 dc12 pm12 cd12 ct12 oc13 kV13 dc13 pm13 cd13 ct13 oc14 kV14 dc14 pm14 cd14 ct14 oc15 kV15 dc15 pm15 cd15 ct15 oc16 kV16 dc16 pm16 cd16 ct16 oc17 kV17 dc17 pm17 cd17 ct17 oc18 kV18 dc18 pm18 cd18 ct18 oc19 kV19 dc19 pm19 cd19 ct19 oc20 kV20 dc20 pm20 cd20 ct20 oc21 kV21 dc21 pm21 cd21 ct21 oc22 kV22 dc22 pm22 cd22 ct22 oc23 kV23 dc23 pm23 cd23 ct23 oc24 kV24 dc24 pm24 cd24 ct24 oc25 kV25 dc25 pm25 cd25 ct25 oc26 kV26 dc26 pm26 cd26 ct26 oc27 kV27 dc27 pm27 cd27 ct27 oc28 kV28 dc28 pm28 cd28 ct28 oc29 kV29 dc29 pm29 cd29 ct29 oc30 kV30 dc30 pm30 cd30 ct30 oc31 kV31 dc31 pm31 cd31 ct31 oc32 kV32 dc32 pm32 cd32 ct32 oc33 kV33 dc33 pm33 cd33 ct33 oc34 kV34 dc34 pm34 cd34 ct34 oc35 kV35 dc35 pm35 cd35 ct35 oc36 kV36 dc36 pm36 cd36 ct36 oc37 kV37 dc37 pm37 cd37 ct37 oc38 kV38 dc38 pm38 cd38 ct38 oc39 kV39 dc39 pm39 cd39 ct39 oc40 kV40 dc40 pm40 cd40 ct40 oc41 kV41 dc41 pm41 cd41 ct41 oc42 kV42 dc42 pm42 cd42 ct42 oc43 kV43 dc43 pm43 cd43 ct43 oc44 kV44 dc44 pm44 cd44 ct44 oc45 kV45 dc45 pm45 cd45 ct45 oc46 kV46 dc46 pm46 cd46 ct46 oc47 kV47 dc47 pm47 cd47 ct47 oc48 kV48 dc48 pm48 cd48 ct48 oc49 kV49 dc49 pm49 cd49 ct49 oc50 kV50 dc50 pm50 cd50 ct50 oc51 kV51 dc51 pm51 cd51 ct51 oc52 kV52 dc52 pm52 cd52 ct52 : Value}
    (a0 : PySem.W.nsIn K mainGlobals "is_number" = some (some (.ref f0))) (l0 : K.lookup f0 = some ⟨oc0, od0, .func (PySem.W.fnOf "is_number" "is_number" (defArgs s_is_number) (defBody s_is_number) (defScope s_is_number) .none kV0 dc0 pm0 an0 cd0 ct0), sl0⟩) (c0 : PySem.W.codeIn K cd0 "is_number" = true) (k0 : PySem.W.keepIn K (.ref f0) = true)
    (a1 : PySem.W.nsIn K mainGlobals "is_within" = some (some (.ref f1))) (l1 : K.lookup f1 = some ⟨oc1, od1, .func (PySem.W.fnOf "is_within" "is_within" (defArgs s_is_within) (defBody s_is_within) (defScope s_is_within) .none kV1 dc1 pm1 an1 cd1 ct1), sl1⟩) (c1 : PySem.W.codeIn K cd1 "is_within" = true) (k1 : PySem.W.keepIn K (.ref f1) = true)
    (a2 : PySem.W.nsIn K mainGlobals "is_same" = some (some (.ref f2))) (l2 : K.lookup f2 = some ⟨oc2, od2, .func (PySem.W.fnOf "is_same" "is_same" (defArgs s_is_same) (defBody s_is_same) (defScope s_is_same) .none kV2 dc2 pm2 an2 cd2 ct2), sl2⟩) (c2 : PySem.W.codeIn K cd2 "is_same" = true) (k2 : PySem.W.keepIn K (.ref f2) = true)
    (a3 : PySem.W.nsIn K mainGlobals "asked" = some (some (.ref f3))) (l3 : K.lookup f3 = some ⟨oc3, od3, .func (PySem.W.fnOf "asked" "asked" (defArgs s_asked) (defBody s_asked) (defScope s_asked) .none kV3 dc3 pm3 an3 cd3 ct3), sl3⟩) (c3 : PySem.W.codeIn K cd3 "asked" = true) (k3 : PySem.W.keepIn K (.ref f3) = true)
    (a4 : PySem.W.nsIn K mainGlobals "run" = some (some (.ref f4))) (l4 : K.lookup f4 = some ⟨oc4, od4, .func (PySem.W.fnOf "run" "run" (defArgs s_run) (defBody s_run) (defScope s_run) .none kV4 dc4 pm4 an4 cd4 ct4), sl4⟩) (c4 : PySem.W.codeIn K cd4 "run" = true) (k4 : PySem.W.keepIn K (.ref f4) = true)
    (a5 : PySem.W.nsIn K mainGlobals "walls" = some (some (.ref f5))) (l5 : K.lookup f5 = some ⟨oc5, od5, .func (PySem.W.fnOf "walls" "walls" (defArgs s_walls) (defBody s_walls) (defScope s_walls) .none kV5 dc5 pm5 an5 cd5 ct5), sl5⟩) (c5 : PySem.W.codeIn K cd5 "walls" = true) (k5 : PySem.W.keepIn K (.ref f5) = true)
    (a6 : PySem.W.nsIn K mainGlobals "blocks" = some (some (.ref f6))) (l6 : K.lookup f6 = some ⟨oc6, od6, .func (PySem.W.fnOf "blocks" "blocks" (defArgs s_blocks) (defBody s_blocks) (defScope s_blocks) .none kV6 dc6 pm6 an6 cd6 ct6), sl6⟩) (c6 : PySem.W.codeIn K cd6 "blocks" = true) (k6 : PySem.W.keepIn K (.ref f6) = true)
    (a7 : PySem.W.nsIn K mainGlobals "own_rule" = some (some (.ref f7))) (l7 : K.lookup f7 = some ⟨oc7, od7, .func (PySem.W.fnOf "own_rule" "own_rule" (defArgs s_own_rule) (defBody s_own_rule) (defScope s_own_rule) .none kV7 dc7 pm7 an7 cd7 ct7), sl7⟩) (c7 : PySem.W.codeIn K cd7 "own_rule" = true) (k7 : PySem.W.keepIn K (.ref f7) = true)
    (a8 : PySem.W.nsIn K mainGlobals "is_front" = some (some (.ref f8))) (l8 : K.lookup f8 = some ⟨oc8, od8, .func (PySem.W.fnOf "is_front" "is_front" (defArgs s_is_front) (defBody s_is_front) (defScope s_is_front) .none kV8 dc8 pm8 an8 cd8 ct8), sl8⟩) (c8 : PySem.W.codeIn K cd8 "is_front" = true) (k8 : PySem.W.keepIn K (.ref f8) = true)
    (a9 : PySem.W.nsIn K mainGlobals "_check_staying" = some (some (.ref f9))) (l9 : K.lookup f9 = some ⟨oc9, od9, .func (PySem.W.fnOf "_check_staying" "_check_staying" (defArgs s__check_staying) (defBody s__check_staying) (defScope s__check_staying) .none kV9 dc9 pm9 an9 cd9 ct9), sl9⟩) (c9 : PySem.W.codeIn K cd9 "_check_staying" = true) (k9 : PySem.W.keepIn K (.ref f9) = true)
    (a10 : PySem.W.nsIn K mainGlobals "kind_of" = some (some (.ref f10))) (l10 : K.lookup f10 = some ⟨oc10, od10, .func (PySem.W.fnOf "kind_of" "kind_of" (defArgs s_kind_of) (defBody s_kind_of) (defScope s_kind_of) .none kV10 dc10 pm10 an10 cd10 ct10), sl10⟩) (c10 : PySem.W.codeIn K cd10 "kind_of" = true) (k10 : PySem.W.keepIn K (.ref f10) = true)
    (a11 : PySem.W.nsIn K mainGlobals "_is_even" = some (some (.ref f11))) (l11 : K.lookup f11 = some ⟨oc11, od11, .func (PySem.W.fnOf "_is_even" "_is_even" (defArgs s__is_even) (defBody s__is_even) (defScope s__is_even) .none kV11 dc11 pm11 an11 cd11 ct11), sl11⟩) (c11 : PySem.W.codeIn K cd11 "_is_even" = true) (k11 : PySem.W.keepIn K (.ref f11) = true)
    (a12 : PySem.W.nsIn K mainGlobals "_least_part" = some (some (.ref f12))) (l12 : K.lookup f12 = some ⟨oc12, od12, .func (PySem.W.fnOf "_least_part" "_least_part" (defArgs s__least_part) (defBody s__least_part) (defScope s__least_part) .none kV12 dc12 pm12 an12 cd12 ct12), sl12⟩) (c12 : PySem.W.codeIn K cd12 "_least_part" = true) (k12 : PySem.W.keepIn K (.ref f12) = true)
    (a13 : PySem.W.nsIn K mainGlobals "least_order" = some (some (.ref f13))) (l13 : K.lookup f13 = some ⟨oc13, od13, .func (PySem.W.fnOf "least_order" "least_order" (defArgs s_least_order) (defBody s_least_order) (defScope s_least_order) .none kV13 dc13 pm13 an13 cd13 ct13), sl13⟩) (c13 : PySem.W.codeIn K cd13 "least_order" = true) (k13 : PySem.W.keepIn K (.ref f13) = true)
    (a14 : PySem.W.nsIn K mainGlobals "comes_out" = some (some (.ref f14))) (l14 : K.lookup f14 = some ⟨oc14, od14, .func (PySem.W.fnOf "comes_out" "comes_out" (defArgs s_comes_out) (defBody s_comes_out) (defScope s_comes_out) .none kV14 dc14 pm14 an14 cd14 ct14), sl14⟩) (c14 : PySem.W.codeIn K cd14 "comes_out" = true) (k14 : PySem.W.keepIn K (.ref f14) = true)
    (a15 : PySem.W.nsIn K mainGlobals "places_of" = some (some (.ref f15))) (l15 : K.lookup f15 = some ⟨oc15, od15, .func (PySem.W.fnOf "places_of" "places_of" (defArgs s_places_of) (defBody s_places_of) (defScope s_places_of) .none kV15 dc15 pm15 an15 cd15 ct15), sl15⟩) (c15 : PySem.W.codeIn K cd15 "places_of" = true) (k15 : PySem.W.keepIn K (.ref f15) = true)
    (a16 : PySem.W.nsIn K mainGlobals "text_behind" = some (some (.ref f16))) (l16 : K.lookup f16 = some ⟨oc16, od16, .func (PySem.W.fnOf "text_behind" "text_behind" (defArgs s_text_behind) (defBody s_text_behind) (defScope s_text_behind) .none kV16 dc16 pm16 an16 cd16 ct16), sl16⟩) (c16 : PySem.W.codeIn K cd16 "text_behind" = true) (k16 : PySem.W.keepIn K (.ref f16) = true)
    (a17 : PySem.W.nsIn K mainGlobals "cost" = some (some (.ref f17))) (l17 : K.lookup f17 = some ⟨oc17, od17, .func (PySem.W.fnOf "cost" "cost" (defArgs s_cost) (defBody s_cost) (defScope s_cost) .none kV17 dc17 pm17 an17 cd17 ct17), sl17⟩) (c17 : PySem.W.codeIn K cd17 "cost" = true) (k17 : PySem.W.keepIn K (.ref f17) = true)
    (a18 : PySem.W.nsIn K mainGlobals "_stranger" = some (some (.ref f18))) (l18 : K.lookup f18 = some ⟨oc18, od18, .func (PySem.W.fnOf "_stranger" "_stranger" (defArgs s__stranger) (defBody s__stranger) (defScope s__stranger) .none kV18 dc18 pm18 an18 cd18 ct18), sl18⟩) (c18 : PySem.W.codeIn K cd18 "_stranger" = true) (k18 : PySem.W.keepIn K (.ref f18) = true)
    (a19 : PySem.W.nsIn K mainGlobals "order_error" = some (some (.ref f19))) (l19 : K.lookup f19 = some ⟨oc19, od19, .func (PySem.W.fnOf "order_error" "order_error" (defArgs s_order_error) (defBody s_order_error) (defScope s_order_error) .none kV19 dc19 pm19 an19 cd19 ct19), sl19⟩) (c19 : PySem.W.codeIn K cd19 "order_error" = true) (k19 : PySem.W.keepIn K (.ref f19) = true)
    (a20 : PySem.W.nsIn K mainGlobals "text_error" = some (some (.ref f20))) (l20 : K.lookup f20 = some ⟨oc20, od20, .func (PySem.W.fnOf "text_error" "text_error" (defArgs s_text_error) (defBody s_text_error) (defScope s_text_error) .none kV20 dc20 pm20 an20 cd20 ct20), sl20⟩) (c20 : PySem.W.codeIn K cd20 "text_error" = true) (k20 : PySem.W.keepIn K (.ref f20) = true)
    (a21 : PySem.W.nsIn K mainGlobals "_late_place" = some (some (.ref f21))) (l21 : K.lookup f21 = some ⟨oc21, od21, .func (PySem.W.fnOf "_late_place" "_late_place" (defArgs s__late_place) (defBody s__late_place) (defScope s__late_place) .none kV21 dc21 pm21 an21 cd21 ct21), sl21⟩) (c21 : PySem.W.codeIn K cd21 "_late_place" = true) (k21 : PySem.W.keepIn K (.ref f21) = true)
    (a22 : PySem.W.nsIn K mainGlobals "_places_to_front" = some (some (.ref f22))) (l22 : K.lookup f22 = some ⟨oc22, od22, .func (PySem.W.fnOf "_places_to_front" "_places_to_front" (defArgs s__places_to_front) (defBody s__places_to_front) (defScope s__places_to_front) .none kV22 dc22 pm22 an22 cd22 ct22), sl22⟩) (c22 : PySem.W.codeIn K cd22 "_places_to_front" = true) (k22 : PySem.W.keepIn K (.ref f22) = true)
    (a23 : PySem.W.nsIn K mainGlobals "gains" = some (some (.ref f23))) (l23 : K.lookup f23 = some ⟨oc23, od23, .func (PySem.W.fnOf "gains" "gains" (defArgs s_gains) (defBody s_gains) (defScope s_gains) .none kV23 dc23 pm23 an23 cd23 ct23), sl23⟩) (c23 : PySem.W.codeIn K cd23 "gains" = true) (k23 : PySem.W.keepIn K (.ref f23) = true)
    (a24 : PySem.W.nsIn K mainGlobals "gains_error" = some (some (.ref f24))) (l24 : K.lookup f24 = some ⟨oc24, od24, .func (PySem.W.fnOf "gains_error" "gains_error" (defArgs s_gains_error) (defBody s_gains_error) (defScope s_gains_error) .none kV24 dc24 pm24 an24 cd24 ct24), sl24⟩) (c24 : PySem.W.codeIn K cd24 "gains_error" = true) (k24 : PySem.W.keepIn K (.ref f24) = true)
    (a25 : PySem.W.nsIn K mainGlobals "view" = some (some (.ref f25))) (l25 : K.lookup f25 = some ⟨oc25, od25, .func (PySem.W.fnOf "view" "view" (defArgs s_view) (defBody s_view) (defScope s_view) .none kV25 dc25 pm25 an25 cd25 ct25), sl25⟩) (c25 : PySem.W.codeIn K cd25 "view" = true) (k25 : PySem.W.keepIn K (.ref f25) = true)
    (a26 : PySem.W.nsIn K mainGlobals "unlike" = some (some (.ref f26))) (l26 : K.lookup f26 = some ⟨oc26, od26, .func (PySem.W.fnOf "unlike" "unlike" (defArgs s_unlike) (defBody s_unlike) (defScope s_unlike) .none kV26 dc26 pm26 an26 cd26 ct26), sl26⟩) (c26 : PySem.W.codeIn K cd26 "unlike" = true) (k26 : PySem.W.keepIn K (.ref f26) = true)
    (a27 : PySem.W.nsIn K mainGlobals "_check_bounded" = some (some (.ref f27))) (l27 : K.lookup f27 = some ⟨oc27, od27, .func (PySem.W.fnOf "_check_bounded" "_check_bounded" (defArgs s__check_bounded) (defBody s__check_bounded) (defScope s__check_bounded) .none kV27 dc27 pm27 an27 cd27 ct27), sl27⟩) (c27 : PySem.W.codeIn K cd27 "_check_bounded" = true) (k27 : PySem.W.keepIn K (.ref f27) = true)
    (a28 : PySem.W.nsIn K mainGlobals "gap" = some (some (.ref f28))) (l28 : K.lookup f28 = some ⟨oc28, od28, .func (PySem.W.fnOf "gap" "gap" (defArgs s_gap) (defBody s_gap) (defScope s_gap) .none kV28 dc28 pm28 an28 cd28 ct28), sl28⟩) (c28 : PySem.W.codeIn K cd28 "gap" = true) (k28 : PySem.W.keepIn K (.ref f28) = true)
    (a29 : PySem.W.nsIn K mainGlobals "gap_text" = some (some (.ref f29))) (l29 : K.lookup f29 = some ⟨oc29, od29, .func (PySem.W.fnOf "gap_text" "gap_text" (defArgs s_gap_text) (defBody s_gap_text) (defScope s_gap_text) .none kV29 dc29 pm29 an29 cd29 ct29), sl29⟩) (c29 : PySem.W.codeIn K cd29 "gap_text" = true) (k29 : PySem.W.keepIn K (.ref f29) = true)
    (a30 : PySem.W.nsIn K mainGlobals "_begins" = some (some (.ref f30))) (l30 : K.lookup f30 = some ⟨oc30, od30, .func (PySem.W.fnOf "_begins" "_begins" (defArgs s__begins) (defBody s__begins) (defScope s__begins) .none kV30 dc30 pm30 an30 cd30 ct30), sl30⟩) (c30 : PySem.W.codeIn K cd30 "_begins" = true) (k30 : PySem.W.keepIn K (.ref f30) = true)
    (a31 : PySem.W.nsIn K mainGlobals "gap_paper" = some (some (.ref f31))) (l31 : K.lookup f31 = some ⟨oc31, od31, .func (PySem.W.fnOf "gap_paper" "gap_paper" (defArgs s_gap_paper) (defBody s_gap_paper) (defScope s_gap_paper) .none kV31 dc31 pm31 an31 cd31 ct31), sl31⟩) (c31 : PySem.W.codeIn K cd31 "gap_paper" = true) (k31 : PySem.W.keepIn K (.ref f31) = true)
    (a32 : PySem.W.nsIn K mainGlobals "_endless_error" = some (some (.ref f32))) (l32 : K.lookup f32 = some ⟨oc32, od32, .func (PySem.W.fnOf "_endless_error" "_endless_error" (defArgs s__endless_error) (defBody s__endless_error) (defScope s__endless_error) .none kV32 dc32 pm32 an32 cd32 ct32), sl32⟩) (c32 : PySem.W.codeIn K cd32 "_endless_error" = true) (k32 : PySem.W.keepIn K (.ref f32) = true)
    (a33 : PySem.W.nsIn K mainGlobals "gap_paper_error" = some (some (.ref f33))) (l33 : K.lookup f33 = some ⟨oc33, od33, .func (PySem.W.fnOf "gap_paper_error" "gap_paper_error" (defArgs s_gap_paper_error) (defBody s_gap_paper_error) (defScope s_gap_paper_error) .none kV33 dc33 pm33 an33 cd33 ct33), sl33⟩) (c33 : PySem.W.codeIn K cd33 "gap_paper_error" = true) (k33 : PySem.W.keepIn K (.ref f33) = true)
    (a34 : PySem.W.nsIn K mainGlobals "_law_bag" = some (some (.ref f34))) (l34 : K.lookup f34 = some ⟨oc34, od34, .func (PySem.W.fnOf "_law_bag" "_law_bag" (defArgs s__law_bag) (defBody s__law_bag) (defScope s__law_bag) .none kV34 dc34 pm34 an34 cd34 ct34), sl34⟩) (c34 : PySem.W.codeIn K cd34 "_law_bag" = true) (k34 : PySem.W.keepIn K (.ref f34) = true)
    (a35 : PySem.W.nsIn K mainGlobals "_law_draw" = some (some (.ref f35))) (l35 : K.lookup f35 = some ⟨oc35, od35, .func (PySem.W.fnOf "_law_draw" "_law_draw" (defArgs s__law_draw) (defBody s__law_draw) (defScope s__law_draw) .none kV35 dc35 pm35 an35 cd35 ct35), sl35⟩) (c35 : PySem.W.codeIn K cd35 "_law_draw" = true) (k35 : PySem.W.keepIn K (.ref f35) = true)
    (a36 : PySem.W.nsIn K mainGlobals "_law_pick" = some (some (.ref f36))) (l36 : K.lookup f36 = some ⟨oc36, od36, .func (PySem.W.fnOf "_law_pick" "_law_pick" (defArgs s__law_pick) (defBody s__law_pick) (defScope s__law_pick) .none kV36 dc36 pm36 an36 cd36 ct36), sl36⟩) (c36 : PySem.W.codeIn K cd36 "_law_pick" = true) (k36 : PySem.W.keepIn K (.ref f36) = true)
    (a37 : PySem.W.nsIn K mainGlobals "_law_mixed" = some (some (.ref f37))) (l37 : K.lookup f37 = some ⟨oc37, od37, .func (PySem.W.fnOf "_law_mixed" "_law_mixed" (defArgs s__law_mixed) (defBody s__law_mixed) (defScope s__law_mixed) .none kV37 dc37 pm37 an37 cd37 ct37), sl37⟩) (c37 : PySem.W.codeIn K cd37 "_law_mixed" = true) (k37 : PySem.W.keepIn K (.ref f37) = true)
    (a38 : PySem.W.nsIn K mainGlobals "_law_list" = some (some (.ref f38))) (l38 : K.lookup f38 = some ⟨oc38, od38, .func (PySem.W.fnOf "_law_list" "_law_list" (defArgs s__law_list) (defBody s__law_list) (defScope s__law_list) .none kV38 dc38 pm38 an38 cd38 ct38), sl38⟩) (c38 : PySem.W.codeIn K cd38 "_law_list" = true) (k38 : PySem.W.keepIn K (.ref f38) = true)
    (a39 : PySem.W.nsIn K mainGlobals "_law_step" = some (some (.ref f39))) (l39 : K.lookup f39 = some ⟨oc39, od39, .func (PySem.W.fnOf "_law_step" "_law_step" (defArgs s__law_step) (defBody s__law_step) (defScope s__law_step) .none kV39 dc39 pm39 an39 cd39 ct39), sl39⟩) (c39 : PySem.W.codeIn K cd39 "_law_step" = true) (k39 : PySem.W.keepIn K (.ref f39) = true)
    (a40 : PySem.W.nsIn K mainGlobals "_law_went" = some (some (.ref f40))) (l40 : K.lookup f40 = some ⟨oc40, od40, .func (PySem.W.fnOf "_law_went" "_law_went" (defArgs s__law_went) (defBody s__law_went) (defScope s__law_went) .none kV40 dc40 pm40 an40 cd40 ct40), sl40⟩) (c40 : PySem.W.codeIn K cd40 "_law_went" = true) (k40 : PySem.W.keepIn K (.ref f40) = true)
    (a41 : PySem.W.nsIn K mainGlobals "_law_apart" = some (some (.ref f41))) (l41 : K.lookup f41 = some ⟨oc41, od41, .func (PySem.W.fnOf "_law_apart" "_law_apart" (defArgs s__law_apart) (defBody s__law_apart) (defScope s__law_apart) .none kV41 dc41 pm41 an41 cd41 ct41), sl41⟩) (c41 : PySem.W.codeIn K cd41 "_law_apart" = true) (k41 : PySem.W.keepIn K (.ref f41) = true)
    (a42 : PySem.W.nsIn K mainGlobals "_law_is_list" = some (some (.ref f42))) (l42 : K.lookup f42 = some ⟨oc42, od42, .func (PySem.W.fnOf "_law_is_list" "_law_is_list" (defArgs s__law_is_list) (defBody s__law_is_list) (defScope s__law_is_list) .none kV42 dc42 pm42 an42 cd42 ct42), sl42⟩) (c42 : PySem.W.codeIn K cd42 "_law_is_list" = true) (k42 : PySem.W.keepIn K (.ref f42) = true)
    (a43 : PySem.W.nsIn K mainGlobals "_law_are_letters" = some (some (.ref f43))) (l43 : K.lookup f43 = some ⟨oc43, od43, .func (PySem.W.fnOf "_law_are_letters" "_law_are_letters" (defArgs s__law_are_letters) (defBody s__law_are_letters) (defScope s__law_are_letters) .none kV43 dc43 pm43 an43 cd43 ct43), sl43⟩) (c43 : PySem.W.codeIn K cd43 "_law_are_letters" = true) (k43 : PySem.W.keepIn K (.ref f43) = true)
    (a44 : PySem.W.nsIn K mainGlobals "_law_is_text" = some (some (.ref f44))) (l44 : K.lookup f44 = some ⟨oc44, od44, .func (PySem.W.fnOf "_law_is_text" "_law_is_text" (defArgs s__law_is_text) (defBody s__law_is_text) (defScope s__law_is_text) .none kV44 dc44 pm44 an44 cd44 ct44), sl44⟩) (c44 : PySem.W.codeIn K cd44 "_law_is_text" = true) (k44 : PySem.W.keepIn K (.ref f44) = true)
    (a45 : PySem.W.nsIn K mainGlobals "_law_begins" = some (some (.ref f45))) (l45 : K.lookup f45 = some ⟨oc45, od45, .func (PySem.W.fnOf "_law_begins" "_law_begins" (defArgs s__law_begins) (defBody s__law_begins) (defScope s__law_begins) .none kV45 dc45 pm45 an45 cd45 ct45), sl45⟩) (c45 : PySem.W.codeIn K cd45 "_law_begins" = true) (k45 : PySem.W.keepIn K (.ref f45) = true)
    (a46 : PySem.W.nsIn K mainGlobals "_law_fronts" = some (some (.ref f46))) (l46 : K.lookup f46 = some ⟨oc46, od46, .func (PySem.W.fnOf "_law_fronts" "_law_fronts" (defArgs s__law_fronts) (defBody s__law_fronts) (defScope s__law_fronts) .none kV46 dc46 pm46 an46 cd46 ct46), sl46⟩) (c46 : PySem.W.codeIn K cd46 "_law_fronts" = true) (k46 : PySem.W.keepIn K (.ref f46) = true)
    (a47 : PySem.W.nsIn K mainGlobals "_law_rule" = some (some (.ref f47))) (l47 : K.lookup f47 = some ⟨oc47, od47, .func (PySem.W.fnOf "_law_rule" "_law_rule" (defArgs s__law_rule) (defBody s__law_rule) (defScope s__law_rule) .none kV47 dc47 pm47 an47 cd47 ct47), sl47⟩) (c47 : PySem.W.codeIn K cd47 "_law_rule" = true) (k47 : PySem.W.keepIn K (.ref f47) = true)
    (a48 : PySem.W.nsIn K mainGlobals "_law_small" = some (some (.ref f48))) (l48 : K.lookup f48 = some ⟨oc48, od48, .func (PySem.W.fnOf "_law_small" "_law_small" (defArgs s__law_small) (defBody s__law_small) (defScope s__law_small) .none kV48 dc48 pm48 an48 cd48 ct48), sl48⟩) (c48 : PySem.W.codeIn K cd48 "_law_small" = true) (k48 : PySem.W.keepIn K (.ref f48) = true)
    (a49 : PySem.W.nsIn K mainGlobals "_law_within" = some (some (.ref f49))) (l49 : K.lookup f49 = some ⟨oc49, od49, .func (PySem.W.fnOf "_law_within" "_law_within" (defArgs s__law_within) (defBody s__law_within) (defScope s__law_within) .none kV49 dc49 pm49 an49 cd49 ct49), sl49⟩) (c49 : PySem.W.codeIn K cd49 "_law_within" = true) (k49 : PySem.W.keepIn K (.ref f49) = true)
    (a50 : PySem.W.nsIn K mainGlobals "_law_gain_fault" = some (some (.ref f50))) (l50 : K.lookup f50 = some ⟨oc50, od50, .func (PySem.W.fnOf "_law_gain_fault" "_law_gain_fault" (defArgs s__law_gain_fault) (defBody s__law_gain_fault) (defScope s__law_gain_fault) .none kV50 dc50 pm50 an50 cd50 ct50), sl50⟩) (c50 : PySem.W.codeIn K cd50 "_law_gain_fault" = true) (k50 : PySem.W.keepIn K (.ref f50) = true)
    (a51 : PySem.W.nsIn K mainGlobals "_law_gap_fault" = some (some (.ref f51))) (l51 : K.lookup f51 = some ⟨oc51, od51, .func (PySem.W.fnOf "_law_gap_fault" "_law_gap_fault" (defArgs s__law_gap_fault) (defBody s__law_gap_fault) (defScope s__law_gap_fault) .none kV51 dc51 pm51 an51 cd51 ct51), sl51⟩) (c51 : PySem.W.codeIn K cd51 "_law_gap_fault" = true) (k51 : PySem.W.keepIn K (.ref f51) = true)
    (a52 : PySem.W.nsIn K mainGlobals "law" = some (some (.ref f52))) (l52 : K.lookup f52 = some ⟨oc52, od52, .func (PySem.W.fnOf "law" "law" (defArgs s_law) (defBody s_law) (defScope s_law) .none kV52 dc52 pm52 an52 cd52 ct52), sl52⟩) (c52 : PySem.W.codeIn K cd52 "law" = true) (k52 : PySem.W.keepIn K (.ref f52) = true)
    (zabs : PySem.W.nsIn K mainGlobals "abs" = some none) (zall : PySem.W.nsIn K mainGlobals "all" = some none) (zbool : PySem.W.nsIn K mainGlobals "bool" = some none) (zenumerate : PySem.W.nsIn K mainGlobals "enumerate" = some none) (zint : PySem.W.nsIn K mainGlobals "int" = some none) (zisinstance : PySem.W.nsIn K mainGlobals "isinstance" = some none) (zlen : PySem.W.nsIn K mainGlobals "len" = some none) (zlist : PySem.W.nsIn K mainGlobals "list" = some none) (zmax : PySem.W.nsIn K mainGlobals "max" = some none) (zmin : PySem.W.nsIn K mainGlobals "min" = some none) (zrange : PySem.W.nsIn K mainGlobals "range" = some none) (zrepr : PySem.W.nsIn K mainGlobals "repr" = some none) (zsorted : PySem.W.nsIn K mainGlobals "sorted" = some none) (zstr : PySem.W.nsIn K mainGlobals "str" = some none) (zsum : PySem.W.nsIn K mainGlobals "sum" = some none) (ztuple : PySem.W.nsIn K mainGlobals "tuple" = some none) (zzip : PySem.W.nsIn K mainGlobals "zip" = some none) {uMAX_STAYING : Value} (yMAX_STAYING : PySem.W.nsIn K mainGlobals "MAX_STAYING" = some (some uMAX_STAYING)) (xMAX_STAYING : constC K 3 (.int 7) uMAX_STAYING = true) {uMAX_TEXT : Value} (yMAX_TEXT : PySem.W.nsIn K mainGlobals "MAX_TEXT" = some (some uMAX_TEXT)) (xMAX_TEXT : constC K 3 (.int 400) uMAX_TEXT = true) {uODD_RULES : Value} (yODD_RULES : PySem.W.nsIn K mainGlobals "ODD_RULES" = some (some uODD_RULES)) (xODD_RULES : constC K 3 (.tuple [(.tuple [(.int 0), (.int 1), (.int 2), (.int 0), (.int 4), (.int 1)]), (.tuple [(.int 0), (.int 1), (.int 2), (.int 0), (.int 4), (.int 2)]), (.tuple [(.int 0), (.int 1), (.int 2), (.int 3), (.int 0), (.int 2)])]) uODD_RULES = true) :
    ∃ fd : FuncData, (∀ (s : Shared) (u : Value), BindsTo s fd ⟨[u], []⟩ [("script", u)]) ∧ ∀ base : Heap, K.In base → base.Ns mainGlobals mg → FnG l.prog w K mg base CX0 8 fa fd ["script"] (spTrue K) := by
  have e := hfa.symm.trans (PySem.W.mg_of X G a52)
  cases e
  have T : Bl K mg := ⟨PySem.W.mg_none_of X G zabs, PySem.W.mg_none_of X G zall, PySem.W.mg_none_of X G zbool, PySem.W.mg_none_of X G zenumerate, PySem.W.mg_none_of X G zint, PySem.W.mg_none_of X G zisinstance, PySem.W.mg_none_of X G zlen, PySem.W.mg_none_of X G zlist, PySem.W.mg_none_of X G zmax, PySem.W.mg_none_of X G zmin, PySem.W.mg_none_of X G zrange, PySem.W.mg_none_of X G zrepr, PySem.W.mg_none_of X G zsorted, PySem.W.mg_none_of X G zstr, PySem.W.mg_none_of X G zsum, PySem.W.mg_none_of X G ztuple, PySem.W.mg_none_of X G zzip, ⟨_, PySem.W.mg_of X G yMAX_STAYING, constC_ok 3 _ _ xMAX_STAYING⟩, ⟨_, PySem.W.mg_of X G yMAX_TEXT, constC_ok 3 _ _ xMAX_TEXT⟩, ⟨_, PySem.W.mg_of X G yODD_RULES, constC_ok 3 _ _ xODD_RULES⟩⟩
  have F0 := fun_mk (st := s_is_number) l0 c0 k0
  have b0 := F0.binds (ps := ["value"]) fun _ _ _ _ _ _ us hl => match us, hl with | [_], _ => rfl
  have F1 := fun_mk (st := s_is_within) l1 c1 k1
  have b1 := F1.binds (ps := ["value", "least", "most"]) fun _ _ _ _ _ _ us hl => match us, hl with | [_, _, _], _ => rfl
  have F2 := fun_mk (st := s_is_same) l2 c2 k2
  have b2 := F2.binds (ps := ["value", "wanted"]) fun _ _ _ _ _ _ us hl => match us, hl with | [_, _], _ => rfl
  have F3 := fun_mk (st := s_asked) l3 c3 k3
  have b3 := F3.binds (ps := ["rule", "order", "letter"]) fun _ _ _ _ _ _ us hl => match us, hl with | [_, _, _], _ => rfl
  have F4 := fun_mk (st := s_run) l4 c4 k4
  have b4 := F4.binds (ps := ["rule", "order", "text"]) fun _ _ _ _ _ _ us hl => match us, hl with | [_, _, _], _ => rfl
  have F5 := fun_mk (st := s_walls) l5 c5 k5
  have b5 := F5.binds (ps := ["rule"]) fun _ _ _ _ _ _ us hl => match us, hl with | [_], _ => rfl
  have F6 := fun_mk (st := s_blocks) l6 c6 k6
  have b6 := F6.binds (ps := ["rule"]) fun _ _ _ _ _ _ us hl => match us, hl with | [_], _ => rfl
  have F7 := fun_mk (st := s_own_rule) l7 c7 k7
  have b7 := F7.binds (ps := ["rule", "block"]) fun _ _ _ _ _ _ us hl => match us, hl with | [_, _], _ => rfl
  have F8 := fun_mk (st := s_is_front) l8 c8 k8
  have b8 := F8.binds (ps := ["rule"]) fun _ _ _ _ _ _ us hl => match us, hl with | [_], _ => rfl
  have F9 := fun_mk (st := s__check_staying) l9 c9 k9
  have b9 := F9.binds (ps := ["own"]) fun _ _ _ _ _ _ us hl => match us, hl with | [_], _ => rfl
  have F10 := fun_mk (st := s_kind_of) l10 c10 k10
  have b10 := F10.binds (ps := ["rule", "block"]) fun _ _ _ _ _ _ us hl => match us, hl with | [_, _], _ => rfl
  have F11 := fun_mk (st := s__is_even) l11 c11 k11
  have b11 := F11.binds (ps := ["part"]) fun _ _ _ _ _ _ us hl => match us, hl with | [_], _ => rfl
  have F12 := fun_mk (st := s__least_part) l12 c12 k12
  have b12 := F12.binds (ps := ["kind", "own", "part"]) fun _ _ _ _ _ _ us hl => match us, hl with | [_, _, _], _ => rfl
  have F13 := fun_mk (st := s_least_order) l13 c13 k13
  have b13 := F13.binds (ps := ["rule", "order"]) fun _ _ _ _ _ _ us hl => match us, hl with | [_, _], _ => rfl
  have F14 := fun_mk (st := s_comes_out) l14 c14 k14
  have b14 := F14.binds (ps := ["rule", "one", "other"]) fun _ _ _ _ _ _ us hl => match us, hl with | [_, _, _], _ => rfl
  have F15 := fun_mk (st := s_places_of) l15 c15 k15
  have b15 := F15.binds (ps := ["rule", "order", "text"]) fun _ _ _ _ _ _ us hl => match us, hl with | [_, _, _], _ => rfl
  have F16 := fun_mk (st := s_text_behind) l16 c16 k16
  have b16 := F16.binds (ps := ["rule", "order", "places"]) fun _ _ _ _ _ _ us hl => match us, hl with | [_, _, _], _ => rfl
  have F17 := fun_mk (st := s_cost) l17 c17 k17
  have b17 := F17.binds (ps := ["rule", "order", "text"]) fun _ _ _ _ _ _ us hl => match us, hl with | [_, _, _], _ => rfl
  have F18 := fun_mk (st := s__stranger) l18 c18 k18
  have b18 := F18.binds (ps := ["n", "items"]) fun _ _ _ _ _ _ us hl => match us, hl with | [_, _], _ => rfl
  have F19 := fun_mk (st := s_order_error) l19 c19 k19
  have b19 := F19.binds (ps := ["n", "value"]) fun _ _ _ _ _ _ us hl => match us, hl with | [_, _], _ => rfl
  have F20 := fun_mk (st := s_text_error) l20 c20 k20
  have b20 := F20.binds (ps := ["n", "value"]) fun _ _ _ _ _ _ us hl => match us, hl with | [_, _], _ => rfl
  have F21 := fun_mk (st := s__late_place) l21 c21 k21
  have b21 := F21.binds (ps := ["rule"]) fun _ _ _ _ _ _ us hl => match us, hl with | [_], _ => rfl
  have F22 := fun_mk (st := s__places_to_front) l22 c22 k22
  have b22 := F22.binds (ps := ["rule", "late"]) fun _ _ _ _ _ _ us hl => match us, hl with | [_, _], _ => rfl
  have F23 := fun_mk (st := s_gains) l23 c23 k23
  have b23 := F23.binds (ps := ["rule"]) fun _ _ _ _ _ _ us hl => match us, hl with | [_], _ => rfl
  have F24 := fun_mk (st := s_gains_error) l24 c24 k24
  have b24 := F24.binds (ps := ["rule", "value"]) fun _ _ _ _ _ _ us hl => match us, hl with | [_, _], _ => rfl
  have F25 := fun_mk (st := s_view) l25 c25 k25
  have b25 := F25.binds (ps := ["one", "other"]) fun _ _ _ _ _ _ us hl => match us, hl with | [_, _], _ => rfl
  have F26 := fun_mk (st := s_unlike) l26 c26 k26
  have b26 := F26.binds (ps := ["one", "other"]) fun _ _ _ _ _ _ us hl => match us, hl with | [_, _], _ => rfl
  have F27 := fun_mk (st := s__check_bounded) l27 c27 k27
  have b27 := F27.binds (ps := ["rule", "one", "other"]) fun _ _ _ _ _ _ us hl => match us, hl with | [_, _, _], _ => rfl
  have F28 := fun_mk (st := s_gap) l28 c28 k28
  have b28 := F28.binds (ps := ["rule", "one", "other"]) fun _ _ _ _ _ _ us hl => match us, hl with | [_, _, _], _ => rfl
  have F29 := fun_mk (st := s_gap_text) l29 c29 k29
  have b29 := F29.binds (ps := ["rule", "one", "other"]) fun _ _ _ _ _ _ us hl => match us, hl with | [_, _, _], _ => rfl
  have F30 := fun_mk (st := s__begins) l30 c30 k30
  have b30 := F30.binds (ps := ["value", "many", "word"]) fun _ _ _ _ _ _ us hl => match us, hl with | [_, _, _], _ => rfl
  have F31 := fun_mk (st := s_gap_paper) l31 c31 k31
  have b31 := F31.binds (ps := ["rule", "one", "other"]) fun _ _ _ _ _ _ us hl => match us, hl with | [_, _, _], _ => rfl
  have F32 := fun_mk (st := s__endless_error) l32 c32 k32
  have b32 := F32.binds (ps := ["rule", "value"]) fun _ _ _ _ _ _ us hl => match us, hl with | [_, _], _ => rfl
  have F33 := fun_mk (st := s_gap_paper_error) l33 c33 k33
  have b33 := F33.binds (ps := ["rule", "one", "other", "value"]) fun _ _ _ _ _ _ us hl => match us, hl with | [_, _, _, _], _ => rfl
  have F34 := fun_mk (st := s__law_bag) l34 c34 k34
  have b34 := F34.binds (ps := ["script"]) fun _ _ _ _ _ _ us hl => match us, hl with | [_], _ => rfl
  have F35 := fun_mk (st := s__law_draw) l35 c35 k35
  have b35 := F35.binds (ps := ["bag", "many"]) fun _ _ _ _ _ _ us hl => match us, hl with | [_, _], _ => rfl
  have F36 := fun_mk (st := s__law_pick) l36 c36 k36
  have b36 := F36.binds (ps := ["bag", "items"]) fun _ _ _ _ _ _ us hl => match us, hl with | [_, _], _ => rfl
  have F37 := fun_mk (st := s__law_mixed) l37 c37 k37
  have b37 := F37.binds (ps := ["bag", "items"]) fun _ _ _ _ _ _ us hl => match us, hl with | [_, _], _ => rfl
  have F38 := fun_mk (st := s__law_list) l38 c38 k38
  have b38 := F38.binds (ps := ["bag", "n"]) fun _ _ _ _ _ _ us hl => match us, hl with | [_, _], _ => rfl
  have F39 := fun_mk (st := s__law_step) l39 c39 k39
  have b39 := F39.binds (ps := ["rule", "own", "letter"]) fun _ _ _ _ _ _ us hl => match us, hl with | [_, _, _], _ => rfl
  have F40 := fun_mk (st := s__law_went) l40 c40 k40
  have b40 := F40.binds (ps := ["rule", "own", "text"]) fun _ _ _ _ _ _ us hl => match us, hl with | [_, _, _], _ => rfl
  have F41 := fun_mk (st := s__law_apart) l41 c41 k41
  have b41 := F41.binds (ps := ["one", "other"]) fun _ _ _ _ _ _ us hl => match us, hl with | [_, _], _ => rfl
  have F42 := fun_mk (st := s__law_is_list) l42 c42 k42
  have b42 := F42.binds (ps := ["n", "value"]) fun _ _ _ _ _ _ us hl => match us, hl with | [_, _], _ => rfl
  have F43 := fun_mk (st := s__law_are_letters) l43 c43 k43
  have b43 := F43.binds (ps := ["n", "value"]) fun _ _ _ _ _ _ us hl => match us, hl with | [_, _], _ => rfl
  have F44 := fun_mk (st := s__law_is_text) l44 c44 k44
  have b44 := F44.binds (ps := ["n", "value"]) fun _ _ _ _ _ _ us hl => match us, hl with | [_, _], _ => rfl
  have F45 := fun_mk (st := s__law_begins) l45 c45 k45
  have b45 := F45.binds (ps := ["rule"]) fun _ _ _ _ _ _ us hl => match us, hl with | [_], _ => rfl
  have F46 := fun_mk (st := s__law_fronts) l46 c46 k46
  have b46 := F46.binds (ps := ["rule"]) fun _ _ _ _ _ _ us hl => match us, hl with | [_], _ => rfl
  have F47 := fun_mk (st := s__law_rule) l47 c47 k47
  have b47 := F47.binds (ps := ["bag", "n"]) fun _ _ _ _ _ _ us hl => match us, hl with | [_, _], _ => rfl
  have F48 := fun_mk (st := s__law_small) l48 c48 k48
  have b48 := F48.binds (ps := ["bag", "n"]) fun _ _ _ _ _ _ us hl => match us, hl with | [_, _], _ => rfl
  have F49 := fun_mk (st := s__law_within) l49 c49 k49
  have b49 := F49.binds (ps := ["bag", "rule", "own"]) fun _ _ _ _ _ _ us hl => match us, hl with | [_, _, _], _ => rfl
  have F50 := fun_mk (st := s__law_gain_fault) l50 c50 k50
  have b50 := F50.binds (ps := ["rule", "value"]) fun _ _ _ _ _ _ us hl => match us, hl with | [_, _], _ => rfl
  have F51 := fun_mk (st := s__law_gap_fault) l51 c51 k51
  have b51 := F51.binds (ps := ["rule", "one", "other", "value"]) fun _ _ _ _ _ _ us hl => match us, hl with | [_, _, _, _], _ => rfl
  refine ⟨PySem.W.fnOf "law" "law" (defArgs s_law) (defBody s_law) (defScope s_law) .none kV52 dc52 pm52 an52 cd52 ct52, fun s v => .of_eq rfl, fun base _ _ => ?_⟩
  have C0 : Cal l.prog w K mg base 1 "is_number" ["value"] [] sp_is_number := ⟨⟨_, _, ok_is_number F0 T, PySem.W.mg_of X G a0, k0, b0, fun q h => nomatch h⟩⟩
  have C1 : Cal l.prog w K mg base 2 "is_within" ["value", "least", "most"] [] sp_is_within := ⟨⟨_, _, ok_is_within F1 T C0, PySem.W.mg_of X G a1, k1, b1, fun q h => nomatch h⟩⟩
  have C2 : Cal l.prog w K mg base 2 "is_same" ["value", "wanted"] [] sp_is_same := ⟨⟨_, _, ok_is_same F2 T C0, PySem.W.mg_of X G a2, k2, b2, fun q h => nomatch h⟩⟩
  have C3 : Cal l.prog w K mg base 1 "asked" ["rule", "order", "letter"] [] sp_asked := ⟨⟨_, _, ok_asked F3 T, PySem.W.mg_of X G a3, k3, b3, fun q h => nomatch h⟩⟩
  have C4 : Cal l.prog w K mg base 2 "run" ["rule", "order", "text"] [] sp_run := ⟨⟨_, _, ok_run F4 T C3, PySem.W.mg_of X G a4, k4, b4, fun q h => nomatch h⟩⟩
  have C5 : Cal l.prog w K mg base 1 "walls" ["rule"] [] sp_walls := ⟨⟨_, _, ok_walls F5 T, PySem.W.mg_of X G a5, k5, b5, fun q h => nomatch h⟩⟩
  have C6 : Cal l.prog w K mg base 2 "blocks" ["rule"] [] sp_blocks := ⟨⟨_, _, ok_blocks F6 T C5, PySem.W.mg_of X G a6, k6, b6, fun q h => nomatch h⟩⟩
  have C7 : Cal l.prog w K mg base 1 "own_rule" ["rule", "block"] [] sp_own_rule := ⟨⟨_, _, ok_own_rule F7 T, PySem.W.mg_of X G a7, k7, b7, fun q h => nomatch h⟩⟩
  have C8 : Cal l.prog w K mg base 3 "is_front" ["rule"] [] sp_is_front := ⟨⟨_, _, ok_is_front F8 T C6, PySem.W.mg_of X G a8, k8, b8, fun q h => nomatch h⟩⟩
  have C9 : Cal l.prog w K mg base 1 "_check_staying" ["own"] [] sp__check_staying := ⟨⟨_, _, ok__check_staying F9 T, PySem.W.mg_of X G a9, k9, b9, fun q h => nomatch h⟩⟩
  have C10 : Cal l.prog w K mg base 2 "kind_of" ["rule", "block"] [] sp_kind_of := ⟨⟨_, _, ok_kind_of F10 T C7 C9, PySem.W.mg_of X G a10, k10, b10, fun q h => nomatch h⟩⟩
  have C11 : Cal l.prog w K mg base 1 "_is_even" ["part"] [] sp__is_even := ⟨⟨_, _, ok__is_even F11 T, PySem.W.mg_of X G a11, k11, b11, fun q h => nomatch h⟩⟩
  have C12 : Cal l.prog w K mg base 2 "_least_part" ["kind", "own", "part"] [] sp__least_part := ⟨⟨_, _, ok__least_part F12 T C11, PySem.W.mg_of X G a12, k12, b12, fun q h => nomatch h⟩⟩
  have C13 : Cal l.prog w K mg base 3 "least_order" ["rule", "order"] [] sp_least_order := ⟨⟨_, _, ok_least_order F13 T C6 C10 C7 C12, PySem.W.mg_of X G a13, k13, b13, fun q h => nomatch h⟩⟩
  have C14 : Cal l.prog w K mg base 4 "comes_out" ["rule", "one", "other"] [] sp_comes_out := ⟨⟨_, _, ok_comes_out F14 T C13, PySem.W.mg_of X G a14, k14, b14, fun q h => nomatch h⟩⟩
  have C15 : Cal l.prog w K mg base 2 "places_of" ["rule", "order", "text"] [] sp_places_of := ⟨⟨_, _, ok_places_of F15 T C3, PySem.W.mg_of X G a15, k15, b15, fun q h => nomatch h⟩⟩
  have C16 : Cal l.prog w K mg base 2 "text_behind" ["rule", "order", "places"] [] sp_text_behind := ⟨⟨_, _, ok_text_behind F16 T C3, PySem.W.mg_of X G a16, k16, b16, fun q h => nomatch h⟩⟩
  have C17 : Cal l.prog w K mg base 3 "cost" ["rule", "order", "text"] [] sp_cost := ⟨⟨_, _, ok_cost F17 T C15, PySem.W.mg_of X G a17, k17, b17, fun q h => nomatch h⟩⟩
  have C18 : Cal l.prog w K mg base 3 "_stranger" ["n", "items"] [] sp__stranger := ⟨⟨_, _, ok__stranger F18 T C1, PySem.W.mg_of X G a18, k18, b18, fun q h => nomatch h⟩⟩
  have C19 : Cal l.prog w K mg base 4 "order_error" ["n", "value"] [] sp_order_error := ⟨⟨_, _, ok_order_error F19 T C18, PySem.W.mg_of X G a19, k19, b19, fun q h => nomatch h⟩⟩
  have C20 : Cal l.prog w K mg base 4 "text_error" ["n", "value"] [] sp_text_error := ⟨⟨_, _, ok_text_error F20 T C18, PySem.W.mg_of X G a20, k20, b20, fun q h => nomatch h⟩⟩
  have C21 : Cal l.prog w K mg base 3 "_late_place" ["rule"] [] sp__late_place := ⟨⟨_, _, ok__late_place F21 T C6, PySem.W.mg_of X G a21, k21, b21, fun q h => nomatch h⟩⟩
  have C22 : Cal l.prog w K mg base 1 "_places_to_front" ["rule", "late"] [] sp__places_to_front := ⟨⟨_, _, ok__places_to_front F22 T, PySem.W.mg_of X G a22, k22, b22, fun q h => nomatch h⟩⟩
  have C23 : Cal l.prog w K mg base 4 "gains" ["rule"] [] sp_gains := ⟨⟨_, _, ok_gains F23 T C8 C21 C16 C22, PySem.W.mg_of X G a23, k23, b23, fun q h => nomatch h⟩⟩
  have C24 : Cal l.prog w K mg base 5 "gains_error" ["rule", "value"] [] sp_gains_error := ⟨⟨_, _, ok_gains_error F24 T C19 C20 C4 C17, PySem.W.mg_of X G a24, k24, b24, fun q h => nomatch h⟩⟩
  have C25 : Cal l.prog w K mg base 1 "view" ["one", "other"] [] sp_view := ⟨⟨_, _, ok_view F25 T, PySem.W.mg_of X G a25, k25, b25, fun q h => nomatch h⟩⟩
  have C26 : Cal l.prog w K mg base 2 "unlike" ["one", "other"] [] sp_unlike := ⟨⟨_, _, ok_unlike F26 T C25, PySem.W.mg_of X G a26, k26, b26, fun q h => nomatch h⟩⟩
  have C27 : Cal l.prog w K mg base 5 "_check_bounded" ["rule", "one", "other"] [] sp__check_bounded := ⟨⟨_, _, ok__check_bounded F27 T C8 C14, PySem.W.mg_of X G a27, k27, b27, fun q h => nomatch h⟩⟩
  have C28 : Cal l.prog w K mg base 6 "gap" ["rule", "one", "other"] [] sp_gap := ⟨⟨_, _, ok_gap F28 T C27 C26, PySem.W.mg_of X G a28, k28, b28, fun q h => nomatch h⟩⟩
  have C29 : Cal l.prog w K mg base 6 "gap_text" ["rule", "one", "other"] [] sp_gap_text := ⟨⟨_, _, ok_gap_text F29 T C27, PySem.W.mg_of X G a29, k29, b29, fun q h => nomatch h⟩⟩
  have C30 : Cal l.prog w K mg base 1 "_begins" ["value", "many", "word"] [] sp__begins := ⟨⟨_, _, ok__begins F30 T, PySem.W.mg_of X G a30, k30, b30, fun q h => nomatch h⟩⟩
  have C31 : Cal l.prog w K mg base 7 "gap_paper" ["rule", "one", "other"] [(["other", "rule", "one"], [1, 2, 0])] sp_gap_paper := ⟨⟨_, _, ok_gap_paper F31 T C8 C23 C29 C28, PySem.W.mg_of X G a31, k31, b31, fun q h s ws hl => by
    obtain rfl := List.mem_singleton.mp h
    exact match ws, hl with | [_, _, _], _ => .of_eq rfl⟩⟩
  have C32 : Cal l.prog w K mg base 6 "_endless_error" ["rule", "value"] [] sp__endless_error := ⟨⟨_, _, ok__endless_error F32 T C30 C24, PySem.W.mg_of X G a32, k32, b32, fun q h => nomatch h⟩⟩
  have C33 : Cal l.prog w K mg base 7 "gap_paper_error" ["rule", "one", "other", "value"] [] sp_gap_paper_error := ⟨⟨_, _, ok_gap_paper_error F33 T C8 C32 C28 C30 C2 C20 C17, PySem.W.mg_of X G a33, k33, b33, fun q h => nomatch h⟩⟩
  have C35 : Cal l.prog w K mg base 1 "_law_draw" ["bag", "many"] [] sp__law_draw := ⟨⟨_, _, ok__law_draw F35 T, PySem.W.mg_of X G a35, k35, b35, fun q h => nomatch h⟩⟩
  have C36 : Cal l.prog w K mg base 2 "_law_pick" ["bag", "items"] [] sp__law_pick := ⟨⟨_, _, ok__law_pick F36 T C35, PySem.W.mg_of X G a36, k36, b36, fun q h => nomatch h⟩⟩
  have C37 : Cal l.prog w K mg base 2 "_law_mixed" ["bag", "items"] [] sp__law_mixed := ⟨⟨_, _, ok__law_mixed F37 T C35, PySem.W.mg_of X G a37, k37, b37, fun q h => nomatch h⟩⟩
  have C38 : Cal l.prog w K mg base 3 "_law_list" ["bag", "n"] [] sp__law_list := ⟨⟨_, _, ok__law_list F38 T C37, PySem.W.mg_of X G a38, k38, b38, fun q h => nomatch h⟩⟩
  have C39 : Cal l.prog w K mg base 1 "_law_step" ["rule", "own", "letter"] [] sp__law_step := ⟨⟨_, _, ok__law_step F39 T, PySem.W.mg_of X G a39, k39, b39, fun q h => nomatch h⟩⟩
  have C40 : Cal l.prog w K mg base 2 "_law_went" ["rule", "own", "text"] [] sp__law_went := ⟨⟨_, _, ok__law_went F40 T C39, PySem.W.mg_of X G a40, k40, b40, fun q h => nomatch h⟩⟩
  have C41 : Cal l.prog w K mg base 1 "_law_apart" ["one", "other"] [] sp__law_apart := ⟨⟨_, _, ok__law_apart F41 T, PySem.W.mg_of X G a41, k41, b41, fun q h => nomatch h⟩⟩
  have C43 : Cal l.prog w K mg base 1 "_law_are_letters" ["n", "value"] [] sp__law_are_letters := ⟨⟨_, _, ok__law_are_letters F43 T, PySem.W.mg_of X G a43, k43, b43, fun q h => nomatch h⟩⟩
  have C42 : Cal l.prog w K mg base 2 "_law_is_list" ["n", "value"] [] sp__law_is_list := ⟨⟨_, _, ok__law_is_list F42 T C43, PySem.W.mg_of X G a42, k42, b42, fun q h => nomatch h⟩⟩
  have C44 : Cal l.prog w K mg base 2 "_law_is_text" ["n", "value"] [] sp__law_is_text := ⟨⟨_, _, ok__law_is_text F44 T C43, PySem.W.mg_of X G a44, k44, b44, fun q h => nomatch h⟩⟩
  have C45 : Cal l.prog w K mg base 1 "_law_begins" ["rule"] [] sp__law_begins := ⟨⟨_, _, ok__law_begins F45 T, PySem.W.mg_of X G a45, k45, b45, fun q h => nomatch h⟩⟩
  have C46 : Cal l.prog w K mg base 2 "_law_fronts" ["rule"] [] sp__law_fronts := ⟨⟨_, _, ok__law_fronts F46 T C45, PySem.W.mg_of X G a46, k46, b46, fun q h => nomatch h⟩⟩
  have C47 : Cal l.prog w K mg base 2 "_law_rule" ["bag", "n"] [] sp__law_rule := ⟨⟨_, _, ok__law_rule F47 T C35, PySem.W.mg_of X G a47, k47, b47, fun q h => nomatch h⟩⟩
  have C48 : Cal l.prog w K mg base 2 "_law_small" ["bag", "n"] [] sp__law_small := ⟨⟨_, _, ok__law_small F48 T C35, PySem.W.mg_of X G a48, k48, b48, fun q h => nomatch h⟩⟩
  have C49 : Cal l.prog w K mg base 3 "_law_within" ["bag", "rule", "own"] [] sp__law_within := ⟨⟨_, _, ok__law_within F49 T C45 C37, PySem.W.mg_of X G a49, k49, b49, fun q h => nomatch h⟩⟩
  have C50 : Cal l.prog w K mg base 3 "_law_gain_fault" ["rule", "value"] [] sp__law_gain_fault := ⟨⟨_, _, ok__law_gain_fault F50 T C42 C44 C40, PySem.W.mg_of X G a50, k50, b50, fun q h => nomatch h⟩⟩
  have C51 : Cal l.prog w K mg base 4 "_law_gap_fault" ["rule", "one", "other", "value"] [] sp__law_gap_fault := ⟨⟨_, _, ok__law_gap_fault F51 T C46 C50 C41 C44 C40, PySem.W.mg_of X G a51, k51, b51, fun q h => nomatch h⟩⟩
  exact ok_law (fun_mk (st := s_law) l52 c52 k52) T (ok__law_bag F34 T) (PySem.W.mg_of X G a34) k34 b34 C36 C48 C47 C38 C46 C49 C31 C51 C33
end Kx
open PySem PySem.W PyProof.Rows in
set_option maxRecDepth 100000 in
set_option maxHeartbeats 0 in
theorem PySem.Challenge.cw_forwardlists_k65_whole_gap_papers_judged_holds : PySem.Challenge.rw_forwardlists_k65_whole_gap_papers_judged.Holds := by
  w_on; o_law; k_head; (case hw => w_witness2)
  k_fill
  refine Mx.walk_G (k := 8) (l := PySem.Challenge.rw_forwardlists_k65_whole_gap_papers_judged) rfl rfl ⟨rfl, by decide, by decide⟩ (fun w h Y => PySem.W.kIn_of Y) ?F
  case F =>
    intro w mg fa h KX G hmg
    refine' Kx.all_mk KX G hmg ?a0 ?l0 ?c0 ?k0 ?a1 ?l1 ?c1 ?k1 ?a2 ?l2 ?c2 ?k2 ?a3 ?l3 ?c3 ?k3 ?a4 ?l4 ?c4 ?k4 ?a5 ?l5 ?c5 ?k5 ?a6 ?l6 ?c6 ?k6 ?a7 ?l7 ?c7 ?k7 ?a8 ?l8 ?c8 ?k8 ?a9 ?l9 ?c9 ?k9 ?a10 ?l10 ?c10 ?k10 ?a11 ?l11 ?c11 ?k11 ?a12 ?l12 ?c12 ?k12 ?a13 ?l13 ?c13 ?k13 ?a14 ?l14 ?c14 ?k14 ?a15 ?l15 ?c15 ?k15 ?a16 ?l16 ?c16 ?k16 ?a17 ?l17 ?c17 ?k17 ?a18 ?l18 ?c18 ?k18 ?a19 ?l19 ?c19 ?k19 ?a20 ?l20 ?c20 ?k20 ?a21 ?l21 ?c21 ?k21 ?a22 ?l22 ?c22 ?k22 ?a23 ?l23 ?c23 ?k23 ?a24 ?l24 ?c24 ?k24 ?a25 ?l25 ?c25 ?k25 ?a26 ?l26 ?c26 ?k26 ?a27 ?l27 ?c27 ?k27 ?a28 ?l28 ?c28 ?k28 ?a29 ?l29 ?c29 ?k29 ?a30 ?l30 ?c30 ?k30 ?a31 ?l31 ?c31 ?k31 ?a32 ?l32 ?c32 ?k32 ?a33 ?l33 ?c33 ?k33 ?a34 ?l34 ?c34 ?k34 ?a35 ?l35 ?c35 ?k35 ?a36 ?l36 ?c36 ?k36 ?a37 ?l37 ?c37 ?k37 ?a38 ?l38 ?c38 ?k38 ?a39 ?l39 ?c39 ?k39 ?a40 ?l40 ?c40 ?k40 ?a41 ?l41 ?c41 ?k41 ?a42 ?l42 ?c42 ?k42 ?a43 ?l43 ?c43 ?k43 ?a44 ?l44 ?c44 ?k44 ?a45 ?l45 ?c45 ?k45 ?a46 ?l46 ?c46 ?k46 ?a47 ?l47 ?c47 ?k47 ?a48 ?l48 ?c48 ?k48 ?a49 ?l49 ?c49 ?k49 ?a50 ?l50 ?c50 ?k50 ?a51 ?l51 ?c51 ?k51 ?a52 ?l52 ?c52 ?k52 ?zabs ?zall ?zbool ?zenumerate ?zint ?zisinstance ?zlen ?zlist ?zmax ?zmin ?zrange ?zrepr ?zsorted ?zstr ?zsum ?ztuple ?zzip ?yMAX_STAYING ?xMAX_STAYING ?yMAX_TEXT ?xMAX_TEXT ?yODD_RULES ?xODD_RULES
    (case a0 => k_is)
    (case l0 => k_is)
    (case c0 => k_is)
    (case k0 => k_is)
    (case a1 => k_is)
    (case l1 => k_is)
    (case c1 => k_is)
    (case k1 => k_is)
    (case a2 => k_is)
    (case l2 => k_is)
    (case c2 => k_is)
    (case k2 => k_is)
    (case a3 => k_is)
    (case l3 => k_is)
    (case c3 => k_is)
    (case k3 => k_is)
    (case a4 => k_is)
    (case l4 => k_is)
    (case c4 => k_is)
    (case k4 => k_is)
    (case a5 => k_is)
    (case l5 => k_is)
    (case c5 => k_is)
    (case k5 => k_is)
    (case a6 => k_is)
    (case l6 => k_is)
    (case c6 => k_is)
    (case k6 => k_is)
    (case a7 => k_is)
    (case l7 => k_is)
    (case c7 => k_is)
    (case k7 => k_is)
    (case a8 => k_is)
    (case l8 => k_is)
    (case c8 => k_is)
    (case k8 => k_is)
    (case a9 => k_is)
    (case l9 => k_is)
    (case c9 => k_is)
    (case k9 => k_is)
    (case a10 => k_is)
    (case l10 => k_is)
    (case c10 => k_is)
    (case k10 => k_is)
    (case a11 => k_is)
    (case l11 => k_is)
    (case c11 => k_is)
    (case k11 => k_is)
    (case a12 => k_is)
    (case l12 => k_is)
    (case c12 => k_is)
    (case k12 => k_is)
    (case a13 => k_is)
    (case l13 => k_is)
    (case c13 => k_is)
    (case k13 => k_is)
    (case a14 => k_is)
    (case l14 => k_is)
    (case c14 => k_is)
    (case k14 => k_is)
    (case a15 => k_is)
    (case l15 => k_is)
    (case c15 => k_is)
    (case k15 => k_is)
    (case a16 => k_is)
    (case l16 => k_is)
    (case c16 => k_is)
    (case k16 => k_is)
    (case a17 => k_is)
    (case l17 => k_is)
    (case c17 => k_is)
    (case k17 => k_is)
    (case a18 => k_is)
    (case l18 => k_is)
    (case c18 => k_is)
    (case k18 => k_is)
    (case a19 => k_is)
    (case l19 => k_is)
    (case c19 => k_is)
    (case k19 => k_is)
    (case a20 => k_is)
    (case l20 => k_is)
    (case c20 => k_is)
    (case k20 => k_is)
    (case a21 => k_is)
    (case l21 => k_is)
    (case c21 => k_is)
    (case k21 => k_is)
    (case a22 => k_is)
    (case l22 => k_is)
    (case c22 => k_is)
    (case k22 => k_is)
    (case a23 => k_is)
    (case l23 => k_is)
    (case c23 => k_is)
    (case k23 => k_is)
    (case a24 => k_is)
    (case l24 => k_is)
    (case c24 => k_is)
    (case k24 => k_is)
    (case a25 => k_is)
    (case l25 => k_is)
    (case c25 => k_is)
    (case k25 => k_is)
    (case a26 => k_is)
    (case l26 => k_is)
    (case c26 => k_is)
    (case k26 => k_is)
    (case a27 => k_is)
    (case l27 => k_is)
    (case c27 => k_is)
    (case k27 => k_is)
    (case a28 => k_is)
    (case l28 => k_is)
    (case c28 => k_is)
    (case k28 => k_is)
    (case a29 => k_is)
    (case l29 => k_is)
    (case c29 => k_is)
    (case k29 => k_is)
    (case a30 => k_is)
    (case l30 => k_is)
    (case c30 => k_is)
    (case k30 => k_is)
    (case a31 => k_is)
    (case l31 => k_is)
    (case c31 => k_is)
    (case k31 => k_is)
    (case a32 => k_is)
    (case l32 => k_is)
    (case c32 => k_is)
    (case k32 => k_is)
    (case a33 => k_is)
    (case l33 => k_is)
    (case c33 => k_is)
    (case k33 => k_is)
    (case a34 => k_is)
    (case l34 => k_is)
    (case c34 => k_is)
    (case k34 => k_is)
    (case a35 => k_is)
    (case l35 => k_is)
    (case c35 => k_is)
    (case k35 => k_is)
    (case a36 => k_is)
    (case l36 => k_is)
    (case c36 => k_is)
    (case k36 => k_is)
    (case a37 => k_is)
    (case l37 => k_is)
    (case c37 => k_is)
    (case k37 => k_is)
    (case a38 => k_is)
    (case l38 => k_is)
    (case c38 => k_is)
    (case k38 => k_is)
    (case a39 => k_is)
    (case l39 => k_is)
    (case c39 => k_is)
    (case k39 => k_is)
    (case a40 => k_is)
    (case l40 => k_is)
    (case c40 => k_is)
    (case k40 => k_is)
    (case a41 => k_is)
    (case l41 => k_is)
    (case c41 => k_is)
    (case k41 => k_is)
    (case a42 => k_is)
    (case l42 => k_is)
    (case c42 => k_is)
    (case k42 => k_is)
    (case a43 => k_is)
    (case l43 => k_is)
    (case c43 => k_is)
    (case k43 => k_is)
    (case a44 => k_is)
    (case l44 => k_is)
    (case c44 => k_is)
    (case k44 => k_is)
    (case a45 => k_is)
    (case l45 => k_is)
    (case c45 => k_is)
    (case k45 => k_is)
    (case a46 => k_is)
    (case l46 => k_is)
    (case c46 => k_is)
    (case k46 => k_is)
    (case a47 => k_is)
    (case l47 => k_is)
    (case c47 => k_is)
    (case k47 => k_is)
    (case a48 => k_is)
    (case l48 => k_is)
    (case c48 => k_is)
    (case k48 => k_is)
    (case a49 => k_is)
    (case l49 => k_is)
    (case c49 => k_is)
    (case k49 => k_is)
    (case a50 => k_is)
    (case l50 => k_is)
    (case c50 => k_is)
    (case k50 => k_is)
    (case a51 => k_is)
    (case l51 => k_is)
    (case c51 => k_is)
    (case k51 => k_is)
    (case a52 => k_is)
    (case l52 => k_is)
    (case c52 => k_is)
    (case k52 => k_is)
    (case zabs => k_is)
    (case zall => k_is)
    (case zbool => k_is)
    (case zenumerate => k_is)
    (case zint => k_is)
    (case zisinstance => k_is)
    (case zlen => k_is)
    (case zlist => k_is)
    (case zmax => k_is)
    (case zmin => k_is)
    (case zrange => k_is)
    (case zrepr => k_is)
    (case zsorted => k_is)
    (case zstr => k_is)
    (case zsum => k_is)
    (case ztuple => k_is)
    (case zzip => k_is)
    (case yMAX_STAYING => k_is)
    (case xMAX_STAYING => rfl)
    (case yMAX_TEXT => k_is)
    (case xMAX_TEXT => rfl)
    (case yODD_RULES => k_is)
    (case xODD_RULES => rfl)
