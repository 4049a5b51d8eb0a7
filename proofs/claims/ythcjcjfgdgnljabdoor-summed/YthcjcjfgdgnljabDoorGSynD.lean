/-
  Base, MacA, SynA, SynB, AppK, SynC, SynD: one behind the other.
-/
import Derived.Test.YthcjcjfgdgnljabDoorProg
import Derived.WalkKit
import Derived.WalkSpells
import Derived.WalkLawsBesides
import Derived.Deep.QuietTactic
import Derived.BigQuiet
import Derived.Deep.RegionWith
import Derived.Deep.DeepAppendWide
import Derived.Deep.DeepCutAuto
import Derived.Deep.RegionHeldLaw
import Derived.Deep.RegionLaw
import Derived.Deep.LoopGhost
namespace Go.Proofs.YthcjcjfgdgnljabDoor
open Go.RowKit

/-- From w to w' only new blocks came, and of the old ones only those of S may have turned. -/
structure Fr (S : Nat → Prop) (w w' : World) : Prop where
  os : w'.os = w.os
  tape : w'.tape = w.tape
  output : w'.output = w.output
  size : w.heap.size ≤ w'.heap.size
  block : ∀ k, k < w.heap.size → ¬ S k → w'.heap[k]? = w.heap[k]?

def NoB : Nat → Prop := fun _ => False
def OneB (r : Nat) : Nat → Prop := fun k => k = r

theorem Fr.refl (S : Nat → Prop) (w : World) : Fr S w w := ⟨rfl, rfl, rfl, Nat.le_refl _, fun _ _ _ => rfl⟩
theorem Fr.trans {S : Nat → Prop} {a b c : World} (h : Fr S a b) (k : Fr S b c) : Fr S a c :=
  ⟨k.os.trans h.os, k.tape.trans h.tape, k.output.trans h.output, Nat.le_trans h.size k.size,
    fun i hi hs => (k.block i (Nat.lt_of_lt_of_le hi h.size) hs).trans (h.block i hi hs)⟩
theorem Fr.mono {S T : Nat → Prop} {w w' : World} (h : Fr S w w') (hst : ∀ k, k < w.heap.size → S k → T k) : Fr T w w' :=
  ⟨h.os, h.tape, h.output, h.size, fun k hk ht => h.block k hk (fun hs => ht (hst k hk hs))⟩
theorem Fr.of_no {T : Nat → Prop} {w w' : World} (h : Fr NoB w w') : Fr T w w' := h.mono (fun _ _ hs => hs.elim)
/-- Two stretches: what the second may turn is new, or one of S. -/
theorem Fr.then {S T : Nat → Prop} {a b c : World} (h : Fr S a b) (k : Fr T b c) (hT : ∀ i, i < a.heap.size → T i → S i) : Fr S a c :=
  ⟨k.os.trans h.os, k.tape.trans h.tape, k.output.trans h.output, Nat.le_trans h.size k.size,
    fun i hi hs => (k.block i (Nat.lt_of_lt_of_le hi h.size) (fun ht => hs (hT i hi ht))).trans (h.block i hi hs)⟩
theorem Fr.drew {S : Nat → Prop} {a w : World} (h : Fr S a w) : Fr S a w.drew := ⟨h.os, h.tape, h.output, h.size, h.block⟩
theorem Fr.alloc {S : Nat → Prop} {a w : World} (h : Fr S a w) (o : Obj) : Fr S a (w.alloc o) :=
  h.trans ⟨rfl, rfl, rfl, by simp, fun k hk _ => Below.heap_alloc _ _ _ hk⟩
theorem Fr.setCell {S : Nat → Prop} {a w : World} (h : Fr S a w) {p : Addr} (hp : p.block < a.heap.size → S p.block) (u : Value) : Fr S a (w.setCell p u) :=
  ⟨h.os, h.tape, h.output, by simpa [World.setCell] using h.size, fun k hk hs =>
    (Below.heap_setCell _ _ _ _ (fun e => hs (by subst e; exact hp hk))).trans (h.block k hk hs)⟩
theorem Fr.of_grown {S : Nat → Prop} {w w' : World} {row : Option Nat} (h : w.grownBy w' row) (hr : ∀ k, k < w.heap.size → row = some k → S k) : Fr S w w' :=
  ⟨h.os, h.tape, h.output, h.size, fun k hk hs => h.block k hk (fun e => hs (hr k hk e.symm))⟩
theorem Fr.below {S : Nat → Prop} {w w' : World} (h : Fr S w w') {B : Nat} (hB : B ≤ w.heap.size) (hS : ∀ k, k < B → ¬ S k) : Below B w w' :=
  ⟨h.os, h.tape, h.output, h.size, fun k hk => h.block k (by omega) (hS k hk)⟩
theorem Fr.of_below {w w' : World} (h : Below w.heap.size w w') : Fr NoB w w' :=
  ⟨h.os, h.tape, h.output, h.size, fun k hk _ => h.block k hk⟩
theorem Fr.cell {S : Nat → Prop} {w w' : World} (h : Fr S w w') {p : Addr} (hp : p.block < w.heap.size) (hS : ¬ S p.block) : w'.cell? p = w.cell? p :=
  World.cell?_of_block (w := w) (h.block p.block hp hS)
theorem Fr.frozen {S : Nat → Prop} {w w' : World} (h : Fr S w w') {p : Addr} (hp : p.block < w.heap.size) (hS : ¬ S p.block) : w'.frozen? p = w.frozen? p :=
  World.frozen?_of_block (w := w) (h.block p.block hp hS)
theorem Fr.cell_some {S : Nat → Prop} {w w' : World} (h : Fr S w w') {p : Addr} {v : Value} (hc : w.cell? p = some v) (hS : ¬ S p.block) : w'.cell? p = some v :=
  (h.cell (World.block_lt_of_cell? w p hc) hS).trans hc
theorem Fr.owns {S : Nat → Prop} {w w' : World} {base : Nat} {e : TypeId} {size : Nat} {v : Value} {n : Nat} {xs : List Value} (h : Fr S w w')
    (ho : w.ownsRow base e size v n xs) (hS : ∀ k, v.ownBlock = some k → ¬ S k) : w'.ownsRow base e size v n xs := by
  refine ⟨ho.1, ?_⟩
  rcases ho.2 with hn | ⟨g, cap, cur, rfl, hb, hgg, rest⟩
  · exact .inl hn
  · refine .inr ⟨g, cap, cur, rfl, hb, ?_, rest⟩
    rw [h.block g (Array.getElem?_eq_some_iff.1 hgg).1 (hS g rfl)]
    exact hgg

/-- A heap of the program, in memory: the pointer's block p, the words' block r, n words, of each its block's mark and its value. -/
structure HeapAt (w : World) (p r n : Nat) (B V : Nat → Int) : Prop where
  lo : 1 ≤ n
  hi : n ≤ 4096
  ne : p ≠ r
  ptr : w.cell? ⟨p, 0, none⟩ = some (.slice (some ⟨r, 0, none⟩) n n)
  blk : ∀ i, i < n → w.cell? ⟨r, i * 2, none⟩ = some (.int .i64 (B i))
  val : ∀ i, i < n → w.cell? ⟨r, i * 2 + 1, none⟩ = some (.int .i64 (V i))
  frz : ∀ o, w.frozen? ⟨r, o, none⟩ = false
  b0 : ∀ i, i < n → 0 ≤ B i
  b1 : ∀ i, i < n → B i ≤ i + 1

theorem HeapAt.pl {w : World} {p r n : Nat} {B V : Nat → Int} (h : HeapAt w p r n B V) : p < w.heap.size := World.block_lt_of_cell? w _ h.ptr
theorem HeapAt.rl {w : World} {p r n : Nat} {B V : Nat → Int} (h : HeapAt w p r n B V) : r < w.heap.size := World.block_lt_of_cell? w _ (h.blk 0 (by have := h.lo; omega))
theorem HeapAt.fr {S : Nat → Prop} {w w' : World} {p r n : Nat} {B V : Nat → Int} (h : HeapAt w p r n B V) (hf : Fr S w w') (hp : ¬ S p) (hr : ¬ S r) : HeapAt w' p r n B V :=
  ⟨h.lo, h.hi, h.ne, hf.cell_some h.ptr hp, fun i hi => hf.cell_some (h.blk i hi) hr, fun i hi => hf.cell_some (h.val i hi) hr,
    fun o => (hf.frozen (p := ⟨r, o, none⟩) h.rl hr).trans (h.frz o), h.b0, h.b1⟩
theorem HeapAt.no {w w' : World} {p r n : Nat} {B V : Nat → Int} (h : HeapAt w p r n B V) (hf : Fr NoB w w') : HeapAt w' p r n B V := h.fr hf id id
theorem HeapAt.congr {w : World} {p r n : Nat} {B V B' V' : Nat → Int} (h : HeapAt w p r n B V) (hb : ∀ i, i < n → B' i = B i) (hv : ∀ i, i < n → V' i = V i) : HeapAt w p r n B' V' :=
  ⟨h.lo, h.hi, h.ne, h.ptr, fun i hi => by rw [hb i hi]; exact h.blk i hi, fun i hi => by rw [hv i hi]; exact h.val i hi, h.frz,
    fun i hi => by rw [hb i hi]; exact h.b0 i hi, fun i hi => by rw [hb i hi]; exact h.b1 i hi⟩

def upd (f : Nat → Int) (k : Nat) (v : Int) : Nat → Int := fun i => if i = k then v else f i
theorem upd_at (f : Nat → Int) (k : Nat) (v : Int) : upd f k v k = v := by simp [upd]
theorem upd_ne (f : Nat → Int) {k i : Nat} (v : Int) (h : i ≠ k) : upd f k v i = f i := by simp [upd, h]

theorem cell_other {w : World} {b o c q : Nat} {u : Value} (h : b ≠ c ∨ o ≠ q) : (w.setCell ⟨b, o, none⟩ u).cell? ⟨c, q, none⟩ = w.cell? ⟨c, q, none⟩ :=
  World.cell?_setCell_other _ _ _ _ (fun e => by injection e with e1 e2; rcases h with h | h <;> contradiction)
theorem cell_same {w : World} {b o : Nat} {u v : Value} (h : w.cell? ⟨b, o, none⟩ = some v) : (w.setCell ⟨b, o, none⟩ u).cell? ⟨b, o, none⟩ = some u :=
  World.cell?_setCell_same _ _ _ h

theorem two_set {w : World} {b : Nat} {x0 x1 u0 u1 : Value} (h0 : w.cell? ⟨b, 0, none⟩ = some x0) (h1 : w.cell? ⟨b, 1, none⟩ = some x1) :
    ((w.setCell ⟨b, 0, none⟩ u0).setCell ⟨b, 1, none⟩ u1).cell? ⟨b, 0, none⟩ = some u0 ∧ ((w.setCell ⟨b, 0, none⟩ u0).setCell ⟨b, 1, none⟩ u1).cell? ⟨b, 1, none⟩ = some u1 :=
  ⟨(cell_other (.inr (by omega))).trans (cell_same h0), cell_same ((cell_other (.inr (by omega))).trans h1)⟩

theorem HeapAt.setVal {w : World} {p r n : Nat} {B V : Nat → Int} (h : HeapAt w p r n B V) {k : Nat} (hk : k < n) (u : Int) : HeapAt (w.setCell ⟨r, k * 2 + 1, none⟩ (.int .i64 u)) p r n B (upd V k u) :=
  ⟨h.lo, h.hi, h.ne, (cell_other (.inl (Ne.symm h.ne))).trans h.ptr, fun i hi => (cell_other (.inr (by omega))).trans (h.blk i hi),
    fun i hi => by
      by_cases e : i = k
      · subst e; rw [upd_at]; exact cell_same (h.val i hi)
      · rw [upd_ne _ _ e]; exact (cell_other (.inr (by omega))).trans (h.val i hi),
    fun o => by rw [World.frozen?_setCell]; exact h.frz o, h.b0, h.b1⟩
theorem HeapAt.setBlk {w : World} {p r n : Nat} {B V : Nat → Int} (h : HeapAt w p r n B V) {k : Nat} (hk : k < n) (u : Int) (h0 : 0 ≤ u) (h1 : u ≤ k + 1) : HeapAt (w.setCell ⟨r, k * 2, none⟩ (.int .i64 u)) p r n (upd B k u) V :=
  ⟨h.lo, h.hi, h.ne, (cell_other (.inl (Ne.symm h.ne))).trans h.ptr,
    fun i hi => by
      by_cases e : i = k
      · subst e; rw [upd_at]; exact cell_same (h.blk i hi)
      · rw [upd_ne _ _ e]; exact (cell_other (.inr (by omega))).trans (h.blk i hi),
    fun i hi => (cell_other (.inr (by omega))).trans (h.val i hi),
    fun o => by rw [World.frozen?_setCell]; exact h.frz o,
    fun i hi => by
      by_cases e : i = k
      · subst e; rw [upd_at]; exact h0
      · rw [upd_ne _ _ e]; exact h.b0 i hi,
    fun i hi => by
      by_cases e : i = k
      · subst e; rw [upd_at]; exact h1
      · rw [upd_ne _ _ e]; exact h.b1 i hi⟩

theorem Fr.drewN {S : Nat → Prop} {a w : World} (h : Fr S a w) (n : Nat) : Fr S a (w.drewN n) := ⟨h.os, h.tape, h.output, h.size, h.block⟩
def pickZ (c : Int) (n : Nat) : Nat := if c < 0 then ((-(c + 1)) % (n : Int)).toNat else (c % (n : Int)).toNat
theorem pickZ_lt (c : Int) {n : Nat} (hn : 1 ≤ n) : pickZ c n < n := by
  unfold pickZ
  have hm1 := Int.emod_nonneg (-(c + 1)) (show (n : Int) ≠ 0 by omega)
  have hm2 := Int.emod_lt_of_pos (-(c + 1)) (show (0 : Int) < n by omega)
  have hm3 := Int.emod_nonneg c (show (n : Int) ≠ 0 by omega)
  have hm4 := Int.emod_lt_of_pos c (show (0 : Int) < n by omega)
  split <;> omega

/-- an answer: true just if P -/
def Says (P : Prop) (e : Ending) : Prop := ∃ b : Bool, e = .returned (.bool b) ∧ (b = true ↔ P)
/-- a word that is in a block -/
def takenB (B : Nat → Int) (n : Nat) (at_ : Int) : Bool := decide (0 ≤ at_) && decide (at_ < n) && decide (B at_.toNat ≠ 0)

end Go.Proofs.YthcjcjfgdgnljabDoor

namespace Go.Proofs.YthcjcjfgdgnljabDoor
set_option linter.unusedVariables false

/-- an operand: a number, or a value -/
inductive Od where
  | n (k : Nat)
  | v (x : Nat)
/-- a sentence without braces -/
inductive Ac where
  | set (v : Nat) (o : Od)
  | bin (v : Nat) (o : Od) (c : Nat) (p : Od)
  | load (v b : Nat) (o : Od)
  | size (v b : Nat)
  | make (b : Nat) (o : Od)
  | move (b c : Nat)
  | store (b : Nat) (o p : Od)
  | drop (b : Nat)
  | print (o : Od)
/-- sentences, one behind the other -/
inductive Pg where
  | nil
  | act (a : Ac) (r : Pg)
  | ite (o : Od) (p q r : Pg)
  | loop (o : Od) (p r : Pg)

/-- a run: numbers, boxes' words (none: the box is empty), where the blocks begin, steps left, how it ends, what was printed, the greatest word and 1 -/
structure St where
  num : Nat → Nat
  bx : Nat → List Nat
  at_ : Nat → Nat
  left : Nat
  status : Nat
  tr : List Nat
  peak : Nat
/-- how it runs: strictly or not; where a block is made -/
structure Cf where
  strict : Bool
  al : St → Nat → Option Nat

def upN (f : Nat → Nat) (k v : Nat) : Nat → Nat := fun i => if i = k then v else f i
theorem upN_at (f : Nat → Nat) (k v : Nat) : upN f k v k = v := by simp [upN]
theorem upN_ne (f : Nat → Nat) {k i : Nat} (v : Nat) (h : i ≠ k) : upN f k v i = f i := by simp [upN, h]
def upB (f : Nat → List Nat) (k : Nat) (v : List Nat) : Nat → List Nat := fun i => if i = k then v else f i
theorem upB_at (f : Nat → List Nat) (k : Nat) (v : List Nat) : upB f k v k = v := by simp [upB]
theorem upB_ne (f : Nat → List Nat) {k i : Nat} (v : List Nat) (h : i ≠ k) : upB f k v i = f i := by simp [upB, h]
theorem upB_self {f : Nat → List Nat} {k : Nat} {v : List Nat} (h : f k = v) : upB f k v = f := by
  funext i
  by_cases e : i = k
  · subst e; rw [upB_at, h]
  · rw [upB_ne _ _ e]

def valO (num : Nat → Nat) : Od → Nat
  | .n k => num k
  | .v x => x
/-- what comes out of two values; none: it traps -/
def binN (c x y : Nat) : Option Nat :=
  if c = 43 then some ((x + y) % 1000) else if c = 45 then some ((x + 1000 - y) % 1000) else if c = 42 then some (x * y % 1000)
  else if c = 47 then (if y = 0 then none else some (x / y)) else some (if x < y then 1 else 0)
/-- the digits of a number, f + 1 at most -/
def digF : Nat → Nat → List Nat
  | 0, n => [48 + n % 10]
  | f + 1, n => if n < 10 then [48 + n % 10] else digF f (n / 10) ++ [48 + n % 10]
def ends (σ : St) (k : Nat) : St × Bool := ({ σ with status := k }, false)
/-- does it count? -/
def isStep : Ac → Bool
  | .drop _ => false
  | _ => true
/-- a sentence is done: and does the run go on? -/
def act (c : Cf) : Ac → St → St × Bool
  | .set v o, σ => ({ σ with num := upN σ.num v (valO σ.num o) }, true)
  | .bin v o k p, σ => match binN k (valO σ.num o) (valO σ.num p) with
    | none => ends σ 1
    | some x => ({ σ with num := upN σ.num v x }, true)
  | .load v b o, σ => if σ.bx b = [] then ends σ 4 else if (σ.bx b).length ≤ valO σ.num o then ends σ 1 else ({ σ with num := upN σ.num v ((σ.bx b).getD (valO σ.num o) 0) }, true)
  | .size v b, σ => if σ.bx b = [] then ends σ 4 else ({ σ with num := upN σ.num v (σ.bx b).length }, true)
  | .make b o, σ => if c.strict = true ∧ σ.bx b ≠ [] then ends σ 4 else if valO σ.num o < 1 ∨ 64 < valO σ.num o then ends σ 1 else
      match c.al { σ with bx := upB σ.bx b [] } (valO σ.num o) with
      | none => ends { σ with bx := upB σ.bx b [] } 3
      | some a => ({ σ with bx := upB σ.bx b (List.replicate (valO σ.num o) 0), at_ := upN σ.at_ b a, peak := max σ.peak (a + valO σ.num o) }, true)
  | .move b d, σ => if σ.bx d = [] then ends σ 4 else if b = d then (σ, true) else if c.strict = true ∧ σ.bx b ≠ [] then ends σ 4
      else ({ σ with bx := upB (upB σ.bx b (σ.bx d)) d [], at_ := upN σ.at_ b (σ.at_ d) }, true)
  | .store b o p, σ => if σ.bx b = [] then ends σ 4 else if (σ.bx b).length ≤ valO σ.num o then ends σ 1 else ({ σ with bx := upB σ.bx b ((σ.bx b).set (valO σ.num o) (valO σ.num p)) }, true)
  | .drop b, σ => if σ.bx b = [] then ends σ 4 else ({ σ with bx := upB σ.bx b [] }, true)
  | .print o, σ => ({ σ with tr := σ.tr ++ digF 3 (valO σ.num o) ++ [59] }, true)
def due (σ : St) : St := { σ with left := σ.left - 1 }
def tire (σ : St) : St := { σ with status := 2 }
/-- a sentence without braces, its step counted -/
def stp (c : Cf) (a : Ac) (σ : St) : St × Bool := if isStep a = true then (if σ.left = 0 then (tire σ, false) else act c a (due σ)) else act c a σ

/-- sentences run from σ to σ'; and does the run go on? -/
inductive Ex (c : Cf) : Pg → St → St → Bool → Prop where
  | nil (σ : St) : Ex c .nil σ σ true
  | stop {a : Ac} {r : Pg} {σ σ' : St} (h : stp c a σ = (σ', false)) : Ex c (.act a r) σ σ' false
  | go {a : Ac} {r : Pg} {σ σ1 σ2 : St} {b : Bool} (h : stp c a σ = (σ1, true)) (hr : Ex c r σ1 σ2 b) : Ex c (.act a r) σ σ2 b
  | iteTired {o : Od} {p q r : Pg} {σ : St} (h : σ.left = 0) : Ex c (.ite o p q r) σ (tire σ) false
  | iteStop {o : Od} {p q r : Pg} {σ σ1 : St} (h : σ.left ≠ 0) (hp : Ex c (if valO σ.num o ≠ 0 then p else q) (due σ) σ1 false) : Ex c (.ite o p q r) σ σ1 false
  | iteGo {o : Od} {p q r : Pg} {σ σ1 σ2 : St} {b : Bool} (h : σ.left ≠ 0) (hp : Ex c (if valO σ.num o ≠ 0 then p else q) (due σ) σ1 true) (hr : Ex c r σ1 σ2 b) : Ex c (.ite o p q r) σ σ2 b
  | loopTired {o : Od} {p r : Pg} {σ : St} (h : σ.left = 0) : Ex c (.loop o p r) σ (tire σ) false
  | loopEnd {o : Od} {p r : Pg} {σ σ2 : St} {b : Bool} (h : σ.left ≠ 0) (h0 : valO σ.num o = 0) (hr : Ex c r (due σ) σ2 b) : Ex c (.loop o p r) σ σ2 b
  | loopStop {o : Od} {p r : Pg} {σ σ1 : St} (h : σ.left ≠ 0) (h0 : valO σ.num o ≠ 0) (hp : Ex c p (due σ) σ1 false) : Ex c (.loop o p r) σ σ1 false
  | loopGo {o : Od} {p r : Pg} {σ σ1 σ2 : St} {b : Bool} (h : σ.left ≠ 0) (h0 : valO σ.num o ≠ 0) (hp : Ex c p (due σ) σ1 true) (hr : Ex c (.loop o p r) σ1 σ2 b) : Ex c (.loop o p r) σ σ2 b

theorem act_left (c : Cf) (a : Ac) (σ : St) : (act c a σ).1.left = σ.left := by
  cases a <;> simp only [act]
  all_goals (repeat' split) <;> rfl
theorem stp_left (c : Cf) (a : Ac) (σ : St) : (stp c a σ).1.left ≤ σ.left := by
  unfold stp
  split
  · split
    · exact Nat.le_refl _
    · rw [act_left]; exact Nat.sub_le _ _
  · rw [act_left]; exact Nat.le_refl _
theorem Ex.left {c : Cf} {P : Pg} {σ σ' : St} {b : Bool} (h : Ex c P σ σ' b) : σ'.left ≤ σ.left := by
  induction h with
  | nil σ => exact Nat.le_refl _
  | @stop a r σ σ' h => have := stp_left c a σ; rw [h] at this; exact this
  | @go a r σ σ1 σ2 b h hr ih => have := stp_left c a σ; rw [h] at this; exact Nat.le_trans ih this
  | iteTired h => exact Nat.le_refl _
  | iteStop h hp ih => exact Nat.le_trans ih (Nat.sub_le _ _)
  | iteGo h hp hr ih1 ih2 => exact Nat.le_trans ih2 (Nat.le_trans ih1 (Nat.sub_le _ _))
  | loopTired h => exact Nat.le_refl _
  | loopEnd h h0 hr ih => exact Nat.le_trans ih (Nat.sub_le _ _)
  | loopStop h h0 hp ih => exact Nat.le_trans ih (Nat.sub_le _ _)
  | loopGo h h0 hp hr ih1 ih2 => exact Nat.le_trans ih2 (Nat.le_trans ih1 (Nat.sub_le _ _))
/-- every run ends -/
theorem Ex.total (c : Cf) : ∀ (n : Nat) (P : Pg) (σ : St), σ.left ≤ n → ∃ σ' b, Ex c P σ σ' b := by
  intro n
  induction n using Nat.strongRecOn with
  | _ n IH =>
    intro P
    induction P with
    | nil => exact fun σ _ => ⟨σ, true, .nil σ⟩
    | act a r ih =>
      intro σ h
      cases hs : stp c a σ with
      | mk σ1 b =>
        cases b
        · exact ⟨σ1, false, .stop hs⟩
        · have := stp_left c a σ
          rw [hs] at this
          obtain ⟨σ2, b, h2⟩ := ih σ1 (Nat.le_trans this h)
          exact ⟨σ2, b, .go hs h2⟩
    | ite o p q r ihp ihq ihr =>
      intro σ h
      by_cases h0 : σ.left = 0
      · exact ⟨_, _, .iteTired h0⟩
      · have hd : (due σ).left ≤ n := Nat.le_trans (Nat.sub_le _ _) h
        have : ∃ σ1 b, Ex c (if valO σ.num o ≠ 0 then p else q) (due σ) σ1 b := by
          split
          · exact ihp _ hd
          · exact ihq _ hd
        obtain ⟨σ1, b, h1⟩ := this
        cases b
        · exact ⟨_, _, .iteStop h0 h1⟩
        · obtain ⟨σ2, b, h2⟩ := ihr σ1 (Nat.le_trans h1.left hd)
          exact ⟨σ2, b, .iteGo h0 h1 h2⟩
    | loop o p r ihp ihr =>
      intro σ h
      by_cases h0 : σ.left = 0
      · exact ⟨_, _, .loopTired h0⟩
      · have hd : (due σ).left ≤ n := Nat.le_trans (Nat.sub_le _ _) h
        by_cases hv : valO σ.num o = 0
        · obtain ⟨σ2, b, h2⟩ := ihr (due σ) hd
          exact ⟨σ2, b, .loopEnd h0 hv h2⟩
        · obtain ⟨σ1, b, h1⟩ := ihp _ hd
          cases b
          · exact ⟨_, _, .loopStop h0 hv h1⟩
          · have hl := h1.left
            have hlt : σ1.left < n := Nat.lt_of_le_of_lt hl (by show σ.left - 1 < n; omega)
            obtain ⟨σ2, b, h2⟩ := IH σ1.left hlt (.loop o p r) σ1 (Nat.le_refl _)
            exact ⟨σ2, b, .loopGo h0 hv h1 h2⟩
theorem Ex.det {c : Cf} {P : Pg} {σ σ1 : St} {b1 : Bool} (h : Ex c P σ σ1 b1) : ∀ {σ2 : St} {b2 : Bool}, Ex c P σ σ2 b2 → σ2 = σ1 ∧ b2 = b1 := by
  induction h with
  | nil σ => intro σ2 b2 g; cases g; exact ⟨rfl, rfl⟩
  | stop h =>
    intro σ2 b2 g
    cases g with
    | stop h2 => rw [h] at h2; cases h2; exact ⟨rfl, rfl⟩
    | go h2 _ => rw [h] at h2; cases h2
  | go h hr ih =>
    intro σ2 b2 g
    cases g with
    | stop h2 => rw [h] at h2; cases h2
    | go h2 g2 => rw [h] at h2; cases h2; exact ih g2
  | iteTired h =>
    intro σ2 b2 g
    cases g with
    | iteTired _ => exact ⟨rfl, rfl⟩
    | iteStop h2 _ => exact absurd h h2
    | iteGo h2 _ _ => exact absurd h h2
  | iteStop h hp ih =>
    intro σ2 b2 g
    cases g with
    | iteTired h2 => exact absurd h2 h
    | iteStop h2 g2 => exact ih g2
    | iteGo h2 g2 _ => have := (ih g2).2; cases this
  | iteGo h hp hr ih1 ih2 =>
    intro σ2 b2 g
    cases g with
    | iteTired h2 => exact absurd h2 h
    | iteStop h2 g2 => have := (ih1 g2).2; cases this
    | iteGo h2 g2 g3 => have := (ih1 g2).1; subst this; exact ih2 g3
  | loopTired h =>
    intro σ2 b2 g
    cases g with
    | loopTired _ => exact ⟨rfl, rfl⟩
    | loopEnd h2 _ _ => exact absurd h h2
    | loopStop h2 _ _ => exact absurd h h2
    | loopGo h2 _ _ _ => exact absurd h h2
  | loopEnd h h0 hr ih =>
    intro σ2 b2 g
    cases g with
    | loopTired h2 => exact absurd h2 h
    | loopEnd _ _ g2 => exact ih g2
    | loopStop _ h2 _ => exact absurd h0 h2
    | loopGo _ h2 _ _ => exact absurd h0 h2
  | loopStop h h0 hp ih =>
    intro σ2 b2 g
    cases g with
    | loopTired h2 => exact absurd h2 h
    | loopEnd _ h2 _ => exact absurd h2 h0
    | loopStop _ _ g2 => exact ih g2
    | loopGo _ _ g2 _ => have := (ih g2).2; cases this
  | loopGo h h0 hp hr ih1 ih2 =>
    intro σ2 b2 g
    cases g with
    | loopTired h2 => exact absurd h2 h
    | loopEnd _ h2 _ => exact absurd h2 h0
    | loopStop _ _ g2 => have := (ih1 g2).2; cases this
    | loopGo _ _ g2 g3 => have := (ih1 g2).1; subst this; exact ih2 g3
end Go.Proofs.YthcjcjfgdgnljabDoor

namespace Go.Proofs.YthcjcjfgdgnljabDoor
open Go.RowKit

def smallN (c : Nat) : Bool := decide (97 ≤ c) && decide (c ≤ 122)
def greatN (c : Nat) : Bool := decide (65 ≤ c) && decide (c ≤ 90)
def digitN (c : Nat) : Bool := decide (48 ≤ c) && decide (c ≤ 57)
/-- a text out of its bytes -/
def strN (l : List Nat) : Value := .string ⟨(l.map UInt8.ofNat).toArray⟩

theorem retb {a b : Bool} (h : a = b) : Ending.returned (.bool a) = .returned (.bool b) := by rw [h]

theorem foldl_push (l : List Nat) (r : ByteArray) : (l.map (fun b : Nat => (b : Int))).foldl (fun r n => r.push (UInt8.ofNat n.toNat)) r = ⟨r.data ++ (l.map UInt8.ofNat).toArray⟩ := by
  induction l generalizing r with
  | nil => cases r; simp
  | cons b t ih => simp only [List.map_cons, List.foldl_cons]; rw [ih]; cases r; simp [ByteArray.push]

theorem bytes_str (u : World) (bs : List Nat) : (convert 33 9 (.slice (some ⟨u.heap.size, 0, none⟩) bs.length bs.length)).run Tryd.prog (u.alloc (.cells (bs.map (fun b : Nat => Value.int .u8 (b : Int))).toArray 5)) =
    .ok (strN bs) (u.alloc (.cells (bs.map (fun b : Nat => Value.int .u8 (b : Int))).toArray 5)) := by
  rw [run_convert_bytes_string _ 33 9 5 _ _ _ Tryd.underlying33 Tryd.underlying5 Tryd.underlying9]
  rw [run_bytesToString _ _ _ _ (bs.map (fun b : Nat => (b : Int))) ?_]
  · rw [foldl_push]; simp [strN]
  · have h := run_loadCells_list (P := Tryd.prog) (w := u.alloc (.cells (bs.map (fun b : Nat => Value.int .u8 (b : Int))).toArray 5)) ⟨u.heap.size, 0, none⟩ (bs.map (fun b : Nat => Value.int .u8 (b : Int))) (fun j v hj => by
      have hadd : (⟨u.heap.size, 0, none⟩ : Addr).add j = ⟨u.heap.size, j, none⟩ := by unfold Addr.add; split <;> simp_all
      rw [hadd, World.cell?_alloc_at _ _ _ _ rfl]
      simpa using hj)
    simpa [Function.comp_def] using h

def stmtN (c : Nat) : List Nat :=
  if smallN c then [83, 59, 103, 61, c] else if greatN c then [83, 59, 112, c] else if c = 33 then [83, 59, 111, c] else if c = 126 then [83, 59, 86, c]
  else if c = 63 then [83, 125, 83, 123, 125, 83, 123, 111, c] else if c = 64 then [83, 125, 83, 123, 111, c] else []

theorem eqI {c k : Nat} (h : c = k) : ((c : Int) == (k : Int)) = true := beq_iff_eq.2 (by omega)
theorem neI {c k : Nat} (h : c ≠ k) : ((c : Int) == (k : Int)) = false := beq_eq_false_iff_ne.2 (by omega)

end Go.Proofs.YthcjcjfgdgnljabDoor

namespace Go.Proofs.YthcjcjfgdgnljabDoor
open Go.RowKit

def chosenN (top c : Nat) : List Nat × Bool :=
  if top = 83 then (stmtN c, true)
  else if top = 111 then (if digitN c then ([100, c], true) else ([c], smallN c))
  else if top = 100 then (if digitN c then ([101, c], true) else ([], true))
  else if top = 101 then (if digitN c then ([c], true) else ([], true))
  else if top = 86 then ([c], greatN c)
  else if top = 103 then (if c = 35 then ([86, c], true) else if greatN c then ([93, 111, 91, c], true) else ([116, 111], true))
  else if top = 116 then (if c = 43 ∨ c = 45 ∨ c = 42 ∨ c = 47 ∨ c = 60 then ([111, c], true) else ([], true))
  else if top = 71 then (if c = 91 then ([93, 111, c], true) else ([86], true))
  else (if c = 91 then ([111, 61, 93, 111, c], true) else ([71, 61], true))
theorem bytes_strW (W : World) (b : Nat) (bs : List Nat) (h : ∀ j v, (bs.map (fun b : Nat => Value.int .u8 (b : Int)))[j]? = some v → W.cell? ⟨b, j, none⟩ = some v) :
    (convert 33 9 (.slice (some ⟨b, 0, none⟩) bs.length bs.length)).run Tryd.prog W = .ok (strN bs) W := by
  rw [run_convert_bytes_string _ 33 9 5 _ _ _ Tryd.underlying33 Tryd.underlying5 Tryd.underlying9]
  rw [run_bytesToString _ _ _ _ (bs.map (fun b : Nat => (b : Int))) ?_]
  · rw [foldl_push]; simp [strN]
  · have g := run_loadCells_list (P := Tryd.prog) (w := W) ⟨b, 0, none⟩ (bs.map (fun b : Nat => Value.int .u8 (b : Int))) (fun j v hj => by
      have hadd : (⟨b, 0, none⟩ : Addr).add j = ⟨b, j, none⟩ := by unfold Addr.add; split <;> simp_all
      rw [hadd]; exact h j v hj)
    simpa [Function.comp_def] using g
def isPart (b : Nat) : Prop := b = 83 ∨ b = 111 ∨ b = 100 ∨ b = 101 ∨ b = 86 ∨ b = 103 ∨ b = 116 ∨ b = 71 ∨ b = 112

end Go.Proofs.YthcjcjfgdgnljabDoor

namespace Go.Proofs.YthcjcjfgdgnljabDoor
open Go.RowKit

def AppKind (w w' : World) (v v' : Value) (n m : Nat) : Prop :=
  (∃ cap, v' = .slice (some ⟨w.heap.size, 0, none⟩) (n + m) cap ∧ w.grownBy w' none) ∨
  (∃ g cap, v = .slice (some ⟨g, 0, none⟩) n cap ∧ v' = .slice (some ⟨g, 0, none⟩) (n + m) cap ∧ w.grownBy w' (some g))

section
variable {P : Program} (w : World)

theorem run_append_kind (base : Nat) (t ty e : TypeId) (i : TypeInfo) (z : Value) (size bytes : Nat) (ht : P.underlying t = some (.slice e)) (hi : P.info? e = some i) (hz : i.zero = some z)
    (hsize : i.size = size) (hby : i.bytes = bytes) (hzs : z.cells.size = size) (hsz : 0 < size)
    (v : Value) (n : Nat) (xs : List Value) (hown : w.ownsRow base e size v n xs)
    (a : Addr) (m c : Nat) (news : List Value) (hm : 0 < m) (hl : news.length = m * size) (hnews : ∀ j u, news[j]? = some u → w.cell? (a.add j) = some u) (h1 : ∀ u ∈ news, u.oneCell' = true)
    (h63 : n + m ≤ maxLen) (hbytes : ((n + m) + (n + m) / 4 + 192) * bytes ≤ 281474976710656) (hbase : base ≤ w.heap.size) :
    ∃ v' w', (Builtin.append_ #[t, t] ty #[v, .slice (some a) m c]).run P w = .ok v' w' ∧ w'.ownsRow base e size v' (n + m) (xs ++ news) ∧ AppKind w w' v v' n m := by
  obtain ⟨v', w', hr, h2, h3, _⟩ := run_append_own_wide (P := P) w base t ty e i z size bytes ht hi hz hsize hby hzs hsz v n xs hown a m c news hl hnews h1 h63 hbytes hbase
  refine ⟨v', w', hr, h2, ?_⟩
  have hsmall : n + m ≤ 9223372036854775807 := by simp only [maxLen] at h63; omega
  subst hsize
  subst hby
  rcases hown.2 with ⟨rfl, rfl⟩ | ⟨g, cap, cur, rfl, hbg, hg, hnc, hcm, hcs, htake⟩
  · have h48 : m * i.bytes ≤ 281474976710656 := Nat.le_trans (Nat.mul_le_mul_right _ (by omega)) hbytes
    have hr2 := run_append_nil (P := P) w t ty e i z ht hi hz a m c news hl hnews hm (by omega) h48
    have he := hr.symm.trans hr2
    injection he with e1 e2
    refine .inl ⟨grownCap w m 0 e, by rw [e1]; simp, ?_⟩
    rw [e2]
    exact ⟨rfl, rfl, rfl, by simp, fun k hk _ => Below.heap_alloc w.drew _ k hk⟩
  · by_cases hroom : n + m ≤ cap
    · have hfit : n * i.size + news.length ≤ cur.size := by rw [hl, hcs, ← Nat.add_mul]; exact Nat.mul_le_mul_right _ hroom
      have hr2 := run_append_room (P := P) w t ty e i ht hi g n cap cur hg a m c news hl hnews h1 hroom hfit
      have he := hr.symm.trans hr2
      injection he with e1 e2
      exact .inr ⟨g, cap, rfl, e1, h3⟩
    · have holds : ∀ j u, xs[j]? = some u → w.cell? ((⟨g, 0, none⟩ : Addr).add j) = some u := hown.cells (g := g) rfl
      have hr2 := run_append_grow (P := P) w t ty e i z ht hi hz ⟨g, 0, none⟩ n cap xs hown.1 holds a m c news hl hnews (by omega) (by omega) (growslice_fits_wide (by omega) hbytes)
      have he := hr.symm.trans hr2
      injection he with e1 e2
      refine .inl ⟨grownCap w (n + m) cap e, e1, ?_⟩
      rw [e2]
      exact ⟨rfl, rfl, rfl, by simp, fun k hk _ => Below.heap_alloc w.drew _ k hk⟩

theorem wpList_append_kind {ops : Array Oper} {rest : List Oper} {o : Oper} {a : Act} {Q : Exit → Act → World → Prop} (hgd : o.guard = none) (s x : Operand) (t : TypeId)
    (ho : o.op = .call { callee := .builtin .append, args := #[s, x], argTypes := #[t, t] })
    (base : Nat) (e : TypeId) (i : TypeInfo) (z : Value) (size bytes : Nat) (ht : P.underlying t = some (.slice e)) (hi : P.info? e = some i) (hz : i.zero = some z)
    (hsize : i.size = size) (hby : i.bytes = bytes) (hzs : z.cells.size = size) (hsz : 0 < size)
    (v : Value) (n : Nat) (xs : List Value) (hs : a.eval s = v) (hown : w.ownsRow base e size v n xs)
    (ad : Addr) (m c : Nat) (news : List Value) (hm : 0 < m) (hx : a.eval x = .slice (some ad) m c) (hl : news.length = m * size) (hnews : ∀ j u, news[j]? = some u → w.cell? (ad.add j) = some u) (h1 : ∀ u ∈ news, u.oneCell' = true)
    (h63 : n + m ≤ maxLen) (hbytes : ((n + m) + (n + m) / 4 + 192) * bytes ≤ 281474976710656) (hbase : base ≤ w.heap.size)
    (h : ∀ v' w', w'.ownsRow base e size v' (n + m) (xs ++ news) → AppKind w w' v v' n m → wpList P ops Q rest (a.put o.dst v') w') : wpList P ops Q (o :: rest) a w := by
  refine wpList_plain hgd fun K hK => ?_
  obtain ⟨v', w', hr, h2, h3⟩ := run_append_kind (P := P) w base t o.type e i z size bytes ht hi hz hsize hby hzs hsz v n xs hown ad m c news hm hl hnews h1 h63 hbytes hbase
  unfold Oper.wp execOp
  simp only [ho, resolve, invoke, builtin, Sem.run_bind, Sem.run_pure, Result.andThen_ok, List.map_toArray, List.map_cons, List.map_nil, hs, hx, hr]
  exact hK _ _ (h v' w' h2 h3)
end

/-- what was owned is owned still -/
theorem AppKind.keep {w w' : World} {v v' : Value} {n m base : Nat} {e : TypeId} {size : Nat} {xs news : List Value} (h : AppKind w w' v v' n m) (ho : w.ownsRow base e size v n xs) (ho' : w'.ownsRow base e size v' (n + m) (xs ++ news)) : w'.ownsRow base e size v n xs := by
  rcases h with ⟨cap, _, hg⟩ | ⟨g, cap, rfl, rfl, hg⟩
  · exact ho.kept hg (by cases hv : v.ownBlock <;> simp)
  · refine ⟨ho.1, .inr ?_⟩
    rcases ho.2 with ⟨hv, _⟩ | ⟨g0, cap0, cur0, hv, hb0, _, hn0, hc0, _, _⟩
    · cases hv
    · cases hv
      rcases ho'.2 with ⟨hv, _⟩ | ⟨g1, cap1, cur1, hv, hb1, hh1, hn1, hc1, hs1, ht1⟩
      · cases hv
      · cases hv
        refine ⟨g, cap, cur1, rfl, hb0, hh1, hn0, hc0, hs1, ?_⟩
        have hx := ho.1
        have : cur1.toList.take (n * size) = (cur1.toList.take ((n + m) * size)).take (n * size) := by
          rw [List.take_take, Nat.min_eq_left (Nat.mul_le_mul_right _ (by omega))]
        rw [this, ht1, ← hx, List.take_left]
theorem AppKind.fr {w w' : World} {v v' : Value} {n m : Nat} (h : AppKind w w' v v' n m) : Fr (fun q => v.ownBlock = some q) w w' := by
  rcases h with ⟨cap, _, hg⟩ | ⟨g, cap, rfl, rfl, hg⟩
  · exact Fr.of_grown hg (fun k _ e => by cases e)
  · exact Fr.of_grown hg (fun k _ e => e)
/-- where the new row lies -/
theorem AppKind.place {w w' : World} {v v' : Value} {n m : Nat} (h : AppKind w w' v v' n m) : ∃ g cap, v' = .slice (some ⟨g, 0, none⟩) (n + m) cap ∧ (g = w.heap.size ∨ v.ownBlock = some g) := by
  rcases h with ⟨cap, hv, _⟩ | ⟨g, cap, rfl, hv, _⟩
  · exact ⟨_, cap, hv, .inl rfl⟩
  · exact ⟨g, cap, hv, .inr rfl⟩
end Go.Proofs.YthcjcjfgdgnljabDoor

namespace Go.Proofs.YthcjcjfgdgnljabDoor
open Go.RowKit

def partB (b : Nat) : Bool := b == 83 || b == 111 || b == 100 || b == 101 || b == 86 || b == 103 || b == 116 || b == 71 || b == 112
theorem partB_iff (b : Nat) : partB b = true ↔ isPart b := by simp [partB, isPart, or_assoc]
/-- byte i of a text -/
def bt (s : ByteArray) (i : Nat) : Nat := if h : i < s.size then s[i].toNat else 0
theorem bt_in {s : ByteArray} {i : Nat} (h : i < s.size) : bt s i = s[i].toNat := by simp [bt, h]
theorem bt_lt (s : ByteArray) (i : Nat) : bt s i < 256 := by
  unfold bt; split
  · exact UInt8.toNat_lt _
  · omega

def entC (e : Nat × Bool) : List Value := [.int .u8 (e.1 : Int), .bool e.2]
/-- append as one step of a region that draws -/
theorem step_append_kind {P : Program} {ops : Array Oper} {o : Oper} {a : Act} {w : World} {K : Act → World → Prop} {Q : Exit → Act → World → Prop} {E : Prop}
    (hg : o.guard = none) (s x : Operand) (t : TypeId) (hop : o.op = Op.call { callee := Callee.builtin Builtin.append, args := #[s, x], argTypes := #[t, t] })
    (base : Nat) (e : TypeId) (i : TypeInfo) (z : Value) (size bytes : Nat) (ht : P.underlying t = some (.slice e)) (hi : P.info? e = some i) (hz : i.zero = some z)
    (hsize : i.size = size) (hby : i.bytes = bytes) (hzs : z.cells.size = size) (hsz : 0 < size)
    (v : Value) (n : Nat) (xs : List Value) (hs : a.eval s = v) (hown : w.ownsRow base e size v n xs)
    (ad : Addr) (m c : Nat) (news : List Value) (hm : 0 < m) (hx : a.eval x = .slice (some ad) m c) (hl : news.length = m * size) (hnews : ∀ j u, news[j]? = some u → w.cell? (ad.add j) = some u) (h1 : ∀ u ∈ news, u.oneCell' = true)
    (h63 : n + m ≤ maxLen) (hbytes : ((n + m) + (n + m) / 4 + 192) * bytes ≤ 281474976710656) (hbase : base ≤ w.heap.size)
    (hK : ∀ v' w', w'.ownsRow base e size v' (n + m) (xs ++ news) → AppKind w w' v v' n m → K (a.put o.dst v') w') :
    if Region.wanted o (yielded ops a.tmps) = true then Oper.wp P o a w K Q else E := by
  have hw : Region.wanted o (yielded ops a.tmps) = true := by simp [Region.wanted, hg]
  rw [if_pos hw]
  obtain ⟨v', w', hr, h2, h3⟩ := run_append_kind (P := P) w base t o.type e i z size bytes ht hi hz hsize hby hzs hsz v n xs hown ad m c news hm hl hnews h1 h63 hbytes hbase
  unfold Oper.wp execOp
  simp only [hop, resolve, invoke, builtin, Sem.run_bind, Sem.run_pure, Result.andThen_ok, List.map_toArray, List.map_cons, List.map_nil, hs, hx, hr]
  exact hK v' w' h2 h3
end Go.Proofs.YthcjcjfgdgnljabDoor

namespace Go.Proofs.YthcjcjfgdgnljabDoor
open Go.RowKit

def entS (s : ByteArray) (own : Bool) (j : Nat) : Nat × Bool := (bt s j, partB (bt s j) && !(own && (j + 1 == s.size)))
def pushS (s : ByteArray) (own : Bool) (i : Nat) : List (Nat × Bool) := (List.range i).map (entS s own)
theorem pushS_succ (s : ByteArray) (own : Bool) (i : Nat) : pushS s own (i + 1) = pushS s own i ++ [entS s own i] := by simp [pushS, List.range_succ]

end Go.Proofs.YthcjcjfgdgnljabDoor
