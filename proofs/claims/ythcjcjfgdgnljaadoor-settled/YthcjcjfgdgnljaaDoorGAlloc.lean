/-
  Base, Taken, NextRun, Free, Alloc: one behind the other.
-/
import Derived.Test.YthcjcjfgdgnljaaDoorProg
import Derived.WalkKit
import Derived.WalkSpells
import Derived.WalkLawsBesides
namespace Go.Proofs.YthcjcjfgdgnljaaDoor
open Go.RowKit

/-- From w to w' only new blocks came, and of the old ones only those of S may have turned. -/
structure Fr (S : Nat → Prop) (w w' : World) : Prop where
  os : w'.os = w.os
  tape : w'.tape = w.tape
  output : w'.output = w.output
  size : w.heap.size ≤ w'.heap.size
  block : ∀ k, k < w.heap.size → ¬ S k → w'.heap[k]? = w.heap[k]?

def NoB : Nat → Prop := fun _ => False
def OneB (r : Nat) : Nat → Prop := fun k => k = r

theorem Fr.refl (S : Nat → Prop) (w : World) : Fr S w w := ⟨rfl, rfl, rfl, Nat.le_refl _, fun _ _ _ => rfl⟩
theorem Fr.trans {S : Nat → Prop} {a b c : World} (h : Fr S a b) (k : Fr S b c) : Fr S a c :=
  ⟨k.os.trans h.os, k.tape.trans h.tape, k.output.trans h.output, Nat.le_trans h.size k.size,
    fun i hi hs => (k.block i (Nat.lt_of_lt_of_le hi h.size) hs).trans (h.block i hi hs)⟩
theorem Fr.mono {S T : Nat → Prop} {w w' : World} (h : Fr S w w') (hst : ∀ k, k < w.heap.size → S k → T k) : Fr T w w' :=
  ⟨h.os, h.tape, h.output, h.size, fun k hk ht => h.block k hk (fun hs => ht (hst k hk hs))⟩
theorem Fr.of_no {T : Nat → Prop} {w w' : World} (h : Fr NoB w w') : Fr T w w' := h.mono (fun _ _ hs => hs.elim)
/-- Two stretches: what the second may turn is new, or one of S. -/
theorem Fr.then {S T : Nat → Prop} {a b c : World} (h : Fr S a b) (k : Fr T b c) (hT : ∀ i, i < a.heap.size → T i → S i) : Fr S a c :=
  ⟨k.os.trans h.os, k.tape.trans h.tape, k.output.trans h.output, Nat.le_trans h.size k.size,
    fun i hi hs => (k.block i (Nat.lt_of_lt_of_le hi h.size) (fun ht => hs (hT i hi ht))).trans (h.block i hi hs)⟩
theorem Fr.drew {S : Nat → Prop} {a w : World} (h : Fr S a w) : Fr S a w.drew := ⟨h.os, h.tape, h.output, h.size, h.block⟩
theorem Fr.alloc {S : Nat → Prop} {a w : World} (h : Fr S a w) (o : Obj) : Fr S a (w.alloc o) :=
  h.trans ⟨rfl, rfl, rfl, by simp, fun k hk _ => Below.heap_alloc _ _ _ hk⟩
theorem Fr.setCell {S : Nat → Prop} {a w : World} (h : Fr S a w) {p : Addr} (hp : p.block < a.heap.size → S p.block) (u : Value) : Fr S a (w.setCell p u) :=
  ⟨h.os, h.tape, h.output, by simpa [World.setCell] using h.size, fun k hk hs =>
    (Below.heap_setCell _ _ _ _ (fun e => hs (by subst e; exact hp hk))).trans (h.block k hk hs)⟩
theorem Fr.of_grown {S : Nat → Prop} {w w' : World} {row : Option Nat} (h : w.grownBy w' row) (hr : ∀ k, k < w.heap.size → row = some k → S k) : Fr S w w' :=
  ⟨h.os, h.tape, h.output, h.size, fun k hk hs => h.block k hk (fun e => hs (hr k hk e.symm))⟩
theorem Fr.below {S : Nat → Prop} {w w' : World} (h : Fr S w w') {B : Nat} (hB : B ≤ w.heap.size) (hS : ∀ k, k < B → ¬ S k) : Below B w w' :=
  ⟨h.os, h.tape, h.output, h.size, fun k hk => h.block k (by omega) (hS k hk)⟩
theorem Fr.of_below {w w' : World} (h : Below w.heap.size w w') : Fr NoB w w' :=
  ⟨h.os, h.tape, h.output, h.size, fun k hk _ => h.block k hk⟩
theorem Fr.cell {S : Nat → Prop} {w w' : World} (h : Fr S w w') {p : Addr} (hp : p.block < w.heap.size) (hS : ¬ S p.block) : w'.cell? p = w.cell? p :=
  World.cell?_of_block (w := w) (h.block p.block hp hS)
theorem Fr.frozen {S : Nat → Prop} {w w' : World} (h : Fr S w w') {p : Addr} (hp : p.block < w.heap.size) (hS : ¬ S p.block) : w'.frozen? p = w.frozen? p :=
  World.frozen?_of_block (w := w) (h.block p.block hp hS)
theorem Fr.cell_some {S : Nat → Prop} {w w' : World} (h : Fr S w w') {p : Addr} {v : Value} (hc : w.cell? p = some v) (hS : ¬ S p.block) : w'.cell? p = some v :=
  (h.cell (World.block_lt_of_cell? w p hc) hS).trans hc
theorem Fr.owns {S : Nat → Prop} {w w' : World} {base : Nat} {e : TypeId} {size : Nat} {v : Value} {n : Nat} {xs : List Value} (h : Fr S w w')
    (ho : w.ownsRow base e size v n xs) (hS : ∀ k, v.ownBlock = some k → ¬ S k) : w'.ownsRow base e size v n xs := by
  refine ⟨ho.1, ?_⟩
  rcases ho.2 with hn | ⟨g, cap, cur, rfl, hb, hgg, rest⟩
  · exact .inl hn
  · refine .inr ⟨g, cap, cur, rfl, hb, ?_, rest⟩
    rw [h.block g (Array.getElem?_eq_some_iff.1 hgg).1 (hS g rfl)]
    exact hgg

/-- A heap of the program, in memory: the pointer's block p, the words' block r, n words, of each its block's mark and its value. -/
structure HeapAt (w : World) (p r n : Nat) (B V : Nat → Int) : Prop where
  lo : 1 ≤ n
  hi : n ≤ 4096
  ne : p ≠ r
  ptr : w.cell? ⟨p, 0, none⟩ = some (.slice (some ⟨r, 0, none⟩) n n)
  blk : ∀ i, i < n → w.cell? ⟨r, i * 2, none⟩ = some (.int .i64 (B i))
  val : ∀ i, i < n → w.cell? ⟨r, i * 2 + 1, none⟩ = some (.int .i64 (V i))
  frz : ∀ o, w.frozen? ⟨r, o, none⟩ = false
  b0 : ∀ i, i < n → 0 ≤ B i
  b1 : ∀ i, i < n → B i ≤ i + 1

theorem HeapAt.pl {w : World} {p r n : Nat} {B V : Nat → Int} (h : HeapAt w p r n B V) : p < w.heap.size := World.block_lt_of_cell? w _ h.ptr
theorem HeapAt.rl {w : World} {p r n : Nat} {B V : Nat → Int} (h : HeapAt w p r n B V) : r < w.heap.size := World.block_lt_of_cell? w _ (h.blk 0 (by have := h.lo; omega))
theorem HeapAt.fr {S : Nat → Prop} {w w' : World} {p r n : Nat} {B V : Nat → Int} (h : HeapAt w p r n B V) (hf : Fr S w w') (hp : ¬ S p) (hr : ¬ S r) : HeapAt w' p r n B V :=
  ⟨h.lo, h.hi, h.ne, hf.cell_some h.ptr hp, fun i hi => hf.cell_some (h.blk i hi) hr, fun i hi => hf.cell_some (h.val i hi) hr,
    fun o => (hf.frozen (p := ⟨r, o, none⟩) h.rl hr).trans (h.frz o), h.b0, h.b1⟩
theorem HeapAt.no {w w' : World} {p r n : Nat} {B V : Nat → Int} (h : HeapAt w p r n B V) (hf : Fr NoB w w') : HeapAt w' p r n B V := h.fr hf id id
theorem HeapAt.congr {w : World} {p r n : Nat} {B V B' V' : Nat → Int} (h : HeapAt w p r n B V) (hb : ∀ i, i < n → B' i = B i) (hv : ∀ i, i < n → V' i = V i) : HeapAt w p r n B' V' :=
  ⟨h.lo, h.hi, h.ne, h.ptr, fun i hi => by rw [hb i hi]; exact h.blk i hi, fun i hi => by rw [hv i hi]; exact h.val i hi, h.frz,
    fun i hi => by rw [hb i hi]; exact h.b0 i hi, fun i hi => by rw [hb i hi]; exact h.b1 i hi⟩

def upd (f : Nat → Int) (k : Nat) (v : Int) : Nat → Int := fun i => if i = k then v else f i
theorem upd_at (f : Nat → Int) (k : Nat) (v : Int) : upd f k v k = v := by simp [upd]
theorem upd_ne (f : Nat → Int) {k i : Nat} (v : Int) (h : i ≠ k) : upd f k v i = f i := by simp [upd, h]

theorem cell_other {w : World} {b o c q : Nat} {u : Value} (h : b ≠ c ∨ o ≠ q) : (w.setCell ⟨b, o, none⟩ u).cell? ⟨c, q, none⟩ = w.cell? ⟨c, q, none⟩ :=
  World.cell?_setCell_other _ _ _ _ (fun e => by injection e with e1 e2; rcases h with h | h <;> contradiction)
theorem cell_same {w : World} {b o : Nat} {u v : Value} (h : w.cell? ⟨b, o, none⟩ = some v) : (w.setCell ⟨b, o, none⟩ u).cell? ⟨b, o, none⟩ = some u :=
  World.cell?_setCell_same _ _ _ h

theorem two_set {w : World} {b : Nat} {x0 x1 u0 u1 : Value} (h0 : w.cell? ⟨b, 0, none⟩ = some x0) (h1 : w.cell? ⟨b, 1, none⟩ = some x1) :
    ((w.setCell ⟨b, 0, none⟩ u0).setCell ⟨b, 1, none⟩ u1).cell? ⟨b, 0, none⟩ = some u0 ∧ ((w.setCell ⟨b, 0, none⟩ u0).setCell ⟨b, 1, none⟩ u1).cell? ⟨b, 1, none⟩ = some u1 :=
  ⟨(cell_other (.inr (by omega))).trans (cell_same h0), cell_same ((cell_other (.inr (by omega))).trans h1)⟩

theorem HeapAt.setVal {w : World} {p r n : Nat} {B V : Nat → Int} (h : HeapAt w p r n B V) {k : Nat} (hk : k < n) (u : Int) : HeapAt (w.setCell ⟨r, k * 2 + 1, none⟩ (.int .i64 u)) p r n B (upd V k u) :=
  ⟨h.lo, h.hi, h.ne, (cell_other (.inl (Ne.symm h.ne))).trans h.ptr, fun i hi => (cell_other (.inr (by omega))).trans (h.blk i hi),
    fun i hi => by
      by_cases e : i = k
      · subst e; rw [upd_at]; exact cell_same (h.val i hi)
      · rw [upd_ne _ _ e]; exact (cell_other (.inr (by omega))).trans (h.val i hi),
    fun o => by rw [World.frozen?_setCell]; exact h.frz o, h.b0, h.b1⟩
theorem HeapAt.setBlk {w : World} {p r n : Nat} {B V : Nat → Int} (h : HeapAt w p r n B V) {k : Nat} (hk : k < n) (u : Int) (h0 : 0 ≤ u) (h1 : u ≤ k + 1) : HeapAt (w.setCell ⟨r, k * 2, none⟩ (.int .i64 u)) p r n (upd B k u) V :=
  ⟨h.lo, h.hi, h.ne, (cell_other (.inl (Ne.symm h.ne))).trans h.ptr,
    fun i hi => by
      by_cases e : i = k
      · subst e; rw [upd_at]; exact cell_same (h.blk i hi)
      · rw [upd_ne _ _ e]; exact (cell_other (.inr (by omega))).trans (h.blk i hi),
    fun i hi => (cell_other (.inr (by omega))).trans (h.val i hi),
    fun o => by rw [World.frozen?_setCell]; exact h.frz o,
    fun i hi => by
      by_cases e : i = k
      · subst e; rw [upd_at]; exact h0
      · rw [upd_ne _ _ e]; exact h.b0 i hi,
    fun i hi => by
      by_cases e : i = k
      · subst e; rw [upd_at]; exact h1
      · rw [upd_ne _ _ e]; exact h.b1 i hi⟩

theorem Fr.drewN {S : Nat → Prop} {a w : World} (h : Fr S a w) (n : Nat) : Fr S a (w.drewN n) := ⟨h.os, h.tape, h.output, h.size, h.block⟩
def pickZ (c : Int) (n : Nat) : Nat := if c < 0 then ((-(c + 1)) % (n : Int)).toNat else (c % (n : Int)).toNat
theorem pickZ_lt (c : Int) {n : Nat} (hn : 1 ≤ n) : pickZ c n < n := by
  unfold pickZ
  have hm1 := Int.emod_nonneg (-(c + 1)) (show (n : Int) ≠ 0 by omega)
  have hm2 := Int.emod_lt_of_pos (-(c + 1)) (show (0 : Int) < n by omega)
  have hm3 := Int.emod_nonneg c (show (n : Int) ≠ 0 by omega)
  have hm4 := Int.emod_lt_of_pos c (show (0 : Int) < n by omega)
  split <;> omega

/-- an answer: true just if P -/
def Says (P : Prop) (e : Ending) : Prop := ∃ b : Bool, e = .returned (.bool b) ∧ (b = true ↔ P)
/-- a word that is in a block -/
def takenB (B : Nat → Int) (n : Nat) (at_ : Int) : Bool := decide (0 ≤ at_) && decide (at_ < n) && decide (B at_.toNat ≠ 0)

end Go.Proofs.YthcjcjfgdgnljaaDoor

namespace Go.Proofs.YthcjcjfgdgnljaaDoor
open Go.RowKit

theorem ret_bool {a b : Bool} (h : a = b) : Ending.returned (.bool a) = .returned (.bool b) := by rw [h]
theorem ret_int {k : IntKind} {a b : Int} (h : a = b) : Ending.returned (.int k a) = .returned (.int k b) := by rw [h]
theorem takenB_in {B : Nat → Int} {n k : Nat} (h : k < n) : takenB B n (k : Int) = (B k != 0) := by
  unfold takenB
  have h1 : (0 : Int) ≤ (k : Int) := by omega
  have h2 : (k : Int) < (n : Int) := by omega
  by_cases hb : B k = 0 <;> simp [h1, h2, hb]
theorem takenB_hi {B : Nat → Int} {n k : Nat} (h : ¬ k < n) : takenB B n (k : Int) = false := by
  unfold takenB
  have h2 : ¬ (k : Int) < (n : Int) := by omega
  simp [h2]
theorem takenB_neg {B : Nat → Int} {n : Nat} {a : Int} (h : ¬ 0 ≤ a) : takenB B n a = false := by
  unfold takenB
  simp [h]
theorem takenB_true {B : Nat → Int} {n : Nat} {a : Int} (h : takenB B n a = true) : ∃ k : Nat, a = (k : Int) ∧ k < n ∧ B k ≠ 0 := by
  unfold takenB at h
  simp at h
  refine ⟨a.toNat, by omega, by omega, h.2⟩

set_option maxHeartbeats 400000 in
theorem taken_any (w : World) (p r n : Nat) (B V : Nat → Int) (a : Int) (h : HeapAt w p r n B V) :
    Calls Tryd.prog 84 #[.pointer (some ⟨p, 0, none⟩), .int .i64 a] w fun e w' => e = .returned (.bool (takenB B n a)) ∧ w' = w := by
  have hn := h.hi
  have hp := h.ptr
  by_cases h0 : 0 ≤ a
  · obtain ⟨k, rfl⟩ := Int.eq_ofNat_of_zero_le h0
    by_cases h1 : k < n
    · have hc := h.blk k h1
      clear h
      go_enter Tryd.func84, Tryd.ntmps84
      go_wp2
      go_ret
      exact ⟨ret_bool (takenB_in h1).symm, rfl⟩
    · clear h
      go_enter Tryd.func84, Tryd.ntmps84
      go_wp2
      go_ret
      exact ⟨ret_bool (takenB_hi h1).symm, rfl⟩
  · clear h
    go_enter Tryd.func84, Tryd.ntmps84
    go_wp2
    go_ret
    exact ⟨ret_bool (takenB_neg (by omega)).symm, rfl⟩
/-- at a number that the caller holds as a natural one -/
theorem taken_in (w : World) (p r n : Nat) (B V : Nat → Int) (k : Nat) (h : HeapAt w p r n B V) (hk : k < n) :
    Calls Tryd.prog 84 #[.pointer (some ⟨p, 0, none⟩), .int .i64 (k : Int)] w fun e w' => e = .returned (.bool (B k != 0)) ∧ w' = w := by
  have := taken_any w p r n B V k h
  rwa [takenB_in hk] at this

set_option maxHeartbeats 400000 in
theorem load_no (w : World) (p r n : Nat) (B V : Nat → Int) (a : Int) (h : HeapAt w p r n B V) (ht : takenB B n a = false) :
    Calls Tryd.prog 78 #[.pointer (some ⟨p, 0, none⟩), .int .i64 a] w fun e w' => e = .returned (.tuple #[.int .i64 0, .int .i64 7]) ∧ w' = w := by
  go_enter Tryd.func78, Tryd.ntmps78
  go_wp2_with (go_at_call 84; refine (taken_any _ p r n B V a h).mono ?_; rintro e w' ⟨rfl, rfl⟩; rw [ht])
  go_ret2
  exact ⟨rfl, rfl⟩

set_option maxHeartbeats 400000 in
theorem load_yes (w : World) (p r n : Nat) (B V : Nat → Int) (k : Nat) (h : HeapAt w p r n B V) (hk : k < n) (ht : B k ≠ 0) :
    Calls Tryd.prog 78 #[.pointer (some ⟨p, 0, none⟩), .int .i64 (k : Int)] w fun e w' => e = .returned (.tuple #[.int .i64 (V k), .int .i64 0]) ∧ w' = w := by
  have hn := h.hi
  have hp := h.ptr
  have hc := h.val k hk
  have hb : (B k != 0) = true := by simpa using ht
  go_enter Tryd.func78, Tryd.ntmps78
  go_wp2_with (go_at_call 84; refine (taken_in _ p r n B V k h hk).mono ?_; rintro e w' ⟨rfl, rfl⟩; rw [hb])
  go_ret2
  exact ⟨rfl, rfl⟩

set_option maxHeartbeats 400000 in
theorem store_no (w : World) (p r n : Nat) (B V : Nat → Int) (a u : Int) (h : HeapAt w p r n B V) (ht : takenB B n a = false) :
    Calls Tryd.prog 81 #[.pointer (some ⟨p, 0, none⟩), .int .i64 a, .int .i64 u] w fun e w' => e = .returned (.int .i64 7) ∧ w' = w := by
  go_enter Tryd.func81, Tryd.ntmps81
  go_wp2_with (go_at_call 84; refine (taken_any _ p r n B V a h).mono ?_; rintro e w' ⟨rfl, rfl⟩; rw [ht])
  go_ret
  exact ⟨rfl, rfl⟩

set_option maxHeartbeats 400000 in
theorem store_arg (w : World) (p r n : Nat) (B V : Nat → Int) (k : Nat) (u : Int) (h : HeapAt w p r n B V) (hk : k < n) (ht : B k ≠ 0) (hu : u < 0 ∨ 1000 ≤ u) :
    Calls Tryd.prog 81 #[.pointer (some ⟨p, 0, none⟩), .int .i64 (k : Int), .int .i64 u] w fun e w' => e = .returned (.int .i64 5) ∧ w' = w := by
  have hb : (B k != 0) = true := by simpa using ht
  rcases hu with hu | hu
  · go_enter Tryd.func81, Tryd.ntmps81
    go_wp2_with (go_at_call 84; refine (taken_in _ p r n B V k h hk).mono ?_; rintro e w' ⟨rfl, rfl⟩; rw [hb])
    go_ret
    exact ⟨rfl, rfl⟩
  · have hu0 : ¬ u < 0 := by omega
    go_enter Tryd.func81, Tryd.ntmps81
    go_wp2_with (go_at_call 84; refine (taken_in _ p r n B V k h hk).mono ?_; rintro e w' ⟨rfl, rfl⟩; rw [hb])
    go_ret
    exact ⟨rfl, rfl⟩

set_option maxHeartbeats 400000 in
theorem store_yes (w : World) (p r n : Nat) (B V : Nat → Int) (k : Nat) (u : Int) (h : HeapAt w p r n B V) (hk : k < n) (ht : B k ≠ 0) (hu0 : 0 ≤ u) (hu1 : u < 1000) :
    Calls Tryd.prog 81 #[.pointer (some ⟨p, 0, none⟩), .int .i64 (k : Int), .int .i64 u] w fun e w' => e = .returned (.int .i64 0) ∧ w' = w.setCell ⟨r, k * 2 + 1, none⟩ (.int .i64 u) := by
  have hn := h.hi
  have hp := h.ptr
  have hc := h.val k hk
  have hf := h.frz (k * 2 + 1)
  have hb : (B k != 0) = true := by simpa using ht
  go_enter Tryd.func81, Tryd.ntmps81
  go_wp2_with (go_at_call 84; refine (taken_in _ p r n B V k h hk).mono ?_; rintro e w' ⟨rfl, rfl⟩; rw [hb])
  go_ret
  exact ⟨rfl, rfl⟩
end Go.Proofs.YthcjcjfgdgnljaaDoor

namespace Go.Proofs.YthcjcjfgdgnljaaDoor
open Go.RowKit

/-- a .. e: the first free run from f on. -/
structure RunFrom (B : Nat → Int) (n f a e : Nat) : Prop where
  fa : f ≤ a
  ae : a ≤ e
  en : e ≤ n
  skip : ∀ i, f ≤ i → i < a → B i ≠ 0
  free : ∀ i, a ≤ i → i < e → B i = 0
  top : a = n ∨ B a = 0
  stop : e = n ∨ B e ≠ 0

theorem grow_ne {B : Nat → Int} {f k : Nat} (h : ∀ i, f ≤ i → i < k → B i ≠ 0) (hk : B k ≠ 0) : ∀ i, f ≤ i → i < k + 1 → B i ≠ 0 := fun i h1 h2 => by
  by_cases e : i = k
  · subst e; exact hk
  · exact h i h1 (by omega)
theorem grow_eq {B : Nat → Int} {f k : Nat} (h : ∀ i, f ≤ i → i < k → B i = 0) (hk : B k = 0) : ∀ i, f ≤ i → i < k + 1 → B i = 0 := fun i h1 h2 => by
  by_cases e : i = k
  · subst e; exact hk
  · exact h i h1 (by omega)
theorem top_of {B : Nat → Int} {k n : Nat} (hk : k ≤ n) (h : ¬ (k < n ∧ B k ≠ 0)) : k = n ∨ B k = 0 := by
  by_cases e : B k = 0
  · exact .inr e
  · exact .inl (by have : ¬ k < n := fun hl => h ⟨hl, e⟩; omega)
theorem stop_of {B : Nat → Int} {k n : Nat} (hk : k ≤ n) (h : ¬ (k < n ∧ B k = 0)) : k = n ∨ B k ≠ 0 := by
  by_cases e : B k = 0
  · exact .inl (by have : ¬ k < n := fun hl => h ⟨hl, e⟩; omega)
  · exact .inr e

set_option maxHeartbeats 1000000 in
theorem nextRun_any (w : World) (p r n : Nat) (B V : Nat → Int) (f : Nat) (h : HeapAt w p r n B V) (hf : f ≤ n) :
    Calls Tryd.prog 87 #[.pointer (some ⟨p, 0, none⟩), .int .i64 (f : Int)] w fun e w' =>
      ∃ a z : Nat, e = .returned (.agg #[.int .i64 (a : Int), .int .i64 ((z : Int) - (a : Int))]) ∧ RunFrom B n f a z ∧ Fr NoB w w' := by
  have hn := h.hi
  have hpl := h.pl
  have hp := h.ptr
  go_enter Tryd.func87, Tryd.ntmps87
  go_wp2
  go_loop [5] (fun t => ∃ k : Nat, f ≤ k ∧ k ≤ n ∧ (∀ i, f ≤ i → i < k → B i ≠ 0) ∧ t = .int .i64 k) (fun t => n - (intOf t).toNat)
  case atStart => exact ⟨f, Nat.le_refl _, hf, fun i h1 h2 => absurd h2 (by omega), rfl⟩
  case round =>
    obtain ⟨k, hk1, hk2, hk3, rfl⟩ := hrel
    have h1 : HeapAt (w.alloc (.cells #[.int .i64 0, .int .i64 0] 74)) p r n B V := h.no ((Fr.refl _ _).alloc _)
    have Hk3 : Hid (∀ i, f ≤ i → i < k → B i ≠ 0) := hk3
    clear hk3
    by_cases hgo : k < n ∧ B k ≠ 0
    · obtain ⟨hlt, hb⟩ := hgo
      have hbb : (B k != 0) = true := by simpa using hb
      have Hb : Hid (B k ≠ 0) := hb
      clear hb
      go_wp2_with (go_at_call 84; refine (taken_in _ p r n B V k h1 hlt).mono ?_; rintro e w' ⟨rfl, rfl⟩; rw [hbb])
      go_round
      case rel => exact ⟨k + 1, by omega, by omega, grow_ne Hk3.out Hb.out, by go_num⟩
      case measure => simp [intOf]; omega
    · have Htop : Hid (k = n ∨ B k = 0) := top_of hk2 hgo
      have hbb : k < n → (B k != 0) = false := fun hlt => by
        rcases Htop.out with h | h
        · omega
        · simpa using h
      clear hgo
      by_cases hlt : k < n
      all_goals
        go_wp2_with (go_at_call 84; refine (taken_in _ p r n B V k h1 hlt).mono ?_; rintro e w' ⟨rfl, rfl⟩; rw [hbb hlt])
        go_loop [6] (fun t => ∃ z : Nat, k ≤ z ∧ z ≤ n ∧ (∀ i, k ≤ i → i < z → B i = 0) ∧ t = .int .i64 z) (fun t => n - (intOf t).toNat)
        case atStart => exact ⟨k, Nat.le_refl _, hk2, fun i h1 h2 => absurd h2 (by omega), rfl⟩
        case round =>
          obtain ⟨z, hz1, hz2, hz3, rfl⟩ := hrel
          have Hz3 : Hid (∀ i, k ≤ i → i < z → B i = 0) := hz3
          clear hz3
          by_cases hgo : z < n ∧ B z = 0
          · obtain ⟨hzl, hzb⟩ := hgo
            have hbz : (B z != 0) = false := by simpa using hzb
            have Hzb : Hid (B z = 0) := hzb
            clear hzb
            first
            | (exfalso; omega)
            | (go_wp2_with (go_at_call 84; refine (taken_in _ p r n B V z h1 hzl).mono ?_; rintro e w' ⟨rfl, rfl⟩; rw [hbz])
               go_round
               case rel => exact ⟨z + 1, by omega, by omega, grow_eq Hz3.out Hzb.out, by go_num⟩
               case measure => simp [intOf]; omega)
          · have Hstop : Hid (z = n ∨ B z ≠ 0) := stop_of hz2 hgo
            have hbz : z < n → (B z != 0) = true := fun hlt => by
              rcases Hstop.out with h | h
              · omega
              · simpa using h
            clear hgo
            by_cases hzl : z < n
            all_goals
              first
              | (exfalso; omega)
              | (go_wp2_with (go_at_call 84; refine (taken_in _ p r n B V z h1 hzl).mono ?_; rintro e w' ⟨rfl, rfl⟩; rw [hbz hzl])
                 refine bodyPost_ret (v := .agg #[.int .i64 (k : Int), .int .i64 ((z : Int) - (k : Int))]) (by simp [results, Tryd.results87, go_sem]) rfl ⟨k, z, rfl, ⟨hk1, hz1, hz2, Hk3.out, Hz3.out, Htop.out, Hstop.out⟩, ?_⟩
                 repeat (first | exact Fr.refl _ _ | refine Fr.setCell ?_ (fun h => absurd h (Nat.lt_irrefl _)) _ | refine Fr.alloc ?_ _))
end Go.Proofs.YthcjcjfgdgnljaaDoor

namespace Go.Proofs.YthcjcjfgdgnljaaDoor
open Go.RowKit

def clearTo (f : Nat → Int) (k j : Nat) : Nat → Int := fun i => if k ≤ i ∧ i < j then 0 else f i
theorem clearTo_start (f : Nat → Int) (k : Nat) {n : Nat} : ∀ i, i < n → clearTo f k k i = f i := fun i _ => by
  unfold clearTo; rw [if_neg (by omega)]
theorem clearTo_step (f : Nat → Int) {k j : Nat} (h : k ≤ j) {n : Nat} : ∀ i, i < n → clearTo f k (j + 1) i = upd (clearTo f k j) j 0 i := fun i _ => by
  unfold clearTo upd
  by_cases e : i = j
  · subst e; rw [if_pos (by omega), if_pos rfl]
  · rw [if_neg e]
    by_cases e2 : k ≤ i ∧ i < j
    · rw [if_pos (by omega)]; exact (if_pos e2).symm
    · rw [if_neg (by omega)]; exact (if_neg e2).symm
theorem clearTo_at (f : Nat → Int) (k j : Nat) : clearTo f k j j = f j := by unfold clearTo; rw [if_neg (by omega)]

theorem all_step {B : Nat → Int} {k j : Nat} {x : Int} (h : ∀ i, k ≤ i → i < j → B i = x) (hj : B j = x) : ∀ i, k ≤ i → i < j + 1 → B i = x := fun i h1 h2 => by
  by_cases e : i = j
  · subst e; exact hj
  · exact h i h1 (by omega)
theorem stop_at {B : Nat → Int} {j n : Nat} {x : Int} (hj : j ≤ n) (h : ¬ (j < n ∧ B j = x)) : j = n ∨ B j ≠ x := by
  by_cases e : B j = x
  · exact .inl (by have : ¬ j < n := fun hl => h ⟨hl, e⟩; omega)
  · exact .inr e
theorem lt_of_stop {B : Nat → Int} {k j n : Nat} {x : Int} (h1 : k ≤ j) (hk : k < n) (hb : B k = x) (h : j = n ∨ B j ≠ x) : k < j := by
  rcases h with h | h
  · omega
  · by_cases e : k = j
    · subst e; exact absurd hb h
    · omega

set_option maxHeartbeats 400000 in
theorem free_no (w : World) (p r n : Nat) (B V : Nat → Int) (a : Int) (h : HeapAt w p r n B V) (ht : takenB B n a = false) :
    Calls Tryd.prog 82 #[.pointer (some ⟨p, 0, none⟩), .int .i64 a] w fun e w' => e = .returned (.int .i64 7) ∧ w' = w := by
  go_enter Tryd.func82, Tryd.ntmps82
  go_wp2_with (go_at_call 84; refine (taken_any _ p r n B V a h).mono ?_; rintro e w' ⟨rfl, rfl⟩; rw [ht])
  go_ret
  exact ⟨rfl, rfl⟩

set_option maxHeartbeats 400000 in
theorem free_mid (w : World) (p r n : Nat) (B V : Nat → Int) (k : Nat) (h : HeapAt w p r n B V) (hk : k < n) (ht : B k ≠ 0) (hs : B k ≠ (k : Int) + 1) :
    Calls Tryd.prog 82 #[.pointer (some ⟨p, 0, none⟩), .int .i64 (k : Int)] w fun e w' => e = .returned (.int .i64 7) ∧ w' = w := by
  have hn := h.hi
  have hp := h.ptr
  have hc := h.blk k hk
  have hb : (B k != 0) = true := by simpa using ht
  have hs' : (B k != (k : Int) + 1) = true := by simpa using hs
  go_enter Tryd.func82, Tryd.ntmps82
  go_wp2_with (go_at_call 84; refine (taken_in _ p r n B V k h hk).mono ?_; rintro e w' ⟨rfl, rfl⟩; rw [hb])
  go_ret
  exact ⟨rfl, rfl⟩

set_option maxHeartbeats 1000000 in
theorem free_yes (w : World) (p r n : Nat) (B V : Nat → Int) (k : Nat) (h : HeapAt w p r n B V) (hk : k < n) (hs : B k = (k : Int) + 1) :
    Calls Tryd.prog 82 #[.pointer (some ⟨p, 0, none⟩), .int .i64 (k : Int)] w fun e w' => e = .returned (.int .i64 0) ∧
      ∃ z, k < z ∧ z ≤ n ∧ (∀ i, k ≤ i → i < z → B i = (k : Int) + 1) ∧ (z = n ∨ B z ≠ (k : Int) + 1) ∧ HeapAt w' p r n (clearTo B k z) (clearTo V k z) ∧ Fr (OneB r) w w' := by
  have hn := h.hi
  have hp := h.ptr
  have hc := h.blk k hk
  have hb : (B k != 0) = true := by simp [hs]; omega
  have hs' : (B k != (k : Int) + 1) = false := by simpa using hs
  have Hs : Hid (B k = (k : Int) + 1) := hs
  clear hs
  go_enter Tryd.func82, Tryd.ntmps82
  go_wp2_with (go_at_call 84; refine (taken_in _ p r n B V k h hk).mono ?_; rintro e w' ⟨rfl, hw⟩; have hw2 := hw.symm; clear hw; subst hw2; rw [hb])
  clear hc hp
  go_loopw [5] (fun t wq => ∃ j : Nat, k ≤ j ∧ j ≤ n ∧ t = .int .i64 j ∧ (∀ i, k ≤ i → i < j → B i = (k : Int) + 1) ∧ HeapAt wq p r n (clearTo B k j) (clearTo V k j) ∧ Fr (OneB r) w wq)
    (fun t _ => n - (intOf t).toNat)
  case atStart => exact ⟨k, Nat.le_refl _, by omega, rfl, fun i h1 h2 => absurd h2 (by omega), h.congr (clearTo_start B k) (clearTo_start V k), Fr.refl _ _⟩
  case round =>
    obtain ⟨j, hj1, hj2, rfl, hall, hq, hFq⟩ := hrel
    have Hall : Hid (∀ i, k ≤ i → i < j → B i = (k : Int) + 1) := hall
    clear hall
    by_cases hgo : j < n ∧ B j = (k : Int) + 1
    · obtain ⟨hjn, hjb⟩ := hgo
      have hqp := hq.ptr
      have hqb := hq.blk j hjn
      have hqv := hq.val j hjn
      have hqf := hq.frz (j * 2)
      have hqg := hq.frz (j * 2 + 1)
      rw [clearTo_at] at hqb
      have hjb' : (B j == (k : Int) + 1) = true := by simpa using hjb
      have Hjb : Hid (B j = (k : Int) + 1) := hjb
      clear hjb
      have hset := ((hq.setBlk hjn 0 (by omega) (by omega)).setVal hjn 0).congr (clearTo_step B hj1) (clearTo_step V hj1)
      have hFs := (hFq.setCell (p := ⟨r, j * 2, none⟩) (fun _ => rfl) (.int .i64 0)).setCell (p := ⟨r, j * 2 + 1, none⟩) (fun _ => rfl) (.int .i64 0)
      have H : Hid (HeapAt ((wr.setCell ⟨r, j * 2, none⟩ (.int .i64 0)).setCell ⟨r, j * 2 + 1, none⟩ (.int .i64 0)) p r n (clearTo B k (j + 1)) (clearTo V k (j + 1)) ∧ Fr (OneB r) w ((wr.setCell ⟨r, j * 2, none⟩ (.int .i64 0)).setCell ⟨r, j * 2 + 1, none⟩ (.int .i64 0))) := ⟨hset, hFs⟩
      clear hset hFs hq hFq
      go_wp2
      go_roundw
      case rel => exact ⟨j + 1, by omega, by omega, by go_num, all_step Hall.out Hjb.out, H.out.1, H.out.2⟩
      case measure => simp [intOf]; omega
    · have Hstop : Hid (j = n ∨ B j ≠ (k : Int) + 1) := stop_at hj2 hgo
      have hkj : k < j := lt_of_stop hj1 hk Hs.out Hstop.out
      have hqp := hq.ptr
      have hqb : j < n → wr.cell? ⟨r, j * 2, none⟩ = some (.int .i64 (B j)) := fun hjn => by have := hq.blk j hjn; rwa [clearTo_at] at this
      have hjb : j < n → (B j == (k : Int) + 1) = false := fun hjn => by
        rcases Hstop.out with h | h
        · omega
        · simpa using h
      clear hgo
      by_cases hjn : j < n
      all_goals
        go_wp2
        go_ret
        exact ⟨rfl, j, hkj, hj2, Hall.out, Hstop.out, hq, hFq⟩
end Go.Proofs.YthcjcjfgdgnljaaDoor

namespace Go.Proofs.YthcjcjfgdgnljaaDoor
open Go.RowKit

/-- k free words from a on -/
def FreeAt (B : Nat → Int) (n k a : Nat) : Prop := a + k ≤ n ∧ ∀ i, a ≤ i → i < a + k → B i = 0
def markTo (B : Nat → Int) (a j : Nat) : Nat → Int := fun i => if a ≤ i ∧ i < j then (a : Int) + 1 else B i
def cellInt (w : World) (b o : Nat) : Int := match w.cell? ⟨b, o, none⟩ with | some (.int _ q) => q | _ => 0
theorem cellInt_of {w : World} {b o : Nat} {q : Int} (h : w.cell? ⟨b, o, none⟩ = some (.int .i64 q)) : cellInt w b o = q := by simp [cellInt, h]

theorem free_first {B : Nat → Int} {n k a z : Nat} (hk : 1 ≤ k) (h : RunFrom B n 0 a z) : ∀ b, FreeAt B n k b → a ≤ b := fun b hb => by
  by_cases e : a ≤ b
  · exact e
  · exact absurd (hb.2 b (Nat.le_refl _) (by omega)) (h.skip b (Nat.zero_le _) (by omega))
theorem free_next {B : Nat → Int} {n k f a z a' z' : Nat} (hk : 1 ≤ k) (h : RunFrom B n f a z) (h' : RunFrom B n z a' z') (hlen : z < a + k) (hf : ∀ b, FreeAt B n k b → a ≤ b) : ∀ b, FreeAt B n k b → a' ≤ b := fun b hb => by
  have h1 := hf b hb
  have hz : z ≤ b := by
    by_cases e : z ≤ b
    · exact e
    · rcases h.stop with hs | hs
      · have := hb.1; omega
      · exact absurd (hb.2 z (by omega) (by omega)) hs
  by_cases e : a' ≤ b
  · exact e
  · exact absurd (hb.2 b (Nat.le_refl _) (by omega)) (h'.skip b hz (by omega))
theorem next_later {B : Nat → Int} {n f a z a' z' : Nat} (h : RunFrom B n f a z) (h' : RunFrom B n z a' z') : z < z' ∨ (z = n ∧ a' = n ∧ z' = n) := by
  have h1 := h'.fa
  have h2 := h'.ae
  have h3 := h'.en
  rcases h.stop with hs | hs
  · exact .inr ⟨hs, by omega, by omega⟩
  · rcases h'.top with ht | ht
    · have := h.en
      by_cases e : z < z'
      · exact .inl e
      · exact .inr ⟨by omega, by omega, by omega⟩
    · refine .inl ?_
      by_cases e : a' = z
      · subst e; exact absurd ht hs
      · omega
theorem no_room {B : Nat → Int} {n k f a z : Nat} (hk : 1 ≤ k) (h : RunFrom B n f a z) (hl : a = z) (hf : ∀ b, FreeAt B n k b → a ≤ b) : ∀ b, ¬ FreeAt B n k b := fun b hb => by
  have h1 := hf b hb
  have h2 := hb.1
  subst hl
  rcases h.stop with hs | hs
  · omega
  · rcases h.top with ht | ht
    · omega
    · exact hs ht
theorem has_room {B : Nat → Int} {n k f a z : Nat} (h : RunFrom B n f a z) (hl : a + k ≤ z) : FreeAt B n k a :=
  ⟨by have := h.en; omega, fun i h1 h2 => h.free i h1 (by omega)⟩

theorem markTo_start (B : Nat → Int) (a : Nat) {n : Nat} : ∀ i, i < n → markTo B a a i = B i := fun i _ => by
  unfold markTo; rw [if_neg (by omega)]
theorem markTo_step (B : Nat → Int) {a j : Nat} (h : a ≤ j) {n : Nat} : ∀ i, i < n → markTo B a (j + 1) i = upd (markTo B a j) j ((a : Int) + 1) i := fun i _ => by
  unfold markTo upd
  by_cases e : i = j
  · subst e; rw [if_pos (by omega), if_pos rfl]
  · rw [if_neg e]
    by_cases e2 : a ≤ i ∧ i < j
    · rw [if_pos (by omega)]; exact (if_pos e2).symm
    · rw [if_neg (by omega)]; exact (if_neg e2).symm

set_option maxHeartbeats 400000 in
theorem alloc_arg (w : World) (p : Nat) (k : Int) (hk : k < 1 ∨ 64 < k) :
    Calls Tryd.prog 85 #[.pointer (some ⟨p, 0, none⟩), .int .i64 k] w fun e w' => e = .returned (.tuple #[.int .i64 0, .int .i64 5]) ∧ w' = w := by
  rcases hk with hk | hk
  · go_enter Tryd.func85, Tryd.ntmps85
    go_wp2
    go_ret2
    exact ⟨rfl, rfl⟩
  · have hk0 : ¬ k < 1 := by omega
    go_enter Tryd.func85, Tryd.ntmps85
    go_wp2
    go_ret2
    exact ⟨rfl, rfl⟩

set_option maxHeartbeats 1000000 in
theorem alloc_any (w : World) (p r n : Nat) (B V : Nat → Int) (k : Nat) (h : HeapAt w p r n B V) (hk1 : 1 ≤ k) (hk2 : k ≤ 64) :
    Calls Tryd.prog 85 #[.pointer (some ⟨p, 0, none⟩), .int .i64 (k : Int)] w fun e w' =>
      (∃ a : Nat, FreeAt B n k a ∧ (∀ b, FreeAt B n k b → a ≤ b) ∧ e = .returned (.tuple #[.int .i64 (a : Int), .int .i64 0]) ∧ HeapAt w' p r n (markTo B a (a + k)) V ∧ Fr (OneB r) w w') ∨
      ((∀ b, ¬ FreeAt B n k b) ∧ e = .returned (.tuple #[.int .i64 0, .int .i64 6]) ∧ Fr NoB w w') := by
  have hn := h.hi
  have hd1 : (decide ((k : Int) < 1)) = false := by simp; omega
  have hd2 : (decide ((64 : Int) < (k : Int))) = false := by simp; omega
  go_enter Tryd.func85, Tryd.ntmps85
  go_wp2_with fail
  refine (nextRun_any _ p r n B V 0 h (Nat.zero_le _)).mono ?_
  rintro e w1 ⟨a0, z0, rfl, hr0, hf0⟩
  go_wp2_with fail
  go_loopw [] (fun wr => ∃ f a z : Nat, RunFrom B n f a z ∧ (∀ b, FreeAt B n k b → a ≤ b) ∧ wr.cell? ⟨w1.heap.size, 0, none⟩ = some (.int .i64 a) ∧ wr.cell? ⟨w1.heap.size, 1, none⟩ = some (.int .i64 ((z : Int) - (a : Int))) ∧
      (∀ o, wr.frozen? ⟨w1.heap.size, o, none⟩ = false) ∧ Fr NoB w wr ∧ w1.heap.size < wr.heap.size)
    (fun wr => (2 * ((n : Int) - (cellInt wr w1.heap.size 0 + cellInt wr w1.heap.size 1)) + min (cellInt wr w1.heap.size 1) 1).toNat)
  case atStart => exact ⟨0, a0, z0, hr0, free_first hk1 hr0, by simp, by simp, fun o => by simp, hf0.alloc _, by simp⟩
  case round =>
    obtain ⟨f, a, z, hr, hfr, hc0, hc1, hfz, hF, hsz⟩ := hrel
    have hae := hr.ae
    have hen := hr.en
    have hW : HeapAt wr p r n B V := h.no hF
    have Hfr : Hid (∀ b, FreeAt B n k b → a ≤ b) := hfr
    clear hfr
    by_cases hlen : a < z ∧ z < a + k
    · obtain ⟨hl1, hl2⟩ := hlen
      go_wp2_with fail
      rw [show (a : Int) + ((z : Int) - (a : Int)) = (z : Int) from by omega]
      refine (nextRun_any _ p r n B V z hW hen).mono ?_
      rintro e w2 ⟨a', z', rfl, hr', hf'⟩
      have hlat := next_later hr hr'
      have hR := free_next hk1 hr hr' hl2 Hfr.out
      have hae' := hr'.ae
      have hen' := hr'.en
      have hc0' := hf'.cell_some hc0 id
      have hc1' := hf'.cell_some hc1 id
      have hfz' : ∀ o, w2.frozen? ⟨w1.heap.size, o, none⟩ = false := fun o => (hf'.frozen (p := ⟨w1.heap.size, o, none⟩) hsz id).trans (hfz o)
      have hfa := hfz' 0
      have hfb := hfz' 1
      have HR : Hid (∀ b, FreeAt B n k b → a' ≤ b) := hR
      have HL : Hid (z < z' ∨ (z = n ∧ a' = n ∧ z' = n)) := hlat
      have hs2 := hf'.size
      have hgw : w.heap.size ≤ w1.heap.size := hf0.size
      clear hR hlat
      go_wp2_with fail
      go_roundw
      case rel =>
        refine ⟨z, a', z', hr', HR.out, (two_set hc0' hc1').1, (two_set hc0' hc1').2, fun o => by simp [hfz'], ?_, by simp; omega⟩
        exact ((hF.trans hf').setCell (fun hlt => absurd hlt (by simp; omega)) _).setCell (fun hlt => absurd hlt (by simp; omega)) _
      case measure =>
        have hL := HL.out
        rw [cellInt_of hc0, cellInt_of hc1, cellInt_of (two_set hc0' hc1').1, cellInt_of (two_set hc0' hc1').2]
        omega
    · by_cases hz : a = z
      · have hno := no_room hk1 hr hz Hfr.out
        have Hno : Hid (∀ b, ¬ FreeAt B n k b) := hno
        clear hno hlen
        subst hz
        go_wp2
        go_ret2
        exact .inr ⟨Hno.out, rfl, hF⟩
      · have hge : a + k ≤ z := by omega
        have hyes := has_room hr hge
        have Hyes : Hid (FreeAt B n k a) := hyes
        clear hyes
        clear hlen
        have hlt : a < z := by omega
        go_wp2_with fail
        have hgw : w.heap.size ≤ w1.heap.size := hf0.size
        have hrl := h.rl
        have hne : r ≠ w1.heap.size := by omega
        go_loopw [7] (fun t wq => ∃ j : Nat, a ≤ j ∧ j ≤ a + k ∧ t = .int .i64 j ∧ HeapAt wq p r n (markTo B a j) V ∧ wq.cell? ⟨w1.heap.size, 0, none⟩ = some (.int .i64 a) ∧ Fr (OneB r) w wq)
          (fun t _ => a + k - (intOf t).toNat)
        case atStart => exact ⟨a, Nat.le_refl _, by omega, rfl, hW.congr (markTo_start B a) (fun _ _ => rfl), hc0, hF.of_no⟩
        case round =>
          obtain ⟨j, hj1, hj2, rfl, hq, hcq, hFq⟩ := hrel
          by_cases hlt2 : j < a + k
          · have hjn : j < n := by omega
            have hqp := hq.ptr
            have hqb := hq.blk j hjn
            have hqf := hq.frz (j * 2)
            have hset := (hq.setBlk hjn ((a : Int) + 1) (by omega) (by omega)).congr (markTo_step B hj1) (fun _ _ => rfl)
            have hFs := hFq.setCell (p := ⟨r, j * 2, none⟩) (fun _ => rfl) (.int .i64 ((a : Int) + 1))
            have hcs : (wr.setCell ⟨r, j * 2, none⟩ (.int .i64 ((a : Int) + 1))).cell? ⟨w1.heap.size, 0, none⟩ = some (.int .i64 a) := (cell_other (.inl hne)).trans hcq
            have H : Hid (HeapAt (wr.setCell ⟨r, j * 2, none⟩ (.int .i64 ((a : Int) + 1))) p r n (markTo B a (j + 1)) V ∧ Fr (OneB r) w (wr.setCell ⟨r, j * 2, none⟩ (.int .i64 ((a : Int) + 1))) ∧ (wr.setCell ⟨r, j * 2, none⟩ (.int .i64 ((a : Int) + 1))).cell? ⟨w1.heap.size, 0, none⟩ = some (.int .i64 a)) := ⟨hset, hFs, hcs⟩
            clear hset hFs hcs hq hFq
            go_wp2
            go_region
            all_goals
              go_wp2
              go_roundw
              case rel => exact ⟨j + 1, by omega, by omega, by go_num, H.out.1.no ((Fr.refl _ _).drew), H.out.2.2, H.out.2.1.drew⟩
              case measure => simp [intOf]; omega
          · have hja : j = a + k := by omega
            subst hja
            go_wp2
            go_ret2
            exact .inl ⟨a, Hyes.out, Hfr.out, rfl, hq, hFq⟩
end Go.Proofs.YthcjcjfgdgnljaaDoor
