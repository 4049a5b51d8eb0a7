/-
  DevA: one behind the other.
-/
import Derived.Test.YtcmnejcojphijaaDoorP04RunP
import Derived.Laws.BitsLemmas
namespace Go.Proofs.YtcmnejcojphijaaDoor
open Go.RowKit
set_option linter.unusedVariables false

def mkN (f : Nat → Bool) : Nat → Nat
  | 0 => 0
  | n + 1 => mkN f n ||| (if f n then 2 ^ n else 0)
theorem mkN_bit (f : Nat → Bool) : ∀ n i, (mkN f n).testBit i = (decide (i < n) && f i)
  | 0, i => by simp [mkN]
  | n + 1, i => by
    show (mkN f n ||| (if f n then 2 ^ n else 0)).testBit i = _
    rw [Nat.testBit_or, mkN_bit f n i]
    by_cases e : i = n
    · subst e
      cases hf : f i
      · simp
      · simp [Nat.testBit_two_pow_self]
    · have h1 : (decide (i < n + 1)) = decide (i < n) := by
        by_cases q : i < n
        · simp [q]; omega
        · simp [q]; omega
      rw [h1]
      cases hf : f n
      · simp
      · have : (2 ^ n).testBit i = false := Nat.testBit_two_pow_of_ne (Ne.symm e)
        simp [this]
theorem mkN_lt (f : Nat → Bool) : ∀ n, mkN f n < 2 ^ n
  | 0 => by simp [mkN]
  | n + 1 => by
    refine Nat.or_lt_two_pow (Nat.lt_of_lt_of_le (mkN_lt f n) (Nat.pow_le_pow_right (by decide) (by omega))) ?_
    split
    · exact Nat.pow_lt_pow_right (by decide) (by omega)
    · exact Nat.two_pow_pos _
/-- a set, as the program has it -/
def msk (f : Nat → Bool) : Nat := mkN f 26
theorem mk_bit (f : Nat → Bool) (i : Nat) : (msk f).testBit i = (decide (i < 26) && f i) := mkN_bit f 26 i
theorem mk_lt (f : Nat → Bool) : msk f < 67108864 := mkN_lt f 26
theorem mk_congr {f g : Nat → Bool} (h : ∀ i, i < 26 → f i = g i) : msk f = msk g := by
  apply Nat.eq_of_testBit_eq
  intro i
  rw [mk_bit, mk_bit]
  by_cases q : i < 26
  · rw [h i q]
  · simp [q]
theorem mk_and (f g : Nat → Bool) : msk f &&& msk g = msk (bothF f g) := by
  apply Nat.eq_of_testBit_eq
  intro i
  rw [Nat.testBit_and, mk_bit, mk_bit, mk_bit]
  unfold bothF
  cases decide (i < 26) <;> simp
theorem one_bit (k i : Nat) : (1 <<< k).testBit i = decide (i = k) := by
  rw [Nat.one_shiftLeft]
  by_cases e : i = k
  · subst e; simp [Nat.testBit_two_pow_self]
  · rw [Nat.testBit_two_pow_of_ne (Ne.symm e)]; simp [e]
theorem one_lt {k : Nat} (hk : k < 26) : 1 <<< k < 67108864 := by
  rw [Nat.one_shiftLeft]
  exact Nat.lt_of_lt_of_le (Nat.pow_lt_pow_right (by decide) hk) (by decide)
theorem mk_or (f : Nat → Bool) {k : Nat} (hk : k < 26) : msk f ||| 1 <<< k = msk (updB f k true) := by
  apply Nat.eq_of_testBit_eq
  intro i
  rw [Nat.testBit_or, mk_bit, mk_bit, one_bit]
  unfold updB
  by_cases e : i = k
  · subst e; simp [hk]
  · simp [e]
theorem wraps_u32 (n : Int) (h0 : 0 ≤ n) (h1 : n < 2 ^ 26) : IntKind.u32.wrap n = n := by rw [IntKind.wrap_u32]; omega
theorem bits_and (f g : Nat → Bool) : bits BinOp.and IntKind.u32 (msk f : Int) (msk g : Int) = (msk (bothF f g) : Int) := by
  rw [(bits_nat .u32 26 (by decide) wraps_u32 (msk f) (msk g) (mk_lt f) (mk_lt g)).1, mk_and]
theorem bits_or (f : Nat → Bool) {k : Nat} (hk : k < 26) : bits BinOp.or IntKind.u32 (msk f : Int) ((1 <<< k : Nat) : Int) = (msk (updB f k true) : Int) := by
  rw [(bits_nat .u32 26 (by decide) wraps_u32 (msk f) (1 <<< k) (mk_lt f) (one_lt hk)).2, mk_or f hk]
theorem bits_has (f : Nat → Bool) {k : Nat} (hk : k < 26) : (bits BinOp.and IntKind.u32 (msk f : Int) ((1 <<< k : Nat) : Int) != 0) = f k := by
  rw [(bits_nat .u32 26 (by decide) wraps_u32 (msk f) (1 <<< k) (mk_lt f) (one_lt hk)).1]
  have h : ∀ i, (msk f &&& 1 <<< k).testBit i = (decide (i = k) && f k) := fun i => by
    rw [Nat.testBit_and, mk_bit, one_bit]
    by_cases e : i = k
    · subst e; simp [hk]
    · simp [e]
  cases hf : f k
  · have : msk f &&& 1 <<< k = 0 := Nat.eq_of_testBit_eq fun i => by rw [h i, hf]; simp
    rw [this]; rfl
  · have hne : msk f &&& 1 <<< k ≠ 0 := fun e => by
      have := h k
      rw [e, hf] at this
      simp at this
    exact bne_iff_ne.2 (by omega)
theorem bits_not (f : Nat → Bool) {k : Nat} (hk : k < 26) : bits BinOp.andNot IntKind.u32 (msk f : Int) ((1 <<< k : Nat) : Int) = (msk (updB f k false) : Int) := by
  have h1 : (BitVec.ofInt 32 (msk f : Int)).toNat = msk f := by
    rw [BitVec.ofInt_natCast, BitVec.toNat_ofNat]; exact Nat.mod_eq_of_lt (by have := mk_lt f; omega)
  have h2 : (BitVec.ofInt 32 ((1 <<< k : Nat) : Int)).toNat = 1 <<< k := by
    rw [BitVec.ofInt_natCast, BitVec.toNat_ofNat]; exact Nat.mod_eq_of_lt (by have := one_lt hk; omega)
  have h3 : msk f &&& (2 ^ 32 - 1 - 1 <<< k) = msk (updB f k false) := by
    apply Nat.eq_of_testBit_eq
    intro i
    have hlt : 1 <<< k < 2 ^ 32 := by have := one_lt hk; omega
    rw [Nat.testBit_and, mk_bit, mk_bit, show 2 ^ 32 - 1 - 1 <<< k = 2 ^ 32 - (1 <<< k + 1) by omega, Nat.testBit_two_pow_sub_succ hlt, one_bit]
    unfold updB
    by_cases q : i < 26
    · have : i < 32 := by omega
      by_cases e : i = k
      · simp [e]
      · simp [e, this]
    · simp [q]
  show IntKind.u32.wrap ((BitVec.ofInt 32 (msk f : Int) &&& ~~~ BitVec.ofInt 32 ((1 <<< k : Nat) : Int)).toNat : Int) = _
  rw [BitVec.toNat_and, BitVec.toNat_not, h1, h2, h3, IntKind.wrap_u32]
  have := mk_lt (updB f k false)
  omega

set_option maxHeartbeats 400000 in
theorem only_in (w : World) (k : Nat) (hk : k < 26) : Calls Tryd.prog 35 #[.int .i64 (k : Int)] w fun e w' => e = .returned (.int .u32 ((1 <<< k : Nat) : Int)) ∧ w' = w := by
  have HE : Hid ((2 ^ k % 4294967296 : Int) = ((1 <<< k : Nat) : Int)) := by
    show (2 ^ k % 4294967296 : Int) = ((1 <<< k : Nat) : Int)
    have h := one_lt hk
    rw [Nat.one_shiftLeft] at h ⊢
    have h2 : ((2 : Int) ^ k) = ((2 ^ k : Nat) : Int) := by simp
    rw [h2]
    clear h2
    generalize (2 ^ k : Nat) = q at h ⊢
    omega
  generalize ((1 <<< k : Nat) : Int) = R at HE ⊢
  go_enter Tryd.func35, Tryd.ntmps35
  go_wp2
  go_ret
  exact ⟨retI HE.out, rfl⟩
set_option maxHeartbeats 400000 in
theorem with_fn (w : World) (f : Nat → Bool) (k : Nat) (hk : k < 26) : Calls Tryd.prog 44 #[.int .u32 (msk f : Int), .int .i64 (k : Int)] w fun e w' => e = .returned (.int .u32 (msk (updB f k true) : Int)) ∧ w' = w := by
  have HE : Hid _ := bits_or f hk
  have HO : Hid _ := fun X => only_in X k hk
  generalize ((1 <<< k : Nat) : Int) = Q at HE HO
  go_enter Tryd.func44, Tryd.ntmps44
  go_wp2_with (go_at_call 35; refine (HO.out _).mono ?_; rintro e w1 ⟨rfl, hw⟩; have hw2 := hw.symm; clear hw; subst hw2)
  go_ret
  exact ⟨retI HE.out, rfl⟩
set_option maxHeartbeats 400000 in
theorem without_fn (w : World) (f : Nat → Bool) (k : Nat) (hk : k < 26) : Calls Tryd.prog 45 #[.int .u32 (msk f : Int), .int .i64 (k : Int)] w fun e w' => e = .returned (.int .u32 (msk (updB f k false) : Int)) ∧ w' = w := by
  have HE : Hid _ := bits_not f hk
  have HO : Hid _ := fun X => only_in X k hk
  generalize ((1 <<< k : Nat) : Int) = Q at HE HO
  go_enter Tryd.func45, Tryd.ntmps45
  go_wp2_with (go_at_call 35; refine (HO.out _).mono ?_; rintro e w1 ⟨rfl, hw⟩; have hw2 := hw.symm; clear hw; subst hw2)
  go_ret
  exact ⟨retI HE.out, rfl⟩
set_option maxHeartbeats 400000 in
theorem has_fn (w : World) (f : Nat → Bool) (k : Nat) (hk : k < 26) : Calls Tryd.prog 21 #[.int .u32 (msk f : Int), .int .i64 (k : Int)] w fun e w' => e = .returned (.bool (f k)) ∧ w' = w := by
  have HE : Hid _ := bits_has f hk
  have HO : Hid _ := fun X => only_in X k hk
  generalize ((1 <<< k : Nat) : Int) = Q at HE HO
  go_enter Tryd.func21, Tryd.ntmps21
  go_wp2_with (go_at_call 35; refine (HO.out _).mono ?_; rintro e w1 ⟨rfl, hw⟩; have hw2 := hw.symm; clear hw; subst hw2)
  go_ret
  exact ⟨retb HE.out, rfl⟩

/-- V=W; as the program does it -/
def moveF (k l : Nat) (f : Nat → Bool) : Nat → Bool := if f l then updB (updB f l false) k true else updB (updB f l false) k false
set_option maxHeartbeats 400000 in
theorem move_fn (w : World) (f : Nat → Bool) (k l : Nat) (hk : k < 26) (hl : l < 26) : Calls Tryd.prog 46 #[.int .i64 (k : Int), .int .i64 (l : Int), .int .u32 (msk f : Int)] w fun e w' => e = .returned (.int .u32 (msk (moveF k l f) : Int)) ∧ w' = w := by
  have H1 : Hid _ := fun X => without_fn X f l hl
  have H2 : Hid _ := fun X => has_fn X f l hl
  cases hf : f l
  · rw [hf] at H2
    have H3 : Hid _ := fun X => without_fn X (updB f l false) k hk
    have HE : moveF k l f = updB (updB f l false) k false := by unfold moveF; rw [hf]; rfl
    rw [HE]
    clear hf HE
    go_enter Tryd.func46, Tryd.ntmps46
    go_wp2_with fail
    refine (H1.out _).mono ?_
    rintro e w1 ⟨rfl, hw⟩
    have hw2 := hw.symm
    clear hw
    subst hw2
    go_wp2_with fail
    refine (H2.out _).mono ?_
    rintro e w1 ⟨rfl, hw⟩
    have hw2 := hw.symm
    clear hw
    subst hw2
    go_wp2_with fail
    refine (H3.out _).mono ?_
    rintro e w1 ⟨rfl, hw⟩
    have hw2 := hw.symm
    clear hw
    subst hw2
    go_wp2
    go_ret
    exact ⟨rfl, rfl⟩
  · rw [hf] at H2
    have H3 : Hid _ := fun X => with_fn X (updB f l false) k hk
    have HE : moveF k l f = updB (updB f l false) k true := by unfold moveF; rw [hf]; rfl
    rw [HE]
    clear hf HE
    go_enter Tryd.func46, Tryd.ntmps46
    go_wp2_with fail
    refine (H1.out _).mono ?_
    rintro e w1 ⟨rfl, hw⟩
    have hw2 := hw.symm
    clear hw
    subst hw2
    go_wp2_with fail
    refine (H2.out _).mono ?_
    rintro e w1 ⟨rfl, hw⟩
    have hw2 := hw.symm
    clear hw
    subst hw2
    go_wp2_with fail
    refine (H3.out _).mono ?_
    rintro e w1 ⟨rfl, hw⟩
    have hw2 := hw.symm
    clear hw
    subst hw2
    go_wp2
    go_ret
    exact ⟨rfl, rfl⟩
end Go.Proofs.YtcmnejcojphijaaDoor
