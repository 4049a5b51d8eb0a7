/-
  TxtA, DevA: one behind the other.
-/
import Derived.Test.YthcjcjfgdgnljabDoorGMacB
import Derived.Laws.BitsLemmas
namespace Go.Proofs.YthcjcjfgdgnljabDoor
set_option linter.unusedVariables false

/-- how deep the braces go -/
def dep : Pg → Nat
  | .nil => 0
  | .act _ r => dep r
  | .ite _ p q r => max (max (dep p + 1) (dep q + 1)) (dep r)
  | .loop _ p r => max (dep p + 1) (dep r)
section
variable {s : ByteArray} {d : Int} (t : List (Nat × Bool))
theorem opnd_fwd {i j : Nat} (h : Opnd s i j) (hj : j ≤ s.size) (hd : digitN (bt s j) = false) : run s ((111, true) :: t) i d = run s t j d := by
  rcases h with ⟨h1, rfl⟩ | ⟨h1, h2, h3⟩
  · exact R_o_small t h1
  · have e0 := h3 i (Nat.le_refl _) h1
    rw [R_o_digit t e0]
    by_cases e1 : j = i + 1
    · subst e1; exact R_d_no t hj hd
    · rw [R_d_digit t (h3 (i + 1) (by omega) (by omega))]
      by_cases e2 : j = i + 2
      · subst e2; exact R_e_no t hj hd
      · rw [R_e_digit t (h3 (i + 1 + 1) (by omega) (by omega)), show i + 1 + 1 + 1 = j by omega]
theorem simple_fwd {i m : Nat} (h : Simple s i m) : run s ((83, true) :: t) i d = run s ((83, true) :: t) m d := by
  have tk : ∀ {k x : Nat} {t : List (Nat × Bool)}, bt s k = x → x ≠ 0 → x ≠ 123 → x ≠ 125 → run s ((x, false) :: t) k d = run s t (k + 1) d := fun {k x t} h0 h1 h2 h3 => run_take t h1 h2 h3 h0
  have lt : ∀ {k x : Nat}, bt s k = x → x ≠ 0 → k < s.size := fun {k x} h0 h1 => byte_in h0 h1
  rcases h with q | q | q | q | q | q | q | q | q
  · obtain ⟨h1, h2, h3, h4, h5, rfl⟩ := q
    rw [R_S_small t h1, tk h2 (by decide) (by decide) (by decide), R_g_hash _ h3, R_V_great _ h4, tk h5 (by decide) (by decide) (by decide)]
  · obtain ⟨h1, h2, h3, h4, k, h5, h6, h7, rfl⟩ := q
    rw [R_S_small t h1, tk h2 (by decide) (by decide) (by decide), R_g_great _ h3, tk h4 (by decide) (by decide) (by decide), opnd_fwd _ h5 (Nat.le_of_lt (lt h6 (by decide))) (by rw [h6]; rfl), tk h6 (by decide) (by decide) (by decide), tk h7 (by decide) (by decide) (by decide)]
  · obtain ⟨h1, h2, k, h5, h6, rfl⟩ := q
    obtain ⟨g1, g2, g3⟩ := h5.head
    have hk := lt h6 (by decide)
    rw [R_S_small t h1, tk h2 (by decide) (by decide) (by decide), R_g_else _ (Nat.le_of_lt g3) g1 g2, opnd_fwd _ h5 (Nat.le_of_lt hk) (by rw [h6]; rfl), R_t_no _ (Nat.le_of_lt hk) (by rw [h6]; unfold isOp; decide), tk h6 (by decide) (by decide) (by decide)]
  · obtain ⟨h1, h2, k, l, h5, h6, h7, h8, rfl⟩ := q
    obtain ⟨g1, g2, g3⟩ := h5.head
    have hk : k < s.size := byte_in rfl (by unfold isOp at h6; omega)
    have hdk : digitN (bt s k) = false := by
      unfold isOp at h6
      rcases h6 with q | q | q | q | q <;> rw [q] <;> rfl
    rw [R_S_small t h1, tk h2 (by decide) (by decide) (by decide), R_g_else _ (Nat.le_of_lt g3) g1 g2, opnd_fwd _ h5 (Nat.le_of_lt hk) hdk, R_t_op _ h6, opnd_fwd _ h7 (Nat.le_of_lt (lt h8 (by decide))) (by rw [h8]; rfl), tk h8 (by decide) (by decide) (by decide)]
  · obtain ⟨h1, h2, k, l, h5, h6, h7, h8, h9, rfl⟩ := q
    rw [R_S_great t h1, R_p_br _ h2, opnd_fwd _ h5 (Nat.le_of_lt (lt h6 (by decide))) (by rw [h6]; rfl), tk h6 (by decide) (by decide) (by decide), tk h7 (by decide) (by decide) (by decide), opnd_fwd _ h8 (Nat.le_of_lt (lt h9 (by decide))) (by rw [h9]; rfl), tk h9 (by decide) (by decide) (by decide)]
  · obtain ⟨h1, h2, h3, k, h5, h6, h7, rfl⟩ := q
    rw [R_S_great t h1, R_p_else _ (Nat.le_of_lt (lt h2 (by decide))) (by rw [h2]; decide), tk h2 (by decide) (by decide) (by decide), R_G_br _ h3, opnd_fwd _ h5 (Nat.le_of_lt (lt h6 (by decide))) (by rw [h6]; rfl), tk h6 (by decide) (by decide) (by decide), tk h7 (by decide) (by decide) (by decide)]
  · obtain ⟨h1, h2, h3, h4, rfl⟩ := q
    have hg := great_in h3
    rw [R_S_great t h1, R_p_else _ (Nat.le_of_lt (lt h2 (by decide))) (by rw [h2]; decide), tk h2 (by decide) (by decide) (by decide), R_G_else _ (Nat.le_of_lt hg.1) (fun e => by have e' : bt s (i + 2) = 91 := e; rw [e'] at h3; simp [greatN] at h3), R_V_great _ h3, tk h4 (by decide) (by decide) (by decide)]
  · obtain ⟨h1, k, h5, h6, rfl⟩ := q
    rw [R_S_print t h1, opnd_fwd _ h5 (Nat.le_of_lt (lt h6 (by decide))) (by rw [h6]; rfl), tk h6 (by decide) (by decide) (by decide)]
  · obtain ⟨h1, h2, h3, rfl⟩ := q
    rw [R_S_drop t h1, R_V_great _ h2, tk h3 (by decide) (by decide) (by decide)]
theorem open_fwd {i : Nat} (h : bt s i = 123) : run s ((123, false) :: t) i d = if 8 < d + 1 then (3, i) else run s t (i + 1) (d + 1) := by
  rw [run_hit _ (byte_in h (by decide)) h, if_pos rfl]
theorem close_fwd {i : Nat} (h : bt s i = 125) : run s ((125, false) :: t) i d = run s t (i + 1) (d - 1) := by
  rw [run_hit _ (byte_in h (by decide)) h, if_neg (by decide), if_pos rfl]
end
theorem brace_none {s : ByteArray} {i : Nat} (h : bt s i = 125) : noStmt (bt s i) := by
  rw [h]
  exact ⟨rfl, rfl, by decide, by decide, by decide, by decide⟩
/-- along the sentences of a program: they are read, or the braces go too deep -/
theorem run_fwd {s : ByteArray} : ∀ {F i j : Nat}, Prog s F i j → ∀ (d : Int) (t : List (Nat × Bool)), (d + dep (pgN s F i j) ≤ 8 → run s ((83, true) :: t) i d = run s ((83, true) :: t) j d) ∧ (8 < d + dep (pgN s F i j) → 0 < dep (pgN s F i j) → (run s ((83, true) :: t) i d).1 = 3)
  | 0, i, j, hp, d, t => by
    have e : i = j := hp
    subst e
    exact ⟨fun _ => rfl, fun _ q => absurd q (by rw [pgN]; exact Nat.lt_irrefl 0)⟩
  | F + 1, i, j, hp, d, t => by
    rcases hp with hp | ⟨m, hst, hr⟩
    · subst hp
      rw [pgN_end]
      exact ⟨fun _ => rfl, fun _ q => absurd q (Nat.lt_irrefl 0)⟩
    · have hmj := hr.le
      have hlt := hst.lt
      have hij : i < j := by omega
      obtain ⟨r1, r2⟩ := run_fwd hr d t
      rcases hst with hS | ⟨e, a, b, c, ho, ha, hp, hb, hb1, hq, hc, rfl⟩ | ⟨e, a, b, ho, ha, hp, hb, rfl⟩
      · rw [pgN_simple hS hij, dep, simple_fwd t hS]
        exact ⟨r1, r2⟩
      · have hI := ifAt_of e ho ha hp hb hb1 hq hc
        rw [pgN_if hI hij, dep, R_S_if t e, opnd_fwd _ ho (Nat.le_of_lt (byte_in ha (by decide))) (by rw [ha]; rfl), open_fwd _ ha]
        generalize dep (pgN s F (c + 1) j) = dr at *
        obtain ⟨p1, p2⟩ := run_fwd hp (d + 1) ((125, false) :: (123, false) :: (83, true) :: (125, false) :: (83, true) :: t)
        obtain ⟨q1, q2⟩ := run_fwd hq (d + 1) ((125, false) :: (83, true) :: t)
        generalize dep (pgN s F (a + 1) b) = dp at *
        generalize dep (pgN s F (b + 2) c) = dq at *
        have hbl : b ≤ s.size := Nat.le_of_lt (byte_in hb (by decide))
        have hcl : c ≤ s.size := Nat.le_of_lt (byte_in hc (by decide))
        by_cases h8 : 8 < d + 1
        · rw [if_pos h8]
          exact ⟨fun q => absurd q (by omega), fun _ _ => rfl⟩
        · rw [if_neg h8]
          by_cases hdp : d + 1 + dp ≤ 8
          · rw [p1 hdp, R_S_none _ hbl (brace_none hb), close_fwd _ hb, open_fwd _ hb1, if_neg (by omega), show b + 1 + 1 = b + 2 by omega, show d + 1 - 1 + 1 = d + 1 by omega]
            by_cases hdq : d + 1 + dq ≤ 8
            · rw [q1 hdq, R_S_none _ hcl (brace_none hc), close_fwd _ hc, show d + 1 - 1 = d by omega]
              exact ⟨fun q => r1 (by omega), fun h1 h2 => r2 (by omega) (by omega)⟩
            · exact ⟨fun q => absurd q (by omega), fun _ _ => q2 (by omega) (by omega)⟩
          · exact ⟨fun q => absurd q (by omega), fun _ _ => p2 (by omega) (by omega)⟩
      · have hL := loopAt_of e ho ha hp hb
        rw [pgN_loop hL hij, dep, R_S_loop t e, opnd_fwd _ ho (Nat.le_of_lt (byte_in ha (by decide))) (by rw [ha]; rfl), open_fwd _ ha]
        generalize dep (pgN s F (b + 1) j) = dr at *
        obtain ⟨p1, p2⟩ := run_fwd hp (d + 1) ((125, false) :: (83, true) :: t)
        generalize dep (pgN s F (a + 1) b) = dp at *
        have hbl : b ≤ s.size := Nat.le_of_lt (byte_in hb (by decide))
        by_cases h8 : 8 < d + 1
        · rw [if_pos h8]
          exact ⟨fun q => absurd q (by omega), fun _ _ => rfl⟩
        · rw [if_neg h8]
          by_cases hdp : d + 1 + dp ≤ 8
          · rw [p1 hdp, R_S_none _ hbl (brace_none hb), close_fwd _ hb, show d + 1 - 1 = d by omega]
            exact ⟨fun q => r1 (by omega), fun h1 h2 => r2 (by omega) (by omega)⟩
          · exact ⟨fun q => absurd q (by omega), fun _ _ => p2 (by omega) (by omega)⟩
/-- the end -/
theorem run_last (s : ByteArray) : run s [(83, true)] s.size 0 = (0, 0) := by
  rw [R_S_none [] (Nat.le_refl _) (by rw [bt_out (Nat.lt_irrefl _)]; exact ⟨rfl, rfl, by decide, by decide, by decide, by decide⟩), run_nil (Nat.le_refl _)]
  simp
/-- a right text is a program whose braces go no deeper than eight; and such a program is a right text -/
theorem right_dep {s : ByteArray} (h : run s [(83, true)] 0 0 = (0, 0)) : dep (pgN s (s.size + 1) 0 s.size) ≤ 8 := by
  have hp := prog_of_ok h
  obtain ⟨_, h2⟩ := run_fwd hp 0 []
  by_cases q : dep (pgN s (s.size + 1) 0 s.size) ≤ 8
  · exact q
  · have := h2 (by omega) (by omega)
    rw [h] at this
    cases this
theorem right_of {s : ByteArray} {F : Nat} (hp : Prog s F 0 s.size) (hd : dep (pgN s F 0 s.size) ≤ 8) : run s [(83, true)] 0 0 = (0, 0) := by
  rw [(run_fwd hp 0 []).1 (by omega)]
  exact run_last s
end Go.Proofs.YthcjcjfgdgnljabDoor

namespace Go.Proofs.YthcjcjfgdgnljabDoor
open Go.RowKit
set_option linter.unusedVariables false

def mkN (f : Nat → Bool) : Nat → Nat
  | 0 => 0
  | n + 1 => mkN f n ||| (if f n then 2 ^ n else 0)
theorem mkN_bit (f : Nat → Bool) : ∀ n i, (mkN f n).testBit i = (decide (i < n) && f i)
  | 0, i => by simp [mkN]
  | n + 1, i => by
    show (mkN f n ||| (if f n then 2 ^ n else 0)).testBit i = _
    rw [Nat.testBit_or, mkN_bit f n i]
    by_cases e : i = n
    · subst e
      cases hf : f i
      · simp
      · simp [Nat.testBit_two_pow_self]
    · have h1 : (decide (i < n + 1)) = decide (i < n) := by
        by_cases q : i < n
        · simp [q]; omega
        · simp [q]; omega
      rw [h1]
      cases hf : f n
      · simp
      · have : (2 ^ n).testBit i = false := Nat.testBit_two_pow_of_ne (Ne.symm e)
        simp [this]
theorem mkN_lt (f : Nat → Bool) : ∀ n, mkN f n < 2 ^ n
  | 0 => by simp [mkN]
  | n + 1 => by
    refine Nat.or_lt_two_pow (Nat.lt_of_lt_of_le (mkN_lt f n) (Nat.pow_le_pow_right (by decide) (by omega))) ?_
    split
    · exact Nat.pow_lt_pow_right (by decide) (by omega)
    · exact Nat.two_pow_pos _
/-- a set, as the program has it -/
def msk (f : Nat → Bool) : Nat := mkN f 26
theorem mk_bit (f : Nat → Bool) (i : Nat) : (msk f).testBit i = (decide (i < 26) && f i) := mkN_bit f 26 i
theorem mk_lt (f : Nat → Bool) : msk f < 67108864 := mkN_lt f 26
theorem mk_bit_clean {f : Nat → Bool} (h : Clean f) (i : Nat) : (msk f).testBit i = f i := by
  rw [mk_bit]
  by_cases q : i < 26
  · simp [q]
  · simp [q, h i (by omega)]
theorem mk_congr {f g : Nat → Bool} (h : ∀ i, i < 26 → f i = g i) : msk f = msk g := by
  apply Nat.eq_of_testBit_eq
  intro i
  rw [mk_bit, mk_bit]
  by_cases q : i < 26
  · rw [h i q]
  · simp [q]
theorem mk_and (f g : Nat → Bool) : msk f &&& msk g = msk (bothF f g) := by
  apply Nat.eq_of_testBit_eq
  intro i
  rw [Nat.testBit_and, mk_bit, mk_bit, mk_bit]
  unfold bothF
  cases decide (i < 26) <;> simp
theorem one_bit (k i : Nat) : (1 <<< k).testBit i = decide (i = k) := by
  rw [Nat.one_shiftLeft]
  by_cases e : i = k
  · subst e; simp [Nat.testBit_two_pow_self]
  · rw [Nat.testBit_two_pow_of_ne (Ne.symm e)]; simp [e]
theorem one_lt {k : Nat} (hk : k < 26) : 1 <<< k < 67108864 := by
  rw [Nat.one_shiftLeft]
  exact Nat.lt_of_lt_of_le (Nat.pow_lt_pow_right (by decide) hk) (by decide)
theorem mk_or (f : Nat → Bool) {k : Nat} (hk : k < 26) : msk f ||| 1 <<< k = msk (updB f k true) := by
  apply Nat.eq_of_testBit_eq
  intro i
  rw [Nat.testBit_or, mk_bit, mk_bit, one_bit]
  unfold updB
  by_cases e : i = k
  · subst e; simp [hk]
  · simp [e]
theorem wraps_u32 (n : Int) (h0 : 0 ≤ n) (h1 : n < 2 ^ 26) : IntKind.u32.wrap n = n := by rw [IntKind.wrap_u32]; omega
theorem bits_and (f g : Nat → Bool) : bits BinOp.and IntKind.u32 (msk f : Int) (msk g : Int) = (msk (bothF f g) : Int) := by
  rw [(bits_nat .u32 26 (by decide) wraps_u32 (msk f) (msk g) (mk_lt f) (mk_lt g)).1, mk_and]
theorem bits_or (f : Nat → Bool) {k : Nat} (hk : k < 26) : bits BinOp.or IntKind.u32 (msk f : Int) ((1 <<< k : Nat) : Int) = (msk (updB f k true) : Int) := by
  rw [(bits_nat .u32 26 (by decide) wraps_u32 (msk f) (1 <<< k) (mk_lt f) (one_lt hk)).2, mk_or f hk]
theorem bits_has (f : Nat → Bool) {k : Nat} (hk : k < 26) : (bits BinOp.and IntKind.u32 (msk f : Int) ((1 <<< k : Nat) : Int) != 0) = f k := by
  rw [(bits_nat .u32 26 (by decide) wraps_u32 (msk f) (1 <<< k) (mk_lt f) (one_lt hk)).1]
  have h : ∀ i, (msk f &&& 1 <<< k).testBit i = (decide (i = k) && f k) := fun i => by
    rw [Nat.testBit_and, mk_bit, one_bit]
    by_cases e : i = k
    · subst e; simp [hk]
    · simp [e]
  cases hf : f k
  · have : msk f &&& 1 <<< k = 0 := Nat.eq_of_testBit_eq fun i => by rw [h i, hf]; simp
    rw [this]; rfl
  · have hne : msk f &&& 1 <<< k ≠ 0 := fun e => by
      have := h k
      rw [e, hf] at this
      simp at this
    exact bne_iff_ne.2 (by omega)
theorem bits_not (f : Nat → Bool) {k : Nat} (hk : k < 26) : bits BinOp.andNot IntKind.u32 (msk f : Int) ((1 <<< k : Nat) : Int) = (msk (updB f k false) : Int) := by
  have h1 : (BitVec.ofInt 32 (msk f : Int)).toNat = msk f := by
    rw [BitVec.ofInt_natCast, BitVec.toNat_ofNat]; exact Nat.mod_eq_of_lt (by have := mk_lt f; omega)
  have h2 : (BitVec.ofInt 32 ((1 <<< k : Nat) : Int)).toNat = 1 <<< k := by
    rw [BitVec.ofInt_natCast, BitVec.toNat_ofNat]; exact Nat.mod_eq_of_lt (by have := one_lt hk; omega)
  have h3 : msk f &&& (2 ^ 32 - 1 - 1 <<< k) = msk (updB f k false) := by
    apply Nat.eq_of_testBit_eq
    intro i
    have hlt : 1 <<< k < 2 ^ 32 := by have := one_lt hk; omega
    rw [Nat.testBit_and, mk_bit, mk_bit, show 2 ^ 32 - 1 - 1 <<< k = 2 ^ 32 - (1 <<< k + 1) by omega, Nat.testBit_two_pow_sub_succ hlt, one_bit]
    unfold updB
    by_cases q : i < 26
    · have : i < 32 := by omega
      by_cases e : i = k
      · simp [e]
      · simp [e, this]
    · simp [q]
  show IntKind.u32.wrap ((BitVec.ofInt 32 (msk f : Int) &&& ~~~ BitVec.ofInt 32 ((1 <<< k : Nat) : Int)).toNat : Int) = _
  rw [BitVec.toNat_and, BitVec.toNat_not, h1, h2, h3, IntKind.wrap_u32]
  have := mk_lt (updB f k false)
  omega

set_option maxHeartbeats 400000 in
theorem only_in (w : World) (k : Nat) (hk : k < 26) : Calls Tryd.prog 38 #[.int .i64 (k : Int)] w fun e w' => e = .returned (.int .u32 ((1 <<< k : Nat) : Int)) ∧ w' = w := by
  have HE : Hid ((2 ^ k % 4294967296 : Int) = ((1 <<< k : Nat) : Int)) := by
    show (2 ^ k % 4294967296 : Int) = ((1 <<< k : Nat) : Int)
    have h := one_lt hk
    rw [Nat.one_shiftLeft] at h ⊢
    have h2 : ((2 : Int) ^ k) = ((2 ^ k : Nat) : Int) := by simp
    rw [h2]
    clear h2
    generalize (2 ^ k : Nat) = q at h ⊢
    omega
  generalize ((1 <<< k : Nat) : Int) = R at HE ⊢
  go_enter Tryd.func38, Tryd.ntmps38
  go_wp2
  go_ret
  exact ⟨retI HE.out, rfl⟩
set_option maxHeartbeats 400000 in
theorem with_fn (w : World) (f : Nat → Bool) (k : Nat) (hk : k < 26) : Calls Tryd.prog 47 #[.int .u32 (msk f : Int), .int .i64 (k : Int)] w fun e w' => e = .returned (.int .u32 (msk (updB f k true) : Int)) ∧ w' = w := by
  have HE : Hid _ := bits_or f hk
  have HO : Hid _ := fun X => only_in X k hk
  generalize ((1 <<< k : Nat) : Int) = Q at HE HO
  go_enter Tryd.func47, Tryd.ntmps47
  go_wp2_with (go_at_call 38; refine (HO.out _).mono ?_; rintro e w1 ⟨rfl, hw⟩; have hw2 := hw.symm; clear hw; subst hw2)
  go_ret
  exact ⟨retI HE.out, rfl⟩
set_option maxHeartbeats 400000 in
theorem without_fn (w : World) (f : Nat → Bool) (k : Nat) (hk : k < 26) : Calls Tryd.prog 48 #[.int .u32 (msk f : Int), .int .i64 (k : Int)] w fun e w' => e = .returned (.int .u32 (msk (updB f k false) : Int)) ∧ w' = w := by
  have HE : Hid _ := bits_not f hk
  have HO : Hid _ := fun X => only_in X k hk
  generalize ((1 <<< k : Nat) : Int) = Q at HE HO
  go_enter Tryd.func48, Tryd.ntmps48
  go_wp2_with (go_at_call 38; refine (HO.out _).mono ?_; rintro e w1 ⟨rfl, hw⟩; have hw2 := hw.symm; clear hw; subst hw2)
  go_ret
  exact ⟨retI HE.out, rfl⟩
set_option maxHeartbeats 400000 in
theorem has_fn (w : World) (f : Nat → Bool) (k : Nat) (hk : k < 26) : Calls Tryd.prog 26 #[.int .u32 (msk f : Int), .int .i64 (k : Int)] w fun e w' => e = .returned (.bool (f k)) ∧ w' = w := by
  have HE : Hid _ := bits_has f hk
  have HO : Hid _ := fun X => only_in X k hk
  generalize ((1 <<< k : Nat) : Int) = Q at HE HO
  go_enter Tryd.func26, Tryd.ntmps26
  go_wp2_with (go_at_call 38; refine (HO.out _).mono ?_; rintro e w1 ⟨rfl, hw⟩; have hw2 := hw.symm; clear hw; subst hw2)
  go_ret
  exact ⟨retb HE.out, rfl⟩

/-- V=W; as the program does it -/
def moveF (k l : Nat) (f : Nat → Bool) : Nat → Bool := if f l then updB (updB f l false) k true else updB (updB f l false) k false
set_option maxHeartbeats 400000 in
theorem move_fn (w : World) (f : Nat → Bool) (k l : Nat) (hk : k < 26) (hl : l < 26) : Calls Tryd.prog 49 #[.int .i64 (k : Int), .int .i64 (l : Int), .int .u32 (msk f : Int)] w fun e w' => e = .returned (.int .u32 (msk (moveF k l f) : Int)) ∧ w' = w := by
  have H1 : Hid _ := fun X => without_fn X f l hl
  have H2 : Hid _ := fun X => has_fn X f l hl
  cases hf : f l
  · rw [hf] at H2
    have H3 : Hid _ := fun X => without_fn X (updB f l false) k hk
    have HE : moveF k l f = updB (updB f l false) k false := by unfold moveF; rw [hf]; rfl
    rw [HE]
    clear hf HE
    go_enter Tryd.func49, Tryd.ntmps49
    go_wp2_with fail
    refine (H1.out _).mono ?_
    rintro e w1 ⟨rfl, hw⟩
    have hw2 := hw.symm
    clear hw
    subst hw2
    go_wp2_with fail
    refine (H2.out _).mono ?_
    rintro e w1 ⟨rfl, hw⟩
    have hw2 := hw.symm
    clear hw
    subst hw2
    go_wp2_with fail
    refine (H3.out _).mono ?_
    rintro e w1 ⟨rfl, hw⟩
    have hw2 := hw.symm
    clear hw
    subst hw2
    go_wp2
    go_ret
    exact ⟨rfl, rfl⟩
  · rw [hf] at H2
    have H3 : Hid _ := fun X => with_fn X (updB f l false) k hk
    have HE : moveF k l f = updB (updB f l false) k true := by unfold moveF; rw [hf]; rfl
    rw [HE]
    clear hf HE
    go_enter Tryd.func49, Tryd.ntmps49
    go_wp2_with fail
    refine (H1.out _).mono ?_
    rintro e w1 ⟨rfl, hw⟩
    have hw2 := hw.symm
    clear hw
    subst hw2
    go_wp2_with fail
    refine (H2.out _).mono ?_
    rintro e w1 ⟨rfl, hw⟩
    have hw2 := hw.symm
    clear hw
    subst hw2
    go_wp2_with fail
    refine (H3.out _).mono ?_
    rintro e w1 ⟨rfl, hw⟩
    have hw2 := hw.symm
    clear hw
    subst hw2
    go_wp2
    go_ret
    exact ⟨rfl, rfl⟩
end Go.Proofs.YthcjcjfgdgnljabDoor
