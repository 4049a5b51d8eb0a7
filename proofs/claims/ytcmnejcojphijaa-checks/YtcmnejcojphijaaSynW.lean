/-
  The document's walk along a program's text: where its sentences begin and end.
-/
import Derived.Test.YtcmnejcojphijaaSynV
namespace Go.Proofs.Ytcmnejcojphijaa
open Go.RowKit
set_option linter.unusedVariables false

theorem retI {k : IntKind} {a b : Int} (h : a = b) : Ending.returned (.int k a) = .returned (.int k b) := by rw [h]
def br (c : Nat) : Int := if c = 123 then 1 else if c = 125 then -1 else 0
/-- how many braces are open ahead of place k -/
def cum (s : ByteArray) : Nat → Int
  | 0 => 0
  | k + 1 => cum s k + br (bt s k)
theorem cum_near (s : ByteArray) (a : Nat) : ∀ n, cum s (a + n) ≤ cum s a + n ∧ cum s a - n ≤ cum s (a + n)
  | 0 => by simp
  | n + 1 => by
    have h := cum_near s a n
    show cum s (a + n) + br (bt s (a + n)) ≤ _ ∧ _ ≤ cum s (a + n) + br (bt s (a + n))
    have : br (bt s (a + n)) ≤ 1 ∧ -1 ≤ br (bt s (a + n)) := by
      unfold br
      repeat' split
      all_goals omega
    omega
theorem cum_bound (s : ByteArray) {a k : Nat} (h : a ≤ k) : cum s k ≤ cum s a + (k - a : Nat) ∧ cum s a - (k - a : Nat) ≤ cum s k := by
  have := cum_near s a (k - a)
  rwa [show a + (k - a) = k by omega] at this
/-- from a to b as many braces close as open, and none that was open at a -/
structure Nn (s : ByteArray) (a b : Nat) : Prop where
  le : a ≤ b
  eq : cum s b = cum s a
  ge : ∀ k, a ≤ k → k ≤ b → cum s a ≤ cum s k
theorem Nn.refl (s : ByteArray) (a : Nat) : Nn s a a := ⟨Nat.le_refl _, rfl, fun k h1 h2 => by rw [show k = a by omega]; omega⟩
theorem Nn.app {s : ByteArray} {a b c : Nat} (h : Nn s a b) (g : Nn s b c) : Nn s a c :=
  ⟨Nat.le_trans h.le g.le, g.eq.trans h.eq, fun k h1 h2 => by
    by_cases e : k ≤ b
    · exact h.ge k h1 e
    · rw [← h.eq]; exact g.ge k (by omega) h2⟩
theorem Nn.one {s : ByteArray} {a : Nat} (h1 : bt s a ≠ 123) (h2 : bt s a ≠ 125) : Nn s a (a + 1) := by
  have e : cum s (a + 1) = cum s a := by
    show cum s a + br (bt s a) = _
    unfold br
    rw [if_neg h1, if_neg h2]
    omega
  refine ⟨by omega, e, fun k g1 g2 => ?_⟩
  by_cases q : k = a
  · rw [q]; omega
  · rw [show k = a + 1 by omega, e]; omega
theorem Nn.span {s : ByteArray} {a : Nat} : ∀ {n : Nat}, (∀ k, a ≤ k → k < a + n → bt s k ≠ 123 ∧ bt s k ≠ 125) → Nn s a (a + n)
  | 0, _ => Nn.refl s a
  | n + 1, h => (Nn.span (n := n) (fun k h1 h2 => h k h1 (by omega))).app (Nn.one (h (a + n) (by omega) (by omega)).1 (h (a + n) (by omega) (by omega)).2)
theorem Nn.plain {s : ByteArray} {a b : Nat} (hab : a ≤ b) (h : ∀ k, a ≤ k → k < b → bt s k ≠ 123 ∧ bt s k ≠ 125) : Nn s a b := by
  have := Nn.span (s := s) (a := a) (n := b - a) (fun k h1 h2 => h k h1 (by omega))
  rwa [show a + (b - a) = b by omega] at this
theorem cum_open {s : ByteArray} {q : Nat} (h : bt s q = 123) : cum s (q + 1) = cum s q + 1 := by
  show cum s q + br (bt s q) = _
  rw [h]; rfl
theorem cum_close {s : ByteArray} {q : Nat} (h : bt s q = 125) : cum s (q + 1) = cum s q - 1 := by
  show cum s q + br (bt s q) = _
  rw [h]; rfl
/-- what stands in braces: the first place at which as many are open as ahead of it is the one behind it -/
theorem brace {s : ByteArray} {q b : Nat} (h1 : bt s q = 123) (h : Nn s (q + 1) b) (h2 : bt s b = 125) : cum s (b + 1) = cum s q ∧ ∀ k, q < k → k < b + 1 → cum s k ≠ cum s q := by
  have e1 := cum_open h1
  have e2 := cum_close h2
  have e3 := h.eq
  refine ⟨by omega, fun k g1 g2 => ?_⟩
  have := h.ge k (by omega) (by omega)
  omega
theorem Nn.brace {s : ByteArray} {q b : Nat} (h1 : bt s q = 123) (h : Nn s (q + 1) b) (h2 : bt s b = 125) : Nn s q (b + 1) := by
  have e1 := cum_open h1
  have e2 := cum_close h2
  have e3 := h.eq
  have := h.le
  refine ⟨by omega, by omega, fun k g1 g2 => ?_⟩
  by_cases e : k = q
  · rw [e]; omega
  · by_cases e' : k = b + 1
    · rw [e']; omega
    · have := h.ge k (by omega) (by omega)
      omega
theorem Opnd.nn {s : ByteArray} {i j : Nat} (h : Opnd s i j) : Nn s i j := Nn.plain (Nat.le_of_lt h.lt) (fun k h1 h2 => (h.span k h1 h2).2)
theorem Simple.nn {s : ByteArray} {i j : Nat} (h : Simple s i j) : Nn s i j := by
  obtain ⟨h1, _, h2, h3⟩ := h.line
  refine Nn.plain (Nat.le_of_lt h1) (fun k g1 g2 => ?_)
  by_cases e : k = j - 1
  · rw [e, h2]; omega
  · exact (h3 k g1 (by omega)).2
theorem nn_of {s : ByteArray} {i x : Nat} (h : bt s i = x) (h1 : x ≠ 123) (h2 : x ≠ 125) : Nn s i (i + 1) := Nn.one (by rw [h]; exact h1) (by rw [h]; exact h2)
theorem Prog.nn {s : ByteArray} : ∀ {F i j : Nat}, Prog s F i j → Nn s i j
  | 0, i, j, h => by have e : i = j := h; subst e; exact Nn.refl s i
  | F + 1, i, j, h => by
    rcases h with h | ⟨m, h1, h2⟩
    · subst h; exact Nn.refl s i
    · refine Nn.app ?_ h2.nn
      rcases h1 with h | ⟨e, a, b, c, ho, ha, hp, hb, hb1, hq, hc, rfl⟩ | ⟨e, a, b, ho, ha, hp, hb, rfl⟩
      · exact h.nn
      · exact (((nn_of e (by decide) (by decide)).app ho.nn).app (Nn.brace ha hp.nn hb)).app (Nn.brace hb1 hq.nn hc)
      · exact ((nn_of e (by decide) (by decide)).app ho.nn).app (Nn.brace ha hp.nn hb)

set_option maxHeartbeats 400000 in
theorem bop_small (w : World) (s : ByteArray) (i : Nat) (hi : i < s.size) (hs : s.size ≤ 100000) (h : smallN s[i].toNat = true) :
    Calls Try.prog 61 #[.string s, .int .i64 (i : Int)] w fun e w' => e = .returned (.int .i64 ((i : Int) + 1)) ∧ w' = w := by
  go_enter Try.func61, Try.ntmps61
  go_wp2_with (go_at_call 67; refine (small_fn _ s[i].toNat (UInt8.toNat_lt _)).mono ?_; rintro e w1 ⟨rfl, hw⟩; have hw2 := hw.symm; clear hw; subst hw2; rw [h])
  go_ret
  exact ⟨rfl, rfl⟩

set_option maxHeartbeats 400000 in
theorem bop_digit (w : World) (s : ByteArray) (i j : Nat) (hij : i < j) (hj : j < s.size) (hs : s.size ≤ 100000) (h : ∀ k, i ≤ k → k < j → digitN (bt s k) = true) (hd : digitN (bt s j) = false) :
    Calls Try.prog 61 #[.string s, .int .i64 (i : Int)] w fun e w' => e = .returned (.int .i64 (j : Int)) ∧ w' = w := by
  have hi : i < s.size := by omega
  have hsm : smallN s[i].toNat = false := by
    have := (digit_in (h i (Nat.le_refl _) hij)).2.2.2.1
    rwa [bt_in hi] at this
  have H : Hid _ := h
  have HD : Hid _ := hd
  clear h hd
  go_enter Try.func61, Try.ntmps61
  go_wp2_with (go_at_call 67; refine (small_fn _ s[i].toNat (UInt8.toNat_lt _)).mono ?_; rintro e w1 ⟨rfl, hw⟩; have hw2 := hw.symm; clear hw; subst hw2; rw [hsm])
  go_loop [1] (fun t => ∃ k : Nat, i ≤ k ∧ k ≤ j ∧ t = .int .i64 k) (fun t => j - (intOf t).toNat)
  case atStart => exact ⟨i, Nat.le_refl _, by omega, rfl⟩
  case round =>
    obtain ⟨k, hk1, hk2, rfl⟩ := hrel
    have hkl : k < s.size := by omega
    by_cases hlt : k < j
    · have hdk : digitN s[k].toNat = true := by rw [← bt_in hkl]; exact H.out k hk1 hlt
      go_wp2_with (go_at_call 78; refine (digit_fn _ s[k].toNat (UInt8.toNat_lt _)).mono ?_; rintro e w1 ⟨rfl, hw⟩; have hw2 := hw.symm; clear hw; subst hw2; rw [hdk])
      go_round
      case rel => exact ⟨k + 1, by omega, by omega, by go_num⟩
      case measure => simp [intOf]; omega
    · have hkj : k = j := by omega
      subst hkj
      have hdk : digitN s[k].toNat = false := by rw [← bt_in hkl]; exact HD.out
      go_wp2_with (go_at_call 78; refine (digit_fn _ s[k].toNat (UInt8.toNat_lt _)).mono ?_; rintro e w1 ⟨rfl, hw⟩; have hw2 := hw.symm; clear hw; subst hw2; rw [hdk])
      go_ret
      exact ⟨rfl, rfl⟩

theorem bop_fn (w : World) (s : ByteArray) (i j : Nat) (h : Opnd s i j) (hj : j < s.size) (hs : s.size ≤ 100000) (hd : digitN (bt s j) = false) :
    Calls Try.prog 61 #[.string s, .int .i64 (i : Int)] w fun e w' => e = .returned (.int .i64 (j : Int)) ∧ w' = w := by
  rcases h with ⟨h, rfl⟩ | ⟨h1, _, h2⟩
  · have hi : i < s.size := by omega
    rw [bt_in hi] at h
    exact bop_small w s i hi hs h
  · exact bop_digit w s i j h1 hj hs h2 hd

set_option maxHeartbeats 1000000 in
theorem bbr_fn (w : World) (s : ByteArray) (i j : Nat) (hij : i < j) (hj : j ≤ s.size) (hs : s.size ≤ 100000) (h0 : cum s j = cum s i) (h : ∀ k, i < k → k < j → cum s k ≠ cum s i) :
    Calls Try.prog 62 #[.string s, .int .i64 (i : Int)] w fun e w' => e = .returned (.int .i64 (j : Int)) ∧ w' = w := by
  have H : Hid _ := h
  have H0 : Hid _ := h0
  clear h h0
  go_enter Try.func62, Try.ntmps62
  go_wp2
  go_loop [1, 5] (fun t u => ∃ k : Nat, i ≤ k ∧ k < j ∧ t = .int .i64 k ∧ u = .int .i64 (cum s k - cum s i)) (fun t _ => j - (intOf t).toNat)
  case atStart => exact ⟨i, Nat.le_refl _, hij, rfl, by simp⟩
  case round =>
    obtain ⟨k, hk1, hk2, rfl, rfl⟩ := hrel
    have hkl : k < s.size := by omega
    have hb := cum_bound s hk1
    have Hbt : Hid (bt s k = s[k].toNat) := bt_in hkl
    have Hnext : Hid (cum s (k + 1) - cum s i = cum s k - cum s i + br (s[k].toNat)) := by
      show cum s k + br (bt s k) - cum s i = _
      rw [Hbt.out]; omega
    generalize hD : cum s k - cum s i = D at *
    have hD1 : -100000 ≤ D ∧ D ≤ 100000 := by omega
    clear hD hb
    have Hend : Hid (k + 1 = j ↔ D + br (s[k].toNat) = 0) := by
      constructor
      · intro e
        have := H0.out
        have h2 := Hnext.out
        rw [e] at h2
        omega
      · intro e
        have h2 := Hnext.out
        by_cases q : k + 1 = j
        · exact q
        · exact absurd (show cum s (k + 1) = cum s i by omega) (H.out (k + 1) (by omega) (by omega))
    obtain ⟨hD2, hD3⟩ := hD1
    by_cases h123 : s[k].toNat = 123
    · have b1 : ((s[k].toNat : Int) == 123) = true := beq_iff_eq.2 (by omega)
      have b2 : ((s[k].toNat : Int) == 125) = false := beq_eq_false_iff_ne.2 (by omega)
      have hbr : br (s[k].toNat) = 1 := by rw [h123]; rfl
      rw [hbr] at Hend Hnext
      clear hbr h123
      by_cases hz : D + 1 = 0
      · have hkj := Hend.out.2 hz
        have b3 : (D + 1 == 0) = true := beq_iff_eq.2 hz
        clear hz
        go_wp2
        go_ret
        exact ⟨retI (by omega), rfl⟩
      · have hkj : k + 1 ≠ j := fun e => hz (Hend.out.1 e)
        have b3 : (D + 1 == 0) = false := beq_eq_false_iff_ne.2 hz
        clear hz
        go_wp2
        go_round
        case rel => exact ⟨k + 1, by omega, by omega, by go_num, by simp only [Hnext.out]; first | done | rfl | go_num⟩
        case measure => simp [intOf]; omega
    · have b1 : ((s[k].toNat : Int) == 123) = false := beq_eq_false_iff_ne.2 (by omega)
      by_cases h125 : s[k].toNat = 125
      · have b2 : ((s[k].toNat : Int) == 125) = true := beq_iff_eq.2 (by omega)
        have hbr : br (s[k].toNat) = -1 := by rw [h125]; rfl
        rw [hbr] at Hend Hnext
        clear hbr h123 h125
        by_cases hz : D - 1 = 0
        · have hkj := Hend.out.2 (by omega)
          have b3 : (D - 1 == 0) = true := beq_iff_eq.2 hz
          clear hz
          go_wp2
          go_ret
          exact ⟨retI (by omega), rfl⟩
        · have hkj : k + 1 ≠ j := fun e => hz (by have := Hend.out.1 e; omega)
          have b3 : (D - 1 == 0) = false := beq_eq_false_iff_ne.2 hz
          clear hz
          go_wp2
          go_round
          case rel => exact ⟨k + 1, by omega, by omega, by go_num, by simp only [Hnext.out]; first | done | rfl | go_num⟩
          case measure => simp [intOf]; omega
      · have b2 : ((s[k].toNat : Int) == 125) = false := beq_eq_false_iff_ne.2 (by omega)
        have hbr : br (s[k].toNat) = 0 := by unfold br; rw [if_neg h123, if_neg h125]
        rw [hbr] at Hend Hnext
        clear hbr h123 h125
        by_cases hz : D = 0
        · have hkj := Hend.out.2 (by omega)
          have b3 : (D == 0) = true := beq_iff_eq.2 hz
          clear hz
          go_wp2
          go_ret
          exact ⟨retI (by omega), rfl⟩
        · have hkj : k + 1 ≠ j := fun e => hz (by have := Hend.out.1 e; omega)
          have b3 : (D == 0) = false := beq_eq_false_iff_ne.2 hz
          clear hz
          go_wp2
          go_round
          case rel => exact ⟨k + 1, by omega, by omega, by go_num, by simp only [Hnext.out]; first | done | rfl | go_num⟩
          case measure => simp [intOf]; omega
end Go.Proofs.Ytcmnejcojphijaa
