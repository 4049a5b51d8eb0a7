/-
  The document's used: the box that a sentence uses.
-/
import Derived.Test.YtcmnejcojphijaaFulD
namespace Go.Proofs.Ytcmnejcojphijaa
open Go.RowKit
set_option linter.unusedVariables false

/-- the place of the letter of the box that the sentence at i uses; -1: it uses none -/
def useN (s : ByteArray) (i : Nat) : Int :=
  if bt s i = 126 then (i : Int) + 1
  else if greatN (bt s i) = true ∧ bt s (i + 1) = 91 then (i : Int)
  else if greatN (bt s i) = true ∧ greatN (bt s (i + 2)) = true then (i : Int) + 2
  else if smallN (bt s i) = true ∧ bt s (i + 2) = 35 then (i : Int) + 3
  else if smallN (bt s i) = true ∧ greatN (bt s (i + 2)) = true then (i : Int) + 2
  else -1

set_option maxRecDepth 8000 in
set_option maxHeartbeats 2000000 in
theorem us_drop (w : World) (s : ByteArray) (hs : s.size ≤ 100000) (i : Nat) (hi : i < s.size) (b3 : ((s[i].toNat : Int) == 126) = true) :
    Calls Try.prog 45 #[.string s, .int .i64 (i : Int)] w fun e w' => e = .returned (.int .i64 ((i : Int) + 1)) ∧ w' = w := by
  go_enter Try.func45, Try.ntmps45
  go_wp2
  go_ret
  exact ⟨rfl, rfl⟩

set_option maxRecDepth 8000 in
set_option maxHeartbeats 2000000 in
theorem us_store (w : World) (s : ByteArray) (hs : s.size ≤ 100000) (i : Nat) (hi : i + 1 < s.size) (b3 : ((s[i].toNat : Int) == 126) = false) (hg : greatN s[i].toNat = true) (b4 : ((s[i + 1].toNat : Int) == 91) = true) :
    Calls Try.prog 45 #[.string s, .int .i64 (i : Int)] w fun e w' => e = .returned (.int .i64 ((i : Int))) ∧ w' = w := by
  go_enter Try.func45, Try.ntmps45
  go_wp2_with (first
    | (go_at_call 66; refine (great_fn _ _ (UInt8.toNat_lt _)).mono ?_; rintro e w1 ⟨rfl, hw⟩; have hw2 := hw.symm; clear hw; subst hw2; first | rw [hg]))
  go_ret
  exact ⟨rfl, rfl⟩

set_option maxRecDepth 8000 in
set_option maxHeartbeats 2000000 in
theorem us_move (w : World) (s : ByteArray) (hs : s.size ≤ 100000) (i : Nat) (hi : i + 2 < s.size) (b3 : ((s[i].toNat : Int) == 126) = false) (hg : greatN s[i].toNat = true) (b4 : ((s[i + 1].toNat : Int) == 91) = false) (hg2 : greatN s[i + 2].toNat = true) :
    Calls Try.prog 45 #[.string s, .int .i64 (i : Int)] w fun e w' => e = .returned (.int .i64 ((i : Int) + 2)) ∧ w' = w := by
  go_enter Try.func45, Try.ntmps45
  go_wp2_with (first
    | (go_at_call 66; refine (great_fn _ _ (UInt8.toNat_lt _)).mono ?_; rintro e w1 ⟨rfl, hw⟩; have hw2 := hw.symm; clear hw; subst hw2; first | rw [hg] | rw [hg2]))
  go_ret
  exact ⟨rfl, rfl⟩

set_option maxRecDepth 8000 in
set_option maxHeartbeats 2000000 in
theorem us_make (w : World) (s : ByteArray) (hs : s.size ≤ 100000) (i : Nat) (hi : i + 2 < s.size) (b3 : ((s[i].toNat : Int) == 126) = false) (hg : greatN s[i].toNat = true) (b4 : ((s[i + 1].toNat : Int) == 91) = false) (hg2 : greatN s[i + 2].toNat = false) (hm : smallN s[i].toNat = false) :
    Calls Try.prog 45 #[.string s, .int .i64 (i : Int)] w fun e w' => e = .returned (.int .i64 (-1)) ∧ w' = w := by
  go_enter Try.func45, Try.ntmps45
  go_wp2_with (first
    | (go_at_call 66; refine (great_fn _ _ (UInt8.toNat_lt _)).mono ?_; rintro e w1 ⟨rfl, hw⟩; have hw2 := hw.symm; clear hw; subst hw2; first | rw [hg] | rw [hg2])
    | (go_at_call 67; refine (small_fn _ _ (UInt8.toNat_lt _)).mono ?_; rintro e w1 ⟨rfl, hw⟩; have hw2 := hw.symm; clear hw; subst hw2; first | rw [hm]))
  go_ret
  exact ⟨rfl, rfl⟩

set_option maxRecDepth 8000 in
set_option maxHeartbeats 2000000 in
theorem us_size (w : World) (s : ByteArray) (hs : s.size ≤ 100000) (i : Nat) (hi : i + 2 < s.size) (b3 : ((s[i].toNat : Int) == 126) = false) (hg : greatN s[i].toNat = false) (hm : smallN s[i].toNat = true) (b4 : ((s[i + 2].toNat : Int) == 35) = true) :
    Calls Try.prog 45 #[.string s, .int .i64 (i : Int)] w fun e w' => e = .returned (.int .i64 ((i : Int) + 3)) ∧ w' = w := by
  go_enter Try.func45, Try.ntmps45
  go_wp2_with (first
    | (go_at_call 66; refine (great_fn _ _ (UInt8.toNat_lt _)).mono ?_; rintro e w1 ⟨rfl, hw⟩; have hw2 := hw.symm; clear hw; subst hw2; first | rw [hg])
    | (go_at_call 67; refine (small_fn _ _ (UInt8.toNat_lt _)).mono ?_; rintro e w1 ⟨rfl, hw⟩; have hw2 := hw.symm; clear hw; subst hw2; first | rw [hm]))
  go_ret
  exact ⟨rfl, rfl⟩

set_option maxRecDepth 8000 in
set_option maxHeartbeats 2000000 in
theorem us_load (w : World) (s : ByteArray) (hs : s.size ≤ 100000) (i : Nat) (hi : i + 2 < s.size) (b3 : ((s[i].toNat : Int) == 126) = false) (hg : greatN s[i].toNat = false) (hm : smallN s[i].toNat = true) (b4 : ((s[i + 2].toNat : Int) == 35) = false) (hg2 : greatN s[i + 2].toNat = true) :
    Calls Try.prog 45 #[.string s, .int .i64 (i : Int)] w fun e w' => e = .returned (.int .i64 ((i : Int) + 2)) ∧ w' = w := by
  go_enter Try.func45, Try.ntmps45
  go_wp2_with (first
    | (go_at_call 66; refine (great_fn _ _ (UInt8.toNat_lt _)).mono ?_; rintro e w1 ⟨rfl, hw⟩; have hw2 := hw.symm; clear hw; subst hw2; first | rw [hg] | rw [hg2])
    | (go_at_call 67; refine (small_fn _ _ (UInt8.toNat_lt _)).mono ?_; rintro e w1 ⟨rfl, hw⟩; have hw2 := hw.symm; clear hw; subst hw2; first | rw [hm]))
  go_ret
  exact ⟨rfl, rfl⟩

set_option maxRecDepth 8000 in
set_option maxHeartbeats 2000000 in
theorem us_set (w : World) (s : ByteArray) (hs : s.size ≤ 100000) (i : Nat) (hi : i + 2 < s.size) (b3 : ((s[i].toNat : Int) == 126) = false) (hg : greatN s[i].toNat = false) (hm : smallN s[i].toNat = true) (b4 : ((s[i + 2].toNat : Int) == 35) = false) (hg2 : greatN s[i + 2].toNat = false) :
    Calls Try.prog 45 #[.string s, .int .i64 (i : Int)] w fun e w' => e = .returned (.int .i64 (-1)) ∧ w' = w := by
  go_enter Try.func45, Try.ntmps45
  go_wp2_with (first
    | (go_at_call 66; refine (great_fn _ _ (UInt8.toNat_lt _)).mono ?_; rintro e w1 ⟨rfl, hw⟩; have hw2 := hw.symm; clear hw; subst hw2; first | rw [hg] | rw [hg2])
    | (go_at_call 67; refine (small_fn _ _ (UInt8.toNat_lt _)).mono ?_; rintro e w1 ⟨rfl, hw⟩; have hw2 := hw.symm; clear hw; subst hw2; first | rw [hm]))
  go_ret
  exact ⟨rfl, rfl⟩

set_option maxRecDepth 8000 in
set_option maxHeartbeats 2000000 in
theorem us_print (w : World) (s : ByteArray) (hs : s.size ≤ 100000) (i : Nat) (hi : i < s.size) (b3 : ((s[i].toNat : Int) == 126) = false) (hg : greatN s[i].toNat = false) (hm : smallN s[i].toNat = false) :
    Calls Try.prog 45 #[.string s, .int .i64 (i : Int)] w fun e w' => e = .returned (.int .i64 (-1)) ∧ w' = w := by
  go_enter Try.func45, Try.ntmps45
  go_wp2_with (first
    | (go_at_call 66; refine (great_fn _ _ (UInt8.toNat_lt _)).mono ?_; rintro e w1 ⟨rfl, hw⟩; have hw2 := hw.symm; clear hw; subst hw2; first | rw [hg])
    | (go_at_call 67; refine (small_fn _ _ (UInt8.toNat_lt _)).mono ?_; rintro e w1 ⟨rfl, hw⟩; have hw2 := hw.symm; clear hw; subst hw2; first | rw [hm]))
  go_ret
  exact ⟨rfl, rfl⟩


theorem Opnd.head {s : ByteArray} {i j : Nat} (h : Opnd s i j) : greatN (bt s i) = false ∧ bt s i ≠ 35 ∧ i < s.size := by
  rcases h with ⟨h, _⟩ | ⟨h1, _, h2⟩
  · have := small_in h
    exact ⟨this.2.2.2.2, fun e => by rw [e] at h; simp [smallN] at h, this.1⟩
  · have h3 := h2 i (Nat.le_refl _) h1
    have := digit_in h3
    exact ⟨this.2.2.2.2, fun e => by rw [e] at h3; simp [digitN] at h3, this.1⟩

/-- what a sentence without braces uses, and that 'used' tells it -/
theorem used_fn (s : ByteArray) (hs : s.size ≤ 100000) (i j : Nat) (h : Simple s i j) :
    (useN s i = -1 ∨ ∃ q : Nat, useN s i = (q : Int) ∧ q < s.size ∧ greatN (bt s q) = true) ∧
    ∀ w : World, Calls Try.prog 45 #[.string s, .int .i64 (i : Int)] w fun e w' => e = .returned (.int .i64 (useN s i)) ∧ w' = w := by
  have hl := h.line
  have hi : i < s.size := by omega
  have b3 : bt s i ≠ 126 → ((s[i].toNat : Int) == 126) = false := fun h => beq_eq_false_iff_ne.2 (by rw [bt_in hi] at h; omega)
  rcases h with h | h | h | h | h | h | h | h | h
  · obtain ⟨hm, e1, e2, hg3, _⟩ := h
    have hn : bt s i ≠ 126 := fun e => by rw [e] at hm; simp [smallN] at hm
    have hg := (small_in hm).2.2.2.2
    have hi2 := byte_in e2 (by decide)
    have hu : useN s i = (i : Int) + 3 := by
      unfold useN
      rw [if_neg hn, if_neg (by simp [hg]), if_neg (by simp [hg]), if_pos ⟨hm, e2⟩]
    rw [hu]
    refine ⟨.inr ⟨i + 3, by omega, (great_in hg3).1, hg3⟩, fun w => ?_⟩
    rw [bt_in hi] at hm hg
    rw [bt_in hi2] at e2
    exact us_size w s hs i hi2 (b3 hn) hg hm (beq_iff_eq.2 (by omega))
  · obtain ⟨hm, e1, hg2, _⟩ := h
    have hn : bt s i ≠ 126 := fun e => by rw [e] at hm; simp [smallN] at hm
    have hg := (small_in hm).2.2.2.2
    have hi2 := (great_in hg2).1
    have h35 : bt s (i + 2) ≠ 35 := fun e => by rw [e] at hg2; simp [greatN] at hg2
    have hu : useN s i = (i : Int) + 2 := by
      unfold useN
      rw [if_neg hn, if_neg (by simp [hg]), if_neg (by simp [hg]), if_neg (fun q => h35 q.2), if_pos ⟨hm, hg2⟩]
    rw [hu]
    refine ⟨.inr ⟨i + 2, by omega, hi2, hg2⟩, fun w => ?_⟩
    rw [bt_in hi] at hm hg
    rw [bt_in hi2] at h35 hg2
    exact us_load w s hs i hi2 (b3 hn) hg hm (beq_eq_false_iff_ne.2 (by omega)) hg2
  · obtain ⟨hm, e1, k, ho, _⟩ := h
    have hn : bt s i ≠ 126 := fun e => by rw [e] at hm; simp [smallN] at hm
    have hg := (small_in hm).2.2.2.2
    obtain ⟨hg2, h35, hi2⟩ := ho.head
    have hu : useN s i = -1 := by
      unfold useN
      rw [if_neg hn, if_neg (by simp [hg]), if_neg (by simp [hg]), if_neg (fun q => h35 q.2), if_neg (by simp [hg2])]
    rw [hu]
    refine ⟨.inl rfl, fun w => ?_⟩
    rw [bt_in hi] at hm hg
    rw [bt_in hi2] at h35 hg2
    exact us_set w s hs i hi2 (b3 hn) hg hm (beq_eq_false_iff_ne.2 (by omega)) hg2
  · obtain ⟨hm, e1, k, l, ho, _⟩ := h
    have hn : bt s i ≠ 126 := fun e => by rw [e] at hm; simp [smallN] at hm
    have hg := (small_in hm).2.2.2.2
    obtain ⟨hg2, h35, hi2⟩ := ho.head
    have hu : useN s i = -1 := by
      unfold useN
      rw [if_neg hn, if_neg (by simp [hg]), if_neg (by simp [hg]), if_neg (fun q => h35 q.2), if_neg (by simp [hg2])]
    rw [hu]
    refine ⟨.inl rfl, fun w => ?_⟩
    rw [bt_in hi] at hm hg
    rw [bt_in hi2] at h35 hg2
    exact us_set w s hs i hi2 (b3 hn) hg hm (beq_eq_false_iff_ne.2 (by omega)) hg2
  · obtain ⟨hg, e1, _⟩ := h
    have hn : bt s i ≠ 126 := fun e => by rw [e] at hg; simp [greatN] at hg
    have hi1 := byte_in e1 (by decide)
    have hu : useN s i = (i : Int) := by
      unfold useN
      rw [if_neg hn, if_pos ⟨hg, e1⟩]
    rw [hu]
    refine ⟨.inr ⟨i, rfl, hi, hg⟩, fun w => ?_⟩
    rw [bt_in hi] at hg
    rw [bt_in hi1] at e1
    exact us_store w s hs i hi1 (b3 hn) hg (beq_iff_eq.2 (by omega))
  · obtain ⟨hg, e1, e2, _⟩ := h
    have hn : bt s i ≠ 126 := fun e => by rw [e] at hg; simp [greatN] at hg
    have hi1 := byte_in e1 (by decide)
    have hi2 := byte_in e2 (by decide)
    have hg2 : greatN (bt s (i + 2)) = false := by rw [e2]; rfl
    have hm := (great_in hg).2.2.2.2
    have hu : useN s i = -1 := by
      unfold useN
      rw [if_neg hn, if_neg (fun q => by rw [e1] at q; exact absurd q.2 (by decide)), if_neg (by simp [hg2]), if_neg (by simp [hm]), if_neg (by simp [hm])]
    rw [hu]
    refine ⟨.inl rfl, fun w => ?_⟩
    rw [bt_in hi] at hg hm
    rw [bt_in hi1] at e1
    rw [bt_in hi2] at hg2
    exact us_make w s hs i hi2 (b3 hn) hg (beq_eq_false_iff_ne.2 (by omega)) hg2 hm
  · obtain ⟨hg, e1, hg2, _⟩ := h
    have hn : bt s i ≠ 126 := fun e => by rw [e] at hg; simp [greatN] at hg
    have hi1 := byte_in e1 (by decide)
    have hi2 := (great_in hg2).1
    have hu : useN s i = (i : Int) + 2 := by
      unfold useN
      rw [if_neg hn, if_neg (fun q => by rw [e1] at q; exact absurd q.2 (by decide)), if_pos ⟨hg, hg2⟩]
    rw [hu]
    refine ⟨.inr ⟨i + 2, by omega, hi2, hg2⟩, fun w => ?_⟩
    rw [bt_in hi] at hg
    rw [bt_in hi1] at e1
    rw [bt_in hi2] at hg2
    exact us_move w s hs i hi2 (b3 hn) hg (beq_eq_false_iff_ne.2 (by omega)) hg2
  · have e := h.1
    have hn : bt s i ≠ 126 := by omega
    have hg : greatN (bt s i) = false := by rw [e]; rfl
    have hm : smallN (bt s i) = false := by rw [e]; rfl
    have hu : useN s i = -1 := by
      unfold useN
      rw [if_neg hn, if_neg (by simp [hg]), if_neg (by simp [hg]), if_neg (by simp [hm]), if_neg (by simp [hm])]
    rw [hu]
    refine ⟨.inl rfl, fun w => ?_⟩
    rw [bt_in hi] at hg hm
    exact us_print w s hs i hi (b3 hn) hg hm
  · obtain ⟨e, hg, _⟩ := h
    have hi1 := (great_in hg).1
    have hu : useN s i = (i : Int) + 1 := by
      unfold useN
      rw [if_pos e]
    rw [hu]
    refine ⟨.inr ⟨i + 1, by omega, hi1, hg⟩, fun w => ?_⟩
    rw [bt_in hi] at e
    exact us_drop w s hs i hi (beq_iff_eq.2 (by omega))
end Go.Proofs.Ytcmnejcojphijaa
