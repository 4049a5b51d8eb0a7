/-
  The document's walk along a program's text: behind a sentence; the two S of a ?, the S of a @.
-/
import Derived.Test.YtcmnejcojphijaaSynW
namespace Go.Proofs.Ytcmnejcojphijaa
open Go.RowKit
set_option linter.unusedVariables false

structure IfAt (s : ByteArray) (i a b c : Nat) : Prop where
  q : bt s i = 63
  o : Opnd s (i + 1) a
  ha : bt s a = 123
  n1 : Nn s (a + 1) b
  hb : bt s b = 125
  hb1 : bt s (b + 1) = 123
  n2 : Nn s (b + 2) c
  hc : bt s c = 125
structure LoopAt (s : ByteArray) (i a b : Nat) : Prop where
  q : bt s i = 64
  o : Opnd s (i + 1) a
  ha : bt s a = 123
  n1 : Nn s (a + 1) b
  hb : bt s b = 125
theorem nodigit {s : ByteArray} {j x : Nat} (h : bt s j = x) (hx : x = 123 ∨ x = 59 ∨ x = 93) : digitN (bt s j) = false := by
  rw [h]; rcases hx with rfl | rfl | rfl <;> rfl

section
variable {s : ByteArray} {i a b c : Nat}
theorem IfAt.bnd (h : IfAt s i a b c) : i + 1 < a ∧ a < b ∧ b + 1 < c ∧ c < s.size := by
  have := h.o.lt; have := h.n1.le; have := h.n2.le; have := byte_in h.hc (by decide); omega
theorem LoopAt.bnd (h : LoopAt s i a b) : i + 1 < a ∧ a < b ∧ b < s.size := by
  have := h.o.lt; have := h.n1.le; have := byte_in h.hb (by decide); omega
theorem IfAt.op (h : IfAt s i a b c) (hs : s.size ≤ 100000) (w : World) : Calls Try.prog 61 #[.string s, .int .i64 ((i : Int) + 1)] w fun e w' => e = .returned (.int .i64 (a : Int)) ∧ w' = w := by
  have := h.bnd
  exact bop_fn w s (i + 1) a h.o (by omega) hs (nodigit h.ha (.inl rfl))
theorem IfAt.br1 (h : IfAt s i a b c) (hs : s.size ≤ 100000) (w : World) : Calls Try.prog 62 #[.string s, .int .i64 (a : Int)] w fun e w' => e = .returned (.int .i64 ((b : Int) + 1)) ∧ w' = w := by
  have := h.bnd
  have g := brace h.ha h.n1 h.hb
  exact bbr_fn w s a (b + 1) (by omega) (by omega) hs g.1 g.2
theorem IfAt.br2 (h : IfAt s i a b c) (hs : s.size ≤ 100000) (w : World) : Calls Try.prog 62 #[.string s, .int .i64 ((b : Int) + 1)] w fun e w' => e = .returned (.int .i64 ((c : Int) + 1)) ∧ w' = w := by
  have := h.bnd
  have g := brace h.hb1 h.n2 h.hc
  exact bbr_fn w s (b + 1) (c + 1) (by omega) (by omega) hs g.1 g.2
theorem LoopAt.op (h : LoopAt s i a b) (hs : s.size ≤ 100000) (w : World) : Calls Try.prog 61 #[.string s, .int .i64 ((i : Int) + 1)] w fun e w' => e = .returned (.int .i64 (a : Int)) ∧ w' = w := by
  have := h.bnd
  exact bop_fn w s (i + 1) a h.o (by omega) hs (nodigit h.ha (.inl rfl))
theorem LoopAt.br1 (h : LoopAt s i a b) (hs : s.size ≤ 100000) (w : World) : Calls Try.prog 62 #[.string s, .int .i64 (a : Int)] w fun e w' => e = .returned (.int .i64 ((b : Int) + 1)) ∧ w' = w := by
  have := h.bnd
  have g := brace h.ha h.n1 h.hb
  exact bbr_fn w s a (b + 1) (by omega) (by omega) hs g.1 g.2
end

set_option maxHeartbeats 1000000 in
theorem beh_if (w : World) (s : ByteArray) (i a b c : Nat) (h : IfAt s i a b c) (hs : s.size ≤ 100000) :
    Calls Try.prog 47 #[.string s, .int .i64 (i : Int)] w fun e w' => e = .returned (.int .i64 ((c : Int) + 1)) ∧ w' = w := by
  have hbd := h.bnd
  have hi : i < s.size := by omega
  have hq : s[i].toNat = 63 := by rw [← bt_in hi]; exact h.q
  have b1 : ((s[i].toNat : Int) == 63) = true := beq_iff_eq.2 (by omega)
  have H1 : Hid _ := h.op hs
  have H2 : Hid _ := h.br1 hs
  have H3 : Hid _ := h.br2 hs
  clear h hq
  go_enter Try.func47, Try.ntmps47
  go_wp2_with fail
  refine (H1.out _).mono ?_
  rintro e w1 ⟨rfl, hw⟩
  have hw2 := hw.symm
  clear hw
  subst hw2
  go_wp2_with fail
  refine (H2.out _).mono ?_
  rintro e w2 ⟨rfl, hw⟩
  have hw3 := hw.symm
  clear hw
  subst hw3
  go_wp2_with fail
  refine (H3.out _).mono ?_
  rintro e w3 ⟨rfl, hw⟩
  have hw4 := hw.symm
  clear hw
  subst hw4
  go_wp2
  go_ret
  exact ⟨rfl, rfl⟩

set_option maxHeartbeats 1000000 in
theorem beh_loop (w : World) (s : ByteArray) (i a b : Nat) (h : LoopAt s i a b) (hs : s.size ≤ 100000) :
    Calls Try.prog 47 #[.string s, .int .i64 (i : Int)] w fun e w' => e = .returned (.int .i64 ((b : Int) + 1)) ∧ w' = w := by
  have hbd := h.bnd
  have hi : i < s.size := by omega
  have hq : s[i].toNat = 64 := by rw [← bt_in hi]; exact h.q
  have b1 : ((s[i].toNat : Int) == 63) = false := beq_eq_false_iff_ne.2 (by omega)
  have b2 : ((s[i].toNat : Int) == 64) = true := beq_iff_eq.2 (by omega)
  have H1 : Hid _ := h.op hs
  have H2 : Hid _ := h.br1 hs
  clear h hq
  go_enter Try.func47, Try.ntmps47
  go_wp2_with (first | (go_at_call 61; refine (H1.out _).mono ?_; rintro e w1 ⟨rfl, hw⟩; have hw2 := hw.symm; clear hw; subst hw2) | (go_at_call 62; refine (H2.out _).mono ?_; rintro e w1 ⟨rfl, hw⟩; have hw2 := hw.symm; clear hw; subst hw2))
  go_ret
  exact ⟨rfl, rfl⟩

theorem Simple.first {s : ByteArray} {i j : Nat} (h : Simple s i j) : bt s i ≠ 63 ∧ bt s i ≠ 64 := by
  have sm : smallN (bt s i) = true → bt s i ≠ 63 ∧ bt s i ≠ 64 := fun h => by simp [smallN] at h; omega
  have gr : greatN (bt s i) = true → bt s i ≠ 63 ∧ bt s i ≠ 64 := fun h => by simp [greatN] at h; omega
  rcases h with h | h | h | h | h | h | h | h | h
  · exact sm h.1
  · exact sm h.1
  · exact sm h.1
  · exact sm h.1
  · exact gr h.1
  · exact gr h.1
  · exact gr h.1
  · have := h.1; omega
  · have := h.1; omega

set_option maxHeartbeats 1000000 in
theorem beh_simple (w : World) (s : ByteArray) (i j : Nat) (h : Simple s i j) (hs : s.size ≤ 100000) :
    Calls Try.prog 47 #[.string s, .int .i64 (i : Int)] w fun e w' => e = .returned (.int .i64 (j : Int)) ∧ w' = w := by
  obtain ⟨hij, hj, h59, hsp⟩ := h.line
  have hi : i < s.size := by omega
  have hf := h.first
  rw [bt_in hi] at hf
  have b1 : ((s[i].toNat : Int) == 63) = false := beq_eq_false_iff_ne.2 (by omega)
  have b2 : ((s[i].toNat : Int) == 64) = false := beq_eq_false_iff_ne.2 (by omega)
  have H59 : Hid _ := h59
  have HSp : Hid _ := hsp
  clear h h59 hsp hf
  go_enter Try.func47, Try.ntmps47
  go_wp2
  go_loop [1] (fun t => ∃ k : Nat, i ≤ k ∧ k < j ∧ t = .int .i64 k) (fun t => j - (intOf t).toNat)
  case atStart => exact ⟨i, Nat.le_refl _, hij, rfl⟩
  case round =>
    obtain ⟨k, hk1, hk2, rfl⟩ := hrel
    have hkl : k < s.size := by omega
    by_cases hlt : k + 1 < j
    · have b3 : ((s[k].toNat : Int) != 59) = true := bne_iff_ne.2 (by
        have := (HSp.out k hk1 (by omega)).1
        rw [bt_in hkl] at this
        omega)
      go_wp2
      go_round
      case rel => exact ⟨k + 1, by omega, by omega, by go_num⟩
      case measure => simp [intOf]; omega
    · have hkj : k + 1 = j := by omega
      have b3 : ((s[k].toNat : Int) != 59) = false := by
        have := H59.out
        rw [show j - 1 = k by omega, bt_in hkl] at this
        rw [this]; rfl
      go_wp2
      go_ret
      exact ⟨retI (by omega), rfl⟩

set_option maxHeartbeats 1000000 in
theorem halves_fn (w : World) (s : ByteArray) (i a b c : Nat) (h : IfAt s i a b c) (hs : s.size ≤ 100000) :
    Calls Try.prog 42 #[.string s, .int .i64 (i : Int)] w fun e w' => e = .returned (.tuple #[.int .i64 ((a : Int) + 1), .int .i64 (b : Int), .int .i64 ((b : Int) + 2), .int .i64 (c : Int)]) ∧ w' = w := by
  have hbd := h.bnd
  have H1 : Hid _ := h.op hs
  have H2 : Hid _ := h.br1 hs
  have H3 : Hid _ := h.br2 hs
  clear h
  go_enter Try.func42, Try.ntmps42
  go_wp2_with fail
  refine (H1.out _).mono ?_
  rintro e w1 ⟨rfl, hw⟩
  have hw2 := hw.symm
  clear hw
  subst hw2
  go_wp2_with fail
  refine (H2.out _).mono ?_
  rintro e w2 ⟨rfl, hw⟩
  have hw3 := hw.symm
  clear hw
  subst hw3
  go_wp2_with fail
  refine (H3.out _).mono ?_
  rintro e w3 ⟨rfl, hw⟩
  have hw4 := hw.symm
  clear hw
  subst hw4
  go_wp2
  exact bodyPost_ret (v := .tuple #[.int .i64 ((a : Int) + 1), .int .i64 (b : Int), .int .i64 ((b : Int) + 2), .int .i64 (c : Int)]) (by simp [results, Try.results42, go_sem]; omega) rfl ⟨rfl, rfl⟩

set_option maxHeartbeats 1000000 in
theorem body_fn (w : World) (s : ByteArray) (i a b : Nat) (h : LoopAt s i a b) (hs : s.size ≤ 100000) :
    Calls Try.prog 43 #[.string s, .int .i64 (i : Int)] w fun e w' => e = .returned (.tuple #[.int .i64 ((a : Int) + 1), .int .i64 (b : Int)]) ∧ w' = w := by
  have hbd := h.bnd
  have H1 : Hid _ := h.op hs
  have H2 : Hid _ := h.br1 hs
  clear h
  go_enter Try.func43, Try.ntmps43
  go_wp2_with (first | (go_at_call 61; refine (H1.out _).mono ?_; rintro e w1 ⟨rfl, hw⟩; have hw2 := hw.symm; clear hw; subst hw2) | (go_at_call 62; refine (H2.out _).mono ?_; rintro e w1 ⟨rfl, hw⟩; have hw2 := hw.symm; clear hw; subst hw2))
  go_ret2
  exact ⟨rfl, rfl⟩
end Go.Proofs.Ytcmnejcojphijaa
