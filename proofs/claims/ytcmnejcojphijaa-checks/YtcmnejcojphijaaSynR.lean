/-
  The stack's run along a text: one equation for each part. (No walk here.)
-/
import Derived.Test.YtcmnejcojphijaaSynQ
namespace Go.Proofs.Ytcmnejcojphijaa
open Go.RowKit

theorem small_in {s : ByteArray} {i : Nat} (h : smallN (bt s i) = true) : i < s.size ∧ bt s i ≠ 123 ∧ bt s i ≠ 125 ∧ digitN (bt s i) = false ∧ greatN (bt s i) = false := by
  simp [smallN] at h
  refine ⟨?_, by omega, by omega, by simp [digitN]; omega, by simp [greatN]; omega⟩
  by_cases hl : i < s.size
  · exact hl
  · rw [bt_out hl] at h; omega
theorem great_in {s : ByteArray} {i : Nat} (h : greatN (bt s i) = true) : i < s.size ∧ bt s i ≠ 123 ∧ bt s i ≠ 125 ∧ digitN (bt s i) = false ∧ smallN (bt s i) = false := by
  simp [greatN] at h
  refine ⟨?_, by omega, by omega, by simp [digitN]; omega, by simp [smallN]; omega⟩
  by_cases hl : i < s.size
  · exact hl
  · rw [bt_out hl] at h; omega
theorem digit_in {s : ByteArray} {i : Nat} (h : digitN (bt s i) = true) : i < s.size ∧ bt s i ≠ 123 ∧ bt s i ≠ 125 ∧ smallN (bt s i) = false ∧ greatN (bt s i) = false := by
  simp [digitN] at h
  refine ⟨?_, by omega, by omega, by simp [smallN]; omega, by simp [greatN]; omega⟩
  by_cases hl : i < s.size
  · exact hl
  · rw [bt_out hl] at h; omega
theorem byte_in {s : ByteArray} {i x : Nat} (h : bt s i = x) (hx : x ≠ 0) : i < s.size := by
  by_cases hl : i < s.size
  · exact hl
  · rw [bt_out hl] at h; omega

/-- the part takes the text's own byte, and the rest is expected behind it -/
theorem run_own {s : ByteArray} {b i : Nat} {d : Int} {l : List Nat} (t : List (Nat × Bool)) (hi : i < s.size) (h1 : bt s i ≠ 123) (h2 : bt s i ≠ 125) (h : chosenN b (bt s i) = (l ++ [bt s i], true)) :
    run s ((b, true) :: t) i d = run s ((l.map prt).reverse ++ t) (i + 1) d := by
  rw [run_exp t (by omega) (expand_last h), List.cons_append, run_hit _ hi rfl, if_neg h1, if_neg h2]
/-- a plain byte -/
theorem run_take {s : ByteArray} {x i : Nat} {d : Int} (t : List (Nat × Bool)) (hx : x ≠ 0) (h1 : x ≠ 123) (h2 : x ≠ 125) (h : bt s i = x) : run s ((x, false) :: t) i d = run s t (i + 1) d := by
  rw [run_hit _ (byte_in h hx) h, if_neg h1, if_neg h2]

section
variable {s : ByteArray} {i : Nat} {d : Int} (t : List (Nat × Bool))

theorem R_o_small (h : smallN (bt s i) = true) : run s ((111, true) :: t) i d = run s t (i + 1) d := by
  obtain ⟨hi, h1, h2, h3, _⟩ := small_in h
  exact run_own (l := []) t hi h1 h2 (by simp [chosenN, h, h3])
theorem R_o_digit (h : digitN (bt s i) = true) : run s ((111, true) :: t) i d = run s ((100, true) :: t) (i + 1) d := by
  obtain ⟨hi, h1, h2, h3, _⟩ := digit_in h
  exact run_own (l := [100]) t hi h1 h2 (by simp [chosenN, h])
theorem R_o_bad (hi : i ≤ s.size) (h : smallN (bt s i) = false) (h' : digitN (bt s i) = false) : run s ((111, true) :: t) i d = (2, i) :=
  run_bad t hi (expand_none (l := [bt s i]) (by simp [chosenN, h, h']))
theorem R_d_digit (h : digitN (bt s i) = true) : run s ((100, true) :: t) i d = run s ((101, true) :: t) (i + 1) d := by
  obtain ⟨hi, h1, h2, h3, _⟩ := digit_in h
  exact run_own (l := [101]) t hi h1 h2 (by simp [chosenN, h])
theorem R_d_no (hi : i ≤ s.size) (h : digitN (bt s i) = false) : run s ((100, true) :: t) i d = run s t i d :=
  run_exp t hi (expand_nil (by simp [chosenN, h]))
theorem R_e_digit (h : digitN (bt s i) = true) : run s ((101, true) :: t) i d = run s t (i + 1) d := by
  obtain ⟨hi, h1, h2, h3, _⟩ := digit_in h
  exact run_own (l := []) t hi h1 h2 (by simp [chosenN, h])
theorem R_e_no (hi : i ≤ s.size) (h : digitN (bt s i) = false) : run s ((101, true) :: t) i d = run s t i d :=
  run_exp t hi (expand_nil (by simp [chosenN, h]))
theorem R_V_great (h : greatN (bt s i) = true) : run s ((86, true) :: t) i d = run s t (i + 1) d := by
  obtain ⟨hi, h1, h2, h3, _⟩ := great_in h
  exact run_own (l := []) t hi h1 h2 (by simp [chosenN, h])
theorem R_V_bad (hi : i ≤ s.size) (h : greatN (bt s i) = false) : run s ((86, true) :: t) i d = (2, i) :=
  run_bad t hi (expand_none (l := [bt s i]) (by simp [chosenN, h]))
theorem R_g_hash (h : bt s i = 35) : run s ((103, true) :: t) i d = run s ((86, true) :: t) (i + 1) d :=
  run_own (l := [86]) t (byte_in h (by omega)) (by omega) (by omega) (by simp [chosenN, h])
theorem R_g_great (h : greatN (bt s i) = true) : run s ((103, true) :: t) i d = run s ((91, false) :: (111, true) :: (93, false) :: t) (i + 1) d := by
  obtain ⟨hi, h1, h2, h3, _⟩ := great_in h
  have h35 : ¬ bt s i = 35 := fun e => by rw [e] at h; simp [greatN] at h
  exact run_own (l := [93, 111, 91]) t hi h1 h2 (by simp [chosenN, h, h35])
theorem R_g_else (hi : i ≤ s.size) (h : greatN (bt s i) = false) (h' : bt s i ≠ 35) : run s ((103, true) :: t) i d = run s ((111, true) :: (116, true) :: t) i d := by
  have hc : chosenN 103 (bt s i) = ([116, 111], true) := by simp [chosenN, h, h']
  have he : expand 103 (bt s i) = some (pushL [116, 111] (ownL [116, 111] (bt s i))).reverse := by unfold expand; rw [hc]; rfl
  rw [run_exp t hi he]
  cases ho : ownL [116, 111] (bt s i)
  · rw [pushL_plain]; rfl
  · have e : bt s i = 111 := by simp [ownL] at ho; exact ho.1.symm
    rw [show ([116, 111] : List Nat) = [116] ++ [111] from rfl, pushL_own, R_o_small _ (by rw [e]; rfl)]
    exact run_take _ (by decide) (by decide) (by decide) e
def isOp (c : Nat) : Prop := c = 43 ∨ c = 45 ∨ c = 42 ∨ c = 47 ∨ c = 60
theorem R_t_op (h : isOp (bt s i)) : run s ((116, true) :: t) i d = run s ((111, true) :: t) (i + 1) d := by
  unfold isOp at h
  exact run_own (l := [111]) t (byte_in rfl (by omega)) (by omega) (by omega) (by simp [chosenN, h])
theorem R_t_no (hi : i ≤ s.size) (h : ¬ isOp (bt s i)) : run s ((116, true) :: t) i d = run s t i d := by
  unfold isOp at h
  exact run_exp t hi (expand_nil (by simp only [chosenN]; simp [h]))
theorem R_G_br (h : bt s i = 91) : run s ((71, true) :: t) i d = run s ((111, true) :: (93, false) :: t) (i + 1) d :=
  run_own (l := [93, 111]) t (byte_in h (by omega)) (by omega) (by omega) (by simp [chosenN, h])
theorem R_G_else (hi : i ≤ s.size) (h : bt s i ≠ 91) : run s ((71, true) :: t) i d = run s ((86, true) :: t) i d := by
  have hc : chosenN 71 (bt s i) = ([86], true) := by simp [chosenN, h]
  have he : expand 71 (bt s i) = some (pushL [86] (ownL [86] (bt s i))).reverse := by unfold expand; rw [hc]; rfl
  rw [run_exp t hi he]
  cases ho : ownL [86] (bt s i)
  · rw [pushL_plain]; rfl
  · have e : bt s i = 86 := by simp [ownL] at ho; exact ho.1.symm
    rw [show ([86] : List Nat) = [] ++ [86] from rfl, pushL_own, R_V_great _ (by rw [e]; rfl)]
    exact run_take _ (by decide) (by decide) (by decide) e
theorem R_p_br (h : bt s i = 91) : run s ((112, true) :: t) i d = run s ((111, true) :: (93, false) :: (61, false) :: (111, true) :: t) (i + 1) d :=
  run_own (l := [111, 61, 93, 111]) t (byte_in h (by omega)) (by omega) (by omega) (by simp [chosenN, h])
theorem R_p_else (hi : i ≤ s.size) (h : bt s i ≠ 91) : run s ((112, true) :: t) i d = run s ((61, false) :: (71, true) :: t) i d := by
  have hc : chosenN 112 (bt s i) = ([71, 61], true) := by simp [chosenN, h]
  have he : expand 112 (bt s i) = some (pushL [71, 61] (ownL [71, 61] (bt s i))).reverse := by unfold expand; rw [hc]; rfl
  rw [run_exp t hi he]
  cases ho : ownL [71, 61] (bt s i)
  · rw [pushL_plain]; rfl
  · rw [show ([71, 61] : List Nat) = [71] ++ [61] from rfl, pushL_own]; rfl
theorem R_S_small (h : smallN (bt s i) = true) : run s ((83, true) :: t) i d = run s ((61, false) :: (103, true) :: (59, false) :: (83, true) :: t) (i + 1) d := by
  obtain ⟨hi, h1, h2, _⟩ := small_in h
  exact run_own (l := [83, 59, 103, 61]) t hi h1 h2 (by simp [chosenN, stmtN, h])
theorem R_S_great (h : greatN (bt s i) = true) : run s ((83, true) :: t) i d = run s ((112, true) :: (59, false) :: (83, true) :: t) (i + 1) d := by
  obtain ⟨hi, h1, h2, h3, h4⟩ := great_in h
  exact run_own (l := [83, 59, 112]) t hi h1 h2 (by simp [chosenN, stmtN, h, h4])
theorem R_S_print (h : bt s i = 33) : run s ((83, true) :: t) i d = run s ((111, true) :: (59, false) :: (83, true) :: t) (i + 1) d :=
  run_own (l := [83, 59, 111]) t (byte_in h (by omega)) (by omega) (by omega) (by rw [h]; rfl)
theorem R_S_drop (h : bt s i = 126) : run s ((83, true) :: t) i d = run s ((86, true) :: (59, false) :: (83, true) :: t) (i + 1) d :=
  run_own (l := [83, 59, 86]) t (byte_in h (by omega)) (by omega) (by omega) (by rw [h]; rfl)
theorem R_S_if (h : bt s i = 63) : run s ((83, true) :: t) i d = run s ((111, true) :: (123, false) :: (83, true) :: (125, false) :: (123, false) :: (83, true) :: (125, false) :: (83, true) :: t) (i + 1) d :=
  run_own (l := [83, 125, 83, 123, 125, 83, 123, 111]) t (byte_in h (by omega)) (by omega) (by omega) (by rw [h]; rfl)
theorem R_S_loop (h : bt s i = 64) : run s ((83, true) :: t) i d = run s ((111, true) :: (123, false) :: (83, true) :: (125, false) :: (83, true) :: t) (i + 1) d :=
  run_own (l := [83, 125, 83, 123, 111]) t (byte_in h (by omega)) (by omega) (by omega) (by rw [h]; rfl)
/-- no sentence begins with this byte -/
def noStmt (c : Nat) : Prop := smallN c = false ∧ greatN c = false ∧ c ≠ 33 ∧ c ≠ 126 ∧ c ≠ 63 ∧ c ≠ 64
theorem R_S_none (hi : i ≤ s.size) (h : noStmt (bt s i)) : run s ((83, true) :: t) i d = run s t i d := by
  obtain ⟨h1, h2, h3, h4, h5, h6⟩ := h
  exact run_exp t hi (expand_nil (by simp [chosenN, stmtN, h1, h2, h3, h4, h5, h6]))
end

theorem run_take_ok {s : ByteArray} {x i : Nat} {d : Int} {t : List (Nat × Bool)} (hi : i ≤ s.size) (hx : x ≠ 0) (h1 : x ≠ 123) (h2 : x ≠ 125) (h : run s ((x, false) :: t) i d = (0, 0)) : bt s i = x ∧ i < s.size ∧ run s t (i + 1) d = (0, 0) := by
  by_cases e : bt s i = x
  · refine ⟨e, byte_in e hx, ?_⟩
    rwa [run_take t hx h1 h2 e] at h
  · rw [run_miss t hi e] at h; simp at h
theorem run_open_ok {s : ByteArray} {i : Nat} {d : Int} {t : List (Nat × Bool)} (hi : i ≤ s.size) (h : run s ((123, false) :: t) i d = (0, 0)) : bt s i = 123 ∧ i < s.size ∧ d + 1 ≤ 8 ∧ run s t (i + 1) (d + 1) = (0, 0) := by
  by_cases e : bt s i = 123
  · have hl := byte_in e (by decide)
    rw [run_hit _ hl e, if_pos rfl] at h
    split at h
    · simp at h
    · exact ⟨e, hl, by omega, h⟩
  · rw [run_miss t hi e] at h; simp at h
theorem run_close_ok {s : ByteArray} {i : Nat} {d : Int} {t : List (Nat × Bool)} (hi : i ≤ s.size) (h : run s ((125, false) :: t) i d = (0, 0)) : bt s i = 125 ∧ i < s.size ∧ run s t (i + 1) (d - 1) = (0, 0) := by
  by_cases e : bt s i = 125
  · have hl := byte_in e (by decide)
    rw [run_hit _ hl e, if_neg (by decide), if_pos rfl] at h
    exact ⟨e, hl, h⟩
  · rw [run_miss t hi e] at h; simp at h
end Go.Proofs.Ytcmnejcojphijaa
