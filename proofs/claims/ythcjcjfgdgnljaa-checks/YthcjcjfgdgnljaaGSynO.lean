/-
  SynR, SynT, SynO: one behind the other.
-/
import Derived.Test.YthcjcjfgdgnljaaGSynQ
namespace Go.Proofs.Ythcjcjfgdgnljaa
open Go.RowKit

theorem small_in {s : ByteArray} {i : Nat} (h : smallN (bt s i) = true) : i < s.size ∧ bt s i ≠ 123 ∧ bt s i ≠ 125 ∧ digitN (bt s i) = false ∧ greatN (bt s i) = false := by
  simp [smallN] at h
  refine ⟨?_, by omega, by omega, by simp [digitN]; omega, by simp [greatN]; omega⟩
  by_cases hl : i < s.size
  · exact hl
  · rw [bt_out hl] at h; omega
theorem great_in {s : ByteArray} {i : Nat} (h : greatN (bt s i) = true) : i < s.size ∧ bt s i ≠ 123 ∧ bt s i ≠ 125 ∧ digitN (bt s i) = false ∧ smallN (bt s i) = false := by
  simp [greatN] at h
  refine ⟨?_, by omega, by omega, by simp [digitN]; omega, by simp [smallN]; omega⟩
  by_cases hl : i < s.size
  · exact hl
  · rw [bt_out hl] at h; omega
theorem digit_in {s : ByteArray} {i : Nat} (h : digitN (bt s i) = true) : i < s.size ∧ bt s i ≠ 123 ∧ bt s i ≠ 125 ∧ smallN (bt s i) = false ∧ greatN (bt s i) = false := by
  simp [digitN] at h
  refine ⟨?_, by omega, by omega, by simp [smallN]; omega, by simp [greatN]; omega⟩
  by_cases hl : i < s.size
  · exact hl
  · rw [bt_out hl] at h; omega
theorem byte_in {s : ByteArray} {i x : Nat} (h : bt s i = x) (hx : x ≠ 0) : i < s.size := by
  by_cases hl : i < s.size
  · exact hl
  · rw [bt_out hl] at h; omega

/-- the part takes the text's own byte, and the rest is expected behind it -/
theorem run_own {s : ByteArray} {b i : Nat} {d : Int} {l : List Nat} (t : List (Nat × Bool)) (hi : i < s.size) (h1 : bt s i ≠ 123) (h2 : bt s i ≠ 125) (h : chosenN b (bt s i) = (l ++ [bt s i], true)) :
    run s ((b, true) :: t) i d = run s ((l.map prt).reverse ++ t) (i + 1) d := by
  rw [run_exp t (by omega) (expand_last h), List.cons_append, run_hit _ hi rfl, if_neg h1, if_neg h2]
/-- a plain byte -/
theorem run_take {s : ByteArray} {x i : Nat} {d : Int} (t : List (Nat × Bool)) (hx : x ≠ 0) (h1 : x ≠ 123) (h2 : x ≠ 125) (h : bt s i = x) : run s ((x, false) :: t) i d = run s t (i + 1) d := by
  rw [run_hit _ (byte_in h hx) h, if_neg h1, if_neg h2]

section
variable {s : ByteArray} {i : Nat} {d : Int} (t : List (Nat × Bool))

theorem R_o_small (h : smallN (bt s i) = true) : run s ((111, true) :: t) i d = run s t (i + 1) d := by
  obtain ⟨hi, h1, h2, h3, _⟩ := small_in h
  exact run_own (l := []) t hi h1 h2 (by simp [chosenN, h, h3])
theorem R_o_digit (h : digitN (bt s i) = true) : run s ((111, true) :: t) i d = run s ((100, true) :: t) (i + 1) d := by
  obtain ⟨hi, h1, h2, h3, _⟩ := digit_in h
  exact run_own (l := [100]) t hi h1 h2 (by simp [chosenN, h])
theorem R_o_bad (hi : i ≤ s.size) (h : smallN (bt s i) = false) (h' : digitN (bt s i) = false) : run s ((111, true) :: t) i d = (2, i) :=
  run_bad t hi (expand_none (l := [bt s i]) (by simp [chosenN, h, h']))
theorem R_d_digit (h : digitN (bt s i) = true) : run s ((100, true) :: t) i d = run s ((101, true) :: t) (i + 1) d := by
  obtain ⟨hi, h1, h2, h3, _⟩ := digit_in h
  exact run_own (l := [101]) t hi h1 h2 (by simp [chosenN, h])
theorem R_d_no (hi : i ≤ s.size) (h : digitN (bt s i) = false) : run s ((100, true) :: t) i d = run s t i d :=
  run_exp t hi (expand_nil (by simp [chosenN, h]))
theorem R_e_digit (h : digitN (bt s i) = true) : run s ((101, true) :: t) i d = run s t (i + 1) d := by
  obtain ⟨hi, h1, h2, h3, _⟩ := digit_in h
  exact run_own (l := []) t hi h1 h2 (by simp [chosenN, h])
theorem R_e_no (hi : i ≤ s.size) (h : digitN (bt s i) = false) : run s ((101, true) :: t) i d = run s t i d :=
  run_exp t hi (expand_nil (by simp [chosenN, h]))
theorem R_V_great (h : greatN (bt s i) = true) : run s ((86, true) :: t) i d = run s t (i + 1) d := by
  obtain ⟨hi, h1, h2, h3, _⟩ := great_in h
  exact run_own (l := []) t hi h1 h2 (by simp [chosenN, h])
theorem R_V_bad (hi : i ≤ s.size) (h : greatN (bt s i) = false) : run s ((86, true) :: t) i d = (2, i) :=
  run_bad t hi (expand_none (l := [bt s i]) (by simp [chosenN, h]))
theorem R_g_hash (h : bt s i = 35) : run s ((103, true) :: t) i d = run s ((86, true) :: t) (i + 1) d :=
  run_own (l := [86]) t (byte_in h (by omega)) (by omega) (by omega) (by simp [chosenN, h])
theorem R_g_great (h : greatN (bt s i) = true) : run s ((103, true) :: t) i d = run s ((91, false) :: (111, true) :: (93, false) :: t) (i + 1) d := by
  obtain ⟨hi, h1, h2, h3, _⟩ := great_in h
  have h35 : ¬ bt s i = 35 := fun e => by rw [e] at h; simp [greatN] at h
  exact run_own (l := [93, 111, 91]) t hi h1 h2 (by simp [chosenN, h, h35])
theorem R_g_else (hi : i ≤ s.size) (h : greatN (bt s i) = false) (h' : bt s i ≠ 35) : run s ((103, true) :: t) i d = run s ((111, true) :: (116, true) :: t) i d := by
  have hc : chosenN 103 (bt s i) = ([116, 111], true) := by simp [chosenN, h, h']
  have he : expand 103 (bt s i) = some (pushL [116, 111] (ownL [116, 111] (bt s i))).reverse := by unfold expand; rw [hc]; rfl
  rw [run_exp t hi he]
  cases ho : ownL [116, 111] (bt s i)
  · rw [pushL_plain]; rfl
  · have e : bt s i = 111 := by simp [ownL] at ho; exact ho.1.symm
    rw [show ([116, 111] : List Nat) = [116] ++ [111] from rfl, pushL_own, R_o_small _ (by rw [e]; rfl)]
    exact run_take _ (by decide) (by decide) (by decide) e
def isOp (c : Nat) : Prop := c = 43 ∨ c = 45 ∨ c = 42 ∨ c = 47 ∨ c = 60
theorem R_t_op (h : isOp (bt s i)) : run s ((116, true) :: t) i d = run s ((111, true) :: t) (i + 1) d := by
  unfold isOp at h
  exact run_own (l := [111]) t (byte_in rfl (by omega)) (by omega) (by omega) (by simp [chosenN, h])
theorem R_t_no (hi : i ≤ s.size) (h : ¬ isOp (bt s i)) : run s ((116, true) :: t) i d = run s t i d := by
  unfold isOp at h
  exact run_exp t hi (expand_nil (by simp only [chosenN]; simp [h]))
theorem R_G_br (h : bt s i = 91) : run s ((71, true) :: t) i d = run s ((111, true) :: (93, false) :: t) (i + 1) d :=
  run_own (l := [93, 111]) t (byte_in h (by omega)) (by omega) (by omega) (by simp [chosenN, h])
theorem R_G_else (hi : i ≤ s.size) (h : bt s i ≠ 91) : run s ((71, true) :: t) i d = run s ((86, true) :: t) i d := by
  have hc : chosenN 71 (bt s i) = ([86], true) := by simp [chosenN, h]
  have he : expand 71 (bt s i) = some (pushL [86] (ownL [86] (bt s i))).reverse := by unfold expand; rw [hc]; rfl
  rw [run_exp t hi he]
  cases ho : ownL [86] (bt s i)
  · rw [pushL_plain]; rfl
  · have e : bt s i = 86 := by simp [ownL] at ho; exact ho.1.symm
    rw [show ([86] : List Nat) = [] ++ [86] from rfl, pushL_own, R_V_great _ (by rw [e]; rfl)]
    exact run_take _ (by decide) (by decide) (by decide) e
theorem R_p_br (h : bt s i = 91) : run s ((112, true) :: t) i d = run s ((111, true) :: (93, false) :: (61, false) :: (111, true) :: t) (i + 1) d :=
  run_own (l := [111, 61, 93, 111]) t (byte_in h (by omega)) (by omega) (by omega) (by simp [chosenN, h])
theorem R_p_else (hi : i ≤ s.size) (h : bt s i ≠ 91) : run s ((112, true) :: t) i d = run s ((61, false) :: (71, true) :: t) i d := by
  have hc : chosenN 112 (bt s i) = ([71, 61], true) := by simp [chosenN, h]
  have he : expand 112 (bt s i) = some (pushL [71, 61] (ownL [71, 61] (bt s i))).reverse := by unfold expand; rw [hc]; rfl
  rw [run_exp t hi he]
  cases ho : ownL [71, 61] (bt s i)
  · rw [pushL_plain]; rfl
  · rw [show ([71, 61] : List Nat) = [71] ++ [61] from rfl, pushL_own]; rfl
theorem R_S_small (h : smallN (bt s i) = true) : run s ((83, true) :: t) i d = run s ((61, false) :: (103, true) :: (59, false) :: (83, true) :: t) (i + 1) d := by
  obtain ⟨hi, h1, h2, _⟩ := small_in h
  exact run_own (l := [83, 59, 103, 61]) t hi h1 h2 (by simp [chosenN, stmtN, h])
theorem R_S_great (h : greatN (bt s i) = true) : run s ((83, true) :: t) i d = run s ((112, true) :: (59, false) :: (83, true) :: t) (i + 1) d := by
  obtain ⟨hi, h1, h2, h3, h4⟩ := great_in h
  exact run_own (l := [83, 59, 112]) t hi h1 h2 (by simp [chosenN, stmtN, h, h4])
theorem R_S_print (h : bt s i = 33) : run s ((83, true) :: t) i d = run s ((111, true) :: (59, false) :: (83, true) :: t) (i + 1) d :=
  run_own (l := [83, 59, 111]) t (byte_in h (by omega)) (by omega) (by omega) (by rw [h]; rfl)
theorem R_S_drop (h : bt s i = 126) : run s ((83, true) :: t) i d = run s ((86, true) :: (59, false) :: (83, true) :: t) (i + 1) d :=
  run_own (l := [83, 59, 86]) t (byte_in h (by omega)) (by omega) (by omega) (by rw [h]; rfl)
theorem R_S_if (h : bt s i = 63) : run s ((83, true) :: t) i d = run s ((111, true) :: (123, false) :: (83, true) :: (125, false) :: (123, false) :: (83, true) :: (125, false) :: (83, true) :: t) (i + 1) d :=
  run_own (l := [83, 125, 83, 123, 125, 83, 123, 111]) t (byte_in h (by omega)) (by omega) (by omega) (by rw [h]; rfl)
theorem R_S_loop (h : bt s i = 64) : run s ((83, true) :: t) i d = run s ((111, true) :: (123, false) :: (83, true) :: (125, false) :: (83, true) :: t) (i + 1) d :=
  run_own (l := [83, 125, 83, 123, 111]) t (byte_in h (by omega)) (by omega) (by omega) (by rw [h]; rfl)
/-- no sentence begins with this byte -/
def noStmt (c : Nat) : Prop := smallN c = false ∧ greatN c = false ∧ c ≠ 33 ∧ c ≠ 126 ∧ c ≠ 63 ∧ c ≠ 64
theorem R_S_none (hi : i ≤ s.size) (h : noStmt (bt s i)) : run s ((83, true) :: t) i d = run s t i d := by
  obtain ⟨h1, h2, h3, h4, h5, h6⟩ := h
  exact run_exp t hi (expand_nil (by simp [chosenN, stmtN, h1, h2, h3, h4, h5, h6]))
end

theorem run_take_ok {s : ByteArray} {x i : Nat} {d : Int} {t : List (Nat × Bool)} (hi : i ≤ s.size) (hx : x ≠ 0) (h1 : x ≠ 123) (h2 : x ≠ 125) (h : run s ((x, false) :: t) i d = (0, 0)) : bt s i = x ∧ i < s.size ∧ run s t (i + 1) d = (0, 0) := by
  by_cases e : bt s i = x
  · refine ⟨e, byte_in e hx, ?_⟩
    rwa [run_take t hx h1 h2 e] at h
  · rw [run_miss t hi e] at h; simp at h
theorem run_open_ok {s : ByteArray} {i : Nat} {d : Int} {t : List (Nat × Bool)} (hi : i ≤ s.size) (h : run s ((123, false) :: t) i d = (0, 0)) : bt s i = 123 ∧ i < s.size ∧ d + 1 ≤ 8 ∧ run s t (i + 1) (d + 1) = (0, 0) := by
  by_cases e : bt s i = 123
  · have hl := byte_in e (by decide)
    rw [run_hit _ hl e, if_pos rfl] at h
    split at h
    · simp at h
    · exact ⟨e, hl, by omega, h⟩
  · rw [run_miss t hi e] at h; simp at h
theorem run_close_ok {s : ByteArray} {i : Nat} {d : Int} {t : List (Nat × Bool)} (hi : i ≤ s.size) (h : run s ((125, false) :: t) i d = (0, 0)) : bt s i = 125 ∧ i < s.size ∧ run s t (i + 1) (d - 1) = (0, 0) := by
  by_cases e : bt s i = 125
  · have hl := byte_in e (by decide)
    rw [run_hit _ hl e, if_neg (by decide), if_pos rfl] at h
    exact ⟨e, hl, h⟩
  · rw [run_miss t hi e] at h; simp at h
end Go.Proofs.Ythcjcjfgdgnljaa

namespace Go.Proofs.Ythcjcjfgdgnljaa
open Go.RowKit

/-- an operand stands from i up to j -/
def Opnd (s : ByteArray) (i j : Nat) : Prop := (smallN (bt s i) = true ∧ j = i + 1) ∨ (i < j ∧ j ≤ i + 3 ∧ ∀ k, i ≤ k → k < j → digitN (bt s k) = true)
theorem Opnd.lt {s : ByteArray} {i j : Nat} (h : Opnd s i j) : i < j := by rcases h with ⟨_, h⟩ | ⟨h, _⟩ <;> omega

theorem inv_o {s : ByteArray} {i : Nat} {d : Int} {t : List (Nat × Bool)} (hi : i ≤ s.size) (h : run s ((111, true) :: t) i d = (0, 0)) : ∃ j, Opnd s i j ∧ j ≤ s.size ∧ run s t j d = (0, 0) := by
  cases h1 : smallN (bt s i)
  · cases h2 : digitN (bt s i)
    · rw [R_o_bad t hi h1 h2] at h; simp at h
    · have hi1 := (digit_in h2).1
      rw [R_o_digit t h2] at h
      cases h3 : digitN (bt s (i + 1))
      · rw [R_d_no t hi1 h3] at h
        exact ⟨i + 1, .inr ⟨by omega, by omega, fun k a b => by rw [show k = i by omega]; exact h2⟩, hi1, h⟩
      · have hi2 := (digit_in h3).1
        rw [R_d_digit t h3] at h
        cases h4 : digitN (bt s (i + 1 + 1))
        · rw [R_e_no t hi2 h4] at h
          refine ⟨i + 1 + 1, .inr ⟨by omega, by omega, fun k a b => ?_⟩, hi2, h⟩
          by_cases e : k = i
          · rw [e]; exact h2
          · rw [show k = i + 1 by omega]; exact h3
        · have hi3 := (digit_in h4).1
          rw [R_e_digit t h4] at h
          refine ⟨i + 1 + 1 + 1, .inr ⟨by omega, by omega, fun k a b => ?_⟩, hi3, h⟩
          by_cases e : k = i
          · rw [e]; exact h2
          · by_cases e2 : k = i + 1
            · rw [e2]; exact h3
            · rw [show k = i + 1 + 1 by omega]; exact h4
  · have hi1 := (small_in h1).1
    rw [R_o_small t h1] at h
    exact ⟨i + 1, .inl ⟨h1, rfl⟩, hi1, h⟩
theorem inv_V {s : ByteArray} {i : Nat} {d : Int} {t : List (Nat × Bool)} (hi : i ≤ s.size) (h : run s ((86, true) :: t) i d = (0, 0)) : greatN (bt s i) = true ∧ i < s.size ∧ run s t (i + 1) d = (0, 0) := by
  cases h1 : greatN (bt s i)
  · rw [R_V_bad t hi h1] at h; simp at h
  · rw [R_V_great t h1] at h
    exact ⟨rfl, (great_in h1).1, h⟩

def KSize (s : ByteArray) (i j : Nat) : Prop := smallN (bt s i) = true ∧ bt s (i + 1) = 61 ∧ bt s (i + 2) = 35 ∧ greatN (bt s (i + 3)) = true ∧ bt s (i + 4) = 59 ∧ j = i + 5
def KLoad (s : ByteArray) (i j : Nat) : Prop := smallN (bt s i) = true ∧ bt s (i + 1) = 61 ∧ greatN (bt s (i + 2)) = true ∧ bt s (i + 3) = 91 ∧ ∃ k, Opnd s (i + 4) k ∧ bt s k = 93 ∧ bt s (k + 1) = 59 ∧ j = k + 2
def KSet (s : ByteArray) (i j : Nat) : Prop := smallN (bt s i) = true ∧ bt s (i + 1) = 61 ∧ ∃ k, Opnd s (i + 2) k ∧ bt s k = 59 ∧ j = k + 1
def KCalc (s : ByteArray) (i j : Nat) : Prop := smallN (bt s i) = true ∧ bt s (i + 1) = 61 ∧ ∃ k l, Opnd s (i + 2) k ∧ isOp (bt s k) ∧ Opnd s (k + 1) l ∧ bt s l = 59 ∧ j = l + 1
def KStore (s : ByteArray) (i j : Nat) : Prop := greatN (bt s i) = true ∧ bt s (i + 1) = 91 ∧ ∃ k l, Opnd s (i + 2) k ∧ bt s k = 93 ∧ bt s (k + 1) = 61 ∧ Opnd s (k + 2) l ∧ bt s l = 59 ∧ j = l + 1
def KMake (s : ByteArray) (i j : Nat) : Prop := greatN (bt s i) = true ∧ bt s (i + 1) = 61 ∧ bt s (i + 2) = 91 ∧ ∃ k, Opnd s (i + 3) k ∧ bt s k = 93 ∧ bt s (k + 1) = 59 ∧ j = k + 2
def KMove (s : ByteArray) (i j : Nat) : Prop := greatN (bt s i) = true ∧ bt s (i + 1) = 61 ∧ greatN (bt s (i + 2)) = true ∧ bt s (i + 3) = 59 ∧ j = i + 4
def KPrint (s : ByteArray) (i j : Nat) : Prop := bt s i = 33 ∧ ∃ k, Opnd s (i + 1) k ∧ bt s k = 59 ∧ j = k + 1
def KDrop (s : ByteArray) (i j : Nat) : Prop := bt s i = 126 ∧ greatN (bt s (i + 1)) = true ∧ bt s (i + 2) = 59 ∧ j = i + 3
/-- a sentence without braces stands from i up to j -/
def Simple (s : ByteArray) (i j : Nat) : Prop := KSize s i j ∨ KLoad s i j ∨ KSet s i j ∨ KCalc s i j ∨ KStore s i j ∨ KMake s i j ∨ KMove s i j ∨ KPrint s i j ∨ KDrop s i j

/-- neither ; nor a brace -/
def Mid (c : Nat) : Prop := c ≠ 59 ∧ c ≠ 123 ∧ c ≠ 125
def Span (s : ByteArray) (a b : Nat) : Prop := ∀ k, a ≤ k → k < b → Mid (bt s k)
theorem Span.app {s : ByteArray} {a b c : Nat} (h : Span s a b) (g : Span s b c) : Span s a c := fun k h1 h2 => by
  by_cases e : k < b
  · exact h k h1 e
  · exact g k (by omega) h2
theorem Span.one {s : ByteArray} {a : Nat} (h : Mid (bt s a)) : Span s a (a + 1) := fun k h1 h2 => by rw [show k = a by omega]; exact h
theorem Span.eq {s : ByteArray} {a x : Nat} (h : bt s a = x) (hx : Mid x) : Span s a (a + 1) := Span.one (by rw [h]; exact hx)
theorem Span.small {s : ByteArray} {a : Nat} (h : smallN (bt s a) = true) : Span s a (a + 1) := Span.one (by simp [smallN] at h; unfold Mid; omega)
theorem Span.great {s : ByteArray} {a : Nat} (h : greatN (bt s a) = true) : Span s a (a + 1) := Span.one (by simp [greatN] at h; unfold Mid; omega)
theorem Opnd.span {s : ByteArray} {i j : Nat} (h : Opnd s i j) : Span s i j := fun k a b => by
  rcases h with ⟨h, e⟩ | ⟨_, _, h⟩
  · exact Span.small h k a (by omega)
  · have := h k a b; simp [digitN] at this; unfold Mid; omega
theorem mid_op {c : Nat} (h : isOp c) : Mid c := by unfold isOp at h; unfold Mid; omega

theorem Simple.line {s : ByteArray} {i j : Nat} (h : Simple s i j) : i < j ∧ j ≤ s.size ∧ bt s (j - 1) = 59 ∧ Span s i (j - 1) := by
  have fin : ∀ q, bt s q = 59 → i < q → Span s i q → i < q + 1 ∧ q + 1 ≤ s.size ∧ bt s (q + 1 - 1) = 59 ∧ Span s i (q + 1 - 1) := fun q h1 h2 h3 => ⟨by omega, byte_in h1 (by decide), h1, h3⟩
  have m61 : Mid 61 := by unfold Mid; omega
  have m91 : Mid 91 := by unfold Mid; omega
  have m93 : Mid 93 := by unfold Mid; omega
  have m35 : Mid 35 := by unfold Mid; omega
  have m33 : Mid 33 := by unfold Mid; omega
  have m126 : Mid 126 := by unfold Mid; omega
  rcases h with h | h | h | h | h | h | h | h | h
  · obtain ⟨h1, h2, h3, h4, h5, rfl⟩ := h
    exact fin _ h5 (by omega) ((((Span.small h1).app (Span.eq h2 m61)).app (Span.eq h3 m35)).app (Span.great h4))
  · obtain ⟨h1, h2, h3, h4, k, h5, h6, h7, rfl⟩ := h
    have := h5.lt
    exact fin _ h7 (by omega) ((((((Span.small h1).app (Span.eq h2 m61)).app (Span.great h3)).app (Span.eq h4 m91)).app h5.span).app (Span.eq h6 m93))
  · obtain ⟨h1, h2, k, h5, h6, rfl⟩ := h
    have := h5.lt
    exact fin _ h6 (by omega) (((Span.small h1).app (Span.eq h2 m61)).app h5.span)
  · obtain ⟨h1, h2, k, l, h5, h6, h7, h8, rfl⟩ := h
    have := h5.lt
    have := h7.lt
    exact fin _ h8 (by omega) (((((Span.small h1).app (Span.eq h2 m61)).app h5.span).app (Span.one (mid_op h6))).app h7.span)
  · obtain ⟨h1, h2, k, l, h5, h6, h6', h7, h8, rfl⟩ := h
    have := h5.lt
    have := h7.lt
    exact fin _ h8 (by omega) ((((((Span.great h1).app (Span.eq h2 m91)).app h5.span).app (Span.eq h6 m93)).app (Span.eq h6' m61)).app h7.span)
  · obtain ⟨h1, h2, h3, k, h5, h6, h7, rfl⟩ := h
    have := h5.lt
    exact fin _ h7 (by omega) (((((Span.great h1).app (Span.eq h2 m61)).app (Span.eq h3 m91)).app h5.span).app (Span.eq h6 m93))
  · obtain ⟨h1, h2, h3, h4, rfl⟩ := h
    exact fin _ h4 (by omega) (((Span.great h1).app (Span.eq h2 m61)).app (Span.great h3))
  · obtain ⟨h1, k, h5, h6, rfl⟩ := h
    have := h5.lt
    exact fin _ h6 (by omega) ((Span.eq h1 m33).app h5.span)
  · obtain ⟨h1, h2, h3, rfl⟩ := h
    exact fin _ h3 (by omega) ((Span.eq h1 m126).app (Span.great h2))

/-- a sentence stands from i up to j; P: what stands in braces -/
def StmtF (P : Nat → Nat → Prop) (s : ByteArray) (i j : Nat) : Prop :=
  Simple s i j ∨
  (bt s i = 63 ∧ ∃ a b c, Opnd s (i + 1) a ∧ bt s a = 123 ∧ P (a + 1) b ∧ bt s b = 125 ∧ bt s (b + 1) = 123 ∧ P (b + 2) c ∧ bt s c = 125 ∧ j = c + 1) ∨
  (bt s i = 64 ∧ ∃ a b, Opnd s (i + 1) a ∧ bt s a = 123 ∧ P (a + 1) b ∧ bt s b = 125 ∧ j = b + 1)
/-- sentences stand from i up to j -/
def Prog (s : ByteArray) : Nat → Nat → Nat → Prop
  | 0, i, j => i = j
  | F + 1, i, j => i = j ∨ ∃ m, StmtF (Prog s F) s i m ∧ Prog s F m j
theorem Prog.le {s : ByteArray} : ∀ {F i j : Nat}, Prog s F i j → i ≤ j
  | 0, _, _, h => Nat.le_of_eq h
  | F + 1, i, j, h => by
    rcases h with h | ⟨m, h1, h2⟩
    · exact Nat.le_of_eq h
    · have h3 := h2.le
      rcases h1 with h | ⟨_, a, b, c, ho, _, hp, _, _, hq, _, e⟩ | ⟨_, a, b, ho, _, hp, _, e⟩
      · have := h.line.1; omega
      · have := ho.lt; have := hp.le; have := hq.le; omega
      · have := ho.lt; have := hp.le; omega
theorem StmtF.lt {s : ByteArray} {F i j : Nat} (h : StmtF (Prog s F) s i j) : i < j ∧ j ≤ s.size := by
  rcases h with h | ⟨_, a, b, c, ho, _, hp, _, _, hq, hc, e⟩ | ⟨_, a, b, ho, _, hp, hb, e⟩
  · exact ⟨h.line.1, h.line.2.1⟩
  · have := ho.lt; have := hp.le; have := hq.le; have := byte_in hc (by decide); omega
  · have := ho.lt; have := hp.le; have := byte_in hb (by decide); omega

theorem run_simple {s : ByteArray} {i : Nat} {d : Int} {t : List (Nat × Bool)} (h : run s ((83, true) :: t) i d = (0, 0)) (hb : smallN (bt s i) = true ∨ greatN (bt s i) = true ∨ bt s i = 33 ∨ bt s i = 126) :
    ∃ m, Simple s i m ∧ run s ((83, true) :: t) m d = (0, 0) := by
  have semi : ∀ k, k ≤ s.size → run s ((59, false) :: (83, true) :: t) k d = (0, 0) → bt s k = 59 ∧ run s ((83, true) :: t) (k + 1) d = (0, 0) := fun k hk h =>
    have g := run_take_ok hk (by decide) (by decide) (by decide) h
    ⟨g.1, g.2.2⟩
  rcases hb with hb | hb | hb | hb
  · have hi := (small_in hb).1
    rw [R_S_small t hb] at h
    obtain ⟨e1, hi1, h⟩ := run_take_ok hi (by decide) (by decide) (by decide) h
    by_cases e2 : bt s (i + 1 + 1) = 35
    · rw [R_g_hash _ e2] at h
      have hi2 := byte_in e2 (by decide)
      obtain ⟨e3, hi3, h⟩ := inv_V hi2 h
      obtain ⟨e4, h⟩ := semi _ hi3 h
      exact ⟨_, .inl ⟨hb, e1, e2, e3, e4, rfl⟩, h⟩
    · cases e3 : greatN (bt s (i + 1 + 1))
      · rw [R_g_else _ hi1 e3 e2] at h
        obtain ⟨k, ho, hk, h⟩ := inv_o hi1 h
        by_cases e4 : isOp (bt s k)
        · have hk1 : k < s.size := byte_in rfl (by unfold isOp at e4; omega)
          rw [R_t_op _ e4] at h
          obtain ⟨l, ho2, hl, h⟩ := inv_o hk1 h
          obtain ⟨e5, h⟩ := semi _ hl h
          exact ⟨_, .inr (.inr (.inr (.inl ⟨hb, e1, k, l, ho, e4, ho2, e5, rfl⟩))), h⟩
        · rw [R_t_no _ hk e4] at h
          obtain ⟨e5, h⟩ := semi _ hk h
          exact ⟨_, .inr (.inr (.inl ⟨hb, e1, k, ho, e5, rfl⟩)), h⟩
      · have hi2 := (great_in e3).1
        rw [R_g_great _ e3] at h
        obtain ⟨e4, hi3, h⟩ := run_take_ok hi2 (by decide) (by decide) (by decide) h
        obtain ⟨k, ho, hk, h⟩ := inv_o hi3 h
        obtain ⟨e5, hk1, h⟩ := run_take_ok hk (by decide) (by decide) (by decide) h
        obtain ⟨e6, h⟩ := semi _ hk1 h
        exact ⟨_, .inr (.inl ⟨hb, e1, e3, e4, k, ho, e5, e6, rfl⟩), h⟩
  · have hi := (great_in hb).1
    rw [R_S_great t hb] at h
    by_cases e1 : bt s (i + 1) = 91
    · rw [R_p_br _ e1] at h
      have hi1 := byte_in e1 (by decide)
      obtain ⟨k, ho, hk, h⟩ := inv_o hi1 h
      obtain ⟨e2, hk1, h⟩ := run_take_ok hk (by decide) (by decide) (by decide) h
      obtain ⟨e3, hk2, h⟩ := run_take_ok hk1 (by decide) (by decide) (by decide) h
      obtain ⟨l, ho2, hl, h⟩ := inv_o hk2 h
      obtain ⟨e4, h⟩ := semi _ hl h
      exact ⟨_, .inr (.inr (.inr (.inr (.inl ⟨hb, e1, k, l, ho, e2, e3, ho2, e4, rfl⟩)))), h⟩
    · rw [R_p_else _ hi e1] at h
      obtain ⟨e2, hi1, h⟩ := run_take_ok hi (by decide) (by decide) (by decide) h
      by_cases e3 : bt s (i + 1 + 1) = 91
      · have hi2 := byte_in e3 (by decide)
        rw [R_G_br _ e3] at h
        obtain ⟨k, ho, hk, h⟩ := inv_o hi2 h
        obtain ⟨e4, hk1, h⟩ := run_take_ok hk (by decide) (by decide) (by decide) h
        obtain ⟨e5, h⟩ := semi _ hk1 h
        exact ⟨_, .inr (.inr (.inr (.inr (.inr (.inl ⟨hb, e2, e3, k, ho, e4, e5, rfl⟩))))), h⟩
      · rw [R_G_else _ hi1 e3] at h
        obtain ⟨e4, hi2, h⟩ := inv_V hi1 h
        obtain ⟨e5, h⟩ := semi _ hi2 h
        exact ⟨_, .inr (.inr (.inr (.inr (.inr (.inr (.inl ⟨hb, e2, e4, e5, rfl⟩)))))), h⟩
  · have hi := byte_in hb (by decide)
    rw [R_S_print t hb] at h
    obtain ⟨k, ho, hk, h⟩ := inv_o hi h
    obtain ⟨e5, h⟩ := semi _ hk h
    exact ⟨_, .inr (.inr (.inr (.inr (.inr (.inr (.inr (.inl ⟨hb, k, ho, e5, rfl⟩))))))), h⟩
  · have hi := byte_in hb (by decide)
    rw [R_S_drop t hb] at h
    obtain ⟨e4, hi2, h⟩ := inv_V hi h
    obtain ⟨e5, h⟩ := semi _ hi2 h
    exact ⟨_, .inr (.inr (.inr (.inr (.inr (.inr (.inr (.inr ⟨hb, e4, e5, rfl⟩))))))), h⟩

theorem run_prog {s : ByteArray} : ∀ (m i : Nat) (d : Int) (t : List (Nat × Bool)), i ≤ s.size → s.size - i < m → run s ((83, true) :: t) i d = (0, 0) → ∃ j, Prog s m i j ∧ j ≤ s.size ∧ run s t j d = (0, 0)
  | 0, _, _, _, _, h, _ => absurd h (Nat.not_lt_zero _)
  | m + 1, i, d, t, hi, hm, h => by
    by_cases hb : smallN (bt s i) = true ∨ greatN (bt s i) = true ∨ bt s i = 33 ∨ bt s i = 126
    · obtain ⟨k, hs, h⟩ := run_simple h hb
      have hl := hs.line
      obtain ⟨j, hp, hj, h⟩ := run_prog m k d t hl.2.1 (by omega) h
      exact ⟨j, .inr ⟨k, .inl hs, hp⟩, hj, h⟩
    · by_cases h63 : bt s i = 63
      · have hi1 := byte_in h63 (by decide)
        rw [R_S_if t h63] at h
        obtain ⟨a, ho, ha, h⟩ := inv_o hi1 h
        have ho' := ho.lt
        obtain ⟨e1, ha1, _, h⟩ := run_open_ok ha h
        obtain ⟨b, hp, hb', h⟩ := run_prog m (a + 1) _ _ ha1 (by omega) h
        have hp' := hp.le
        obtain ⟨e2, hb1, h⟩ := run_close_ok hb' h
        obtain ⟨e3, hb2, _, h⟩ := run_open_ok hb1 h
        obtain ⟨c, hq, hc, h⟩ := run_prog m (b + 1 + 1) _ _ hb2 (by omega) h
        have hq' := hq.le
        obtain ⟨e4, hc1, h⟩ := run_close_ok hc h
        rw [show d + 1 - 1 + 1 - 1 = d by omega] at h
        obtain ⟨j, hr, hj, h⟩ := run_prog m (c + 1) d t hc1 (by omega) h
        exact ⟨j, .inr ⟨c + 1, .inr (.inl ⟨h63, a, b, c, ho, e1, hp, e2, e3, hq, e4, rfl⟩), hr⟩, hj, h⟩
      · by_cases h64 : bt s i = 64
        · have hi1 := byte_in h64 (by decide)
          rw [R_S_loop t h64] at h
          obtain ⟨a, ho, ha, h⟩ := inv_o hi1 h
          have ho' := ho.lt
          obtain ⟨e1, ha1, _, h⟩ := run_open_ok ha h
          obtain ⟨b, hp, hb', h⟩ := run_prog m (a + 1) _ _ ha1 (by omega) h
          have hp' := hp.le
          obtain ⟨e2, hb1, h⟩ := run_close_ok hb' h
          rw [show d + 1 - 1 = d by omega] at h
          obtain ⟨j, hr, hj, h⟩ := run_prog m (b + 1) d t hb1 (by omega) h
          exact ⟨j, .inr ⟨b + 1, .inr (.inr ⟨h64, a, b, ho, e1, hp, e2, rfl⟩), hr⟩, hj, h⟩
        · have hno : noStmt (bt s i) := by
            refine ⟨?_, ?_, ?_, ?_, h63, h64⟩
            · exact Bool.eq_false_iff.2 fun e => hb (.inl e)
            · exact Bool.eq_false_iff.2 fun e => hb (.inr (.inl e))
            · exact fun e => hb (.inr (.inr (.inl e)))
            · exact fun e => hb (.inr (.inr (.inr e)))
          rw [R_S_none t hi hno] at h
          exact ⟨i, .inl rfl, hi, h⟩
/-- nothing is wrong: the text is a program -/
theorem prog_of_ok {s : ByteArray} (h : run s [(83, true)] 0 0 = (0, 0)) : Prog s (s.size + 1) 0 s.size := by
  obtain ⟨j, hp, hj, h⟩ := run_prog (s.size + 1) 0 0 [] (Nat.zero_le _) (by omega) h
  rw [run_nil hj] at h
  split at h
  · simp at h
  · rw [show s.size = j by omega] at hp ⊢
    exact hp
end Go.Proofs.Ythcjcjfgdgnljaa

namespace Go.Proofs.Ythcjcjfgdgnljaa
open Go.RowKit
set_option linter.unusedVariables false

theorem owns_cell {w : World} {base : Nat} {e : TypeId} {size g n cap : Nat} {xs : List Value} (h : w.ownsRow base e size (.slice (some ⟨g, 0, none⟩) n cap) n xs) {k : Nat} {u : Value} (hk : xs[k]? = some u) : w.cell? ⟨g, k, none⟩ = some u := by
  rcases h.2 with ⟨h0, _⟩ | ⟨g', cap', cur, hv, hb, hg, hn, hc, hs, ht⟩
  · cases h0
  · cases hv
    have hkl : k < xs.length := (List.getElem?_eq_some_iff.1 hk).1
    rw [h.1] at hkl
    rw [← ht, List.getElem?_take_of_lt hkl] at hk
    have : cur[k]? = some u := by simpa using hk
    simp [World.cell?, hg, this]

theorem StkAt.top {w : World} {kp base : Nat} {v : Value} {stk : List (Nat × Bool)} {e : Nat × Bool} (h : StkAt w kp base v (stk ++ [e])) :
    ∃ g cap, v = .slice (some ⟨g, 0, none⟩) (stk.length + 1) cap ∧ g ≠ kp ∧ base ≤ g ∧ g < w.heap.size ∧ stk.length + 1 ≤ cap ∧ cap ≤ maxLen ∧
      w.cell? ⟨g, stk.length * 2, none⟩ = some (.int .u8 (e.1 : Int)) ∧ w.cell? ⟨g, stk.length * 2 + 1, none⟩ = some (.bool e.2) := by
  have hr := h.row
  have hl : (stk ++ [e]).length = stk.length + 1 := by simp
  rw [hl] at hr
  have hlen : (stk.flatMap entC).length = stk.length * 2 := by
    have := hr.1
    simp [entC] at this ⊢
    omega
  have hx : (stk ++ [e]).flatMap entC = stk.flatMap entC ++ [.int .u8 (e.1 : Int), .bool e.2] := by simp [entC]
  rw [hx] at hr
  have hr0 := hr
  rcases hr.2 with ⟨_, h0⟩ | ⟨g, cap, cur, rfl, hb, hg, hn, hc, hs, ht⟩
  · omega
  · refine ⟨g, cap, rfl, fun e2 => h.ne (by rw [e2]; rfl), hb, (Array.getElem?_eq_some_iff.1 hg).1, hn, hc, owns_cell hr0 ?_, owns_cell hr0 ?_⟩
    · rw [List.getElem?_append_right (by omega), hlen, Nat.sub_self]; rfl
    · rw [List.getElem?_append_right (by omega), hlen, show stk.length * 2 + 1 - stk.length * 2 = 1 by omega]; rfl

theorem StkAt.pop {w w2 : World} {kp base g cap : Nat} {stk : List (Nat × Bool)} {e : Nat × Bool} (h : StkAt w kp base (.slice (some ⟨g, 0, none⟩) (stk.length + 1) cap) (stk ++ [e])) (hF : Fr NoB w w2) :
    StkAt (w2.setCell ⟨kp, 0, none⟩ (.slice (some ⟨g, 0, none⟩) stk.length cap)) kp base (.slice (some ⟨g, 0, none⟩) stk.length cap) stk := by
  have hkl : kp < w.heap.size := World.block_lt_of_cell? _ _ h.c
  have hne : g ≠ kp := fun e2 => h.ne (by rw [e2]; rfl)
  refine ⟨cell_same (hF.cell_some h.c id), fun o => by rw [World.frozen?_setCell]; exact (hF.frozen (p := ⟨kp, o, none⟩) hkl id).trans (h.f o), ?_, fun e2 => hne (by simpa [Value.ownBlock] using e2)⟩
  have hr := h.row
  have hl : (stk ++ [e]).length = stk.length + 1 := by simp
  rw [hl] at hr
  have hx : (stk ++ [e]).flatMap entC = stk.flatMap entC ++ entC e := by simp
  rw [hx] at hr
  have hlen : (stk.flatMap entC).length = stk.length * 2 := by
    have := hr.1
    simp [entC] at this ⊢
    omega
  have h2 := ownsRow_pop hlen hr
  exact ((Fr.refl (OneB kp) w2).setCell (p := ⟨kp, 0, none⟩) (fun _ => rfl) _).owns (hF.owns h2 (fun k _ => id)) (fun k hk2 e2 => by have e3 : k = kp := e2; subst e3; exact hne (by simpa [Value.ownBlock] using hk2))

theorem StkAt.no {w w2 : World} {kp base : Nat} {v : Value} {stk : List (Nat × Bool)} (h : StkAt w kp base v stk) (hF : Fr NoB w w2) : StkAt w2 kp base v stk :=
  ⟨hF.cell_some h.c id, fun o => (hF.frozen (p := ⟨kp, o, none⟩) (show kp < w.heap.size from World.block_lt_of_cell? w ⟨kp, 0, none⟩ h.c) id).trans (h.f o), hF.owns h.row (fun k _ => id), h.ne⟩
theorem StkAt.form {w : World} {kp base : Nat} {v : Value} {stk : List (Nat × Bool)} (h : StkAt w kp base v stk) : ∃ ao cap, v = .slice ao stk.length cap := by
  rcases h.row.2 with ⟨hv, h0⟩ | ⟨g, cap, cur, hv, _⟩
  · exact ⟨none, 0, by rw [hv, h0]⟩
  · exact ⟨_, _, hv⟩

def StkS (kp base : Nat) : Nat → Prop := fun k => k = kp ∨ base ≤ k

theorem cell_new (w : World) (cs : Array Value) (ty : TypeId) {k n : Nat} {u : Value} (hn : n = w.heap.size) (h : cs[k]? = some u) : (w.alloc (.cells cs ty)).cell? ⟨n, k, none⟩ = some u := by
  subst hn
  rw [World.cell?_alloc_at _ _ _ _ rfl]
  exact h
theorem setCell_size (w : World) (p : Addr) (u : Value) : (w.setCell p u).heap.size = w.heap.size := by simp [World.setCell]

theorem StkS.sub {w : World} {kp base : Nat} {v : Value} {stk : List (Nat × Bool)} (h : StkAt w kp base v stk) {k : Nat} (e : k = kp ∨ v.ownBlock = some k) : StkS kp base k := by
  rcases e with e | e
  · exact .inl e
  · rcases h.row.2 with ⟨hv, _⟩ | ⟨g, cap, cur, hv, hb, _⟩
    · rw [hv] at e; simp [Value.ownBlock] at e
    · rw [hv] at e; simp [Value.ownBlock] at e; exact .inr (by omega)
theorem bt_str {b c : Nat} {s : ByteArray} (hs : s = ⟨((chosenN b c).1.map UInt8.ofNat).toArray⟩) (hc : c < 256) {j : Nat} (hj : j < s.size) : bt s j = (chosenN b c).1.getD j 0 := by
  have hz : s.size = (chosenN b c).1.length := by rw [hs]; simp [ByteArray.size]
  rw [bt_in hj]
  have hl : j < (chosenN b c).1.length := by omega
  have hm := chosenN_lt (b := b) hc _ (List.getElem_mem hl)
  simp [hl]
  subst hs
  show (((chosenN b c).1.map UInt8.ofNat).toArray[j]).toNat = _
  simp
  omega
theorem bytes_some {s : ByteArray} {n : Nat} (hn : s.size = n + 1) : s.toList.isEmpty = false := by
  rw [ByteArray.toList_eq]
  cases s
  simp [ByteArray.size] at hn ⊢
  intro e
  rw [e] at hn
  simp at hn
theorem stmtN_len (c : Nat) : (stmtN c).length ≤ 9 := by
  unfold stmtN
  repeat' split
  all_goals simp
theorem chosenN_len (b c : Nat) : (chosenN b c).1.length ≤ 9 := by
  unfold chosenN
  repeat' split
  · exact stmtN_len c
  all_goals simp

/-- what a text of a part becomes, in the stack's order -/
theorem push_exp {b c : Nat} {es : List (Nat × Bool)} (h : expand b c = some es) (s : ByteArray) (hs : s = ⟨((chosenN b c).1.map UInt8.ofNat).toArray⟩) (hc : c < 256) : pushS s (ownL (chosenN b c).1 c) s.size = es.reverse := by
  have hz : s.size = (chosenN b c).1.length := by rw [hs]; simp [ByteArray.size]
  have hbt : ∀ j, j < s.size → bt s j = (chosenN b c).1.getD j 0 := fun j hj => by
    rw [bt_in hj]
    have hl : j < (chosenN b c).1.length := by omega
    have hm := chosenN_lt (b := b) hc _ (List.getElem_mem hl)
    simp [hl]
    subst hs
    show (((chosenN b c).1.map UInt8.ofNat).toArray[j]).toNat = _
    simp
    omega
  unfold expand at h
  split at h
  · injection h with h
    rw [← h, List.reverse_reverse]
    unfold pushS pushL
    rw [hz]
    apply List.map_congr_left
    intro j hj
    rw [List.mem_range] at hj
    unfold entS entL
    rw [hbt j (by omega), hz]
  · cases h
end Go.Proofs.Ythcjcjfgdgnljaa
