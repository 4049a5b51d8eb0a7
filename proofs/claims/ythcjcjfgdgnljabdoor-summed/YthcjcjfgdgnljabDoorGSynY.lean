/-
  SynT, SynO, SynU, SynV, SynW, SynX, SynY: one behind the other.
-/
import Derived.Test.YthcjcjfgdgnljabDoorGSynR
import Derived.Laws.Rows
import Derived.Laws.Tables
namespace Go.Proofs.YthcjcjfgdgnljabDoor
open Go.RowKit

/-- an operand stands from i up to j -/
def Opnd (s : ByteArray) (i j : Nat) : Prop := (smallN (bt s i) = true ∧ j = i + 1) ∨ (i < j ∧ j ≤ i + 3 ∧ ∀ k, i ≤ k → k < j → digitN (bt s k) = true)
theorem Opnd.lt {s : ByteArray} {i j : Nat} (h : Opnd s i j) : i < j := by rcases h with ⟨_, h⟩ | ⟨h, _⟩ <;> omega

theorem inv_o {s : ByteArray} {i : Nat} {d : Int} {t : List (Nat × Bool)} (hi : i ≤ s.size) (h : run s ((111, true) :: t) i d = (0, 0)) : ∃ j, Opnd s i j ∧ j ≤ s.size ∧ run s t j d = (0, 0) := by
  cases h1 : smallN (bt s i)
  · cases h2 : digitN (bt s i)
    · rw [R_o_bad t hi h1 h2] at h; simp at h
    · have hi1 := (digit_in h2).1
      rw [R_o_digit t h2] at h
      cases h3 : digitN (bt s (i + 1))
      · rw [R_d_no t hi1 h3] at h
        exact ⟨i + 1, .inr ⟨by omega, by omega, fun k a b => by rw [show k = i by omega]; exact h2⟩, hi1, h⟩
      · have hi2 := (digit_in h3).1
        rw [R_d_digit t h3] at h
        cases h4 : digitN (bt s (i + 1 + 1))
        · rw [R_e_no t hi2 h4] at h
          refine ⟨i + 1 + 1, .inr ⟨by omega, by omega, fun k a b => ?_⟩, hi2, h⟩
          by_cases e : k = i
          · rw [e]; exact h2
          · rw [show k = i + 1 by omega]; exact h3
        · have hi3 := (digit_in h4).1
          rw [R_e_digit t h4] at h
          refine ⟨i + 1 + 1 + 1, .inr ⟨by omega, by omega, fun k a b => ?_⟩, hi3, h⟩
          by_cases e : k = i
          · rw [e]; exact h2
          · by_cases e2 : k = i + 1
            · rw [e2]; exact h3
            · rw [show k = i + 1 + 1 by omega]; exact h4
  · have hi1 := (small_in h1).1
    rw [R_o_small t h1] at h
    exact ⟨i + 1, .inl ⟨h1, rfl⟩, hi1, h⟩
theorem inv_V {s : ByteArray} {i : Nat} {d : Int} {t : List (Nat × Bool)} (hi : i ≤ s.size) (h : run s ((86, true) :: t) i d = (0, 0)) : greatN (bt s i) = true ∧ i < s.size ∧ run s t (i + 1) d = (0, 0) := by
  cases h1 : greatN (bt s i)
  · rw [R_V_bad t hi h1] at h; simp at h
  · rw [R_V_great t h1] at h
    exact ⟨rfl, (great_in h1).1, h⟩

def KSize (s : ByteArray) (i j : Nat) : Prop := smallN (bt s i) = true ∧ bt s (i + 1) = 61 ∧ bt s (i + 2) = 35 ∧ greatN (bt s (i + 3)) = true ∧ bt s (i + 4) = 59 ∧ j = i + 5
def KLoad (s : ByteArray) (i j : Nat) : Prop := smallN (bt s i) = true ∧ bt s (i + 1) = 61 ∧ greatN (bt s (i + 2)) = true ∧ bt s (i + 3) = 91 ∧ ∃ k, Opnd s (i + 4) k ∧ bt s k = 93 ∧ bt s (k + 1) = 59 ∧ j = k + 2
def KSet (s : ByteArray) (i j : Nat) : Prop := smallN (bt s i) = true ∧ bt s (i + 1) = 61 ∧ ∃ k, Opnd s (i + 2) k ∧ bt s k = 59 ∧ j = k + 1
def KCalc (s : ByteArray) (i j : Nat) : Prop := smallN (bt s i) = true ∧ bt s (i + 1) = 61 ∧ ∃ k l, Opnd s (i + 2) k ∧ isOp (bt s k) ∧ Opnd s (k + 1) l ∧ bt s l = 59 ∧ j = l + 1
def KStore (s : ByteArray) (i j : Nat) : Prop := greatN (bt s i) = true ∧ bt s (i + 1) = 91 ∧ ∃ k l, Opnd s (i + 2) k ∧ bt s k = 93 ∧ bt s (k + 1) = 61 ∧ Opnd s (k + 2) l ∧ bt s l = 59 ∧ j = l + 1
def KMake (s : ByteArray) (i j : Nat) : Prop := greatN (bt s i) = true ∧ bt s (i + 1) = 61 ∧ bt s (i + 2) = 91 ∧ ∃ k, Opnd s (i + 3) k ∧ bt s k = 93 ∧ bt s (k + 1) = 59 ∧ j = k + 2
def KMove (s : ByteArray) (i j : Nat) : Prop := greatN (bt s i) = true ∧ bt s (i + 1) = 61 ∧ greatN (bt s (i + 2)) = true ∧ bt s (i + 3) = 59 ∧ j = i + 4
def KPrint (s : ByteArray) (i j : Nat) : Prop := bt s i = 33 ∧ ∃ k, Opnd s (i + 1) k ∧ bt s k = 59 ∧ j = k + 1
def KDrop (s : ByteArray) (i j : Nat) : Prop := bt s i = 126 ∧ greatN (bt s (i + 1)) = true ∧ bt s (i + 2) = 59 ∧ j = i + 3
/-- a sentence without braces stands from i up to j -/
def Simple (s : ByteArray) (i j : Nat) : Prop := KSize s i j ∨ KLoad s i j ∨ KSet s i j ∨ KCalc s i j ∨ KStore s i j ∨ KMake s i j ∨ KMove s i j ∨ KPrint s i j ∨ KDrop s i j

/-- neither ; nor a brace -/
def Mid (c : Nat) : Prop := c ≠ 59 ∧ c ≠ 123 ∧ c ≠ 125
def Span (s : ByteArray) (a b : Nat) : Prop := ∀ k, a ≤ k → k < b → Mid (bt s k)
theorem Span.app {s : ByteArray} {a b c : Nat} (h : Span s a b) (g : Span s b c) : Span s a c := fun k h1 h2 => by
  by_cases e : k < b
  · exact h k h1 e
  · exact g k (by omega) h2
theorem Span.one {s : ByteArray} {a : Nat} (h : Mid (bt s a)) : Span s a (a + 1) := fun k h1 h2 => by rw [show k = a by omega]; exact h
theorem Span.eq {s : ByteArray} {a x : Nat} (h : bt s a = x) (hx : Mid x) : Span s a (a + 1) := Span.one (by rw [h]; exact hx)
theorem Span.small {s : ByteArray} {a : Nat} (h : smallN (bt s a) = true) : Span s a (a + 1) := Span.one (by simp [smallN] at h; unfold Mid; omega)
theorem Span.great {s : ByteArray} {a : Nat} (h : greatN (bt s a) = true) : Span s a (a + 1) := Span.one (by simp [greatN] at h; unfold Mid; omega)
theorem Opnd.span {s : ByteArray} {i j : Nat} (h : Opnd s i j) : Span s i j := fun k a b => by
  rcases h with ⟨h, e⟩ | ⟨_, _, h⟩
  · exact Span.small h k a (by omega)
  · have := h k a b; simp [digitN] at this; unfold Mid; omega
theorem mid_op {c : Nat} (h : isOp c) : Mid c := by unfold isOp at h; unfold Mid; omega

theorem Simple.line {s : ByteArray} {i j : Nat} (h : Simple s i j) : i < j ∧ j ≤ s.size ∧ bt s (j - 1) = 59 ∧ Span s i (j - 1) := by
  have fin : ∀ q, bt s q = 59 → i < q → Span s i q → i < q + 1 ∧ q + 1 ≤ s.size ∧ bt s (q + 1 - 1) = 59 ∧ Span s i (q + 1 - 1) := fun q h1 h2 h3 => ⟨by omega, byte_in h1 (by decide), h1, h3⟩
  have m61 : Mid 61 := by unfold Mid; omega
  have m91 : Mid 91 := by unfold Mid; omega
  have m93 : Mid 93 := by unfold Mid; omega
  have m35 : Mid 35 := by unfold Mid; omega
  have m33 : Mid 33 := by unfold Mid; omega
  have m126 : Mid 126 := by unfold Mid; omega
  rcases h with h | h | h | h | h | h | h | h | h
  · obtain ⟨h1, h2, h3, h4, h5, rfl⟩ := h
    exact fin _ h5 (by omega) ((((Span.small h1).app (Span.eq h2 m61)).app (Span.eq h3 m35)).app (Span.great h4))
  · obtain ⟨h1, h2, h3, h4, k, h5, h6, h7, rfl⟩ := h
    have := h5.lt
    exact fin _ h7 (by omega) ((((((Span.small h1).app (Span.eq h2 m61)).app (Span.great h3)).app (Span.eq h4 m91)).app h5.span).app (Span.eq h6 m93))
  · obtain ⟨h1, h2, k, h5, h6, rfl⟩ := h
    have := h5.lt
    exact fin _ h6 (by omega) (((Span.small h1).app (Span.eq h2 m61)).app h5.span)
  · obtain ⟨h1, h2, k, l, h5, h6, h7, h8, rfl⟩ := h
    have := h5.lt
    have := h7.lt
    exact fin _ h8 (by omega) (((((Span.small h1).app (Span.eq h2 m61)).app h5.span).app (Span.one (mid_op h6))).app h7.span)
  · obtain ⟨h1, h2, k, l, h5, h6, h6', h7, h8, rfl⟩ := h
    have := h5.lt
    have := h7.lt
    exact fin _ h8 (by omega) ((((((Span.great h1).app (Span.eq h2 m91)).app h5.span).app (Span.eq h6 m93)).app (Span.eq h6' m61)).app h7.span)
  · obtain ⟨h1, h2, h3, k, h5, h6, h7, rfl⟩ := h
    have := h5.lt
    exact fin _ h7 (by omega) (((((Span.great h1).app (Span.eq h2 m61)).app (Span.eq h3 m91)).app h5.span).app (Span.eq h6 m93))
  · obtain ⟨h1, h2, h3, h4, rfl⟩ := h
    exact fin _ h4 (by omega) (((Span.great h1).app (Span.eq h2 m61)).app (Span.great h3))
  · obtain ⟨h1, k, h5, h6, rfl⟩ := h
    have := h5.lt
    exact fin _ h6 (by omega) ((Span.eq h1 m33).app h5.span)
  · obtain ⟨h1, h2, h3, rfl⟩ := h
    exact fin _ h3 (by omega) ((Span.eq h1 m126).app (Span.great h2))

/-- a sentence stands from i up to j; P: what stands in braces -/
def StmtF (P : Nat → Nat → Prop) (s : ByteArray) (i j : Nat) : Prop :=
  Simple s i j ∨
  (bt s i = 63 ∧ ∃ a b c, Opnd s (i + 1) a ∧ bt s a = 123 ∧ P (a + 1) b ∧ bt s b = 125 ∧ bt s (b + 1) = 123 ∧ P (b + 2) c ∧ bt s c = 125 ∧ j = c + 1) ∨
  (bt s i = 64 ∧ ∃ a b, Opnd s (i + 1) a ∧ bt s a = 123 ∧ P (a + 1) b ∧ bt s b = 125 ∧ j = b + 1)
/-- sentences stand from i up to j -/
def Prog (s : ByteArray) : Nat → Nat → Nat → Prop
  | 0, i, j => i = j
  | F + 1, i, j => i = j ∨ ∃ m, StmtF (Prog s F) s i m ∧ Prog s F m j
theorem Prog.le {s : ByteArray} : ∀ {F i j : Nat}, Prog s F i j → i ≤ j
  | 0, _, _, h => Nat.le_of_eq h
  | F + 1, i, j, h => by
    rcases h with h | ⟨m, h1, h2⟩
    · exact Nat.le_of_eq h
    · have h3 := h2.le
      rcases h1 with h | ⟨_, a, b, c, ho, _, hp, _, _, hq, _, e⟩ | ⟨_, a, b, ho, _, hp, _, e⟩
      · have := h.line.1; omega
      · have := ho.lt; have := hp.le; have := hq.le; omega
      · have := ho.lt; have := hp.le; omega
theorem StmtF.lt {s : ByteArray} {F i j : Nat} (h : StmtF (Prog s F) s i j) : i < j ∧ j ≤ s.size := by
  rcases h with h | ⟨_, a, b, c, ho, _, hp, _, _, hq, hc, e⟩ | ⟨_, a, b, ho, _, hp, hb, e⟩
  · exact ⟨h.line.1, h.line.2.1⟩
  · have := ho.lt; have := hp.le; have := hq.le; have := byte_in hc (by decide); omega
  · have := ho.lt; have := hp.le; have := byte_in hb (by decide); omega

theorem run_simple {s : ByteArray} {i : Nat} {d : Int} {t : List (Nat × Bool)} (h : run s ((83, true) :: t) i d = (0, 0)) (hb : smallN (bt s i) = true ∨ greatN (bt s i) = true ∨ bt s i = 33 ∨ bt s i = 126) :
    ∃ m, Simple s i m ∧ run s ((83, true) :: t) m d = (0, 0) := by
  have semi : ∀ k, k ≤ s.size → run s ((59, false) :: (83, true) :: t) k d = (0, 0) → bt s k = 59 ∧ run s ((83, true) :: t) (k + 1) d = (0, 0) := fun k hk h =>
    have g := run_take_ok hk (by decide) (by decide) (by decide) h
    ⟨g.1, g.2.2⟩
  rcases hb with hb | hb | hb | hb
  · have hi := (small_in hb).1
    rw [R_S_small t hb] at h
    obtain ⟨e1, hi1, h⟩ := run_take_ok hi (by decide) (by decide) (by decide) h
    by_cases e2 : bt s (i + 1 + 1) = 35
    · rw [R_g_hash _ e2] at h
      have hi2 := byte_in e2 (by decide)
      obtain ⟨e3, hi3, h⟩ := inv_V hi2 h
      obtain ⟨e4, h⟩ := semi _ hi3 h
      exact ⟨_, .inl ⟨hb, e1, e2, e3, e4, rfl⟩, h⟩
    · cases e3 : greatN (bt s (i + 1 + 1))
      · rw [R_g_else _ hi1 e3 e2] at h
        obtain ⟨k, ho, hk, h⟩ := inv_o hi1 h
        by_cases e4 : isOp (bt s k)
        · have hk1 : k < s.size := byte_in rfl (by unfold isOp at e4; omega)
          rw [R_t_op _ e4] at h
          obtain ⟨l, ho2, hl, h⟩ := inv_o hk1 h
          obtain ⟨e5, h⟩ := semi _ hl h
          exact ⟨_, .inr (.inr (.inr (.inl ⟨hb, e1, k, l, ho, e4, ho2, e5, rfl⟩))), h⟩
        · rw [R_t_no _ hk e4] at h
          obtain ⟨e5, h⟩ := semi _ hk h
          exact ⟨_, .inr (.inr (.inl ⟨hb, e1, k, ho, e5, rfl⟩)), h⟩
      · have hi2 := (great_in e3).1
        rw [R_g_great _ e3] at h
        obtain ⟨e4, hi3, h⟩ := run_take_ok hi2 (by decide) (by decide) (by decide) h
        obtain ⟨k, ho, hk, h⟩ := inv_o hi3 h
        obtain ⟨e5, hk1, h⟩ := run_take_ok hk (by decide) (by decide) (by decide) h
        obtain ⟨e6, h⟩ := semi _ hk1 h
        exact ⟨_, .inr (.inl ⟨hb, e1, e3, e4, k, ho, e5, e6, rfl⟩), h⟩
  · have hi := (great_in hb).1
    rw [R_S_great t hb] at h
    by_cases e1 : bt s (i + 1) = 91
    · rw [R_p_br _ e1] at h
      have hi1 := byte_in e1 (by decide)
      obtain ⟨k, ho, hk, h⟩ := inv_o hi1 h
      obtain ⟨e2, hk1, h⟩ := run_take_ok hk (by decide) (by decide) (by decide) h
      obtain ⟨e3, hk2, h⟩ := run_take_ok hk1 (by decide) (by decide) (by decide) h
      obtain ⟨l, ho2, hl, h⟩ := inv_o hk2 h
      obtain ⟨e4, h⟩ := semi _ hl h
      exact ⟨_, .inr (.inr (.inr (.inr (.inl ⟨hb, e1, k, l, ho, e2, e3, ho2, e4, rfl⟩)))), h⟩
    · rw [R_p_else _ hi e1] at h
      obtain ⟨e2, hi1, h⟩ := run_take_ok hi (by decide) (by decide) (by decide) h
      by_cases e3 : bt s (i + 1 + 1) = 91
      · have hi2 := byte_in e3 (by decide)
        rw [R_G_br _ e3] at h
        obtain ⟨k, ho, hk, h⟩ := inv_o hi2 h
        obtain ⟨e4, hk1, h⟩ := run_take_ok hk (by decide) (by decide) (by decide) h
        obtain ⟨e5, h⟩ := semi _ hk1 h
        exact ⟨_, .inr (.inr (.inr (.inr (.inr (.inl ⟨hb, e2, e3, k, ho, e4, e5, rfl⟩))))), h⟩
      · rw [R_G_else _ hi1 e3] at h
        obtain ⟨e4, hi2, h⟩ := inv_V hi1 h
        obtain ⟨e5, h⟩ := semi _ hi2 h
        exact ⟨_, .inr (.inr (.inr (.inr (.inr (.inr (.inl ⟨hb, e2, e4, e5, rfl⟩)))))), h⟩
  · have hi := byte_in hb (by decide)
    rw [R_S_print t hb] at h
    obtain ⟨k, ho, hk, h⟩ := inv_o hi h
    obtain ⟨e5, h⟩ := semi _ hk h
    exact ⟨_, .inr (.inr (.inr (.inr (.inr (.inr (.inr (.inl ⟨hb, k, ho, e5, rfl⟩))))))), h⟩
  · have hi := byte_in hb (by decide)
    rw [R_S_drop t hb] at h
    obtain ⟨e4, hi2, h⟩ := inv_V hi h
    obtain ⟨e5, h⟩ := semi _ hi2 h
    exact ⟨_, .inr (.inr (.inr (.inr (.inr (.inr (.inr (.inr ⟨hb, e4, e5, rfl⟩))))))), h⟩

theorem run_prog {s : ByteArray} : ∀ (m i : Nat) (d : Int) (t : List (Nat × Bool)), i ≤ s.size → s.size - i < m → run s ((83, true) :: t) i d = (0, 0) → ∃ j, Prog s m i j ∧ j ≤ s.size ∧ run s t j d = (0, 0)
  | 0, _, _, _, _, h, _ => absurd h (Nat.not_lt_zero _)
  | m + 1, i, d, t, hi, hm, h => by
    by_cases hb : smallN (bt s i) = true ∨ greatN (bt s i) = true ∨ bt s i = 33 ∨ bt s i = 126
    · obtain ⟨k, hs, h⟩ := run_simple h hb
      have hl := hs.line
      obtain ⟨j, hp, hj, h⟩ := run_prog m k d t hl.2.1 (by omega) h
      exact ⟨j, .inr ⟨k, .inl hs, hp⟩, hj, h⟩
    · by_cases h63 : bt s i = 63
      · have hi1 := byte_in h63 (by decide)
        rw [R_S_if t h63] at h
        obtain ⟨a, ho, ha, h⟩ := inv_o hi1 h
        have ho' := ho.lt
        obtain ⟨e1, ha1, _, h⟩ := run_open_ok ha h
        obtain ⟨b, hp, hb', h⟩ := run_prog m (a + 1) _ _ ha1 (by omega) h
        have hp' := hp.le
        obtain ⟨e2, hb1, h⟩ := run_close_ok hb' h
        obtain ⟨e3, hb2, _, h⟩ := run_open_ok hb1 h
        obtain ⟨c, hq, hc, h⟩ := run_prog m (b + 1 + 1) _ _ hb2 (by omega) h
        have hq' := hq.le
        obtain ⟨e4, hc1, h⟩ := run_close_ok hc h
        rw [show d + 1 - 1 + 1 - 1 = d by omega] at h
        obtain ⟨j, hr, hj, h⟩ := run_prog m (c + 1) d t hc1 (by omega) h
        exact ⟨j, .inr ⟨c + 1, .inr (.inl ⟨h63, a, b, c, ho, e1, hp, e2, e3, hq, e4, rfl⟩), hr⟩, hj, h⟩
      · by_cases h64 : bt s i = 64
        · have hi1 := byte_in h64 (by decide)
          rw [R_S_loop t h64] at h
          obtain ⟨a, ho, ha, h⟩ := inv_o hi1 h
          have ho' := ho.lt
          obtain ⟨e1, ha1, _, h⟩ := run_open_ok ha h
          obtain ⟨b, hp, hb', h⟩ := run_prog m (a + 1) _ _ ha1 (by omega) h
          have hp' := hp.le
          obtain ⟨e2, hb1, h⟩ := run_close_ok hb' h
          rw [show d + 1 - 1 = d by omega] at h
          obtain ⟨j, hr, hj, h⟩ := run_prog m (b + 1) d t hb1 (by omega) h
          exact ⟨j, .inr ⟨b + 1, .inr (.inr ⟨h64, a, b, ho, e1, hp, e2, rfl⟩), hr⟩, hj, h⟩
        · have hno : noStmt (bt s i) := by
            refine ⟨?_, ?_, ?_, ?_, h63, h64⟩
            · exact Bool.eq_false_iff.2 fun e => hb (.inl e)
            · exact Bool.eq_false_iff.2 fun e => hb (.inr (.inl e))
            · exact fun e => hb (.inr (.inr (.inl e)))
            · exact fun e => hb (.inr (.inr (.inr e)))
          rw [R_S_none t hi hno] at h
          exact ⟨i, .inl rfl, hi, h⟩
/-- nothing is wrong: the text is a program -/
theorem prog_of_ok {s : ByteArray} (h : run s [(83, true)] 0 0 = (0, 0)) : Prog s (s.size + 1) 0 s.size := by
  obtain ⟨j, hp, hj, h⟩ := run_prog (s.size + 1) 0 0 [] (Nat.zero_le _) (by omega) h
  rw [run_nil hj] at h
  split at h
  · simp at h
  · rw [show s.size = j by omega] at hp ⊢
    exact hp
end Go.Proofs.YthcjcjfgdgnljabDoor

namespace Go.Proofs.YthcjcjfgdgnljabDoor
open Go.RowKit
set_option linter.unusedVariables false

theorem owns_cell {w : World} {base : Nat} {e : TypeId} {size g n cap : Nat} {xs : List Value} (h : w.ownsRow base e size (.slice (some ⟨g, 0, none⟩) n cap) n xs) {k : Nat} {u : Value} (hk : xs[k]? = some u) : w.cell? ⟨g, k, none⟩ = some u := by
  rcases h.2 with ⟨h0, _⟩ | ⟨g', cap', cur, hv, hb, hg, hn, hc, hs, ht⟩
  · cases h0
  · cases hv
    have hkl : k < xs.length := (List.getElem?_eq_some_iff.1 hk).1
    rw [h.1] at hkl
    rw [← ht, List.getElem?_take_of_lt hkl] at hk
    have : cur[k]? = some u := by simpa using hk
    simp [World.cell?, hg, this]

def StkS (kp base : Nat) : Nat → Prop := fun k => k = kp ∨ base ≤ k

theorem cell_new (w : World) (cs : Array Value) (ty : TypeId) {k n : Nat} {u : Value} (hn : n = w.heap.size) (h : cs[k]? = some u) : (w.alloc (.cells cs ty)).cell? ⟨n, k, none⟩ = some u := by
  subst hn
  rw [World.cell?_alloc_at _ _ _ _ rfl]
  exact h
theorem setCell_size (w : World) (p : Addr) (u : Value) : (w.setCell p u).heap.size = w.heap.size := by simp [World.setCell]

theorem bt_str {b c : Nat} {s : ByteArray} (hs : s = ⟨((chosenN b c).1.map UInt8.ofNat).toArray⟩) (hc : c < 256) {j : Nat} (hj : j < s.size) : bt s j = (chosenN b c).1.getD j 0 := by
  have hz : s.size = (chosenN b c).1.length := by rw [hs]; simp [ByteArray.size]
  rw [bt_in hj]
  have hl : j < (chosenN b c).1.length := by omega
  have hm := chosenN_lt (b := b) hc _ (List.getElem_mem hl)
  simp [hl]
  subst hs
  show (((chosenN b c).1.map UInt8.ofNat).toArray[j]).toNat = _
  simp
  omega
theorem bytes_some {s : ByteArray} {n : Nat} (hn : s.size = n + 1) : s.toList.isEmpty = false := by
  rw [ByteArray.toList_eq]
  cases s
  simp [ByteArray.size] at hn ⊢
  intro e
  rw [e] at hn
  simp at hn
theorem stmtN_len (c : Nat) : (stmtN c).length ≤ 9 := by
  unfold stmtN
  repeat' split
  all_goals simp
theorem chosenN_len (b c : Nat) : (chosenN b c).1.length ≤ 9 := by
  unfold chosenN
  repeat' split
  · exact stmtN_len c
  all_goals simp

/-- what a text of a part becomes, in the stack's order -/
theorem push_exp {b c : Nat} {es : List (Nat × Bool)} (h : expand b c = some es) (s : ByteArray) (hs : s = ⟨((chosenN b c).1.map UInt8.ofNat).toArray⟩) (hc : c < 256) : pushS s (ownL (chosenN b c).1 c) s.size = es.reverse := by
  have hz : s.size = (chosenN b c).1.length := by rw [hs]; simp [ByteArray.size]
  have hbt : ∀ j, j < s.size → bt s j = (chosenN b c).1.getD j 0 := fun j hj => by
    rw [bt_in hj]
    have hl : j < (chosenN b c).1.length := by omega
    have hm := chosenN_lt (b := b) hc _ (List.getElem_mem hl)
    simp [hl]
    subst hs
    show (((chosenN b c).1.map UInt8.ofNat).toArray[j]).toNat = _
    simp
    omega
  unfold expand at h
  split at h
  · injection h with h
    rw [← h, List.reverse_reverse]
    unfold pushS pushL
    rw [hz]
    apply List.map_congr_left
    intro j hj
    rw [List.mem_range] at hj
    unfold entS entL
    rw [hbt j (by omega), hz]
  · cases h
end Go.Proofs.YthcjcjfgdgnljabDoor

namespace Go.Proofs.YthcjcjfgdgnljabDoor
open Go.RowKit
set_option linter.unusedVariables false

/-- what the loop of 'opened' holds: the stack opens as the first one did -/
structure OpInv (S0 S : List (Nat × Bool)) (c : Nat) : Prop where
  ok : OkS S
  same : opened S0 c = opened S c
  w : wt S ≤ wt S0 ∨ (mu S = 0 ∧ wt S ≤ wt S0 + 11)

end Go.Proofs.YthcjcjfgdgnljabDoor

namespace Go.Proofs.YthcjcjfgdgnljabDoor
open Go.RowKit
set_option linter.unusedVariables false

theorem opened_zero {S : List (Nat × Bool)} (c : Nat) (h : mu S = 0) : (opened S c).1 = S := by
  rcases S with _ | ⟨⟨b, q⟩, t⟩
  · rfl
  · cases q
    · rfl
    · have : rank b + mu t = 0 := h
      have := rank_pos b
      omega
theorem opened_facts {c : Nat} (hc : c < 256) : ∀ (n : Nat) (S : List (Nat × Bool)), mu S ≤ n → OkS S → OkS (opened S c).1 ∧ wt (opened S c).1 ≤ wt S + 11 ∧ ((opened S c).2.1 = true → ∃ x t, (opened S c).1 = (x, false) :: t) := by
  intro n
  induction n with
  | zero =>
    intro S hS hO
    rw [opened_zero c (by omega)]
    refine ⟨hO, by omega, fun h => ?_⟩
    rcases S with _ | ⟨⟨b, q⟩, t⟩
    · rw [opened_nil] at h; simp at h
    · cases q
      · exact ⟨b, t, rfl⟩
      · have : rank b + mu t ≤ 0 := hS
        have := rank_pos b
        omega
  | succ n ih =>
    intro S hS hO
    rcases S with _ | ⟨⟨b, q⟩, t⟩
    · refine ⟨hO, by rw [opened_nil]; exact Nat.le_add_right _ _, fun h => ?_⟩
      rw [opened_nil] at h; simp at h
    · cases q
      · rw [opened_byte]
        exact ⟨hO, Nat.le_add_right _ _, fun _ => ⟨b, t, rfl⟩⟩
      · have hOt : OkS t := fun e he => hO e (List.mem_cons_of_mem _ he)
        have hw : wt ((b, true) :: t) = wtE (b, true) + wt t := rfl
        have hm : rank b + mu t ≤ n + 1 := hS
        cases he : expand b c with
        | none =>
          rw [opened_none t he]
          exact ⟨hOt, show wt t ≤ _ by omega, fun h => absurd h (by simp)⟩
        | some es =>
          rw [opened_some t he]
          have hp : isPart b := (hO (b, true) (by simp)).2 rfl
          have h1 := expand_step hp he
          have h2 := h1.hm t
          have hO2 : OkS (es ++ t) := fun e q => by
            rcases List.mem_append.1 q with q | q
            · exact expand_ok hc he e q
            · exact hOt e q
          have h3 := ih (es ++ t) (by omega) hO2
          refine ⟨h3.1, ?_, h3.2.2⟩
          rcases h1.hw with q | ⟨q1, q2⟩
          · have := h3.2.1
            rw [wt_append] at this
            omega
          · rw [opened_zero c (q1 t), wt_append]
            omega

end Go.Proofs.YthcjcjfgdgnljabDoor

namespace Go.Proofs.YthcjcjfgdgnljabDoor
open Go.RowKit
set_option linter.unusedVariables false

theorem retI {k : IntKind} {a b : Int} (h : a = b) : Ending.returned (.int k a) = .returned (.int k b) := by rw [h]
def br (c : Nat) : Int := if c = 123 then 1 else if c = 125 then -1 else 0
/-- how many braces are open ahead of place k -/
def cum (s : ByteArray) : Nat → Int
  | 0 => 0
  | k + 1 => cum s k + br (bt s k)
theorem cum_near (s : ByteArray) (a : Nat) : ∀ n, cum s (a + n) ≤ cum s a + n ∧ cum s a - n ≤ cum s (a + n)
  | 0 => by simp
  | n + 1 => by
    have h := cum_near s a n
    show cum s (a + n) + br (bt s (a + n)) ≤ _ ∧ _ ≤ cum s (a + n) + br (bt s (a + n))
    have : br (bt s (a + n)) ≤ 1 ∧ -1 ≤ br (bt s (a + n)) := by
      unfold br
      repeat' split
      all_goals omega
    omega
theorem cum_bound (s : ByteArray) {a k : Nat} (h : a ≤ k) : cum s k ≤ cum s a + (k - a : Nat) ∧ cum s a - (k - a : Nat) ≤ cum s k := by
  have := cum_near s a (k - a)
  rwa [show a + (k - a) = k by omega] at this
/-- from a to b as many braces close as open, and none that was open at a -/
structure Nn (s : ByteArray) (a b : Nat) : Prop where
  le : a ≤ b
  eq : cum s b = cum s a
  ge : ∀ k, a ≤ k → k ≤ b → cum s a ≤ cum s k
theorem Nn.refl (s : ByteArray) (a : Nat) : Nn s a a := ⟨Nat.le_refl _, rfl, fun k h1 h2 => by rw [show k = a by omega]; omega⟩
theorem Nn.app {s : ByteArray} {a b c : Nat} (h : Nn s a b) (g : Nn s b c) : Nn s a c :=
  ⟨Nat.le_trans h.le g.le, g.eq.trans h.eq, fun k h1 h2 => by
    by_cases e : k ≤ b
    · exact h.ge k h1 e
    · rw [← h.eq]; exact g.ge k (by omega) h2⟩
theorem Nn.one {s : ByteArray} {a : Nat} (h1 : bt s a ≠ 123) (h2 : bt s a ≠ 125) : Nn s a (a + 1) := by
  have e : cum s (a + 1) = cum s a := by
    show cum s a + br (bt s a) = _
    unfold br
    rw [if_neg h1, if_neg h2]
    omega
  refine ⟨by omega, e, fun k g1 g2 => ?_⟩
  by_cases q : k = a
  · rw [q]; omega
  · rw [show k = a + 1 by omega, e]; omega
theorem Nn.span {s : ByteArray} {a : Nat} : ∀ {n : Nat}, (∀ k, a ≤ k → k < a + n → bt s k ≠ 123 ∧ bt s k ≠ 125) → Nn s a (a + n)
  | 0, _ => Nn.refl s a
  | n + 1, h => (Nn.span (n := n) (fun k h1 h2 => h k h1 (by omega))).app (Nn.one (h (a + n) (by omega) (by omega)).1 (h (a + n) (by omega) (by omega)).2)
theorem Nn.plain {s : ByteArray} {a b : Nat} (hab : a ≤ b) (h : ∀ k, a ≤ k → k < b → bt s k ≠ 123 ∧ bt s k ≠ 125) : Nn s a b := by
  have := Nn.span (s := s) (a := a) (n := b - a) (fun k h1 h2 => h k h1 (by omega))
  rwa [show a + (b - a) = b by omega] at this
theorem cum_open {s : ByteArray} {q : Nat} (h : bt s q = 123) : cum s (q + 1) = cum s q + 1 := by
  show cum s q + br (bt s q) = _
  rw [h]; rfl
theorem cum_close {s : ByteArray} {q : Nat} (h : bt s q = 125) : cum s (q + 1) = cum s q - 1 := by
  show cum s q + br (bt s q) = _
  rw [h]; rfl
/-- what stands in braces: the first place at which as many are open as ahead of it is the one behind it -/
theorem brace {s : ByteArray} {q b : Nat} (h1 : bt s q = 123) (h : Nn s (q + 1) b) (h2 : bt s b = 125) : cum s (b + 1) = cum s q ∧ ∀ k, q < k → k < b + 1 → cum s k ≠ cum s q := by
  have e1 := cum_open h1
  have e2 := cum_close h2
  have e3 := h.eq
  refine ⟨by omega, fun k g1 g2 => ?_⟩
  have := h.ge k (by omega) (by omega)
  omega
theorem Nn.brace {s : ByteArray} {q b : Nat} (h1 : bt s q = 123) (h : Nn s (q + 1) b) (h2 : bt s b = 125) : Nn s q (b + 1) := by
  have e1 := cum_open h1
  have e2 := cum_close h2
  have e3 := h.eq
  have := h.le
  refine ⟨by omega, by omega, fun k g1 g2 => ?_⟩
  by_cases e : k = q
  · rw [e]; omega
  · by_cases e' : k = b + 1
    · rw [e']; omega
    · have := h.ge k (by omega) (by omega)
      omega
theorem Opnd.nn {s : ByteArray} {i j : Nat} (h : Opnd s i j) : Nn s i j := Nn.plain (Nat.le_of_lt h.lt) (fun k h1 h2 => (h.span k h1 h2).2)
theorem Simple.nn {s : ByteArray} {i j : Nat} (h : Simple s i j) : Nn s i j := by
  obtain ⟨h1, _, h2, h3⟩ := h.line
  refine Nn.plain (Nat.le_of_lt h1) (fun k g1 g2 => ?_)
  by_cases e : k = j - 1
  · rw [e, h2]; omega
  · exact (h3 k g1 (by omega)).2
theorem nn_of {s : ByteArray} {i x : Nat} (h : bt s i = x) (h1 : x ≠ 123) (h2 : x ≠ 125) : Nn s i (i + 1) := Nn.one (by rw [h]; exact h1) (by rw [h]; exact h2)
theorem Prog.nn {s : ByteArray} : ∀ {F i j : Nat}, Prog s F i j → Nn s i j
  | 0, i, j, h => by have e : i = j := h; subst e; exact Nn.refl s i
  | F + 1, i, j, h => by
    rcases h with h | ⟨m, h1, h2⟩
    · subst h; exact Nn.refl s i
    · refine Nn.app ?_ h2.nn
      rcases h1 with h | ⟨e, a, b, c, ho, ha, hp, hb, hb1, hq, hc, rfl⟩ | ⟨e, a, b, ho, ha, hp, hb, rfl⟩
      · exact h.nn
      · exact (((nn_of e (by decide) (by decide)).app ho.nn).app (Nn.brace ha hp.nn hb)).app (Nn.brace hb1 hq.nn hc)
      · exact ((nn_of e (by decide) (by decide)).app ho.nn).app (Nn.brace ha hp.nn hb)

end Go.Proofs.YthcjcjfgdgnljabDoor

namespace Go.Proofs.YthcjcjfgdgnljabDoor
open Go.RowKit
set_option linter.unusedVariables false

structure IfAt (s : ByteArray) (i a b c : Nat) : Prop where
  q : bt s i = 63
  o : Opnd s (i + 1) a
  ha : bt s a = 123
  n1 : Nn s (a + 1) b
  hb : bt s b = 125
  hb1 : bt s (b + 1) = 123
  n2 : Nn s (b + 2) c
  hc : bt s c = 125
structure LoopAt (s : ByteArray) (i a b : Nat) : Prop where
  q : bt s i = 64
  o : Opnd s (i + 1) a
  ha : bt s a = 123
  n1 : Nn s (a + 1) b
  hb : bt s b = 125
theorem nodigit {s : ByteArray} {j x : Nat} (h : bt s j = x) (hx : x = 123 ∨ x = 59 ∨ x = 93) : digitN (bt s j) = false := by
  rw [h]; rcases hx with rfl | rfl | rfl <;> rfl

section
variable {s : ByteArray} {i a b c : Nat}
theorem IfAt.bnd (h : IfAt s i a b c) : i + 1 < a ∧ a < b ∧ b + 1 < c ∧ c < s.size := by
  have := h.o.lt; have := h.n1.le; have := h.n2.le; have := byte_in h.hc (by decide); omega
theorem LoopAt.bnd (h : LoopAt s i a b) : i + 1 < a ∧ a < b ∧ b < s.size := by
  have := h.o.lt; have := h.n1.le; have := byte_in h.hb (by decide); omega
end

theorem Simple.first {s : ByteArray} {i j : Nat} (h : Simple s i j) : bt s i ≠ 63 ∧ bt s i ≠ 64 := by
  have sm : smallN (bt s i) = true → bt s i ≠ 63 ∧ bt s i ≠ 64 := fun h => by simp [smallN] at h; omega
  have gr : greatN (bt s i) = true → bt s i ≠ 63 ∧ bt s i ≠ 64 := fun h => by simp [greatN] at h; omega
  rcases h with h | h | h | h | h | h | h | h | h
  · exact sm h.1
  · exact sm h.1
  · exact sm h.1
  · exact sm h.1
  · exact gr h.1
  · exact gr h.1
  · exact gr h.1
  · have := h.1; omega
  · have := h.1; omega

end Go.Proofs.YthcjcjfgdgnljabDoor

namespace Go.Proofs.YthcjcjfgdgnljabDoor
open Go.RowKit
set_option linter.unusedVariables false

def arrF (f : Nat → Bool) : Array Value := ((List.range 26).map (fun i => Value.bool (f i))).toArray
theorem arrF_size (f : Nat → Bool) : (arrF f).size = 26 := by simp [arrF]
theorem arrF_get (f : Nat → Bool) {i : Nat} (h : i < 26) : (arrF f)[i]? = some (.bool (f i)) := by simp [arrF, h]
theorem arrF_congr {f g : Nat → Bool} (h : ∀ i, i < 26 → f i = g i) : arrF f = arrF g := by
  unfold arrF
  congr 1
  apply List.map_congr_left
  intro i hi
  rw [h i (List.mem_range.1 hi)]
theorem arrF_one (f : Nat → Bool) : (arrF f).all (·.oneCell') = true := by
  rw [Array.all_eq_true_iff_forall_mem]
  intro x hx
  simp only [arrF, List.mem_toArray, List.mem_map] at hx
  obtain ⟨i, _, rfl⟩ := hx
  rfl
def updB (f : Nat → Bool) (k : Nat) (v : Bool) : Nat → Bool := fun i => if i = k then v else f i
theorem arrF_zero : arrF (fun _ => false) = #[.bool false, .bool false, .bool false, .bool false, .bool false, .bool false, .bool false, .bool false, .bool false, .bool false, .bool false, .bool false, .bool false, .bool false, .bool false, .bool false, .bool false, .bool false, .bool false, .bool false, .bool false, .bool false, .bool false, .bool false, .bool false, .bool false] := by rfl

theorem Fr.setRow {S : Nat → Prop} {a w : World} (h : Fr S a w) {g : Nat} (hp : g < a.heap.size → S g) (cs : Array Value) : Fr S a (w.setRow g cs) :=
  ⟨h.os, h.tape, h.output, by rw [setRow_size]; exact h.size, fun k hk hs => (setRow_other w g k cs (fun e => hs (by subst e; exact hp hk))).trans (h.block k hk hs)⟩
def bothF (f g : Nat → Bool) : Nat → Bool := fun i => f i && g i
/-- all of f is in g -/
def subF (f g : Nat → Bool) : Prop := ∀ i, i < 26 → f i = true → g i = true
def subFDec (f g : Nat → Bool) : Decidable (subF f g) := inferInstanceAs (Decidable (∀ i, i < 26 → f i = true → g i = true))
/-- the same, as an answer -/
def subD (f g : Nat → Bool) : Bool := @decide (subF f g) (subFDec f g)
theorem subD_true {f g : Nat → Bool} (h : subF f g) : subD f g = true := @decide_eq_true _ (subFDec f g) h
theorem subD_false {f g : Nat → Bool} (h : ¬ subF f g) : subD f g = false := @decide_eq_false _ (subFDec f g) h
theorem subD_of {f g : Nat → Bool} (h : subD f g = true) : subF f g := @of_decide_eq_true _ (subFDec f g) h
theorem subD_not {f g : Nat → Bool} (h : subD f g = false) : ¬ subF f g := @of_decide_eq_false _ (subFDec f g) h
end Go.Proofs.YthcjcjfgdgnljabDoor
