/-
  The document's syntax, as plain functions: the stack's run along a text. (No walk here.)
-/
import Derived.Test.YtcmnejcojphijaaSynP
namespace Go.Proofs.Ytcmnejcojphijaa
open Go.RowKit

theorem expand_mu {b c : Nat} {es : List (Nat × Bool)} (h : expand b c = some es) : ∀ t, mu (es ++ t) < rank b + mu t := by
  by_cases hb : isPart b
  · exact (expand_step hb h).hm
  · have hr := rank_pos b
    have e : chosenN b c = if c = 91 then ([111, 61, 93, 111, c], true) else ([71, 61], true) := by
      unfold chosenN
      unfold isPart at hb
      simp only [show ¬ b = 83 from fun e => hb (by simp [e]), show ¬ b = 111 from fun e => hb (by simp [e]), show ¬ b = 100 from fun e => hb (by simp [e]), show ¬ b = 101 from fun e => hb (by simp [e]), show ¬ b = 86 from fun e => hb (by simp [e]), show ¬ b = 103 from fun e => hb (by simp [e]), show ¬ b = 116 from fun e => hb (by simp [e]), show ¬ b = 71 from fun e => hb (by simp [e]), if_false]
    intro t
    by_cases h1 : c = 91
    · rw [if_pos h1] at e
      rw [expand_last (l := [111, 61, 93, 111]) e] at h
      injection h with h
      subst h
      simp only [List.cons_append, mu]; omega
    · rw [if_neg h1] at e
      unfold expand at h
      rw [e] at h
      simp only [if_true] at h
      injection h with h
      subst h
      cases ho : ownL [71, 61] c
      · rw [pushL_plain]; simp [prt, partB, mu]; omega
      · rw [show ([71, 61] : List Nat) = [71] ++ [61] from rfl, pushL_own]; simp [prt, partB, mu]; omega

theorem openN_le (c : Nat) (d : Nat) (S : List (Nat × Bool)) : openN (mu S + 1 + d) S c = openN (mu S + 1) S c := by
  have key : ∀ (m : Nat) (S : List (Nat × Bool)), mu S ≤ m → ∀ f g, mu S < f → mu S < g → openN f S c = openN g S c := by
    intro m
    induction m with
    | zero =>
      intro S hS f g hf hg
      obtain ⟨f, rfl⟩ : ∃ f', f = f' + 1 := ⟨f - 1, by omega⟩
      obtain ⟨g, rfl⟩ : ∃ g', g = g' + 1 := ⟨g - 1, by omega⟩
      match S, hS with
      | [], _ => rfl
      | (b, false) :: t, _ => rfl
      | (b, true) :: t, hS => exact absurd (show rank b + mu t ≤ 0 from hS) (by have := rank_pos b; omega)
    | succ m ih =>
      intro S hS f g hf hg
      obtain ⟨f, rfl⟩ : ∃ f', f = f' + 1 := ⟨f - 1, by omega⟩
      obtain ⟨g, rfl⟩ : ∃ g', g = g' + 1 := ⟨g - 1, by omega⟩
      match S, hS, hf, hg with
      | [], _, _, _ => rfl
      | (b, false) :: t, _, _, _ => rfl
      | (b, true) :: t, hS, hf, hg =>
        have e0 : mu ((b, true) :: t) = rank b + mu t := rfl
        rw [e0] at hS hf hg
        show (match expand b c with | none => (t, false, true) | some es => openN f (es ++ t) c) = (match expand b c with | none => (t, false, true) | some es => openN g (es ++ t) c)
        cases he : expand b c with
        | none => rfl
        | some es =>
          have h1 := expand_mu he t
          exact ih (es ++ t) (by omega) f g (by omega) (by omega)
  exact key _ S (Nat.le_refl _) _ _ (by omega) (by omega)
theorem openN_more (c : Nat) : ∀ (f : Nat) (S : List (Nat × Bool)), mu S < f → openN f S c = openN (mu S + 1) S c
  | 0, _, h => absurd h (Nat.not_lt_zero _)
  | f + 1, [], _ => rfl
  | f + 1, (b, false) :: t, _ => rfl
  | f + 1, (b, true) :: t, h => by
    have hm : mu ((b, true) :: t) = rank b + mu t := rfl
    rw [hm] at h ⊢
    show (match expand b c with | none => (t, false, true) | some es => openN f (es ++ t) c) = (match expand b c with | none => (t, false, true) | some es => openN (rank b + mu t) (es ++ t) c)
    cases he : expand b c with
    | none => rfl
    | some es =>
      have h1 := expand_mu he t
      show openN f (es ++ t) c = openN (rank b + mu t) (es ++ t) c
      rw [openN_more c f (es ++ t) (by omega)]
      have hr : ∃ g, rank b + mu t = g ∧ mu (es ++ t) < g := ⟨_, rfl, h1⟩
      obtain ⟨g, hg, hl⟩ := hr
      rw [hg]
      have hgf : g ≤ f := by omega
      clear hg
      obtain ⟨d, rfl⟩ : ∃ d, g = mu (es ++ t) + 1 + d := ⟨g - (mu (es ++ t) + 1), by omega⟩
      exact (openN_le c d (es ++ t)).symm

theorem opened_nil (c : Nat) : opened [] c = ([], false, false) := rfl
theorem opened_byte (x : Nat) (t : List (Nat × Bool)) (c : Nat) : opened ((x, false) :: t) c = ((x, false) :: t, true, false) := rfl
theorem opened_none {b c : Nat} (t : List (Nat × Bool)) (h : expand b c = none) : opened ((b, true) :: t) c = (t, false, true) := by
  unfold opened
  show (match expand b c with | none => (t, false, true) | some es => openN (mu ((b, true) :: t)) (es ++ t) c) = _
  rw [h]
theorem opened_some {b c : Nat} {es : List (Nat × Bool)} (t : List (Nat × Bool)) (h : expand b c = some es) : opened ((b, true) :: t) c = opened (es ++ t) c := by
  have h1 := expand_mu h t
  unfold opened
  show (match expand b c with | none => (t, false, true) | some es => openN (mu ((b, true) :: t)) (es ++ t) c) = _
  rw [h]
  exact openN_more c _ _ h1

/-- the rest of the look along a text: S is expected from byte i on, m bytes are left, d braces are open -/
def runN (s : ByteArray) : Nat → List (Nat × Bool) → Nat → Int → Nat × Nat
  | 0, S, _, _ => if (opened S 0).2.1 || (opened S 0).2.2 then (2, s.size) else (0, 0)
  | m + 1, S, i, d =>
    if (opened S (bt s i)).2.2 || !(opened S (bt s i)).2.1 || !(((opened S (bt s i)).1.headD (0, false)).1 == bt s i) then (2, i)
    else if bt s i = 123 then (if 8 < d + 1 then (3, i) else runN s m (opened S (bt s i)).1.tail (i + 1) (d + 1))
    else runN s m (opened S (bt s i)).1.tail (i + 1) (if bt s i = 125 then d - 1 else d)
def run (s : ByteArray) (S : List (Nat × Bool)) (i : Nat) (d : Int) : Nat × Nat := runN s (s.size - i) S i d

theorem bt_out {s : ByteArray} {i : Nat} (h : ¬ i < s.size) : bt s i = 0 := by simp [bt, h]

theorem run_end (s : ByteArray) (S : List (Nat × Bool)) (d : Int) : run s S s.size d = if (opened S 0).2.1 || (opened S 0).2.2 then (2, s.size) else (0, 0) := by
  unfold run; rw [Nat.sub_self]; rfl
theorem run_in {s : ByteArray} (S : List (Nat × Bool)) {i : Nat} (d : Int) (hi : i < s.size) : run s S i d =
    if (opened S (bt s i)).2.2 || !(opened S (bt s i)).2.1 || !(((opened S (bt s i)).1.headD (0, false)).1 == bt s i) then (2, i)
    else if bt s i = 123 then (if 8 < d + 1 then (3, i) else run s (opened S (bt s i)).1.tail (i + 1) (d + 1))
    else run s (opened S (bt s i)).1.tail (i + 1) (if bt s i = 125 then d - 1 else d) := by
  unfold run
  rw [show s.size - i = (s.size - (i + 1)) + 1 by omega]
  rfl

/-- two stacks that open alike run alike -/
theorem run_congr {s : ByteArray} {S T : List (Nat × Bool)} {i : Nat} {d : Int} (hi : i ≤ s.size) (h : opened S (bt s i) = opened T (bt s i)) : run s S i d = run s T i d := by
  by_cases hl : i < s.size
  · rw [run_in S d hl, run_in T d hl, h]
  · have e : i = s.size := by omega
    subst e
    rw [bt_out (by omega)] at h
    rw [run_end, run_end, h]

theorem run_bad {s : ByteArray} {b i : Nat} {d : Int} (t : List (Nat × Bool)) (hi : i ≤ s.size) (h : expand b (bt s i) = none) : run s ((b, true) :: t) i d = (2, i) := by
  by_cases hl : i < s.size
  · rw [run_in _ d hl, opened_none t h]; rfl
  · have e : i = s.size := by omega
    subst e
    rw [bt_out (by omega)] at h
    rw [run_end, opened_none t h]; rfl
theorem run_exp {s : ByteArray} {b i : Nat} {d : Int} {es : List (Nat × Bool)} (t : List (Nat × Bool)) (hi : i ≤ s.size) (h : expand b (bt s i) = some es) : run s ((b, true) :: t) i d = run s (es ++ t) i d :=
  run_congr hi (opened_some t h)
theorem run_nil {s : ByteArray} {i : Nat} {d : Int} (hi : i ≤ s.size) : run s [] i d = if i < s.size then (2, i) else (0, 0) := by
  by_cases hl : i < s.size
  · rw [run_in _ d hl, opened_nil, if_pos hl]; rfl
  · have e : i = s.size := by omega
    subst e
    rw [run_end, opened_nil, if_neg hl]; rfl
/-- a byte of the text is expected -/
theorem run_miss {s : ByteArray} {x i : Nat} {d : Int} (t : List (Nat × Bool)) (hi : i ≤ s.size) (h : bt s i ≠ x) : run s ((x, false) :: t) i d = (2, i) := by
  by_cases hl : i < s.size
  · rw [run_in _ d hl, opened_byte]
    have : (x == bt s i) = false := beq_eq_false_iff_ne.2 (Ne.symm h)
    simp [this]
  · have e : i = s.size := by omega
    subst e
    rw [run_end, opened_byte]; rfl
theorem run_hit {s : ByteArray} {x i : Nat} {d : Int} (t : List (Nat × Bool)) (hi : i < s.size) (h : bt s i = x) : run s ((x, false) :: t) i d =
    if x = 123 then (if 8 < d + 1 then (3, i) else run s t (i + 1) (d + 1)) else run s t (i + 1) (if x = 125 then d - 1 else d) := by
  rw [run_in _ d hi, opened_byte, h]
  simp
end Go.Proofs.Ytcmnejcojphijaa
