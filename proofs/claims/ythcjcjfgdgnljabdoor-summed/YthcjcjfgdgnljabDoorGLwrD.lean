/-
  LwrB, LwrC, LwrD: one behind the other.
-/
import Derived.Test.YthcjcjfgdgnljabDoorGTxtD
import Derived.Test.YthcjcjfgdgnljabDoorGDevQB
import Derived.Test.YthcjcjfgdgnljabDoorGDevX
import Derived.Test.YthcjcjfgdgnljabDoorGMchZ
import Derived.Test.YthcjcjfgdgnljabDoorGLwrF
import Derived.Test.YthcjcjfgdgnljabDoorGSynD
import Derived.Lib.AppendStr
namespace Go.Proofs.YthcjcjfgdgnljabDoor
open Go.RowKit
set_option linter.unusedVariables false

/-- f without g -/
def minusF (f g : Nat → Bool) : Nat → Bool := fun i => f i && !g i
/-- one box alone -/
def oneF (k : Nat) : Nat → Bool := fun i => decide (i = k)
/-- does a part get another block? -/
def getsB (t : Pt) : Bool := decide (t.kind = 4) || (decide (t.kind = 5) && decide (t.box ≠ t.src))
/-- the boxes whose blocks must end ahead of a part -/
def surN (p : Nat → Pt) (C : Nat → Nat) (A B : Nat → Nat → Bool) (q : Nat) : Nat → Bool :=
  if getsB (p q) = true then bothF (A q) (oneF (p q).box)
  else if (p q).kind = 9 then minusF (A q) (B (C q))
  else if (p q).kind = 10 ∨ (p q).kind = 11 ∨ (p q).kind = 12 then minusF (A q) (B q)
  else noF
/-- a sentence for each box -/
def endB (f : Nat → Bool) : ByteArray := drsB (minL f noF)
theorem end_minus (f g : Nat → Bool) : endB (minusF f g) = drsB (minL f g) := by
  unfold endB minL minusF noF
  simp
theorem end_none : endB noF = ⟨#[]⟩ := by
  unfold endB
  rw [show minL noF noF = [] from by unfold minL noF; simp]
  rfl
theorem filt_none {l : List Nat} {g : Nat → Bool} (h : ∀ i, i ∈ l → g i = false) : l.filter g = [] := by
  rw [List.filter_eq_nil_iff]
  intro a ha
  rw [h a ha]
  simp
theorem minL_one {f : Nat → Bool} {k : Nat} (hk : k < 26) : minL (bothF f (oneF k)) noF = if f k = true then [k] else [] := by
  have hsp : List.range 26 = List.range k ++ [k] ++ (List.range (26 - (k + 1))).map (fun x => k + 1 + x) := by
    have h1 : List.range (k + 1 + (26 - (k + 1))) = List.range (k + 1) ++ (List.range (26 - (k + 1))).map (fun x => k + 1 + x) := List.range_add
    rw [← List.range_succ, ← h1]
    congr 1
    omega
  unfold minL
  rw [hsp, List.filter_append, List.filter_append, filt_none (l := List.range k) (fun i hi => by
    have : i < k := List.mem_range.1 hi
    unfold bothF oneF noF
    simp
    omega), filt_none (l := (List.range (26 - (k + 1))).map (fun x => k + 1 + x)) (fun i hi => by
    obtain ⟨x, _, rfl⟩ := List.mem_map.1 hi
    unfold bothF oneF noF
    simp
    omega)]
  unfold bothF oneF noF
  cases h : f k
  · simp [h]
  · simp [h]
theorem end_one {f : Nat → Bool} {k : Nat} (hk : k < 26) : endB (bothF f (oneF k)) = if f k = true then drB k else ⟨#[]⟩ := by
  unfold endB
  rw [minL_one hk]
  split
  · show drB k ++ (⟨#[]⟩ : ByteArray) = drB k
    exact ByteArray.append_empty
  · rfl

/-- ahead of a sentence without braces -/
theorem sur_simple {p : Nat → Pt} {C : Nat → Nat} {A B : Nat → Nat → Bool} {q : Nat} {s : ByteArray} {i m : Nat} (hS : Simple s i m) (hP : SimPart s i (p q)) (hb : (p q).box < 26) : endB (surN p C A B q) = if ownT s i (A q) = true then drB (bt s i - 65) else ⟨#[]⟩ := by
  have ho := own_text hS (A q)
  rw [← hP.ac] at ho
  have hk := hP.kd
  unfold surN
  by_cases h4 : (p q).kind = 4
  · rw [if_pos (by unfold getsB; rw [h4]; rfl), end_one hb]
    have e : acP (p q) = .make (p q).box (p q).o1 := by unfold acP; rw [h4]; rfl
    rw [e] at ho
    have ho2 : (if A q (p q).box = true then some (p q).box else none) = (if ownT s i (A q) = true then some (bt s i - 65) else none) := ho
    by_cases h : A q (p q).box = true
    · rw [if_pos h] at ho2 ⊢
      by_cases h2 : ownT s i (A q) = true
      · rw [if_pos h2] at ho2 ⊢
        injection ho2 with ho2
        rw [ho2]
      · rw [if_neg h2] at ho2
        cases ho2
    · rw [if_neg h] at ho2 ⊢
      by_cases h2 : ownT s i (A q) = true
      · rw [if_pos h2] at ho2
        cases ho2
      · rw [if_neg h2]
  · by_cases h5 : (p q).kind = 5
    · have e : acP (p q) = .move (p q).box (p q).src := by unfold acP; rw [h5]; rfl
      rw [e] at ho
      have ho2 : (if (p q).box ≠ (p q).src ∧ A q (p q).box = true then some (p q).box else none) = (if ownT s i (A q) = true then some (bt s i - 65) else none) := ho
      by_cases hne : (p q).box = (p q).src
      · rw [if_neg (by unfold getsB; rw [h5]; simp [hne]), if_neg (by omega), if_neg (by omega), end_none]
        rw [if_neg (fun q => q.1 hne)] at ho2
        by_cases h2 : ownT s i (A q) = true
        · rw [if_pos h2] at ho2
          cases ho2
        · rw [if_neg h2]
      · rw [if_pos (by unfold getsB; rw [h5]; simp [hne]), end_one hb]
        by_cases h : A q (p q).box = true
        · rw [if_pos ⟨hne, h⟩] at ho2
          rw [if_pos h]
          by_cases h2 : ownT s i (A q) = true
          · rw [if_pos h2] at ho2 ⊢
            injection ho2 with ho2
            rw [ho2]
          · rw [if_neg h2] at ho2
            cases ho2
        · rw [if_neg (fun q => h q.2)] at ho2
          rw [if_neg h]
          by_cases h2 : ownT s i (A q) = true
          · rw [if_pos h2] at ho2
            cases ho2
          · rw [if_neg h2]
    · rw [if_neg (by unfold getsB; simp [h4, h5]), if_neg (by omega), if_neg (by omega), end_none]
      have hn : ownA (acP (p q)) (A q) = none := by
        have h8 := hP.kd
        unfold acP
        by_cases c0 : (p q).kind = 0
        · rw [if_pos c0]; split <;> rfl
        · rw [if_neg c0]
          by_cases c1 : (p q).kind = 1
          · rw [if_pos c1]; rfl
          · rw [if_neg c1]
            by_cases c2 : (p q).kind = 2
            · rw [if_pos c2]; rfl
            · rw [if_neg c2]
              by_cases c3 : (p q).kind = 3
              · rw [if_pos c3]; rfl
              · rw [if_neg c3, if_neg h4, if_neg h5]
                split <;> rfl
      rw [hn] at ho
      by_cases h2 : ownT s i (A q) = true
      · rw [if_pos h2] at ho
        cases ho
      · rw [if_neg h2]

section
variable {p : Nat → Pt} {C : Nat → Nat} {s : ByteArray} {A B : Nat → Nat → Bool} {n : Nat}
/-- how the program writes: the part that comes next, and the text, ahead of a place -/
def txN (s : ByteArray) (p : Nat → Pt) (n : Nat) (E : Nat → ByteArray) : Nat → Nat × ByteArray
  | 0 => (0, ⟨#[]⟩)
  | q + 1 => if (txN s p n E q).1 < n ∧ (p (txN s p n E q).1).place = q then ((txN s p n E q).1 + 1, (txN s p n E q).2 ++ E (txN s p n E q).1 ++ s.extract q (q + 1)) else ((txN s p n E q).1, (txN s p n E q).2 ++ s.extract q (q + 1))
theorem tx_part {E : Nat → ByteArray} {q k : Nat} {t : ByteArray} (h : txN s p n E q = (k, t)) (hk : k < n) (hp : (p k).place = q) : txN s p n E (q + 1) = (k + 1, t ++ E k ++ s.extract q (q + 1)) := by
  rw [txN, h, if_pos ⟨hk, hp⟩]
theorem tx_skip {E : Nat → ByteArray} {q k : Nat} {t : ByteArray} (h : txN s p n E q = (k, t)) : ∀ d, (k < n → q + d ≤ (p k).place) → txN s p n E (q + d) = (k, t ++ s.extract q (q + d))
  | 0, _ => by
    rw [Nat.add_zero, h]
    congr 1
    rw [ByteArray.extract_same]
    exact ByteArray.append_empty.symm
  | d + 1, hp => by
    have ih := tx_skip h d (fun q => by have := hp q; omega)
    rw [show q + (d + 1) = q + d + 1 by omega, txN, ih, if_neg (fun e => by have := hp e.1; have := e.2; simp only [] at *; omega)]
    show (k, t ++ s.extract q (q + d) ++ s.extract (q + d) (q + d + 1)) = _
    rw [ByteArray.append_assoc, ext_app s (by omega) (by omega)]
theorem SegL.place : ∀ {F i j k l : Nat} {f : Nat → Bool}, SegL p s A B F i j k l f → (k < l → (p k).place = i) ∧ (k = l → i = j)
  | 0, i, j, k, l, f, h => ⟨fun q => absurd h.2 (by omega), fun _ => h.1⟩
  | F + 1, i, j, k, l, f, h => by
    rcases h with ⟨h1, h2⟩ | ⟨m, k', ⟨hc, hs⟩, g1, g2, g3, g4, g5, hr⟩
    · exact ⟨fun q => by omega, fun _ => h1⟩
    · refine ⟨fun _ => ?_, fun q => by omega⟩
      rcases hs with ⟨q1, q2, q3⟩ | ⟨a, b, c, ka, kb, q1, q2, q3, q4, q5, q6, _⟩ | ⟨a, b, ka, q1, q3, q4, q5, q6, _⟩
      · exact q3.pl
      · exact q6.2.2.1
      · exact q6.2.2.1
theorem SegL.next {F i j k l : Nat} {f : Nat → Bool} (h : SegL p s A B F i j k l f) (hl : l < n → j ≤ (p l).place) (hi : i ≤ j) : k < n → i ≤ (p k).place := fun hk => by
  by_cases e : k = l
  · subst e
    have := h.place.2 rfl
    have := hl hk
    omega
  · have := h.le
    rw [h.place.1 (by omega)]
    exact Nat.le_refl _
theorem SegL.ij : ∀ {F i j k l : Nat} {f : Nat → Bool}, SegL p s A B F i j k l f → i ≤ j
  | 0, _, _, _, _, _, h => Nat.le_of_eq h.1
  | F + 1, i, j, k, l, f, h => by
    rcases h with h | ⟨m, k', _, g1, g2, _⟩
    · exact Nat.le_of_eq h.1
    · omega

/-- what the program writes of the sentences from i to j -/
theorem text_dev (hC : ∀ q, q < n → closes (p q) = true → C (p q).opn = q) (hb : ∀ q, q < n → (p q).box < 26) : ∀ {F i j k l : Nat} {f : Nat → Bool}, SegL p s A B F i j k l f → l ≤ n → (l < n → j ≤ (p l).place) →
    ∀ t, txN s p n (fun q => endB (surN p C A B q)) i = (k, t) → txN s p n (fun q => endB (surN p C A B q)) j = (l, t ++ lowT s F i j f)
  | 0, i, j, k, l, f, h, hl, hj, t, ht => by
    obtain ⟨rfl, rfl⟩ := h
    rw [ht, lowT]
    congr 1
    exact ByteArray.append_empty.symm
  | F + 1, i, j, k, l, f, h, hl, hj, t, ht => by
    have ih := fun {i j k l : Nat} {f : Nat → Bool} (h : SegL p s A B F i j k l f) => text_dev hC hb h
    rcases h with ⟨rfl, rfl⟩ | ⟨m, k', ⟨hc, hs⟩, g1, g2, g3, g4, g5, hr⟩
    · rw [ht, lowT, if_neg (Nat.lt_irrefl _)]
      congr 1
      exact ByteArray.append_empty.symm
    · have hnx := hr.next hj g2
      rw [lowT, if_pos (by omega), g5]
      rcases hs with ⟨q1, q2, q3⟩ | ⟨a, b, c, ka, kb, q1, q2, q3, q4, q5, q6, q7, q8, q9, q10, q11, q12, q13, q14, q15⟩ | ⟨a, b, ka, q1, q3, q4, q5, q6, q7, q8, q9, q13, q14, q15⟩
      · subst q2
        have hf := q1.first
        rw [if_neg hf.1, if_neg hf.2]
        have e1 := tx_part ht (by omega) q3.pl
        have e2 := tx_skip e1 (m - (i + 1)) (fun q => by have := hnx q; omega)
        rw [show i + 1 + (m - (i + 1)) = m by omega, ByteArray.append_assoc, ext_app s (by omega) (by omega)] at e2
        have e3 := ih hr hl hj _ e2
        rw [e3]
        congr 1
        show t ++ endB (surN p C A B k) ++ s.extract i m ++ _ = _
        rw [sur_simple q1 q3 (hb k (by omega)), hc]
        simp only [ByteArray.append_assoc]
      · subst q4 q5
        have l2 := q2.le
        have l3 := q3.le
        have i2 := q2.ij
        have i3 := q3.ij
        rw [if_pos q1.q, q1.p1, q1.p2, q1.p3, show b + 1 - 1 = b by omega, show b + 1 + 1 = b + 2 by omega, show c + 1 - 1 = c by omega]
        have k1 : C ka = kb := by
          have := hC kb (by omega) (by unfold closes; rw [q9]; rfl)
          rwa [q10] at this
        have s0 : endB (surN p C A B k) = ⟨#[]⟩ := by
          unfold surN
          rw [if_neg (by unfold getsB; rw [q6.1]; simp), if_neg (by omega), if_neg (by omega), end_none]
        have s1 : endB (surN p C A B ka) = drsB (minL (alongF s F (a + 1) b f) (afterF (alongF s F) s i f)) := by
          unfold surN
          rw [if_neg (by unfold getsB; rw [q7]; simp), if_pos q7, end_minus, q13, k1, q15]
        have s2 : endB (surN p C A B kb) = drsB (minL (alongF s F (b + 2) c f) (afterF (alongF s F) s i f)) := by
          unfold surN
          rw [if_neg (by unfold getsB; rw [q9]; simp), if_neg (by omega), if_pos (.inl q9), end_minus, q14, q15]
        have hi := q1.o.lt
        have e1 := tx_part ht (by omega) q6.2.2.1
        have n2 := q2.next (n := n) (fun _ => by rw [q6.2.2.2.1]; exact Nat.le_refl _) i2
        have e2 := tx_skip e1 (a + 1 - (i + 1)) (fun q => by have := n2 q; omega)
        rw [show i + 1 + (a + 1 - (i + 1)) = a + 1 by omega, ByteArray.append_assoc, ext_app s (by omega) (by omega)] at e2
        have e3 := ih q2 (by omega) (fun _ => by rw [q6.2.2.2.1]; exact Nat.le_refl _) _ e2
        have e4 := tx_part e3 (by omega) q6.2.2.2.1
        have n3 := q3.next (n := n) (fun _ => by rw [q6.2.2.2.2]; exact Nat.le_refl _) i3
        have e5 := tx_skip e4 1 (fun q => by have := n3 q; omega)
        rw [show b + 1 + 1 = b + 2 by omega, ByteArray.append_assoc, ext_app s (by omega) (by omega)] at e5
        have e6 := ih q3 (by omega) (fun _ => by rw [q6.2.2.2.2]; exact Nat.le_refl _) _ e5
        have e7 := tx_part e6 (by omega) q6.2.2.2.2
        have e8 := ih hr hl hj _ e7
        rw [e8]
        congr 1
        try simp only []
        rw [s0, s1, s2]
        simp only [ByteArray.append_assoc]
        congr 1
      · subst q4 q5
        have l3 := q3.le
        have i3 := q3.ij
        have hi := q1.o.lt
        rw [if_neg (by rw [q1.q]; decide), if_pos q1.q, q1.p1, q1.p2, show b + 1 - 1 = b by omega, afterF_loop q1]
        rw [afterF_loop q1] at hr
        generalize iterF (alongF s F (a + 1) b) 27 f = H at *
        have s0 : endB (surN p C A B k) = drsB (minL f H) := by
          unfold surN
          rw [if_neg (by unfold getsB; rw [q6.1]; simp), if_neg (by omega), if_pos (.inr (.inl q6.1)), end_minus, hc, q13]
        have s1 : endB (surN p C A B ka) = drsB (minL (alongF s F (a + 1) b H) H) := by
          unfold surN
          rw [if_neg (by unfold getsB; rw [q7]; simp), if_neg (by omega), if_pos (.inr (.inr q7)), end_minus, q14, q15]
        have e1 := tx_part ht (by omega) q6.2.2.1
        have n2 := q3.next (n := n) (fun _ => by rw [q6.2.2.2]; exact Nat.le_refl _) i3
        have e2 := tx_skip e1 (a + 1 - (i + 1)) (fun q => by have := n2 q; omega)
        rw [show i + 1 + (a + 1 - (i + 1)) = a + 1 by omega, ByteArray.append_assoc, ext_app s (by omega) (by omega)] at e2
        have e3 := ih q3 (by omega) (fun _ => by rw [q6.2.2.2]; exact Nat.le_refl _) _ e2
        have e4 := tx_part e3 (by omega) q6.2.2.2
        have e8 := ih hr hl hj _ e4
        rw [e8]
        congr 1
        try simp only []
        rw [s0, s1]
        simp only [ByteArray.append_assoc]
/-- the whole of it -/
theorem text_dev_top (hC : ∀ q, q < n → closes (p q) = true → C (p q).opn = q) (hb : ∀ q, q < n → (p q).box < 26) (h : SegL p s A B (s.size + 1) 0 s.size 0 n noF) (he : 0 < n → B (n - 1) = alongF s (s.size + 1) 0 s.size noF) :
    (txN s p n (fun q => endB (surN p C A B q)) s.size).2 ++ endB (if n = 0 then noF else B (n - 1)) = lowTT s := by
  have h1 := text_dev hC hb h (Nat.le_refl _) (fun q => absurd q (Nat.lt_irrefl _)) ⟨#[]⟩ rfl
  rw [h1]
  unfold lowTT endB
  congr 1
  by_cases e : n = 0
  · rw [if_pos e]
    have e2 := h.place.2 e.symm
    have : alongF s (s.size + 1) 0 s.size noF = noF := by
      rw [← e2, alongF_end]
    rw [this]
  · rw [if_neg e, he (by omega)]
end
end Go.Proofs.YthcjcjfgdgnljabDoor

namespace Go.Proofs.YthcjcjfgdgnljabDoor
open Go.RowKit
set_option linter.unusedVariables false
theorem partIs3 (s : ByteArray) (hs : s.size ≤ 400) : PartIs s := fun w kp base r pv ov h hz hb hJ hlt => part_fn w kp base s r pv ov h hz hb hJ hlt
/-- behind a middle the last brace comes -/
theorem SegL.mid {p : Nat → Pt} {s : ByteArray} {A B : Nat → Nat → Bool} {C : Nat → Nat} {n : Nat} (hC : ∀ q, q < n → closes (p q) = true → C (p q).opn = q) : ∀ {F i j k l : Nat} {f : Nat → Bool}, SegL p s A B F i j k l f → l ≤ n → ∀ q, k ≤ q → q < l → (p q).kind = 9 → C q < n
  | 0, i, j, k, l, f, h, hl, q, h1, h2, h3 => absurd h.2 (by omega)
  | F + 1, i, j, k, l, f, h, hl, q, h1, h2, h3 => by
    rcases h with ⟨rfl, rfl⟩ | ⟨m, k', ⟨hc, hs⟩, g1, g2, g3, g4, g5, hr⟩
    · omega
    · by_cases hq : k' ≤ q
      · exact SegL.mid hC hr hl q hq h2 h3
      · rcases hs with ⟨q1, q2, q3⟩ | ⟨a, b, c, ka, kb, q1, q2, q3, q4, q5, q6, q7, q8, q9, q10, q11, q12, _⟩ | ⟨a, b, ka, q1, q3, q4, q5, q6, q7, q8, q9, _⟩
        · have e : q = k := by omega
          subst e
          have := q3.kd
          omega
        · subst q4 q5
          by_cases e0 : q = k
          · subst e0; rw [q6.1] at h3; omega
          · by_cases e1 : q = ka
            · subst e1
              have := hC kb (by omega) (by unfold closes; rw [q9]; rfl)
              rw [q10] at this
              omega
            · by_cases e2 : q = kb
              · subst e2; rw [q9] at h3; omega
              · by_cases e3 : q < ka
                · exact SegL.mid hC q2 (by omega) q (by omega) e3 h3
                · exact SegL.mid hC q3 (by omega) q (by omega) (by omega) h3
        · subst q4 q5
          by_cases e0 : q = k
          · subst e0; rw [q6.1] at h3; omega
          · by_cases e1 : q = ka
            · subst e1; rw [q7] at h3; omega
            · exact SegL.mid hC q3 (by omega) q (by omega) (by omega) h3
/-- what was read of a text that Check lets by -/
structure ToldL (s : ByteArray) (p : Nat → Pt) (C : Nat → Nat) (np : Nat) : Prop where
  seg : Seg0 p s np
  fl : FlatOk p np
  cq : ∀ q, q < np → closes (p q) = true → C (p q).opn = q
  cl : ∀ i, C i < 99999
  nl : np < 99999
theorem toldL_of {s : ByteArray} (hs : s.size ≤ 400) (n : Nat) (h2 : (rIter s n r0).z.2 = 0) (hl : ¬ (rIter s n r0).z.1 < s.size) (hO : (rIter s n r0).O = []) : ToldL s (pOf (rIter s n r0).P) (cloL (rIter s n r0).P) (rIter s n r0).P.length := by
  have h9 : s.size ≤ 90000 := by omega
  have hseg := seg_told h9 n h2 hl hO
  have hJ := rj_iter h9 n (rj0 s)
  have hU := ru_iter h9 n ru0 (rj0 s)
  have hn : (rIter s n r0).P.length < 99999 := by have := hJ.pl; have h5 : (rIter s n r0).z.1 ≤ s.size := hJ.hin; omega
  refine ⟨hseg, hJ.fl, fun q hq hc => clo_at _ _ rfl q hq hc (fun q' hq' hc' e => hU.uq q' q hq' hq hc' hc e), fun i => ?_, hn⟩
  have := clo_le _ (rIter s n r0).P rfl i
  omega
/-- Read of a text that Check lets by -/
theorem read_okL (w : World) (s : ByteArray) (hc : checkN s = (0, 0)) :
    Calls Tryd.prog 10 #[.string s] w fun e w' => ∃ ao np cap, e = .returned (.tuple #[.slice ao np cap, .int .i64 0, .int .i64 0]) ∧ Hid (Fr NoB w w' ∧ ∃ p C, ToldL s p C np ∧ PartRow w' ao np p C ∧ ∀ g, ao = some ⟨g, 0, none⟩ → g < w'.heap.size) := by
  have hc1 : s.size ≤ 400 ∧ (run s [(83, true)] 0 0).1 = 0 := by
    unfold checkN at hc
    by_cases h4 : 400 < s.size
    · rw [if_pos h4] at hc
      exact absurd (congrArg Prod.fst hc) (by decide)
    · rw [if_neg h4] at hc
      by_cases q : (run s [(83, true)] 0 0).1 ≠ 0
      · rw [if_pos q] at hc
        exact absurd (congrArg Prod.fst hc) q
      · exact ⟨by omega, by omega⟩
  obtain ⟨h4, h00⟩ := hc1
  refine (read_fn w s (by omega) (partIs3 s h4)).mono ?_
  rintro e w1 ⟨n, hst, hF1, hor⟩
  have hrun := run_told (by omega) n hst
  rcases hor with ⟨hne, rfl⟩ | ⟨ht, hz, hO, ao, cap, rfl, hrow, hgl⟩
  · rw [hrun] at h00
    exact absurd h00 hne
  · have hl : ¬ (rIter s n r0).z.1 < s.size := by
      rcases hst with q | q
      · exact absurd hz q
      · exact q
    exact ⟨ao, _, cap, rfl, ⟨hF1, _, _, toldL_of h4 n hz hl hO, hrow, hgl⟩⟩
end Go.Proofs.YthcjcjfgdgnljabDoor

namespace Go.Proofs.YthcjcjfgdgnljabDoor
open Go.RowKit Go.Lib
set_option linter.unusedVariables false

theorem str_app (x y : ByteArray) : strCells (x ++ y) = strCells x ++ strCells y := by
  unfold strCells
  simp
theorem str_len (x : ByteArray) : (strCells x).length = x.size := by
  unfold strCells
  rw [List.length_map, Array.length_toList]
  rfl
theorem str_one (s : ByteArray) {q : Nat} (hq : q < s.size) : strCells (s.extract q (q + 1)) = [Value.int .u8 (bt s q : Int)] := by
  have h1 : (s.extract q (q + 1)).size = 1 := by rw [ByteArray.size_extract]; omega
  have h2 := str_len (s.extract q (q + 1))
  rw [h1] at h2
  obtain ⟨v, hv⟩ := List.length_eq_one_iff.1 h2
  have h3 : (strCells (s.extract q (q + 1)))[0]? = some (Value.int .u8 (bt s q : Int)) := by
    unfold strCells
    rw [List.getElem?_map]
    have h4 : (s.extract q (q + 1)).data.toList[0]? = some s[q] := by
      have h5 : (s.extract q (q + 1))[0] = s[q] := by
        rw [ByteArray.getElem_extract]
        simp
      rw [← h5]
      simp [ByteArray.getElem_eq_getElem_data]
    rw [h4, bt_in hq]
    rfl
  rw [hv] at h3 ⊢
  simpa using h3
theorem str_drop {k : Nat} (hk : k < 26) : strCells (drB k) = [Value.int .u8 126, Value.int .u8 ((65 : Int) + k), Value.int .u8 59] := by
  unfold strCells drB
  simp
  omega
/-- whatever was made since -/
def WS (base : Nat) : Nat → Prop := fun k => base ≤ k
/-- a text in a writer -/
structure WT (w : World) (wp base : Nat) (tv : Value) (T : ByteArray) : Prop where
  ct : w.cell? ⟨wp, 0, none⟩ = some tv
  fz : ∀ o, w.frozen? ⟨wp, o, none⟩ = false
  own : w.ownsRow base 5 1 tv T.size (strCells T)
  mb : base ≤ wp
  lt : wp < w.heap.size
  nm : ∀ g, tv.ownBlock = some g → g ≠ wp
theorem owns_block {w : World} {base n : Nat} {tv : Value} {e : TypeId} {sz : Nat} {xs : List Value} (h : w.ownsRow base e sz tv n xs) {g : Nat} (hg : tv.ownBlock = some g) : base ≤ g ∧ g < w.heap.size := by
  rcases h.2 with ⟨rfl, _⟩ | ⟨g1, c1, cur, rfl, hb, hh, _⟩
  · cases hg
  · have : g1 = g := by simpa [Value.ownBlock] using hg
    subst this
    exact ⟨hb, (Array.getElem?_eq_some_iff.1 hh).1⟩
theorem WT.no {w w' : World} {wp base : Nat} {tv : Value} {T : ByteArray} (h : WT w wp base tv T) (hf : Fr NoB w w') : WT w' wp base tv T :=
  ⟨hf.cell_some h.ct id, fun o => (hf.frozen (p := ⟨wp, o, none⟩) h.lt id).trans (h.fz o), hf.owns h.own (fun _ _ => id), h.mb, Nat.lt_of_lt_of_le h.lt hf.size, h.nm⟩
/-- the text grows -/
theorem WT.app {w w' : World} {wp base : Nat} {tv tv' : Value} {T X : ByteArray} {m : Nat} (h : WT w wp base tv T) (hk : AppKind w w' tv tv' T.size m) (ho : w'.ownsRow base 5 1 tv' (T.size + m) (strCells T ++ strCells X)) (hm : X.size = m) :
    WT (w'.setCell ⟨wp, 0, none⟩ tv') wp base tv' (T ++ X) ∧ Fr (WS base) w (w'.setCell ⟨wp, 0, none⟩ tv') := by
  have hF := hk.fr
  have hm1 : ¬ tv.ownBlock = some wp := fun e => h.nm _ e rfl
  have hpl : ∀ g, tv'.ownBlock = some g → g ≠ wp := fun g hg => by
    obtain ⟨g0, cap, hv, hp⟩ := hk.place
    rw [hv] at hg
    have : g0 = g := by simpa [Value.ownBlock] using hg
    subst this
    rcases hp with rfl | hp
    · have := h.lt
      omega
    · exact h.nm _ hp
  have hF2 : Fr (OneB wp) w' (w'.setCell ⟨wp, 0, none⟩ tv') := (Fr.refl (OneB wp) w').setCell (p := ⟨wp, 0, none⟩) (fun _ => rfl) _
  have hl2 : wp < w'.heap.size := Nat.lt_of_lt_of_le h.lt hF.size
  refine ⟨⟨cell_same (hF.cell_some h.ct hm1), fun o => ?_, ?_, h.mb, Nat.lt_of_lt_of_le hl2 hF2.size, hpl⟩, ?_⟩
  · rw [World.frozen?_setCell]
    exact (hF.frozen (p := ⟨wp, o, none⟩) h.lt hm1).trans (h.fz o)
  · have := hF2.owns ho (fun g hg e => hpl g hg (by unfold OneB at e; exact e))
    rw [str_app, ByteArray.size_append, hm]
    exact this
  · refine (hF.mono (fun k _ e => ?_)).trans (hF2.mono (fun k _ e => ?_))
    · exact (owns_block h.own e).1
    · unfold OneB at e
      unfold WS
      rw [e]
      exact h.mb
theorem Tryd.infoU8b : (Tryd.prog.info? 5).map (fun i => (i.zero, i.size, i.bytes)) = some (some (.int .u8 0), 1, 1) := by kernel_rfl
/-- a written text, as a text -/
theorem conv_wt {w : World} {base : Nat} {tv : Value} {T : ByteArray} (h : w.ownsRow base 5 1 tv T.size (strCells T)) : (convert 33 9 tv).run Tryd.prog w = .ok (.string T) w := by
  rcases h.2 with ⟨rfl, h0⟩ | ⟨g, cap, cur, rfl, hg, _⟩
  · have e : T = ⟨#[]⟩ := by
      apply ByteArray.ext
      exact Array.eq_empty_of_size_eq_zero h0
    subst e
    rw [run_convert_bytes_string w _ _ 5 none 0 0 Tryd.underlying33 Tryd.underlying5 Tryd.underlying9]
    simp [Conv.bytesToString]
    rfl
  · have hc := h.cells (g := g) rfl
    have := run_convert_bytes_back (P := Tryd.prog) w 33 9 5 ⟨g, 0, none⟩ cap T.data.toList Tryd.underlying33 Tryd.underlying5 Tryd.underlying9 (fun j hj => by
      exact hc j _ (by unfold strCells; rw [List.getElem?_map, List.getElem?_eq_getElem hj]; rfl))
    rw [Array.length_toList, Array.toArray_toList] at this
    exact this
set_option maxRecDepth 8000 in
set_option maxHeartbeats 2000000 in
theorem wends_fn (w : World) (wp base : Nat) (tv : Value) (T : ByteArray) (f : Nat → Bool) (h : WT w wp base tv T) (hT : T.size ≤ 90000) :
    Calls Tryd.prog 19 #[.pointer (some ⟨wp, 0, none⟩), .int .u32 (msk f : Int)] w fun e w' => e = .returned (.tuple #[]) ∧ (∃ tv', WT w' wp base tv' (T ++ endB f)) ∧ Fr (WS base) w w' := by
  obtain ⟨i0, hi0, hz0, hz1, hz2⟩ := info_parts Tryd.infoU8b
  have HW : Hid _ := h
  clear h
  have HE : Hid (endB f = drsB (minT f noF 26)) := rfl
  generalize endB f = Z at *
  go_enter Tryd.func19, Tryd.ntmps19
  go_wp2
  go_loopg [4] 26 (fun q t wr => ∃ (i : Nat) (tv' : Value), q + i = 26 ∧ t = .int .i64 i ∧ WT wr wp base tv' (T ++ drsB (minT f noF i)) ∧ Fr (WS base) w wr)
  case atStart => exact ⟨0, tv, rfl, rfl, by rw [show T ++ drsB (minT f noF 0) = T from ByteArray.append_empty]; exact HW.out, Fr.refl _ _⟩
  case round =>
    obtain ⟨i, tv', hi, rfl, hW, hF⟩ := hrel
    have HF : Hid _ := hF
    have HW2 : Hid _ := hW
    have hsz := drsT_size f noF i
    clear hW hF HW
    by_cases hlt : i < 26
    · have HH : Hid _ := fun X => has_fn X f i hlt
      have HY : Hid ((f i && !noF i) = true → drsB (minT f noF (i + 1)) = drsB (minT f noF i) ++ drB i) := fun h => by rw [minT_yes h, drsB_snoc]
      have HN : Hid ((f i && !noF i) = false → drsB (minT f noF (i + 1)) = drsB (minT f noF i)) := fun h => by rw [minT_no h]
      cases hfi : f i
      · rw [hfi] at HH HN
        go_wp2_with (go_at_call 26; refine (HH.out _).mono ?_; rintro e w2 ⟨rfl, hw⟩; have hw2 := hw.symm; clear hw; subst hw2)
        go_roundg (25 - i)
        case measure => omega
        case rel => exact ⟨i + 1, tv', by omega, by go_num, by rw [HN.out rfl]; exact HW2.out, HF.out⟩
      · rw [hfi] at HH HY
        have Hd : Hid _ := str_drop hlt
        have ct := HW2.out.ct
        have fz := HW2.out.fz 0
        have hl := HW2.out.lt
        have hmb := HW2.out.mb
        have hown := HW2.out.own
        generalize hD : T ++ drsB (minT f noF i) = D at *
        have hDs : D.size ≤ 90078 := by rw [← hD, ByteArray.size_append]; omega
        have HD : Hid _ := hD
        clear hD hfi
        go_wp2_with (first | (go_at_call 26; refine (HH.out _).mono ?_; rintro e w2 ⟨rfl, hw⟩; have hw2 := hw.symm; clear hw; subst hw2) | (at_builtin; refine wpList_append_kind _ rfl _ _ 33 rfl base 5 i0 (.int .u8 0) 1 1 Tryd.underlying33 hi0 hz0 hz1 hz2 rfl (by decide) _ _ _ rfl (hown.alloc _) ⟨wr.heap.size, 0, none⟩ 3 3 [.int .u8 126, .int .u8 ((65 : Int) + i), .int .u8 59] (by decide) rfl rfl ?c1 ?c2 ?c3 ?c4 ?c5 ?_))
        case c1 =>
          intro j u hj
          match j, hj with
          | 0, hj => simp at hj; subst hj; simp [Addr.add]
          | 1, hj => simp at hj; subst hj; simp [Addr.add]
          | 2, hj => simp at hj; subst hj; simp [Addr.add]
        case c2 => intro u hu; simp at hu; rcases hu with rfl | rfl | rfl <;> rfl
        case c3 => unfold maxLen; omega
        case c4 => omega
        case c5 => simp; omega
        intro v5 w5 hown5 hk5
        have hfa : Fr NoB wr (wr.alloc (Obj.cells #[.int .u8 126, .int .u8 ((65 : Int) + i), .int .u8 59] 5)) := (Fr.refl _ _).alloc _
        have hWa := HW2.out.no hfa
        obtain ⟨hW6, hF6⟩ := hWa.app (X := drB i) hk5 (by rw [Hd.out]; exact hown5) rfl
        have hfr := hk5.fr
        have cw5 := hfr.cell_some hWa.ct (fun e => hWa.nm _ e rfl)
        have fw5 := (hfr.frozen (p := ⟨wp, 0, none⟩) hWa.lt (fun e => hWa.nm _ e rfl)).trans (hWa.fz 0)
        have H6 : Hid _ := And.intro hW6 ((HF.out.trans (hfa.mono (fun k _ e => e.elim))).trans hF6)
        obtain ⟨g5, c5, hve, _⟩ := hk5.place
        clear hown5 hk5 hfr hW6 hF6 hWa
        subst hve
        go_wp2
        go_roundg (25 - i)
        case measure => omega
        case rel => exact ⟨i + 1, _, by omega, by go_num, by rw [HY.out rfl, ← ByteArray.append_assoc, HD.out]; exact H6.out.1, H6.out.2⟩
    · have hie : i = 26 := by omega
      subst hie
      go_wp2
      go_end0
      exact ⟨rfl, ⟨tv', by rw [HE.out]; exact HW2.out⟩, HF.out⟩
end Go.Proofs.YthcjcjfgdgnljabDoor
