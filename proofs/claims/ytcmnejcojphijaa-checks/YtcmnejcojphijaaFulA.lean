/-
  Which boxes are full, as plain functions of the text. (No walk here.)
-/
import Derived.Test.YtcmnejcojphijaaSynY
namespace Go.Proofs.Ytcmnejcojphijaa
open Go.RowKit
set_option linter.unusedVariables false

/-- the first place from i on of which p holds -/
def seek (p : Nat → Bool) : Nat → Nat → Nat
  | 0, i => i
  | n + 1, i => if p i then i else seek p n (i + 1)
theorem seek_eq {p : Nat → Bool} {j : Nat} (hj : p j = true) : ∀ {n i : Nat}, i ≤ j → j ≤ i + n → (∀ k, i ≤ k → k < j → p k = false) → seek p n i = j
  | 0, i, h1, h2, _ => by show i = j; omega
  | n + 1, i, h1, h2, h => by
    by_cases e : i = j
    · subst e; show (if p i then i else _) = i; rw [hj]; rfl
    · show (if p i then i else seek p n (i + 1)) = j
      rw [h i (Nat.le_refl _) (by omega)]
      exact seek_eq hj (by omega) (by omega) (fun k a b => h k (by omega) b)

def bopN (s : ByteArray) (i : Nat) : Nat := if smallN (bt s i) then i + 1 else seek (fun k => !digitN (bt s k)) s.size i
def bbrN (s : ByteArray) (i : Nat) : Nat := seek (fun k => cum s k == cum s i) s.size (i + 1)
def semN (s : ByteArray) (i : Nat) : Nat := seek (fun k => bt s k == 59) s.size i + 1
/-- the place behind the sentence at i -/
def behN (s : ByteArray) (i : Nat) : Nat :=
  if bt s i = 63 then bbrN s (bbrN s (bopN s (i + 1))) else if bt s i = 64 then bbrN s (bopN s (i + 1)) else semN s i

theorem bopN_eq {s : ByteArray} {i j : Nat} (h : Opnd s i j) (hj : j < s.size) (hd : digitN (bt s j) = false) : bopN s i = j := by
  unfold bopN
  rcases h with ⟨h, rfl⟩ | ⟨h1, _, h2⟩
  · rw [h]; rfl
  · rw [(digit_in (h2 i (Nat.le_refl _) h1)).2.2.2.1]
    exact seek_eq (by simp [hd]) (Nat.le_of_lt h1) (by omega) (fun k a b => by simp [h2 k a b])
theorem bbrN_eq {s : ByteArray} {q b : Nat} (h1 : bt s q = 123) (h : Nn s (q + 1) b) (h2 : bt s b = 125) : bbrN s q = b + 1 := by
  have g := brace h1 h h2
  have := byte_in h2 (by decide)
  have := h.le
  unfold bbrN
  exact seek_eq (by simp [g.1]) (by omega) (by omega) (fun k a c => by simpa using g.2 k (by omega) c)
theorem semN_eq {s : ByteArray} {i j : Nat} (h : Simple s i j) : semN s i = j := by
  obtain ⟨h1, h2, h3, h4⟩ := h.line
  unfold semN
  rw [seek_eq (p := fun k => bt s k == 59) (j := j - 1) (by simp [h3]) (by omega) (by omega) (fun k a b => by simpa using (h4 k a b).1)]
  omega
section
variable {s : ByteArray} {i a b c : Nat}
theorem IfAt.p1 (h : IfAt s i a b c) : bopN s (i + 1) = a := by
  have := h.bnd
  exact bopN_eq h.o (by omega) (nodigit h.ha (.inl rfl))
theorem IfAt.p2 (h : IfAt s i a b c) : bbrN s a = b + 1 := bbrN_eq h.ha h.n1 h.hb
theorem IfAt.p3 (h : IfAt s i a b c) : bbrN s (b + 1) = c + 1 := bbrN_eq h.hb1 h.n2 h.hc
theorem LoopAt.p1 (h : LoopAt s i a b) : bopN s (i + 1) = a := by
  have := h.bnd
  exact bopN_eq h.o (by omega) (nodigit h.ha (.inl rfl))
theorem LoopAt.p2 (h : LoopAt s i a b) : bbrN s a = b + 1 := bbrN_eq h.ha h.n1 h.hb
theorem IfAt.beh (h : IfAt s i a b c) : behN s i = c + 1 := by
  unfold behN
  rw [if_pos h.q, h.p1, h.p2, h.p3]
theorem LoopAt.beh (h : LoopAt s i a b) : behN s i = b + 1 := by
  unfold behN
  rw [if_neg (by rw [h.q]; decide), if_pos h.q, h.p1, h.p2]
theorem Simple.beh {j : Nat} (h : Simple s i j) : behN s i = j := by
  unfold behN
  rw [if_neg h.first.1, if_neg h.first.2, semN_eq h]
end

/-- what is full behind a sentence without braces -/
def simF (s : ByteArray) (i : Nat) (f : Nat → Bool) : Nat → Bool :=
  if bt s i = 126 then updB f (bt s (i + 1) - 65) false
  else if greatN (bt s i) = true ∧ bt s (i + 1) = 61 ∧ bt s (i + 2) = 91 then updB f (bt s i - 65) true
  else if greatN (bt s i) = true ∧ bt s (i + 1) = 61 ∧ bt s (i + 2) ≠ bt s i then updB (updB f (bt s i - 65) (f (bt s (i + 2) - 65))) (bt s (i + 2) - 65) false
  else f
/-- made smaller, n times -/
def iterF (T : (Nat → Bool) → Nat → Bool) : Nat → (Nat → Bool) → Nat → Bool
  | 0, f => f
  | n + 1, f => iterF T n (bothF f (T f))
def afterF (al : Nat → Nat → (Nat → Bool) → Nat → Bool) (s : ByteArray) (i : Nat) (f : Nat → Bool) : Nat → Bool :=
  if bt s i = 63 then bothF (al (bopN s (i + 1) + 1) (bbrN s (bopN s (i + 1)) - 1) f) (al (bbrN s (bopN s (i + 1)) + 1) (bbrN s (bbrN s (bopN s (i + 1))) - 1) f)
  else if bt s i = 64 then iterF (al (bopN s (i + 1) + 1) (bbrN s (bopN s (i + 1)) - 1)) 27 f
  else simF s i f
/-- what is full behind the sentences from i up to j -/
def alongF (s : ByteArray) : Nat → Nat → Nat → (Nat → Bool) → Nat → Bool
  | 0, _, _, f => f
  | F + 1, i, j, f => if i < j then alongF s F (behN s i) j (afterF (alongF s F) s i f) else f

theorem afterF_if {al : Nat → Nat → (Nat → Bool) → Nat → Bool} {s : ByteArray} {i a b c : Nat} (h : IfAt s i a b c) (f : Nat → Bool) : afterF al s i f = bothF (al (a + 1) b f) (al (b + 2) c f) := by
  unfold afterF
  rw [if_pos h.q, h.p1, h.p2, h.p3]
  rfl
theorem afterF_loop {al : Nat → Nat → (Nat → Bool) → Nat → Bool} {s : ByteArray} {i a b : Nat} (h : LoopAt s i a b) (f : Nat → Bool) : afterF al s i f = iterF (al (a + 1) b) 27 f := by
  unfold afterF
  rw [if_neg (by rw [h.q]; decide), if_pos h.q, h.p1, h.p2]
  rfl
theorem afterF_simple {al : Nat → Nat → (Nat → Bool) → Nat → Bool} {s : ByteArray} {i j : Nat} (h : Simple s i j) (f : Nat → Bool) : afterF al s i f = simF s i f := by
  unfold afterF
  rw [if_neg h.first.1, if_neg h.first.2]

/-- no box is none of the 26 -/
def Clean (f : Nat → Bool) : Prop := ∀ i, 26 ≤ i → f i = false
theorem clean_none : Clean (fun _ => false) := fun _ _ => rfl
theorem Clean.both {f g : Nat → Bool} (h : Clean f) : Clean (bothF f g) := fun i hi => by unfold bothF; rw [h i hi]; rfl
theorem Clean.upd {f : Nat → Bool} (h : Clean f) {k : Nat} (hk : k < 26) (v : Bool) : Clean (updB f k v) := fun i hi => by unfold updB; rw [if_neg (by omega)]; exact h i hi
theorem Clean.off {f : Nat → Bool} (h : Clean f) (k : Nat) : Clean (updB f k false) := fun i hi => by
  unfold updB
  split
  · rfl
  · exact h i hi
theorem box_lt {c : Nat} (h : greatN c = true) : c - 65 < 26 := by simp [greatN] at h; omega
theorem Clean.sim {s : ByteArray} {i : Nat} {f : Nat → Bool} (h : Clean f) : Clean (simF s i f) := by
  unfold simF
  split
  · exact h.off _
  · split
    · rename_i hg
      exact h.upd (box_lt hg.1) _
    · split
      · rename_i hg
        exact (h.upd (box_lt hg.1) _).off _
      · exact h
theorem Clean.iter {T : (Nat → Bool) → Nat → Bool} : ∀ {n : Nat} {f : Nat → Bool}, Clean f → Clean (iterF T n f)
  | 0, _, h => h
  | n + 1, _, h => Clean.iter (n := n) h.both
theorem Clean.after {al : Nat → Nat → (Nat → Bool) → Nat → Bool} (hal : ∀ i j f, Clean f → Clean (al i j f)) {s : ByteArray} {i : Nat} {f : Nat → Bool} (h : Clean f) : Clean (afterF al s i f) := by
  unfold afterF
  split
  · exact (hal _ _ _ h).both
  · split
    · exact h.iter
    · exact h.sim
theorem Clean.along {s : ByteArray} : ∀ {F i j : Nat} {f : Nat → Bool}, Clean f → Clean (alongF s F i j f)
  | 0, _, _, _, h => h
  | F + 1, i, j, f, h => by
    show Clean (if i < j then alongF s F (behN s i) j (afterF (alongF s F) s i f) else f)
    split
    · exact Clean.along (F := F) (Clean.after (fun a b g hg => Clean.along hg) h)
    · exact h

/-- how many of the first n boxes are in it -/
def card (f : Nat → Bool) : Nat → Nat
  | 0 => 0
  | n + 1 => card f n + (if f n then 1 else 0)
theorem card_le (f : Nat → Bool) : ∀ n, card f n ≤ n
  | 0 => Nat.le_refl _
  | n + 1 => by
    have := card_le f n
    show card f n + (if f n then 1 else 0) ≤ n + 1
    split <;> omega
theorem card_mono {f g : Nat → Bool} : ∀ {n : Nat}, (∀ i, i < n → f i = true → g i = true) → card f n ≤ card g n
  | 0, _ => Nat.le_refl _
  | n + 1, h => by
    have h1 := card_mono (n := n) (fun i hi => h i (by omega))
    show card f n + (if f n then 1 else 0) ≤ card g n + (if g n then 1 else 0)
    cases hf : f n
    · simp; omega
    · rw [h n (by omega) hf]; simp; omega
theorem card_lt {f g : Nat → Bool} : ∀ {n : Nat}, (∀ i, i < n → f i = true → g i = true) → (∃ i, i < n ∧ f i = false ∧ g i = true) → card f n < card g n
  | 0, _, h => by obtain ⟨i, hi, _⟩ := h; omega
  | n + 1, h, ⟨i, hi, h1, h2⟩ => by
    show card f n + (if f n then 1 else 0) < card g n + (if g n then 1 else 0)
    by_cases e : i = n
    · subst e
      have := card_mono (n := i) (fun k hk => h k (by omega))
      rw [h1, h2]; simp; omega
    · have := card_lt (n := n) (fun k hk => h k (by omega)) ⟨i, by omega, h1, h2⟩
      cases hf : f n
      · simp; omega
      · rw [h n (by omega) hf]; simp; omega
theorem card_both {f g : Nat → Bool} (h : ¬ subF f g) : card (bothF f g) 26 < card f 26 := by
  refine card_lt (fun i _ e => ?_) ?_
  · unfold bothF at e; simp at e; exact e.1
  · apply Classical.byContradiction
    intro hn
    apply h
    intro i hi hf
    apply Classical.byContradiction
    intro hg
    exact hn ⟨i, hi, by unfold bothF; simp [hg], hf⟩
theorem both_eq {f g : Nat → Bool} (hc : Clean f) (h : subF f g) : bothF f g = f := by
  funext i
  unfold bothF
  by_cases hi : i < 26
  · cases hf : f i
    · rfl
    · rw [h i hi hf]; rfl
  · rw [hc i (by omega)]; rfl
theorem iterF_stop {T : (Nat → Bool) → Nat → Bool} {f : Nat → Bool} (h : bothF f (T f) = f) : ∀ n, iterF T n f = f
  | 0 => rfl
  | n + 1 => by show iterF T n (bothF f (T f)) = f; rw [h]; exact iterF_stop h n
theorem iterF_add (T : (Nat → Bool) → Nat → Bool) : ∀ (m n : Nat) (f : Nat → Bool), iterF T (m + n) f = iterF T n (iterF T m f)
  | 0, n, f => by rw [Nat.zero_add]; rfl
  | m + 1, n, f => by
    rw [show m + 1 + n = (m + n) + 1 by omega]
    exact iterF_add T m n (bothF f (T f))
end Go.Proofs.Ytcmnejcojphijaa
