/-
  SynW, SynX, SynY, FulA, FulD, FulE, FulF, FulG, RunP: one behind the other.
-/
import Derived.Test.YtcmnejcojphijaaDoorP02SynO
import Derived.Laws.Rows
import Derived.Laws.Tables
namespace Go.Proofs.YtcmnejcojphijaaDoor
open Go.RowKit
set_option linter.unusedVariables false

theorem retI {k : IntKind} {a b : Int} (h : a = b) : Ending.returned (.int k a) = .returned (.int k b) := by rw [h]
def br (c : Nat) : Int := if c = 123 then 1 else if c = 125 then -1 else 0
/-- how many braces are open ahead of place k -/
def cum (s : ByteArray) : Nat → Int
  | 0 => 0
  | k + 1 => cum s k + br (bt s k)
/-- from a to b as many braces close as open, and none that was open at a -/
structure Nn (s : ByteArray) (a b : Nat) : Prop where
  le : a ≤ b
  eq : cum s b = cum s a
  ge : ∀ k, a ≤ k → k ≤ b → cum s a ≤ cum s k
theorem Nn.refl (s : ByteArray) (a : Nat) : Nn s a a := ⟨Nat.le_refl _, rfl, fun k h1 h2 => by rw [show k = a by omega]; omega⟩
theorem Nn.app {s : ByteArray} {a b c : Nat} (h : Nn s a b) (g : Nn s b c) : Nn s a c :=
  ⟨Nat.le_trans h.le g.le, g.eq.trans h.eq, fun k h1 h2 => by
    by_cases e : k ≤ b
    · exact h.ge k h1 e
    · rw [← h.eq]; exact g.ge k (by omega) h2⟩
theorem Nn.one {s : ByteArray} {a : Nat} (h1 : bt s a ≠ 123) (h2 : bt s a ≠ 125) : Nn s a (a + 1) := by
  have e : cum s (a + 1) = cum s a := by
    show cum s a + br (bt s a) = _
    unfold br
    rw [if_neg h1, if_neg h2]
    omega
  refine ⟨by omega, e, fun k g1 g2 => ?_⟩
  by_cases q : k = a
  · rw [q]; omega
  · rw [show k = a + 1 by omega, e]; omega
theorem Nn.span {s : ByteArray} {a : Nat} : ∀ {n : Nat}, (∀ k, a ≤ k → k < a + n → bt s k ≠ 123 ∧ bt s k ≠ 125) → Nn s a (a + n)
  | 0, _ => Nn.refl s a
  | n + 1, h => (Nn.span (n := n) (fun k h1 h2 => h k h1 (by omega))).app (Nn.one (h (a + n) (by omega) (by omega)).1 (h (a + n) (by omega) (by omega)).2)
theorem Nn.plain {s : ByteArray} {a b : Nat} (hab : a ≤ b) (h : ∀ k, a ≤ k → k < b → bt s k ≠ 123 ∧ bt s k ≠ 125) : Nn s a b := by
  have := Nn.span (s := s) (a := a) (n := b - a) (fun k h1 h2 => h k h1 (by omega))
  rwa [show a + (b - a) = b by omega] at this
theorem cum_open {s : ByteArray} {q : Nat} (h : bt s q = 123) : cum s (q + 1) = cum s q + 1 := by
  show cum s q + br (bt s q) = _
  rw [h]; rfl
theorem cum_close {s : ByteArray} {q : Nat} (h : bt s q = 125) : cum s (q + 1) = cum s q - 1 := by
  show cum s q + br (bt s q) = _
  rw [h]; rfl
/-- what stands in braces: the first place at which as many are open as ahead of it is the one behind it -/
theorem brace {s : ByteArray} {q b : Nat} (h1 : bt s q = 123) (h : Nn s (q + 1) b) (h2 : bt s b = 125) : cum s (b + 1) = cum s q ∧ ∀ k, q < k → k < b + 1 → cum s k ≠ cum s q := by
  have e1 := cum_open h1
  have e2 := cum_close h2
  have e3 := h.eq
  refine ⟨by omega, fun k g1 g2 => ?_⟩
  have := h.ge k (by omega) (by omega)
  omega
theorem Nn.brace {s : ByteArray} {q b : Nat} (h1 : bt s q = 123) (h : Nn s (q + 1) b) (h2 : bt s b = 125) : Nn s q (b + 1) := by
  have e1 := cum_open h1
  have e2 := cum_close h2
  have e3 := h.eq
  have := h.le
  refine ⟨by omega, by omega, fun k g1 g2 => ?_⟩
  by_cases e : k = q
  · rw [e]; omega
  · by_cases e' : k = b + 1
    · rw [e']; omega
    · have := h.ge k (by omega) (by omega)
      omega
theorem Opnd.nn {s : ByteArray} {i j : Nat} (h : Opnd s i j) : Nn s i j := Nn.plain (Nat.le_of_lt h.lt) (fun k h1 h2 => (h.span k h1 h2).2)
theorem Simple.nn {s : ByteArray} {i j : Nat} (h : Simple s i j) : Nn s i j := by
  obtain ⟨h1, _, h2, h3⟩ := h.line
  refine Nn.plain (Nat.le_of_lt h1) (fun k g1 g2 => ?_)
  by_cases e : k = j - 1
  · rw [e, h2]; omega
  · exact (h3 k g1 (by omega)).2
theorem nn_of {s : ByteArray} {i x : Nat} (h : bt s i = x) (h1 : x ≠ 123) (h2 : x ≠ 125) : Nn s i (i + 1) := Nn.one (by rw [h]; exact h1) (by rw [h]; exact h2)
theorem Prog.nn {s : ByteArray} : ∀ {F i j : Nat}, Prog s F i j → Nn s i j
  | 0, i, j, h => by have e : i = j := h; subst e; exact Nn.refl s i
  | F + 1, i, j, h => by
    rcases h with h | ⟨m, h1, h2⟩
    · subst h; exact Nn.refl s i
    · refine Nn.app ?_ h2.nn
      rcases h1 with h | ⟨e, a, b, c, ho, ha, hp, hb, hb1, hq, hc, rfl⟩ | ⟨e, a, b, ho, ha, hp, hb, rfl⟩
      · exact h.nn
      · exact (((nn_of e (by decide) (by decide)).app ho.nn).app (Nn.brace ha hp.nn hb)).app (Nn.brace hb1 hq.nn hc)
      · exact ((nn_of e (by decide) (by decide)).app ho.nn).app (Nn.brace ha hp.nn hb)

end Go.Proofs.YtcmnejcojphijaaDoor

namespace Go.Proofs.YtcmnejcojphijaaDoor
open Go.RowKit
set_option linter.unusedVariables false

structure IfAt (s : ByteArray) (i a b c : Nat) : Prop where
  q : bt s i = 63
  o : Opnd s (i + 1) a
  ha : bt s a = 123
  n1 : Nn s (a + 1) b
  hb : bt s b = 125
  hb1 : bt s (b + 1) = 123
  n2 : Nn s (b + 2) c
  hc : bt s c = 125
structure LoopAt (s : ByteArray) (i a b : Nat) : Prop where
  q : bt s i = 64
  o : Opnd s (i + 1) a
  ha : bt s a = 123
  n1 : Nn s (a + 1) b
  hb : bt s b = 125
theorem nodigit {s : ByteArray} {j x : Nat} (h : bt s j = x) (hx : x = 123 ∨ x = 59 ∨ x = 93) : digitN (bt s j) = false := by
  rw [h]; rcases hx with rfl | rfl | rfl <;> rfl

section
variable {s : ByteArray} {i a b c : Nat}
theorem IfAt.bnd (h : IfAt s i a b c) : i + 1 < a ∧ a < b ∧ b + 1 < c ∧ c < s.size := by
  have := h.o.lt; have := h.n1.le; have := h.n2.le; have := byte_in h.hc (by decide); omega
theorem LoopAt.bnd (h : LoopAt s i a b) : i + 1 < a ∧ a < b ∧ b < s.size := by
  have := h.o.lt; have := h.n1.le; have := byte_in h.hb (by decide); omega
end

theorem Simple.first {s : ByteArray} {i j : Nat} (h : Simple s i j) : bt s i ≠ 63 ∧ bt s i ≠ 64 := by
  have sm : smallN (bt s i) = true → bt s i ≠ 63 ∧ bt s i ≠ 64 := fun h => by simp [smallN] at h; omega
  have gr : greatN (bt s i) = true → bt s i ≠ 63 ∧ bt s i ≠ 64 := fun h => by simp [greatN] at h; omega
  rcases h with h | h | h | h | h | h | h | h | h
  · exact sm h.1
  · exact sm h.1
  · exact sm h.1
  · exact sm h.1
  · exact gr h.1
  · exact gr h.1
  · exact gr h.1
  · have := h.1; omega
  · have := h.1; omega

end Go.Proofs.YtcmnejcojphijaaDoor

namespace Go.Proofs.YtcmnejcojphijaaDoor
open Go.RowKit
set_option linter.unusedVariables false

def updB (f : Nat → Bool) (k : Nat) (v : Bool) : Nat → Bool := fun i => if i = k then v else f i
def bothF (f g : Nat → Bool) : Nat → Bool := fun i => f i && g i
/-- all of f is in g -/
def subF (f g : Nat → Bool) : Prop := ∀ i, i < 26 → f i = true → g i = true
def subFDec (f g : Nat → Bool) : Decidable (subF f g) := inferInstanceAs (Decidable (∀ i, i < 26 → f i = true → g i = true))
/-- the same, as an answer -/
def subD (f g : Nat → Bool) : Bool := @decide (subF f g) (subFDec f g)
theorem subD_true {f g : Nat → Bool} (h : subF f g) : subD f g = true := @decide_eq_true _ (subFDec f g) h
theorem subD_false {f g : Nat → Bool} (h : ¬ subF f g) : subD f g = false := @decide_eq_false _ (subFDec f g) h
theorem subD_of {f g : Nat → Bool} (h : subD f g = true) : subF f g := @of_decide_eq_true _ (subFDec f g) h
theorem subD_not {f g : Nat → Bool} (h : subD f g = false) : ¬ subF f g := @of_decide_eq_false _ (subFDec f g) h
end Go.Proofs.YtcmnejcojphijaaDoor

namespace Go.Proofs.YtcmnejcojphijaaDoor
open Go.RowKit
set_option linter.unusedVariables false

/-- the first place from i on of which p holds -/
def seek (p : Nat → Bool) : Nat → Nat → Nat
  | 0, i => i
  | n + 1, i => if p i then i else seek p n (i + 1)
theorem seek_eq {p : Nat → Bool} {j : Nat} (hj : p j = true) : ∀ {n i : Nat}, i ≤ j → j ≤ i + n → (∀ k, i ≤ k → k < j → p k = false) → seek p n i = j
  | 0, i, h1, h2, _ => by show i = j; omega
  | n + 1, i, h1, h2, h => by
    by_cases e : i = j
    · subst e; show (if p i then i else _) = i; rw [hj]; rfl
    · show (if p i then i else seek p n (i + 1)) = j
      rw [h i (Nat.le_refl _) (by omega)]
      exact seek_eq hj (by omega) (by omega) (fun k a b => h k (by omega) b)

def bopN (s : ByteArray) (i : Nat) : Nat := if smallN (bt s i) then i + 1 else seek (fun k => !digitN (bt s k)) s.size i
def bbrN (s : ByteArray) (i : Nat) : Nat := seek (fun k => cum s k == cum s i) s.size (i + 1)
def semN (s : ByteArray) (i : Nat) : Nat := seek (fun k => bt s k == 59) s.size i + 1
/-- the place behind the sentence at i -/
def behN (s : ByteArray) (i : Nat) : Nat :=
  if bt s i = 63 then bbrN s (bbrN s (bopN s (i + 1))) else if bt s i = 64 then bbrN s (bopN s (i + 1)) else semN s i

theorem bopN_eq {s : ByteArray} {i j : Nat} (h : Opnd s i j) (hj : j < s.size) (hd : digitN (bt s j) = false) : bopN s i = j := by
  unfold bopN
  rcases h with ⟨h, rfl⟩ | ⟨h1, _, h2⟩
  · rw [h]; rfl
  · rw [(digit_in (h2 i (Nat.le_refl _) h1)).2.2.2.1]
    exact seek_eq (by simp [hd]) (Nat.le_of_lt h1) (by omega) (fun k a b => by simp [h2 k a b])
theorem bbrN_eq {s : ByteArray} {q b : Nat} (h1 : bt s q = 123) (h : Nn s (q + 1) b) (h2 : bt s b = 125) : bbrN s q = b + 1 := by
  have g := brace h1 h h2
  have := byte_in h2 (by decide)
  have := h.le
  unfold bbrN
  exact seek_eq (by simp [g.1]) (by omega) (by omega) (fun k a c => by simpa using g.2 k (by omega) c)
theorem semN_eq {s : ByteArray} {i j : Nat} (h : Simple s i j) : semN s i = j := by
  obtain ⟨h1, h2, h3, h4⟩ := h.line
  unfold semN
  rw [seek_eq (p := fun k => bt s k == 59) (j := j - 1) (by simp [h3]) (by omega) (by omega) (fun k a b => by simpa using (h4 k a b).1)]
  omega
section
variable {s : ByteArray} {i a b c : Nat}
theorem IfAt.p1 (h : IfAt s i a b c) : bopN s (i + 1) = a := by
  have := h.bnd
  exact bopN_eq h.o (by omega) (nodigit h.ha (.inl rfl))
theorem IfAt.p2 (h : IfAt s i a b c) : bbrN s a = b + 1 := bbrN_eq h.ha h.n1 h.hb
theorem IfAt.p3 (h : IfAt s i a b c) : bbrN s (b + 1) = c + 1 := bbrN_eq h.hb1 h.n2 h.hc
theorem LoopAt.p1 (h : LoopAt s i a b) : bopN s (i + 1) = a := by
  have := h.bnd
  exact bopN_eq h.o (by omega) (nodigit h.ha (.inl rfl))
theorem LoopAt.p2 (h : LoopAt s i a b) : bbrN s a = b + 1 := bbrN_eq h.ha h.n1 h.hb
theorem IfAt.beh (h : IfAt s i a b c) : behN s i = c + 1 := by
  unfold behN
  rw [if_pos h.q, h.p1, h.p2, h.p3]
theorem LoopAt.beh (h : LoopAt s i a b) : behN s i = b + 1 := by
  unfold behN
  rw [if_neg (by rw [h.q]; decide), if_pos h.q, h.p1, h.p2]
theorem Simple.beh {j : Nat} (h : Simple s i j) : behN s i = j := by
  unfold behN
  rw [if_neg h.first.1, if_neg h.first.2, semN_eq h]
end

/-- what is full behind a sentence without braces -/
def simF (s : ByteArray) (i : Nat) (f : Nat → Bool) : Nat → Bool :=
  if bt s i = 126 then updB f (bt s (i + 1) - 65) false
  else if greatN (bt s i) = true ∧ bt s (i + 1) = 61 ∧ bt s (i + 2) = 91 then updB f (bt s i - 65) true
  else if greatN (bt s i) = true ∧ bt s (i + 1) = 61 ∧ bt s (i + 2) ≠ bt s i then updB (updB f (bt s i - 65) (f (bt s (i + 2) - 65))) (bt s (i + 2) - 65) false
  else f
/-- made smaller, n times -/
def iterF (T : (Nat → Bool) → Nat → Bool) : Nat → (Nat → Bool) → Nat → Bool
  | 0, f => f
  | n + 1, f => iterF T n (bothF f (T f))
def afterF (al : Nat → Nat → (Nat → Bool) → Nat → Bool) (s : ByteArray) (i : Nat) (f : Nat → Bool) : Nat → Bool :=
  if bt s i = 63 then bothF (al (bopN s (i + 1) + 1) (bbrN s (bopN s (i + 1)) - 1) f) (al (bbrN s (bopN s (i + 1)) + 1) (bbrN s (bbrN s (bopN s (i + 1))) - 1) f)
  else if bt s i = 64 then iterF (al (bopN s (i + 1) + 1) (bbrN s (bopN s (i + 1)) - 1)) 27 f
  else simF s i f
/-- what is full behind the sentences from i up to j -/
def alongF (s : ByteArray) : Nat → Nat → Nat → (Nat → Bool) → Nat → Bool
  | 0, _, _, f => f
  | F + 1, i, j, f => if i < j then alongF s F (behN s i) j (afterF (alongF s F) s i f) else f

theorem afterF_if {al : Nat → Nat → (Nat → Bool) → Nat → Bool} {s : ByteArray} {i a b c : Nat} (h : IfAt s i a b c) (f : Nat → Bool) : afterF al s i f = bothF (al (a + 1) b f) (al (b + 2) c f) := by
  unfold afterF
  rw [if_pos h.q, h.p1, h.p2, h.p3]
  rfl
theorem afterF_loop {al : Nat → Nat → (Nat → Bool) → Nat → Bool} {s : ByteArray} {i a b : Nat} (h : LoopAt s i a b) (f : Nat → Bool) : afterF al s i f = iterF (al (a + 1) b) 27 f := by
  unfold afterF
  rw [if_neg (by rw [h.q]; decide), if_pos h.q, h.p1, h.p2]
  rfl
theorem afterF_simple {al : Nat → Nat → (Nat → Bool) → Nat → Bool} {s : ByteArray} {i j : Nat} (h : Simple s i j) (f : Nat → Bool) : afterF al s i f = simF s i f := by
  unfold afterF
  rw [if_neg h.first.1, if_neg h.first.2]

/-- no box is none of the 26 -/
def Clean (f : Nat → Bool) : Prop := ∀ i, 26 ≤ i → f i = false
theorem clean_none : Clean (fun _ => false) := fun _ _ => rfl
theorem Clean.both {f g : Nat → Bool} (h : Clean f) : Clean (bothF f g) := fun i hi => by unfold bothF; rw [h i hi]; rfl
theorem Clean.upd {f : Nat → Bool} (h : Clean f) {k : Nat} (hk : k < 26) (v : Bool) : Clean (updB f k v) := fun i hi => by unfold updB; rw [if_neg (by omega)]; exact h i hi
theorem Clean.off {f : Nat → Bool} (h : Clean f) (k : Nat) : Clean (updB f k false) := fun i hi => by
  unfold updB
  split
  · rfl
  · exact h i hi
theorem box_lt {c : Nat} (h : greatN c = true) : c - 65 < 26 := by simp [greatN] at h; omega
theorem Clean.sim {s : ByteArray} {i : Nat} {f : Nat → Bool} (h : Clean f) : Clean (simF s i f) := by
  unfold simF
  split
  · exact h.off _
  · split
    · rename_i hg
      exact h.upd (box_lt hg.1) _
    · split
      · rename_i hg
        exact (h.upd (box_lt hg.1) _).off _
      · exact h
theorem Clean.iter {T : (Nat → Bool) → Nat → Bool} : ∀ {n : Nat} {f : Nat → Bool}, Clean f → Clean (iterF T n f)
  | 0, _, h => h
  | n + 1, _, h => Clean.iter (n := n) h.both
theorem Clean.after {al : Nat → Nat → (Nat → Bool) → Nat → Bool} (hal : ∀ i j f, Clean f → Clean (al i j f)) {s : ByteArray} {i : Nat} {f : Nat → Bool} (h : Clean f) : Clean (afterF al s i f) := by
  unfold afterF
  split
  · exact (hal _ _ _ h).both
  · split
    · exact h.iter
    · exact h.sim
theorem Clean.along {s : ByteArray} : ∀ {F i j : Nat} {f : Nat → Bool}, Clean f → Clean (alongF s F i j f)
  | 0, _, _, _, h => h
  | F + 1, i, j, f, h => by
    show Clean (if i < j then alongF s F (behN s i) j (afterF (alongF s F) s i f) else f)
    split
    · exact Clean.along (F := F) (Clean.after (fun a b g hg => Clean.along hg) h)
    · exact h

/-- how many of the first n boxes are in it -/
def card (f : Nat → Bool) : Nat → Nat
  | 0 => 0
  | n + 1 => card f n + (if f n then 1 else 0)
theorem card_le (f : Nat → Bool) : ∀ n, card f n ≤ n
  | 0 => Nat.le_refl _
  | n + 1 => by
    have := card_le f n
    show card f n + (if f n then 1 else 0) ≤ n + 1
    split <;> omega
theorem card_mono {f g : Nat → Bool} : ∀ {n : Nat}, (∀ i, i < n → f i = true → g i = true) → card f n ≤ card g n
  | 0, _ => Nat.le_refl _
  | n + 1, h => by
    have h1 := card_mono (n := n) (fun i hi => h i (by omega))
    show card f n + (if f n then 1 else 0) ≤ card g n + (if g n then 1 else 0)
    cases hf : f n
    · simp; omega
    · rw [h n (by omega) hf]; simp; omega
theorem card_lt {f g : Nat → Bool} : ∀ {n : Nat}, (∀ i, i < n → f i = true → g i = true) → (∃ i, i < n ∧ f i = false ∧ g i = true) → card f n < card g n
  | 0, _, h => by obtain ⟨i, hi, _⟩ := h; omega
  | n + 1, h, ⟨i, hi, h1, h2⟩ => by
    show card f n + (if f n then 1 else 0) < card g n + (if g n then 1 else 0)
    by_cases e : i = n
    · subst e
      have := card_mono (n := i) (fun k hk => h k (by omega))
      rw [h1, h2]; simp; omega
    · have := card_lt (n := n) (fun k hk => h k (by omega)) ⟨i, by omega, h1, h2⟩
      cases hf : f n
      · simp; omega
      · rw [h n (by omega) hf]; simp; omega
theorem card_both {f g : Nat → Bool} (h : ¬ subF f g) : card (bothF f g) 26 < card f 26 := by
  refine card_lt (fun i _ e => ?_) ?_
  · unfold bothF at e; simp at e; exact e.1
  · apply Classical.byContradiction
    intro hn
    apply h
    intro i hi hf
    apply Classical.byContradiction
    intro hg
    exact hn ⟨i, hi, by unfold bothF; simp [hg], hf⟩
theorem both_eq {f g : Nat → Bool} (hc : Clean f) (h : subF f g) : bothF f g = f := by
  funext i
  unfold bothF
  by_cases hi : i < 26
  · cases hf : f i
    · rfl
    · rw [h i hi hf]; rfl
  · rw [hc i (by omega)]; rfl
theorem iterF_stop {T : (Nat → Bool) → Nat → Bool} {f : Nat → Bool} (h : bothF f (T f) = f) : ∀ n, iterF T n f = f
  | 0 => rfl
  | n + 1 => by show iterF T n (bothF f (T f)) = f; rw [h]; exact iterF_stop h n
end Go.Proofs.YtcmnejcojphijaaDoor

namespace Go.Proofs.YtcmnejcojphijaaDoor
open Go.RowKit
set_option linter.unusedVariables false

theorem simF_other {s : ByteArray} {i : Nat} {f : Nat → Bool} (h1 : bt s i ≠ 126) (h2 : greatN (bt s i) = false ∨ bt s (i + 1) ≠ 61) : simF s i f = f := by
  unfold simF
  rw [if_neg h1]
  rcases h2 with h | h
  · rw [if_neg (by rw [h]; simp), if_neg (by rw [h]; simp)]
  · rw [if_neg (fun e => h e.2.1), if_neg (fun e => h e.2.1)]

theorem great_k {c : Nat} (h : greatN c = true) : c - 65 < 26 ∧ c = (c - 65) + 65 := by simp [greatN] at h; omega

theorem ifAt_of {s : ByteArray} {F i a b c : Nat} (e : bt s i = 63) (ho : Opnd s (i + 1) a) (ha : bt s a = 123) (hp : Prog s F (a + 1) b) (hb : bt s b = 125) (hb1 : bt s (b + 1) = 123) (hq : Prog s F (b + 2) c) (hc : bt s c = 125) : IfAt s i a b c :=
  ⟨e, ho, ha, hp.nn, hb, hb1, hq.nn, hc⟩
theorem loopAt_of {s : ByteArray} {F i a b : Nat} (e : bt s i = 64) (ho : Opnd s (i + 1) a) (ha : bt s a = 123) (hp : Prog s F (a + 1) b) (hb : bt s b = 125) : LoopAt s i a b :=
  ⟨e, ho, ha, hp.nn, hb⟩

theorem beh_of {s : ByteArray} {F i m : Nat} (h : StmtF (Prog s F) s i m) : behN s i = m := by
  rcases h with h | ⟨e, a, b, c, ho, ha, hp, hb, hb1, hq, hc', rfl⟩ | ⟨e, a, b, ho, ha, hp, hb, rfl⟩
  · exact h.beh
  · exact (ifAt_of e ho ha hp hb hb1 hq hc').beh
  · exact (loopAt_of e ho ha hp hb).beh
theorem alongF_end {s : ByteArray} {F i : Nat} (f : Nat → Bool) : alongF s F i i f = f := by
  cases F with
  | zero => rfl
  | succ F => show (if i < i then _ else f) = f; rw [if_neg (Nat.lt_irrefl _)]

end Go.Proofs.YtcmnejcojphijaaDoor

namespace Go.Proofs.YtcmnejcojphijaaDoor
open Go.RowKit
set_option linter.unusedVariables false

/-- the place of the letter of the box that the sentence at i uses; -1: it uses none -/
def useN (s : ByteArray) (i : Nat) : Int :=
  if bt s i = 126 then (i : Int) + 1
  else if greatN (bt s i) = true ∧ bt s (i + 1) = 91 then (i : Int)
  else if greatN (bt s i) = true ∧ greatN (bt s (i + 2)) = true then (i : Int) + 2
  else if smallN (bt s i) = true ∧ bt s (i + 2) = 35 then (i : Int) + 3
  else if smallN (bt s i) = true ∧ greatN (bt s (i + 2)) = true then (i : Int) + 2
  else -1

theorem Opnd.head {s : ByteArray} {i j : Nat} (h : Opnd s i j) : greatN (bt s i) = false ∧ bt s i ≠ 35 ∧ i < s.size := by
  rcases h with ⟨h, _⟩ | ⟨h1, _, h2⟩
  · have := small_in h
    exact ⟨this.2.2.2.2, fun e => by rw [e] at h; simp [smallN] at h, this.1⟩
  · have h3 := h2 i (Nat.le_refl _) h1
    have := digit_in h3
    exact ⟨this.2.2.2.2, fun e => by rw [e] at h3; simp [digitN] at h3, this.1⟩

end Go.Proofs.YtcmnejcojphijaaDoor

namespace Go.Proofs.YtcmnejcojphijaaDoor
open Go.RowKit
set_option linter.unusedVariables false

/-- the first such place of the sentence at i -/
def misP (s : ByteArray) (al : Nat → Nat → (Nat → Bool) → Nat → Bool) (mis : Nat → Nat → (Nat → Bool) → Int) (i : Nat) (f : Nat → Bool) : Int :=
  if bt s i = 63 then (if mis (bopN s (i + 1) + 1) (bbrN s (bopN s (i + 1)) - 1) f < 0 then mis (bbrN s (bopN s (i + 1)) + 1) (bbrN s (bbrN s (bopN s (i + 1))) - 1) f else mis (bopN s (i + 1) + 1) (bbrN s (bopN s (i + 1)) - 1) f)
  else if bt s i = 64 then mis (bopN s (i + 1) + 1) (bbrN s (bopN s (i + 1)) - 1) (iterF (al (bopN s (i + 1) + 1) (bbrN s (bopN s (i + 1)) - 1)) 27 f)
  else if 0 ≤ useN s i ∧ f (bt s (useN s i).toNat - 65) = false then useN s i else -1
def misN (s : ByteArray) : Nat → Nat → Nat → (Nat → Bool) → Int
  | 0, _, _, _ => -1
  | F + 1, i, j, f => if i < j then (if 0 ≤ misP s (alongF s F) (misN s F) i f then misP s (alongF s F) (misN s F) i f else misN s F (behN s i) j (afterF (alongF s F) s i f)) else -1
theorem misP_if {s : ByteArray} {al : Nat → Nat → (Nat → Bool) → Nat → Bool} {mis : Nat → Nat → (Nat → Bool) → Int} {i a b c : Nat} (h : IfAt s i a b c) (f : Nat → Bool) :
    misP s al mis i f = if mis (a + 1) b f < 0 then mis (b + 2) c f else mis (a + 1) b f := by
  unfold misP
  rw [if_pos h.q, h.p1, h.p2, h.p3]
  rfl
theorem misP_loop {s : ByteArray} {al : Nat → Nat → (Nat → Bool) → Nat → Bool} {mis : Nat → Nat → (Nat → Bool) → Int} {i a b : Nat} (h : LoopAt s i a b) (f : Nat → Bool) :
    misP s al mis i f = mis (a + 1) b (iterF (al (a + 1) b) 27 f) := by
  unfold misP
  rw [if_neg (by rw [h.q]; decide), if_pos h.q, h.p1, h.p2]
  rfl
theorem misP_simple {s : ByteArray} {al : Nat → Nat → (Nat → Bool) → Nat → Bool} {mis : Nat → Nat → (Nat → Bool) → Int} {i j : Nat} (h : Simple s i j) (f : Nat → Bool) :
    misP s al mis i f = if 0 ≤ useN s i ∧ f (bt s (useN s i).toNat - 65) = false then useN s i else -1 := by
  unfold misP
  rw [if_neg h.first.1, if_neg h.first.2]
theorem misN_step {s : ByteArray} {F i m j : Nat} (h : StmtF (Prog s F) s i m) (hij : i < j) (f : Nat → Bool) :
    misN s (F + 1) i j f = if 0 ≤ misP s (alongF s F) (misN s F) i f then misP s (alongF s F) (misN s F) i f else misN s F m j (afterF (alongF s F) s i f) := by
  show (if i < j then _ else _) = _
  rw [if_pos hij, beh_of h]
theorem misN_end {s : ByteArray} {F i : Nat} (f : Nat → Bool) : misN s F i i f = -1 := by
  cases F with
  | zero => rfl
  | succ F => show (if i < i then _ else (-1 : Int)) = -1; rw [if_neg (Nat.lt_irrefl _)]

end Go.Proofs.YtcmnejcojphijaaDoor

namespace Go.Proofs.YtcmnejcojphijaaDoor
open Go.RowKit
set_option linter.unusedVariables false

theorem runN_zero (s : ByteArray) : ∀ (m : Nat) (S : List (Nat × Bool)) (i : Nat) (d : Int), (runN s m S i d).1 = 0 → runN s m S i d = (0, 0)
  | 0, S, i, d, h => by
    unfold runN at h ⊢
    split at h
    · simp at h
    · rename_i hn
      rw [if_neg hn]
  | m + 1, S, i, d, h => by
    unfold runN at h ⊢
    split at h
    · simp at h
    · rename_i hn
      rw [if_neg hn]
      split at h
      · rename_i h1
        rw [if_pos h1]
        split at h
        · simp at h
        · rename_i h2
          rw [if_neg h2]
          exact runN_zero s m _ _ _ h
      · rename_i h1
        rw [if_neg h1]
        exact runN_zero s m _ _ _ h
theorem run_zero {s : ByteArray} {S : List (Nat × Bool)} {i : Nat} {d : Int} (h : (run s S i d).1 = 0) : run s S i d = (0, 0) := runN_zero s _ _ _ _ h

/-- the first place at which a box is used that is not full; -1: there is none -/
def misT (s : ByteArray) : Int := misN s (s.size + 1) 0 s.size (fun _ => false)
/-- P6 and P7, as a function of the text -/
def checkN (s : ByteArray) : Nat × Int :=
  if 400 < s.size then (1, 0)
  else if (run s [(83, true)] 0 0).1 ≠ 0 then ((run s [(83, true)] 0 0).1, ((run s [(83, true)] 0 0).2 : Int))
  else if 0 ≤ misT s then (4, misT s) else (0, 0)

end Go.Proofs.YtcmnejcojphijaaDoor

namespace Go.Proofs.YtcmnejcojphijaaDoor
open Go.RowKit
set_option linter.unusedVariables false

/-- the number of n digits from place i on -/
def decN (s : ByteArray) (i : Nat) : Nat → Nat
  | 0 => 0
  | n + 1 => 10 * decN s i n + (bt s (i + n) - 48)
theorem decN_lt {s : ByteArray} {i : Nat} : ∀ {n : Nat}, (∀ k, i ≤ k → k < i + n → digitN (bt s k) = true) → decN s i n < 10 ^ n
  | 0, _ => by simp [decN]
  | n + 1, h => by
    have h1 := decN_lt (n := n) (fun k a b => h k a (by omega))
    have h2 := h (i + n) (by omega) (by omega)
    simp [digitN] at h2
    have h3 : 10 ^ (n + 1) = 10 * 10 ^ n := by rw [Nat.pow_succ, Nat.mul_comm]
    show 10 * decN s i n + (bt s (i + n) - 48) < 10 ^ (n + 1)
    rw [h3]
    omega
end Go.Proofs.YtcmnejcojphijaaDoor
