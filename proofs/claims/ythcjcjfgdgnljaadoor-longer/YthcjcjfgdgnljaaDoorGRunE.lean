/-
  FulA, FulB, FulD, FulE, FulF, FulG, RunP, RunA, RunB, RunC, RunD, RunE: one behind the other.
-/
import Derived.Test.YthcjcjfgdgnljaaDoorGSynY
namespace Go.Proofs.YthcjcjfgdgnljaaDoor
open Go.RowKit
set_option linter.unusedVariables false

/-- the first place from i on of which p holds -/
def seek (p : Nat → Bool) : Nat → Nat → Nat
  | 0, i => i
  | n + 1, i => if p i then i else seek p n (i + 1)
theorem seek_eq {p : Nat → Bool} {j : Nat} (hj : p j = true) : ∀ {n i : Nat}, i ≤ j → j ≤ i + n → (∀ k, i ≤ k → k < j → p k = false) → seek p n i = j
  | 0, i, h1, h2, _ => by show i = j; omega
  | n + 1, i, h1, h2, h => by
    by_cases e : i = j
    · subst e; show (if p i then i else _) = i; rw [hj]; rfl
    · show (if p i then i else seek p n (i + 1)) = j
      rw [h i (Nat.le_refl _) (by omega)]
      exact seek_eq hj (by omega) (by omega) (fun k a b => h k (by omega) b)

def bopN (s : ByteArray) (i : Nat) : Nat := if smallN (bt s i) then i + 1 else seek (fun k => !digitN (bt s k)) s.size i
def bbrN (s : ByteArray) (i : Nat) : Nat := seek (fun k => cum s k == cum s i) s.size (i + 1)
def semN (s : ByteArray) (i : Nat) : Nat := seek (fun k => bt s k == 59) s.size i + 1
/-- the place behind the sentence at i -/
def behN (s : ByteArray) (i : Nat) : Nat :=
  if bt s i = 63 then bbrN s (bbrN s (bopN s (i + 1))) else if bt s i = 64 then bbrN s (bopN s (i + 1)) else semN s i

theorem bopN_eq {s : ByteArray} {i j : Nat} (h : Opnd s i j) (hj : j < s.size) (hd : digitN (bt s j) = false) : bopN s i = j := by
  unfold bopN
  rcases h with ⟨h, rfl⟩ | ⟨h1, _, h2⟩
  · rw [h]; rfl
  · rw [(digit_in (h2 i (Nat.le_refl _) h1)).2.2.2.1]
    exact seek_eq (by simp [hd]) (Nat.le_of_lt h1) (by omega) (fun k a b => by simp [h2 k a b])
theorem bbrN_eq {s : ByteArray} {q b : Nat} (h1 : bt s q = 123) (h : Nn s (q + 1) b) (h2 : bt s b = 125) : bbrN s q = b + 1 := by
  have g := brace h1 h h2
  have := byte_in h2 (by decide)
  have := h.le
  unfold bbrN
  exact seek_eq (by simp [g.1]) (by omega) (by omega) (fun k a c => by simpa using g.2 k (by omega) c)
theorem semN_eq {s : ByteArray} {i j : Nat} (h : Simple s i j) : semN s i = j := by
  obtain ⟨h1, h2, h3, h4⟩ := h.line
  unfold semN
  rw [seek_eq (p := fun k => bt s k == 59) (j := j - 1) (by simp [h3]) (by omega) (by omega) (fun k a b => by simpa using (h4 k a b).1)]
  omega
section
variable {s : ByteArray} {i a b c : Nat}
theorem IfAt.p1 (h : IfAt s i a b c) : bopN s (i + 1) = a := by
  have := h.bnd
  exact bopN_eq h.o (by omega) (nodigit h.ha (.inl rfl))
theorem IfAt.p2 (h : IfAt s i a b c) : bbrN s a = b + 1 := bbrN_eq h.ha h.n1 h.hb
theorem IfAt.p3 (h : IfAt s i a b c) : bbrN s (b + 1) = c + 1 := bbrN_eq h.hb1 h.n2 h.hc
theorem LoopAt.p1 (h : LoopAt s i a b) : bopN s (i + 1) = a := by
  have := h.bnd
  exact bopN_eq h.o (by omega) (nodigit h.ha (.inl rfl))
theorem LoopAt.p2 (h : LoopAt s i a b) : bbrN s a = b + 1 := bbrN_eq h.ha h.n1 h.hb
theorem IfAt.beh (h : IfAt s i a b c) : behN s i = c + 1 := by
  unfold behN
  rw [if_pos h.q, h.p1, h.p2, h.p3]
theorem LoopAt.beh (h : LoopAt s i a b) : behN s i = b + 1 := by
  unfold behN
  rw [if_neg (by rw [h.q]; decide), if_pos h.q, h.p1, h.p2]
theorem Simple.beh {j : Nat} (h : Simple s i j) : behN s i = j := by
  unfold behN
  rw [if_neg h.first.1, if_neg h.first.2, semN_eq h]
end

/-- what is full behind a sentence without braces -/
def simF (s : ByteArray) (i : Nat) (f : Nat → Bool) : Nat → Bool :=
  if bt s i = 126 then updB f (bt s (i + 1) - 65) false
  else if greatN (bt s i) = true ∧ bt s (i + 1) = 61 ∧ bt s (i + 2) = 91 then updB f (bt s i - 65) true
  else if greatN (bt s i) = true ∧ bt s (i + 1) = 61 ∧ bt s (i + 2) ≠ bt s i then updB (updB f (bt s i - 65) (f (bt s (i + 2) - 65))) (bt s (i + 2) - 65) false
  else f
/-- made smaller, n times -/
def iterF (T : (Nat → Bool) → Nat → Bool) : Nat → (Nat → Bool) → Nat → Bool
  | 0, f => f
  | n + 1, f => iterF T n (bothF f (T f))
def afterF (al : Nat → Nat → (Nat → Bool) → Nat → Bool) (s : ByteArray) (i : Nat) (f : Nat → Bool) : Nat → Bool :=
  if bt s i = 63 then bothF (al (bopN s (i + 1) + 1) (bbrN s (bopN s (i + 1)) - 1) f) (al (bbrN s (bopN s (i + 1)) + 1) (bbrN s (bbrN s (bopN s (i + 1))) - 1) f)
  else if bt s i = 64 then iterF (al (bopN s (i + 1) + 1) (bbrN s (bopN s (i + 1)) - 1)) 27 f
  else simF s i f
/-- what is full behind the sentences from i up to j -/
def alongF (s : ByteArray) : Nat → Nat → Nat → (Nat → Bool) → Nat → Bool
  | 0, _, _, f => f
  | F + 1, i, j, f => if i < j then alongF s F (behN s i) j (afterF (alongF s F) s i f) else f

theorem afterF_if {al : Nat → Nat → (Nat → Bool) → Nat → Bool} {s : ByteArray} {i a b c : Nat} (h : IfAt s i a b c) (f : Nat → Bool) : afterF al s i f = bothF (al (a + 1) b f) (al (b + 2) c f) := by
  unfold afterF
  rw [if_pos h.q, h.p1, h.p2, h.p3]
  rfl
theorem afterF_loop {al : Nat → Nat → (Nat → Bool) → Nat → Bool} {s : ByteArray} {i a b : Nat} (h : LoopAt s i a b) (f : Nat → Bool) : afterF al s i f = iterF (al (a + 1) b) 27 f := by
  unfold afterF
  rw [if_neg (by rw [h.q]; decide), if_pos h.q, h.p1, h.p2]
  rfl
theorem afterF_simple {al : Nat → Nat → (Nat → Bool) → Nat → Bool} {s : ByteArray} {i j : Nat} (h : Simple s i j) (f : Nat → Bool) : afterF al s i f = simF s i f := by
  unfold afterF
  rw [if_neg h.first.1, if_neg h.first.2]

/-- no box is none of the 26 -/
def Clean (f : Nat → Bool) : Prop := ∀ i, 26 ≤ i → f i = false
theorem clean_none : Clean (fun _ => false) := fun _ _ => rfl
theorem Clean.both {f g : Nat → Bool} (h : Clean f) : Clean (bothF f g) := fun i hi => by unfold bothF; rw [h i hi]; rfl
theorem Clean.upd {f : Nat → Bool} (h : Clean f) {k : Nat} (hk : k < 26) (v : Bool) : Clean (updB f k v) := fun i hi => by unfold updB; rw [if_neg (by omega)]; exact h i hi
theorem Clean.off {f : Nat → Bool} (h : Clean f) (k : Nat) : Clean (updB f k false) := fun i hi => by
  unfold updB
  split
  · rfl
  · exact h i hi
theorem box_lt {c : Nat} (h : greatN c = true) : c - 65 < 26 := by simp [greatN] at h; omega
theorem Clean.sim {s : ByteArray} {i : Nat} {f : Nat → Bool} (h : Clean f) : Clean (simF s i f) := by
  unfold simF
  split
  · exact h.off _
  · split
    · rename_i hg
      exact h.upd (box_lt hg.1) _
    · split
      · rename_i hg
        exact (h.upd (box_lt hg.1) _).off _
      · exact h
theorem Clean.iter {T : (Nat → Bool) → Nat → Bool} : ∀ {n : Nat} {f : Nat → Bool}, Clean f → Clean (iterF T n f)
  | 0, _, h => h
  | n + 1, _, h => Clean.iter (n := n) h.both
theorem Clean.after {al : Nat → Nat → (Nat → Bool) → Nat → Bool} (hal : ∀ i j f, Clean f → Clean (al i j f)) {s : ByteArray} {i : Nat} {f : Nat → Bool} (h : Clean f) : Clean (afterF al s i f) := by
  unfold afterF
  split
  · exact (hal _ _ _ h).both
  · split
    · exact h.iter
    · exact h.sim
theorem Clean.along {s : ByteArray} : ∀ {F i j : Nat} {f : Nat → Bool}, Clean f → Clean (alongF s F i j f)
  | 0, _, _, _, h => h
  | F + 1, i, j, f, h => by
    show Clean (if i < j then alongF s F (behN s i) j (afterF (alongF s F) s i f) else f)
    split
    · exact Clean.along (F := F) (Clean.after (fun a b g hg => Clean.along hg) h)
    · exact h

/-- how many of the first n boxes are in it -/
def card (f : Nat → Bool) : Nat → Nat
  | 0 => 0
  | n + 1 => card f n + (if f n then 1 else 0)
theorem card_le (f : Nat → Bool) : ∀ n, card f n ≤ n
  | 0 => Nat.le_refl _
  | n + 1 => by
    have := card_le f n
    show card f n + (if f n then 1 else 0) ≤ n + 1
    split <;> omega
theorem card_mono {f g : Nat → Bool} : ∀ {n : Nat}, (∀ i, i < n → f i = true → g i = true) → card f n ≤ card g n
  | 0, _ => Nat.le_refl _
  | n + 1, h => by
    have h1 := card_mono (n := n) (fun i hi => h i (by omega))
    show card f n + (if f n then 1 else 0) ≤ card g n + (if g n then 1 else 0)
    cases hf : f n
    · simp; omega
    · rw [h n (by omega) hf]; simp; omega
theorem card_lt {f g : Nat → Bool} : ∀ {n : Nat}, (∀ i, i < n → f i = true → g i = true) → (∃ i, i < n ∧ f i = false ∧ g i = true) → card f n < card g n
  | 0, _, h => by obtain ⟨i, hi, _⟩ := h; omega
  | n + 1, h, ⟨i, hi, h1, h2⟩ => by
    show card f n + (if f n then 1 else 0) < card g n + (if g n then 1 else 0)
    by_cases e : i = n
    · subst e
      have := card_mono (n := i) (fun k hk => h k (by omega))
      rw [h1, h2]; simp; omega
    · have := card_lt (n := n) (fun k hk => h k (by omega)) ⟨i, by omega, h1, h2⟩
      cases hf : f n
      · simp; omega
      · rw [h n (by omega) hf]; simp; omega
theorem card_both {f g : Nat → Bool} (h : ¬ subF f g) : card (bothF f g) 26 < card f 26 := by
  refine card_lt (fun i _ e => ?_) ?_
  · unfold bothF at e; simp at e; exact e.1
  · apply Classical.byContradiction
    intro hn
    apply h
    intro i hi hf
    apply Classical.byContradiction
    intro hg
    exact hn ⟨i, hi, by unfold bothF; simp [hg], hf⟩
theorem both_eq {f g : Nat → Bool} (hc : Clean f) (h : subF f g) : bothF f g = f := by
  funext i
  unfold bothF
  by_cases hi : i < 26
  · cases hf : f i
    · rfl
    · rw [h i hi hf]; rfl
  · rw [hc i (by omega)]; rfl
theorem iterF_stop {T : (Nat → Bool) → Nat → Bool} {f : Nat → Bool} (h : bothF f (T f) = f) : ∀ n, iterF T n f = f
  | 0 => rfl
  | n + 1 => by show iterF T n (bothF f (T f)) = f; rw [h]; exact iterF_stop h n
theorem iterF_add (T : (Nat → Bool) → Nat → Bool) : ∀ (m n : Nat) (f : Nat → Bool), iterF T (m + n) f = iterF T n (iterF T m f)
  | 0, n, f => by rw [Nat.zero_add]; rfl
  | m + 1, n, f => by
    rw [show m + 1 + n = (m + n) + 1 by omega]
    exact iterF_add T m n (bothF f (T f))
end Go.Proofs.YthcjcjfgdgnljaaDoor

namespace Go.Proofs.YthcjcjfgdgnljaaDoor
open Go.RowKit
set_option linter.unusedVariables false

/-- the zeros of a new one -/
def zrs : Array Value := #[.bool false, .bool false, .bool false, .bool false, .bool false, .bool false, .bool false, .bool false, .bool false, .bool false, .bool false, .bool false, .bool false, .bool false, .bool false, .bool false, .bool false, .bool false, .bool false, .bool false, .bool false, .bool false, .bool false, .bool false, .bool false, .bool false]
end Go.Proofs.YthcjcjfgdgnljaaDoor

namespace Go.Proofs.YthcjcjfgdgnljaaDoor
open Go.RowKit
set_option linter.unusedVariables false

theorem simF_other {s : ByteArray} {i : Nat} {f : Nat → Bool} (h1 : bt s i ≠ 126) (h2 : greatN (bt s i) = false ∨ bt s (i + 1) ≠ 61) : simF s i f = f := by
  unfold simF
  rw [if_neg h1]
  rcases h2 with h | h
  · rw [if_neg (by rw [h]; simp), if_neg (by rw [h]; simp)]
  · rw [if_neg (fun e => h e.2.1), if_neg (fun e => h e.2.1)]

theorem great_k {c : Nat} (h : greatN c = true) : c - 65 < 26 ∧ c = (c - 65) + 65 := by simp [greatN] at h; omega

theorem ifAt_of {s : ByteArray} {F i a b c : Nat} (e : bt s i = 63) (ho : Opnd s (i + 1) a) (ha : bt s a = 123) (hp : Prog s F (a + 1) b) (hb : bt s b = 125) (hb1 : bt s (b + 1) = 123) (hq : Prog s F (b + 2) c) (hc : bt s c = 125) : IfAt s i a b c :=
  ⟨e, ho, ha, hp.nn, hb, hb1, hq.nn, hc⟩
theorem loopAt_of {s : ByteArray} {F i a b : Nat} (e : bt s i = 64) (ho : Opnd s (i + 1) a) (ha : bt s a = 123) (hp : Prog s F (a + 1) b) (hb : bt s b = 125) : LoopAt s i a b :=
  ⟨e, ho, ha, hp.nn, hb⟩

theorem beh_of {s : ByteArray} {F i m : Nat} (h : StmtF (Prog s F) s i m) : behN s i = m := by
  rcases h with h | ⟨e, a, b, c, ho, ha, hp, hb, hb1, hq, hc', rfl⟩ | ⟨e, a, b, ho, ha, hp, hb, rfl⟩
  · exact h.beh
  · exact (ifAt_of e ho ha hp hb hb1 hq hc').beh
  · exact (loopAt_of e ho ha hp hb).beh
theorem alongF_step {s : ByteArray} {F i m j : Nat} (h : StmtF (Prog s F) s i m) (hij : i < j) (f : Nat → Bool) : alongF s (F + 1) i j f = alongF s F m j (afterF (alongF s F) s i f) := by
  show (if i < j then alongF s F (behN s i) j (afterF (alongF s F) s i f) else f) = _
  rw [if_pos hij, beh_of h]
theorem alongF_end {s : ByteArray} {F i : Nat} (f : Nat → Bool) : alongF s F i i f = f := by
  cases F with
  | zero => rfl
  | succ F => show (if i < i then _ else f) = f; rw [if_neg (Nat.lt_irrefl _)]

end Go.Proofs.YthcjcjfgdgnljaaDoor

namespace Go.Proofs.YthcjcjfgdgnljaaDoor
open Go.RowKit
set_option linter.unusedVariables false

/-- the place of the letter of the box that the sentence at i uses; -1: it uses none -/
def useN (s : ByteArray) (i : Nat) : Int :=
  if bt s i = 126 then (i : Int) + 1
  else if greatN (bt s i) = true ∧ bt s (i + 1) = 91 then (i : Int)
  else if greatN (bt s i) = true ∧ greatN (bt s (i + 2)) = true then (i : Int) + 2
  else if smallN (bt s i) = true ∧ bt s (i + 2) = 35 then (i : Int) + 3
  else if smallN (bt s i) = true ∧ greatN (bt s (i + 2)) = true then (i : Int) + 2
  else -1

theorem Opnd.head {s : ByteArray} {i j : Nat} (h : Opnd s i j) : greatN (bt s i) = false ∧ bt s i ≠ 35 ∧ i < s.size := by
  rcases h with ⟨h, _⟩ | ⟨h1, _, h2⟩
  · have := small_in h
    exact ⟨this.2.2.2.2, fun e => by rw [e] at h; simp [smallN] at h, this.1⟩
  · have h3 := h2 i (Nat.le_refl _) h1
    have := digit_in h3
    exact ⟨this.2.2.2.2, fun e => by rw [e] at h3; simp [digitN] at h3, this.1⟩

end Go.Proofs.YthcjcjfgdgnljaaDoor

namespace Go.Proofs.YthcjcjfgdgnljaaDoor
open Go.RowKit
set_option linter.unusedVariables false

/-- the first such place of the sentence at i -/
def misP (s : ByteArray) (al : Nat → Nat → (Nat → Bool) → Nat → Bool) (mis : Nat → Nat → (Nat → Bool) → Int) (i : Nat) (f : Nat → Bool) : Int :=
  if bt s i = 63 then (if mis (bopN s (i + 1) + 1) (bbrN s (bopN s (i + 1)) - 1) f < 0 then mis (bbrN s (bopN s (i + 1)) + 1) (bbrN s (bbrN s (bopN s (i + 1))) - 1) f else mis (bopN s (i + 1) + 1) (bbrN s (bopN s (i + 1)) - 1) f)
  else if bt s i = 64 then mis (bopN s (i + 1) + 1) (bbrN s (bopN s (i + 1)) - 1) (iterF (al (bopN s (i + 1) + 1) (bbrN s (bopN s (i + 1)) - 1)) 27 f)
  else if 0 ≤ useN s i ∧ f (bt s (useN s i).toNat - 65) = false then useN s i else -1
def misN (s : ByteArray) : Nat → Nat → Nat → (Nat → Bool) → Int
  | 0, _, _, _ => -1
  | F + 1, i, j, f => if i < j then (if 0 ≤ misP s (alongF s F) (misN s F) i f then misP s (alongF s F) (misN s F) i f else misN s F (behN s i) j (afterF (alongF s F) s i f)) else -1
theorem misP_if {s : ByteArray} {al : Nat → Nat → (Nat → Bool) → Nat → Bool} {mis : Nat → Nat → (Nat → Bool) → Int} {i a b c : Nat} (h : IfAt s i a b c) (f : Nat → Bool) :
    misP s al mis i f = if mis (a + 1) b f < 0 then mis (b + 2) c f else mis (a + 1) b f := by
  unfold misP
  rw [if_pos h.q, h.p1, h.p2, h.p3]
  rfl
theorem misP_loop {s : ByteArray} {al : Nat → Nat → (Nat → Bool) → Nat → Bool} {mis : Nat → Nat → (Nat → Bool) → Int} {i a b : Nat} (h : LoopAt s i a b) (f : Nat → Bool) :
    misP s al mis i f = mis (a + 1) b (iterF (al (a + 1) b) 27 f) := by
  unfold misP
  rw [if_neg (by rw [h.q]; decide), if_pos h.q, h.p1, h.p2]
  rfl
theorem misP_simple {s : ByteArray} {al : Nat → Nat → (Nat → Bool) → Nat → Bool} {mis : Nat → Nat → (Nat → Bool) → Int} {i j : Nat} (h : Simple s i j) (f : Nat → Bool) :
    misP s al mis i f = if 0 ≤ useN s i ∧ f (bt s (useN s i).toNat - 65) = false then useN s i else -1 := by
  unfold misP
  rw [if_neg h.first.1, if_neg h.first.2]
theorem misN_step {s : ByteArray} {F i m j : Nat} (h : StmtF (Prog s F) s i m) (hij : i < j) (f : Nat → Bool) :
    misN s (F + 1) i j f = if 0 ≤ misP s (alongF s F) (misN s F) i f then misP s (alongF s F) (misN s F) i f else misN s F m j (afterF (alongF s F) s i f) := by
  show (if i < j then _ else _) = _
  rw [if_pos hij, beh_of h]
theorem misN_end {s : ByteArray} {F i : Nat} (f : Nat → Bool) : misN s F i i f = -1 := by
  cases F with
  | zero => rfl
  | succ F => show (if i < i then _ else (-1 : Int)) = -1; rw [if_neg (Nat.lt_irrefl _)]

end Go.Proofs.YthcjcjfgdgnljaaDoor

namespace Go.Proofs.YthcjcjfgdgnljaaDoor
open Go.RowKit
set_option linter.unusedVariables false

theorem runN_zero (s : ByteArray) : ∀ (m : Nat) (S : List (Nat × Bool)) (i : Nat) (d : Int), (runN s m S i d).1 = 0 → runN s m S i d = (0, 0)
  | 0, S, i, d, h => by
    unfold runN at h ⊢
    split at h
    · simp at h
    · rename_i hn
      rw [if_neg hn]
  | m + 1, S, i, d, h => by
    unfold runN at h ⊢
    split at h
    · simp at h
    · rename_i hn
      rw [if_neg hn]
      split at h
      · rename_i h1
        rw [if_pos h1]
        split at h
        · simp at h
        · rename_i h2
          rw [if_neg h2]
          exact runN_zero s m _ _ _ h
      · rename_i h1
        rw [if_neg h1]
        exact runN_zero s m _ _ _ h
theorem run_zero {s : ByteArray} {S : List (Nat × Bool)} {i : Nat} {d : Int} (h : (run s S i d).1 = 0) : run s S i d = (0, 0) := runN_zero s _ _ _ _ h

/-- the first place at which a box is used that is not full; -1: there is none -/
def misT (s : ByteArray) : Int := misN s (s.size + 1) 0 s.size (fun _ => false)
/-- P6 and P7, as a function of the text -/
def checkN (s : ByteArray) : Nat × Int :=
  if 400 < s.size then (1, 0)
  else if (run s [(83, true)] 0 0).1 ≠ 0 then ((run s [(83, true)] 0 0).1, ((run s [(83, true)] 0 0).2 : Int))
  else if 0 ≤ misT s then (4, misT s) else (0, 0)

end Go.Proofs.YthcjcjfgdgnljaaDoor

namespace Go.Proofs.YthcjcjfgdgnljaaDoor
open Go.RowKit
set_option linter.unusedVariables false

/-- the number of n digits from place i on -/
def decN (s : ByteArray) (i : Nat) : Nat → Nat
  | 0 => 0
  | n + 1 => 10 * decN s i n + (bt s (i + n) - 48)
theorem decN_lt {s : ByteArray} {i : Nat} : ∀ {n : Nat}, (∀ k, i ≤ k → k < i + n → digitN (bt s k) = true) → decN s i n < 10 ^ n
  | 0, _ => by simp [decN]
  | n + 1, h => by
    have h1 := decN_lt (n := n) (fun k a b => h k a (by omega))
    have h2 := h (i + n) (by omega) (by omega)
    simp [digitN] at h2
    have h3 : 10 ^ (n + 1) = 10 * 10 ^ n := by rw [Nat.pow_succ, Nat.mul_comm]
    show 10 * decN s i n + (bt s (i + n) - 48) < 10 ^ (n + 1)
    rw [h3]
    omega
/-- what an operand from i up to j is worth -/
def valN (s : ByteArray) (num : Nat → Int) (i j : Nat) : Int := if smallN (bt s i) = true then num (bt s i - 97) else (decN s i (j - i) : Int)
end Go.Proofs.YthcjcjfgdgnljaaDoor

namespace Go.Proofs.YthcjcjfgdgnljaaDoor
open Go.RowKit
set_option linter.unusedVariables false

/-- a run: numbers, boxes' words (of Play), heap, boxes' places and lengths (of Exec), steps left, how it ends, what was printed -/
structure Rn where
  num : Nat → Int
  wv : Nat → Value
  hv : Value
  at_ : Nat → Int
  len : Nat → Int
  left : Int
  status : Int
  tr : ByteArray
  used : Int
  peak : Int
/-- a run in memory -/
structure RunAt (w : World) (rp : Nat) (s : ByteArray) (x : Rn) : Prop where
  cs : w.cell? ⟨rp, 0, none⟩ = some (.string s)
  cn : ∀ k, k < 26 → w.cell? ⟨rp, 1 + k, none⟩ = some (.int .i64 (x.num k))
  cw : ∀ k, k < 26 → w.cell? ⟨rp, 27 + k, none⟩ = some (x.wv k)
  ch : w.cell? ⟨rp, 53, none⟩ = some x.hv
  ca : ∀ k, k < 26 → w.cell? ⟨rp, 54 + k, none⟩ = some (.int .i64 (x.at_ k))
  cl : ∀ k, k < 26 → w.cell? ⟨rp, 80 + k, none⟩ = some (.int .i64 (x.len k))
  cf : w.cell? ⟨rp, 106, none⟩ = some (.int .i64 x.left)
  co : w.cell? ⟨rp, 107, none⟩ = some (.int .i64 x.status)
  ct : w.cell? ⟨rp, 108, none⟩ = some (.string x.tr)
  cu : w.cell? ⟨rp, 109, none⟩ = some (.int .i64 x.used)
  cp : w.cell? ⟨rp, 110, none⟩ = some (.int .i64 x.peak)
  fz : ∀ o, w.frozen? ⟨rp, o, none⟩ = false
theorem RunAt.lt {w : World} {rp : Nat} {s : ByteArray} {x : Rn} (h : RunAt w rp s x) : rp < w.heap.size := World.block_lt_of_cell? w _ h.cs
theorem RunAt.fr {S : Nat → Prop} {w w' : World} {rp : Nat} {s : ByteArray} {x : Rn} (h : RunAt w rp s x) (hF : Fr S w w') (hS : ¬ S rp) : RunAt w' rp s x :=
  ⟨hF.cell_some h.cs hS, fun k hk => hF.cell_some (h.cn k hk) hS, fun k hk => hF.cell_some (h.cw k hk) hS, hF.cell_some h.ch hS, fun k hk => hF.cell_some (h.ca k hk) hS, fun k hk => hF.cell_some (h.cl k hk) hS,
    hF.cell_some h.cf hS, hF.cell_some h.co hS, hF.cell_some h.ct hS, hF.cell_some h.cu hS, hF.cell_some h.cp hS, fun o => (hF.frozen (p := ⟨rp, o, none⟩) h.lt hS).trans (h.fz o)⟩
theorem RunAt.no {w w' : World} {rp : Nat} {s : ByteArray} {x : Rn} (h : RunAt w rp s x) (hF : Fr NoB w w') : RunAt w' rp s x := h.fr hF id
/-- one cell turned, that is none of those read by c -/
theorem cell_at {w : World} {b o q : Nat} {u v : Value} (h : w.cell? ⟨b, q, none⟩ = some v) (hne : o ≠ q) : (w.setCell ⟨b, o, none⟩ u).cell? ⟨b, q, none⟩ = some v := (cell_other (.inr hne)).trans h
theorem RunAt.setLeft {w : World} {rp : Nat} {s : ByteArray} {x : Rn} (h : RunAt w rp s x) (v : Int) : RunAt (w.setCell ⟨rp, 106, none⟩ (.int .i64 v)) rp s { x with left := v } :=
  ⟨cell_at h.cs (by omega), fun k hk => cell_at (h.cn k hk) (by omega), fun k hk => cell_at (h.cw k hk) (by omega), cell_at h.ch (by omega), fun k hk => cell_at (h.ca k hk) (by omega), fun k hk => cell_at (h.cl k hk) (by omega),
    cell_same h.cf, cell_at h.co (by omega), cell_at h.ct (by omega), cell_at h.cu (by omega), cell_at h.cp (by omega), fun o => by rw [World.frozen?_setCell]; exact h.fz o⟩
theorem RunAt.setStatus {w : World} {rp : Nat} {s : ByteArray} {x : Rn} (h : RunAt w rp s x) (v : Int) : RunAt (w.setCell ⟨rp, 107, none⟩ (.int .i64 v)) rp s { x with status := v } :=
  ⟨cell_at h.cs (by omega), fun k hk => cell_at (h.cn k hk) (by omega), fun k hk => cell_at (h.cw k hk) (by omega), cell_at h.ch (by omega), fun k hk => cell_at (h.ca k hk) (by omega), fun k hk => cell_at (h.cl k hk) (by omega),
    cell_at h.cf (by omega), cell_same h.co, cell_at h.ct (by omega), cell_at h.cu (by omega), cell_at h.cp (by omega), fun o => by rw [World.frozen?_setCell]; exact h.fz o⟩
theorem RunAt.setTrace {w : World} {rp : Nat} {s : ByteArray} {x : Rn} (h : RunAt w rp s x) (v : ByteArray) : RunAt (w.setCell ⟨rp, 108, none⟩ (.string v)) rp s { x with tr := v } :=
  ⟨cell_at h.cs (by omega), fun k hk => cell_at (h.cn k hk) (by omega), fun k hk => cell_at (h.cw k hk) (by omega), cell_at h.ch (by omega), fun k hk => cell_at (h.ca k hk) (by omega), fun k hk => cell_at (h.cl k hk) (by omega),
    cell_at h.cf (by omega), cell_at h.co (by omega), cell_same h.ct, cell_at h.cu (by omega), cell_at h.cp (by omega), fun o => by rw [World.frozen?_setCell]; exact h.fz o⟩
def updI (f : Nat → Int) (k : Nat) (v : Int) : Nat → Int := fun i => if i = k then v else f i
def updV (f : Nat → Value) (k : Nat) (v : Value) : Nat → Value := fun i => if i = k then v else f i
theorem RunAt.setNum {w : World} {rp : Nat} {s : ByteArray} {x : Rn} (h : RunAt w rp s x) {k : Nat} (hk : k < 26) (v : Int) : RunAt (w.setCell ⟨rp, 1 + k, none⟩ (.int .i64 v)) rp s { x with num := updI x.num k v } :=
  ⟨cell_at h.cs (by omega), fun j hj => by
      by_cases e : j = k
      · subst e; show _ = some (Value.int .i64 (updI x.num j v j)); rw [show updI x.num j v j = v by simp [updI]]; exact cell_same (h.cn j hj)
      · show _ = some (Value.int .i64 (updI x.num k v j)); rw [show updI x.num k v j = x.num j by simp [updI, e]]; exact cell_at (h.cn j hj) (by omega),
    fun j hj => cell_at (h.cw j hj) (by omega), cell_at h.ch (by omega), fun j hj => cell_at (h.ca j hj) (by omega), fun j hj => cell_at (h.cl j hj) (by omega),
    cell_at h.cf (by omega), cell_at h.co (by omega), cell_at h.ct (by omega), cell_at h.cu (by omega), cell_at h.cp (by omega), fun o => by rw [World.frozen?_setCell]; exact h.fz o⟩

section
variable (w : World) (rp : Nat) (s : ByteArray) (x : Rn)
end

section
variable (w : World) (rp : Nat) (s : ByteArray) (x : Rn)
end
end Go.Proofs.YthcjcjfgdgnljaaDoor

namespace Go.Proofs.YthcjcjfgdgnljaaDoor
open Go.RowKit
set_option linter.unusedVariables false

/-- the digits of a number, f + 1 at most -/
def decF : Nat → Nat → List Nat
  | 0, n => [48 + n % 10]
  | f + 1, n => if n < 10 then [48 + n % 10] else decF f (n / 10) ++ [48 + n % 10]
theorem bytes_app (a b : Array UInt8) : (⟨a⟩ : ByteArray) ++ ⟨b⟩ = ⟨a ++ b⟩ := by
  apply ByteArray.ext
  simp

theorem digit_str (n : Nat) (u : World) : (convert 38 9 (.slice (some ⟨u.heap.size, 0, none⟩) 1 1)).run Tryd.prog (u.alloc (.cells #[.int .u8 (48 + (n : Int) % 10)] 5)) = .ok (strN [48 + n % 10]) (u.alloc (.cells #[.int .u8 (48 + (n : Int) % 10)] 5)) := by
  have e : (48 + (n : Int) % 10) = ((48 + n % 10 : Nat) : Int) := by omega
  rw [e]
  exact bytes_str u [48 + n % 10]

theorem decF_len : ∀ (f n : Nat), (decF f n).length ≤ f + 1
  | 0, n => by simp [decF]
  | f + 1, n => by
    have := decF_len f (n / 10)
    unfold decF
    split
    · simp
    · simp; omega
end Go.Proofs.YthcjcjfgdgnljaaDoor

namespace Go.Proofs.YthcjcjfgdgnljaaDoor
open Go.RowKit
set_option linter.unusedVariables false

/-- a Play in memory: bx: each box's words, none if it is empty; blk: where they lie -/
structure PlayAt (w : World) (rp base : Nat) (s : ByteArray) (x : Rn) (bx : Nat → List Int) (blk : Nat → Nat) : Prop where
  r : RunAt w rp s x
  hn : x.hv = .pointer none
  rb : rp < base
  e : ∀ k, k < 26 → bx k = [] → x.wv k = .slice none 0 0
  f : ∀ k, k < 26 → bx k ≠ [] → x.wv k = .slice (some ⟨blk k, 0, none⟩) (bx k).length (bx k).length
  c : ∀ k, k < 26 → ∀ i v, (bx k)[i]? = some v → w.cell? ⟨blk k, i, none⟩ = some (.int .i64 v)
  z : ∀ k, k < 26 → bx k ≠ [] → ∀ o, w.frozen? ⟨blk k, o, none⟩ = false
  d : ∀ k l, k < 26 → l < 26 → k ≠ l → bx k ≠ [] → bx l ≠ [] → blk k ≠ blk l
  b : ∀ k, k < 26 → bx k ≠ [] → base ≤ blk k ∧ blk k < w.heap.size
  n : ∀ k, k < 26 → (bx k).length ≤ 64
section
variable {w w' : World} {rp base : Nat} {s : ByteArray} {x x' : Rn} {bx : Nat → List Int} {blk : Nat → Nat}
theorem ne_nil_of_get {l : List Int} {i : Nat} {v : Int} (h : l[i]? = some v) : l ≠ [] := fun e => by rw [e] at h; simp at h
theorem PlayAt.no (h : PlayAt w rp base s x bx blk) (hF : Fr NoB w w') : PlayAt w' rp base s x bx blk :=
  ⟨h.r.no hF, h.hn, h.rb, h.e, h.f, fun k hk i v hv => hF.cell_some (h.c k hk i v hv) id, fun k hk hb o => (hF.frozen (p := ⟨blk k, o, none⟩) (h.b k hk hb).2 id).trans (h.z k hk hb o), h.d, fun k hk hb => ⟨(h.b k hk hb).1, Nat.lt_of_lt_of_le (h.b k hk hb).2 hF.size⟩, h.n⟩
/-- what turns in the run's own block alone, boxes' words apart -/
theorem PlayAt.own (h : PlayAt w rp base s x bx blk) (hF : Fr (OneB rp) w w') (hR : RunAt w' rp s x') (h1 : x'.hv = x.hv) (h2 : x'.wv = x.wv) : PlayAt w' rp base s x' bx blk := by
  have hne : ∀ k, k < 26 → bx k ≠ [] → ¬ OneB rp (blk k) := fun k hk hb e => by
    have := (h.b k hk hb).1
    have := h.rb
    unfold OneB at e
    omega
  refine ⟨hR, by rw [h1]; exact h.hn, h.rb, fun k hk hb => by rw [h2]; exact h.e k hk hb, fun k hk hb => by rw [h2]; exact h.f k hk hb, fun k hk i v hv => hF.cell_some (h.c k hk i v hv) (hne k hk (ne_nil_of_get hv)), fun k hk hb o => (hF.frozen (p := ⟨blk k, o, none⟩) (h.b k hk hb).2 (hne k hk hb)).trans (h.z k hk hb o), h.d, fun k hk hb => ⟨(h.b k hk hb).1, Nat.lt_of_lt_of_le (h.b k hk hb).2 hF.size⟩, h.n⟩
end

section
variable (w : World) (rp base : Nat) (s : ByteArray) (x : Rn) (bx : Nat → List Int) (blk : Nat → Nat)
end
end Go.Proofs.YthcjcjfgdgnljaaDoor

namespace Go.Proofs.YthcjcjfgdgnljaaDoor
open Go.RowKit
set_option linter.unusedVariables false

def updL (f : Nat → List Int) (k : Nat) (v : List Int) : Nat → List Int := fun i => if i = k then v else f i
theorem updL_at (f : Nat → List Int) (k : Nat) (v : List Int) : updL f k v k = v := by simp [updL]
theorem updL_ne (f : Nat → List Int) {k i : Nat} (v : List Int) (h : i ≠ k) : updL f k v i = f i := by simp [updL, h]
theorem updV_at (f : Nat → Value) (k : Nat) (v : Value) : updV f k v k = v := by simp [updV]
theorem updV_ne (f : Nat → Value) {k i : Nat} (v : Value) (h : i ≠ k) : updV f k v i = f i := by simp [updV, h]
theorem RunAt.setWv {w : World} {rp : Nat} {s : ByteArray} {x : Rn} (h : RunAt w rp s x) {k : Nat} (hk : k < 26) (v : Value) : RunAt (w.setCell ⟨rp, 27 + k, none⟩ v) rp s { x with wv := updV x.wv k v } :=
  ⟨cell_at h.cs (by omega), fun j hj => cell_at (h.cn j hj) (by omega), fun j hj => by
      by_cases e : j = k
      · subst e; show _ = some (updV x.wv j v j); rw [updV_at]; exact cell_same (h.cw j hj)
      · show _ = some (updV x.wv k v j); rw [updV_ne _ _ e]; exact cell_at (h.cw j hj) (by omega),
    cell_at h.ch (by omega), fun j hj => cell_at (h.ca j hj) (by omega), fun j hj => cell_at (h.cl j hj) (by omega),
    cell_at h.cf (by omega), cell_at h.co (by omega), cell_at h.ct (by omega), cell_at h.cu (by omega), cell_at h.cp (by omega), fun o => by rw [World.frozen?_setCell]; exact h.fz o⟩
section
variable {w : World} {rp base : Nat} {s : ByteArray} {x : Rn} {bx : Nat → List Int} {blk : Nat → Nat}
/-- a box is emptied -/
theorem PlayAt.empty (h : PlayAt w rp base s x bx blk) {k : Nat} (hk : k < 26) : PlayAt (w.setCell ⟨rp, 27 + k, none⟩ (.slice none 0 0)) rp base s { x with wv := updV x.wv k (.slice none 0 0) } (updL bx k []) blk := by
  have hF := (Fr.refl (OneB rp) w).setCell (p := ⟨rp, 27 + k, none⟩) (fun _ => rfl) (.slice none 0 0)
  have hne : ∀ j, j < 26 → bx j ≠ [] → ¬ OneB rp (blk j) := fun j hj hb e => by
    have := (h.b j hj hb).1
    have := h.rb
    unfold OneB at e
    omega
  have hup : ∀ j, updL bx k [] j ≠ [] → j ≠ k ∧ bx j ≠ [] := fun j hj => by
    by_cases e : j = k
    · subst e; rw [updL_at] at hj; exact absurd rfl hj
    · rw [updL_ne _ _ e] at hj; exact ⟨e, hj⟩
  refine ⟨h.r.setWv hk _, h.hn, h.rb, fun j hj hb => ?_, fun j hj hb => ?_, fun j hj i v hv => ?_, fun j hj hb o => ?_, fun i j hi hj hij hb1 hb2 => h.d i j hi hj hij (hup i hb1).2 (hup j hb2).2, fun j hj hb => ?_, fun j hj => ?_⟩
  · show updV x.wv k (.slice none 0 0) j = _
    by_cases e : j = k
    · subst e; rw [updV_at]
    · rw [updV_ne _ _ e]; rw [updL_ne _ _ e] at hb; exact h.e j hj hb
  · obtain ⟨e, hb2⟩ := hup j hb
    show updV x.wv k (.slice none 0 0) j = _
    rw [updV_ne _ _ e, updL_ne _ _ e]
    exact h.f j hj hb2
  · obtain ⟨e, hb2⟩ := hup j (ne_nil_of_get hv)
    rw [updL_ne _ _ e] at hv
    exact hF.cell_some (h.c j hj i v hv) (hne j hj hb2)
  · obtain ⟨e, hb2⟩ := hup j hb
    exact (hF.frozen (p := ⟨blk j, o, none⟩) (h.b j hj hb2).2 (hne j hj hb2)).trans (h.z j hj hb2 o)
  · obtain ⟨e, hb2⟩ := hup j hb
    rw [setCell_size]
    exact h.b j hj hb2
  · by_cases e : j = k
    · subst e; rw [updL_at]; simp
    · rw [updL_ne _ _ e]; exact h.n j hj
end

section
variable (w : World) (rp base : Nat) (s : ByteArray) (x : Rn) (bx : Nat → List Int) (blk : Nat → Nat)
/-- how a sentence on boxes ends: it goes on or not; the run and its boxes then -/
def PlaySays (rp base : Nat) (s : ByteArray) (b : Bool) (x : Rn) (bx : Nat → List Int) (w : World) (e : Ending) (w' : World) : Prop := e = .returned (.bool b) ∧ (∃ blk wv a l, PlayAt w' rp base s { x with wv := wv, at_ := a, len := l } bx blk) ∧ Fr (fun k => k = rp ∨ base ≤ k) w w'
end
end Go.Proofs.YthcjcjfgdgnljaaDoor

namespace Go.Proofs.YthcjcjfgdgnljaaDoor
open Go.RowKit
set_option linter.unusedVariables false

theorem Tryd.infoInt2 : (Tryd.prog.info? 3).map (fun i => (i.zero, i.size, i.bytes)) = some (some (.int .i64 0), 1, 8) := by kernel_rfl
theorem made_one (n j : Nat) (h : j < n) : (madeCells #[Value.int .i64 0] n)[j]? = some (.int .i64 0) := by
  unfold madeCells
  have h2 : j % 1 = 0 := by omega
  simp [h, h2]
theorem ints_made (n : Nat) (hn : n ≤ 100000) : ∃ C : Array Value, (∀ j, j < n → C[j]? = some (.int .i64 0)) ∧
    ∀ u : World, (Instr.makeSlice 52 (.int .i64 (n : Int)) (.int .i64 (n : Int))).run Tryd.prog u = .ok (.slice (some ⟨u.heap.size, 0, none⟩) n n) (u.alloc (.cells C 3)) := by
  obtain ⟨i0, hi, hz0, hz1, hz2⟩ := info_parts Tryd.infoInt2
  refine ⟨madeCells #[Value.int .i64 0] (n * 1), fun j hj => made_one _ _ (by omega), fun u => ?_⟩
  have h := run_make (P := Tryd.prog) u 52 3 i0 (.int .i64 0) Tryd.underlying52 hi hz0 .i64 .i64 (n : Int) (n : Int) (by omega) (Int.le_refl _) (by rw [hz2]; omega) (by omega)
  simpa [hz1, Value.cells] using h

def updN (f : Nat → Nat) (k v : Nat) : Nat → Nat := fun i => if i = k then v else f i
theorem updN_at (f : Nat → Nat) (k v : Nat) : updN f k v k = v := by simp [updN]
theorem updN_ne (f : Nat → Nat) {k i : Nat} (v : Nat) (h : i ≠ k) : updN f k v i = f i := by simp [updN, h]
/-- a box gets words that lie in a block of none; only the run's own block turned -/
theorem PlayAt.fill {w w' : World} {rp base g : Nat} {s : ByteArray} {x : Rn} {bx : Nat → List Int} {blk : Nat → Nat} {l : List Int} {n : Nat} (h : PlayAt w rp base s x bx blk) {k : Nat} (hk : k < 26) (hn : l.length = n) (hl : l ≠ []) (hl2 : l.length ≤ 64)
    (hF : Fr (OneB rp) w w') (hR : RunAt w' rp s { x with wv := updV x.wv k (.slice (some ⟨g, 0, none⟩) n n) })
    (hg : base ≤ g ∧ g < w'.heap.size) (hgn : ∀ j, j < 26 → bx j ≠ [] → blk j ≠ g) (hc : ∀ i v, l[i]? = some v → w'.cell? ⟨g, i, none⟩ = some (.int .i64 v)) (hz : ∀ o, w'.frozen? ⟨g, o, none⟩ = false) :
    PlayAt w' rp base s { x with wv := updV x.wv k (.slice (some ⟨g, 0, none⟩) n n) } (updL bx k l) (updN blk k g) := by
  subst hn
  have hrb := h.rb
  have hne : ∀ j, j < 26 → bx j ≠ [] → ¬ OneB rp (blk j) := fun j hj hb e => by
    have := (h.b j hj hb).1
    unfold OneB at e
    omega
  refine ⟨hR, h.hn, h.rb, fun j hj hb => ?_, fun j hj hb => ?_, fun j hj i v hv => ?_, fun j hj hb o => ?_, fun i j hi hj hij hb1 hb2 => ?_, fun j hj hb => ?_, fun j hj => ?_⟩
  · show updV x.wv k _ j = _
    by_cases e : j = k
    · subst e; rw [updL_at] at hb; exact absurd hb hl
    · rw [updV_ne _ _ e]; rw [updL_ne _ _ e] at hb; exact h.e j hj hb
  · show updV x.wv k _ j = _
    by_cases e : j = k
    · subst e; rw [updV_at, updL_at, updN_at]
    · rw [updV_ne _ _ e, updL_ne _ _ e, updN_ne _ _ e]; rw [updL_ne _ _ e] at hb; exact h.f j hj hb
  · by_cases e : j = k
    · subst e; rw [updL_at] at hv; rw [updN_at]; exact hc i v hv
    · rw [updL_ne _ _ e] at hv; rw [updN_ne _ _ e]; exact hF.cell_some (h.c j hj i v hv) (hne j hj (ne_nil_of_get hv))
  · by_cases e : j = k
    · subst e; rw [updN_at]; exact hz o
    · rw [updL_ne _ _ e] at hb; rw [updN_ne _ _ e]; exact (hF.frozen (p := ⟨blk j, o, none⟩) (h.b j hj hb).2 (hne j hj hb)).trans (h.z j hj hb o)
  · by_cases e1 : i = k
    · have e2 : j ≠ k := fun q => hij (by omega)
      rw [updL_ne _ _ e2] at hb2
      subst e1
      rw [updN_at, updN_ne _ _ e2]
      exact (hgn j hj hb2).symm
    · rw [updL_ne _ _ e1] at hb1
      rw [updN_ne _ _ e1]
      by_cases e2 : j = k
      · subst e2
        rw [updN_at]
        exact hgn i hi hb1
      · rw [updL_ne _ _ e2] at hb2
        rw [updN_ne _ _ e2]
        exact h.d i j hi hj hij hb1 hb2
  · by_cases e : j = k
    · subst e; rw [updN_at]; exact hg
    · rw [updL_ne _ _ e] at hb; rw [updN_ne _ _ e]; exact ⟨(h.b j hj hb).1, Nat.lt_of_lt_of_le (h.b j hj hb).2 hF.size⟩
  · by_cases e : j = k
    · subst e; rw [updL_at]; exact hl2
    · rw [updL_ne _ _ e]; exact h.n j hj

section
variable (w : World) (rp base : Nat) (s : ByteArray) (x : Rn) (bx : Nat → List Int) (blk : Nat → Nat)
end
end Go.Proofs.YthcjcjfgdgnljaaDoor
