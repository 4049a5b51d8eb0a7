/-
  FulA, FulB, FulD, FulE, FulF, FulG, RunP, MacB: one behind the other.
-/
import Derived.Test.YthcjcjfgdgnljabDoorGSynY
import Derived.Test.YthcjcjfgdgnljabDoorGSynD
namespace Go.Proofs.YthcjcjfgdgnljabDoor
open Go.RowKit
set_option linter.unusedVariables false

/-- the first place from i on of which p holds -/
def seek (p : Nat → Bool) : Nat → Nat → Nat
  | 0, i => i
  | n + 1, i => if p i then i else seek p n (i + 1)
theorem seek_eq {p : Nat → Bool} {j : Nat} (hj : p j = true) : ∀ {n i : Nat}, i ≤ j → j ≤ i + n → (∀ k, i ≤ k → k < j → p k = false) → seek p n i = j
  | 0, i, h1, h2, _ => by show i = j; omega
  | n + 1, i, h1, h2, h => by
    by_cases e : i = j
    · subst e; show (if p i then i else _) = i; rw [hj]; rfl
    · show (if p i then i else seek p n (i + 1)) = j
      rw [h i (Nat.le_refl _) (by omega)]
      exact seek_eq hj (by omega) (by omega) (fun k a b => h k (by omega) b)

def bopN (s : ByteArray) (i : Nat) : Nat := if smallN (bt s i) then i + 1 else seek (fun k => !digitN (bt s k)) s.size i
def bbrN (s : ByteArray) (i : Nat) : Nat := seek (fun k => cum s k == cum s i) s.size (i + 1)
def semN (s : ByteArray) (i : Nat) : Nat := seek (fun k => bt s k == 59) s.size i + 1
/-- the place behind the sentence at i -/
def behN (s : ByteArray) (i : Nat) : Nat :=
  if bt s i = 63 then bbrN s (bbrN s (bopN s (i + 1))) else if bt s i = 64 then bbrN s (bopN s (i + 1)) else semN s i

theorem bopN_eq {s : ByteArray} {i j : Nat} (h : Opnd s i j) (hj : j < s.size) (hd : digitN (bt s j) = false) : bopN s i = j := by
  unfold bopN
  rcases h with ⟨h, rfl⟩ | ⟨h1, _, h2⟩
  · rw [h]; rfl
  · rw [(digit_in (h2 i (Nat.le_refl _) h1)).2.2.2.1]
    exact seek_eq (by simp [hd]) (Nat.le_of_lt h1) (by omega) (fun k a b => by simp [h2 k a b])
theorem bbrN_eq {s : ByteArray} {q b : Nat} (h1 : bt s q = 123) (h : Nn s (q + 1) b) (h2 : bt s b = 125) : bbrN s q = b + 1 := by
  have g := brace h1 h h2
  have := byte_in h2 (by decide)
  have := h.le
  unfold bbrN
  exact seek_eq (by simp [g.1]) (by omega) (by omega) (fun k a c => by simpa using g.2 k (by omega) c)
theorem semN_eq {s : ByteArray} {i j : Nat} (h : Simple s i j) : semN s i = j := by
  obtain ⟨h1, h2, h3, h4⟩ := h.line
  unfold semN
  rw [seek_eq (p := fun k => bt s k == 59) (j := j - 1) (by simp [h3]) (by omega) (by omega) (fun k a b => by simpa using (h4 k a b).1)]
  omega
section
variable {s : ByteArray} {i a b c : Nat}
theorem IfAt.p1 (h : IfAt s i a b c) : bopN s (i + 1) = a := by
  have := h.bnd
  exact bopN_eq h.o (by omega) (nodigit h.ha (.inl rfl))
theorem IfAt.p2 (h : IfAt s i a b c) : bbrN s a = b + 1 := bbrN_eq h.ha h.n1 h.hb
theorem IfAt.p3 (h : IfAt s i a b c) : bbrN s (b + 1) = c + 1 := bbrN_eq h.hb1 h.n2 h.hc
theorem LoopAt.p1 (h : LoopAt s i a b) : bopN s (i + 1) = a := by
  have := h.bnd
  exact bopN_eq h.o (by omega) (nodigit h.ha (.inl rfl))
theorem LoopAt.p2 (h : LoopAt s i a b) : bbrN s a = b + 1 := bbrN_eq h.ha h.n1 h.hb
theorem IfAt.beh (h : IfAt s i a b c) : behN s i = c + 1 := by
  unfold behN
  rw [if_pos h.q, h.p1, h.p2, h.p3]
theorem LoopAt.beh (h : LoopAt s i a b) : behN s i = b + 1 := by
  unfold behN
  rw [if_neg (by rw [h.q]; decide), if_pos h.q, h.p1, h.p2]
theorem Simple.beh {j : Nat} (h : Simple s i j) : behN s i = j := by
  unfold behN
  rw [if_neg h.first.1, if_neg h.first.2, semN_eq h]
end

/-- what is full behind a sentence without braces -/
def simF (s : ByteArray) (i : Nat) (f : Nat → Bool) : Nat → Bool :=
  if bt s i = 126 then updB f (bt s (i + 1) - 65) false
  else if greatN (bt s i) = true ∧ bt s (i + 1) = 61 ∧ bt s (i + 2) = 91 then updB f (bt s i - 65) true
  else if greatN (bt s i) = true ∧ bt s (i + 1) = 61 ∧ bt s (i + 2) ≠ bt s i then updB (updB f (bt s i - 65) (f (bt s (i + 2) - 65))) (bt s (i + 2) - 65) false
  else f
/-- made smaller, n times -/
def iterF (T : (Nat → Bool) → Nat → Bool) : Nat → (Nat → Bool) → Nat → Bool
  | 0, f => f
  | n + 1, f => iterF T n (bothF f (T f))
def afterF (al : Nat → Nat → (Nat → Bool) → Nat → Bool) (s : ByteArray) (i : Nat) (f : Nat → Bool) : Nat → Bool :=
  if bt s i = 63 then bothF (al (bopN s (i + 1) + 1) (bbrN s (bopN s (i + 1)) - 1) f) (al (bbrN s (bopN s (i + 1)) + 1) (bbrN s (bbrN s (bopN s (i + 1))) - 1) f)
  else if bt s i = 64 then iterF (al (bopN s (i + 1) + 1) (bbrN s (bopN s (i + 1)) - 1)) 27 f
  else simF s i f
/-- what is full behind the sentences from i up to j -/
def alongF (s : ByteArray) : Nat → Nat → Nat → (Nat → Bool) → Nat → Bool
  | 0, _, _, f => f
  | F + 1, i, j, f => if i < j then alongF s F (behN s i) j (afterF (alongF s F) s i f) else f

theorem afterF_if {al : Nat → Nat → (Nat → Bool) → Nat → Bool} {s : ByteArray} {i a b c : Nat} (h : IfAt s i a b c) (f : Nat → Bool) : afterF al s i f = bothF (al (a + 1) b f) (al (b + 2) c f) := by
  unfold afterF
  rw [if_pos h.q, h.p1, h.p2, h.p3]
  rfl
theorem afterF_loop {al : Nat → Nat → (Nat → Bool) → Nat → Bool} {s : ByteArray} {i a b : Nat} (h : LoopAt s i a b) (f : Nat → Bool) : afterF al s i f = iterF (al (a + 1) b) 27 f := by
  unfold afterF
  rw [if_neg (by rw [h.q]; decide), if_pos h.q, h.p1, h.p2]
  rfl
theorem afterF_simple {al : Nat → Nat → (Nat → Bool) → Nat → Bool} {s : ByteArray} {i j : Nat} (h : Simple s i j) (f : Nat → Bool) : afterF al s i f = simF s i f := by
  unfold afterF
  rw [if_neg h.first.1, if_neg h.first.2]

/-- no box is none of the 26 -/
def Clean (f : Nat → Bool) : Prop := ∀ i, 26 ≤ i → f i = false
theorem clean_none : Clean (fun _ => false) := fun _ _ => rfl
theorem Clean.both {f g : Nat → Bool} (h : Clean f) : Clean (bothF f g) := fun i hi => by unfold bothF; rw [h i hi]; rfl
theorem Clean.upd {f : Nat → Bool} (h : Clean f) {k : Nat} (hk : k < 26) (v : Bool) : Clean (updB f k v) := fun i hi => by unfold updB; rw [if_neg (by omega)]; exact h i hi
theorem Clean.off {f : Nat → Bool} (h : Clean f) (k : Nat) : Clean (updB f k false) := fun i hi => by
  unfold updB
  split
  · rfl
  · exact h i hi
theorem box_lt {c : Nat} (h : greatN c = true) : c - 65 < 26 := by simp [greatN] at h; omega
theorem Clean.sim {s : ByteArray} {i : Nat} {f : Nat → Bool} (h : Clean f) : Clean (simF s i f) := by
  unfold simF
  split
  · exact h.off _
  · split
    · rename_i hg
      exact h.upd (box_lt hg.1) _
    · split
      · rename_i hg
        exact (h.upd (box_lt hg.1) _).off _
      · exact h
theorem Clean.iter {T : (Nat → Bool) → Nat → Bool} : ∀ {n : Nat} {f : Nat → Bool}, Clean f → Clean (iterF T n f)
  | 0, _, h => h
  | n + 1, _, h => Clean.iter (n := n) h.both
theorem Clean.after {al : Nat → Nat → (Nat → Bool) → Nat → Bool} (hal : ∀ i j f, Clean f → Clean (al i j f)) {s : ByteArray} {i : Nat} {f : Nat → Bool} (h : Clean f) : Clean (afterF al s i f) := by
  unfold afterF
  split
  · exact (hal _ _ _ h).both
  · split
    · exact h.iter
    · exact h.sim
theorem Clean.along {s : ByteArray} : ∀ {F i j : Nat} {f : Nat → Bool}, Clean f → Clean (alongF s F i j f)
  | 0, _, _, _, h => h
  | F + 1, i, j, f, h => by
    show Clean (if i < j then alongF s F (behN s i) j (afterF (alongF s F) s i f) else f)
    split
    · exact Clean.along (F := F) (Clean.after (fun a b g hg => Clean.along hg) h)
    · exact h

/-- how many of the first n boxes are in it -/
def card (f : Nat → Bool) : Nat → Nat
  | 0 => 0
  | n + 1 => card f n + (if f n then 1 else 0)
theorem card_le (f : Nat → Bool) : ∀ n, card f n ≤ n
  | 0 => Nat.le_refl _
  | n + 1 => by
    have := card_le f n
    show card f n + (if f n then 1 else 0) ≤ n + 1
    split <;> omega
theorem card_mono {f g : Nat → Bool} : ∀ {n : Nat}, (∀ i, i < n → f i = true → g i = true) → card f n ≤ card g n
  | 0, _ => Nat.le_refl _
  | n + 1, h => by
    have h1 := card_mono (n := n) (fun i hi => h i (by omega))
    show card f n + (if f n then 1 else 0) ≤ card g n + (if g n then 1 else 0)
    cases hf : f n
    · simp; omega
    · rw [h n (by omega) hf]; simp; omega
theorem card_lt {f g : Nat → Bool} : ∀ {n : Nat}, (∀ i, i < n → f i = true → g i = true) → (∃ i, i < n ∧ f i = false ∧ g i = true) → card f n < card g n
  | 0, _, h => by obtain ⟨i, hi, _⟩ := h; omega
  | n + 1, h, ⟨i, hi, h1, h2⟩ => by
    show card f n + (if f n then 1 else 0) < card g n + (if g n then 1 else 0)
    by_cases e : i = n
    · subst e
      have := card_mono (n := i) (fun k hk => h k (by omega))
      rw [h1, h2]; simp; omega
    · have := card_lt (n := n) (fun k hk => h k (by omega)) ⟨i, by omega, h1, h2⟩
      cases hf : f n
      · simp; omega
      · rw [h n (by omega) hf]; simp; omega
theorem card_both {f g : Nat → Bool} (h : ¬ subF f g) : card (bothF f g) 26 < card f 26 := by
  refine card_lt (fun i _ e => ?_) ?_
  · unfold bothF at e; simp at e; exact e.1
  · apply Classical.byContradiction
    intro hn
    apply h
    intro i hi hf
    apply Classical.byContradiction
    intro hg
    exact hn ⟨i, hi, by unfold bothF; simp [hg], hf⟩
theorem both_eq {f g : Nat → Bool} (hc : Clean f) (h : subF f g) : bothF f g = f := by
  funext i
  unfold bothF
  by_cases hi : i < 26
  · cases hf : f i
    · rfl
    · rw [h i hi hf]; rfl
  · rw [hc i (by omega)]; rfl
theorem iterF_stop {T : (Nat → Bool) → Nat → Bool} {f : Nat → Bool} (h : bothF f (T f) = f) : ∀ n, iterF T n f = f
  | 0 => rfl
  | n + 1 => by show iterF T n (bothF f (T f)) = f; rw [h]; exact iterF_stop h n
theorem iterF_add (T : (Nat → Bool) → Nat → Bool) : ∀ (m n : Nat) (f : Nat → Bool), iterF T (m + n) f = iterF T n (iterF T m f)
  | 0, n, f => by rw [Nat.zero_add]; rfl
  | m + 1, n, f => by
    rw [show m + 1 + n = (m + n) + 1 by omega]
    exact iterF_add T m n (bothF f (T f))
end Go.Proofs.YthcjcjfgdgnljabDoor

namespace Go.Proofs.YthcjcjfgdgnljabDoor
open Go.RowKit
set_option linter.unusedVariables false

/-- the zeros of a new one -/
def zrs : Array Value := #[.bool false, .bool false, .bool false, .bool false, .bool false, .bool false, .bool false, .bool false, .bool false, .bool false, .bool false, .bool false, .bool false, .bool false, .bool false, .bool false, .bool false, .bool false, .bool false, .bool false, .bool false, .bool false, .bool false, .bool false, .bool false, .bool false]
end Go.Proofs.YthcjcjfgdgnljabDoor

namespace Go.Proofs.YthcjcjfgdgnljabDoor
open Go.RowKit
set_option linter.unusedVariables false

theorem simF_other {s : ByteArray} {i : Nat} {f : Nat → Bool} (h1 : bt s i ≠ 126) (h2 : greatN (bt s i) = false ∨ bt s (i + 1) ≠ 61) : simF s i f = f := by
  unfold simF
  rw [if_neg h1]
  rcases h2 with h | h
  · rw [if_neg (by rw [h]; simp), if_neg (by rw [h]; simp)]
  · rw [if_neg (fun e => h e.2.1), if_neg (fun e => h e.2.1)]

theorem great_k {c : Nat} (h : greatN c = true) : c - 65 < 26 ∧ c = (c - 65) + 65 := by simp [greatN] at h; omega

theorem ifAt_of {s : ByteArray} {F i a b c : Nat} (e : bt s i = 63) (ho : Opnd s (i + 1) a) (ha : bt s a = 123) (hp : Prog s F (a + 1) b) (hb : bt s b = 125) (hb1 : bt s (b + 1) = 123) (hq : Prog s F (b + 2) c) (hc : bt s c = 125) : IfAt s i a b c :=
  ⟨e, ho, ha, hp.nn, hb, hb1, hq.nn, hc⟩
theorem loopAt_of {s : ByteArray} {F i a b : Nat} (e : bt s i = 64) (ho : Opnd s (i + 1) a) (ha : bt s a = 123) (hp : Prog s F (a + 1) b) (hb : bt s b = 125) : LoopAt s i a b :=
  ⟨e, ho, ha, hp.nn, hb⟩

theorem beh_of {s : ByteArray} {F i m : Nat} (h : StmtF (Prog s F) s i m) : behN s i = m := by
  rcases h with h | ⟨e, a, b, c, ho, ha, hp, hb, hb1, hq, hc', rfl⟩ | ⟨e, a, b, ho, ha, hp, hb, rfl⟩
  · exact h.beh
  · exact (ifAt_of e ho ha hp hb hb1 hq hc').beh
  · exact (loopAt_of e ho ha hp hb).beh
theorem alongF_step {s : ByteArray} {F i m j : Nat} (h : StmtF (Prog s F) s i m) (hij : i < j) (f : Nat → Bool) : alongF s (F + 1) i j f = alongF s F m j (afterF (alongF s F) s i f) := by
  show (if i < j then alongF s F (behN s i) j (afterF (alongF s F) s i f) else f) = _
  rw [if_pos hij, beh_of h]
theorem alongF_end {s : ByteArray} {F i : Nat} (f : Nat → Bool) : alongF s F i i f = f := by
  cases F with
  | zero => rfl
  | succ F => show (if i < i then _ else f) = f; rw [if_neg (Nat.lt_irrefl _)]

end Go.Proofs.YthcjcjfgdgnljabDoor

namespace Go.Proofs.YthcjcjfgdgnljabDoor
open Go.RowKit
set_option linter.unusedVariables false

/-- the place of the letter of the box that the sentence at i uses; -1: it uses none -/
def useN (s : ByteArray) (i : Nat) : Int :=
  if bt s i = 126 then (i : Int) + 1
  else if greatN (bt s i) = true ∧ bt s (i + 1) = 91 then (i : Int)
  else if greatN (bt s i) = true ∧ greatN (bt s (i + 2)) = true then (i : Int) + 2
  else if smallN (bt s i) = true ∧ bt s (i + 2) = 35 then (i : Int) + 3
  else if smallN (bt s i) = true ∧ greatN (bt s (i + 2)) = true then (i : Int) + 2
  else -1

theorem Opnd.head {s : ByteArray} {i j : Nat} (h : Opnd s i j) : greatN (bt s i) = false ∧ bt s i ≠ 35 ∧ i < s.size := by
  rcases h with ⟨h, _⟩ | ⟨h1, _, h2⟩
  · have := small_in h
    exact ⟨this.2.2.2.2, fun e => by rw [e] at h; simp [smallN] at h, this.1⟩
  · have h3 := h2 i (Nat.le_refl _) h1
    have := digit_in h3
    exact ⟨this.2.2.2.2, fun e => by rw [e] at h3; simp [digitN] at h3, this.1⟩

end Go.Proofs.YthcjcjfgdgnljabDoor

namespace Go.Proofs.YthcjcjfgdgnljabDoor
open Go.RowKit
set_option linter.unusedVariables false

/-- the first such place of the sentence at i -/
def misP (s : ByteArray) (al : Nat → Nat → (Nat → Bool) → Nat → Bool) (mis : Nat → Nat → (Nat → Bool) → Int) (i : Nat) (f : Nat → Bool) : Int :=
  if bt s i = 63 then (if mis (bopN s (i + 1) + 1) (bbrN s (bopN s (i + 1)) - 1) f < 0 then mis (bbrN s (bopN s (i + 1)) + 1) (bbrN s (bbrN s (bopN s (i + 1))) - 1) f else mis (bopN s (i + 1) + 1) (bbrN s (bopN s (i + 1)) - 1) f)
  else if bt s i = 64 then mis (bopN s (i + 1) + 1) (bbrN s (bopN s (i + 1)) - 1) (iterF (al (bopN s (i + 1) + 1) (bbrN s (bopN s (i + 1)) - 1)) 27 f)
  else if 0 ≤ useN s i ∧ f (bt s (useN s i).toNat - 65) = false then useN s i else -1
def misN (s : ByteArray) : Nat → Nat → Nat → (Nat → Bool) → Int
  | 0, _, _, _ => -1
  | F + 1, i, j, f => if i < j then (if 0 ≤ misP s (alongF s F) (misN s F) i f then misP s (alongF s F) (misN s F) i f else misN s F (behN s i) j (afterF (alongF s F) s i f)) else -1
theorem misP_if {s : ByteArray} {al : Nat → Nat → (Nat → Bool) → Nat → Bool} {mis : Nat → Nat → (Nat → Bool) → Int} {i a b c : Nat} (h : IfAt s i a b c) (f : Nat → Bool) :
    misP s al mis i f = if mis (a + 1) b f < 0 then mis (b + 2) c f else mis (a + 1) b f := by
  unfold misP
  rw [if_pos h.q, h.p1, h.p2, h.p3]
  rfl
theorem misP_loop {s : ByteArray} {al : Nat → Nat → (Nat → Bool) → Nat → Bool} {mis : Nat → Nat → (Nat → Bool) → Int} {i a b : Nat} (h : LoopAt s i a b) (f : Nat → Bool) :
    misP s al mis i f = mis (a + 1) b (iterF (al (a + 1) b) 27 f) := by
  unfold misP
  rw [if_neg (by rw [h.q]; decide), if_pos h.q, h.p1, h.p2]
  rfl
theorem misP_simple {s : ByteArray} {al : Nat → Nat → (Nat → Bool) → Nat → Bool} {mis : Nat → Nat → (Nat → Bool) → Int} {i j : Nat} (h : Simple s i j) (f : Nat → Bool) :
    misP s al mis i f = if 0 ≤ useN s i ∧ f (bt s (useN s i).toNat - 65) = false then useN s i else -1 := by
  unfold misP
  rw [if_neg h.first.1, if_neg h.first.2]
theorem misN_step {s : ByteArray} {F i m j : Nat} (h : StmtF (Prog s F) s i m) (hij : i < j) (f : Nat → Bool) :
    misN s (F + 1) i j f = if 0 ≤ misP s (alongF s F) (misN s F) i f then misP s (alongF s F) (misN s F) i f else misN s F m j (afterF (alongF s F) s i f) := by
  show (if i < j then _ else _) = _
  rw [if_pos hij, beh_of h]
theorem misN_end {s : ByteArray} {F i : Nat} (f : Nat → Bool) : misN s F i i f = -1 := by
  cases F with
  | zero => rfl
  | succ F => show (if i < i then _ else (-1 : Int)) = -1; rw [if_neg (Nat.lt_irrefl _)]

end Go.Proofs.YthcjcjfgdgnljabDoor

namespace Go.Proofs.YthcjcjfgdgnljabDoor
open Go.RowKit
set_option linter.unusedVariables false

theorem runN_zero (s : ByteArray) : ∀ (m : Nat) (S : List (Nat × Bool)) (i : Nat) (d : Int), (runN s m S i d).1 = 0 → runN s m S i d = (0, 0)
  | 0, S, i, d, h => by
    unfold runN at h ⊢
    split at h
    · simp at h
    · rename_i hn
      rw [if_neg hn]
  | m + 1, S, i, d, h => by
    unfold runN at h ⊢
    split at h
    · simp at h
    · rename_i hn
      rw [if_neg hn]
      split at h
      · rename_i h1
        rw [if_pos h1]
        split at h
        · simp at h
        · rename_i h2
          rw [if_neg h2]
          exact runN_zero s m _ _ _ h
      · rename_i h1
        rw [if_neg h1]
        exact runN_zero s m _ _ _ h
theorem run_zero {s : ByteArray} {S : List (Nat × Bool)} {i : Nat} {d : Int} (h : (run s S i d).1 = 0) : run s S i d = (0, 0) := runN_zero s _ _ _ _ h

/-- the first place at which a box is used that is not full; -1: there is none -/
def misT (s : ByteArray) : Int := misN s (s.size + 1) 0 s.size (fun _ => false)
/-- P6 and P7, as a function of the text -/
def checkN (s : ByteArray) : Nat × Int :=
  if 400 < s.size then (1, 0)
  else if (run s [(83, true)] 0 0).1 ≠ 0 then ((run s [(83, true)] 0 0).1, ((run s [(83, true)] 0 0).2 : Int))
  else if 0 ≤ misT s then (4, misT s) else (0, 0)

end Go.Proofs.YthcjcjfgdgnljabDoor

namespace Go.Proofs.YthcjcjfgdgnljabDoor
open Go.RowKit
set_option linter.unusedVariables false

/-- the number of n digits from place i on -/
def decN (s : ByteArray) (i : Nat) : Nat → Nat
  | 0 => 0
  | n + 1 => 10 * decN s i n + (bt s (i + n) - 48)
theorem decN_lt {s : ByteArray} {i : Nat} : ∀ {n : Nat}, (∀ k, i ≤ k → k < i + n → digitN (bt s k) = true) → decN s i n < 10 ^ n
  | 0, _ => by simp [decN]
  | n + 1, h => by
    have h1 := decN_lt (n := n) (fun k a b => h k a (by omega))
    have h2 := h (i + n) (by omega) (by omega)
    simp [digitN] at h2
    have h3 : 10 ^ (n + 1) = 10 * 10 ^ n := by rw [Nat.pow_succ, Nat.mul_comm]
    show 10 * decN s i n + (bt s (i + n) - 48) < 10 ^ (n + 1)
    rw [h3]
    omega
/-- what an operand from i up to j is worth -/
def valN (s : ByteArray) (num : Nat → Int) (i j : Nat) : Int := if smallN (bt s i) = true then num (bt s i - 97) else (decN s i (j - i) : Int)
end Go.Proofs.YthcjcjfgdgnljabDoor

namespace Go.Proofs.YthcjcjfgdgnljabDoor
open Go.RowKit
set_option linter.unusedVariables false

/-- the operand at a place -/
def odN (s : ByteArray) (i : Nat) : Od := if smallN (bt s i) = true then .n (bt s i - 97) else .v (decN s i (bopN s i - i))
/-- the sentence without braces at a place -/
def acN (s : ByteArray) (i : Nat) : Ac :=
  if bt s i = 126 then .drop (bt s (i + 1) - 65)
  else if bt s i = 33 then .print (odN s (i + 1))
  else if smallN (bt s i) = true then
    (if bt s (i + 2) = 35 then .size (bt s i - 97) (bt s (i + 3) - 65)
     else if greatN (bt s (i + 2)) = true then .load (bt s i - 97) (bt s (i + 2) - 65) (odN s (i + 4))
     else if bt s (bopN s (i + 2)) = 59 then .set (bt s i - 97) (odN s (i + 2))
     else .bin (bt s i - 97) (odN s (i + 2)) (bt s (bopN s (i + 2))) (odN s (bopN s (i + 2) + 1)))
  else if bt s (i + 1) = 91 then .store (bt s i - 65) (odN s (i + 2)) (odN s (bopN s (i + 2) + 2))
  else if bt s (i + 2) = 91 then .make (bt s i - 65) (odN s (i + 3))
  else .move (bt s i - 65) (bt s (i + 2) - 65)
/-- the sentences from i up to j -/
def pgN (s : ByteArray) : Nat → Nat → Nat → Pg
  | 0, _, _ => .nil
  | F + 1, i, j => if i < j then
      (if bt s i = 63 then .ite (odN s (i + 1)) (pgN s F (bopN s (i + 1) + 1) (bbrN s (bopN s (i + 1)) - 1)) (pgN s F (bbrN s (bopN s (i + 1)) + 1) (bbrN s (bbrN s (bopN s (i + 1))) - 1)) (pgN s F (behN s i) j)
       else if bt s i = 64 then .loop (odN s (i + 1)) (pgN s F (bopN s (i + 1) + 1) (bbrN s (bopN s (i + 1)) - 1)) (pgN s F (behN s i) j)
       else .act (acN s i) (pgN s F (behN s i) j)) else .nil
theorem pgN_end {s : ByteArray} {F i : Nat} : pgN s F i i = .nil := by
  cases F with
  | zero => rfl
  | succ F => show (if i < i then _ else Pg.nil) = .nil; rw [if_neg (Nat.lt_irrefl _)]
theorem pgN_if {s : ByteArray} {F i j a b c : Nat} (h : IfAt s i a b c) (hj : i < j) : pgN s (F + 1) i j = .ite (odN s (i + 1)) (pgN s F (a + 1) b) (pgN s F (b + 2) c) (pgN s F (c + 1) j) := by
  show (if i < j then _ else _) = _
  rw [if_pos hj, if_pos h.q, h.beh, h.p1, h.p2, h.p3]
  rfl
theorem pgN_loop {s : ByteArray} {F i j a b : Nat} (h : LoopAt s i a b) (hj : i < j) : pgN s (F + 1) i j = .loop (odN s (i + 1)) (pgN s F (a + 1) b) (pgN s F (b + 1) j) := by
  show (if i < j then _ else _) = _
  rw [if_pos hj, if_neg (by rw [h.q]; decide), if_pos h.q, h.beh, h.p1, h.p2]
  rfl
theorem pgN_simple {s : ByteArray} {F i j m : Nat} (h : Simple s i m) (hj : i < j) : pgN s (F + 1) i j = .act (acN s i) (pgN s F m j) := by
  show (if i < j then _ else _) = _
  rw [if_pos hj, if_neg h.first.1, if_neg h.first.2, h.beh]
theorem odN_val {s : ByteArray} {i j : Nat} (h : Opnd s i j) (hj : j < s.size) (hd : digitN (bt s j) = false) (num : Nat → Nat) : valN s (fun k => (num k : Int)) i j = (valO num (odN s i) : Int) := by
  unfold valN odN
  rw [bopN_eq h hj hd]
  split <;> rfl
/-- a number of the program is one of the 26, a value below 1000 -/
def OdOk : Od → Prop
  | .n k => k < 26
  | .v x => x < 1000
theorem odN_ok {s : ByteArray} {i j : Nat} (h : Opnd s i j) (hj : j < s.size) (hd : digitN (bt s j) = false) : OdOk (odN s i) := by
  unfold odN
  rw [bopN_eq h hj hd]
  rcases h with ⟨h, rfl⟩ | ⟨h1, h2, h3⟩
  · rw [if_pos h]
    show bt s i - 97 < 26
    simp [smallN] at h
    omega
  · rw [if_neg (by rw [(digit_in (h3 i (Nat.le_refl _) h1)).2.2.2.1]; simp)]
    show decN s i (j - i) < 1000
    exact Nat.lt_of_lt_of_le (decN_lt (fun q a b => h3 q a (by omega))) (Nat.le_trans (Nat.pow_le_pow_right (by decide) (show j - i ≤ 3 by omega)) (by decide))

/-- what is full behind a sentence without braces -/
def aftA : Ac → (Nat → Bool) → Nat → Bool
  | .make b _, f => updB f b true
  | .drop b, f => updB f b false
  | .move b c, f => if b = c then f else updB (updB f b (f c)) c false
  | _, f => f
/-- the box that it uses -/
def useA : Ac → Option Nat
  | .load _ b _ => some b
  | .size _ b => some b
  | .store b _ _ => some b
  | .drop b => some b
  | .move _ c => some c
  | _ => none
def aftG : Pg → (Nat → Bool) → Nat → Bool
  | .nil, f => f
  | .act a r, f => aftG r (aftA a f)
  | .ite _ p q r, f => aftG r (bothF (aftG p f) (aftG q f))
  | .loop _ p r, f => aftG r (iterF (aftG p) 27 f)
/-- no box is used that is not full -/
def okG : Pg → (Nat → Bool) → Prop
  | .nil, _ => True
  | .act a r, f => (∀ b, useA a = some b → f b = true) ∧ okG r (aftA a f)
  | .ite _ p q r, f => okG p f ∧ okG q f ∧ okG r (bothF (aftG p f) (aftG q f))
  | .loop _ p r, f => okG p (iterF (aftG p) 27 f) ∧ okG r (iterF (aftG p) 27 f)

theorem aftG_act (a : Ac) (r : Pg) (f : Nat → Bool) : aftG (.act a r) f = aftG r (aftA a f) := by rw [aftG]
theorem aftG_ite (o : Od) (p q r : Pg) (f : Nat → Bool) : aftG (.ite o p q r) f = aftG r (bothF (aftG p f) (aftG q f)) := by rw [aftG]
theorem aftG_loop (o : Od) (p r : Pg) (f : Nat → Bool) : aftG (.loop o p r) f = aftG r (iterF (aftG p) 27 f) := by rw [aftG]
theorem okG_act (a : Ac) (r : Pg) (f : Nat → Bool) : okG (.act a r) f = ((∀ b, useA a = some b → f b = true) ∧ okG r (aftA a f)) := by rw [okG]
theorem okG_ite (o : Od) (p q r : Pg) (f : Nat → Bool) : okG (.ite o p q r) f = (okG p f ∧ okG q f ∧ okG r (bothF (aftG p f) (aftG q f))) := by rw [okG]
theorem okG_loop (o : Od) (p r : Pg) (f : Nat → Bool) : okG (.loop o p r) f = (okG p (iterF (aftG p) 27 f) ∧ okG r (iterF (aftG p) 27 f)) := by rw [okG]

section
variable {s : ByteArray} {i j : Nat}
theorem sm_ne (h : smallN (bt s i) = true) : bt s i ≠ 126 ∧ bt s i ≠ 33 ∧ greatN (bt s i) = false := ⟨fun e => by rw [e] at h; simp [smallN] at h, fun e => by rw [e] at h; simp [smallN] at h, (small_in h).2.2.2.2⟩
theorem gr_ne (h : greatN (bt s i) = true) : bt s i ≠ 126 ∧ bt s i ≠ 33 ∧ smallN (bt s i) = false := ⟨fun e => by rw [e] at h; simp [greatN] at h, fun e => by rw [e] at h; simp [greatN] at h, (great_in h).2.2.2.2⟩
theorem acN_size (h : KSize s i j) : acN s i = .size (bt s i - 97) (bt s (i + 3) - 65) := by
  obtain ⟨h1, h2, h3, h4, h5, _⟩ := h
  obtain ⟨a, b, c⟩ := sm_ne h1
  unfold acN
  rw [if_neg a, if_neg b, if_pos h1, if_pos h3]
theorem acN_load (h : KLoad s i j) : acN s i = .load (bt s i - 97) (bt s (i + 2) - 65) (odN s (i + 4)) := by
  obtain ⟨h1, h2, h3, h4, _⟩ := h
  obtain ⟨a, b, c⟩ := sm_ne h1
  unfold acN
  rw [if_neg a, if_neg b, if_pos h1, if_neg (fun e => by rw [e] at h3; simp [greatN] at h3), if_pos h3]
theorem acN_set {k : Nat} (h1 : smallN (bt s i) = true) (ho : Opnd s (i + 2) k) (h5 : bt s k = 59) : acN s i = .set (bt s i - 97) (odN s (i + 2)) := by
  obtain ⟨a, b, c⟩ := sm_ne h1
  obtain ⟨g1, g2, g3⟩ := ho.head
  unfold acN
  rw [if_neg a, if_neg b, if_pos h1, if_neg g2, if_neg (by rw [g1]; simp), bopN_eq ho (byte_in h5 (by decide)) (nodigit h5 (.inr (.inl rfl))), if_pos h5]
theorem acN_bin {k : Nat} (h1 : smallN (bt s i) = true) (ho : Opnd s (i + 2) k) (h5 : isOp (bt s k)) (hk : k < s.size) : acN s i = .bin (bt s i - 97) (odN s (i + 2)) (bt s k) (odN s (k + 1)) := by
  obtain ⟨a, b, c⟩ := sm_ne h1
  obtain ⟨g1, g2, g3⟩ := ho.head
  have hd : digitN (bt s k) = false := by
    unfold isOp at h5
    rcases h5 with h5 | h5 | h5 | h5 | h5 <;> rw [h5] <;> rfl
  unfold acN
  rw [if_neg a, if_neg b, if_pos h1, if_neg g2, if_neg (by rw [g1]; simp), bopN_eq ho hk hd, if_neg (fun e => by rw [e] at h5; unfold isOp at h5; omega)]
theorem acN_store {k : Nat} (h1 : greatN (bt s i) = true) (h2 : bt s (i + 1) = 91) (ho : Opnd s (i + 2) k) (h5 : bt s k = 93) : acN s i = .store (bt s i - 65) (odN s (i + 2)) (odN s (k + 2)) := by
  obtain ⟨a, b, c⟩ := gr_ne h1
  unfold acN
  rw [if_neg a, if_neg b, if_neg (by rw [c]; simp), if_pos h2, bopN_eq ho (byte_in h5 (by decide)) (nodigit h5 (.inr (.inr rfl)))]
theorem acN_make (h : KMake s i j) : acN s i = .make (bt s i - 65) (odN s (i + 3)) := by
  obtain ⟨h1, h2, h3, _⟩ := h
  obtain ⟨a, b, c⟩ := gr_ne h1
  unfold acN
  rw [if_neg a, if_neg b, if_neg (by rw [c]; simp), if_neg (by omega), if_pos h3]
theorem acN_move (h : KMove s i j) : acN s i = .move (bt s i - 65) (bt s (i + 2) - 65) := by
  obtain ⟨h1, h2, h3, _⟩ := h
  obtain ⟨a, b, c⟩ := gr_ne h1
  unfold acN
  rw [if_neg a, if_neg b, if_neg (by rw [c]; simp), if_neg (by omega), if_neg (fun e => by rw [e] at h3; simp [greatN] at h3)]
theorem acN_print (h : bt s i = 33) : acN s i = .print (odN s (i + 1)) := by
  unfold acN
  rw [if_neg (by omega), if_pos h]
theorem acN_drop (h : bt s i = 126) : acN s i = .drop (bt s (i + 1) - 65) := by
  unfold acN
  rw [if_pos h]

/-- the text's own words for it -/
theorem simple_words (h : Simple s i j) : (∀ f, simF s i f = aftA (acN s i) f) ∧ ((useA (acN s i) = none ∧ useN s i = -1) ∨ ∃ b, useA (acN s i) = some b ∧ 0 ≤ useN s i ∧ bt s (useN s i).toNat - 65 = b) := by
  rcases h with h | h | h | h | h | h | h | h | h
  · rw [acN_size h]
    obtain ⟨hm, e1, e2, hg, e4, rfl⟩ := h
    obtain ⟨n126, n33, ng⟩ := sm_ne hm
    refine ⟨fun f => simF_other n126 (.inl ng), .inr ⟨_, rfl, ?_⟩⟩
    unfold useN
    rw [if_neg n126, if_neg (by simp [ng]), if_neg (by simp [ng]), if_pos ⟨hm, e2⟩]
    exact ⟨by omega, rfl⟩
  · rw [acN_load h]
    obtain ⟨hm, e1, hg, e3, k, ho, e5, e6, rfl⟩ := h
    obtain ⟨n126, n33, ng⟩ := sm_ne hm
    have h35 : bt s (i + 2) ≠ 35 := fun e => by rw [e] at hg; simp [greatN] at hg
    refine ⟨fun f => simF_other n126 (.inl ng), .inr ⟨_, rfl, ?_⟩⟩
    unfold useN
    rw [if_neg n126, if_neg (by simp [ng]), if_neg (by simp [ng]), if_neg (fun q => h35 q.2), if_pos ⟨hm, hg⟩]
    exact ⟨by omega, rfl⟩
  · obtain ⟨hm, e1, k, ho, e5, rfl⟩ := h
    rw [acN_set hm ho e5]
    obtain ⟨n126, n33, ng⟩ := sm_ne hm
    obtain ⟨hg2, h35, hi2⟩ := ho.head
    refine ⟨fun f => simF_other n126 (.inl ng), .inl ⟨rfl, ?_⟩⟩
    unfold useN
    rw [if_neg n126, if_neg (by simp [ng]), if_neg (by simp [ng]), if_neg (fun q => h35 q.2), if_neg (by simp [hg2])]
  · obtain ⟨hm, e1, k, l, ho, hop2, ho2, e5, rfl⟩ := h
    rw [acN_bin hm ho hop2 (byte_in rfl (by unfold isOp at hop2; omega))]
    obtain ⟨n126, n33, ng⟩ := sm_ne hm
    obtain ⟨hg2, h35, hi2⟩ := ho.head
    refine ⟨fun f => simF_other n126 (.inl ng), .inl ⟨rfl, ?_⟩⟩
    unfold useN
    rw [if_neg n126, if_neg (by simp [ng]), if_neg (by simp [ng]), if_neg (fun q => h35 q.2), if_neg (by simp [hg2])]
  · obtain ⟨hg, e1, k, l, ho, e2, e3, ho2, e5, rfl⟩ := h
    rw [acN_store hg e1 ho e2]
    obtain ⟨n126, n33, nm⟩ := gr_ne hg
    refine ⟨fun f => simF_other n126 (.inr (by rw [e1]; decide)), .inr ⟨_, rfl, ?_⟩⟩
    unfold useN
    rw [if_neg n126, if_pos ⟨hg, e1⟩]
    exact ⟨by omega, rfl⟩
  · rw [acN_make h]
    obtain ⟨hg, e1, e2, k, ho, e3, e5, rfl⟩ := h
    obtain ⟨n126, n33, nm⟩ := gr_ne hg
    have hg2 : greatN (bt s (i + 2)) = false := by rw [e2]; rfl
    refine ⟨fun f => ?_, .inl ⟨rfl, ?_⟩⟩
    · unfold simF
      rw [if_neg n126, if_pos ⟨hg, e1, e2⟩]
      rfl
    · unfold useN
      rw [if_neg n126, if_neg (fun q => by rw [e1] at q; exact absurd q.2 (by decide)), if_neg (by simp [hg2]), if_neg (by simp [nm]), if_neg (by simp [nm])]
  · rw [acN_move h]
    obtain ⟨hg, e1, hg2, e5, rfl⟩ := h
    obtain ⟨n126, n33, nm⟩ := gr_ne hg
    have h91 : bt s (i + 2) ≠ 91 := fun e => by rw [e] at hg2; simp [greatN] at hg2
    refine ⟨fun f => ?_, .inr ⟨_, rfl, ?_⟩⟩
    · unfold simF
      rw [if_neg n126, if_neg (fun q => h91 q.2.2)]
      show _ = if bt s i - 65 = bt s (i + 2) - 65 then f else _
      by_cases e : bt s (i + 2) = bt s i
      · rw [if_neg (fun q => q.2.2 e), e, if_pos rfl]
      · rw [if_pos ⟨hg, e1, e⟩, if_neg]
        simp [greatN] at hg hg2
        omega
    · unfold useN
      rw [if_neg n126, if_neg (fun q => by rw [e1] at q; exact absurd q.2 (by decide)), if_pos ⟨hg, hg2⟩]
      exact ⟨by omega, rfl⟩
  · obtain ⟨e0, k, ho, e5, rfl⟩ := h
    rw [acN_print e0]
    have nm : smallN (bt s i) = false := by rw [e0]; rfl
    have ng : greatN (bt s i) = false := by rw [e0]; rfl
    refine ⟨fun f => simF_other (by omega) (.inl ng), .inl ⟨rfl, ?_⟩⟩
    unfold useN
    rw [if_neg (by omega), if_neg (by simp [ng]), if_neg (by simp [ng]), if_neg (by simp [nm]), if_neg (by simp [nm])]
  · obtain ⟨e0, hg, e5, rfl⟩ := h
    rw [acN_drop e0]
    refine ⟨fun f => ?_, .inr ⟨_, rfl, ?_⟩⟩
    · unfold simF
      rw [if_pos e0]
      rfl
    · unfold useN
      rw [if_pos e0]
      exact ⟨by omega, rfl⟩
end

theorem iter_congr {S T : (Nat → Bool) → Nat → Bool} (h : ∀ f, S f = T f) : ∀ (n : Nat) (f : Nat → Bool), iterF S n f = iterF T n f
  | 0, f => rfl
  | n + 1, f => by
    show iterF S n (bothF f (S f)) = iterF T n (bothF f (T f))
    rw [h f, iter_congr h n]
/-- the text's sets are the tree's -/
theorem along_pg {s : ByteArray} : ∀ (F i j : Nat), Prog s F i j → (∀ f, alongF s F i j f = aftG (pgN s F i j) f) ∧ (∀ f, misN s F i j f < 0 → okG (pgN s F i j) f)
  | 0, i, j, h => ⟨fun f => rfl, fun f _ => trivial⟩
  | F + 1, i, j, h => by
    rcases h with h | ⟨m, hst, hr⟩
    · subst h
      rw [pgN_end]
      refine ⟨fun f => ?_, fun f _ => trivial⟩
      show (if i < i then _ else f) = f
      rw [if_neg (Nat.lt_irrefl _)]
    · have hmj := hr.le
      have hlt := hst.lt
      have hbeh := beh_of hst
      have hij : i < j := by omega
      obtain ⟨r1, r2⟩ := along_pg F m j hr
      have key : ∀ f, misN s (F + 1) i j f < 0 → misP s (alongF s F) (misN s F) i f < 0 ∧ misN s F m j (afterF (alongF s F) s i f) < 0 := fun f hf => by
        rw [misN_step hst hij] at hf
        split at hf
        · omega
        · exact ⟨by omega, hf⟩
      have step : ∀ f, alongF s (F + 1) i j f = alongF s F m j (afterF (alongF s F) s i f) := fun f => by
        show (if i < j then alongF s F (behN s i) j (afterF (alongF s F) s i f) else f) = _
        rw [if_pos hij, hbeh]
      rcases hst with h | ⟨e, a, b, c, ho, ha, hp, hb, hb1, hq, hc, rfl⟩ | ⟨e, a, b, ho, ha, hp, hb, rfl⟩
      · rw [pgN_simple h hij]
        obtain ⟨w1, w2⟩ := simple_words h
        refine ⟨fun f => ?_, fun f hf => ?_⟩
        · rw [step, afterF_simple h, r1, w1, aftG_act]
        · obtain ⟨k1, k2⟩ := key f hf
          rw [afterF_simple h, w1] at k2
          rw [okG_act]
          refine ⟨fun b hb => ?_, r2 _ k2⟩
          rw [misP_simple h] at k1
          rcases w2 with ⟨w3, _⟩ | ⟨b', w3, w4, w5⟩
          · rw [w3] at hb; cases hb
          · rw [w3] at hb
            cases hb
            cases hfb : f b
            · rw [if_pos ⟨w4, by rw [w5]; exact hfb⟩] at k1; omega
            · rfl
      · have hI := ifAt_of e ho ha hp hb hb1 hq hc
        rw [pgN_if hI hij]
        obtain ⟨p1, p2⟩ := along_pg F _ _ hp
        obtain ⟨q1, q2⟩ := along_pg F _ _ hq
        refine ⟨fun f => ?_, fun f hf => ?_⟩
        · rw [step, afterF_if hI, r1, p1, q1, aftG_ite]
        · obtain ⟨k1, k2⟩ := key f hf
          rw [afterF_if hI, p1, q1] at k2
          rw [misP_if hI] at k1
          rw [okG_ite]
          split at k1
          · exact ⟨p2 _ (by assumption), q2 _ k1, r2 _ k2⟩
          · omega
      · have hL := loopAt_of e ho ha hp hb
        rw [pgN_loop hL hij]
        obtain ⟨p1, p2⟩ := along_pg F _ _ hp
        have hit : ∀ f, iterF (alongF s F (a + 1) b) 27 f = iterF (aftG (pgN s F (a + 1) b)) 27 f := iter_congr p1 27
        refine ⟨fun f => ?_, fun f hf => ?_⟩
        · rw [step, afterF_loop hL, r1, hit, aftG_loop]
        · obtain ⟨k1, k2⟩ := key f hf
          rw [afterF_loop hL, hit] at k2
          rw [misP_loop hL, hit] at k1
          rw [okG_loop]
          exact ⟨p2 _ k1, r2 _ k2⟩
end Go.Proofs.YthcjcjfgdgnljabDoor
