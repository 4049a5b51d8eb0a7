/-
  TurA, TurB, RunA, RunB, RunC: one behind the other.
-/
import Derived.Test.YthcjcjfgdgnljabDoorGLowA
import Derived.Test.YthcjcjfgdgnljabDoorGMacB
namespace Go.Proofs.YthcjcjfgdgnljabDoor
set_option linter.unusedVariables false

/-- a letter? -/
def letN (c : Nat) : Bool := smallN c || greatN c
/-- another letter of the same kind -/
def lettN (a b c : Nat) : Nat := if smallN c = true then 97 + (c - 97 + a) % 26 else if greatN c = true then 65 + (c - 65 + b) % 26 else c
theorem lett_small {a b c : Nat} : smallN (lettN a b c) = smallN c := by
  unfold lettN
  by_cases h : smallN c = true
  · rw [if_pos h, h]; simp [smallN]; omega
  · rw [if_neg h]
    by_cases g : greatN c = true
    · rw [if_pos g]
      have e : smallN c = false := by simpa using h
      rw [e]; simp [smallN]; omega
    · rw [if_neg g]
theorem lett_great {a b c : Nat} : greatN (lettN a b c) = greatN c := by
  unfold lettN
  by_cases h : smallN c = true
  · rw [if_pos h]
    have e : greatN c = false := by simp [smallN, greatN] at h ⊢; omega
    rw [e]; simp [greatN]; omega
  · rw [if_neg h]
    by_cases g : greatN c = true
    · rw [if_pos g, g]; simp [greatN]; omega
    · rw [if_neg g]
theorem lett_let {a b c : Nat} : letN (lettN a b c) = letN c := by unfold letN; rw [lett_small, lett_great]
theorem lett_no {a b c : Nat} (h : letN c = false) : lettN a b c = c := by
  unfold letN at h
  simp only [Bool.or_eq_false_iff] at h
  unfold lettN
  rw [if_neg (by rw [h.1]; simp), if_neg (by rw [h.2]; simp)]
/-- to be a sign that is no letter -/
theorem lett_eq {a b c x : Nat} (hx : letN x = false) : lettN a b c = x ↔ c = x := by
  by_cases h : letN c = true
  · constructor
    · intro e
      have := lett_let (a := a) (b := b) (c := c)
      rw [e, hx, h] at this
      cases this
    · intro e; rw [e, hx] at h; cases h
  · rw [lett_no (by simpa using h)]
theorem lett_digit {a b c : Nat} : digitN (lettN a b c) = digitN c := by
  by_cases h : letN c = true
  · have h2 := lett_let (a := a) (b := b) (c := c)
    rw [h] at h2
    have key : ∀ {x : Nat}, letN x = true → digitN x = false := fun {x} hx => by simp [letN, smallN, greatN, digitN] at hx ⊢; omega
    rw [key h, key h2]
  · rw [lett_no (by simpa using h)]

/-- what is expected behind a letter, small or great -/
def adv (sm : Bool) : List (Nat × Bool) → Option (List (Nat × Bool))
  | [] => none
  | (_, false) :: _ => none
  | (b, true) :: t =>
    if b = 83 then some (if sm then (61, false) :: (103, true) :: (59, false) :: (83, true) :: t else (112, true) :: (59, false) :: (83, true) :: t)
    else if b = 111 then (if sm then some t else none)
    else if b = 100 then adv sm t
    else if b = 101 then adv sm t
    else if b = 86 then (if sm then none else some t)
    else if b = 103 then some (if sm then (116, true) :: t else (91, false) :: (111, true) :: (93, false) :: t)
    else if b = 116 then adv sm t
    else if b = 71 then (if sm then none else some t)
    else none
def OkT (S : List (Nat × Bool)) : Prop := ∀ e, e ∈ S → e.2 = false → letN e.1 = false
theorem OkT.tl {e : Nat × Bool} {S : List (Nat × Bool)} (h : OkT (e :: S)) : OkT S := fun x hx => h x (List.mem_cons_of_mem _ hx)
theorem OkT.cons {e : Nat × Bool} {S : List (Nat × Bool)} (he : e.2 = false → letN e.1 = false) (h : OkT S) : OkT (e :: S) := fun x hx => by
  rcases List.mem_cons.1 hx with q | q
  · subst q; exact he
  · exact h x q
def badO (o : List (Nat × Bool) × Bool × Bool) (c : Nat) : Bool := o.2.2 || !o.2.1 || !((o.1.headD (0, false)).1 == c)
theorem openN_top {f c : Nat} {t : List (Nat × Bool)} (b : Nat) : openN (f + 1) ((b, false) :: t) c = ((b, false) :: t, true, false) := by rw [openN]
/-- a letter is met -/
theorem open_let {c : Nat} {sm : Bool} (hl : letN c = true) (hs : smallN c = sm) (hg : greatN c = !sm) : ∀ (S : List (Nat × Bool)) (f : Nat), mu S < f → OkT S →
    (∀ T, adv sm S = some T → openN f S c = ((c, false) :: T, true, false)) ∧ (adv sm S = none → badO (openN f S c) c = true)
  | [], f, hf, hok => by
    obtain ⟨f, rfl⟩ : ∃ g, f = g + 1 := ⟨f - 1, by omega⟩
    refine ⟨fun T h => by simp [adv] at h, fun _ => ?_⟩
    rw [openN]; rfl
  | (b, false) :: t, f, hf, hok => by
    obtain ⟨f, rfl⟩ : ∃ g, f = g + 1 := ⟨f - 1, by omega⟩
    refine ⟨fun T h => by simp [adv] at h, fun _ => ?_⟩
    rw [openN_top]
    have := hok (b, false) (List.mem_cons_self) rfl
    have hne : (b == c) = false := beq_eq_false_iff_ne.2 (fun e => by rw [e, hl] at this; cases this)
    simp [badO, hne]
  | (b, true) :: t, f, hf, hok => by
    obtain ⟨f, rfl⟩ : ∃ g, f = g + 1 := ⟨f - 1, by omega⟩
    have hmu : mu ((b, true) :: t) = rank b + mu t := rfl
    have hrk := rank_pos b
    rw [hmu] at hf
    have ih := open_let hl hs hg t f (by omega) hok.tl
    have hd : digitN c = false := by simp [letN, smallN, greatN, digitN] at hl ⊢; omega
    have hneq : ∀ {x : Nat}, letN x = false → c ≠ x := fun {x} hx e => by rw [e, hx] at hl; cases hl
    obtain ⟨f', rfl⟩ : ∃ g, f = g + 1 := ⟨f - 1, by omega⟩
    have own : ∀ (l : List Nat) (L : List (Nat × Bool)), chosenN b c = (l ++ [c], true) → (l.map prt).reverse = L → openN (f' + 1 + 1) ((b, true) :: t) c = ((c, false) :: (L ++ t), true, false) := fun l L hc hL => by
      rw [openN, expand_last hc, hL]
      exact openN_top c
    have pop : chosenN b c = ([], true) → openN (f' + 1 + 1) ((b, true) :: t) c = openN (f' + 1) t c := fun hc => by
      rw [openN, expand_nil hc]; rfl
    have bad : ∀ l, chosenN b c = (l, false) → badO (openN (f' + 1 + 1) ((b, true) :: t) c) c = true := fun l hc => by
      rw [openN, expand_none hc]; rfl
    simp only [adv]
    by_cases h1 : b = 83
    · subst h1
      rw [if_pos rfl]
      refine ⟨fun T hT => ?_, fun hT => by cases hT⟩
      cases sm
      · injection hT with hT
        subst hT
        exact own [83, 59, 112] _ (by simp [chosenN, stmtN, hs, hg]) rfl
      · injection hT with hT
        subst hT
        exact own [83, 59, 103, 61] _ (by simp [chosenN, stmtN, hs]) rfl
    rw [if_neg h1]
    by_cases h2 : b = 111
    · subst h2
      rw [if_pos rfl]
      cases sm
      · exact ⟨fun T hT => (by cases hT), fun _ => bad [c] (by simp [chosenN, hd, hs])⟩
      · refine ⟨fun T hT => ?_, fun hT => by cases hT⟩
        injection hT with hT
        subst hT
        exact own [] _ (by simp [chosenN, hd, hs]) rfl
    rw [if_neg h2]
    by_cases h3 : b = 100
    · subst h3
      rw [if_pos rfl, pop (by simp [chosenN, hd])]
      exact ih
    rw [if_neg h3]
    by_cases h4 : b = 101
    · subst h4
      rw [if_pos rfl, pop (by simp [chosenN, hd])]
      exact ih
    rw [if_neg h4]
    by_cases h5 : b = 86
    · subst h5
      rw [if_pos rfl]
      cases sm
      · refine ⟨fun T hT => ?_, fun hT => by cases hT⟩
        injection hT with hT
        subst hT
        exact own [] _ (by simp [chosenN, hg]) rfl
      · exact ⟨fun T hT => (by cases hT), fun _ => bad [c] (by simp [chosenN, hg])⟩
    rw [if_neg h5]
    by_cases h6 : b = 103
    · subst h6
      rw [if_pos rfl]
      refine ⟨fun T hT => ?_, fun hT => by cases hT⟩
      have h35 : c ≠ 35 := hneq rfl
      cases sm
      · injection hT with hT
        subst hT
        exact own [93, 111, 91] _ (by simp [chosenN, h35, hg]) rfl
      · injection hT with hT
        subst hT
        have hc : chosenN 103 c = ([116, 111], true) := by simp [chosenN, h35, hg]
        have he : expand 103 c = some (pushL [116, 111] (ownL [116, 111] c)).reverse := by unfold expand; rw [hc]; rfl
        rw [openN, he]
        have hf2 : 3 ≤ f' + 1 := by have : rank 103 = 3 := rfl; omega
        cases ho : ownL [116, 111] c
        · rw [pushL_plain]
          show openN (f' + 1) ((111, true) :: (116, true) :: t) c = _
          have hx : chosenN 111 c = ([] ++ [c], true) := by simp [chosenN, hd, hs]
          rw [openN, expand_last hx]
          obtain ⟨f'', rfl⟩ : ∃ g, f' = g + 1 := ⟨f' - 1, by omega⟩
          exact openN_top c
        · have h111 : c = 111 := by simp [ownL] at ho; exact ho.1.symm
          rw [show ([116, 111] : List Nat) = [116] ++ [111] from rfl, pushL_own]
          subst h111
          exact openN_top 111
    rw [if_neg h6]
    by_cases h7 : b = 116
    · subst h7
      have q1 : c ≠ 43 := hneq rfl
      have q2 : c ≠ 45 := hneq rfl
      have q3 : c ≠ 42 := hneq rfl
      have q4 : c ≠ 47 := hneq rfl
      have q5 : c ≠ 60 := hneq rfl
      rw [if_pos rfl, pop (by simp [chosenN, q1, q2, q3, q4, q5])]
      exact ih
    rw [if_neg h7]
    have h91 : c ≠ 91 := hneq rfl
    by_cases h8 : b = 71
    · subst h8
      rw [if_pos rfl]
      have hc : chosenN 71 c = ([86], true) := by simp [chosenN, h91]
      have he : expand 71 c = some (pushL [86] (ownL [86] c)).reverse := by unfold expand; rw [hc]; rfl
      have hf2 : 2 ≤ f' + 1 := by have : rank 71 = 2 := rfl; omega
      obtain ⟨f'', rfl⟩ : ∃ g, f' = g + 1 := ⟨f' - 1, by omega⟩
      cases sm
      · refine ⟨fun T hT => ?_, fun hT => by cases hT⟩
        injection hT with hT
        subst hT
        rw [openN, he]
        cases ho : ownL [86] c
        · rw [pushL_plain]
          show openN (f'' + 1 + 1) ((86, true) :: t) c = _
          have hx : chosenN 86 c = ([] ++ [c], true) := by simp [chosenN, hg]
          rw [openN, expand_last hx]
          exact openN_top c
        · have h86 : c = 86 := by simp [ownL] at ho; exact ho.1.symm
          rw [show ([86] : List Nat) = [] ++ [86] from rfl, pushL_own]
          subst h86
          exact openN_top 86
      · refine ⟨fun T hT => (by cases hT), fun _ => ?_⟩
        have h86 : ownL [86] c = false := by
          have : c ≠ 86 := fun e => by rw [e] at hs; cases hs
          simp [ownL]
          intro e; exact absurd e.symm this
        rw [openN, he, h86, pushL_plain]
        show badO (openN (f'' + 1 + 1) ((86, true) :: t) c) c = true
        have hx : chosenN 86 c = ([c], false) := by simp [chosenN, hg]
        rw [openN, expand_none hx]
        rfl
    rw [if_neg h8]
    refine ⟨fun T hT => (by cases hT), fun _ => ?_⟩
    have hc : chosenN b c = ([71, 61], true) := by simp [chosenN, h1, h2, h3, h4, h5, h6, h7, h8, h91]
    have he : expand b c = some [(61, false), (71, true)] := by
      unfold expand
      rw [hc]
      have : ownL [71, 61] c = false := by
        have : c ≠ 61 := hneq rfl
        simp [ownL]
        intro e; exact absurd e.symm this
      rw [this, pushL_plain]
      rfl
    rw [openN, he]
    show badO (openN (f' + 1) ((61, false) :: (71, true) :: t) c) c = true
    rw [openN_top]
    have hne : ((61 : Nat) == c) = false := beq_eq_false_iff_ne.2 (fun e => hneq (x := 61) rfl e.symm)
    simp [badO, hne]
end Go.Proofs.YthcjcjfgdgnljabDoor

namespace Go.Proofs.YthcjcjfgdgnljabDoor
set_option linter.unusedVariables false

theorem chosen_okT {b c : Nat} (hc : letN c = false) : ∀ x, x ∈ (chosenN b c).1 → partB x = true ∨ letN x = false := by
  have hs : smallN c = false := by unfold letN at hc; simp only [Bool.or_eq_false_iff] at hc; exact hc.1
  have hg : greatN c = false := by unfold letN at hc; simp only [Bool.or_eq_false_iff] at hc; exact hc.2
  intro x hx
  have key : x = c ∨ partB x = true ∨ letN x = false := by
    unfold chosenN stmtN at hx
    (repeat' split at hx) <;> simp at hx
    all_goals first
      | exact .inl hx
      | (rcases hx with rfl | rfl | rfl | rfl | rfl | rfl | rfl | rfl | rfl <;> first | exact .inl rfl | exact .inr (.inl rfl) | exact .inr (.inr rfl))
      | (rcases hx with rfl | rfl | rfl | rfl | rfl | rfl <;> first | exact .inl rfl | exact .inr (.inl rfl) | exact .inr (.inr rfl))
      | (rcases hx with rfl | rfl | rfl | rfl | rfl <;> first | exact .inl rfl | exact .inr (.inl rfl) | exact .inr (.inr rfl))
      | (rcases hx with rfl | rfl | rfl | rfl <;> first | exact .inl rfl | exact .inr (.inl rfl) | exact .inr (.inr rfl))
      | (rcases hx with rfl | rfl | rfl <;> first | exact .inl rfl | exact .inr (.inl rfl) | exact .inr (.inr rfl))
      | (rcases hx with rfl | rfl <;> first | exact .inl rfl | exact .inr (.inl rfl) | exact .inr (.inr rfl))
      | (subst hx; first | exact .inl rfl | exact .inr (.inl rfl) | exact .inr (.inr rfl))
  rcases key with rfl | h
  · exact .inr hc
  · exact h
theorem expand_okT {b c : Nat} {es : List (Nat × Bool)} (hc : letN c = false) (h : expand b c = some es) : OkT es := by
  unfold expand at h
  split at h
  · injection h with h
    subst h
    have hl := chosen_okT (b := b) hc
    generalize (chosenN b c).1 = l at hl
    intro e he h2
    rw [List.mem_reverse] at he
    cases ho : ownL l c
    · rw [ho, pushL_plain] at he
      obtain ⟨x, hx, rfl⟩ := List.mem_map.1 he
      rcases hl x hx with q | q
      · rw [show (prt x).2 = partB x from rfl, q] at h2; cases h2
      · exact q
    · have hne : l ≠ [] := fun e => by rw [e] at ho; simp [ownL] at ho
      have hlast : l.getLast hne = c := by
        simp [ownL, List.getLast?_eq_some_getLast hne] at ho
        exact ho.1.2
      rw [← List.dropLast_concat_getLast hne, hlast] at he hl
      rw [← List.dropLast_concat_getLast hne, hlast] at ho
      rw [ho, pushL_own] at he
      rcases List.mem_append.1 he with q | q
      · obtain ⟨x, hx, rfl⟩ := List.mem_map.1 q
        rcases hl x (List.mem_append_left _ hx) with r | r
        · rw [show (prt x).2 = partB x from rfl, r] at h2; cases h2
        · exact r
      · rw [List.mem_singleton] at q; rw [q]; exact hc
  · cases h
theorem OkT.app {S T : List (Nat × Bool)} (h : OkT S) (g : OkT T) : OkT (S ++ T) := fun e he => by
  rcases List.mem_append.1 he with q | q
  · exact h e q
  · exact g e q
theorem open_okT {c : Nat} (hc : letN c = false) : ∀ (f : Nat) (S : List (Nat × Bool)), OkT S → OkT (openN f S c).1
  | 0, S, h => by rw [openN]; exact h
  | f + 1, [], h => by rw [openN]; exact h
  | f + 1, (b, false) :: t, h => by rw [openN]; exact h
  | f + 1, (b, true) :: t, h => by
    rw [openN]
    split
    · exact h.tl
    · rename_i es he
      exact open_okT hc f _ ((expand_okT hc he).app h.tl)
theorem adv_okT {sm : Bool} : ∀ {S T : List (Nat × Bool)}, OkT S → adv sm S = some T → OkT T
  | [], T, h, e => by simp [adv] at e
  | (b, false) :: t, T, h, e => by simp [adv] at e
  | (b, true) :: t, T, h, e => by
    have ih := fun {T} (q : adv sm t = some T) => adv_okT h.tl q
    have g := h.tl
    simp only [adv] at e
    have k : ∀ {x : Nat} {y : Bool} {S : List (Nat × Bool)}, (y = true ∨ letN x = false) → OkT S → OkT ((x, y) :: S) := fun {x y S} q r => OkT.cons (fun h2 => by
      rcases q with q | q
      · have h2' : y = false := h2
        rw [q] at h2'; cases h2'
      · exact q) r
    (repeat' split at e) <;> first
      | exact ih e
      | (cases e; done)
      | (injection e with e; subst e; first | exact g | exact k (.inl rfl) g | exact k (.inr rfl) (k (.inl rfl) (k (.inr rfl) (k (.inl rfl) g))) | exact k (.inl rfl) (k (.inr rfl) (k (.inl rfl) g)) | exact k (.inr rfl) (k (.inl rfl) (k (.inr rfl) g)))

/-- t is s under other letters -/
structure Trn (a b : Nat) (s t : ByteArray) : Prop where
  sz : t.size = s.size
  by_ : ∀ i, bt t i = lettN a b (bt s i)
/-- where a letter goes -/
def ring (x k : Nat) : Nat := if k < 26 then (k + x) % 26 else k
theorem ring_inj {x k l : Nat} (h : ring x k = ring x l) : k = l := by
  unfold ring at h
  split at h <;> split at h <;> omega
theorem ring_lt {x k : Nat} (h : k < 26) : ring x k < 26 := by unfold ring; rw [if_pos h]; omega
theorem ring_lt_iff {x k : Nat} : ring x k < 26 ↔ k < 26 := by
  unfold ring
  split <;> omega
theorem ring_onto (x : Nat) {k : Nat} (h : k < 26) : ∃ l, l < 26 ∧ ring x l = k := by
  refine ⟨(k + 26 - x % 26) % 26, by omega, ?_⟩
  unfold ring
  rw [if_pos (by omega)]
  omega
section
variable {a b : Nat} {s t : ByteArray}
theorem Trn.eq (h : Trn a b s t) {i x : Nat} (hx : letN x = false) : bt t i = x ↔ bt s i = x := by rw [h.by_]; exact lett_eq hx
theorem Trn.small (h : Trn a b s t) (i : Nat) : smallN (bt t i) = smallN (bt s i) := by rw [h.by_]; exact lett_small
theorem Trn.great (h : Trn a b s t) (i : Nat) : greatN (bt t i) = greatN (bt s i) := by rw [h.by_]; exact lett_great
theorem Trn.digit (h : Trn a b s t) (i : Nat) : digitN (bt t i) = digitN (bt s i) := by rw [h.by_]; exact lett_digit
theorem Trn.num (h : Trn a b s t) {i : Nat} (hs : smallN (bt s i) = true) : bt t i - 97 = ring a (bt s i - 97) := by
  rw [h.by_]
  unfold lettN ring
  rw [if_pos hs]
  simp [smallN] at hs
  rw [if_pos (by omega)]
  omega
theorem Trn.box (h : Trn a b s t) {i : Nat} (hs : greatN (bt s i) = true) : bt t i - 65 = ring b (bt s i - 65) := by
  rw [h.by_]
  unfold lettN ring
  have hn : ¬ smallN (bt s i) = true := by simp [greatN] at hs; simp [smallN]; omega
  rw [if_neg hn, if_pos hs]
  simp [greatN] at hs
  rw [if_pos (by omega)]
  omega
/-- the text is read alike -/
theorem Trn.runN (h : Trn a b s t) : ∀ (m : Nat) (S : List (Nat × Bool)) (i : Nat) (d : Int), OkT S → runN t m S i d = runN s m S i d
  | 0, S, i, d, hok => by
    show (if _ then (2, t.size) else (0, 0)) = (if _ then (2, s.size) else (0, 0))
    rw [h.sz]
  | m + 1, S, i, d, hok => by
    have ih := fun S i d (q : OkT S) => Trn.runN h m S i d q
    rw [Go.Proofs.YthcjcjfgdgnljabDoor.runN, Go.Proofs.YthcjcjfgdgnljabDoor.runN]
    by_cases hl : letN (bt s i) = true
    · have hl2 : letN (bt t i) = true := by rw [h.by_, lett_let]; exact hl
      have hg : greatN (bt s i) = !smallN (bt s i) := by
        unfold letN at hl
        cases hsm : smallN (bt s i)
        · rw [hsm] at hl; simpa using hl
        · simp [smallN] at hsm; simp [greatN]; omega
      have hneq : ∀ {x : Nat}, letN x = false → bt s i ≠ x := fun {x} hx e => by rw [e, hx] at hl; cases hl
      have hneq2 : ∀ {x : Nat}, letN x = false → bt t i ≠ x := fun {x} hx e => by rw [e, hx] at hl2; cases hl2
      obtain ⟨k1, k2⟩ := open_let hl rfl hg S (mu S + 1) (Nat.lt_succ_self _) hok
      obtain ⟨l1, l2⟩ := open_let hl2 (h.small i) (by rw [h.great]; exact hg) S (mu S + 1) (Nat.lt_succ_self _) hok
      cases ha : adv (smallN (bt s i)) S with
      | none =>
        have q1 := k2 ha
        have q2 := l2 ha
        unfold badO at q1 q2
        unfold opened
        rw [if_pos q1, if_pos q2]
      | some T =>
        have q1 := k1 T ha
        have q2 := l1 T ha
        unfold opened
        have n1 : bt s i ≠ 123 := hneq rfl
        have n2 : bt s i ≠ 125 := hneq rfl
        have n3 : bt t i ≠ 123 := hneq2 rfl
        have n4 : bt t i ≠ 125 := hneq2 rfl
        rw [q1, q2]
        simp [n1, n2, n3, n4]
        exact ih T (i + 1) d (adv_okT hok ha)
    · have hl' : letN (bt s i) = false := by simpa using hl
      have e : bt t i = bt s i := by rw [h.by_, lett_no hl']
      have hO : OkT (opened S (bt s i)).1 := open_okT hl' _ S hok
      have hT : OkT (opened S (bt s i)).1.tail := fun x hx => hO x (List.mem_of_mem_tail hx)
      rw [e, ih _ _ _ hT, ih _ _ _ hT]
theorem Trn.run (h : Trn a b s t) : run t [(83, true)] 0 0 = run s [(83, true)] 0 0 := by
  unfold Go.Proofs.YthcjcjfgdgnljabDoor.run
  rw [h.sz]
  exact h.runN _ _ _ _ (fun e he h2 => by rw [List.mem_singleton] at he; rw [he] at h2; cases h2)
theorem Trn.opnd (h : Trn a b s t) {i j : Nat} (ho : Opnd s i j) : Opnd t i j := by
  rcases ho with ⟨h1, h2⟩ | ⟨h1, h2, h3⟩
  · exact .inl ⟨by rw [h.small]; exact h1, h2⟩
  · exact .inr ⟨h1, h2, fun k a1 a2 => by rw [h.digit]; exact h3 k a1 a2⟩
theorem Trn.op (h : Trn a b s t) {k : Nat} (ho : isOp (bt s k)) : isOp (bt t k) := by
  have e : letN (bt s k) = false := by
    unfold isOp at ho
    rcases ho with q | q | q | q | q <;> rw [q] <;> rfl
  rw [h.by_, lett_no e]
  exact ho
theorem Trn.simple (h : Trn a b s t) {i m : Nat} (hS : Simple s i m) : Simple t i m := by
  have S' := fun {i : Nat} (q : smallN (bt s i) = true) => (show smallN (bt t i) = true by rw [h.small]; exact q)
  have G' := fun {i : Nat} (q : greatN (bt s i) = true) => (show greatN (bt t i) = true by rw [h.great]; exact q)
  rcases hS with q | q | q | q | q | q | q | q | q
  · obtain ⟨h1, h2, h3, h4, h5, h6⟩ := q
    exact .inl ⟨S' h1, (h.eq rfl).2 h2, (h.eq rfl).2 h3, G' h4, (h.eq rfl).2 h5, h6⟩
  · obtain ⟨h1, h2, h3, h4, k, h5, h6, h7, h8⟩ := q
    exact .inr (.inl ⟨S' h1, (h.eq rfl).2 h2, G' h3, (h.eq rfl).2 h4, k, h.opnd h5, (h.eq rfl).2 h6, (h.eq rfl).2 h7, h8⟩)
  · obtain ⟨h1, h2, k, h5, h6, h8⟩ := q
    exact .inr (.inr (.inl ⟨S' h1, (h.eq rfl).2 h2, k, h.opnd h5, (h.eq rfl).2 h6, h8⟩))
  · obtain ⟨h1, h2, k, l, h5, h6, h7, h8, h9⟩ := q
    exact .inr (.inr (.inr (.inl ⟨S' h1, (h.eq rfl).2 h2, k, l, h.opnd h5, h.op h6, h.opnd h7, (h.eq rfl).2 h8, h9⟩)))
  · obtain ⟨h1, h2, k, l, h5, h6, h7, h8, h9, h10⟩ := q
    exact .inr (.inr (.inr (.inr (.inl ⟨G' h1, (h.eq rfl).2 h2, k, l, h.opnd h5, (h.eq rfl).2 h6, (h.eq rfl).2 h7, h.opnd h8, (h.eq rfl).2 h9, h10⟩))))
  · obtain ⟨h1, h2, h3, k, h5, h6, h7, h8⟩ := q
    exact .inr (.inr (.inr (.inr (.inr (.inl ⟨G' h1, (h.eq rfl).2 h2, (h.eq rfl).2 h3, k, h.opnd h5, (h.eq rfl).2 h6, (h.eq rfl).2 h7, h8⟩)))))
  · obtain ⟨h1, h2, h3, h4, h5⟩ := q
    exact .inr (.inr (.inr (.inr (.inr (.inr (.inl ⟨G' h1, (h.eq rfl).2 h2, G' h3, (h.eq rfl).2 h4, h5⟩))))))
  · obtain ⟨h1, k, h5, h6, h7⟩ := q
    exact .inr (.inr (.inr (.inr (.inr (.inr (.inr (.inl ⟨(h.eq rfl).2 h1, k, h.opnd h5, (h.eq rfl).2 h6, h7⟩)))))))
  · obtain ⟨h1, h2, h3, h4⟩ := q
    exact .inr (.inr (.inr (.inr (.inr (.inr (.inr (.inr ⟨(h.eq rfl).2 h1, G' h2, (h.eq rfl).2 h3, h4⟩)))))))
theorem Trn.prog (h : Trn a b s t) : ∀ {F i j : Nat}, Prog s F i j → Prog t F i j
  | 0, i, j, hp => hp
  | F + 1, i, j, hp => by
    rcases hp with hp | ⟨m, hst, hr⟩
    · exact .inl hp
    · refine .inr ⟨m, ?_, Trn.prog h hr⟩
      rcases hst with hS | ⟨e, x, y, z, ho, ha, hp, hb, hb1, hq, hc, hm⟩ | ⟨e, x, y, ho, ha, hp, hb, hm⟩
      · exact .inl (h.simple hS)
      · exact .inr (.inl ⟨(h.eq rfl).2 e, x, y, z, h.opnd ho, (h.eq rfl).2 ha, Trn.prog h hp, (h.eq rfl).2 hb, (h.eq rfl).2 hb1, Trn.prog h hq, (h.eq rfl).2 hc, hm⟩)
      · exact .inr (.inr ⟨(h.eq rfl).2 e, x, y, h.opnd ho, (h.eq rfl).2 ha, Trn.prog h hp, (h.eq rfl).2 hb, hm⟩)
theorem Trn.dec (h : Trn a b s t) {i : Nat} : ∀ {n : Nat}, (∀ k, i ≤ k → k < i + n → digitN (bt s k) = true) → decN t i n = decN s i n
  | 0, _ => rfl
  | n + 1, hd => by
    show 10 * decN t i n + (bt t (i + n) - 48) = 10 * decN s i n + (bt s (i + n) - 48)
    have hl : letN (bt s (i + n)) = false := by
      have := hd (i + n) (by omega) (by omega)
      simp [digitN] at this
      simp [letN, smallN, greatN]
      omega
    rw [Trn.dec h (fun k h1 h2 => hd k h1 (by omega)), h.by_, lett_no hl]
end
/-- an operand under other letters -/
def renO (a : Nat) : Od → Od
  | .n k => .n (ring a k)
  | .v x => .v x
def renA (a b : Nat) : Ac → Ac
  | .set v o => .set (ring a v) (renO a o)
  | .bin v o c p => .bin (ring a v) (renO a o) c (renO a p)
  | .load v k o => .load (ring a v) (ring b k) (renO a o)
  | .size v k => .size (ring a v) (ring b k)
  | .make k o => .make (ring b k) (renO a o)
  | .move k l => .move (ring b k) (ring b l)
  | .store k o p => .store (ring b k) (renO a o) (renO a p)
  | .drop k => .drop (ring b k)
  | .print o => .print (renO a o)
def renP (a b : Nat) : Pg → Pg
  | .nil => .nil
  | .act x r => .act (renA a b x) (renP a b r)
  | .ite o p q r => .ite (renO a o) (renP a b p) (renP a b q) (renP a b r)
  | .loop o p r => .loop (renO a o) (renP a b p) (renP a b r)
section
variable {a b : Nat} {s t : ByteArray}
theorem Trn.od (h : Trn a b s t) {i j : Nat} (ho : Opnd s i j) (hj : j < s.size) (hd : digitN (bt s j) = false) : odN t i = renO a (odN s i) := by
  unfold odN
  rw [bopN_eq ho hj hd, bopN_eq (h.opnd ho) (by rw [h.sz]; exact hj) (by rw [h.digit]; exact hd), h.small]
  rcases ho with ⟨h1, rfl⟩ | ⟨h1, h2, h3⟩
  · rw [if_pos h1, if_pos h1, h.num h1]; rfl
  · have hs : ¬ smallN (bt s i) = true := by
      have := h3 i (Nat.le_refl _) h1
      simp [digitN] at this
      simp [smallN]
      omega
    rw [if_neg hs, if_neg hs, h.dec (fun k k1 k2 => h3 k k1 (by omega))]
    rfl
theorem Trn.ac (h : Trn a b s t) {i m : Nat} (hS : Simple s i m) : acN t i = renA a b (acN s i) := by
  have T := h.simple hS
  have od := fun {i k x : Nat} (ho : Opnd s i k) (e : bt s k = x) (hx : x ≠ 0) (hd : digitN x = false) => h.od ho (byte_in e hx) (by rw [e]; exact hd)
  rcases hS with q | q | q | q | q | q | q | q | q
  · rw [acN_size q]
    obtain ⟨h1, h2, h3, h4, h5, h6⟩ := q
    rw [acN_size (s := t) (i := i) (j := m) ⟨by rw [h.small]; exact h1, (h.eq rfl).2 h2, (h.eq rfl).2 h3, by rw [h.great]; exact h4, (h.eq rfl).2 h5, h6⟩, h.num h1, h.box h4]
    rfl
  · rw [acN_load q]
    obtain ⟨h1, h2, h3, h4, k, h5, h6, h7, h8⟩ := q
    rw [acN_load (s := t) (i := i) (j := m) ⟨by rw [h.small]; exact h1, (h.eq rfl).2 h2, by rw [h.great]; exact h3, (h.eq rfl).2 h4, k, h.opnd h5, (h.eq rfl).2 h6, (h.eq rfl).2 h7, h8⟩, h.num h1, h.box h3, od h5 h6 (by decide) rfl]
    rfl
  · obtain ⟨h1, h2, k, h5, h6, h8⟩ := q
    rw [acN_set h1 h5 h6, acN_set (s := t) (by rw [h.small]; exact h1) (h.opnd h5) ((h.eq rfl).2 h6), h.num h1, od h5 h6 (by decide) rfl]
    rfl
  · obtain ⟨h1, h2, k, l, h5, h6, h7, h8, h9⟩ := q
    have hks : k < s.size := byte_in rfl (by unfold isOp at h6; omega)
    have hdk : digitN (bt s k) = false := by
      unfold isOp at h6
      rcases h6 with q | q | q | q | q <;> rw [q] <;> rfl
    have hlk : letN (bt s k) = false := by
      unfold isOp at h6
      rcases h6 with q | q | q | q | q <;> rw [q] <;> rfl
    rw [acN_bin h1 h5 h6 hks, acN_bin (s := t) (by rw [h.small]; exact h1) (h.opnd h5) (h.op h6) (by rw [h.sz]; exact hks), h.num h1, h.od h5 hks hdk, od h7 h8 (by decide) rfl, show bt t k = bt s k by rw [h.by_, lett_no hlk]]
    rfl
  · obtain ⟨h1, h2, k, l, h5, h6, h7, h8, h9, h10⟩ := q
    rw [acN_store h1 h2 h5 h6, acN_store (s := t) (by rw [h.great]; exact h1) ((h.eq rfl).2 h2) (h.opnd h5) ((h.eq rfl).2 h6), h.box h1, od h5 h6 (by decide) rfl, od h8 h9 (by decide) rfl]
    rfl
  · rw [acN_make q]
    obtain ⟨h1, h2, h3, k, h5, h6, h7, h8⟩ := q
    rw [acN_make (s := t) (i := i) (j := m) ⟨by rw [h.great]; exact h1, (h.eq rfl).2 h2, (h.eq rfl).2 h3, k, h.opnd h5, (h.eq rfl).2 h6, (h.eq rfl).2 h7, h8⟩, h.box h1, od h5 h6 (by decide) rfl]
    rfl
  · rw [acN_move q]
    obtain ⟨h1, h2, h3, h4, h5⟩ := q
    rw [acN_move (s := t) (i := i) (j := m) ⟨by rw [h.great]; exact h1, (h.eq rfl).2 h2, by rw [h.great]; exact h3, (h.eq rfl).2 h4, h5⟩, h.box h1, h.box h3]
    rfl
  · obtain ⟨h1, k, h5, h6, h7⟩ := q
    rw [acN_print h1, acN_print (s := t) ((h.eq rfl).2 h1), od h5 h6 (by decide) rfl]
    rfl
  · obtain ⟨h1, h2, h3, h4⟩ := q
    rw [acN_drop h1, acN_drop (s := t) ((h.eq rfl).2 h1), h.box h2]
    rfl
theorem Trn.pg (h : Trn a b s t) : ∀ {F i j : Nat}, Prog s F i j → pgN t F i j = renP a b (pgN s F i j)
  | 0, i, j, hp => rfl
  | F + 1, i, j, hp => by
    rcases hp with hp | ⟨m, hst, hr⟩
    · subst hp; rw [pgN_end, pgN_end]; rfl
    · have hmj := hr.le
      have hlt := hst.lt
      have hij : i < j := by omega
      have r := Trn.pg h hr
      rcases hst with hS | ⟨e, x, y, z, ho, ha, hp, hb, hb1, hq, hc, rfl⟩ | ⟨e, x, y, ho, ha, hp, hb, rfl⟩
      · rw [pgN_simple hS hij, pgN_simple (h.simple hS) hij, h.ac hS, r]; rfl
      · have hI := ifAt_of e ho ha hp hb hb1 hq hc
        have hI2 := ifAt_of ((h.eq rfl).2 e) (h.opnd ho) ((h.eq rfl).2 ha) (h.prog hp) ((h.eq rfl).2 hb) ((h.eq rfl).2 hb1) (h.prog hq) ((h.eq rfl).2 hc)
        rw [pgN_if hI hij, pgN_if hI2 hij, r, Trn.pg h hp, Trn.pg h hq, h.od ho (byte_in ha (by decide)) (by rw [ha]; rfl)]
        rfl
      · have hL := loopAt_of e ho ha hp hb
        have hL2 := loopAt_of ((h.eq rfl).2 e) (h.opnd ho) ((h.eq rfl).2 ha) (h.prog hp) ((h.eq rfl).2 hb)
        rw [pgN_loop hL hij, pgN_loop hL2 hij, r, Trn.pg h hp, h.od ho (byte_in ha (by decide)) (by rw [ha]; rfl)]
        rfl
end
end Go.Proofs.YthcjcjfgdgnljabDoor

namespace Go.Proofs.YthcjcjfgdgnljabDoor
open Go.RowKit
set_option linter.unusedVariables false

/-- a run: numbers, boxes' words (of Play), heap, boxes' places and lengths (of Exec), steps left, how it ends, what was printed -/
structure Rn where
  num : Nat → Int
  wv : Nat → Value
  hv : Value
  at_ : Nat → Int
  len : Nat → Int
  left : Int
  status : Int
  tr : ByteArray
  used : Int
  peak : Int
/-- a run in memory -/
structure RunAt (w : World) (rp : Nat) (s : ByteArray) (x : Rn) : Prop where
  cs : w.cell? ⟨rp, 0, none⟩ = some (.string s)
  cn : ∀ k, k < 26 → w.cell? ⟨rp, 1 + k, none⟩ = some (.int .i64 (x.num k))
  cw : ∀ k, k < 26 → w.cell? ⟨rp, 27 + k, none⟩ = some (x.wv k)
  ch : w.cell? ⟨rp, 53, none⟩ = some x.hv
  ca : ∀ k, k < 26 → w.cell? ⟨rp, 54 + k, none⟩ = some (.int .i64 (x.at_ k))
  cl : ∀ k, k < 26 → w.cell? ⟨rp, 80 + k, none⟩ = some (.int .i64 (x.len k))
  cf : w.cell? ⟨rp, 106, none⟩ = some (.int .i64 x.left)
  co : w.cell? ⟨rp, 107, none⟩ = some (.int .i64 x.status)
  ct : w.cell? ⟨rp, 108, none⟩ = some (.string x.tr)
  cu : w.cell? ⟨rp, 109, none⟩ = some (.int .i64 x.used)
  cp : w.cell? ⟨rp, 110, none⟩ = some (.int .i64 x.peak)
  fz : ∀ o, w.frozen? ⟨rp, o, none⟩ = false
theorem RunAt.lt {w : World} {rp : Nat} {s : ByteArray} {x : Rn} (h : RunAt w rp s x) : rp < w.heap.size := World.block_lt_of_cell? w _ h.cs
theorem RunAt.fr {S : Nat → Prop} {w w' : World} {rp : Nat} {s : ByteArray} {x : Rn} (h : RunAt w rp s x) (hF : Fr S w w') (hS : ¬ S rp) : RunAt w' rp s x :=
  ⟨hF.cell_some h.cs hS, fun k hk => hF.cell_some (h.cn k hk) hS, fun k hk => hF.cell_some (h.cw k hk) hS, hF.cell_some h.ch hS, fun k hk => hF.cell_some (h.ca k hk) hS, fun k hk => hF.cell_some (h.cl k hk) hS,
    hF.cell_some h.cf hS, hF.cell_some h.co hS, hF.cell_some h.ct hS, hF.cell_some h.cu hS, hF.cell_some h.cp hS, fun o => (hF.frozen (p := ⟨rp, o, none⟩) h.lt hS).trans (h.fz o)⟩
theorem RunAt.no {w w' : World} {rp : Nat} {s : ByteArray} {x : Rn} (h : RunAt w rp s x) (hF : Fr NoB w w') : RunAt w' rp s x := h.fr hF id
/-- one cell turned, that is none of those read by c -/
theorem cell_at {w : World} {b o q : Nat} {u v : Value} (h : w.cell? ⟨b, q, none⟩ = some v) (hne : o ≠ q) : (w.setCell ⟨b, o, none⟩ u).cell? ⟨b, q, none⟩ = some v := (cell_other (.inr hne)).trans h
theorem RunAt.setLeft {w : World} {rp : Nat} {s : ByteArray} {x : Rn} (h : RunAt w rp s x) (v : Int) : RunAt (w.setCell ⟨rp, 106, none⟩ (.int .i64 v)) rp s { x with left := v } :=
  ⟨cell_at h.cs (by omega), fun k hk => cell_at (h.cn k hk) (by omega), fun k hk => cell_at (h.cw k hk) (by omega), cell_at h.ch (by omega), fun k hk => cell_at (h.ca k hk) (by omega), fun k hk => cell_at (h.cl k hk) (by omega),
    cell_same h.cf, cell_at h.co (by omega), cell_at h.ct (by omega), cell_at h.cu (by omega), cell_at h.cp (by omega), fun o => by rw [World.frozen?_setCell]; exact h.fz o⟩
theorem RunAt.setStatus {w : World} {rp : Nat} {s : ByteArray} {x : Rn} (h : RunAt w rp s x) (v : Int) : RunAt (w.setCell ⟨rp, 107, none⟩ (.int .i64 v)) rp s { x with status := v } :=
  ⟨cell_at h.cs (by omega), fun k hk => cell_at (h.cn k hk) (by omega), fun k hk => cell_at (h.cw k hk) (by omega), cell_at h.ch (by omega), fun k hk => cell_at (h.ca k hk) (by omega), fun k hk => cell_at (h.cl k hk) (by omega),
    cell_at h.cf (by omega), cell_same h.co, cell_at h.ct (by omega), cell_at h.cu (by omega), cell_at h.cp (by omega), fun o => by rw [World.frozen?_setCell]; exact h.fz o⟩
theorem RunAt.setTrace {w : World} {rp : Nat} {s : ByteArray} {x : Rn} (h : RunAt w rp s x) (v : ByteArray) : RunAt (w.setCell ⟨rp, 108, none⟩ (.string v)) rp s { x with tr := v } :=
  ⟨cell_at h.cs (by omega), fun k hk => cell_at (h.cn k hk) (by omega), fun k hk => cell_at (h.cw k hk) (by omega), cell_at h.ch (by omega), fun k hk => cell_at (h.ca k hk) (by omega), fun k hk => cell_at (h.cl k hk) (by omega),
    cell_at h.cf (by omega), cell_at h.co (by omega), cell_same h.ct, cell_at h.cu (by omega), cell_at h.cp (by omega), fun o => by rw [World.frozen?_setCell]; exact h.fz o⟩
def updI (f : Nat → Int) (k : Nat) (v : Int) : Nat → Int := fun i => if i = k then v else f i
def updV (f : Nat → Value) (k : Nat) (v : Value) : Nat → Value := fun i => if i = k then v else f i
theorem RunAt.setNum {w : World} {rp : Nat} {s : ByteArray} {x : Rn} (h : RunAt w rp s x) {k : Nat} (hk : k < 26) (v : Int) : RunAt (w.setCell ⟨rp, 1 + k, none⟩ (.int .i64 v)) rp s { x with num := updI x.num k v } :=
  ⟨cell_at h.cs (by omega), fun j hj => by
      by_cases e : j = k
      · subst e; show _ = some (Value.int .i64 (updI x.num j v j)); rw [show updI x.num j v j = v by simp [updI]]; exact cell_same (h.cn j hj)
      · show _ = some (Value.int .i64 (updI x.num k v j)); rw [show updI x.num k v j = x.num j by simp [updI, e]]; exact cell_at (h.cn j hj) (by omega),
    fun j hj => cell_at (h.cw j hj) (by omega), cell_at h.ch (by omega), fun j hj => cell_at (h.ca j hj) (by omega), fun j hj => cell_at (h.cl j hj) (by omega),
    cell_at h.cf (by omega), cell_at h.co (by omega), cell_at h.ct (by omega), cell_at h.cu (by omega), cell_at h.cp (by omega), fun o => by rw [World.frozen?_setCell]; exact h.fz o⟩

section
variable (w : World) (rp : Nat) (s : ByteArray) (x : Rn)
end

section
variable (w : World) (rp : Nat) (s : ByteArray) (x : Rn)
end
end Go.Proofs.YthcjcjfgdgnljabDoor

namespace Go.Proofs.YthcjcjfgdgnljabDoor
open Go.RowKit
set_option linter.unusedVariables false

/-- the digits of a number, f + 1 at most -/
def decF : Nat → Nat → List Nat
  | 0, n => [48 + n % 10]
  | f + 1, n => if n < 10 then [48 + n % 10] else decF f (n / 10) ++ [48 + n % 10]
theorem bytes_app (a b : Array UInt8) : (⟨a⟩ : ByteArray) ++ ⟨b⟩ = ⟨a ++ b⟩ := by
  apply ByteArray.ext
  simp

theorem digit_str (n : Nat) (u : World) : (convert 33 9 (.slice (some ⟨u.heap.size, 0, none⟩) 1 1)).run Tryd.prog (u.alloc (.cells #[.int .u8 (48 + (n : Int) % 10)] 5)) = .ok (strN [48 + n % 10]) (u.alloc (.cells #[.int .u8 (48 + (n : Int) % 10)] 5)) := by
  have e : (48 + (n : Int) % 10) = ((48 + n % 10 : Nat) : Int) := by omega
  rw [e]
  exact bytes_str u [48 + n % 10]

theorem decF_len : ∀ (f n : Nat), (decF f n).length ≤ f + 1
  | 0, n => by simp [decF]
  | f + 1, n => by
    have := decF_len f (n / 10)
    unfold decF
    split
    · simp
    · simp; omega
end Go.Proofs.YthcjcjfgdgnljabDoor

namespace Go.Proofs.YthcjcjfgdgnljabDoor
open Go.RowKit
set_option linter.unusedVariables false

/-- a Play in memory: bx: each box's words, none if it is empty; blk: where they lie -/
structure PlayAt (w : World) (rp base : Nat) (s : ByteArray) (x : Rn) (bx : Nat → List Int) (blk : Nat → Nat) : Prop where
  r : RunAt w rp s x
  hn : x.hv = .pointer none
  rb : rp < base
  e : ∀ k, k < 26 → bx k = [] → x.wv k = .slice none 0 0
  f : ∀ k, k < 26 → bx k ≠ [] → x.wv k = .slice (some ⟨blk k, 0, none⟩) (bx k).length (bx k).length
  c : ∀ k, k < 26 → ∀ i v, (bx k)[i]? = some v → w.cell? ⟨blk k, i, none⟩ = some (.int .i64 v)
  z : ∀ k, k < 26 → bx k ≠ [] → ∀ o, w.frozen? ⟨blk k, o, none⟩ = false
  d : ∀ k l, k < 26 → l < 26 → k ≠ l → bx k ≠ [] → bx l ≠ [] → blk k ≠ blk l
  b : ∀ k, k < 26 → bx k ≠ [] → base ≤ blk k ∧ blk k < w.heap.size
  n : ∀ k, k < 26 → (bx k).length ≤ 64
section
variable {w w' : World} {rp base : Nat} {s : ByteArray} {x x' : Rn} {bx : Nat → List Int} {blk : Nat → Nat}
theorem ne_nil_of_get {l : List Int} {i : Nat} {v : Int} (h : l[i]? = some v) : l ≠ [] := fun e => by rw [e] at h; simp at h
theorem PlayAt.no (h : PlayAt w rp base s x bx blk) (hF : Fr NoB w w') : PlayAt w' rp base s x bx blk :=
  ⟨h.r.no hF, h.hn, h.rb, h.e, h.f, fun k hk i v hv => hF.cell_some (h.c k hk i v hv) id, fun k hk hb o => (hF.frozen (p := ⟨blk k, o, none⟩) (h.b k hk hb).2 id).trans (h.z k hk hb o), h.d, fun k hk hb => ⟨(h.b k hk hb).1, Nat.lt_of_lt_of_le (h.b k hk hb).2 hF.size⟩, h.n⟩
/-- what turns in the run's own block alone, boxes' words apart -/
theorem PlayAt.own (h : PlayAt w rp base s x bx blk) (hF : Fr (OneB rp) w w') (hR : RunAt w' rp s x') (h1 : x'.hv = x.hv) (h2 : x'.wv = x.wv) : PlayAt w' rp base s x' bx blk := by
  have hne : ∀ k, k < 26 → bx k ≠ [] → ¬ OneB rp (blk k) := fun k hk hb e => by
    have := (h.b k hk hb).1
    have := h.rb
    unfold OneB at e
    omega
  refine ⟨hR, by rw [h1]; exact h.hn, h.rb, fun k hk hb => by rw [h2]; exact h.e k hk hb, fun k hk hb => by rw [h2]; exact h.f k hk hb, fun k hk i v hv => hF.cell_some (h.c k hk i v hv) (hne k hk (ne_nil_of_get hv)), fun k hk hb o => (hF.frozen (p := ⟨blk k, o, none⟩) (h.b k hk hb).2 (hne k hk hb)).trans (h.z k hk hb o), h.d, fun k hk hb => ⟨(h.b k hk hb).1, Nat.lt_of_lt_of_le (h.b k hk hb).2 hF.size⟩, h.n⟩
end

section
variable (w : World) (rp base : Nat) (s : ByteArray) (x : Rn) (bx : Nat → List Int) (blk : Nat → Nat)
end
end Go.Proofs.YthcjcjfgdgnljabDoor
