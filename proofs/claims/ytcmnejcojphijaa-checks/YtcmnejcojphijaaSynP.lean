/-
  The document's syntax, as plain functions: a stack of what is expected, the first of it first. (No walk here.)
-/
import Derived.Test.YtcmnejcojphijaaSynD
namespace Go.Proofs.Ytcmnejcojphijaa
open Go.RowKit

def ownL (l : List Nat) (c : Nat) : Bool := !l.isEmpty && (l.getLast?.getD 0 == c) && !(c == 0)
def entL (l : List Nat) (own : Bool) (j : Nat) : Nat × Bool := (l.getD j 0, partB (l.getD j 0) && !(own && (j + 1 == l.length)))
def pushL (l : List Nat) (own : Bool) : List (Nat × Bool) := (List.range l.length).map (entL l own)

/-- what comes in the place of a part b, if the next byte is c; none: c cannot stand here -/
def expand (b c : Nat) : Option (List (Nat × Bool)) := if (chosenN b c).2 then some (pushL (chosenN b c).1 (ownL (chosenN b c).1 c)).reverse else none

def rank (b : Nat) : Nat := if b = 103 then 3 else if b = 71 then 2 else 1
/-- how many steps at most till a byte of the text is on top -/
def mu : List (Nat × Bool) → Nat
  | [] => 0
  | (_, false) :: _ => 0
  | (b, true) :: t => rank b + mu t
def wtE (e : Nat × Bool) : Nat :=
  if e.2 then (if e.1 = 100 then 2 else if e.1 = 111 then 3 else if e.1 = 116 then 4 else if e.1 = 103 then 7 else if e.1 = 71 then 5 else if e.1 = 112 then 9 else 1) else 1
def wt : List (Nat × Bool) → Nat
  | [] => 0
  | e :: t => wtE e + wt t
theorem wtE_pos (e : Nat × Bool) : 1 ≤ wtE e := by unfold wtE; repeat' split
                                                   all_goals omega
theorem len_le_wt (S : List (Nat × Bool)) : S.length ≤ wt S := by
  induction S with
  | nil => simp [wt]
  | cons e t ih => have := wtE_pos e; simp only [List.length_cons, wt]; omega
theorem wt_append (A B : List (Nat × Bool)) : wt (A ++ B) = wt A + wt B := by
  induction A with
  | nil => simp [wt]
  | cons e t ih => simp only [List.cons_append, wt, ih]; omega

/-- every part of the stack is one -/
def OkS (S : List (Nat × Bool)) : Prop := ∀ e, e ∈ S → e.1 < 256 ∧ (e.2 = true → isPart e.1)

theorem pushL_ok {l : List Nat} (hl : ∀ b, b ∈ l → b < 256) (own : Bool) : OkS (pushL l own) := fun e he => by
  simp only [pushL, List.mem_map, List.mem_range] at he
  obtain ⟨j, hj, rfl⟩ := he
  refine ⟨?_, fun h => ?_⟩
  · have : l.getD j 0 = l[j] := by simp [hj]
    show l.getD j 0 < 256
    rw [this]; exact hl _ (List.getElem_mem hj)
  · simp only [entL, Bool.and_eq_true] at h
    exact (partB_iff _).1 h.1
theorem stmtN_lt {c : Nat} (hc : c < 256) : ∀ b, b ∈ stmtN c → b < 256 := fun b hb => by
  unfold stmtN at hb
  repeat' split at hb
  all_goals (simp at hb <;> omega)
theorem chosenN_lt {b c : Nat} (hc : c < 256) : ∀ x, x ∈ (chosenN b c).1 → x < 256 := fun x hx => by
  unfold chosenN at hx
  repeat' split at hx
  · exact stmtN_lt hc x hx
  all_goals (simp at hx <;> omega)

def prt (b : Nat) : Nat × Bool := (b, partB b)
theorem pushL_plain (l : List Nat) : pushL l false = l.map prt := by
  apply List.ext_getElem?
  intro i
  by_cases hi : i < l.length
  · simp [pushL, entL, prt, hi]
  · simp [pushL, hi]
theorem pushL_own (l : List Nat) (x : Nat) : pushL (l ++ [x]) true = l.map prt ++ [(x, false)] := by
  apply List.ext_getElem?
  intro i
  by_cases hi : i < l.length
  · have h1 : (i + 1 == l.length + 1) = false := beq_eq_false_iff_ne.2 (by omega)
    rw [List.getElem?_append_left (by simpa using hi)]
    simp [pushL, entL, prt, hi, h1, show i < l.length + 1 by omega]
  · by_cases he : i = l.length
    · subst he
      rw [List.getElem?_append_right (by simp)]
      simp [pushL, entL]
    · rw [List.getElem?_append_right (by simp; omega)]
      simp [pushL]
      rw [List.getElem?_eq_none (by simp; omega)]
      simp
      omega
theorem pushL_last (l : List Nat) (c : Nat) : pushL (l ++ [c]) (ownL (l ++ [c]) c) = l.map prt ++ [(c, false)] := by
  by_cases h : c = 0
  · subst h
    have e : ownL (l ++ [0]) 0 = false := by simp [ownL]
    rw [e, pushL_plain]
    simp [prt, partB]
  · have e : ownL (l ++ [c]) c = true := by simp [ownL, h]
    rw [e, pushL_own]
/-- the text's own byte comes on top -/
theorem expand_last {b c : Nat} {l : List Nat} (h : chosenN b c = (l ++ [c], true)) : expand b c = some ((c, false) :: (l.map prt).reverse) := by
  unfold expand
  rw [h]
  simp [pushL_last]
theorem expand_none {b c : Nat} {l : List Nat} (h : chosenN b c = (l, false)) : expand b c = none := by
  unfold expand; rw [h]; simp
theorem expand_nil {b c : Nat} (h : chosenN b c = ([], true)) : expand b c = some [] := by
  unfold expand; rw [h]; simp [pushL]

theorem rank_pos (b : Nat) : 1 ≤ rank b := by
  unfold rank
  repeat' split
  all_goals omega
/-- what an expansion does to the two measures -/
structure ExpStep (b : Nat) (es : List (Nat × Bool)) : Prop where
  hm : ∀ t, mu (es ++ t) < rank b + mu t
  hw : wt es ≤ wtE (b, true) ∨ ((∀ t, mu (es ++ t) = 0) ∧ wt es ≤ wtE (b, true) + 11)
theorem step_top {b c : Nat} {l : List (Nat × Bool)} (h : wt l + 1 ≤ wtE (b, true) + 11) : ExpStep b ((c, false) :: l) :=
  ⟨fun t => by have := rank_pos b; simp only [List.cons_append, mu]; omega, .inr ⟨fun t => by simp [mu], by show 1 + wt l ≤ wtE (b, true) + 11; omega⟩⟩
theorem step_pop (b : Nat) : ExpStep b [] := ⟨fun t => by have := rank_pos b; simp; omega, .inl (Nat.zero_le _)⟩

theorem wt_stmt (c : Nat) : wt ((stmtN c).dropLast.map prt).reverse ≤ 11 := by
  unfold stmtN
  repeat' split
  all_goals simp [prt, partB, wt, wtE]

theorem stmt_cases (c : Nat) : stmtN c = [] ∨ ∃ l, stmtN c = l ++ [c] ∧ wt (l.map prt).reverse ≤ 11 := by
  have hw := wt_stmt c
  by_cases h : stmtN c = []
  · exact .inl h
  · refine .inr ⟨(stmtN c).dropLast, ?_, hw⟩
    have hl : (stmtN c).getLast h = c := by
      have : ∀ l, stmtN c = l → ∀ hh : l ≠ [], l.getLast hh = c := by
        intro l hl hh
        unfold stmtN at hl
        repeat' split at hl
        all_goals first | (subst hl; rfl) | (exact absurd hl.symm hh)
      exact this _ rfl h
    exact (List.dropLast_concat_getLast h).symm.trans (by rw [hl])

theorem expand_step {b c : Nat} {es : List (Nat × Bool)} (hb : isPart b) (h : expand b c = some es) : ExpStep b es := by
  have last : ∀ l : List Nat, chosenN b c = (l ++ [c], true) → wt (l.map prt).reverse + 1 ≤ wtE (b, true) + 11 → ExpStep b es := fun l hl hw => by
    rw [expand_last hl] at h; injection h with h; subst h; exact step_top hw
  have pop : chosenN b c = ([], true) → ExpStep b es := fun hl => by
    rw [expand_nil hl] at h; injection h with h; subst h; exact step_pop b
  have bad : ∀ l : List Nat, chosenN b c = (l, false) → ExpStep b es := fun l hl => by
    rw [expand_none hl] at h; cases h
  rcases hb with rfl | rfl | rfl | rfl | rfl | rfl | rfl | rfl | rfl
  · rcases stmt_cases c with hs | ⟨l, hs, hw⟩
    · exact pop (by show (stmtN c, true) = _; rw [hs])
    · exact last l (by show (stmtN c, true) = _; rw [hs]) (by show _ ≤ 1 + 11; omega)
  · cases hd : digitN c
    · cases hs : smallN c
      · exact bad [c] (by simp [chosenN, hd, hs])
      · exact last [] (by simp [chosenN, hd, hs]) (by decide)
    · exact last [100] (by simp [chosenN, hd]) (by decide)
  · cases hd : digitN c
    · exact pop (by simp [chosenN, hd])
    · exact last [101] (by simp [chosenN, hd]) (by decide)
  · cases hd : digitN c
    · exact pop (by simp [chosenN, hd])
    · exact last [] (by simp [chosenN, hd]) (by decide)
  · cases hg : greatN c
    · exact bad [c] (by simp [chosenN, hg])
    · exact last [] (by simp [chosenN, hg]) (by decide)
  · by_cases h1 : c = 35
    · exact last [86] (by simp [chosenN, h1]) (by decide)
    · cases hg : greatN c
      · have hc : chosenN 103 c = ([116, 111], true) := by simp [chosenN, h1, hg]
        unfold expand at h
        rw [hc] at h
        simp only [if_true] at h
        injection h with h
        subst h
        cases ho : ownL [116, 111] c
        · rw [pushL_plain]
          exact ⟨fun t => by simp [prt, partB, mu, rank]; omega, .inl (by decide)⟩
        · rw [show ([116, 111] : List Nat) = [116] ++ [111] from rfl, pushL_own]
          exact ⟨fun t => by simp [prt, partB, mu, rank]; omega, .inl (by decide)⟩
      · exact last [93, 111, 91] (by simp [chosenN, h1, hg]) (by decide)
  · by_cases h1 : c = 43 ∨ c = 45 ∨ c = 42 ∨ c = 47 ∨ c = 60
    · exact last [111] (by simp [chosenN, h1]) (by decide)
    · exact pop (by simp only [chosenN]; simp [h1])
  · by_cases h1 : c = 91
    · exact last [93, 111] (by simp [chosenN, h1]) (by decide)
    · have hc : chosenN 71 c = ([86], true) := by simp [chosenN, h1]
      unfold expand at h
      rw [hc] at h
      simp only [if_true] at h
      injection h with h
      subst h
      cases ho : ownL [86] c
      · rw [pushL_plain]
        exact ⟨fun t => by simp [prt, partB, mu, rank], .inl (by decide)⟩
      · rw [show ([86] : List Nat) = [] ++ [86] from rfl, pushL_own]
        exact ⟨fun t => by simp [mu, rank]; omega, .inl (by decide)⟩
  · by_cases h1 : c = 91
    · exact last [111, 61, 93, 111] (by simp [chosenN, h1]) (by decide)
    · have hc : chosenN 112 c = ([71, 61], true) := by simp [chosenN, h1]
      unfold expand at h
      rw [hc] at h
      simp only [if_true] at h
      injection h with h
      subst h
      cases ho : ownL [71, 61] c
      · rw [pushL_plain]
        exact ⟨fun t => by simp [prt, partB, mu, rank]; omega, .inl (by decide)⟩
      · rw [show ([71, 61] : List Nat) = [71] ++ [61] from rfl, pushL_own]
        exact ⟨fun t => by simp [prt, partB, mu, rank]; omega, .inl (by decide)⟩

theorem expand_ok {b c : Nat} {es : List (Nat × Bool)} (hc : c < 256) (h : expand b c = some es) : OkS es := by
  unfold expand at h
  split at h
  · injection h with h
    subst h
    intro e he
    exact pushL_ok (chosenN_lt hc) _ e (List.mem_reverse.1 he)
  · cases h

/-- brings a byte of the text to the top: the stack; there is one; c cannot stand here -/
def openN : Nat → List (Nat × Bool) → Nat → List (Nat × Bool) × Bool × Bool
  | 0, S, _ => (S, false, false)
  | _ + 1, [], _ => ([], false, false)
  | _ + 1, (b, false) :: t, _ => ((b, false) :: t, true, false)
  | f + 1, (b, true) :: t, c => match expand b c with
    | none => (t, false, true)
    | some es => openN f (es ++ t) c
def opened (S : List (Nat × Bool)) (c : Nat) : List (Nat × Bool) × Bool × Bool := openN (mu S + 1) S c
end Go.Proofs.Ytcmnejcojphijaa
