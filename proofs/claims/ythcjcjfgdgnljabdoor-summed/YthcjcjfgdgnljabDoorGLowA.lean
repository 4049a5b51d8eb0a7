/-
  MacD, LowA: one behind the other.
-/
import Derived.Test.YthcjcjfgdgnljabDoorGMacC
namespace Go.Proofs.YthcjcjfgdgnljabDoor
set_option linter.unusedVariables false

/-- k words from a on are free, of n -/
def FreeS (n : Nat) (σ : St) (k a : Nat) : Prop := a + k ≤ n ∧ ∀ b, b < 26 → σ.bx b ≠ [] → a + k ≤ σ.at_ b ∨ σ.at_ b + (σ.bx b).length ≤ a
instance (n : Nat) (σ : St) (k a : Nat) : Decidable (FreeS n σ k a) := by unfold FreeS; infer_instance
/-- the first place with room for k words, if there is one -/
def allocS (n : Nat) (σ : St) (k : Nat) : Option Nat := (List.range (n + 1)).find? (fun a => decide (FreeS n σ k a))
theorem alloc_some {n : Nat} {σ : St} {k a : Nat} (h : FreeS n σ k a) (hl : ∀ b, b < a → ¬ FreeS n σ k b) : allocS n σ k = some a := by
  unfold allocS
  rw [List.find?_range_eq_some]
  refine ⟨by simpa using h, by have := h.1; simp; omega, fun j hj => by simpa using hl j hj⟩
theorem alloc_is {n : Nat} {σ : St} {k a : Nat} (h : allocS n σ k = some a) : FreeS n σ k a ∧ ∀ b, b < a → ¬ FreeS n σ k b := by
  unfold allocS at h
  rw [List.find?_range_eq_some] at h
  exact ⟨by simpa using h.1, fun b hb => by simpa using h.2.2 b hb⟩
theorem alloc_none {n : Nat} {σ : St} {k : Nat} (h : ∀ a, ¬ FreeS n σ k a) : allocS n σ k = none := by
  unfold allocS
  rw [List.find?_eq_none]
  intro a _
  simpa using h a
theorem alloc_no {n : Nat} {σ : St} {k : Nat} (h : allocS n σ k = none) : ∀ a, ¬ FreeS n σ k a := fun a ha => by
  unfold allocS at h
  rw [List.find?_eq_none] at h
  have := h a (by have := ha.1; simp; omega)
  exact this (by simpa using ha)
theorem alloc_cases (n : Nat) (σ : St) (k : Nat) : (∃ a, allocS n σ k = some a) ∨ allocS n σ k = none := by
  cases h : allocS n σ k with
  | none => exact .inr rfl
  | some a => exact .inl ⟨a, rfl⟩

/-- Play of the document: no heap -/
def cP : Cf := ⟨false, fun _ _ => some 0⟩
/-- on a heap of n words -/
def cE (strict : Bool) (n : Nat) : Cf := ⟨strict, allocS n⟩
theorem free_left (n : Nat) (σ : St) (k a l : Nat) : FreeS n { σ with left := l } k a ↔ FreeS n σ k a := Iff.rfl
theorem cE_mr (strict : Bool) (n k : Nat) (σ : St) (m : Nat) : (cE strict n).al (mr k σ) m = (cE strict n).al σ m := rfl
theorem cP_mr (k : Nat) (σ : St) (m : Nat) : cP.al (mr k σ) m = cP.al σ m := rfl

/-- blocks lie apart, in n words -/
structure Ap (n : Nat) (σ : St) : Prop where
  inn : ∀ b, b < 26 → σ.bx b ≠ [] → σ.at_ b + (σ.bx b).length ≤ n
  sz : ∀ b, b < 26 → (σ.bx b).length ≤ 64
  ap : ∀ b c, b < 26 → c < 26 → b ≠ c → σ.bx b ≠ [] → σ.bx c ≠ [] → σ.at_ b + (σ.bx b).length ≤ σ.at_ c ∨ σ.at_ c + (σ.bx c).length ≤ σ.at_ b

/-- one number of 0 .. m is not in a list of m -/
theorem left_out : ∀ (m : Nat) (L : List Nat), L.length ≤ m → ∃ j, j ≤ m ∧ j ∉ L
  | 0, L, h => ⟨0, Nat.le_refl _, by have e : L = [] := List.eq_nil_of_length_eq_zero (by omega); rw [e]; simp⟩
  | m + 1, L, h => by
    by_cases hm : (m + 1) ∈ L
    · have hl : (L.erase (m + 1)).length ≤ m := by rw [List.length_erase_of_mem hm]; omega
      obtain ⟨j, h1, h2⟩ := left_out m (L.erase (m + 1)) hl
      exact ⟨j, by omega, fun q => h2 ((List.mem_erase_of_ne (by omega)).2 q)⟩
    · exact ⟨m + 1, Nat.le_refl _, hm⟩
/-- the fields of 64 words that a block lies in -/
def fieldsOf (σ : St) (b : Nat) : List Nat := if σ.bx b = [] then [] else [σ.at_ b / 64, (σ.at_ b + (σ.bx b).length - 1) / 64]
theorem fields_len (σ : St) : ∀ (L : List Nat), (L.flatMap (fieldsOf σ)).length ≤ 2 * L.length
  | [] => Nat.le_refl _
  | b :: L => by
    have := fields_len σ L
    have h : (fieldsOf σ b).length ≤ 2 := by unfold fieldsOf; split <;> simp
    simp only [List.flatMap_cons, List.length_append, List.length_cons]
    omega
theorem fields_len0 (σ : St) {v : Nat} (hv : σ.bx v = []) : ∀ (L : List Nat), v ∈ L → (L.flatMap (fieldsOf σ)).length + 2 ≤ 2 * L.length
  | [], h => by cases h
  | b :: L, h => by
    simp only [List.flatMap_cons, List.length_append, List.length_cons]
    by_cases e : v = b
    · subst e
      have := fields_len σ L
      have h0 : (fieldsOf σ v).length = 0 := by unfold fieldsOf; rw [if_pos hv]; rfl
      omega
    · have hm : v ∈ L := by
        rcases List.mem_cons.1 h with q | q
        · exact absurd q e
        · exact q
      have := fields_len0 σ hv L hm
      have h : (fieldsOf σ b).length ≤ 2 := by unfold fieldsOf; split <;> simp
      omega
/-- with 3264 words there is room for one block more -/
theorem room {n : Nat} {σ : St} (hn : 3264 ≤ n) (h : Ap n σ) {v k : Nat} (hv : v < 26) (he : σ.bx v = []) (hk : k ≤ 64) : ∃ a, FreeS n σ k a := by
  have hlen := fields_len0 σ he (List.range 26) (by simpa using hv)
  obtain ⟨j, h1, h2⟩ := left_out 50 ((List.range 26).flatMap (fieldsOf σ)) (by simp at hlen ⊢; omega)
  refine ⟨64 * j, by omega, fun b hb hbx => ?_⟩
  have hf : j ∉ fieldsOf σ b := fun q => h2 (List.mem_flatMap.2 ⟨b, by simpa using hb, q⟩)
  unfold fieldsOf at hf
  rw [if_neg hbx] at hf
  have h0 : 0 < (σ.bx b).length := List.length_pos_iff.2 hbx
  have h64 := h.sz b hb
  have f1 : j ≠ σ.at_ b / 64 := fun q => hf (by simp [q])
  have f2 : j ≠ (σ.at_ b + (σ.bx b).length - 1) / 64 := fun q => hf (by simp [q])
  omega

theorem Ap.keep {n : Nat} {σ τ : St} (h : Ap n σ) (hb : τ.bx = σ.bx) (ha : τ.at_ = σ.at_) : Ap n τ := ⟨by rw [hb, ha]; exact h.inn, by rw [hb]; exact h.sz, by rw [hb, ha]; exact h.ap⟩
/-- some boxes are emptied, or keep the length of their blocks -/
theorem Ap.less {n : Nat} {σ τ : St} (h : Ap n σ) (hb : ∀ b, τ.bx b ≠ [] → σ.bx b ≠ [] ∧ (τ.bx b).length = (σ.bx b).length) (ha : τ.at_ = σ.at_) : Ap n τ := by
  refine ⟨fun b h1 h2 => ?_, fun b h1 => ?_, fun b c h1 h2 h3 h4 h5 => ?_⟩
  · rw [ha, (hb b h2).2]; exact h.inn b h1 (hb b h2).1
  · by_cases e : τ.bx b = []
    · rw [e]; simp
    · rw [(hb b e).2]; exact h.sz b h1
  · rw [ha, (hb b h4).2, (hb c h5).2]; exact h.ap b c h1 h2 h3 (hb b h4).1 (hb c h5).1
theorem Ap.drop {n : Nat} {σ : St} (h : Ap n σ) (v : Nat) : Ap n { σ with bx := upB σ.bx v [] } := h.less (fun b hb => by
  have hb' : upB σ.bx v [] b ≠ [] := hb
  by_cases e : b = v
  · subst e; rw [upB_at] at hb'; exact absurd rfl hb'
  · rw [upB_ne _ _ e] at hb'
    exact ⟨hb', by show (upB σ.bx v [] b).length = _; rw [upB_ne _ _ e]⟩) rfl
theorem Ap.fill {n : Nat} {σ : St} {v k a p : Nat} {l : List Nat} (h : Ap n { σ with bx := upB σ.bx v [] }) (hl : l.length = k) (hk : k ≤ 64) (hf : FreeS n { σ with bx := upB σ.bx v [] } k a) : Ap n { σ with bx := upB σ.bx v l, at_ := upN σ.at_ v a, peak := p } := by
  have hoff : ∀ b, b ≠ v → upB σ.bx v l b = upB σ.bx v [] b := fun b e => by rw [upB_ne _ _ e, upB_ne _ _ e]
  refine ⟨fun b h1 h2 => ?_, fun b h1 => ?_, fun b c h1 h2 h3 h4 h5 => ?_⟩
  · show upN σ.at_ v a b + (upB σ.bx v l b).length ≤ n
    by_cases e : b = v
    · subst e; rw [upN_at, upB_at, hl]; exact hf.1
    · have h2' : upB σ.bx v l b ≠ [] := h2
      rw [upN_ne _ _ e, hoff b e]; rw [hoff b e] at h2'
      exact h.inn b h1 h2'
  · show (upB σ.bx v l b).length ≤ 64
    by_cases e : b = v
    · subst e; rw [upB_at, hl]; exact hk
    · rw [hoff b e]; exact h.sz b h1
  · show upN σ.at_ v a b + (upB σ.bx v l b).length ≤ upN σ.at_ v a c ∨ upN σ.at_ v a c + (upB σ.bx v l c).length ≤ upN σ.at_ v a b
    have h4' : upB σ.bx v l b ≠ [] := h4
    have h5' : upB σ.bx v l c ≠ [] := h5
    by_cases e : b = v
    · have e2 : c ≠ v := fun q => h3 (by omega)
      subst e
      rw [upN_at, upB_at, hl, upN_ne _ _ e2, hoff c e2]
      rw [hoff c e2] at h5'
      exact hf.2 c h2 h5'
    · rw [upN_ne _ _ e, hoff b e]
      rw [hoff b e] at h4'
      by_cases e2 : c = v
      · subst e2
        rw [upN_at, upB_at, hl]
        exact (hf.2 b h1 h4').symm
      · rw [upN_ne _ _ e2, hoff c e2]
        rw [hoff c e2] at h5'
        exact h.ap b c h1 h2 h3 h4' h5'
theorem Ap.move {n : Nat} {σ : St} {b d : Nat} (h : Ap n σ) (hb : b < 26) (hd : d < 26) (hne : b ≠ d) : Ap n { σ with bx := upB (upB σ.bx b (σ.bx d)) d [], at_ := upN σ.at_ b (σ.at_ d) } := by
  have e0 : ∀ i, upB (upB σ.bx b (σ.bx d)) d [] i ≠ [] → i ≠ d ∧ ((i = b ∧ upB (upB σ.bx b (σ.bx d)) d [] i = σ.bx d ∧ upN σ.at_ b (σ.at_ d) i = σ.at_ d) ∨ (i ≠ b ∧ upB (upB σ.bx b (σ.bx d)) d [] i = σ.bx i ∧ upN σ.at_ b (σ.at_ d) i = σ.at_ i)) := fun i hi => by
    by_cases e : i = d
    · subst e; rw [upB_at] at hi; exact absurd rfl hi
    · refine ⟨e, ?_⟩
      by_cases e2 : i = b
      · subst e2; exact .inl ⟨rfl, by rw [upB_ne _ _ e, upB_at], upN_at _ _ _⟩
      · exact .inr ⟨e2, by rw [upB_ne _ _ e, upB_ne _ _ e2], upN_ne _ _ e2⟩
  refine ⟨fun i h1 h2 => ?_, fun i h1 => ?_, fun i j h1 h2 h3 h4 h5 => ?_⟩
  · have h2' : upB (upB σ.bx b (σ.bx d)) d [] i ≠ [] := h2
    show upN σ.at_ b (σ.at_ d) i + (upB (upB σ.bx b (σ.bx d)) d [] i).length ≤ n
    obtain ⟨_, ⟨_, q1, q2⟩ | ⟨_, q1, q2⟩⟩ := e0 i h2'
    · rw [q1] at h2'; rw [q1, q2]; exact h.inn d hd h2'
    · rw [q1] at h2'; rw [q1, q2]; exact h.inn i h1 h2'
  · show (upB (upB σ.bx b (σ.bx d)) d [] i).length ≤ 64
    by_cases e : upB (upB σ.bx b (σ.bx d)) d [] i = []
    · rw [e]; simp
    · obtain ⟨_, ⟨_, q1, q2⟩ | ⟨_, q1, q2⟩⟩ := e0 i e
      · rw [q1]; exact h.sz d hd
      · rw [q1]; exact h.sz i h1
  · have h4' : upB (upB σ.bx b (σ.bx d)) d [] i ≠ [] := h4
    have h5' : upB (upB σ.bx b (σ.bx d)) d [] j ≠ [] := h5
    show upN σ.at_ b (σ.at_ d) i + (upB (upB σ.bx b (σ.bx d)) d [] i).length ≤ upN σ.at_ b (σ.at_ d) j ∨ upN σ.at_ b (σ.at_ d) j + (upB (upB σ.bx b (σ.bx d)) d [] j).length ≤ upN σ.at_ b (σ.at_ d) i
    obtain ⟨n1, ⟨p0, p1, p2⟩ | ⟨p0, p1, p2⟩⟩ := e0 i h4'
    · obtain ⟨n2, ⟨q0, q1, q2⟩ | ⟨q0, q1, q2⟩⟩ := e0 j h5'
      · exact absurd (p0.trans q0.symm) h3
      · rw [p1] at h4'; rw [q1] at h5'
        rw [p1, p2, q1, q2]; exact h.ap d j hd h2 (Ne.symm n2) h4' h5'
    · obtain ⟨n2, ⟨q0, q1, q2⟩ | ⟨q0, q1, q2⟩⟩ := e0 j h5'
      · rw [p1] at h4'; rw [q1] at h5'
        rw [p1, p2, q1, q2]; exact h.ap i d h1 hd n1 h4' h5'
      · rw [p1] at h4'; rw [q1] at h5'
        rw [p1, p2, q1, q2]; exact h.ap i j h1 h2 h3 h4' h5'

/-- the same run, but for where the blocks lie -/
structure Sim (σ τ : St) : Prop where
  num : τ.num = σ.num
  bx : τ.bx = σ.bx
  left : τ.left = σ.left
  status : τ.status = σ.status
  tr : τ.tr = σ.tr
theorem act_sim {n : Nat} (hn : 3264 ≤ n) {a : Ac} (ha : AcOk a) {σ τ : St} (h : Sim σ τ) (hp : Ap n τ) : Sim (act cP a σ).1 (act (cE false n) a τ).1 ∧ (act (cE false n) a τ).2 = (act cP a σ).2 ∧ Ap n (act (cE false n) a τ).1 := by
  obtain ⟨num, bx, at_, left, status, tr, peak⟩ := σ
  obtain ⟨num', bx', at_', left', status', tr', peak'⟩ := τ
  obtain ⟨h1, h2, h3, h4, h5⟩ := h
  simp only [] at h1 h2 h3 h4 h5
  subst h1 h2 h3 h4 h5
  have K : ∀ (num2 : Nat → Nat) (left2 status2 : Nat) (tr2 : List Nat) (pk2 : Nat), Ap n ⟨num2, bx', at_', left2, status2, tr2, pk2⟩ := fun _ _ _ _ _ => hp.keep rfl rfl
  cases a with
  | set v o => exact ⟨⟨rfl, rfl, rfl, rfl, rfl⟩, rfl, K _ _ _ _ _⟩
  | bin v o k p =>
    simp only [act]
    cases hb : binN k (valO num' o) (valO num' p) with
    | none => exact ⟨⟨rfl, rfl, rfl, rfl, rfl⟩, rfl, K _ _ _ _ _⟩
    | some x => exact ⟨⟨rfl, rfl, rfl, rfl, rfl⟩, rfl, K _ _ _ _ _⟩
  | load v b o =>
    simp only [act]
    split
    · exact ⟨⟨rfl, rfl, rfl, rfl, rfl⟩, rfl, K _ _ _ _ _⟩
    · split
      · exact ⟨⟨rfl, rfl, rfl, rfl, rfl⟩, rfl, K _ _ _ _ _⟩
      · exact ⟨⟨rfl, rfl, rfl, rfl, rfl⟩, rfl, K _ _ _ _ _⟩
  | size v b =>
    simp only [act]
    split
    · exact ⟨⟨rfl, rfl, rfl, rfl, rfl⟩, rfl, K _ _ _ _ _⟩
    · exact ⟨⟨rfl, rfl, rfl, rfl, rfl⟩, rfl, K _ _ _ _ _⟩
  | make b o =>
    simp only [act, show (cE false n).strict = false from rfl, show cP.strict = false from rfl, Bool.false_eq_true, false_and, if_false]
    split
    · exact ⟨⟨rfl, rfl, rfl, rfl, rfl⟩, rfl, K _ _ _ _ _⟩
    · rename_i hv
      have hd := hp.drop b
      obtain ⟨a, ha2⟩ := room hn hd ha.1 (by show upB bx' b [] b = []; rw [upB_at]) (k := valO num' o) (by omega)
      rcases alloc_cases n { num := num', bx := upB bx' b [], at_ := at_', left := left', status := status', tr := tr', peak := peak' } (valO num' o) with ⟨a1, h1⟩ | h1
      · have e1 : (cE false n).al { num := num', bx := upB bx' b [], at_ := at_', left := left', status := status', tr := tr', peak := peak' } (valO num' o) = some a1 := h1
        rw [e1]
        refine ⟨⟨rfl, rfl, rfl, rfl, rfl⟩, rfl, ?_⟩
        exact Ap.fill (σ := { num := num', bx := bx', at_ := at_', left := left', status := status', tr := tr', peak := peak' }) (k := valO num' o) hd (by simp) (by omega) (alloc_is h1).1
      · exact absurd ha2 (alloc_no h1 a)
  | move b d =>
    simp only [act, show (cE false n).strict = false from rfl, show cP.strict = false from rfl, Bool.false_eq_true, false_and, if_false]
    split
    · exact ⟨⟨rfl, rfl, rfl, rfl, rfl⟩, rfl, K _ _ _ _ _⟩
    · split
      · exact ⟨⟨rfl, rfl, rfl, rfl, rfl⟩, rfl, K _ _ _ _ _⟩
      · rename_i hne
        exact ⟨⟨rfl, rfl, rfl, rfl, rfl⟩, rfl, Ap.move (σ := { num := num', bx := bx', at_ := at_', left := left', status := status', tr := tr', peak := peak' }) hp ha.1 ha.2 hne⟩
  | store b o p =>
    simp only [act]
    split
    · exact ⟨⟨rfl, rfl, rfl, rfl, rfl⟩, rfl, K _ _ _ _ _⟩
    · split
      · exact ⟨⟨rfl, rfl, rfl, rfl, rfl⟩, rfl, K _ _ _ _ _⟩
      · refine ⟨⟨rfl, rfl, rfl, rfl, rfl⟩, rfl, hp.less (fun i hi => ?_) rfl⟩
        have hi' : upB bx' b ((bx' b).set (valO num' o) (valO num' p)) i ≠ [] := hi
        show bx' i ≠ [] ∧ (upB bx' b ((bx' b).set (valO num' o) (valO num' p)) i).length = (bx' i).length
        by_cases e : i = b
        · subst e; rw [upB_at] at hi' ⊢; refine ⟨fun q => hi' (by rw [q]; rfl), by simp⟩
        · rw [upB_ne _ _ e] at hi' ⊢; exact ⟨hi', rfl⟩
  | drop b =>
    simp only [act]
    split
    · exact ⟨⟨rfl, rfl, rfl, rfl, rfl⟩, rfl, K _ _ _ _ _⟩
    · exact ⟨⟨rfl, rfl, rfl, rfl, rfl⟩, rfl, hp.drop b⟩
  | print o => exact ⟨⟨rfl, rfl, rfl, rfl, rfl⟩, rfl, K _ _ _ _ _⟩
theorem Sim.due {σ τ : St} (h : Sim σ τ) : Sim (due σ) (due τ) := ⟨h.num, h.bx, by show τ.left - 1 = σ.left - 1; rw [h.left], h.status, h.tr⟩
theorem stp_sim {n : Nat} (hn : 3264 ≤ n) {a : Ac} (ha : AcOk a) {σ τ : St} (h : Sim σ τ) (hp : Ap n τ) : Sim (stp cP a σ).1 (stp (cE false n) a τ).1 ∧ (stp (cE false n) a τ).2 = (stp cP a σ).2 ∧ Ap n (stp (cE false n) a τ).1 := by
  unfold stp
  rw [h.left]
  split
  · split
    · exact ⟨⟨h.num, h.bx, h.left, rfl, h.tr⟩, rfl, hp.keep rfl rfl⟩
    · exact act_sim hn ha h.due (hp.keep rfl rfl)
  · exact act_sim hn ha h hp
/-- a run on a heap with room for all is the run with no heap -/
theorem Ex.heap {n : Nat} (hn : 3264 ≤ n) {P : Pg} {σ σ' : St} {b : Bool} (h : Ex cP P σ σ' b) : ∀ {τ : St}, PgOk P → Sim σ τ → Ap n τ → ∃ τ', Ex (cE false n) P τ τ' b ∧ Sim σ' τ' ∧ Ap n τ' := by
  induction h with
  | nil σ => exact fun hp hs ha => ⟨_, .nil _, hs, ha⟩
  | @stop a r σ σ' h =>
    intro τ hp hs ha
    obtain ⟨s1, s2, s3⟩ := stp_sim hn hp.1 hs ha
    rw [h] at s1 s2
    exact ⟨_, .stop (Prod.ext rfl s2), s1, s3⟩
  | @go a r σ σ1 σ2 b h hr ih =>
    intro τ hp hs ha
    obtain ⟨s1, s2, s3⟩ := stp_sim hn hp.1 hs ha
    rw [h] at s1 s2
    obtain ⟨τ2, e, g1, g2⟩ := ih hp.2 s1 s3
    exact ⟨τ2, .go (Prod.ext rfl s2) e, g1, g2⟩
  | @iteTired o p q r σ h => exact fun {τ} hp hs ha => ⟨tire τ, .iteTired (by rw [hs.left]; exact h), ⟨hs.num, hs.bx, hs.left, rfl, hs.tr⟩, ha.keep rfl rfl⟩
  | @iteStop o p q r σ σ1 h hp ih =>
    intro τ hpo hs ha
    have hok : PgOk (if valO σ.num o ≠ 0 then p else q) := by split; exact hpo.2.1; exact hpo.2.2.1
    obtain ⟨τ1, e, g1, g2⟩ := ih hok hs.due (ha.keep rfl rfl)
    exact ⟨τ1, .iteStop (by rw [hs.left]; exact h) (by rw [hs.num]; exact e), g1, g2⟩
  | @iteGo o p q r σ σ1 σ2 b h hp hr ih1 ih2 =>
    intro τ hpo hs ha
    have hok : PgOk (if valO σ.num o ≠ 0 then p else q) := by split; exact hpo.2.1; exact hpo.2.2.1
    obtain ⟨τ1, e, g1, g2⟩ := ih1 hok hs.due (ha.keep rfl rfl)
    obtain ⟨τ2, e2, k1, k2⟩ := ih2 hpo.2.2.2 g1 g2
    exact ⟨τ2, .iteGo (by rw [hs.left]; exact h) (by rw [hs.num]; exact e) e2, k1, k2⟩
  | @loopTired o p r σ h => exact fun {τ} hp hs ha => ⟨tire τ, .loopTired (by rw [hs.left]; exact h), ⟨hs.num, hs.bx, hs.left, rfl, hs.tr⟩, ha.keep rfl rfl⟩
  | @loopEnd o p r σ σ2 b h h0 hr ih =>
    intro τ hpo hs ha
    obtain ⟨τ1, e, g1, g2⟩ := ih hpo.2.2 hs.due (ha.keep rfl rfl)
    exact ⟨τ1, .loopEnd (by rw [hs.left]; exact h) (by rw [hs.num]; exact h0) e, g1, g2⟩
  | @loopStop o p r σ σ1 h h0 hp ih =>
    intro τ hpo hs ha
    obtain ⟨τ1, e, g1, g2⟩ := ih hpo.2.1 hs.due (ha.keep rfl rfl)
    exact ⟨τ1, .loopStop (by rw [hs.left]; exact h) (by rw [hs.num]; exact h0) e, g1, g2⟩
  | @loopGo o p r σ σ1 σ2 b h h0 hp hr ih1 ih2 =>
    intro τ hpo hs ha
    obtain ⟨τ1, e, g1, g2⟩ := ih1 hpo.2.1 hs.due (ha.keep rfl rfl)
    obtain ⟨τ2, e2, k1, k2⟩ := ih2 hpo g1 g2
    exact ⟨τ2, .loopGo (by rw [hs.left]; exact h) (by rw [hs.num]; exact h0) e e2, k1, k2⟩
end Go.Proofs.YthcjcjfgdgnljabDoor

namespace Go.Proofs.YthcjcjfgdgnljabDoor
set_option linter.unusedVariables false

/-- one behind the other -/
def seqP : Pg → Pg → Pg
  | .nil, Q => Q
  | .act a r, Q => .act a (seqP r Q)
  | .ite o p q r, Q => .ite o p q (seqP r Q)
  | .loop o p r, Q => .loop o p (seqP r Q)
/-- blocks end, and Q -/
def drP : List Nat → Pg → Pg
  | [], Q => Q
  | k :: l, Q => .act (.drop k) (drP l Q)
/-- the boxes of f that are not of g -/
def minL (f g : Nat → Bool) : List Nat := (List.range 26).filter (fun k => f k && !g k)
theorem mem_minL {f g : Nat → Bool} {k : Nat} : k ∈ minL f g ↔ k < 26 ∧ f k = true ∧ g k = false := by
  unfold minL
  simp [List.mem_filter]
theorem minL_nodup (f g : Nat → Bool) : (minL f g).Nodup := List.nodup_range.filter _
theorem minL_self (f : Nat → Bool) : minL f f = [] := by
  unfold minL
  rw [List.filter_eq_nil_iff]
  intro k _
  cases f k <;> simp
/-- the box whose block would be lost -/
def ownA : Ac → (Nat → Bool) → Option Nat
  | .make b _, f => if f b = true then some b else none
  | .move b d, f => if b ≠ d ∧ f b = true then some b else none
  | _, _ => none
/-- a sentence, and ahead of it the end of the block that it would lose -/
def ownP (a : Ac) (f : Nat → Bool) (r : Pg) : Pg := match ownA a f with
  | none => .act a r
  | some b => .act (.drop b) (.act a r)
/-- what is put in, f being full ahead -/
def lowG : Pg → (Nat → Bool) → Pg
  | .nil, _ => .nil
  | .act a r, f => ownP a f (lowG r (aftA a f))
  | .ite o p q r, f => .ite o (seqP (lowG p f) (drP (minL (aftG p f) (bothF (aftG p f) (aftG q f))) .nil)) (seqP (lowG q f) (drP (minL (aftG q f) (bothF (aftG p f) (aftG q f))) .nil)) (lowG r (bothF (aftG p f) (aftG q f)))
  | .loop o p r, f => drP (minL f (iterF (aftG p) 27 f)) (.loop o (seqP (lowG p (iterF (aftG p) 27 f)) (drP (minL (aftG p (iterF (aftG p) 27 f)) (iterF (aftG p) 27 f)) .nil)) (lowG r (iterF (aftG p) 27 f)))
def noF : Nat → Bool := fun _ => false
/-- and at the end all blocks end -/
def lowP (P : Pg) : Pg := seqP (lowG P noF) (drP (minL (aftG P noF) noF) .nil)

theorem Ex.seq {c : Cf} {P : Pg} {σ σ1 : St} {b : Bool} (h : Ex c P σ σ1 b) : ∀ {Q : Pg}, (b = true → ∀ {σ2 : St} {b2 : Bool}, Ex c Q σ1 σ2 b2 → Ex c (seqP P Q) σ σ2 b2) ∧ (b = false → Ex c (seqP P Q) σ σ1 false) := by
  induction h with
  | nil σ => exact fun {Q} => ⟨fun _ _ _ h => h, fun q => by cases q⟩
  | stop h => exact fun {Q} => ⟨fun q => (by cases q), fun _ => .stop h⟩
  | go h hr ih => exact fun {Q} => ⟨fun q _ _ h2 => .go h (ih.1 q h2), fun q => .go h (ih.2 q)⟩
  | iteTired h => exact fun {Q} => ⟨fun q => (by cases q), fun _ => .iteTired h⟩
  | iteStop h hp ih => exact fun {Q} => ⟨fun q => (by cases q), fun _ => .iteStop h hp⟩
  | iteGo h hp hr ih1 ih2 => exact fun {Q} => ⟨fun q _ _ h2 => .iteGo h hp (ih2.1 q h2), fun q => .iteGo h hp (ih2.2 q)⟩
  | loopTired h => exact fun {Q} => ⟨fun q => (by cases q), fun _ => .loopTired h⟩
  | loopEnd h h0 hr ih => exact fun {Q} => ⟨fun q _ _ h2 => .loopEnd h h0 (ih.1 q h2), fun q => .loopEnd h h0 (ih.2 q)⟩
  | loopStop h h0 hp ih => exact fun {Q} => ⟨fun q => (by cases q), fun _ => .loopStop h h0 hp⟩
  | loopGo h h0 hp hr ih1 ih2 => exact fun {Q} => ⟨fun q _ _ h2 => .loopGo h h0 hp (ih2.1 q h2), fun q => .loopGo h h0 hp (ih2.2 q)⟩
/-- blocks have ended -/
def clr : List Nat → St → St
  | [], τ => τ
  | k :: l, τ => clr l { τ with bx := upB τ.bx k [] }
theorem clr_bx : ∀ (l : List Nat) (τ : St) (j : Nat), (clr l τ).bx j = if j ∈ l then [] else τ.bx j
  | [], τ, j => by simp [clr]
  | k :: l, τ, j => by
    rw [clr, clr_bx l]
    show (if j ∈ l then [] else upB τ.bx k [] j) = _
    by_cases e : j = k
    · subst e; rw [upB_at]; simp
    · rw [upB_ne _ _ e]
      simp [e]
theorem clr_like : ∀ (l : List Nat) (τ : St), (clr l τ).num = τ.num ∧ (clr l τ).at_ = τ.at_ ∧ (clr l τ).left = τ.left ∧ (clr l τ).status = τ.status ∧ (clr l τ).tr = τ.tr ∧ (clr l τ).peak = τ.peak
  | [], τ => ⟨rfl, rfl, rfl, rfl, rfl, rfl⟩
  | k :: l, τ => clr_like l { τ with bx := upB τ.bx k [] }
theorem Ex.drop {c : Cf} : ∀ {l : List Nat} {τ τ' : St} {b : Bool} {Q : Pg}, (∀ k, k ∈ l → τ.bx k ≠ []) → l.Nodup → Ex c Q (clr l τ) τ' b → Ex c (drP l Q) τ τ' b
  | [], τ, τ', b, Q, h1, h2, h => h
  | k :: l, τ, τ', b, Q, h1, h2, h => by
    have hk := h1 k List.mem_cons_self
    rw [List.nodup_cons] at h2
    refine .go (σ1 := { τ with bx := upB τ.bx k [] }) ?_ (Ex.drop (fun j hj => ?_) h2.2 h)
    · show act c (.drop k) τ = _
      simp only [act]
      rw [if_neg hk]
    · show upB τ.bx k [] j ≠ []
      rw [upB_ne _ _ (fun e => h2.1 (by rw [← e]; exact hj))]
      exact h1 j (List.mem_cons_of_mem _ hj)

/-- the run as it is written, and the run on a heap: just the boxes of f have a block there -/
structure LS (f : Nat → Bool) (σ τ : St) : Prop where
  num : τ.num = σ.num
  left : τ.left = σ.left
  status : τ.status = σ.status
  tr : τ.tr = σ.tr
  on : ∀ k, f k = true → τ.bx k = σ.bx k ∧ σ.bx k ≠ []
  off : ∀ k, f k = false → τ.bx k = []
theorem LS.less {f g : Nat → Bool} {σ τ : St} (h : LS f σ τ) (hc : Clean f) (hs : Sub g f) : LS g σ (clr (minL f g) τ) := by
  obtain ⟨c1, c2, c3, c4, c5, c6⟩ := clr_like (minL f g) τ
  refine ⟨c1.trans h.num, c3.trans h.left, c4.trans h.status, c5.trans h.tr, fun k hk => ?_, fun k hk => ?_⟩
  · rw [clr_bx, if_neg (fun q => by rw [mem_minL] at q; rw [hk] at q; cases q.2.2)]
    exact h.on k (hs k hk)
  · rw [clr_bx]
    by_cases q : f k = true
    · have h26 : k < 26 := Nat.lt_of_not_le (fun q2 => by rw [hc k q2] at q; cases q)
      rw [if_pos (mem_minL.2 ⟨h26, q, hk⟩)]
    · split
      · rfl
      · exact h.off k (by simpa using q)
theorem LS.full {f g : Nat → Bool} {σ τ : St} (h : LS f σ τ) : ∀ k, k ∈ minL f g → τ.bx k ≠ [] := fun k hk => by
  rw [mem_minL] at hk
  rw [(h.on k hk.2.1).1]
  exact (h.on k hk.2.1).2
theorem LS.due {f : Nat → Bool} {σ τ : St} (h : LS f σ τ) : LS f (due σ) (due τ) := ⟨h.num, by show τ.left - 1 = σ.left - 1; rw [h.left], h.status, h.tr, h.on, h.off⟩
theorem LS.like {f : Nat → Bool} {σ τ σ' τ' : St} (h : LS f σ τ) (h1 : τ'.num = σ'.num) (h2 : τ'.left = σ'.left) (h3 : τ'.status = σ'.status) (h4 : τ'.tr = σ'.tr) (h5 : σ'.bx = σ.bx) (h6 : τ'.bx = τ.bx) : LS f σ' τ' :=
  ⟨h1, h2, h3, h4, by rw [h5, h6]; exact h.on, by rw [h6]; exact h.off⟩

/-- how the run on a heap goes, where the other ends at σ': as that, or there is no room -/
def Low (c : Cf) (Q : Pg) (g : Nat → Bool) (τ σ' : St) (b : Bool) : Prop :=
  (∃ τ', Ex c Q τ τ' b ∧ τ'.status = σ'.status ∧ τ'.tr = σ'.tr ∧ (b = true → LS g σ' τ')) ∨ (∃ τ', Ex c Q τ τ' false ∧ τ'.status = 3 ∧ τ'.tr <+: σ'.tr)
/-- the same of one sentence -/
def LowA (c : Cf) (a : Ac) (g : Nat → Bool) (τ σ : St) (x : St × Bool) : Prop :=
  (∃ τ', act c a τ = (τ', x.2) ∧ τ'.status = x.1.status ∧ τ'.tr = x.1.tr ∧ (x.2 = true → LS g x.1 τ')) ∨ (∃ τ', act c a τ = (τ', false) ∧ τ'.status = 3 ∧ τ'.tr = σ.tr)
/-- the sets behind a sentence, and the block that it would lose being gone -/
def goneF (a : Ac) (f : Nat → Bool) : Nat → Bool := match ownA a f with
  | none => f
  | some b => updB f b false
theorem act_low (c : Cf) {a : Ac} {f : Nat → Bool} {σ τ : St} (hu : ∀ b, useA a = some b → f b = true) (h : LS (goneF a f) σ τ) : LowA c a (aftA a f) τ σ (act cP a σ) := by
  have ends_ : ∀ k, ends τ k = ({ τ with status := k }, false) := fun k => rfl
  cases a with
  | set v o =>
    refine .inl ⟨{ τ with num := upN τ.num v (valO τ.num o) }, rfl, h.status, h.tr, fun _ => ?_⟩
    exact h.like (by show upN τ.num v (valO τ.num o) = upN σ.num v (valO σ.num o); rw [h.num]) h.left h.status h.tr rfl rfl
  | bin v o k p =>
    simp only [act]
    unfold LowA
    simp only [act]
    rw [h.num]
    cases binN k (valO σ.num o) (valO σ.num p) with
    | none => exact .inl ⟨_, rfl, rfl, h.tr, fun q => by cases q⟩
    | some y => exact .inl ⟨_, rfl, h.status, h.tr, fun _ => h.like rfl h.left h.status h.tr rfl rfl⟩
  | load v k o =>
    have hk := h.on k (hu k rfl)
    unfold LowA
    simp only [act]
    rw [h.num, hk.1, if_neg hk.2, if_neg hk.2]
    split
    · exact .inl ⟨_, rfl, rfl, h.tr, fun q => by cases q⟩
    · exact .inl ⟨_, rfl, h.status, h.tr, fun _ => h.like rfl h.left h.status h.tr rfl rfl⟩
  | size v k =>
    have hk := h.on k (hu k rfl)
    unfold LowA
    simp only [act]
    rw [h.num, hk.1, if_neg hk.2, if_neg hk.2]
    exact .inl ⟨_, rfl, h.status, h.tr, fun _ => h.like rfl h.left h.status h.tr rfl rfl⟩
  | store k o p =>
    have hk := h.on k (hu k rfl)
    unfold LowA
    simp only [act]
    rw [h.num, hk.1, if_neg hk.2, if_neg hk.2]
    split
    · exact .inl ⟨_, rfl, rfl, h.tr, fun q => by cases q⟩
    · refine .inl ⟨_, rfl, h.status, h.tr, fun _ => ⟨rfl, h.left, h.status, h.tr, fun j hj => ?_, fun j hj => ?_⟩⟩
      · show upB τ.bx k _ j = upB σ.bx k _ j ∧ upB σ.bx k _ j ≠ []
        by_cases e : j = k
        · subst e
          rw [upB_at, upB_at]
          refine ⟨rfl, fun q => hk.2 ?_⟩
          have := congrArg List.length q
          simp at this
          exact this
        · rw [upB_ne _ _ e, upB_ne _ _ e]; exact h.on j hj
      · show upB τ.bx k _ j = []
        have e : j ≠ k := fun e => by subst e; rw [show aftA (.store j o p) f j = f j from rfl, hu j rfl] at hj; cases hj
        rw [upB_ne _ _ e]; exact h.off j hj
  | drop k =>
    have hk := h.on k (hu k rfl)
    unfold LowA
    simp only [act]
    rw [hk.1, if_neg hk.2, if_neg hk.2]
    refine .inl ⟨_, rfl, h.status, h.tr, fun _ => ⟨h.num, h.left, h.status, h.tr, fun j hj => ?_, fun j hj => ?_⟩⟩
    · have hj' : updB f k false j = true := hj
      unfold updB at hj'
      split at hj'
      · cases hj'
      · rename_i e
        show upB τ.bx k [] j = upB σ.bx k [] j ∧ upB σ.bx k [] j ≠ []
        rw [upB_ne _ _ e, upB_ne _ _ e]; exact h.on j hj'
    · have hj' : updB f k false j = false := hj
      show upB τ.bx k [] j = []
      by_cases e : j = k
      · subst e; rw [upB_at]
      · unfold updB at hj'
        rw [if_neg e] at hj'
        rw [upB_ne _ _ e]; exact h.off j hj'
  | print o =>
    unfold LowA
    simp only [act]
    rw [h.num]
    exact .inl ⟨_, rfl, h.status, by show τ.tr ++ _ ++ _ = σ.tr ++ _ ++ _; rw [h.tr], fun _ => h.like rfl h.left h.status (by show τ.tr ++ _ ++ _ = σ.tr ++ _ ++ _; rw [h.tr]) rfl rfl⟩
  | make k o =>
    have hg : ∀ j, goneF (.make k o) f j = updB f k false j := fun j => by
      unfold goneF
      rw [show ownA (.make k o) f = (if f k = true then some k else none) from rfl]
      by_cases q : f k = true
      · rw [if_pos q]
      · rw [if_neg q]
        unfold updB
        split
        · rename_i e; rw [e]; simpa using q
        · rfl
    have hk : τ.bx k = [] := h.off k (by rw [hg]; unfold updB; rw [if_pos rfl])
    unfold LowA
    simp only [act, show cP.strict = false from rfl, Bool.false_eq_true, false_and, if_false]
    rw [show valO τ.num o = valO σ.num o by rw [h.num], if_neg (fun q => q.2 hk)]
    split
    · exact .inl ⟨_, rfl, rfl, h.tr, fun q => by cases q⟩
    · rename_i hv
      simp only [show ∀ (ρ : St) (m : Nat), cP.al ρ m = some 0 from fun _ _ => rfl]
      cases hal : c.al { τ with bx := upB τ.bx k [] } (valO σ.num o) with
      | none => exact .inr ⟨_, rfl, rfl, h.tr⟩
      | some y =>
        refine .inl ⟨_, rfl, h.status, h.tr, fun _ => ⟨h.num, h.left, h.status, h.tr, fun j hj => ?_, fun j hj => ?_⟩⟩
        · show upB τ.bx k _ j = upB σ.bx k _ j ∧ upB σ.bx k _ j ≠ []
          by_cases e : j = k
          · subst e
            rw [upB_at, upB_at]
            refine ⟨rfl, fun q => ?_⟩
            have := congrArg List.length q
            simp at this
            omega
          · have hj' : updB f k true j = true := hj
            unfold updB at hj'
            rw [if_neg e] at hj'
            rw [upB_ne _ _ e, upB_ne _ _ e]
            exact h.on j (by rw [hg]; unfold updB; rw [if_neg e]; exact hj')
        · have hj' : updB f k true j = false := hj
          unfold updB at hj'
          split at hj'
          · cases hj'
          · rename_i e
            show upB τ.bx k _ j = []
            rw [upB_ne _ _ e]
            exact h.off j (by rw [hg]; unfold updB; rw [if_neg e]; exact hj')
  | move k d =>
    have hfd : f d = true := hu d rfl
    by_cases e : k = d
    · subst e
      have hg : goneF (.move k k) f = f := by unfold goneF; rw [show ownA (.move k k) f = (if k ≠ k ∧ f k = true then some k else none) from rfl, if_neg (by simp)]
      rw [hg] at h
      have hk := h.on k hfd
      unfold LowA
      simp only [act]
      rw [hk.1, if_neg hk.2, if_neg hk.2, if_pos trivial, if_pos trivial]
      refine .inl ⟨_, rfl, h.status, h.tr, fun _ => ?_⟩
      show LS (if k = k then f else _) σ τ
      rw [if_pos rfl]
      exact h
    · have hg : ∀ j, goneF (.move k d) f j = updB f k false j := fun j => by
        unfold goneF
        rw [show ownA (.move k d) f = (if k ≠ d ∧ f k = true then some k else none) from rfl]
        by_cases q : f k = true
        · rw [if_pos ⟨e, q⟩]
        · rw [if_neg (fun q2 => q q2.2)]
          unfold updB
          split
          · rename_i e2; rw [e2]; simpa using q
          · rfl
      have hk : τ.bx k = [] := h.off k (by rw [hg]; unfold updB; rw [if_pos rfl])
      have hd := h.on d (by rw [hg]; unfold updB; rw [if_neg (fun q => e q.symm)]; exact hfd)
      unfold LowA
      simp only [act, show cP.strict = false from rfl, Bool.false_eq_true, false_and, if_false]
      rw [hd.1, if_neg hd.2, if_neg hd.2, if_neg e, if_neg e, if_neg (fun q => q.2 hk)]
      refine .inl ⟨_, rfl, h.status, h.tr, fun _ => ?_⟩
      have ha : aftA (.move k d) f = updB (updB f k (f d)) d false := by show (if k = d then f else _) = _; rw [if_neg e]
      rw [ha]
      refine ⟨h.num, h.left, h.status, h.tr, fun j hj => ?_, fun j hj => ?_⟩
      · show upB (upB τ.bx k (σ.bx d)) d [] j = upB (upB σ.bx k (σ.bx d)) d [] j ∧ upB (upB σ.bx k (σ.bx d)) d [] j ≠ []
        unfold updB at hj
        split at hj
        · cases hj
        · rename_i e1
          rw [upB_ne _ _ e1, upB_ne _ _ e1]
          by_cases e2 : j = k
          · subst e2; rw [upB_at, upB_at]; exact ⟨rfl, hd.2⟩
          · rw [if_neg e2] at hj
            rw [upB_ne _ _ e2, upB_ne _ _ e2]
            exact h.on j (by rw [hg]; unfold updB; rw [if_neg e2]; exact hj)
      · show upB (upB τ.bx k (σ.bx d)) d [] j = []
        by_cases e1 : j = d
        · subst e1; rw [upB_at]
        · rw [upB_ne _ _ e1]
          unfold updB at hj
          rw [if_neg e1] at hj
          by_cases e2 : j = k
          · rw [if_pos e2, hfd] at hj; cases hj
          · rw [if_neg e2] at hj
            rw [upB_ne _ _ e2]
            exact h.off j (by rw [hg]; unfold updB; rw [if_neg e2]; exact hj)
end Go.Proofs.YthcjcjfgdgnljabDoor
