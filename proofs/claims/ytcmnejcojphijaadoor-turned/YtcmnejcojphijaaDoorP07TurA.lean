/-
  MacD, TurA: one behind the other.
-/
import Derived.Test.YtcmnejcojphijaaDoorP06MacC
import Derived.Test.YtcmnejcojphijaaDoorP03RunP
namespace Go.Proofs.YtcmnejcojphijaaDoor
set_option linter.unusedVariables false

/-- k words from a on are free, of n -/
def FreeS (n : Nat) (σ : St) (k a : Nat) : Prop := a + k ≤ n ∧ ∀ b, b < 26 → σ.bx b ≠ [] → a + k ≤ σ.at_ b ∨ σ.at_ b + (σ.bx b).length ≤ a
instance (n : Nat) (σ : St) (k a : Nat) : Decidable (FreeS n σ k a) := by unfold FreeS; infer_instance
/-- the first place with room for k words, if there is one -/
def allocS (n : Nat) (σ : St) (k : Nat) : Option Nat := (List.range (n + 1)).find? (fun a => decide (FreeS n σ k a))
theorem alloc_is {n : Nat} {σ : St} {k a : Nat} (h : allocS n σ k = some a) : FreeS n σ k a ∧ ∀ b, b < a → ¬ FreeS n σ k b := by
  unfold allocS at h
  rw [List.find?_range_eq_some] at h
  exact ⟨by simpa using h.1, fun b hb => by simpa using h.2.2 b hb⟩
theorem alloc_no {n : Nat} {σ : St} {k : Nat} (h : allocS n σ k = none) : ∀ a, ¬ FreeS n σ k a := fun a ha => by
  unfold allocS at h
  rw [List.find?_eq_none] at h
  have := h a (by have := ha.1; simp; omega)
  exact this (by simpa using ha)
theorem alloc_cases (n : Nat) (σ : St) (k : Nat) : (∃ a, allocS n σ k = some a) ∨ allocS n σ k = none := by
  cases h : allocS n σ k with
  | none => exact .inr rfl
  | some a => exact .inl ⟨a, rfl⟩

/-- Play of the document: no heap -/
def cP : Cf := ⟨false, fun _ _ => some 0⟩
/-- on a heap of n words -/
def cE (strict : Bool) (n : Nat) : Cf := ⟨strict, allocS n⟩
/-- blocks lie apart, in n words -/
structure Ap (n : Nat) (σ : St) : Prop where
  inn : ∀ b, b < 26 → σ.bx b ≠ [] → σ.at_ b + (σ.bx b).length ≤ n
  sz : ∀ b, b < 26 → (σ.bx b).length ≤ 64
  ap : ∀ b c, b < 26 → c < 26 → b ≠ c → σ.bx b ≠ [] → σ.bx c ≠ [] → σ.at_ b + (σ.bx b).length ≤ σ.at_ c ∨ σ.at_ c + (σ.bx c).length ≤ σ.at_ b

/-- one number of 0 .. m is not in a list of m -/
theorem left_out : ∀ (m : Nat) (L : List Nat), L.length ≤ m → ∃ j, j ≤ m ∧ j ∉ L
  | 0, L, h => ⟨0, Nat.le_refl _, by have e : L = [] := List.eq_nil_of_length_eq_zero (by omega); rw [e]; simp⟩
  | m + 1, L, h => by
    by_cases hm : (m + 1) ∈ L
    · have hl : (L.erase (m + 1)).length ≤ m := by rw [List.length_erase_of_mem hm]; omega
      obtain ⟨j, h1, h2⟩ := left_out m (L.erase (m + 1)) hl
      exact ⟨j, by omega, fun q => h2 ((List.mem_erase_of_ne (by omega)).2 q)⟩
    · exact ⟨m + 1, Nat.le_refl _, hm⟩
/-- the fields of 64 words that a block lies in -/
def fieldsOf (σ : St) (b : Nat) : List Nat := if σ.bx b = [] then [] else [σ.at_ b / 64, (σ.at_ b + (σ.bx b).length - 1) / 64]
theorem fields_len (σ : St) : ∀ (L : List Nat), (L.flatMap (fieldsOf σ)).length ≤ 2 * L.length
  | [] => Nat.le_refl _
  | b :: L => by
    have := fields_len σ L
    have h : (fieldsOf σ b).length ≤ 2 := by unfold fieldsOf; split <;> simp
    simp only [List.flatMap_cons, List.length_append, List.length_cons]
    omega
theorem fields_len0 (σ : St) {v : Nat} (hv : σ.bx v = []) : ∀ (L : List Nat), v ∈ L → (L.flatMap (fieldsOf σ)).length + 2 ≤ 2 * L.length
  | [], h => by cases h
  | b :: L, h => by
    simp only [List.flatMap_cons, List.length_append, List.length_cons]
    by_cases e : v = b
    · subst e
      have := fields_len σ L
      have h0 : (fieldsOf σ v).length = 0 := by unfold fieldsOf; rw [if_pos hv]; rfl
      omega
    · have hm : v ∈ L := by
        rcases List.mem_cons.1 h with q | q
        · exact absurd q e
        · exact q
      have := fields_len0 σ hv L hm
      have h : (fieldsOf σ b).length ≤ 2 := by unfold fieldsOf; split <;> simp
      omega
/-- with 3264 words there is room for one block more -/
theorem room {n : Nat} {σ : St} (hn : 3264 ≤ n) (h : Ap n σ) {v k : Nat} (hv : v < 26) (he : σ.bx v = []) (hk : k ≤ 64) : ∃ a, FreeS n σ k a := by
  have hlen := fields_len0 σ he (List.range 26) (by simpa using hv)
  obtain ⟨j, h1, h2⟩ := left_out 50 ((List.range 26).flatMap (fieldsOf σ)) (by simp at hlen ⊢; omega)
  refine ⟨64 * j, by omega, fun b hb hbx => ?_⟩
  have hf : j ∉ fieldsOf σ b := fun q => h2 (List.mem_flatMap.2 ⟨b, by simpa using hb, q⟩)
  unfold fieldsOf at hf
  rw [if_neg hbx] at hf
  have h0 : 0 < (σ.bx b).length := List.length_pos_iff.2 hbx
  have h64 := h.sz b hb
  have f1 : j ≠ σ.at_ b / 64 := fun q => hf (by simp [q])
  have f2 : j ≠ (σ.at_ b + (σ.bx b).length - 1) / 64 := fun q => hf (by simp [q])
  omega

theorem Ap.keep {n : Nat} {σ τ : St} (h : Ap n σ) (hb : τ.bx = σ.bx) (ha : τ.at_ = σ.at_) : Ap n τ := ⟨by rw [hb, ha]; exact h.inn, by rw [hb]; exact h.sz, by rw [hb, ha]; exact h.ap⟩
/-- some boxes are emptied, or keep the length of their blocks -/
theorem Ap.less {n : Nat} {σ τ : St} (h : Ap n σ) (hb : ∀ b, τ.bx b ≠ [] → σ.bx b ≠ [] ∧ (τ.bx b).length = (σ.bx b).length) (ha : τ.at_ = σ.at_) : Ap n τ := by
  refine ⟨fun b h1 h2 => ?_, fun b h1 => ?_, fun b c h1 h2 h3 h4 h5 => ?_⟩
  · rw [ha, (hb b h2).2]; exact h.inn b h1 (hb b h2).1
  · by_cases e : τ.bx b = []
    · rw [e]; simp
    · rw [(hb b e).2]; exact h.sz b h1
  · rw [ha, (hb b h4).2, (hb c h5).2]; exact h.ap b c h1 h2 h3 (hb b h4).1 (hb c h5).1
theorem Ap.drop {n : Nat} {σ : St} (h : Ap n σ) (v : Nat) : Ap n { σ with bx := upB σ.bx v [] } := h.less (fun b hb => by
  have hb' : upB σ.bx v [] b ≠ [] := hb
  by_cases e : b = v
  · subst e; rw [upB_at] at hb'; exact absurd rfl hb'
  · rw [upB_ne _ _ e] at hb'
    exact ⟨hb', by show (upB σ.bx v [] b).length = _; rw [upB_ne _ _ e]⟩) rfl
theorem Ap.fill {n : Nat} {σ : St} {v k a p : Nat} {l : List Nat} (h : Ap n { σ with bx := upB σ.bx v [] }) (hl : l.length = k) (hk : k ≤ 64) (hf : FreeS n { σ with bx := upB σ.bx v [] } k a) : Ap n { σ with bx := upB σ.bx v l, at_ := upN σ.at_ v a, peak := p } := by
  have hoff : ∀ b, b ≠ v → upB σ.bx v l b = upB σ.bx v [] b := fun b e => by rw [upB_ne _ _ e, upB_ne _ _ e]
  refine ⟨fun b h1 h2 => ?_, fun b h1 => ?_, fun b c h1 h2 h3 h4 h5 => ?_⟩
  · show upN σ.at_ v a b + (upB σ.bx v l b).length ≤ n
    by_cases e : b = v
    · subst e; rw [upN_at, upB_at, hl]; exact hf.1
    · have h2' : upB σ.bx v l b ≠ [] := h2
      rw [upN_ne _ _ e, hoff b e]; rw [hoff b e] at h2'
      exact h.inn b h1 h2'
  · show (upB σ.bx v l b).length ≤ 64
    by_cases e : b = v
    · subst e; rw [upB_at, hl]; exact hk
    · rw [hoff b e]; exact h.sz b h1
  · show upN σ.at_ v a b + (upB σ.bx v l b).length ≤ upN σ.at_ v a c ∨ upN σ.at_ v a c + (upB σ.bx v l c).length ≤ upN σ.at_ v a b
    have h4' : upB σ.bx v l b ≠ [] := h4
    have h5' : upB σ.bx v l c ≠ [] := h5
    by_cases e : b = v
    · have e2 : c ≠ v := fun q => h3 (by omega)
      subst e
      rw [upN_at, upB_at, hl, upN_ne _ _ e2, hoff c e2]
      rw [hoff c e2] at h5'
      exact hf.2 c h2 h5'
    · rw [upN_ne _ _ e, hoff b e]
      rw [hoff b e] at h4'
      by_cases e2 : c = v
      · subst e2
        rw [upN_at, upB_at, hl]
        exact (hf.2 b h1 h4').symm
      · rw [upN_ne _ _ e2, hoff c e2]
        rw [hoff c e2] at h5'
        exact h.ap b c h1 h2 h3 h4' h5'
theorem Ap.move {n : Nat} {σ : St} {b d : Nat} (h : Ap n σ) (hb : b < 26) (hd : d < 26) (hne : b ≠ d) : Ap n { σ with bx := upB (upB σ.bx b (σ.bx d)) d [], at_ := upN σ.at_ b (σ.at_ d) } := by
  have e0 : ∀ i, upB (upB σ.bx b (σ.bx d)) d [] i ≠ [] → i ≠ d ∧ ((i = b ∧ upB (upB σ.bx b (σ.bx d)) d [] i = σ.bx d ∧ upN σ.at_ b (σ.at_ d) i = σ.at_ d) ∨ (i ≠ b ∧ upB (upB σ.bx b (σ.bx d)) d [] i = σ.bx i ∧ upN σ.at_ b (σ.at_ d) i = σ.at_ i)) := fun i hi => by
    by_cases e : i = d
    · subst e; rw [upB_at] at hi; exact absurd rfl hi
    · refine ⟨e, ?_⟩
      by_cases e2 : i = b
      · subst e2; exact .inl ⟨rfl, by rw [upB_ne _ _ e, upB_at], upN_at _ _ _⟩
      · exact .inr ⟨e2, by rw [upB_ne _ _ e, upB_ne _ _ e2], upN_ne _ _ e2⟩
  refine ⟨fun i h1 h2 => ?_, fun i h1 => ?_, fun i j h1 h2 h3 h4 h5 => ?_⟩
  · have h2' : upB (upB σ.bx b (σ.bx d)) d [] i ≠ [] := h2
    show upN σ.at_ b (σ.at_ d) i + (upB (upB σ.bx b (σ.bx d)) d [] i).length ≤ n
    obtain ⟨_, ⟨_, q1, q2⟩ | ⟨_, q1, q2⟩⟩ := e0 i h2'
    · rw [q1] at h2'; rw [q1, q2]; exact h.inn d hd h2'
    · rw [q1] at h2'; rw [q1, q2]; exact h.inn i h1 h2'
  · show (upB (upB σ.bx b (σ.bx d)) d [] i).length ≤ 64
    by_cases e : upB (upB σ.bx b (σ.bx d)) d [] i = []
    · rw [e]; simp
    · obtain ⟨_, ⟨_, q1, q2⟩ | ⟨_, q1, q2⟩⟩ := e0 i e
      · rw [q1]; exact h.sz d hd
      · rw [q1]; exact h.sz i h1
  · have h4' : upB (upB σ.bx b (σ.bx d)) d [] i ≠ [] := h4
    have h5' : upB (upB σ.bx b (σ.bx d)) d [] j ≠ [] := h5
    show upN σ.at_ b (σ.at_ d) i + (upB (upB σ.bx b (σ.bx d)) d [] i).length ≤ upN σ.at_ b (σ.at_ d) j ∨ upN σ.at_ b (σ.at_ d) j + (upB (upB σ.bx b (σ.bx d)) d [] j).length ≤ upN σ.at_ b (σ.at_ d) i
    obtain ⟨n1, ⟨p0, p1, p2⟩ | ⟨p0, p1, p2⟩⟩ := e0 i h4'
    · obtain ⟨n2, ⟨q0, q1, q2⟩ | ⟨q0, q1, q2⟩⟩ := e0 j h5'
      · exact absurd (p0.trans q0.symm) h3
      · rw [p1] at h4'; rw [q1] at h5'
        rw [p1, p2, q1, q2]; exact h.ap d j hd h2 (Ne.symm n2) h4' h5'
    · obtain ⟨n2, ⟨q0, q1, q2⟩ | ⟨q0, q1, q2⟩⟩ := e0 j h5'
      · rw [p1] at h4'; rw [q1] at h5'
        rw [p1, p2, q1, q2]; exact h.ap i d h1 hd n1 h4' h5'
      · rw [p1] at h4'; rw [q1] at h5'
        rw [p1, p2, q1, q2]; exact h.ap i j h1 h2 h3 h4' h5'

/-- the same run, but for where the blocks lie -/
structure Sim (σ τ : St) : Prop where
  num : τ.num = σ.num
  bx : τ.bx = σ.bx
  left : τ.left = σ.left
  status : τ.status = σ.status
  tr : τ.tr = σ.tr
theorem act_sim {n : Nat} (hn : 3264 ≤ n) {a : Ac} (ha : AcOk a) {σ τ : St} (h : Sim σ τ) (hp : Ap n τ) : Sim (act cP a σ).1 (act (cE false n) a τ).1 ∧ (act (cE false n) a τ).2 = (act cP a σ).2 ∧ Ap n (act (cE false n) a τ).1 := by
  obtain ⟨num, bx, at_, left, status, tr, peak⟩ := σ
  obtain ⟨num', bx', at_', left', status', tr', peak'⟩ := τ
  obtain ⟨h1, h2, h3, h4, h5⟩ := h
  simp only [] at h1 h2 h3 h4 h5
  subst h1 h2 h3 h4 h5
  have K : ∀ (num2 : Nat → Nat) (left2 status2 : Nat) (tr2 : List Nat) (pk2 : Nat), Ap n ⟨num2, bx', at_', left2, status2, tr2, pk2⟩ := fun _ _ _ _ _ => hp.keep rfl rfl
  cases a with
  | set v o => exact ⟨⟨rfl, rfl, rfl, rfl, rfl⟩, rfl, K _ _ _ _ _⟩
  | bin v o k p =>
    simp only [act]
    cases hb : binN k (valO num' o) (valO num' p) with
    | none => exact ⟨⟨rfl, rfl, rfl, rfl, rfl⟩, rfl, K _ _ _ _ _⟩
    | some x => exact ⟨⟨rfl, rfl, rfl, rfl, rfl⟩, rfl, K _ _ _ _ _⟩
  | load v b o =>
    simp only [act]
    split
    · exact ⟨⟨rfl, rfl, rfl, rfl, rfl⟩, rfl, K _ _ _ _ _⟩
    · split
      · exact ⟨⟨rfl, rfl, rfl, rfl, rfl⟩, rfl, K _ _ _ _ _⟩
      · exact ⟨⟨rfl, rfl, rfl, rfl, rfl⟩, rfl, K _ _ _ _ _⟩
  | size v b =>
    simp only [act]
    split
    · exact ⟨⟨rfl, rfl, rfl, rfl, rfl⟩, rfl, K _ _ _ _ _⟩
    · exact ⟨⟨rfl, rfl, rfl, rfl, rfl⟩, rfl, K _ _ _ _ _⟩
  | make b o =>
    simp only [act, show (cE false n).strict = false from rfl, show cP.strict = false from rfl, Bool.false_eq_true, false_and, if_false]
    split
    · exact ⟨⟨rfl, rfl, rfl, rfl, rfl⟩, rfl, K _ _ _ _ _⟩
    · rename_i hv
      have hd := hp.drop b
      obtain ⟨a, ha2⟩ := room hn hd ha.1 (by show upB bx' b [] b = []; rw [upB_at]) (k := valO num' o) (by omega)
      rcases alloc_cases n { num := num', bx := upB bx' b [], at_ := at_', left := left', status := status', tr := tr', peak := peak' } (valO num' o) with ⟨a1, h1⟩ | h1
      · have e1 : (cE false n).al { num := num', bx := upB bx' b [], at_ := at_', left := left', status := status', tr := tr', peak := peak' } (valO num' o) = some a1 := h1
        rw [e1]
        refine ⟨⟨rfl, rfl, rfl, rfl, rfl⟩, rfl, ?_⟩
        exact Ap.fill (σ := { num := num', bx := bx', at_ := at_', left := left', status := status', tr := tr', peak := peak' }) (k := valO num' o) hd (by simp) (by omega) (alloc_is h1).1
      · exact absurd ha2 (alloc_no h1 a)
  | move b d =>
    simp only [act, show (cE false n).strict = false from rfl, show cP.strict = false from rfl, Bool.false_eq_true, false_and, if_false]
    split
    · exact ⟨⟨rfl, rfl, rfl, rfl, rfl⟩, rfl, K _ _ _ _ _⟩
    · split
      · exact ⟨⟨rfl, rfl, rfl, rfl, rfl⟩, rfl, K _ _ _ _ _⟩
      · rename_i hne
        exact ⟨⟨rfl, rfl, rfl, rfl, rfl⟩, rfl, Ap.move (σ := { num := num', bx := bx', at_ := at_', left := left', status := status', tr := tr', peak := peak' }) hp ha.1 ha.2 hne⟩
  | store b o p =>
    simp only [act]
    split
    · exact ⟨⟨rfl, rfl, rfl, rfl, rfl⟩, rfl, K _ _ _ _ _⟩
    · split
      · exact ⟨⟨rfl, rfl, rfl, rfl, rfl⟩, rfl, K _ _ _ _ _⟩
      · refine ⟨⟨rfl, rfl, rfl, rfl, rfl⟩, rfl, hp.less (fun i hi => ?_) rfl⟩
        have hi' : upB bx' b ((bx' b).set (valO num' o) (valO num' p)) i ≠ [] := hi
        show bx' i ≠ [] ∧ (upB bx' b ((bx' b).set (valO num' o) (valO num' p)) i).length = (bx' i).length
        by_cases e : i = b
        · subst e; rw [upB_at] at hi' ⊢; refine ⟨fun q => hi' (by rw [q]; rfl), by simp⟩
        · rw [upB_ne _ _ e] at hi' ⊢; exact ⟨hi', rfl⟩
  | drop b =>
    simp only [act]
    split
    · exact ⟨⟨rfl, rfl, rfl, rfl, rfl⟩, rfl, K _ _ _ _ _⟩
    · exact ⟨⟨rfl, rfl, rfl, rfl, rfl⟩, rfl, hp.drop b⟩
  | print o => exact ⟨⟨rfl, rfl, rfl, rfl, rfl⟩, rfl, K _ _ _ _ _⟩
theorem Sim.due {σ τ : St} (h : Sim σ τ) : Sim (due σ) (due τ) := ⟨h.num, h.bx, by show τ.left - 1 = σ.left - 1; rw [h.left], h.status, h.tr⟩
theorem stp_sim {n : Nat} (hn : 3264 ≤ n) {a : Ac} (ha : AcOk a) {σ τ : St} (h : Sim σ τ) (hp : Ap n τ) : Sim (stp cP a σ).1 (stp (cE false n) a τ).1 ∧ (stp (cE false n) a τ).2 = (stp cP a σ).2 ∧ Ap n (stp (cE false n) a τ).1 := by
  unfold stp
  rw [h.left]
  split
  · split
    · exact ⟨⟨h.num, h.bx, h.left, rfl, h.tr⟩, rfl, hp.keep rfl rfl⟩
    · exact act_sim hn ha h.due (hp.keep rfl rfl)
  · exact act_sim hn ha h hp
/-- a run on a heap with room for all is the run with no heap -/
theorem Ex.heap {n : Nat} (hn : 3264 ≤ n) {P : Pg} {σ σ' : St} {b : Bool} (h : Ex cP P σ σ' b) : ∀ {τ : St}, PgOk P → Sim σ τ → Ap n τ → ∃ τ', Ex (cE false n) P τ τ' b ∧ Sim σ' τ' ∧ Ap n τ' := by
  induction h with
  | nil σ => exact fun hp hs ha => ⟨_, .nil _, hs, ha⟩
  | @stop a r σ σ' h =>
    intro τ hp hs ha
    obtain ⟨s1, s2, s3⟩ := stp_sim hn hp.1 hs ha
    rw [h] at s1 s2
    exact ⟨_, .stop (Prod.ext rfl s2), s1, s3⟩
  | @go a r σ σ1 σ2 b h hr ih =>
    intro τ hp hs ha
    obtain ⟨s1, s2, s3⟩ := stp_sim hn hp.1 hs ha
    rw [h] at s1 s2
    obtain ⟨τ2, e, g1, g2⟩ := ih hp.2 s1 s3
    exact ⟨τ2, .go (Prod.ext rfl s2) e, g1, g2⟩
  | @iteTired o p q r σ h => exact fun {τ} hp hs ha => ⟨tire τ, .iteTired (by rw [hs.left]; exact h), ⟨hs.num, hs.bx, hs.left, rfl, hs.tr⟩, ha.keep rfl rfl⟩
  | @iteStop o p q r σ σ1 h hp ih =>
    intro τ hpo hs ha
    have hok : PgOk (if valO σ.num o ≠ 0 then p else q) := by split; exact hpo.2.1; exact hpo.2.2.1
    obtain ⟨τ1, e, g1, g2⟩ := ih hok hs.due (ha.keep rfl rfl)
    exact ⟨τ1, .iteStop (by rw [hs.left]; exact h) (by rw [hs.num]; exact e), g1, g2⟩
  | @iteGo o p q r σ σ1 σ2 b h hp hr ih1 ih2 =>
    intro τ hpo hs ha
    have hok : PgOk (if valO σ.num o ≠ 0 then p else q) := by split; exact hpo.2.1; exact hpo.2.2.1
    obtain ⟨τ1, e, g1, g2⟩ := ih1 hok hs.due (ha.keep rfl rfl)
    obtain ⟨τ2, e2, k1, k2⟩ := ih2 hpo.2.2.2 g1 g2
    exact ⟨τ2, .iteGo (by rw [hs.left]; exact h) (by rw [hs.num]; exact e) e2, k1, k2⟩
  | @loopTired o p r σ h => exact fun {τ} hp hs ha => ⟨tire τ, .loopTired (by rw [hs.left]; exact h), ⟨hs.num, hs.bx, hs.left, rfl, hs.tr⟩, ha.keep rfl rfl⟩
  | @loopEnd o p r σ σ2 b h h0 hr ih =>
    intro τ hpo hs ha
    obtain ⟨τ1, e, g1, g2⟩ := ih hpo.2.2 hs.due (ha.keep rfl rfl)
    exact ⟨τ1, .loopEnd (by rw [hs.left]; exact h) (by rw [hs.num]; exact h0) e, g1, g2⟩
  | @loopStop o p r σ σ1 h h0 hp ih =>
    intro τ hpo hs ha
    obtain ⟨τ1, e, g1, g2⟩ := ih hpo.2.1 hs.due (ha.keep rfl rfl)
    exact ⟨τ1, .loopStop (by rw [hs.left]; exact h) (by rw [hs.num]; exact h0) e, g1, g2⟩
  | @loopGo o p r σ σ1 σ2 b h h0 hp hr ih1 ih2 =>
    intro τ hpo hs ha
    obtain ⟨τ1, e, g1, g2⟩ := ih1 hpo.2.1 hs.due (ha.keep rfl rfl)
    obtain ⟨τ2, e2, k1, k2⟩ := ih2 hpo g1 g2
    exact ⟨τ2, .loopGo (by rw [hs.left]; exact h) (by rw [hs.num]; exact h0) e e2, k1, k2⟩
end Go.Proofs.YtcmnejcojphijaaDoor

namespace Go.Proofs.YtcmnejcojphijaaDoor
set_option linter.unusedVariables false

/-- a letter? -/
def letN (c : Nat) : Bool := smallN c || greatN c
/-- another letter of the same kind -/
def lettN (a b c : Nat) : Nat := if smallN c = true then 97 + (c - 97 + a) % 26 else if greatN c = true then 65 + (c - 65 + b) % 26 else c
theorem lett_small {a b c : Nat} : smallN (lettN a b c) = smallN c := by
  unfold lettN
  by_cases h : smallN c = true
  · rw [if_pos h, h]; simp [smallN]; omega
  · rw [if_neg h]
    by_cases g : greatN c = true
    · rw [if_pos g]
      have e : smallN c = false := by simpa using h
      rw [e]; simp [smallN]; omega
    · rw [if_neg g]
theorem lett_great {a b c : Nat} : greatN (lettN a b c) = greatN c := by
  unfold lettN
  by_cases h : smallN c = true
  · rw [if_pos h]
    have e : greatN c = false := by simp [smallN, greatN] at h ⊢; omega
    rw [e]; simp [greatN]; omega
  · rw [if_neg h]
    by_cases g : greatN c = true
    · rw [if_pos g, g]; simp [greatN]; omega
    · rw [if_neg g]
theorem lett_let {a b c : Nat} : letN (lettN a b c) = letN c := by unfold letN; rw [lett_small, lett_great]
theorem lett_no {a b c : Nat} (h : letN c = false) : lettN a b c = c := by
  unfold letN at h
  simp only [Bool.or_eq_false_iff] at h
  unfold lettN
  rw [if_neg (by rw [h.1]; simp), if_neg (by rw [h.2]; simp)]
/-- to be a sign that is no letter -/
theorem lett_eq {a b c x : Nat} (hx : letN x = false) : lettN a b c = x ↔ c = x := by
  by_cases h : letN c = true
  · constructor
    · intro e
      have := lett_let (a := a) (b := b) (c := c)
      rw [e, hx, h] at this
      cases this
    · intro e; rw [e, hx] at h; cases h
  · rw [lett_no (by simpa using h)]
theorem lett_digit {a b c : Nat} : digitN (lettN a b c) = digitN c := by
  by_cases h : letN c = true
  · have h2 := lett_let (a := a) (b := b) (c := c)
    rw [h] at h2
    have key : ∀ {x : Nat}, letN x = true → digitN x = false := fun {x} hx => by simp [letN, smallN, greatN, digitN] at hx ⊢; omega
    rw [key h, key h2]
  · rw [lett_no (by simpa using h)]

/-- what is expected behind a letter, small or great -/
def adv (sm : Bool) : List (Nat × Bool) → Option (List (Nat × Bool))
  | [] => none
  | (_, false) :: _ => none
  | (b, true) :: t =>
    if b = 83 then some (if sm then (61, false) :: (103, true) :: (59, false) :: (83, true) :: t else (112, true) :: (59, false) :: (83, true) :: t)
    else if b = 111 then (if sm then some t else none)
    else if b = 100 then adv sm t
    else if b = 101 then adv sm t
    else if b = 86 then (if sm then none else some t)
    else if b = 103 then some (if sm then (116, true) :: t else (91, false) :: (111, true) :: (93, false) :: t)
    else if b = 116 then adv sm t
    else if b = 71 then (if sm then none else some t)
    else none
def OkT (S : List (Nat × Bool)) : Prop := ∀ e, e ∈ S → e.2 = false → letN e.1 = false
theorem OkT.tl {e : Nat × Bool} {S : List (Nat × Bool)} (h : OkT (e :: S)) : OkT S := fun x hx => h x (List.mem_cons_of_mem _ hx)
theorem OkT.cons {e : Nat × Bool} {S : List (Nat × Bool)} (he : e.2 = false → letN e.1 = false) (h : OkT S) : OkT (e :: S) := fun x hx => by
  rcases List.mem_cons.1 hx with q | q
  · subst q; exact he
  · exact h x q
def badO (o : List (Nat × Bool) × Bool × Bool) (c : Nat) : Bool := o.2.2 || !o.2.1 || !((o.1.headD (0, false)).1 == c)
theorem openN_top {f c : Nat} {t : List (Nat × Bool)} (b : Nat) : openN (f + 1) ((b, false) :: t) c = ((b, false) :: t, true, false) := by rw [openN]
/-- a letter is met -/
theorem open_let {c : Nat} {sm : Bool} (hl : letN c = true) (hs : smallN c = sm) (hg : greatN c = !sm) : ∀ (S : List (Nat × Bool)) (f : Nat), mu S < f → OkT S →
    (∀ T, adv sm S = some T → openN f S c = ((c, false) :: T, true, false)) ∧ (adv sm S = none → badO (openN f S c) c = true)
  | [], f, hf, hok => by
    obtain ⟨f, rfl⟩ : ∃ g, f = g + 1 := ⟨f - 1, by omega⟩
    refine ⟨fun T h => by simp [adv] at h, fun _ => ?_⟩
    rw [openN]; rfl
  | (b, false) :: t, f, hf, hok => by
    obtain ⟨f, rfl⟩ : ∃ g, f = g + 1 := ⟨f - 1, by omega⟩
    refine ⟨fun T h => by simp [adv] at h, fun _ => ?_⟩
    rw [openN_top]
    have := hok (b, false) (List.mem_cons_self) rfl
    have hne : (b == c) = false := beq_eq_false_iff_ne.2 (fun e => by rw [e, hl] at this; cases this)
    simp [badO, hne]
  | (b, true) :: t, f, hf, hok => by
    obtain ⟨f, rfl⟩ : ∃ g, f = g + 1 := ⟨f - 1, by omega⟩
    have hmu : mu ((b, true) :: t) = rank b + mu t := rfl
    have hrk := rank_pos b
    rw [hmu] at hf
    have ih := open_let hl hs hg t f (by omega) hok.tl
    have hd : digitN c = false := by simp [letN, smallN, greatN, digitN] at hl ⊢; omega
    have hneq : ∀ {x : Nat}, letN x = false → c ≠ x := fun {x} hx e => by rw [e, hx] at hl; cases hl
    obtain ⟨f', rfl⟩ : ∃ g, f = g + 1 := ⟨f - 1, by omega⟩
    have own : ∀ (l : List Nat) (L : List (Nat × Bool)), chosenN b c = (l ++ [c], true) → (l.map prt).reverse = L → openN (f' + 1 + 1) ((b, true) :: t) c = ((c, false) :: (L ++ t), true, false) := fun l L hc hL => by
      rw [openN, expand_last hc, hL]
      exact openN_top c
    have pop : chosenN b c = ([], true) → openN (f' + 1 + 1) ((b, true) :: t) c = openN (f' + 1) t c := fun hc => by
      rw [openN, expand_nil hc]; rfl
    have bad : ∀ l, chosenN b c = (l, false) → badO (openN (f' + 1 + 1) ((b, true) :: t) c) c = true := fun l hc => by
      rw [openN, expand_none hc]; rfl
    simp only [adv]
    by_cases h1 : b = 83
    · subst h1
      rw [if_pos rfl]
      refine ⟨fun T hT => ?_, fun hT => by cases hT⟩
      cases sm
      · injection hT with hT
        subst hT
        exact own [83, 59, 112] _ (by simp [chosenN, stmtN, hs, hg]) rfl
      · injection hT with hT
        subst hT
        exact own [83, 59, 103, 61] _ (by simp [chosenN, stmtN, hs]) rfl
    rw [if_neg h1]
    by_cases h2 : b = 111
    · subst h2
      rw [if_pos rfl]
      cases sm
      · exact ⟨fun T hT => (by cases hT), fun _ => bad [c] (by simp [chosenN, hd, hs])⟩
      · refine ⟨fun T hT => ?_, fun hT => by cases hT⟩
        injection hT with hT
        subst hT
        exact own [] _ (by simp [chosenN, hd, hs]) rfl
    rw [if_neg h2]
    by_cases h3 : b = 100
    · subst h3
      rw [if_pos rfl, pop (by simp [chosenN, hd])]
      exact ih
    rw [if_neg h3]
    by_cases h4 : b = 101
    · subst h4
      rw [if_pos rfl, pop (by simp [chosenN, hd])]
      exact ih
    rw [if_neg h4]
    by_cases h5 : b = 86
    · subst h5
      rw [if_pos rfl]
      cases sm
      · refine ⟨fun T hT => ?_, fun hT => by cases hT⟩
        injection hT with hT
        subst hT
        exact own [] _ (by simp [chosenN, hg]) rfl
      · exact ⟨fun T hT => (by cases hT), fun _ => bad [c] (by simp [chosenN, hg])⟩
    rw [if_neg h5]
    by_cases h6 : b = 103
    · subst h6
      rw [if_pos rfl]
      refine ⟨fun T hT => ?_, fun hT => by cases hT⟩
      have h35 : c ≠ 35 := hneq rfl
      cases sm
      · injection hT with hT
        subst hT
        exact own [93, 111, 91] _ (by simp [chosenN, h35, hg]) rfl
      · injection hT with hT
        subst hT
        have hc : chosenN 103 c = ([116, 111], true) := by simp [chosenN, h35, hg]
        have he : expand 103 c = some (pushL [116, 111] (ownL [116, 111] c)).reverse := by unfold expand; rw [hc]; rfl
        rw [openN, he]
        have hf2 : 3 ≤ f' + 1 := by have : rank 103 = 3 := rfl; omega
        cases ho : ownL [116, 111] c
        · rw [pushL_plain]
          show openN (f' + 1) ((111, true) :: (116, true) :: t) c = _
          have hx : chosenN 111 c = ([] ++ [c], true) := by simp [chosenN, hd, hs]
          rw [openN, expand_last hx]
          obtain ⟨f'', rfl⟩ : ∃ g, f' = g + 1 := ⟨f' - 1, by omega⟩
          exact openN_top c
        · have h111 : c = 111 := by simp [ownL] at ho; exact ho.1.symm
          rw [show ([116, 111] : List Nat) = [116] ++ [111] from rfl, pushL_own]
          subst h111
          exact openN_top 111
    rw [if_neg h6]
    by_cases h7 : b = 116
    · subst h7
      have q1 : c ≠ 43 := hneq rfl
      have q2 : c ≠ 45 := hneq rfl
      have q3 : c ≠ 42 := hneq rfl
      have q4 : c ≠ 47 := hneq rfl
      have q5 : c ≠ 60 := hneq rfl
      rw [if_pos rfl, pop (by simp [chosenN, q1, q2, q3, q4, q5])]
      exact ih
    rw [if_neg h7]
    have h91 : c ≠ 91 := hneq rfl
    by_cases h8 : b = 71
    · subst h8
      rw [if_pos rfl]
      have hc : chosenN 71 c = ([86], true) := by simp [chosenN, h91]
      have he : expand 71 c = some (pushL [86] (ownL [86] c)).reverse := by unfold expand; rw [hc]; rfl
      have hf2 : 2 ≤ f' + 1 := by have : rank 71 = 2 := rfl; omega
      obtain ⟨f'', rfl⟩ : ∃ g, f' = g + 1 := ⟨f' - 1, by omega⟩
      cases sm
      · refine ⟨fun T hT => ?_, fun hT => by cases hT⟩
        injection hT with hT
        subst hT
        rw [openN, he]
        cases ho : ownL [86] c
        · rw [pushL_plain]
          show openN (f'' + 1 + 1) ((86, true) :: t) c = _
          have hx : chosenN 86 c = ([] ++ [c], true) := by simp [chosenN, hg]
          rw [openN, expand_last hx]
          exact openN_top c
        · have h86 : c = 86 := by simp [ownL] at ho; exact ho.1.symm
          rw [show ([86] : List Nat) = [] ++ [86] from rfl, pushL_own]
          subst h86
          exact openN_top 86
      · refine ⟨fun T hT => (by cases hT), fun _ => ?_⟩
        have h86 : ownL [86] c = false := by
          have : c ≠ 86 := fun e => by rw [e] at hs; cases hs
          simp [ownL]
          intro e; exact absurd e.symm this
        rw [openN, he, h86, pushL_plain]
        show badO (openN (f'' + 1 + 1) ((86, true) :: t) c) c = true
        have hx : chosenN 86 c = ([c], false) := by simp [chosenN, hg]
        rw [openN, expand_none hx]
        rfl
    rw [if_neg h8]
    refine ⟨fun T hT => (by cases hT), fun _ => ?_⟩
    have hc : chosenN b c = ([71, 61], true) := by simp [chosenN, h1, h2, h3, h4, h5, h6, h7, h8, h91]
    have he : expand b c = some [(61, false), (71, true)] := by
      unfold expand
      rw [hc]
      have : ownL [71, 61] c = false := by
        have : c ≠ 61 := hneq rfl
        simp [ownL]
        intro e; exact absurd e.symm this
      rw [this, pushL_plain]
      rfl
    rw [openN, he]
    show badO (openN (f' + 1) ((61, false) :: (71, true) :: t) c) c = true
    rw [openN_top]
    have hne : ((61 : Nat) == c) = false := beq_eq_false_iff_ne.2 (fun e => hneq (x := 61) rfl e.symm)
    simp [badO, hne]
end Go.Proofs.YtcmnejcojphijaaDoor
