/-
  MacC, MacD, LowA, LowB: one behind the other.
-/
import Derived.Test.YthcjcjfgdgnljaaGMacB
import Derived.Test.YthcjcjfgdgnljaaGDevQ
namespace Go.Proofs.Ythcjcjfgdgnljaa
set_option linter.unusedVariables false

/-- all of f have a block -/
def Holds (f : Nat → Bool) (bx : Nat → List Nat) : Prop := ∀ i, f i = true → bx i ≠ []
theorem Holds.sub {f g : Nat → Bool} {bx : Nat → List Nat} (h : Holds g bx) (hs : Sub f g) : Holds f bx := fun i q => h i (hs i q)
/-- boxes and numbers are among the 26, values below 1000 -/
def AcOk : Ac → Prop
  | .set v o => v < 26 ∧ OdOk o
  | .bin v o _ p => v < 26 ∧ OdOk o ∧ OdOk p
  | .load v b o => v < 26 ∧ b < 26 ∧ OdOk o
  | .size v b => v < 26 ∧ b < 26
  | .make b o => b < 26 ∧ OdOk o
  | .move b c => b < 26 ∧ c < 26
  | .store b o p => b < 26 ∧ OdOk o ∧ OdOk p
  | .drop b => b < 26
  | .print o => OdOk o
def PgOk : Pg → Prop
  | .nil => True
  | .act a r => AcOk a ∧ PgOk r
  | .ite o p q r => OdOk o ∧ PgOk p ∧ PgOk q ∧ PgOk r
  | .loop o p r => OdOk o ∧ PgOk p ∧ PgOk r
/-- what was printed stays -/
theorem act_tr (c : Cf) (a : Ac) (σ : St) : σ.tr <+: (act c a σ).1.tr := by
  cases a <;> simp only [act]
  case print o => exact ⟨digF 3 (valO σ.num o) ++ [59], by simp⟩
  all_goals (repeat' split) <;> exact List.prefix_refl _
theorem stp_tr (c : Cf) (a : Ac) (σ : St) : σ.tr <+: (stp c a σ).1.tr := by
  unfold stp
  split
  · split
    · exact List.prefix_refl _
    · exact act_tr c a (due σ)
  · exact act_tr c a σ
theorem Ex.tr {c : Cf} {P : Pg} {σ σ' : St} {b : Bool} (h : Ex c P σ σ' b) : σ.tr <+: σ'.tr := by
  induction h with
  | nil σ => exact List.prefix_refl _
  | @stop a r σ σ' h => have := stp_tr c a σ; rw [h] at this; exact this
  | @go a r σ σ1 σ2 b h hr ih => have := stp_tr c a σ; rw [h] at this; exact this.trans ih
  | iteTired h => exact List.prefix_refl _
  | iteStop h hp ih => exact ih
  | iteGo h hp hr ih1 ih2 => exact ih1.trans ih2
  | loopTired h => exact List.prefix_refl _
  | loopEnd h h0 hr ih => exact ih
  | loopStop h h0 hp ih => exact ih
  | loopGo h h0 hp hr ih1 ih2 => exact ih1.trans ih2

/-- k steps more may be done -/
def mr (k : Nat) (σ : St) : St := { σ with left := σ.left + k }
theorem act_mr {c : Cf} (hal : ∀ (k : Nat) (σ : St) (n : Nat), c.al (mr k σ) n = c.al σ n) (k : Nat) (a : Ac) (σ : St) : act c a (mr k σ) = (mr k (act c a σ).1, (act c a σ).2) := by
  cases a with
  | make b o =>
    have e : c.al { mr k σ with bx := upB σ.bx b [] } (valO σ.num o) = c.al { σ with bx := upB σ.bx b [] } (valO σ.num o) := hal k { σ with bx := upB σ.bx b [] } _
    simp only [act]
    show (if c.strict = true ∧ σ.bx b ≠ [] then ends (mr k σ) 4 else if valO σ.num o < 1 ∨ 64 < valO σ.num o then ends (mr k σ) 1 else
      match c.al { mr k σ with bx := upB σ.bx b [] } (valO σ.num o) with
      | none => ends { mr k σ with bx := upB σ.bx b [] } 3
      | some a => _) = _
    rw [e]
    by_cases h1 : c.strict = true ∧ σ.bx b ≠ []
    · rw [if_pos h1, if_pos h1]; rfl
    · rw [if_neg h1, if_neg h1]
      by_cases h2 : valO σ.num o < 1 ∨ 64 < valO σ.num o
      · rw [if_pos h2, if_pos h2]; rfl
      · rw [if_neg h2, if_neg h2]
        cases c.al { σ with bx := upB σ.bx b [] } (valO σ.num o) <;> rfl
  | set v o => rfl
  | bin v o q p =>
    simp only [act]
    show (match binN q (valO σ.num o) (valO σ.num p) with | none => ends (mr k σ) 1 | some x => _) = _
    cases binN q (valO σ.num o) (valO σ.num p) <;> rfl
  | load v b o =>
    simp only [act]
    show (if σ.bx b = [] then _ else if (σ.bx b).length ≤ valO σ.num o then _ else _) = _
    by_cases h1 : σ.bx b = []
    · rw [if_pos h1, if_pos h1]; rfl
    · rw [if_neg h1, if_neg h1]
      by_cases h2 : (σ.bx b).length ≤ valO σ.num o
      · rw [if_pos h2, if_pos h2]; rfl
      · rw [if_neg h2, if_neg h2]; rfl
  | size v b =>
    simp only [act]
    show (if σ.bx b = [] then _ else _) = _
    by_cases h1 : σ.bx b = []
    · rw [if_pos h1, if_pos h1]; rfl
    · rw [if_neg h1, if_neg h1]; rfl
  | move b d =>
    simp only [act]
    show (if σ.bx d = [] then _ else if b = d then _ else if c.strict = true ∧ σ.bx b ≠ [] then _ else _) = _
    by_cases h1 : σ.bx d = []
    · rw [if_pos h1, if_pos h1]; rfl
    · rw [if_neg h1, if_neg h1]
      by_cases h2 : b = d
      · rw [if_pos h2, if_pos h2]
      · rw [if_neg h2, if_neg h2]
        by_cases h3 : c.strict = true ∧ σ.bx b ≠ []
        · rw [if_pos h3, if_pos h3]; rfl
        · rw [if_neg h3, if_neg h3]; rfl
  | store b o p =>
    simp only [act]
    show (if σ.bx b = [] then _ else if (σ.bx b).length ≤ valO σ.num o then _ else _) = _
    by_cases h1 : σ.bx b = []
    · rw [if_pos h1, if_pos h1]; rfl
    · rw [if_neg h1, if_neg h1]
      by_cases h2 : (σ.bx b).length ≤ valO σ.num o
      · rw [if_pos h2, if_pos h2]; rfl
      · rw [if_neg h2, if_neg h2]; rfl
  | drop b =>
    simp only [act]
    show (if σ.bx b = [] then _ else _) = _
    by_cases h1 : σ.bx b = []
    · rw [if_pos h1, if_pos h1]; rfl
    · rw [if_neg h1, if_neg h1]; rfl
  | print o => rfl
theorem act_stat (c : Cf) (a : Ac) (σ : St) : (act c a σ).2 = false → (act c a σ).1.status ≠ 2 := by
  cases a <;> simp only [act] <;> (repeat' split) <;> simp [ends]
theorem due_mr {σ : St} (h : σ.left ≠ 0) (k : Nat) : due (mr k σ) = mr k (due σ) := by
  unfold due mr
  simp only [St.mk.injEq, true_and, and_true]
  omega
theorem Ex.more {c : Cf} (hal : ∀ (k : Nat) (σ : St) (n : Nat), c.al (mr k σ) n = c.al σ n) {P : Pg} {σ σ' : St} {b : Bool} (h : Ex c P σ σ' b) (k : Nat) :
    (b = true ∨ σ'.status ≠ 2 → Ex c P (mr k σ) (mr k σ') b) ∧ (b = false → σ'.status = 2 → ∀ {τ : St} {b' : Bool}, Ex c P (mr k σ) τ b' → σ'.tr <+: τ.tr) := by
  have goS : ∀ {a : Ac} {σ σ1 : St}, stp c a σ = (σ1, true) → stp c a (mr k σ) = (mr k σ1, true) := fun {a σ σ1} h => by
    unfold stp at h ⊢
    split
    · rename_i hs
      rw [if_pos hs] at h
      split at h
      · cases h
      · rename_i hl
        rw [if_neg (by show σ.left + k ≠ 0; omega), due_mr hl, act_mr hal, h]
    · rename_i hs
      rw [if_neg hs] at h
      rw [act_mr hal, h]
  induction h with
  | nil σ => exact ⟨fun _ => .nil _, fun q => by cases q⟩
  | @stop a r σ σ' h =>
    have ht : ∀ {τ : St} {b' : Bool}, Ex c (.act a r) (mr k σ) τ b' → σ.tr <+: τ.tr := fun h => h.tr
    by_cases hs : isStep a = true
    · by_cases hl : σ.left = 0
      · have e : stp c a σ = (tire σ, false) := by unfold stp; rw [if_pos hs, if_pos hl]
        rw [e] at h
        cases h
        exact ⟨fun q => by rcases q with q | q
                           · cases q
                           · exact absurd rfl q, fun _ _ => ht⟩
      · have e : stp c a σ = act c a (due σ) := by unfold stp; rw [if_pos hs, if_neg hl]
        rw [e] at h
        have h2 := act_stat c a (due σ) (by rw [h])
        rw [h] at h2
        refine ⟨fun _ => .stop ?_, fun _ q => absurd q h2⟩
        unfold stp
        rw [if_pos hs, if_neg (by show σ.left + k ≠ 0; omega), due_mr hl, act_mr hal, h]
    · have e : stp c a σ = act c a σ := by unfold stp; rw [if_neg hs]
      rw [e] at h
      have h2 := act_stat c a σ (by rw [h])
      rw [h] at h2
      refine ⟨fun _ => .stop ?_, fun _ q => absurd q h2⟩
      unfold stp
      rw [if_neg hs, act_mr hal, h]
  | @go a r σ σ1 σ2 b h hr ih =>
    refine ⟨fun q => .go (goS h) (ih.1 q), fun q1 q2 τ b' g => ?_⟩
    have := goS h
    cases g with
    | stop g1 => rw [this] at g1; cases g1
    | go g1 g2 => rw [this] at g1; cases g1; exact ih.2 q1 q2 g2
  | @iteTired o p q r σ h => exact ⟨fun q => by rcases q with q | q
                                                · cases q
                                                · exact absurd rfl q, fun _ _ τ b' g => g.tr⟩
  | @iteStop o p q r σ σ1 h hp ih =>
    have hl : (mr k σ).left ≠ 0 := by show σ.left + k ≠ 0; omega
    rw [← due_mr h k] at ih
    refine ⟨fun q => .iteStop hl (ih.1 q), fun q1 q2 τ b' g => ?_⟩
    cases g with
    | iteTired g1 => exact absurd g1 hl
    | iteStop _ g1 => exact ih.2 q1 q2 g1
    | iteGo _ g1 g2 => exact (ih.2 q1 q2 g1).trans g2.tr
  | @iteGo o p q r σ σ1 σ2 b h hp hr ih1 ih2 =>
    have hl : (mr k σ).left ≠ 0 := by show σ.left + k ≠ 0; omega
    rw [← due_mr h k] at ih1
    have h1 := ih1.1 (.inl rfl)
    refine ⟨fun q => .iteGo hl h1 (ih2.1 q), fun q1 q2 τ b' g => ?_⟩
    cases g with
    | iteTired g1 => exact absurd g1 hl
    | iteStop _ g1 => have := (h1.det g1).2; cases this
    | iteGo _ g1 g2 => have := (h1.det g1).1; subst this; exact ih2.2 q1 q2 g2
  | @loopTired o p r σ h => exact ⟨fun q => by rcases q with q | q
                                               · cases q
                                               · exact absurd rfl q, fun _ _ τ b' g => g.tr⟩
  | @loopEnd o p r σ σ2 b h h0 hr ih =>
    have hl : (mr k σ).left ≠ 0 := by show σ.left + k ≠ 0; omega
    rw [← due_mr h k] at ih
    refine ⟨fun q => .loopEnd hl h0 (ih.1 q), fun q1 q2 τ b' g => ?_⟩
    cases g with
    | loopTired g1 => exact absurd g1 hl
    | loopEnd _ _ g1 => exact ih.2 q1 q2 g1
    | loopStop _ g0 _ => exact absurd h0 g0
    | loopGo _ g0 _ _ => exact absurd h0 g0
  | @loopStop o p r σ σ1 h h0 hp ih =>
    have hl : (mr k σ).left ≠ 0 := by show σ.left + k ≠ 0; omega
    rw [← due_mr h k] at ih
    refine ⟨fun q => .loopStop hl h0 (ih.1 q), fun q1 q2 τ b' g => ?_⟩
    cases g with
    | loopTired g1 => exact absurd g1 hl
    | loopEnd _ g0 _ => exact absurd g0 h0
    | loopStop _ _ g1 => exact ih.2 q1 q2 g1
    | loopGo _ _ g1 g2 => exact (ih.2 q1 q2 g1).trans g2.tr
  | @loopGo o p r σ σ1 σ2 b h h0 hp hr ih1 ih2 =>
    have hl : (mr k σ).left ≠ 0 := by show σ.left + k ≠ 0; omega
    rw [← due_mr h k] at ih1
    have h1 := ih1.1 (.inl rfl)
    refine ⟨fun q => .loopGo hl h0 h1 (ih2.1 q), fun q1 q2 τ b' g => ?_⟩
    cases g with
    | loopTired g1 => exact absurd g1 hl
    | loopEnd _ g0 _ => exact absurd g0 h0
    | loopStop _ _ g1 => have := (h1.det g1).2; cases this
    | loopGo _ _ g1 g2 => have := (h1.det g1).1; subst this; exact ih2.2 q1 q2 g2
end Go.Proofs.Ythcjcjfgdgnljaa

namespace Go.Proofs.Ythcjcjfgdgnljaa
set_option linter.unusedVariables false

/-- k words from a on are free, of n -/
def FreeS (n : Nat) (σ : St) (k a : Nat) : Prop := a + k ≤ n ∧ ∀ b, b < 26 → σ.bx b ≠ [] → a + k ≤ σ.at_ b ∨ σ.at_ b + (σ.bx b).length ≤ a
instance (n : Nat) (σ : St) (k a : Nat) : Decidable (FreeS n σ k a) := by unfold FreeS; infer_instance
/-- the first place with room for k words, if there is one -/
def allocS (n : Nat) (σ : St) (k : Nat) : Option Nat := (List.range (n + 1)).find? (fun a => decide (FreeS n σ k a))
theorem alloc_is {n : Nat} {σ : St} {k a : Nat} (h : allocS n σ k = some a) : FreeS n σ k a ∧ ∀ b, b < a → ¬ FreeS n σ k b := by
  unfold allocS at h
  rw [List.find?_range_eq_some] at h
  exact ⟨by simpa using h.1, fun b hb => by simpa using h.2.2 b hb⟩
theorem alloc_no {n : Nat} {σ : St} {k : Nat} (h : allocS n σ k = none) : ∀ a, ¬ FreeS n σ k a := fun a ha => by
  unfold allocS at h
  rw [List.find?_eq_none] at h
  have := h a (by have := ha.1; simp; omega)
  exact this (by simpa using ha)
theorem alloc_cases (n : Nat) (σ : St) (k : Nat) : (∃ a, allocS n σ k = some a) ∨ allocS n σ k = none := by
  cases h : allocS n σ k with
  | none => exact .inr rfl
  | some a => exact .inl ⟨a, rfl⟩

/-- Play of the document: no heap -/
def cP : Cf := ⟨false, fun _ _ => some 0⟩
/-- on a heap of n words -/
def cE (strict : Bool) (n : Nat) : Cf := ⟨strict, allocS n⟩
/-- blocks lie apart, in n words -/
structure Ap (n : Nat) (σ : St) : Prop where
  inn : ∀ b, b < 26 → σ.bx b ≠ [] → σ.at_ b + (σ.bx b).length ≤ n
  sz : ∀ b, b < 26 → (σ.bx b).length ≤ 64
  ap : ∀ b c, b < 26 → c < 26 → b ≠ c → σ.bx b ≠ [] → σ.bx c ≠ [] → σ.at_ b + (σ.bx b).length ≤ σ.at_ c ∨ σ.at_ c + (σ.bx c).length ≤ σ.at_ b

/-- one number of 0 .. m is not in a list of m -/
theorem left_out : ∀ (m : Nat) (L : List Nat), L.length ≤ m → ∃ j, j ≤ m ∧ j ∉ L
  | 0, L, h => ⟨0, Nat.le_refl _, by have e : L = [] := List.eq_nil_of_length_eq_zero (by omega); rw [e]; simp⟩
  | m + 1, L, h => by
    by_cases hm : (m + 1) ∈ L
    · have hl : (L.erase (m + 1)).length ≤ m := by rw [List.length_erase_of_mem hm]; omega
      obtain ⟨j, h1, h2⟩ := left_out m (L.erase (m + 1)) hl
      exact ⟨j, by omega, fun q => h2 ((List.mem_erase_of_ne (by omega)).2 q)⟩
    · exact ⟨m + 1, Nat.le_refl _, hm⟩
/-- the fields of 64 words that a block lies in -/
def fieldsOf (σ : St) (b : Nat) : List Nat := if σ.bx b = [] then [] else [σ.at_ b / 64, (σ.at_ b + (σ.bx b).length - 1) / 64]
theorem fields_len (σ : St) : ∀ (L : List Nat), (L.flatMap (fieldsOf σ)).length ≤ 2 * L.length
  | [] => Nat.le_refl _
  | b :: L => by
    have := fields_len σ L
    have h : (fieldsOf σ b).length ≤ 2 := by unfold fieldsOf; split <;> simp
    simp only [List.flatMap_cons, List.length_append, List.length_cons]
    omega
theorem fields_len0 (σ : St) {v : Nat} (hv : σ.bx v = []) : ∀ (L : List Nat), v ∈ L → (L.flatMap (fieldsOf σ)).length + 2 ≤ 2 * L.length
  | [], h => by cases h
  | b :: L, h => by
    simp only [List.flatMap_cons, List.length_append, List.length_cons]
    by_cases e : v = b
    · subst e
      have := fields_len σ L
      have h0 : (fieldsOf σ v).length = 0 := by unfold fieldsOf; rw [if_pos hv]; rfl
      omega
    · have hm : v ∈ L := by
        rcases List.mem_cons.1 h with q | q
        · exact absurd q e
        · exact q
      have := fields_len0 σ hv L hm
      have h : (fieldsOf σ b).length ≤ 2 := by unfold fieldsOf; split <;> simp
      omega
/-- with 3264 words there is room for one block more -/
theorem room {n : Nat} {σ : St} (hn : 3264 ≤ n) (h : Ap n σ) {v k : Nat} (hv : v < 26) (he : σ.bx v = []) (hk : k ≤ 64) : ∃ a, FreeS n σ k a := by
  have hlen := fields_len0 σ he (List.range 26) (by simpa using hv)
  obtain ⟨j, h1, h2⟩ := left_out 50 ((List.range 26).flatMap (fieldsOf σ)) (by simp at hlen ⊢; omega)
  refine ⟨64 * j, by omega, fun b hb hbx => ?_⟩
  have hf : j ∉ fieldsOf σ b := fun q => h2 (List.mem_flatMap.2 ⟨b, by simpa using hb, q⟩)
  unfold fieldsOf at hf
  rw [if_neg hbx] at hf
  have h0 : 0 < (σ.bx b).length := List.length_pos_iff.2 hbx
  have h64 := h.sz b hb
  have f1 : j ≠ σ.at_ b / 64 := fun q => hf (by simp [q])
  have f2 : j ≠ (σ.at_ b + (σ.bx b).length - 1) / 64 := fun q => hf (by simp [q])
  omega

theorem Ap.keep {n : Nat} {σ τ : St} (h : Ap n σ) (hb : τ.bx = σ.bx) (ha : τ.at_ = σ.at_) : Ap n τ := ⟨by rw [hb, ha]; exact h.inn, by rw [hb]; exact h.sz, by rw [hb, ha]; exact h.ap⟩
/-- some boxes are emptied, or keep the length of their blocks -/
theorem Ap.less {n : Nat} {σ τ : St} (h : Ap n σ) (hb : ∀ b, τ.bx b ≠ [] → σ.bx b ≠ [] ∧ (τ.bx b).length = (σ.bx b).length) (ha : τ.at_ = σ.at_) : Ap n τ := by
  refine ⟨fun b h1 h2 => ?_, fun b h1 => ?_, fun b c h1 h2 h3 h4 h5 => ?_⟩
  · rw [ha, (hb b h2).2]; exact h.inn b h1 (hb b h2).1
  · by_cases e : τ.bx b = []
    · rw [e]; simp
    · rw [(hb b e).2]; exact h.sz b h1
  · rw [ha, (hb b h4).2, (hb c h5).2]; exact h.ap b c h1 h2 h3 (hb b h4).1 (hb c h5).1
theorem Ap.drop {n : Nat} {σ : St} (h : Ap n σ) (v : Nat) : Ap n { σ with bx := upB σ.bx v [] } := h.less (fun b hb => by
  have hb' : upB σ.bx v [] b ≠ [] := hb
  by_cases e : b = v
  · subst e; rw [upB_at] at hb'; exact absurd rfl hb'
  · rw [upB_ne _ _ e] at hb'
    exact ⟨hb', by show (upB σ.bx v [] b).length = _; rw [upB_ne _ _ e]⟩) rfl
theorem Ap.fill {n : Nat} {σ : St} {v k a p : Nat} {l : List Nat} (h : Ap n { σ with bx := upB σ.bx v [] }) (hl : l.length = k) (hk : k ≤ 64) (hf : FreeS n { σ with bx := upB σ.bx v [] } k a) : Ap n { σ with bx := upB σ.bx v l, at_ := upN σ.at_ v a, peak := p } := by
  have hoff : ∀ b, b ≠ v → upB σ.bx v l b = upB σ.bx v [] b := fun b e => by rw [upB_ne _ _ e, upB_ne _ _ e]
  refine ⟨fun b h1 h2 => ?_, fun b h1 => ?_, fun b c h1 h2 h3 h4 h5 => ?_⟩
  · show upN σ.at_ v a b + (upB σ.bx v l b).length ≤ n
    by_cases e : b = v
    · subst e; rw [upN_at, upB_at, hl]; exact hf.1
    · have h2' : upB σ.bx v l b ≠ [] := h2
      rw [upN_ne _ _ e, hoff b e]; rw [hoff b e] at h2'
      exact h.inn b h1 h2'
  · show (upB σ.bx v l b).length ≤ 64
    by_cases e : b = v
    · subst e; rw [upB_at, hl]; exact hk
    · rw [hoff b e]; exact h.sz b h1
  · show upN σ.at_ v a b + (upB σ.bx v l b).length ≤ upN σ.at_ v a c ∨ upN σ.at_ v a c + (upB σ.bx v l c).length ≤ upN σ.at_ v a b
    have h4' : upB σ.bx v l b ≠ [] := h4
    have h5' : upB σ.bx v l c ≠ [] := h5
    by_cases e : b = v
    · have e2 : c ≠ v := fun q => h3 (by omega)
      subst e
      rw [upN_at, upB_at, hl, upN_ne _ _ e2, hoff c e2]
      rw [hoff c e2] at h5'
      exact hf.2 c h2 h5'
    · rw [upN_ne _ _ e, hoff b e]
      rw [hoff b e] at h4'
      by_cases e2 : c = v
      · subst e2
        rw [upN_at, upB_at, hl]
        exact (hf.2 b h1 h4').symm
      · rw [upN_ne _ _ e2, hoff c e2]
        rw [hoff c e2] at h5'
        exact h.ap b c h1 h2 h3 h4' h5'
theorem Ap.move {n : Nat} {σ : St} {b d : Nat} (h : Ap n σ) (hb : b < 26) (hd : d < 26) (hne : b ≠ d) : Ap n { σ with bx := upB (upB σ.bx b (σ.bx d)) d [], at_ := upN σ.at_ b (σ.at_ d) } := by
  have e0 : ∀ i, upB (upB σ.bx b (σ.bx d)) d [] i ≠ [] → i ≠ d ∧ ((i = b ∧ upB (upB σ.bx b (σ.bx d)) d [] i = σ.bx d ∧ upN σ.at_ b (σ.at_ d) i = σ.at_ d) ∨ (i ≠ b ∧ upB (upB σ.bx b (σ.bx d)) d [] i = σ.bx i ∧ upN σ.at_ b (σ.at_ d) i = σ.at_ i)) := fun i hi => by
    by_cases e : i = d
    · subst e; rw [upB_at] at hi; exact absurd rfl hi
    · refine ⟨e, ?_⟩
      by_cases e2 : i = b
      · subst e2; exact .inl ⟨rfl, by rw [upB_ne _ _ e, upB_at], upN_at _ _ _⟩
      · exact .inr ⟨e2, by rw [upB_ne _ _ e, upB_ne _ _ e2], upN_ne _ _ e2⟩
  refine ⟨fun i h1 h2 => ?_, fun i h1 => ?_, fun i j h1 h2 h3 h4 h5 => ?_⟩
  · have h2' : upB (upB σ.bx b (σ.bx d)) d [] i ≠ [] := h2
    show upN σ.at_ b (σ.at_ d) i + (upB (upB σ.bx b (σ.bx d)) d [] i).length ≤ n
    obtain ⟨_, ⟨_, q1, q2⟩ | ⟨_, q1, q2⟩⟩ := e0 i h2'
    · rw [q1] at h2'; rw [q1, q2]; exact h.inn d hd h2'
    · rw [q1] at h2'; rw [q1, q2]; exact h.inn i h1 h2'
  · show (upB (upB σ.bx b (σ.bx d)) d [] i).length ≤ 64
    by_cases e : upB (upB σ.bx b (σ.bx d)) d [] i = []
    · rw [e]; simp
    · obtain ⟨_, ⟨_, q1, q2⟩ | ⟨_, q1, q2⟩⟩ := e0 i e
      · rw [q1]; exact h.sz d hd
      · rw [q1]; exact h.sz i h1
  · have h4' : upB (upB σ.bx b (σ.bx d)) d [] i ≠ [] := h4
    have h5' : upB (upB σ.bx b (σ.bx d)) d [] j ≠ [] := h5
    show upN σ.at_ b (σ.at_ d) i + (upB (upB σ.bx b (σ.bx d)) d [] i).length ≤ upN σ.at_ b (σ.at_ d) j ∨ upN σ.at_ b (σ.at_ d) j + (upB (upB σ.bx b (σ.bx d)) d [] j).length ≤ upN σ.at_ b (σ.at_ d) i
    obtain ⟨n1, ⟨p0, p1, p2⟩ | ⟨p0, p1, p2⟩⟩ := e0 i h4'
    · obtain ⟨n2, ⟨q0, q1, q2⟩ | ⟨q0, q1, q2⟩⟩ := e0 j h5'
      · exact absurd (p0.trans q0.symm) h3
      · rw [p1] at h4'; rw [q1] at h5'
        rw [p1, p2, q1, q2]; exact h.ap d j hd h2 (Ne.symm n2) h4' h5'
    · obtain ⟨n2, ⟨q0, q1, q2⟩ | ⟨q0, q1, q2⟩⟩ := e0 j h5'
      · rw [p1] at h4'; rw [q1] at h5'
        rw [p1, p2, q1, q2]; exact h.ap i d h1 hd n1 h4' h5'
      · rw [p1] at h4'; rw [q1] at h5'
        rw [p1, p2, q1, q2]; exact h.ap i j h1 h2 h3 h4' h5'

/-- the same run, but for where the blocks lie -/
structure Sim (σ τ : St) : Prop where
  num : τ.num = σ.num
  bx : τ.bx = σ.bx
  left : τ.left = σ.left
  status : τ.status = σ.status
  tr : τ.tr = σ.tr
theorem act_sim {n : Nat} (hn : 3264 ≤ n) {a : Ac} (ha : AcOk a) {σ τ : St} (h : Sim σ τ) (hp : Ap n τ) : Sim (act cP a σ).1 (act (cE false n) a τ).1 ∧ (act (cE false n) a τ).2 = (act cP a σ).2 ∧ Ap n (act (cE false n) a τ).1 := by
  obtain ⟨num, bx, at_, left, status, tr, peak⟩ := σ
  obtain ⟨num', bx', at_', left', status', tr', peak'⟩ := τ
  obtain ⟨h1, h2, h3, h4, h5⟩ := h
  simp only [] at h1 h2 h3 h4 h5
  subst h1 h2 h3 h4 h5
  have K : ∀ (num2 : Nat → Nat) (left2 status2 : Nat) (tr2 : List Nat) (pk2 : Nat), Ap n ⟨num2, bx', at_', left2, status2, tr2, pk2⟩ := fun _ _ _ _ _ => hp.keep rfl rfl
  cases a with
  | set v o => exact ⟨⟨rfl, rfl, rfl, rfl, rfl⟩, rfl, K _ _ _ _ _⟩
  | bin v o k p =>
    simp only [act]
    cases hb : binN k (valO num' o) (valO num' p) with
    | none => exact ⟨⟨rfl, rfl, rfl, rfl, rfl⟩, rfl, K _ _ _ _ _⟩
    | some x => exact ⟨⟨rfl, rfl, rfl, rfl, rfl⟩, rfl, K _ _ _ _ _⟩
  | load v b o =>
    simp only [act]
    split
    · exact ⟨⟨rfl, rfl, rfl, rfl, rfl⟩, rfl, K _ _ _ _ _⟩
    · split
      · exact ⟨⟨rfl, rfl, rfl, rfl, rfl⟩, rfl, K _ _ _ _ _⟩
      · exact ⟨⟨rfl, rfl, rfl, rfl, rfl⟩, rfl, K _ _ _ _ _⟩
  | size v b =>
    simp only [act]
    split
    · exact ⟨⟨rfl, rfl, rfl, rfl, rfl⟩, rfl, K _ _ _ _ _⟩
    · exact ⟨⟨rfl, rfl, rfl, rfl, rfl⟩, rfl, K _ _ _ _ _⟩
  | make b o =>
    simp only [act, show (cE false n).strict = false from rfl, show cP.strict = false from rfl, Bool.false_eq_true, false_and, if_false]
    split
    · exact ⟨⟨rfl, rfl, rfl, rfl, rfl⟩, rfl, K _ _ _ _ _⟩
    · rename_i hv
      have hd := hp.drop b
      obtain ⟨a, ha2⟩ := room hn hd ha.1 (by show upB bx' b [] b = []; rw [upB_at]) (k := valO num' o) (by omega)
      rcases alloc_cases n { num := num', bx := upB bx' b [], at_ := at_', left := left', status := status', tr := tr', peak := peak' } (valO num' o) with ⟨a1, h1⟩ | h1
      · have e1 : (cE false n).al { num := num', bx := upB bx' b [], at_ := at_', left := left', status := status', tr := tr', peak := peak' } (valO num' o) = some a1 := h1
        rw [e1]
        refine ⟨⟨rfl, rfl, rfl, rfl, rfl⟩, rfl, ?_⟩
        exact Ap.fill (σ := { num := num', bx := bx', at_ := at_', left := left', status := status', tr := tr', peak := peak' }) (k := valO num' o) hd (by simp) (by omega) (alloc_is h1).1
      · exact absurd ha2 (alloc_no h1 a)
  | move b d =>
    simp only [act, show (cE false n).strict = false from rfl, show cP.strict = false from rfl, Bool.false_eq_true, false_and, if_false]
    split
    · exact ⟨⟨rfl, rfl, rfl, rfl, rfl⟩, rfl, K _ _ _ _ _⟩
    · split
      · exact ⟨⟨rfl, rfl, rfl, rfl, rfl⟩, rfl, K _ _ _ _ _⟩
      · rename_i hne
        exact ⟨⟨rfl, rfl, rfl, rfl, rfl⟩, rfl, Ap.move (σ := { num := num', bx := bx', at_ := at_', left := left', status := status', tr := tr', peak := peak' }) hp ha.1 ha.2 hne⟩
  | store b o p =>
    simp only [act]
    split
    · exact ⟨⟨rfl, rfl, rfl, rfl, rfl⟩, rfl, K _ _ _ _ _⟩
    · split
      · exact ⟨⟨rfl, rfl, rfl, rfl, rfl⟩, rfl, K _ _ _ _ _⟩
      · refine ⟨⟨rfl, rfl, rfl, rfl, rfl⟩, rfl, hp.less (fun i hi => ?_) rfl⟩
        have hi' : upB bx' b ((bx' b).set (valO num' o) (valO num' p)) i ≠ [] := hi
        show bx' i ≠ [] ∧ (upB bx' b ((bx' b).set (valO num' o) (valO num' p)) i).length = (bx' i).length
        by_cases e : i = b
        · subst e; rw [upB_at] at hi' ⊢; refine ⟨fun q => hi' (by rw [q]; rfl), by simp⟩
        · rw [upB_ne _ _ e] at hi' ⊢; exact ⟨hi', rfl⟩
  | drop b =>
    simp only [act]
    split
    · exact ⟨⟨rfl, rfl, rfl, rfl, rfl⟩, rfl, K _ _ _ _ _⟩
    · exact ⟨⟨rfl, rfl, rfl, rfl, rfl⟩, rfl, hp.drop b⟩
  | print o => exact ⟨⟨rfl, rfl, rfl, rfl, rfl⟩, rfl, K _ _ _ _ _⟩
theorem Sim.due {σ τ : St} (h : Sim σ τ) : Sim (due σ) (due τ) := ⟨h.num, h.bx, by show τ.left - 1 = σ.left - 1; rw [h.left], h.status, h.tr⟩
theorem stp_sim {n : Nat} (hn : 3264 ≤ n) {a : Ac} (ha : AcOk a) {σ τ : St} (h : Sim σ τ) (hp : Ap n τ) : Sim (stp cP a σ).1 (stp (cE false n) a τ).1 ∧ (stp (cE false n) a τ).2 = (stp cP a σ).2 ∧ Ap n (stp (cE false n) a τ).1 := by
  unfold stp
  rw [h.left]
  split
  · split
    · exact ⟨⟨h.num, h.bx, h.left, rfl, h.tr⟩, rfl, hp.keep rfl rfl⟩
    · exact act_sim hn ha h.due (hp.keep rfl rfl)
  · exact act_sim hn ha h hp
/-- a run on a heap with room for all is the run with no heap -/
theorem Ex.heap {n : Nat} (hn : 3264 ≤ n) {P : Pg} {σ σ' : St} {b : Bool} (h : Ex cP P σ σ' b) : ∀ {τ : St}, PgOk P → Sim σ τ → Ap n τ → ∃ τ', Ex (cE false n) P τ τ' b ∧ Sim σ' τ' ∧ Ap n τ' := by
  induction h with
  | nil σ => exact fun hp hs ha => ⟨_, .nil _, hs, ha⟩
  | @stop a r σ σ' h =>
    intro τ hp hs ha
    obtain ⟨s1, s2, s3⟩ := stp_sim hn hp.1 hs ha
    rw [h] at s1 s2
    exact ⟨_, .stop (Prod.ext rfl s2), s1, s3⟩
  | @go a r σ σ1 σ2 b h hr ih =>
    intro τ hp hs ha
    obtain ⟨s1, s2, s3⟩ := stp_sim hn hp.1 hs ha
    rw [h] at s1 s2
    obtain ⟨τ2, e, g1, g2⟩ := ih hp.2 s1 s3
    exact ⟨τ2, .go (Prod.ext rfl s2) e, g1, g2⟩
  | @iteTired o p q r σ h => exact fun {τ} hp hs ha => ⟨tire τ, .iteTired (by rw [hs.left]; exact h), ⟨hs.num, hs.bx, hs.left, rfl, hs.tr⟩, ha.keep rfl rfl⟩
  | @iteStop o p q r σ σ1 h hp ih =>
    intro τ hpo hs ha
    have hok : PgOk (if valO σ.num o ≠ 0 then p else q) := by split; exact hpo.2.1; exact hpo.2.2.1
    obtain ⟨τ1, e, g1, g2⟩ := ih hok hs.due (ha.keep rfl rfl)
    exact ⟨τ1, .iteStop (by rw [hs.left]; exact h) (by rw [hs.num]; exact e), g1, g2⟩
  | @iteGo o p q r σ σ1 σ2 b h hp hr ih1 ih2 =>
    intro τ hpo hs ha
    have hok : PgOk (if valO σ.num o ≠ 0 then p else q) := by split; exact hpo.2.1; exact hpo.2.2.1
    obtain ⟨τ1, e, g1, g2⟩ := ih1 hok hs.due (ha.keep rfl rfl)
    obtain ⟨τ2, e2, k1, k2⟩ := ih2 hpo.2.2.2 g1 g2
    exact ⟨τ2, .iteGo (by rw [hs.left]; exact h) (by rw [hs.num]; exact e) e2, k1, k2⟩
  | @loopTired o p r σ h => exact fun {τ} hp hs ha => ⟨tire τ, .loopTired (by rw [hs.left]; exact h), ⟨hs.num, hs.bx, hs.left, rfl, hs.tr⟩, ha.keep rfl rfl⟩
  | @loopEnd o p r σ σ2 b h h0 hr ih =>
    intro τ hpo hs ha
    obtain ⟨τ1, e, g1, g2⟩ := ih hpo.2.2 hs.due (ha.keep rfl rfl)
    exact ⟨τ1, .loopEnd (by rw [hs.left]; exact h) (by rw [hs.num]; exact h0) e, g1, g2⟩
  | @loopStop o p r σ σ1 h h0 hp ih =>
    intro τ hpo hs ha
    obtain ⟨τ1, e, g1, g2⟩ := ih hpo.2.1 hs.due (ha.keep rfl rfl)
    exact ⟨τ1, .loopStop (by rw [hs.left]; exact h) (by rw [hs.num]; exact h0) e, g1, g2⟩
  | @loopGo o p r σ σ1 σ2 b h h0 hp hr ih1 ih2 =>
    intro τ hpo hs ha
    obtain ⟨τ1, e, g1, g2⟩ := ih1 hpo.2.1 hs.due (ha.keep rfl rfl)
    obtain ⟨τ2, e2, k1, k2⟩ := ih2 hpo g1 g2
    exact ⟨τ2, .loopGo (by rw [hs.left]; exact h) (by rw [hs.num]; exact h0) e e2, k1, k2⟩
end Go.Proofs.Ythcjcjfgdgnljaa

namespace Go.Proofs.Ythcjcjfgdgnljaa
set_option linter.unusedVariables false

/-- one behind the other -/
def seqP : Pg → Pg → Pg
  | .nil, Q => Q
  | .act a r, Q => .act a (seqP r Q)
  | .ite o p q r, Q => .ite o p q (seqP r Q)
  | .loop o p r, Q => .loop o p (seqP r Q)
/-- blocks end, and Q -/
def drP : List Nat → Pg → Pg
  | [], Q => Q
  | k :: l, Q => .act (.drop k) (drP l Q)
/-- the boxes of f that are not of g -/
def minL (f g : Nat → Bool) : List Nat := (List.range 26).filter (fun k => f k && !g k)
theorem mem_minL {f g : Nat → Bool} {k : Nat} : k ∈ minL f g ↔ k < 26 ∧ f k = true ∧ g k = false := by
  unfold minL
  simp [List.mem_filter]
theorem minL_nodup (f g : Nat → Bool) : (minL f g).Nodup := List.nodup_range.filter _
/-- the box whose block would be lost -/
def ownA : Ac → (Nat → Bool) → Option Nat
  | .make b _, f => if f b = true then some b else none
  | .move b d, f => if b ≠ d ∧ f b = true then some b else none
  | _, _ => none
def noF : Nat → Bool := fun _ => false
theorem Ex.seq {c : Cf} {P : Pg} {σ σ1 : St} {b : Bool} (h : Ex c P σ σ1 b) : ∀ {Q : Pg}, (b = true → ∀ {σ2 : St} {b2 : Bool}, Ex c Q σ1 σ2 b2 → Ex c (seqP P Q) σ σ2 b2) ∧ (b = false → Ex c (seqP P Q) σ σ1 false) := by
  induction h with
  | nil σ => exact fun {Q} => ⟨fun _ _ _ h => h, fun q => by cases q⟩
  | stop h => exact fun {Q} => ⟨fun q => (by cases q), fun _ => .stop h⟩
  | go h hr ih => exact fun {Q} => ⟨fun q _ _ h2 => .go h (ih.1 q h2), fun q => .go h (ih.2 q)⟩
  | iteTired h => exact fun {Q} => ⟨fun q => (by cases q), fun _ => .iteTired h⟩
  | iteStop h hp ih => exact fun {Q} => ⟨fun q => (by cases q), fun _ => .iteStop h hp⟩
  | iteGo h hp hr ih1 ih2 => exact fun {Q} => ⟨fun q _ _ h2 => .iteGo h hp (ih2.1 q h2), fun q => .iteGo h hp (ih2.2 q)⟩
  | loopTired h => exact fun {Q} => ⟨fun q => (by cases q), fun _ => .loopTired h⟩
  | loopEnd h h0 hr ih => exact fun {Q} => ⟨fun q _ _ h2 => .loopEnd h h0 (ih.1 q h2), fun q => .loopEnd h h0 (ih.2 q)⟩
  | loopStop h h0 hp ih => exact fun {Q} => ⟨fun q => (by cases q), fun _ => .loopStop h h0 hp⟩
  | loopGo h h0 hp hr ih1 ih2 => exact fun {Q} => ⟨fun q _ _ h2 => .loopGo h h0 hp (ih2.1 q h2), fun q => .loopGo h h0 hp (ih2.2 q)⟩
/-- blocks have ended -/
def clr : List Nat → St → St
  | [], τ => τ
  | k :: l, τ => clr l { τ with bx := upB τ.bx k [] }
theorem clr_bx : ∀ (l : List Nat) (τ : St) (j : Nat), (clr l τ).bx j = if j ∈ l then [] else τ.bx j
  | [], τ, j => by simp [clr]
  | k :: l, τ, j => by
    rw [clr, clr_bx l]
    show (if j ∈ l then [] else upB τ.bx k [] j) = _
    by_cases e : j = k
    · subst e; rw [upB_at]; simp
    · rw [upB_ne _ _ e]
      simp [e]
theorem clr_like : ∀ (l : List Nat) (τ : St), (clr l τ).num = τ.num ∧ (clr l τ).at_ = τ.at_ ∧ (clr l τ).left = τ.left ∧ (clr l τ).status = τ.status ∧ (clr l τ).tr = τ.tr ∧ (clr l τ).peak = τ.peak
  | [], τ => ⟨rfl, rfl, rfl, rfl, rfl, rfl⟩
  | k :: l, τ => clr_like l { τ with bx := upB τ.bx k [] }
theorem Ex.drop {c : Cf} : ∀ {l : List Nat} {τ τ' : St} {b : Bool} {Q : Pg}, (∀ k, k ∈ l → τ.bx k ≠ []) → l.Nodup → Ex c Q (clr l τ) τ' b → Ex c (drP l Q) τ τ' b
  | [], τ, τ', b, Q, h1, h2, h => h
  | k :: l, τ, τ', b, Q, h1, h2, h => by
    have hk := h1 k List.mem_cons_self
    rw [List.nodup_cons] at h2
    refine .go (σ1 := { τ with bx := upB τ.bx k [] }) ?_ (Ex.drop (fun j hj => ?_) h2.2 h)
    · show act c (.drop k) τ = _
      simp only [act]
      rw [if_neg hk]
    · show upB τ.bx k [] j ≠ []
      rw [upB_ne _ _ (fun e => h2.1 (by rw [← e]; exact hj))]
      exact h1 j (List.mem_cons_of_mem _ hj)

/-- the run as it is written, and the run on a heap: just the boxes of f have a block there -/
structure LS (f : Nat → Bool) (σ τ : St) : Prop where
  num : τ.num = σ.num
  left : τ.left = σ.left
  status : τ.status = σ.status
  tr : τ.tr = σ.tr
  on : ∀ k, f k = true → τ.bx k = σ.bx k ∧ σ.bx k ≠ []
  off : ∀ k, f k = false → τ.bx k = []
theorem LS.less {f g : Nat → Bool} {σ τ : St} (h : LS f σ τ) (hc : Clean f) (hs : Sub g f) : LS g σ (clr (minL f g) τ) := by
  obtain ⟨c1, c2, c3, c4, c5, c6⟩ := clr_like (minL f g) τ
  refine ⟨c1.trans h.num, c3.trans h.left, c4.trans h.status, c5.trans h.tr, fun k hk => ?_, fun k hk => ?_⟩
  · rw [clr_bx, if_neg (fun q => by rw [mem_minL] at q; rw [hk] at q; cases q.2.2)]
    exact h.on k (hs k hk)
  · rw [clr_bx]
    by_cases q : f k = true
    · have h26 : k < 26 := Nat.lt_of_not_le (fun q2 => by rw [hc k q2] at q; cases q)
      rw [if_pos (mem_minL.2 ⟨h26, q, hk⟩)]
    · split
      · rfl
      · exact h.off k (by simpa using q)
theorem LS.full {f g : Nat → Bool} {σ τ : St} (h : LS f σ τ) : ∀ k, k ∈ minL f g → τ.bx k ≠ [] := fun k hk => by
  rw [mem_minL] at hk
  rw [(h.on k hk.2.1).1]
  exact (h.on k hk.2.1).2
theorem LS.due {f : Nat → Bool} {σ τ : St} (h : LS f σ τ) : LS f (due σ) (due τ) := ⟨h.num, by show τ.left - 1 = σ.left - 1; rw [h.left], h.status, h.tr, h.on, h.off⟩
theorem LS.like {f : Nat → Bool} {σ τ σ' τ' : St} (h : LS f σ τ) (h1 : τ'.num = σ'.num) (h2 : τ'.left = σ'.left) (h3 : τ'.status = σ'.status) (h4 : τ'.tr = σ'.tr) (h5 : σ'.bx = σ.bx) (h6 : τ'.bx = τ.bx) : LS f σ' τ' :=
  ⟨h1, h2, h3, h4, by rw [h5, h6]; exact h.on, by rw [h6]; exact h.off⟩

/-- how the run on a heap goes, where the other ends at σ': as that, or there is no room -/
def Low (c : Cf) (Q : Pg) (g : Nat → Bool) (τ σ' : St) (b : Bool) : Prop :=
  (∃ τ', Ex c Q τ τ' b ∧ τ'.status = σ'.status ∧ τ'.tr = σ'.tr ∧ (b = true → LS g σ' τ')) ∨ (∃ τ', Ex c Q τ τ' false ∧ τ'.status = 3 ∧ τ'.tr <+: σ'.tr)
end Go.Proofs.Ythcjcjfgdgnljaa

namespace Go.Proofs.Ythcjcjfgdgnljaa
set_option linter.unusedVariables false

/-- what was done, and the ends that were put in behind it -/
theorem Low.tail {c : Cf} {P : Pg} {g g' : Nat → Bool} {τ σ' : St} (h : Low c P g τ σ' true) (hc : Clean g) (hs : Sub g' g) :
    (∃ τ1, LS g' σ' τ1 ∧ Ex c (seqP P (drP (minL g g') .nil)) τ τ1 true) ∨ (∃ τ', Ex c (seqP P (drP (minL g g') .nil)) τ τ' false ∧ τ'.status = 3 ∧ τ'.tr <+: σ'.tr) := by
  rcases h with ⟨τ', h1, h2, h3, h4⟩ | ⟨τ', h1, h2, h3⟩
  · have hl := h4 rfl
    exact .inl ⟨_, hl.less hc hs, h1.seq.1 rfl (Ex.drop hl.full (minL_nodup _ _) (.nil _))⟩
  · exact .inr ⟨τ', h1.seq.2 rfl, h2, h3⟩
/-- a run that goes on has not ended in any way; one that has ended, has -/
theorem act_status {c : Cf} {a : Ac} {σ : St} : ((act c a σ).2 = true → (act c a σ).1.status = σ.status) ∧ ((act c a σ).2 = false → (act c a σ).1.status ≠ 0) := by
  cases a <;> simp only [act]
  all_goals (repeat' split) <;> simp [ends]
theorem stp_status {c : Cf} {a : Ac} {σ : St} : ((stp c a σ).2 = true → (stp c a σ).1.status = σ.status) ∧ ((stp c a σ).2 = false → (stp c a σ).1.status ≠ 0) := by
  unfold stp
  split
  · split
    · exact ⟨fun q => (by cases q), fun _ => (by simp [tire])⟩
    · exact act_status (σ := due σ)
  · exact act_status
theorem Ex.status {c : Cf} {P : Pg} {σ σ' : St} {b : Bool} (h : Ex c P σ σ' b) : (b = true → σ'.status = σ.status) ∧ (b = false → σ'.status ≠ 0) := by
  induction h with
  | nil σ => exact ⟨fun _ => rfl, fun q => by cases q⟩
  | @stop a r σ σ' h => have := (stp_status (c := c) (a := a) (σ := σ)).2; rw [h] at this; exact ⟨fun q => (by cases q), fun _ => this rfl⟩
  | @go a r σ σ1 σ2 b h hr ih => have := (stp_status (c := c) (a := a) (σ := σ)).1; rw [h] at this; exact ⟨fun q => (ih.1 q).trans (this rfl), ih.2⟩
  | iteTired h => exact ⟨fun q => (by cases q), fun _ => by simp [tire]⟩
  | iteStop h hp ih => exact ⟨fun q => (by cases q), ih.2⟩
  | iteGo h hp hr ih1 ih2 => exact ⟨fun q => (ih2.1 q).trans (ih1.1 rfl), ih2.2⟩
  | loopTired h => exact ⟨fun q => (by cases q), fun _ => by simp [tire]⟩
  | loopEnd h h0 hr ih => exact ih
  | loopStop h h0 hp ih => exact ⟨fun q => (by cases q), ih.2⟩
  | loopGo h h0 hp hr ih1 ih2 => exact ⟨fun q => (ih2.1 q).trans (ih1.1 rfl), ih2.2⟩
end Go.Proofs.Ythcjcjfgdgnljaa
