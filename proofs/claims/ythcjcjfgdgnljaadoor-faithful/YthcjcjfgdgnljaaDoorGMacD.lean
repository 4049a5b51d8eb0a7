/-
  MacC, MacD: one behind the other.
-/
import Derived.Test.YthcjcjfgdgnljaaDoorGMacB
import Derived.Test.YthcjcjfgdgnljaaDoorGDevP
namespace Go.Proofs.YthcjcjfgdgnljaaDoor
set_option linter.unusedVariables false

/-- all of f have a block -/
def Holds (f : Nat → Bool) (bx : Nat → List Nat) : Prop := ∀ i, f i = true → bx i ≠ []
theorem Holds.sub {f g : Nat → Bool} {bx : Nat → List Nat} (h : Holds g bx) (hs : Sub f g) : Holds f bx := fun i q => h i (hs i q)
theorem iter_self {T : (Nat → Bool) → Nat → Bool} {H : Nat → Bool} (h : Sub H (T H)) : ∀ n, iterF T n H = H
  | 0 => rfl
  | n + 1 => by
    show iterF T n (bothF H (T H)) = H
    rw [both_sub h]
    exact iter_self h n
/-- boxes and numbers are among the 26, values below 1000 -/
def AcOk : Ac → Prop
  | .set v o => v < 26 ∧ OdOk o
  | .bin v o _ p => v < 26 ∧ OdOk o ∧ OdOk p
  | .load v b o => v < 26 ∧ b < 26 ∧ OdOk o
  | .size v b => v < 26 ∧ b < 26
  | .make b o => b < 26 ∧ OdOk o
  | .move b c => b < 26 ∧ c < 26
  | .store b o p => b < 26 ∧ OdOk o ∧ OdOk p
  | .drop b => b < 26
  | .print o => OdOk o
def PgOk : Pg → Prop
  | .nil => True
  | .act a r => AcOk a ∧ PgOk r
  | .ite o p q r => OdOk o ∧ PgOk p ∧ PgOk q ∧ PgOk r
  | .loop o p r => OdOk o ∧ PgOk p ∧ PgOk r
theorem clean_aftA {a : Ac} (h : AcOk a) {f : Nat → Bool} (hf : Clean f) : Clean (aftA a f) := by
  cases a <;> try exact hf
  · exact hf.upd h.1 _
  · show Clean (if _ then _ else _)
    split
    · exact hf
    · exact (hf.upd h.1 _).off _
  · exact hf.off _
theorem clean_iter {T : (Nat → Bool) → Nat → Bool} : ∀ (n : Nat) {f : Nat → Bool}, Clean f → Clean (iterF T n f)
  | 0, _, h => h
  | n + 1, _, h => clean_iter n h.both
theorem clean_aftG : ∀ {P : Pg}, PgOk P → ∀ {f : Nat → Bool}, Clean f → Clean (aftG P f)
  | .nil, _, _, hf => hf
  | .act a r, h, _, hf => clean_aftG h.2 (clean_aftA h.1 hf)
  | .ite o p q r, h, _, hf => clean_aftG h.2.2.2 (clean_aftG h.2.1 hf).both
  | .loop o p r, h, _, hf => clean_aftG h.2.2 (clean_iter 27 hf)

theorem act_holds {c : Cf} (hc : c.strict = false) {a : Ac} {f : Nat → Bool} {σ : St} (hu : ∀ b, useA a = some b → f b = true) (hf : Holds f σ.bx) (h4 : σ.status ≠ 4) :
    (act c a σ).1.status ≠ 4 ∧ ((act c a σ).2 = true → Holds (aftA a f) (act c a σ).1.bx) := by
  cases a with
  | set v o => exact ⟨h4, fun _ => hf⟩
  | bin v o k p =>
    simp only [act]
    split
    · exact ⟨by simp [ends], fun q => by simp [ends] at q⟩
    · exact ⟨h4, fun _ => hf⟩
  | load v b o =>
    simp only [act]
    rw [if_neg (hf b (hu b rfl))]
    split
    · exact ⟨by simp [ends], fun q => by simp [ends] at q⟩
    · exact ⟨h4, fun _ => hf⟩
  | size v b =>
    simp only [act]
    rw [if_neg (hf b (hu b rfl))]
    exact ⟨h4, fun _ => hf⟩
  | make b o =>
    simp only [act, hc]
    rw [if_neg (by simp)]
    split
    · exact ⟨by simp [ends], fun q => by simp [ends] at q⟩
    · rename_i hv
      split
      · exact ⟨by simp [ends], fun q => by simp [ends] at q⟩
      · refine ⟨h4, fun _ i q => ?_⟩
        show upB σ.bx b _ i ≠ []
        by_cases e : i = b
        · subst e
          rw [upB_at]
          intro q2
          have := congrArg List.length q2
          simp at this
          omega
        · rw [upB_ne _ _ e]
          have : updB f b true i = true := q
          unfold updB at this
          rw [if_neg e] at this
          exact hf i this
  | move b d =>
    simp only [act, hc]
    have hd := hf d (hu d rfl)
    rw [if_neg hd]
    split
    · rename_i e
      refine ⟨h4, fun _ => ?_⟩
      show Holds (if b = d then f else _) _
      rw [if_pos e]
      exact hf
    · rename_i e
      rw [if_neg (by simp)]
      refine ⟨h4, fun _ i q => ?_⟩
      show upB (upB σ.bx b (σ.bx d)) d [] i ≠ []
      have q2 : (if b = d then f else updB (updB f b (f d)) d false) i = true := q
      rw [if_neg e] at q2
      unfold updB at q2
      split at q2
      · cases q2
      · rename_i e2
        rw [upB_ne _ _ e2]
        split at q2
        · rename_i e3
          subst e3
          rw [upB_at]
          exact hd
        · rename_i e3
          rw [upB_ne _ _ e3]
          exact hf i q2
  | store b o p =>
    simp only [act]
    have hb := hf b (hu b rfl)
    rw [if_neg hb]
    split
    · exact ⟨by simp [ends], fun q => by simp [ends] at q⟩
    · refine ⟨h4, fun _ i q => ?_⟩
      show upB σ.bx b _ i ≠ []
      by_cases e : i = b
      · subst e
        rw [upB_at]
        intro q2
        have := congrArg List.length q2
        simp at this
        exact hb this
      · rw [upB_ne _ _ e]
        exact hf i q
  | drop b =>
    simp only [act]
    rw [if_neg (hf b (hu b rfl))]
    refine ⟨h4, fun _ i q => ?_⟩
    show upB σ.bx b [] i ≠ []
    have q2 : updB f b false i = true := q
    unfold updB at q2
    split at q2
    · cases q2
    · rename_i e
      rw [upB_ne _ _ e]
      exact hf i q2
  | print o => exact ⟨h4, fun _ => hf⟩
theorem stp_holds {c : Cf} (hc : c.strict = false) {a : Ac} {f : Nat → Bool} {σ : St} (hu : ∀ b, useA a = some b → f b = true) (hf : Holds f σ.bx) (h4 : σ.status ≠ 4) :
    (stp c a σ).1.status ≠ 4 ∧ ((stp c a σ).2 = true → Holds (aftA a f) (stp c a σ).1.bx) := by
  unfold stp
  split
  · split
    · exact ⟨by simp [tire], fun q => by simp at q⟩
    · exact act_holds hc hu hf h4
  · exact act_holds hc hu hf h4

/-- where no box is used that is not full a run is never broken -/
theorem Ex.sound {c : Cf} (hc : c.strict = false) {P : Pg} {σ σ' : St} {b : Bool} (h : Ex c P σ σ' b) : ∀ {f : Nat → Bool}, PgOk P → Clean f → okG P f → Holds f σ.bx → σ.status ≠ 4 → σ'.status ≠ 4 ∧ (b = true → Holds (aftG P f) σ'.bx) := by
  induction h with
  | nil σ => exact fun hp hf ho hh h4 => ⟨h4, fun _ => hh⟩
  | @stop a r σ σ' h =>
    intro f hp hf ho hh h4
    rw [okG_act] at ho
    have := stp_holds hc ho.1 hh h4
    rw [h] at this
    exact ⟨this.1, fun q => by cases q⟩
  | @go a r σ σ1 σ2 b h hr ih =>
    intro f hp hf ho hh h4
    rw [okG_act] at ho
    rw [aftG_act]
    have := stp_holds hc ho.1 hh h4
    rw [h] at this
    exact ih hp.2 (clean_aftA hp.1 hf) ho.2 (this.2 rfl) this.1
  | iteTired h => exact fun hp hf ho hh h4 => ⟨by simp [tire], fun q => by cases q⟩
  | @iteStop o p q r σ σ1 h hp ih =>
    intro f hpo hf ho hh h4
    rw [okG_ite] at ho
    refine ⟨?_, fun q => by cases q⟩
    by_cases e : valO σ.num o ≠ 0
    · rw [if_pos e] at ih
      exact (ih hpo.2.1 hf ho.1 hh h4).1
    · rw [if_neg e] at ih
      exact (ih hpo.2.2.1 hf ho.2.1 hh h4).1
  | @iteGo o p q r σ σ1 σ2 b h hp hr ih1 ih2 =>
    intro f hpo hf ho hh h4
    rw [okG_ite] at ho
    rw [aftG_ite]
    by_cases e : valO σ.num o ≠ 0
    · rw [if_pos e] at ih1
      obtain ⟨g1, g2⟩ := ih1 hpo.2.1 hf ho.1 hh h4
      exact ih2 hpo.2.2.2 (clean_aftG hpo.2.1 hf).both ho.2.2 ((g2 rfl).sub (Sub.left _ _)) g1
    · rw [if_neg e] at ih1
      obtain ⟨g1, g2⟩ := ih1 hpo.2.2.1 hf ho.2.1 hh h4
      exact ih2 hpo.2.2.2 (clean_aftG hpo.2.1 hf).both ho.2.2 ((g2 rfl).sub (Sub.right _ _)) g1
  | loopTired h => exact fun hp hf ho hh h4 => ⟨by simp [tire], fun q => by cases q⟩
  | @loopEnd o p r σ σ2 b h h0 hr ih =>
    intro f hpo hf ho hh h4
    rw [okG_loop] at ho
    rw [aftG_loop]
    have hsub := iter_sub (T := aftG p) 27 f
    have hcl := clean_iter (T := aftG p) 27 hf
    generalize iterF (aftG p) 27 f = H at *
    exact ih hpo.2.2 hcl ho.2 (Holds.sub hh hsub) h4
  | @loopStop o p r σ σ1 h h0 hp ih =>
    intro f hpo hf ho hh h4
    rw [okG_loop] at ho
    have hsub := iter_sub (T := aftG p) 27 f
    have hcl := clean_iter (T := aftG p) 27 hf
    generalize iterF (aftG p) 27 f = H at *
    exact ⟨(ih hpo.2.1 hcl ho.1 (Holds.sub hh hsub) h4).1, fun q => by cases q⟩
  | @loopGo o p r σ σ1 σ2 b h h0 hp hr ih1 ih2 =>
    intro f hpo hf ho hh h4
    rw [okG_loop] at ho
    rw [aftG_loop]
    have hsub := iter_sub (T := aftG p) 27 f
    have hcl := clean_iter (T := aftG p) 27 hf
    have hfix : Sub (iterF (aftG p) 27 f) (aftG p (iterF (aftG p) 27 f)) := iter_fix 27 f hf (by have := card_le f 26; omega)
    generalize iterF (aftG p) 27 f = H at *
    have hself := iter_self hfix 27
    obtain ⟨g1, g2⟩ := ih1 hpo.2.1 hcl ho.1 (Holds.sub hh hsub) h4
    have := ih2 (f := H) hpo hcl (by rw [okG_loop, hself]; exact ho) ((g2 rfl).sub hfix) g1
    rw [aftG_loop, hself] at this
    exact this

/-- what was printed stays -/
theorem act_tr (c : Cf) (a : Ac) (σ : St) : σ.tr <+: (act c a σ).1.tr := by
  cases a <;> simp only [act]
  case print o => exact ⟨digF 3 (valO σ.num o) ++ [59], by simp⟩
  all_goals (repeat' split) <;> exact List.prefix_refl _
theorem stp_tr (c : Cf) (a : Ac) (σ : St) : σ.tr <+: (stp c a σ).1.tr := by
  unfold stp
  split
  · split
    · exact List.prefix_refl _
    · exact act_tr c a (due σ)
  · exact act_tr c a σ
theorem Ex.tr {c : Cf} {P : Pg} {σ σ' : St} {b : Bool} (h : Ex c P σ σ' b) : σ.tr <+: σ'.tr := by
  induction h with
  | nil σ => exact List.prefix_refl _
  | @stop a r σ σ' h => have := stp_tr c a σ; rw [h] at this; exact this
  | @go a r σ σ1 σ2 b h hr ih => have := stp_tr c a σ; rw [h] at this; exact this.trans ih
  | iteTired h => exact List.prefix_refl _
  | iteStop h hp ih => exact ih
  | iteGo h hp hr ih1 ih2 => exact ih1.trans ih2
  | loopTired h => exact List.prefix_refl _
  | loopEnd h h0 hr ih => exact ih
  | loopStop h h0 hp ih => exact ih
  | loopGo h h0 hp hr ih1 ih2 => exact ih1.trans ih2

/-- k steps more may be done -/
def mr (k : Nat) (σ : St) : St := { σ with left := σ.left + k }
theorem act_mr {c : Cf} (hal : ∀ (k : Nat) (σ : St) (n : Nat), c.al (mr k σ) n = c.al σ n) (k : Nat) (a : Ac) (σ : St) : act c a (mr k σ) = (mr k (act c a σ).1, (act c a σ).2) := by
  cases a with
  | make b o =>
    have e : c.al { mr k σ with bx := upB σ.bx b [] } (valO σ.num o) = c.al { σ with bx := upB σ.bx b [] } (valO σ.num o) := hal k { σ with bx := upB σ.bx b [] } _
    simp only [act]
    show (if c.strict = true ∧ σ.bx b ≠ [] then ends (mr k σ) 4 else if valO σ.num o < 1 ∨ 64 < valO σ.num o then ends (mr k σ) 1 else
      match c.al { mr k σ with bx := upB σ.bx b [] } (valO σ.num o) with
      | none => ends { mr k σ with bx := upB σ.bx b [] } 3
      | some a => _) = _
    rw [e]
    by_cases h1 : c.strict = true ∧ σ.bx b ≠ []
    · rw [if_pos h1, if_pos h1]; rfl
    · rw [if_neg h1, if_neg h1]
      by_cases h2 : valO σ.num o < 1 ∨ 64 < valO σ.num o
      · rw [if_pos h2, if_pos h2]; rfl
      · rw [if_neg h2, if_neg h2]
        cases c.al { σ with bx := upB σ.bx b [] } (valO σ.num o) <;> rfl
  | set v o => rfl
  | bin v o q p =>
    simp only [act]
    show (match binN q (valO σ.num o) (valO σ.num p) with | none => ends (mr k σ) 1 | some x => _) = _
    cases binN q (valO σ.num o) (valO σ.num p) <;> rfl
  | load v b o =>
    simp only [act]
    show (if σ.bx b = [] then _ else if (σ.bx b).length ≤ valO σ.num o then _ else _) = _
    by_cases h1 : σ.bx b = []
    · rw [if_pos h1, if_pos h1]; rfl
    · rw [if_neg h1, if_neg h1]
      by_cases h2 : (σ.bx b).length ≤ valO σ.num o
      · rw [if_pos h2, if_pos h2]; rfl
      · rw [if_neg h2, if_neg h2]; rfl
  | size v b =>
    simp only [act]
    show (if σ.bx b = [] then _ else _) = _
    by_cases h1 : σ.bx b = []
    · rw [if_pos h1, if_pos h1]; rfl
    · rw [if_neg h1, if_neg h1]; rfl
  | move b d =>
    simp only [act]
    show (if σ.bx d = [] then _ else if b = d then _ else if c.strict = true ∧ σ.bx b ≠ [] then _ else _) = _
    by_cases h1 : σ.bx d = []
    · rw [if_pos h1, if_pos h1]; rfl
    · rw [if_neg h1, if_neg h1]
      by_cases h2 : b = d
      · rw [if_pos h2, if_pos h2]
      · rw [if_neg h2, if_neg h2]
        by_cases h3 : c.strict = true ∧ σ.bx b ≠ []
        · rw [if_pos h3, if_pos h3]; rfl
        · rw [if_neg h3, if_neg h3]; rfl
  | store b o p =>
    simp only [act]
    show (if σ.bx b = [] then _ else if (σ.bx b).length ≤ valO σ.num o then _ else _) = _
    by_cases h1 : σ.bx b = []
    · rw [if_pos h1, if_pos h1]; rfl
    · rw [if_neg h1, if_neg h1]
      by_cases h2 : (σ.bx b).length ≤ valO σ.num o
      · rw [if_pos h2, if_pos h2]; rfl
      · rw [if_neg h2, if_neg h2]; rfl
  | drop b =>
    simp only [act]
    show (if σ.bx b = [] then _ else _) = _
    by_cases h1 : σ.bx b = []
    · rw [if_pos h1, if_pos h1]; rfl
    · rw [if_neg h1, if_neg h1]; rfl
  | print o => rfl
theorem act_stat (c : Cf) (a : Ac) (σ : St) : (act c a σ).2 = false → (act c a σ).1.status ≠ 2 := by
  cases a <;> simp only [act] <;> (repeat' split) <;> simp [ends]
theorem due_mr {σ : St} (h : σ.left ≠ 0) (k : Nat) : due (mr k σ) = mr k (due σ) := by
  unfold due mr
  simp only [St.mk.injEq, true_and, and_true]
  omega
theorem Ex.more {c : Cf} (hal : ∀ (k : Nat) (σ : St) (n : Nat), c.al (mr k σ) n = c.al σ n) {P : Pg} {σ σ' : St} {b : Bool} (h : Ex c P σ σ' b) (k : Nat) :
    (b = true ∨ σ'.status ≠ 2 → Ex c P (mr k σ) (mr k σ') b) ∧ (b = false → σ'.status = 2 → ∀ {τ : St} {b' : Bool}, Ex c P (mr k σ) τ b' → σ'.tr <+: τ.tr) := by
  have goS : ∀ {a : Ac} {σ σ1 : St}, stp c a σ = (σ1, true) → stp c a (mr k σ) = (mr k σ1, true) := fun {a σ σ1} h => by
    unfold stp at h ⊢
    split
    · rename_i hs
      rw [if_pos hs] at h
      split at h
      · cases h
      · rename_i hl
        rw [if_neg (by show σ.left + k ≠ 0; omega), due_mr hl, act_mr hal, h]
    · rename_i hs
      rw [if_neg hs] at h
      rw [act_mr hal, h]
  induction h with
  | nil σ => exact ⟨fun _ => .nil _, fun q => by cases q⟩
  | @stop a r σ σ' h =>
    have ht : ∀ {τ : St} {b' : Bool}, Ex c (.act a r) (mr k σ) τ b' → σ.tr <+: τ.tr := fun h => h.tr
    by_cases hs : isStep a = true
    · by_cases hl : σ.left = 0
      · have e : stp c a σ = (tire σ, false) := by unfold stp; rw [if_pos hs, if_pos hl]
        rw [e] at h
        cases h
        exact ⟨fun q => by rcases q with q | q
                           · cases q
                           · exact absurd rfl q, fun _ _ => ht⟩
      · have e : stp c a σ = act c a (due σ) := by unfold stp; rw [if_pos hs, if_neg hl]
        rw [e] at h
        have h2 := act_stat c a (due σ) (by rw [h])
        rw [h] at h2
        refine ⟨fun _ => .stop ?_, fun _ q => absurd q h2⟩
        unfold stp
        rw [if_pos hs, if_neg (by show σ.left + k ≠ 0; omega), due_mr hl, act_mr hal, h]
    · have e : stp c a σ = act c a σ := by unfold stp; rw [if_neg hs]
      rw [e] at h
      have h2 := act_stat c a σ (by rw [h])
      rw [h] at h2
      refine ⟨fun _ => .stop ?_, fun _ q => absurd q h2⟩
      unfold stp
      rw [if_neg hs, act_mr hal, h]
  | @go a r σ σ1 σ2 b h hr ih =>
    refine ⟨fun q => .go (goS h) (ih.1 q), fun q1 q2 τ b' g => ?_⟩
    have := goS h
    cases g with
    | stop g1 => rw [this] at g1; cases g1
    | go g1 g2 => rw [this] at g1; cases g1; exact ih.2 q1 q2 g2
  | @iteTired o p q r σ h => exact ⟨fun q => by rcases q with q | q
                                                · cases q
                                                · exact absurd rfl q, fun _ _ τ b' g => g.tr⟩
  | @iteStop o p q r σ σ1 h hp ih =>
    have hl : (mr k σ).left ≠ 0 := by show σ.left + k ≠ 0; omega
    rw [← due_mr h k] at ih
    refine ⟨fun q => .iteStop hl (ih.1 q), fun q1 q2 τ b' g => ?_⟩
    cases g with
    | iteTired g1 => exact absurd g1 hl
    | iteStop _ g1 => exact ih.2 q1 q2 g1
    | iteGo _ g1 g2 => exact (ih.2 q1 q2 g1).trans g2.tr
  | @iteGo o p q r σ σ1 σ2 b h hp hr ih1 ih2 =>
    have hl : (mr k σ).left ≠ 0 := by show σ.left + k ≠ 0; omega
    rw [← due_mr h k] at ih1
    have h1 := ih1.1 (.inl rfl)
    refine ⟨fun q => .iteGo hl h1 (ih2.1 q), fun q1 q2 τ b' g => ?_⟩
    cases g with
    | iteTired g1 => exact absurd g1 hl
    | iteStop _ g1 => have := (h1.det g1).2; cases this
    | iteGo _ g1 g2 => have := (h1.det g1).1; subst this; exact ih2.2 q1 q2 g2
  | @loopTired o p r σ h => exact ⟨fun q => by rcases q with q | q
                                               · cases q
                                               · exact absurd rfl q, fun _ _ τ b' g => g.tr⟩
  | @loopEnd o p r σ σ2 b h h0 hr ih =>
    have hl : (mr k σ).left ≠ 0 := by show σ.left + k ≠ 0; omega
    rw [← due_mr h k] at ih
    refine ⟨fun q => .loopEnd hl h0 (ih.1 q), fun q1 q2 τ b' g => ?_⟩
    cases g with
    | loopTired g1 => exact absurd g1 hl
    | loopEnd _ _ g1 => exact ih.2 q1 q2 g1
    | loopStop _ g0 _ => exact absurd h0 g0
    | loopGo _ g0 _ _ => exact absurd h0 g0
  | @loopStop o p r σ σ1 h h0 hp ih =>
    have hl : (mr k σ).left ≠ 0 := by show σ.left + k ≠ 0; omega
    rw [← due_mr h k] at ih
    refine ⟨fun q => .loopStop hl h0 (ih.1 q), fun q1 q2 τ b' g => ?_⟩
    cases g with
    | loopTired g1 => exact absurd g1 hl
    | loopEnd _ g0 _ => exact absurd g0 h0
    | loopStop _ _ g1 => exact ih.2 q1 q2 g1
    | loopGo _ _ g1 g2 => exact (ih.2 q1 q2 g1).trans g2.tr
  | @loopGo o p r σ σ1 σ2 b h h0 hp hr ih1 ih2 =>
    have hl : (mr k σ).left ≠ 0 := by show σ.left + k ≠ 0; omega
    rw [← due_mr h k] at ih1
    have h1 := ih1.1 (.inl rfl)
    refine ⟨fun q => .loopGo hl h0 h1 (ih2.1 q), fun q1 q2 τ b' g => ?_⟩
    cases g with
    | loopTired g1 => exact absurd g1 hl
    | loopEnd _ g0 _ => exact absurd g0 h0
    | loopStop _ _ g1 => have := (h1.det g1).2; cases this
    | loopGo _ _ g1 g2 => have := (h1.det g1).1; subst this; exact ih2.2 q1 q2 g2
end Go.Proofs.YthcjcjfgdgnljaaDoor

namespace Go.Proofs.YthcjcjfgdgnljaaDoor
set_option linter.unusedVariables false

/-- k words from a on are free, of n -/
def FreeS (n : Nat) (σ : St) (k a : Nat) : Prop := a + k ≤ n ∧ ∀ b, b < 26 → σ.bx b ≠ [] → a + k ≤ σ.at_ b ∨ σ.at_ b + (σ.bx b).length ≤ a
instance (n : Nat) (σ : St) (k a : Nat) : Decidable (FreeS n σ k a) := by unfold FreeS; infer_instance
/-- the first place with room for k words, if there is one -/
def allocS (n : Nat) (σ : St) (k : Nat) : Option Nat := (List.range (n + 1)).find? (fun a => decide (FreeS n σ k a))
theorem alloc_some {n : Nat} {σ : St} {k a : Nat} (h : FreeS n σ k a) (hl : ∀ b, b < a → ¬ FreeS n σ k b) : allocS n σ k = some a := by
  unfold allocS
  rw [List.find?_range_eq_some]
  refine ⟨by simpa using h, by have := h.1; simp; omega, fun j hj => by simpa using hl j hj⟩
theorem alloc_is {n : Nat} {σ : St} {k a : Nat} (h : allocS n σ k = some a) : FreeS n σ k a ∧ ∀ b, b < a → ¬ FreeS n σ k b := by
  unfold allocS at h
  rw [List.find?_range_eq_some] at h
  exact ⟨by simpa using h.1, fun b hb => by simpa using h.2.2 b hb⟩
theorem alloc_none {n : Nat} {σ : St} {k : Nat} (h : ∀ a, ¬ FreeS n σ k a) : allocS n σ k = none := by
  unfold allocS
  rw [List.find?_eq_none]
  intro a _
  simpa using h a
theorem alloc_no {n : Nat} {σ : St} {k : Nat} (h : allocS n σ k = none) : ∀ a, ¬ FreeS n σ k a := fun a ha => by
  unfold allocS at h
  rw [List.find?_eq_none] at h
  have := h a (by have := ha.1; simp; omega)
  exact this (by simpa using ha)
theorem alloc_cases (n : Nat) (σ : St) (k : Nat) : (∃ a, allocS n σ k = some a) ∨ allocS n σ k = none := by
  cases h : allocS n σ k with
  | none => exact .inr rfl
  | some a => exact .inl ⟨a, rfl⟩

/-- Play of the document: no heap -/
def cP : Cf := ⟨false, fun _ _ => some 0⟩
/-- on a heap of n words -/
def cE (strict : Bool) (n : Nat) : Cf := ⟨strict, allocS n⟩
theorem free_left (n : Nat) (σ : St) (k a l : Nat) : FreeS n { σ with left := l } k a ↔ FreeS n σ k a := Iff.rfl
theorem cE_mr (strict : Bool) (n k : Nat) (σ : St) (m : Nat) : (cE strict n).al (mr k σ) m = (cE strict n).al σ m := rfl
theorem cP_mr (k : Nat) (σ : St) (m : Nat) : cP.al (mr k σ) m = cP.al σ m := rfl

/-- blocks lie apart, in n words -/
structure Ap (n : Nat) (σ : St) : Prop where
  inn : ∀ b, b < 26 → σ.bx b ≠ [] → σ.at_ b + (σ.bx b).length ≤ n
  sz : ∀ b, b < 26 → (σ.bx b).length ≤ 64
  ap : ∀ b c, b < 26 → c < 26 → b ≠ c → σ.bx b ≠ [] → σ.bx c ≠ [] → σ.at_ b + (σ.bx b).length ≤ σ.at_ c ∨ σ.at_ c + (σ.bx c).length ≤ σ.at_ b

/-- one number of 0 .. m is not in a list of m -/
theorem left_out : ∀ (m : Nat) (L : List Nat), L.length ≤ m → ∃ j, j ≤ m ∧ j ∉ L
  | 0, L, h => ⟨0, Nat.le_refl _, by have e : L = [] := List.eq_nil_of_length_eq_zero (by omega); rw [e]; simp⟩
  | m + 1, L, h => by
    by_cases hm : (m + 1) ∈ L
    · have hl : (L.erase (m + 1)).length ≤ m := by rw [List.length_erase_of_mem hm]; omega
      obtain ⟨j, h1, h2⟩ := left_out m (L.erase (m + 1)) hl
      exact ⟨j, by omega, fun q => h2 ((List.mem_erase_of_ne (by omega)).2 q)⟩
    · exact ⟨m + 1, Nat.le_refl _, hm⟩
/-- the fields of 64 words that a block lies in -/
def fieldsOf (σ : St) (b : Nat) : List Nat := if σ.bx b = [] then [] else [σ.at_ b / 64, (σ.at_ b + (σ.bx b).length - 1) / 64]
theorem fields_len (σ : St) : ∀ (L : List Nat), (L.flatMap (fieldsOf σ)).length ≤ 2 * L.length
  | [] => Nat.le_refl _
  | b :: L => by
    have := fields_len σ L
    have h : (fieldsOf σ b).length ≤ 2 := by unfold fieldsOf; split <;> simp
    simp only [List.flatMap_cons, List.length_append, List.length_cons]
    omega
theorem fields_len0 (σ : St) {v : Nat} (hv : σ.bx v = []) : ∀ (L : List Nat), v ∈ L → (L.flatMap (fieldsOf σ)).length + 2 ≤ 2 * L.length
  | [], h => by cases h
  | b :: L, h => by
    simp only [List.flatMap_cons, List.length_append, List.length_cons]
    by_cases e : v = b
    · subst e
      have := fields_len σ L
      have h0 : (fieldsOf σ v).length = 0 := by unfold fieldsOf; rw [if_pos hv]; rfl
      omega
    · have hm : v ∈ L := by
        rcases List.mem_cons.1 h with q | q
        · exact absurd q e
        · exact q
      have := fields_len0 σ hv L hm
      have h : (fieldsOf σ b).length ≤ 2 := by unfold fieldsOf; split <;> simp
      omega
/-- with 3264 words there is room for one block more -/
theorem room {n : Nat} {σ : St} (hn : 3264 ≤ n) (h : Ap n σ) {v k : Nat} (hv : v < 26) (he : σ.bx v = []) (hk : k ≤ 64) : ∃ a, FreeS n σ k a := by
  have hlen := fields_len0 σ he (List.range 26) (by simpa using hv)
  obtain ⟨j, h1, h2⟩ := left_out 50 ((List.range 26).flatMap (fieldsOf σ)) (by simp at hlen ⊢; omega)
  refine ⟨64 * j, by omega, fun b hb hbx => ?_⟩
  have hf : j ∉ fieldsOf σ b := fun q => h2 (List.mem_flatMap.2 ⟨b, by simpa using hb, q⟩)
  unfold fieldsOf at hf
  rw [if_neg hbx] at hf
  have h0 : 0 < (σ.bx b).length := List.length_pos_iff.2 hbx
  have h64 := h.sz b hb
  have f1 : j ≠ σ.at_ b / 64 := fun q => hf (by simp [q])
  have f2 : j ≠ (σ.at_ b + (σ.bx b).length - 1) / 64 := fun q => hf (by simp [q])
  omega

theorem Ap.keep {n : Nat} {σ τ : St} (h : Ap n σ) (hb : τ.bx = σ.bx) (ha : τ.at_ = σ.at_) : Ap n τ := ⟨by rw [hb, ha]; exact h.inn, by rw [hb]; exact h.sz, by rw [hb, ha]; exact h.ap⟩
/-- some boxes are emptied, or keep the length of their blocks -/
theorem Ap.less {n : Nat} {σ τ : St} (h : Ap n σ) (hb : ∀ b, τ.bx b ≠ [] → σ.bx b ≠ [] ∧ (τ.bx b).length = (σ.bx b).length) (ha : τ.at_ = σ.at_) : Ap n τ := by
  refine ⟨fun b h1 h2 => ?_, fun b h1 => ?_, fun b c h1 h2 h3 h4 h5 => ?_⟩
  · rw [ha, (hb b h2).2]; exact h.inn b h1 (hb b h2).1
  · by_cases e : τ.bx b = []
    · rw [e]; simp
    · rw [(hb b e).2]; exact h.sz b h1
  · rw [ha, (hb b h4).2, (hb c h5).2]; exact h.ap b c h1 h2 h3 (hb b h4).1 (hb c h5).1
theorem Ap.drop {n : Nat} {σ : St} (h : Ap n σ) (v : Nat) : Ap n { σ with bx := upB σ.bx v [] } := h.less (fun b hb => by
  have hb' : upB σ.bx v [] b ≠ [] := hb
  by_cases e : b = v
  · subst e; rw [upB_at] at hb'; exact absurd rfl hb'
  · rw [upB_ne _ _ e] at hb'
    exact ⟨hb', by show (upB σ.bx v [] b).length = _; rw [upB_ne _ _ e]⟩) rfl
theorem Ap.fill {n : Nat} {σ : St} {v k a p : Nat} {l : List Nat} (h : Ap n { σ with bx := upB σ.bx v [] }) (hl : l.length = k) (hk : k ≤ 64) (hf : FreeS n { σ with bx := upB σ.bx v [] } k a) : Ap n { σ with bx := upB σ.bx v l, at_ := upN σ.at_ v a, peak := p } := by
  have hoff : ∀ b, b ≠ v → upB σ.bx v l b = upB σ.bx v [] b := fun b e => by rw [upB_ne _ _ e, upB_ne _ _ e]
  refine ⟨fun b h1 h2 => ?_, fun b h1 => ?_, fun b c h1 h2 h3 h4 h5 => ?_⟩
  · show upN σ.at_ v a b + (upB σ.bx v l b).length ≤ n
    by_cases e : b = v
    · subst e; rw [upN_at, upB_at, hl]; exact hf.1
    · have h2' : upB σ.bx v l b ≠ [] := h2
      rw [upN_ne _ _ e, hoff b e]; rw [hoff b e] at h2'
      exact h.inn b h1 h2'
  · show (upB σ.bx v l b).length ≤ 64
    by_cases e : b = v
    · subst e; rw [upB_at, hl]; exact hk
    · rw [hoff b e]; exact h.sz b h1
  · show upN σ.at_ v a b + (upB σ.bx v l b).length ≤ upN σ.at_ v a c ∨ upN σ.at_ v a c + (upB σ.bx v l c).length ≤ upN σ.at_ v a b
    have h4' : upB σ.bx v l b ≠ [] := h4
    have h5' : upB σ.bx v l c ≠ [] := h5
    by_cases e : b = v
    · have e2 : c ≠ v := fun q => h3 (by omega)
      subst e
      rw [upN_at, upB_at, hl, upN_ne _ _ e2, hoff c e2]
      rw [hoff c e2] at h5'
      exact hf.2 c h2 h5'
    · rw [upN_ne _ _ e, hoff b e]
      rw [hoff b e] at h4'
      by_cases e2 : c = v
      · subst e2
        rw [upN_at, upB_at, hl]
        exact (hf.2 b h1 h4').symm
      · rw [upN_ne _ _ e2, hoff c e2]
        rw [hoff c e2] at h5'
        exact h.ap b c h1 h2 h3 h4' h5'
theorem Ap.move {n : Nat} {σ : St} {b d : Nat} (h : Ap n σ) (hb : b < 26) (hd : d < 26) (hne : b ≠ d) : Ap n { σ with bx := upB (upB σ.bx b (σ.bx d)) d [], at_ := upN σ.at_ b (σ.at_ d) } := by
  have e0 : ∀ i, upB (upB σ.bx b (σ.bx d)) d [] i ≠ [] → i ≠ d ∧ ((i = b ∧ upB (upB σ.bx b (σ.bx d)) d [] i = σ.bx d ∧ upN σ.at_ b (σ.at_ d) i = σ.at_ d) ∨ (i ≠ b ∧ upB (upB σ.bx b (σ.bx d)) d [] i = σ.bx i ∧ upN σ.at_ b (σ.at_ d) i = σ.at_ i)) := fun i hi => by
    by_cases e : i = d
    · subst e; rw [upB_at] at hi; exact absurd rfl hi
    · refine ⟨e, ?_⟩
      by_cases e2 : i = b
      · subst e2; exact .inl ⟨rfl, by rw [upB_ne _ _ e, upB_at], upN_at _ _ _⟩
      · exact .inr ⟨e2, by rw [upB_ne _ _ e, upB_ne _ _ e2], upN_ne _ _ e2⟩
  refine ⟨fun i h1 h2 => ?_, fun i h1 => ?_, fun i j h1 h2 h3 h4 h5 => ?_⟩
  · have h2' : upB (upB σ.bx b (σ.bx d)) d [] i ≠ [] := h2
    show upN σ.at_ b (σ.at_ d) i + (upB (upB σ.bx b (σ.bx d)) d [] i).length ≤ n
    obtain ⟨_, ⟨_, q1, q2⟩ | ⟨_, q1, q2⟩⟩ := e0 i h2'
    · rw [q1] at h2'; rw [q1, q2]; exact h.inn d hd h2'
    · rw [q1] at h2'; rw [q1, q2]; exact h.inn i h1 h2'
  · show (upB (upB σ.bx b (σ.bx d)) d [] i).length ≤ 64
    by_cases e : upB (upB σ.bx b (σ.bx d)) d [] i = []
    · rw [e]; simp
    · obtain ⟨_, ⟨_, q1, q2⟩ | ⟨_, q1, q2⟩⟩ := e0 i e
      · rw [q1]; exact h.sz d hd
      · rw [q1]; exact h.sz i h1
  · have h4' : upB (upB σ.bx b (σ.bx d)) d [] i ≠ [] := h4
    have h5' : upB (upB σ.bx b (σ.bx d)) d [] j ≠ [] := h5
    show upN σ.at_ b (σ.at_ d) i + (upB (upB σ.bx b (σ.bx d)) d [] i).length ≤ upN σ.at_ b (σ.at_ d) j ∨ upN σ.at_ b (σ.at_ d) j + (upB (upB σ.bx b (σ.bx d)) d [] j).length ≤ upN σ.at_ b (σ.at_ d) i
    obtain ⟨n1, ⟨p0, p1, p2⟩ | ⟨p0, p1, p2⟩⟩ := e0 i h4'
    · obtain ⟨n2, ⟨q0, q1, q2⟩ | ⟨q0, q1, q2⟩⟩ := e0 j h5'
      · exact absurd (p0.trans q0.symm) h3
      · rw [p1] at h4'; rw [q1] at h5'
        rw [p1, p2, q1, q2]; exact h.ap d j hd h2 (Ne.symm n2) h4' h5'
    · obtain ⟨n2, ⟨q0, q1, q2⟩ | ⟨q0, q1, q2⟩⟩ := e0 j h5'
      · rw [p1] at h4'; rw [q1] at h5'
        rw [p1, p2, q1, q2]; exact h.ap i d h1 hd n1 h4' h5'
      · rw [p1] at h4'; rw [q1] at h5'
        rw [p1, p2, q1, q2]; exact h.ap i j h1 h2 h3 h4' h5'

/-- the same run, but for where the blocks lie -/
structure Sim (σ τ : St) : Prop where
  num : τ.num = σ.num
  bx : τ.bx = σ.bx
  left : τ.left = σ.left
  status : τ.status = σ.status
  tr : τ.tr = σ.tr
theorem act_sim {n : Nat} (hn : 3264 ≤ n) {a : Ac} (ha : AcOk a) {σ τ : St} (h : Sim σ τ) (hp : Ap n τ) : Sim (act cP a σ).1 (act (cE false n) a τ).1 ∧ (act (cE false n) a τ).2 = (act cP a σ).2 ∧ Ap n (act (cE false n) a τ).1 := by
  obtain ⟨num, bx, at_, left, status, tr, peak⟩ := σ
  obtain ⟨num', bx', at_', left', status', tr', peak'⟩ := τ
  obtain ⟨h1, h2, h3, h4, h5⟩ := h
  simp only [] at h1 h2 h3 h4 h5
  subst h1 h2 h3 h4 h5
  have K : ∀ (num2 : Nat → Nat) (left2 status2 : Nat) (tr2 : List Nat) (pk2 : Nat), Ap n ⟨num2, bx', at_', left2, status2, tr2, pk2⟩ := fun _ _ _ _ _ => hp.keep rfl rfl
  cases a with
  | set v o => exact ⟨⟨rfl, rfl, rfl, rfl, rfl⟩, rfl, K _ _ _ _ _⟩
  | bin v o k p =>
    simp only [act]
    cases hb : binN k (valO num' o) (valO num' p) with
    | none => exact ⟨⟨rfl, rfl, rfl, rfl, rfl⟩, rfl, K _ _ _ _ _⟩
    | some x => exact ⟨⟨rfl, rfl, rfl, rfl, rfl⟩, rfl, K _ _ _ _ _⟩
  | load v b o =>
    simp only [act]
    split
    · exact ⟨⟨rfl, rfl, rfl, rfl, rfl⟩, rfl, K _ _ _ _ _⟩
    · split
      · exact ⟨⟨rfl, rfl, rfl, rfl, rfl⟩, rfl, K _ _ _ _ _⟩
      · exact ⟨⟨rfl, rfl, rfl, rfl, rfl⟩, rfl, K _ _ _ _ _⟩
  | size v b =>
    simp only [act]
    split
    · exact ⟨⟨rfl, rfl, rfl, rfl, rfl⟩, rfl, K _ _ _ _ _⟩
    · exact ⟨⟨rfl, rfl, rfl, rfl, rfl⟩, rfl, K _ _ _ _ _⟩
  | make b o =>
    simp only [act, show (cE false n).strict = false from rfl, show cP.strict = false from rfl, Bool.false_eq_true, false_and, if_false]
    split
    · exact ⟨⟨rfl, rfl, rfl, rfl, rfl⟩, rfl, K _ _ _ _ _⟩
    · rename_i hv
      have hd := hp.drop b
      obtain ⟨a, ha2⟩ := room hn hd ha.1 (by show upB bx' b [] b = []; rw [upB_at]) (k := valO num' o) (by omega)
      rcases alloc_cases n { num := num', bx := upB bx' b [], at_ := at_', left := left', status := status', tr := tr', peak := peak' } (valO num' o) with ⟨a1, h1⟩ | h1
      · have e1 : (cE false n).al { num := num', bx := upB bx' b [], at_ := at_', left := left', status := status', tr := tr', peak := peak' } (valO num' o) = some a1 := h1
        rw [e1]
        refine ⟨⟨rfl, rfl, rfl, rfl, rfl⟩, rfl, ?_⟩
        exact Ap.fill (σ := { num := num', bx := bx', at_ := at_', left := left', status := status', tr := tr', peak := peak' }) (k := valO num' o) hd (by simp) (by omega) (alloc_is h1).1
      · exact absurd ha2 (alloc_no h1 a)
  | move b d =>
    simp only [act, show (cE false n).strict = false from rfl, show cP.strict = false from rfl, Bool.false_eq_true, false_and, if_false]
    split
    · exact ⟨⟨rfl, rfl, rfl, rfl, rfl⟩, rfl, K _ _ _ _ _⟩
    · split
      · exact ⟨⟨rfl, rfl, rfl, rfl, rfl⟩, rfl, K _ _ _ _ _⟩
      · rename_i hne
        exact ⟨⟨rfl, rfl, rfl, rfl, rfl⟩, rfl, Ap.move (σ := { num := num', bx := bx', at_ := at_', left := left', status := status', tr := tr', peak := peak' }) hp ha.1 ha.2 hne⟩
  | store b o p =>
    simp only [act]
    split
    · exact ⟨⟨rfl, rfl, rfl, rfl, rfl⟩, rfl, K _ _ _ _ _⟩
    · split
      · exact ⟨⟨rfl, rfl, rfl, rfl, rfl⟩, rfl, K _ _ _ _ _⟩
      · refine ⟨⟨rfl, rfl, rfl, rfl, rfl⟩, rfl, hp.less (fun i hi => ?_) rfl⟩
        have hi' : upB bx' b ((bx' b).set (valO num' o) (valO num' p)) i ≠ [] := hi
        show bx' i ≠ [] ∧ (upB bx' b ((bx' b).set (valO num' o) (valO num' p)) i).length = (bx' i).length
        by_cases e : i = b
        · subst e; rw [upB_at] at hi' ⊢; refine ⟨fun q => hi' (by rw [q]; rfl), by simp⟩
        · rw [upB_ne _ _ e] at hi' ⊢; exact ⟨hi', rfl⟩
  | drop b =>
    simp only [act]
    split
    · exact ⟨⟨rfl, rfl, rfl, rfl, rfl⟩, rfl, K _ _ _ _ _⟩
    · exact ⟨⟨rfl, rfl, rfl, rfl, rfl⟩, rfl, hp.drop b⟩
  | print o => exact ⟨⟨rfl, rfl, rfl, rfl, rfl⟩, rfl, K _ _ _ _ _⟩
theorem Sim.due {σ τ : St} (h : Sim σ τ) : Sim (due σ) (due τ) := ⟨h.num, h.bx, by show τ.left - 1 = σ.left - 1; rw [h.left], h.status, h.tr⟩
theorem stp_sim {n : Nat} (hn : 3264 ≤ n) {a : Ac} (ha : AcOk a) {σ τ : St} (h : Sim σ τ) (hp : Ap n τ) : Sim (stp cP a σ).1 (stp (cE false n) a τ).1 ∧ (stp (cE false n) a τ).2 = (stp cP a σ).2 ∧ Ap n (stp (cE false n) a τ).1 := by
  unfold stp
  rw [h.left]
  split
  · split
    · exact ⟨⟨h.num, h.bx, h.left, rfl, h.tr⟩, rfl, hp.keep rfl rfl⟩
    · exact act_sim hn ha h.due (hp.keep rfl rfl)
  · exact act_sim hn ha h hp
/-- a run on a heap with room for all is the run with no heap -/
theorem Ex.heap {n : Nat} (hn : 3264 ≤ n) {P : Pg} {σ σ' : St} {b : Bool} (h : Ex cP P σ σ' b) : ∀ {τ : St}, PgOk P → Sim σ τ → Ap n τ → ∃ τ', Ex (cE false n) P τ τ' b ∧ Sim σ' τ' ∧ Ap n τ' := by
  induction h with
  | nil σ => exact fun hp hs ha => ⟨_, .nil _, hs, ha⟩
  | @stop a r σ σ' h =>
    intro τ hp hs ha
    obtain ⟨s1, s2, s3⟩ := stp_sim hn hp.1 hs ha
    rw [h] at s1 s2
    exact ⟨_, .stop (Prod.ext rfl s2), s1, s3⟩
  | @go a r σ σ1 σ2 b h hr ih =>
    intro τ hp hs ha
    obtain ⟨s1, s2, s3⟩ := stp_sim hn hp.1 hs ha
    rw [h] at s1 s2
    obtain ⟨τ2, e, g1, g2⟩ := ih hp.2 s1 s3
    exact ⟨τ2, .go (Prod.ext rfl s2) e, g1, g2⟩
  | @iteTired o p q r σ h => exact fun {τ} hp hs ha => ⟨tire τ, .iteTired (by rw [hs.left]; exact h), ⟨hs.num, hs.bx, hs.left, rfl, hs.tr⟩, ha.keep rfl rfl⟩
  | @iteStop o p q r σ σ1 h hp ih =>
    intro τ hpo hs ha
    have hok : PgOk (if valO σ.num o ≠ 0 then p else q) := by split; exact hpo.2.1; exact hpo.2.2.1
    obtain ⟨τ1, e, g1, g2⟩ := ih hok hs.due (ha.keep rfl rfl)
    exact ⟨τ1, .iteStop (by rw [hs.left]; exact h) (by rw [hs.num]; exact e), g1, g2⟩
  | @iteGo o p q r σ σ1 σ2 b h hp hr ih1 ih2 =>
    intro τ hpo hs ha
    have hok : PgOk (if valO σ.num o ≠ 0 then p else q) := by split; exact hpo.2.1; exact hpo.2.2.1
    obtain ⟨τ1, e, g1, g2⟩ := ih1 hok hs.due (ha.keep rfl rfl)
    obtain ⟨τ2, e2, k1, k2⟩ := ih2 hpo.2.2.2 g1 g2
    exact ⟨τ2, .iteGo (by rw [hs.left]; exact h) (by rw [hs.num]; exact e) e2, k1, k2⟩
  | @loopTired o p r σ h => exact fun {τ} hp hs ha => ⟨tire τ, .loopTired (by rw [hs.left]; exact h), ⟨hs.num, hs.bx, hs.left, rfl, hs.tr⟩, ha.keep rfl rfl⟩
  | @loopEnd o p r σ σ2 b h h0 hr ih =>
    intro τ hpo hs ha
    obtain ⟨τ1, e, g1, g2⟩ := ih hpo.2.2 hs.due (ha.keep rfl rfl)
    exact ⟨τ1, .loopEnd (by rw [hs.left]; exact h) (by rw [hs.num]; exact h0) e, g1, g2⟩
  | @loopStop o p r σ σ1 h h0 hp ih =>
    intro τ hpo hs ha
    obtain ⟨τ1, e, g1, g2⟩ := ih hpo.2.1 hs.due (ha.keep rfl rfl)
    exact ⟨τ1, .loopStop (by rw [hs.left]; exact h) (by rw [hs.num]; exact h0) e, g1, g2⟩
  | @loopGo o p r σ σ1 σ2 b h h0 hp hr ih1 ih2 =>
    intro τ hpo hs ha
    obtain ⟨τ1, e, g1, g2⟩ := ih1 hpo.2.1 hs.due (ha.keep rfl rfl)
    obtain ⟨τ2, e2, k1, k2⟩ := ih2 hpo g1 g2
    exact ⟨τ2, .loopGo (by rw [hs.left]; exact h) (by rw [hs.num]; exact h0) e e2, k1, k2⟩
end Go.Proofs.YthcjcjfgdgnljaaDoor
