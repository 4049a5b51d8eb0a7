/-
  MacC: one behind the other.
-/
import Derived.Test.YtcmnejcojphijaaDoorP04DevA
import Derived.Test.YtcmnejcojphijaaDoorP05DevP
namespace Go.Proofs.YtcmnejcojphijaaDoor
set_option linter.unusedVariables false

/-- all of f have a block -/
def Holds (f : Nat → Bool) (bx : Nat → List Nat) : Prop := ∀ i, f i = true → bx i ≠ []
theorem Holds.sub {f g : Nat → Bool} {bx : Nat → List Nat} (h : Holds g bx) (hs : Sub f g) : Holds f bx := fun i q => h i (hs i q)
theorem iter_self {T : (Nat → Bool) → Nat → Bool} {H : Nat → Bool} (h : Sub H (T H)) : ∀ n, iterF T n H = H
  | 0 => rfl
  | n + 1 => by
    show iterF T n (bothF H (T H)) = H
    rw [both_sub h]
    exact iter_self h n
/-- boxes and numbers are among the 26, values below 1000 -/
def AcOk : Ac → Prop
  | .set v o => v < 26 ∧ OdOk o
  | .bin v o _ p => v < 26 ∧ OdOk o ∧ OdOk p
  | .load v b o => v < 26 ∧ b < 26 ∧ OdOk o
  | .size v b => v < 26 ∧ b < 26
  | .make b o => b < 26 ∧ OdOk o
  | .move b c => b < 26 ∧ c < 26
  | .store b o p => b < 26 ∧ OdOk o ∧ OdOk p
  | .drop b => b < 26
  | .print o => OdOk o
def PgOk : Pg → Prop
  | .nil => True
  | .act a r => AcOk a ∧ PgOk r
  | .ite o p q r => OdOk o ∧ PgOk p ∧ PgOk q ∧ PgOk r
  | .loop o p r => OdOk o ∧ PgOk p ∧ PgOk r
theorem clean_aftA {a : Ac} (h : AcOk a) {f : Nat → Bool} (hf : Clean f) : Clean (aftA a f) := by
  cases a <;> try exact hf
  · exact hf.upd h.1 _
  · show Clean (if _ then _ else _)
    split
    · exact hf
    · exact (hf.upd h.1 _).off _
  · exact hf.off _
theorem clean_iter {T : (Nat → Bool) → Nat → Bool} : ∀ (n : Nat) {f : Nat → Bool}, Clean f → Clean (iterF T n f)
  | 0, _, h => h
  | n + 1, _, h => clean_iter n h.both
theorem clean_aftG : ∀ {P : Pg}, PgOk P → ∀ {f : Nat → Bool}, Clean f → Clean (aftG P f)
  | .nil, _, _, hf => hf
  | .act a r, h, _, hf => clean_aftG h.2 (clean_aftA h.1 hf)
  | .ite o p q r, h, _, hf => clean_aftG h.2.2.2 (clean_aftG h.2.1 hf).both
  | .loop o p r, h, _, hf => clean_aftG h.2.2 (clean_iter 27 hf)

theorem act_holds {c : Cf} (hc : c.strict = false) {a : Ac} {f : Nat → Bool} {σ : St} (hu : ∀ b, useA a = some b → f b = true) (hf : Holds f σ.bx) (h4 : σ.status ≠ 4) :
    (act c a σ).1.status ≠ 4 ∧ ((act c a σ).2 = true → Holds (aftA a f) (act c a σ).1.bx) := by
  cases a with
  | set v o => exact ⟨h4, fun _ => hf⟩
  | bin v o k p =>
    simp only [act]
    split
    · exact ⟨by simp [ends], fun q => by simp [ends] at q⟩
    · exact ⟨h4, fun _ => hf⟩
  | load v b o =>
    simp only [act]
    rw [if_neg (hf b (hu b rfl))]
    split
    · exact ⟨by simp [ends], fun q => by simp [ends] at q⟩
    · exact ⟨h4, fun _ => hf⟩
  | size v b =>
    simp only [act]
    rw [if_neg (hf b (hu b rfl))]
    exact ⟨h4, fun _ => hf⟩
  | make b o =>
    simp only [act, hc]
    rw [if_neg (by simp)]
    split
    · exact ⟨by simp [ends], fun q => by simp [ends] at q⟩
    · rename_i hv
      split
      · exact ⟨by simp [ends], fun q => by simp [ends] at q⟩
      · refine ⟨h4, fun _ i q => ?_⟩
        show upB σ.bx b _ i ≠ []
        by_cases e : i = b
        · subst e
          rw [upB_at]
          intro q2
          have := congrArg List.length q2
          simp at this
          omega
        · rw [upB_ne _ _ e]
          have : updB f b true i = true := q
          unfold updB at this
          rw [if_neg e] at this
          exact hf i this
  | move b d =>
    simp only [act, hc]
    have hd := hf d (hu d rfl)
    rw [if_neg hd]
    split
    · rename_i e
      refine ⟨h4, fun _ => ?_⟩
      show Holds (if b = d then f else _) _
      rw [if_pos e]
      exact hf
    · rename_i e
      rw [if_neg (by simp)]
      refine ⟨h4, fun _ i q => ?_⟩
      show upB (upB σ.bx b (σ.bx d)) d [] i ≠ []
      have q2 : (if b = d then f else updB (updB f b (f d)) d false) i = true := q
      rw [if_neg e] at q2
      unfold updB at q2
      split at q2
      · cases q2
      · rename_i e2
        rw [upB_ne _ _ e2]
        split at q2
        · rename_i e3
          subst e3
          rw [upB_at]
          exact hd
        · rename_i e3
          rw [upB_ne _ _ e3]
          exact hf i q2
  | store b o p =>
    simp only [act]
    have hb := hf b (hu b rfl)
    rw [if_neg hb]
    split
    · exact ⟨by simp [ends], fun q => by simp [ends] at q⟩
    · refine ⟨h4, fun _ i q => ?_⟩
      show upB σ.bx b _ i ≠ []
      by_cases e : i = b
      · subst e
        rw [upB_at]
        intro q2
        have := congrArg List.length q2
        simp at this
        exact hb this
      · rw [upB_ne _ _ e]
        exact hf i q
  | drop b =>
    simp only [act]
    rw [if_neg (hf b (hu b rfl))]
    refine ⟨h4, fun _ i q => ?_⟩
    show upB σ.bx b [] i ≠ []
    have q2 : updB f b false i = true := q
    unfold updB at q2
    split at q2
    · cases q2
    · rename_i e
      rw [upB_ne _ _ e]
      exact hf i q2
  | print o => exact ⟨h4, fun _ => hf⟩
theorem stp_holds {c : Cf} (hc : c.strict = false) {a : Ac} {f : Nat → Bool} {σ : St} (hu : ∀ b, useA a = some b → f b = true) (hf : Holds f σ.bx) (h4 : σ.status ≠ 4) :
    (stp c a σ).1.status ≠ 4 ∧ ((stp c a σ).2 = true → Holds (aftA a f) (stp c a σ).1.bx) := by
  unfold stp
  split
  · split
    · exact ⟨by simp [tire], fun q => by simp at q⟩
    · exact act_holds hc hu hf h4
  · exact act_holds hc hu hf h4

/-- where no box is used that is not full a run is never broken -/
theorem Ex.sound {c : Cf} (hc : c.strict = false) {P : Pg} {σ σ' : St} {b : Bool} (h : Ex c P σ σ' b) : ∀ {f : Nat → Bool}, PgOk P → Clean f → okG P f → Holds f σ.bx → σ.status ≠ 4 → σ'.status ≠ 4 ∧ (b = true → Holds (aftG P f) σ'.bx) := by
  induction h with
  | nil σ => exact fun hp hf ho hh h4 => ⟨h4, fun _ => hh⟩
  | @stop a r σ σ' h =>
    intro f hp hf ho hh h4
    rw [okG_act] at ho
    have := stp_holds hc ho.1 hh h4
    rw [h] at this
    exact ⟨this.1, fun q => by cases q⟩
  | @go a r σ σ1 σ2 b h hr ih =>
    intro f hp hf ho hh h4
    rw [okG_act] at ho
    rw [aftG_act]
    have := stp_holds hc ho.1 hh h4
    rw [h] at this
    exact ih hp.2 (clean_aftA hp.1 hf) ho.2 (this.2 rfl) this.1
  | iteTired h => exact fun hp hf ho hh h4 => ⟨by simp [tire], fun q => by cases q⟩
  | @iteStop o p q r σ σ1 h hp ih =>
    intro f hpo hf ho hh h4
    rw [okG_ite] at ho
    refine ⟨?_, fun q => by cases q⟩
    by_cases e : valO σ.num o ≠ 0
    · rw [if_pos e] at ih
      exact (ih hpo.2.1 hf ho.1 hh h4).1
    · rw [if_neg e] at ih
      exact (ih hpo.2.2.1 hf ho.2.1 hh h4).1
  | @iteGo o p q r σ σ1 σ2 b h hp hr ih1 ih2 =>
    intro f hpo hf ho hh h4
    rw [okG_ite] at ho
    rw [aftG_ite]
    by_cases e : valO σ.num o ≠ 0
    · rw [if_pos e] at ih1
      obtain ⟨g1, g2⟩ := ih1 hpo.2.1 hf ho.1 hh h4
      exact ih2 hpo.2.2.2 (clean_aftG hpo.2.1 hf).both ho.2.2 ((g2 rfl).sub (Sub.left _ _)) g1
    · rw [if_neg e] at ih1
      obtain ⟨g1, g2⟩ := ih1 hpo.2.2.1 hf ho.2.1 hh h4
      exact ih2 hpo.2.2.2 (clean_aftG hpo.2.1 hf).both ho.2.2 ((g2 rfl).sub (Sub.right _ _)) g1
  | loopTired h => exact fun hp hf ho hh h4 => ⟨by simp [tire], fun q => by cases q⟩
  | @loopEnd o p r σ σ2 b h h0 hr ih =>
    intro f hpo hf ho hh h4
    rw [okG_loop] at ho
    rw [aftG_loop]
    have hsub := iter_sub (T := aftG p) 27 f
    have hcl := clean_iter (T := aftG p) 27 hf
    generalize iterF (aftG p) 27 f = H at *
    exact ih hpo.2.2 hcl ho.2 (Holds.sub hh hsub) h4
  | @loopStop o p r σ σ1 h h0 hp ih =>
    intro f hpo hf ho hh h4
    rw [okG_loop] at ho
    have hsub := iter_sub (T := aftG p) 27 f
    have hcl := clean_iter (T := aftG p) 27 hf
    generalize iterF (aftG p) 27 f = H at *
    exact ⟨(ih hpo.2.1 hcl ho.1 (Holds.sub hh hsub) h4).1, fun q => by cases q⟩
  | @loopGo o p r σ σ1 σ2 b h h0 hp hr ih1 ih2 =>
    intro f hpo hf ho hh h4
    rw [okG_loop] at ho
    rw [aftG_loop]
    have hsub := iter_sub (T := aftG p) 27 f
    have hcl := clean_iter (T := aftG p) 27 hf
    have hfix : Sub (iterF (aftG p) 27 f) (aftG p (iterF (aftG p) 27 f)) := iter_fix 27 f hf (by have := card_le f 26; omega)
    generalize iterF (aftG p) 27 f = H at *
    have hself := iter_self hfix 27
    obtain ⟨g1, g2⟩ := ih1 hpo.2.1 hcl ho.1 (Holds.sub hh hsub) h4
    have := ih2 (f := H) hpo hcl (by rw [okG_loop, hself]; exact ho) ((g2 rfl).sub hfix) g1
    rw [aftG_loop, hself] at this
    exact this

/-- what was printed stays -/
theorem act_tr (c : Cf) (a : Ac) (σ : St) : σ.tr <+: (act c a σ).1.tr := by
  cases a <;> simp only [act]
  case print o => exact ⟨digF 3 (valO σ.num o) ++ [59], by simp⟩
  all_goals (repeat' split) <;> exact List.prefix_refl _
theorem stp_tr (c : Cf) (a : Ac) (σ : St) : σ.tr <+: (stp c a σ).1.tr := by
  unfold stp
  split
  · split
    · exact List.prefix_refl _
    · exact act_tr c a (due σ)
  · exact act_tr c a σ
theorem Ex.tr {c : Cf} {P : Pg} {σ σ' : St} {b : Bool} (h : Ex c P σ σ' b) : σ.tr <+: σ'.tr := by
  induction h with
  | nil σ => exact List.prefix_refl _
  | @stop a r σ σ' h => have := stp_tr c a σ; rw [h] at this; exact this
  | @go a r σ σ1 σ2 b h hr ih => have := stp_tr c a σ; rw [h] at this; exact this.trans ih
  | iteTired h => exact List.prefix_refl _
  | iteStop h hp ih => exact ih
  | iteGo h hp hr ih1 ih2 => exact ih1.trans ih2
  | loopTired h => exact List.prefix_refl _
  | loopEnd h h0 hr ih => exact ih
  | loopStop h h0 hp ih => exact ih
  | loopGo h h0 hp hr ih1 ih2 => exact ih1.trans ih2

/-- k steps more may be done -/
def mr (k : Nat) (σ : St) : St := { σ with left := σ.left + k }
theorem act_mr {c : Cf} (hal : ∀ (k : Nat) (σ : St) (n : Nat), c.al (mr k σ) n = c.al σ n) (k : Nat) (a : Ac) (σ : St) : act c a (mr k σ) = (mr k (act c a σ).1, (act c a σ).2) := by
  cases a with
  | make b o =>
    have e : c.al { mr k σ with bx := upB σ.bx b [] } (valO σ.num o) = c.al { σ with bx := upB σ.bx b [] } (valO σ.num o) := hal k { σ with bx := upB σ.bx b [] } _
    simp only [act]
    show (if c.strict = true ∧ σ.bx b ≠ [] then ends (mr k σ) 4 else if valO σ.num o < 1 ∨ 64 < valO σ.num o then ends (mr k σ) 1 else
      match c.al { mr k σ with bx := upB σ.bx b [] } (valO σ.num o) with
      | none => ends { mr k σ with bx := upB σ.bx b [] } 3
      | some a => _) = _
    rw [e]
    by_cases h1 : c.strict = true ∧ σ.bx b ≠ []
    · rw [if_pos h1, if_pos h1]; rfl
    · rw [if_neg h1, if_neg h1]
      by_cases h2 : valO σ.num o < 1 ∨ 64 < valO σ.num o
      · rw [if_pos h2, if_pos h2]; rfl
      · rw [if_neg h2, if_neg h2]
        cases c.al { σ with bx := upB σ.bx b [] } (valO σ.num o) <;> rfl
  | set v o => rfl
  | bin v o q p =>
    simp only [act]
    show (match binN q (valO σ.num o) (valO σ.num p) with | none => ends (mr k σ) 1 | some x => _) = _
    cases binN q (valO σ.num o) (valO σ.num p) <;> rfl
  | load v b o =>
    simp only [act]
    show (if σ.bx b = [] then _ else if (σ.bx b).length ≤ valO σ.num o then _ else _) = _
    by_cases h1 : σ.bx b = []
    · rw [if_pos h1, if_pos h1]; rfl
    · rw [if_neg h1, if_neg h1]
      by_cases h2 : (σ.bx b).length ≤ valO σ.num o
      · rw [if_pos h2, if_pos h2]; rfl
      · rw [if_neg h2, if_neg h2]; rfl
  | size v b =>
    simp only [act]
    show (if σ.bx b = [] then _ else _) = _
    by_cases h1 : σ.bx b = []
    · rw [if_pos h1, if_pos h1]; rfl
    · rw [if_neg h1, if_neg h1]; rfl
  | move b d =>
    simp only [act]
    show (if σ.bx d = [] then _ else if b = d then _ else if c.strict = true ∧ σ.bx b ≠ [] then _ else _) = _
    by_cases h1 : σ.bx d = []
    · rw [if_pos h1, if_pos h1]; rfl
    · rw [if_neg h1, if_neg h1]
      by_cases h2 : b = d
      · rw [if_pos h2, if_pos h2]
      · rw [if_neg h2, if_neg h2]
        by_cases h3 : c.strict = true ∧ σ.bx b ≠ []
        · rw [if_pos h3, if_pos h3]; rfl
        · rw [if_neg h3, if_neg h3]; rfl
  | store b o p =>
    simp only [act]
    show (if σ.bx b = [] then _ else if (σ.bx b).length ≤ valO σ.num o then _ else _) = _
    by_cases h1 : σ.bx b = []
    · rw [if_pos h1, if_pos h1]; rfl
    · rw [if_neg h1, if_neg h1]
      by_cases h2 : (σ.bx b).length ≤ valO σ.num o
      · rw [if_pos h2, if_pos h2]; rfl
      · rw [if_neg h2, if_neg h2]; rfl
  | drop b =>
    simp only [act]
    show (if σ.bx b = [] then _ else _) = _
    by_cases h1 : σ.bx b = []
    · rw [if_pos h1, if_pos h1]; rfl
    · rw [if_neg h1, if_neg h1]; rfl
  | print o => rfl
theorem act_stat (c : Cf) (a : Ac) (σ : St) : (act c a σ).2 = false → (act c a σ).1.status ≠ 2 := by
  cases a <;> simp only [act] <;> (repeat' split) <;> simp [ends]
theorem due_mr {σ : St} (h : σ.left ≠ 0) (k : Nat) : due (mr k σ) = mr k (due σ) := by
  unfold due mr
  simp only [St.mk.injEq, true_and, and_true]
  omega
theorem Ex.more {c : Cf} (hal : ∀ (k : Nat) (σ : St) (n : Nat), c.al (mr k σ) n = c.al σ n) {P : Pg} {σ σ' : St} {b : Bool} (h : Ex c P σ σ' b) (k : Nat) :
    (b = true ∨ σ'.status ≠ 2 → Ex c P (mr k σ) (mr k σ') b) ∧ (b = false → σ'.status = 2 → ∀ {τ : St} {b' : Bool}, Ex c P (mr k σ) τ b' → σ'.tr <+: τ.tr) := by
  have goS : ∀ {a : Ac} {σ σ1 : St}, stp c a σ = (σ1, true) → stp c a (mr k σ) = (mr k σ1, true) := fun {a σ σ1} h => by
    unfold stp at h ⊢
    split
    · rename_i hs
      rw [if_pos hs] at h
      split at h
      · cases h
      · rename_i hl
        rw [if_neg (by show σ.left + k ≠ 0; omega), due_mr hl, act_mr hal, h]
    · rename_i hs
      rw [if_neg hs] at h
      rw [act_mr hal, h]
  induction h with
  | nil σ => exact ⟨fun _ => .nil _, fun q => by cases q⟩
  | @stop a r σ σ' h =>
    have ht : ∀ {τ : St} {b' : Bool}, Ex c (.act a r) (mr k σ) τ b' → σ.tr <+: τ.tr := fun h => h.tr
    by_cases hs : isStep a = true
    · by_cases hl : σ.left = 0
      · have e : stp c a σ = (tire σ, false) := by unfold stp; rw [if_pos hs, if_pos hl]
        rw [e] at h
        cases h
        exact ⟨fun q => by rcases q with q | q
                           · cases q
                           · exact absurd rfl q, fun _ _ => ht⟩
      · have e : stp c a σ = act c a (due σ) := by unfold stp; rw [if_pos hs, if_neg hl]
        rw [e] at h
        have h2 := act_stat c a (due σ) (by rw [h])
        rw [h] at h2
        refine ⟨fun _ => .stop ?_, fun _ q => absurd q h2⟩
        unfold stp
        rw [if_pos hs, if_neg (by show σ.left + k ≠ 0; omega), due_mr hl, act_mr hal, h]
    · have e : stp c a σ = act c a σ := by unfold stp; rw [if_neg hs]
      rw [e] at h
      have h2 := act_stat c a σ (by rw [h])
      rw [h] at h2
      refine ⟨fun _ => .stop ?_, fun _ q => absurd q h2⟩
      unfold stp
      rw [if_neg hs, act_mr hal, h]
  | @go a r σ σ1 σ2 b h hr ih =>
    refine ⟨fun q => .go (goS h) (ih.1 q), fun q1 q2 τ b' g => ?_⟩
    have := goS h
    cases g with
    | stop g1 => rw [this] at g1; cases g1
    | go g1 g2 => rw [this] at g1; cases g1; exact ih.2 q1 q2 g2
  | @iteTired o p q r σ h => exact ⟨fun q => by rcases q with q | q
                                                · cases q
                                                · exact absurd rfl q, fun _ _ τ b' g => g.tr⟩
  | @iteStop o p q r σ σ1 h hp ih =>
    have hl : (mr k σ).left ≠ 0 := by show σ.left + k ≠ 0; omega
    rw [← due_mr h k] at ih
    refine ⟨fun q => .iteStop hl (ih.1 q), fun q1 q2 τ b' g => ?_⟩
    cases g with
    | iteTired g1 => exact absurd g1 hl
    | iteStop _ g1 => exact ih.2 q1 q2 g1
    | iteGo _ g1 g2 => exact (ih.2 q1 q2 g1).trans g2.tr
  | @iteGo o p q r σ σ1 σ2 b h hp hr ih1 ih2 =>
    have hl : (mr k σ).left ≠ 0 := by show σ.left + k ≠ 0; omega
    rw [← due_mr h k] at ih1
    have h1 := ih1.1 (.inl rfl)
    refine ⟨fun q => .iteGo hl h1 (ih2.1 q), fun q1 q2 τ b' g => ?_⟩
    cases g with
    | iteTired g1 => exact absurd g1 hl
    | iteStop _ g1 => have := (h1.det g1).2; cases this
    | iteGo _ g1 g2 => have := (h1.det g1).1; subst this; exact ih2.2 q1 q2 g2
  | @loopTired o p r σ h => exact ⟨fun q => by rcases q with q | q
                                               · cases q
                                               · exact absurd rfl q, fun _ _ τ b' g => g.tr⟩
  | @loopEnd o p r σ σ2 b h h0 hr ih =>
    have hl : (mr k σ).left ≠ 0 := by show σ.left + k ≠ 0; omega
    rw [← due_mr h k] at ih
    refine ⟨fun q => .loopEnd hl h0 (ih.1 q), fun q1 q2 τ b' g => ?_⟩
    cases g with
    | loopTired g1 => exact absurd g1 hl
    | loopEnd _ _ g1 => exact ih.2 q1 q2 g1
    | loopStop _ g0 _ => exact absurd h0 g0
    | loopGo _ g0 _ _ => exact absurd h0 g0
  | @loopStop o p r σ σ1 h h0 hp ih =>
    have hl : (mr k σ).left ≠ 0 := by show σ.left + k ≠ 0; omega
    rw [← due_mr h k] at ih
    refine ⟨fun q => .loopStop hl h0 (ih.1 q), fun q1 q2 τ b' g => ?_⟩
    cases g with
    | loopTired g1 => exact absurd g1 hl
    | loopEnd _ g0 _ => exact absurd g0 h0
    | loopStop _ _ g1 => exact ih.2 q1 q2 g1
    | loopGo _ _ g1 g2 => exact (ih.2 q1 q2 g1).trans g2.tr
  | @loopGo o p r σ σ1 σ2 b h h0 hp hr ih1 ih2 =>
    have hl : (mr k σ).left ≠ 0 := by show σ.left + k ≠ 0; omega
    rw [← due_mr h k] at ih1
    have h1 := ih1.1 (.inl rfl)
    refine ⟨fun q => .loopGo hl h0 h1 (ih2.1 q), fun q1 q2 τ b' g => ?_⟩
    cases g with
    | loopTired g1 => exact absurd g1 hl
    | loopEnd _ g0 _ => exact absurd g0 h0
    | loopStop _ _ g1 => have := (h1.det g1).2; cases this
    | loopGo _ _ g1 g2 => have := (h1.det g1).1; subst this; exact ih2.2 q1 q2 g2
end Go.Proofs.YtcmnejcojphijaaDoor
