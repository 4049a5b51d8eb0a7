/-
  LowB, TxtB: one behind the other.
-/
import Derived.Test.YthcjcjfgdgnljabDoorGLowA
import Derived.Test.YthcjcjfgdgnljabDoorGDevA
namespace Go.Proofs.YthcjcjfgdgnljabDoor
set_option linter.unusedVariables false

theorem step_own {a : Ac} {f : Nat → Bool} {b : Nat} (h : ownA a f = some b) : isStep a = true := by
  cases a <;> first | rfl | cases h
theorem stp_low (c : Cf) {a : Ac} {f : Nat → Bool} {σ τ : St} (hu : ∀ b, useA a = some b → f b = true) (h : LS (goneF a f) σ τ) :
    (∃ τ', stp c a τ = (τ', (stp cP a σ).2) ∧ τ'.status = (stp cP a σ).1.status ∧ τ'.tr = (stp cP a σ).1.tr ∧ ((stp cP a σ).2 = true → LS (aftA a f) (stp cP a σ).1 τ')) ∨ (∃ τ', stp c a τ = (τ', false) ∧ τ'.status = 3 ∧ τ'.tr = σ.tr) := by
  unfold stp
  by_cases hs : isStep a = true
  · rw [if_pos hs, if_pos hs, h.left]
    by_cases h0 : σ.left = 0
    · rw [if_pos h0, if_pos h0]
      exact .inl ⟨tire τ, rfl, rfl, h.tr, fun q => by cases q⟩
    · rw [if_neg h0, if_neg h0]
      exact act_low c hu h.due
  · rw [if_neg hs, if_neg hs]
    exact act_low c hu h
/-- one sentence, and what is put in ahead of it: it stops, it goes on, there is no room -/
def OwnR (c : Cf) (a : Ac) (f : Nat → Bool) (σ τ : St) (r : Pg) : Prop :=
    (∃ τ', (stp cP a σ).2 = false ∧ Ex c (ownP a f r) τ τ' false ∧ τ'.status = (stp cP a σ).1.status ∧ τ'.tr = (stp cP a σ).1.tr) ∨
    (∃ τ1, (stp cP a σ).2 = true ∧ LS (aftA a f) (stp cP a σ).1 τ1 ∧ ∀ {τ' : St} {b : Bool}, Ex c r τ1 τ' b → Ex c (ownP a f r) τ τ' b) ∨
    (∃ τ', Ex c (ownP a f r) τ τ' false ∧ τ'.status = 3 ∧ τ'.tr = σ.tr)
theorem own_low (c : Cf) {a : Ac} {f : Nat → Bool} {σ τ : St} {r : Pg} (hu : ∀ b, useA a = some b → f b = true) (h : LS f σ τ) : OwnR c a f σ τ r := by
  have main : ∀ (τ0 : St), LS (goneF a f) σ τ0 → (∀ {τ' : St} {b : Bool}, Ex c (.act a r) τ0 τ' b → Ex c (ownP a f r) τ τ' b) → OwnR c a f σ τ r := fun τ0 h0 hx => by
    rcases stp_low c hu h0 with ⟨τ', h1, h2, h3, h4⟩ | ⟨τ', h1, h2, h3⟩
    · cases hb : (stp cP a σ).2
      · rw [hb] at h1
        exact Or.inl ⟨τ', hb, hx (.stop h1), h2, h3⟩
      · rw [hb] at h1
        exact Or.inr (Or.inl ⟨τ', hb, h4 hb, fun hr => hx (.go h1 hr)⟩)
    · exact Or.inr (Or.inr ⟨τ', hx (.stop h1), h2, h3⟩)
  cases ho : ownA a f with
  | none =>
    have hg : goneF a f = f := by unfold goneF; rw [ho]
    refine main τ (by rw [hg]; exact h) (fun hr => ?_)
    unfold ownP
    rw [ho]
    exact hr
  | some b =>
    have hg : goneF a f = updB f b false := by unfold goneF; rw [ho]
    have hfb : f b = true := by
      cases a <;> first | (cases ho; done) | skip
      · rename_i k o
        have ho' : (if f k = true then some k else none) = some b := ho
        split at ho'
        · rename_i q; injection ho' with e; rw [← e]; exact q
        · cases ho'
      · rename_i k d
        have ho' : (if k ≠ d ∧ f k = true then some k else none) = some b := ho
        split at ho'
        · rename_i q; injection ho' with e; rw [← e]; exact q.2
        · cases ho'
    have hbx : τ.bx b ≠ [] := by rw [(h.on b hfb).1]; exact (h.on b hfb).2
    refine main { τ with bx := upB τ.bx b [] } ?_ (fun hr => ?_)
    · rw [hg]
      refine ⟨h.num, h.left, h.status, h.tr, fun j hj => ?_, fun j hj => ?_⟩
      · unfold updB at hj
        split at hj
        · cases hj
        · rename_i e
          show upB τ.bx b [] j = σ.bx j ∧ _
          rw [upB_ne _ _ e]; exact h.on j hj
      · show upB τ.bx b [] j = []
        by_cases e : j = b
        · subst e; rw [upB_at]
        · unfold updB at hj
          rw [if_neg e] at hj
          rw [upB_ne _ _ e]; exact h.off j hj
    · unfold ownP
      rw [ho]
      refine .go (σ1 := { τ with bx := upB τ.bx b [] }) ?_ hr
      show act c (.drop b) τ = _
      simp only [act]
      rw [if_neg hbx]
/-- what was done, and the ends that were put in behind it -/
theorem Low.tail {c : Cf} {P : Pg} {g g' : Nat → Bool} {τ σ' : St} (h : Low c P g τ σ' true) (hc : Clean g) (hs : Sub g' g) :
    (∃ τ1, LS g' σ' τ1 ∧ Ex c (seqP P (drP (minL g g') .nil)) τ τ1 true) ∨ (∃ τ', Ex c (seqP P (drP (minL g g') .nil)) τ τ' false ∧ τ'.status = 3 ∧ τ'.tr <+: σ'.tr) := by
  rcases h with ⟨τ', h1, h2, h3, h4⟩ | ⟨τ', h1, h2, h3⟩
  · have hl := h4 rfl
    exact .inl ⟨_, hl.less hc hs, h1.seq.1 rfl (Ex.drop hl.full (minL_nodup _ _) (.nil _))⟩
  · exact .inr ⟨τ', h1.seq.2 rfl, h2, h3⟩
theorem Low.halt {c : Cf} {P Q : Pg} {g : Nat → Bool} {τ σ' : St} (h : Low c P g τ σ' false) : Low c (seqP P Q) g τ σ' false := by
  rcases h with ⟨τ', h1, h2, h3, h4⟩ | ⟨τ', h1, h2, h3⟩
  · exact .inl ⟨τ', h1.seq.2 rfl, h2, h3, fun q => by cases q⟩
  · exact .inr ⟨τ', h1.seq.2 rfl, h2, h3⟩
/-- THE TOP, of trees -/
theorem Ex.low (c : Cf) {P : Pg} {σ σ' : St} {b : Bool} (h : Ex cP P σ σ' b) : ∀ {f : Nat → Bool} {τ : St}, PgOk P → Clean f → okG P f → LS f σ τ → Low c (lowG P f) (aftG P f) τ σ' b := by
  induction h with
  | nil σ => exact fun {f τ} hp hf ho hl => .inl ⟨τ, .nil _, hl.status, hl.tr, fun _ => hl⟩
  | @stop a r σ σ' h =>
    intro f τ hp hf ho hl
    rw [okG_act] at ho
    rw [lowG]
    rcases own_low c (r := lowG r (aftA a f)) ho.1 hl with ⟨τ', q1, q2, q3, q4⟩ | ⟨τ1, q1, q2, q3⟩ | ⟨τ', q1, q2, q3⟩
    · rw [h] at q3 q4
      exact .inl ⟨τ', q2, q3, q4, fun q => by cases q⟩
    · rw [h] at q1; cases q1
    · have := stp_tr cP a σ
      rw [h] at this
      exact .inr ⟨τ', q1, q2, by rw [q3]; exact this⟩
  | @go a r σ σ1 σ2 b h hr ih =>
    intro f τ hp hf ho hl
    rw [okG_act] at ho
    rw [lowG, aftG_act]
    rcases own_low c (r := lowG r (aftA a f)) ho.1 hl with ⟨τ', q1, q2, q3, q4⟩ | ⟨τ1, q1, q2, q3⟩ | ⟨τ', q1, q2, q3⟩
    · rw [h] at q1; cases q1
    · rw [h] at q2
      rcases ih hp.2 (clean_aftA hp.1 hf) ho.2 q2 with ⟨τ', k1, k2, k3, k4⟩ | ⟨τ', k1, k2, k3⟩
      · exact .inl ⟨τ', q3 k1, k2, k3, k4⟩
      · exact .inr ⟨τ', q3 k1, k2, k3⟩
    · exact .inr ⟨τ', q1, q2, by rw [q3]; exact (Ex.go h hr).tr⟩
  | iteTired h => exact fun {f τ} hp hf ho hl => .inl ⟨tire τ, by rw [lowG]; exact .iteTired (by rw [hl.left]; exact h), rfl, hl.tr, fun q => by cases q⟩
  | @iteStop o p q r σ σ1 h hp ih =>
    intro f τ hpo hf ho hl
    rw [okG_ite] at ho
    rw [lowG]
    have h0 : τ.left ≠ 0 := by rw [hl.left]; exact h
    by_cases e : valO σ.num o ≠ 0
    · rw [if_pos e] at ih
      have e2 : valO τ.num o ≠ 0 := by rw [hl.num]; exact e
      rcases (ih hpo.2.1 hf ho.1 hl.due).halt (Q := drP (minL (aftG p f) (bothF (aftG p f) (aftG q f))) .nil) with ⟨τ', k1, k2, k3, _⟩ | ⟨τ', k1, k2, k3⟩
      · exact .inl ⟨τ', .iteStop h0 (by rw [if_pos e2]; exact k1), k2, k3, fun q => by cases q⟩
      · exact .inr ⟨τ', .iteStop h0 (by rw [if_pos e2]; exact k1), k2, k3⟩
    · rw [if_neg e] at ih
      have e2 : ¬ valO τ.num o ≠ 0 := by rw [hl.num]; exact e
      rcases (ih hpo.2.2.1 hf ho.2.1 hl.due).halt (Q := drP (minL (aftG q f) (bothF (aftG p f) (aftG q f))) .nil) with ⟨τ', k1, k2, k3, _⟩ | ⟨τ', k1, k2, k3⟩
      · exact .inl ⟨τ', .iteStop h0 (by rw [if_neg e2]; exact k1), k2, k3, fun q => by cases q⟩
      · exact .inr ⟨τ', .iteStop h0 (by rw [if_neg e2]; exact k1), k2, k3⟩
  | @iteGo o p q r σ σ1 σ2 b h hp hr ih1 ih2 =>
    intro f τ hpo hf ho hl
    rw [okG_ite] at ho
    rw [lowG, aftG_ite]
    have h0 : τ.left ≠ 0 := by rw [hl.left]; exact h
    have hcl : Clean (bothF (aftG p f) (aftG q f)) := (clean_aftG hpo.2.1 hf).both
    by_cases e : valO σ.num o ≠ 0
    · rw [if_pos e] at ih1
      have e2 : valO τ.num o ≠ 0 := by rw [hl.num]; exact e
      rcases (ih1 hpo.2.1 hf ho.1 hl.due).tail (clean_aftG hpo.2.1 hf) (Sub.left (aftG p f) (aftG q f)) with ⟨τ1, k1, k2⟩ | ⟨τ', k1, k2, k3⟩
      · rcases ih2 hpo.2.2.2 hcl ho.2.2 k1 with ⟨τ', l1, l2, l3, l4⟩ | ⟨τ', l1, l2, l3⟩
        · exact .inl ⟨τ', .iteGo h0 (by rw [if_pos e2]; exact k2) l1, l2, l3, l4⟩
        · exact .inr ⟨τ', .iteGo h0 (by rw [if_pos e2]; exact k2) l1, l2, l3⟩
      · exact .inr ⟨τ', .iteStop h0 (by rw [if_pos e2]; exact k1), k2, k3.trans hr.tr⟩
    · rw [if_neg e] at ih1
      have e2 : ¬ valO τ.num o ≠ 0 := by rw [hl.num]; exact e
      rcases (ih1 hpo.2.2.1 hf ho.2.1 hl.due).tail (clean_aftG hpo.2.2.1 hf) (Sub.right (aftG p f) (aftG q f)) with ⟨τ1, k1, k2⟩ | ⟨τ', k1, k2, k3⟩
      · rcases ih2 hpo.2.2.2 hcl ho.2.2 k1 with ⟨τ', l1, l2, l3, l4⟩ | ⟨τ', l1, l2, l3⟩
        · exact .inl ⟨τ', .iteGo h0 (by rw [if_neg e2]; exact k2) l1, l2, l3, l4⟩
        · exact .inr ⟨τ', .iteGo h0 (by rw [if_neg e2]; exact k2) l1, l2, l3⟩
      · exact .inr ⟨τ', .iteStop h0 (by rw [if_neg e2]; exact k1), k2, k3.trans hr.tr⟩
  | @loopTired o p r σ h =>
    intro f τ hpo hf ho hl
    rw [lowG]
    have hsub := iter_sub (T := aftG p) 27 f
    have hlh := hl.less hf hsub
    have hfull := hl.full (g := iterF (aftG p) 27 f)
    exact .inl ⟨_, Ex.drop hfull (minL_nodup _ _) (.loopTired (by rw [hlh.left]; exact h)), rfl, hlh.tr, fun q => by cases q⟩
  | @loopEnd o p r σ σ2 b h h0 hr ih =>
    intro f τ hpo hf ho hl
    rw [okG_loop] at ho
    rw [lowG, aftG_loop]
    have hsub := iter_sub (T := aftG p) 27 f
    have hcl := clean_iter (T := aftG p) 27 hf
    have hlh := hl.less hf hsub
    have hfull := hl.full (g := iterF (aftG p) 27 f)
    generalize iterF (aftG p) 27 f = H at *
    rcases ih hpo.2.2 hcl ho.2 hlh.due with ⟨τ', k1, k2, k3, k4⟩ | ⟨τ', k1, k2, k3⟩
    · exact .inl ⟨τ', Ex.drop hfull (minL_nodup _ _) (.loopEnd (by rw [hlh.left]; exact h) (by rw [hlh.num]; exact h0) k1), k2, k3, k4⟩
    · exact .inr ⟨τ', Ex.drop hfull (minL_nodup _ _) (.loopEnd (by rw [hlh.left]; exact h) (by rw [hlh.num]; exact h0) k1), k2, k3⟩
  | @loopStop o p r σ σ1 h h0 hp ih =>
    intro f τ hpo hf ho hl
    rw [okG_loop] at ho
    rw [lowG]
    have hsub := iter_sub (T := aftG p) 27 f
    have hcl := clean_iter (T := aftG p) 27 hf
    have hlh := hl.less hf hsub
    have hfull := hl.full (g := iterF (aftG p) 27 f)
    generalize iterF (aftG p) 27 f = H at *
    rcases (ih hpo.2.1 hcl ho.1 hlh.due).halt (Q := drP (minL (aftG p H) H) .nil) with ⟨τ', k1, k2, k3, _⟩ | ⟨τ', k1, k2, k3⟩
    · exact .inl ⟨τ', Ex.drop hfull (minL_nodup _ _) (.loopStop (by rw [hlh.left]; exact h) (by rw [hlh.num]; exact h0) k1), k2, k3, fun q => by cases q⟩
    · exact .inr ⟨τ', Ex.drop hfull (minL_nodup _ _) (.loopStop (by rw [hlh.left]; exact h) (by rw [hlh.num]; exact h0) k1), k2, k3⟩
  | @loopGo o p r σ σ1 σ2 b h h0 hp hr ih1 ih2 =>
    intro f τ hpo hf ho hl
    rw [okG_loop] at ho
    rw [lowG, aftG_loop]
    have hsub := iter_sub (T := aftG p) 27 f
    have hcl := clean_iter (T := aftG p) 27 hf
    have hfix : Sub (iterF (aftG p) 27 f) (aftG p (iterF (aftG p) 27 f)) := iter_fix 27 f hf (by have := card_le f 26; omega)
    have hlh := hl.less hf hsub
    have hfull := hl.full (g := iterF (aftG p) 27 f)
    generalize iterF (aftG p) 27 f = H at *
    have hself := iter_self hfix 27
    have a1 : (clr (minL f H) τ).left ≠ 0 := by rw [hlh.left]; exact h
    have a2 : valO (clr (minL f H) τ).num o ≠ 0 := by rw [hlh.num]; exact h0
    rcases (ih1 hpo.2.1 hcl ho.1 hlh.due).tail (clean_aftG hpo.2.1 hcl) hfix with ⟨τ1, k1, k2⟩ | ⟨τ', k1, k2, k3⟩
    · have hi := ih2 (f := H) hpo hcl (by rw [okG_loop, hself]; exact ho) k1
      rw [lowG, aftG_loop, hself, minL_self] at hi
      rcases hi with ⟨τ', l1, l2, l3, l4⟩ | ⟨τ', l1, l2, l3⟩
      · exact .inl ⟨τ', Ex.drop hfull (minL_nodup _ _) (.loopGo a1 a2 k2 l1), l2, l3, l4⟩
      · exact .inr ⟨τ', Ex.drop hfull (minL_nodup _ _) (.loopGo a1 a2 k2 l1), l2, l3⟩
    · exact .inr ⟨τ', Ex.drop hfull (minL_nodup _ _) (.loopStop a1 a2 k1), k2, k3.trans hr.tr⟩
/-- a run that goes on has not ended in any way; one that has ended, has -/
theorem act_status {c : Cf} {a : Ac} {σ : St} : ((act c a σ).2 = true → (act c a σ).1.status = σ.status) ∧ ((act c a σ).2 = false → (act c a σ).1.status ≠ 0) := by
  cases a <;> simp only [act]
  all_goals (repeat' split) <;> simp [ends]
theorem stp_status {c : Cf} {a : Ac} {σ : St} : ((stp c a σ).2 = true → (stp c a σ).1.status = σ.status) ∧ ((stp c a σ).2 = false → (stp c a σ).1.status ≠ 0) := by
  unfold stp
  split
  · split
    · exact ⟨fun q => (by cases q), fun _ => (by simp [tire])⟩
    · exact act_status (σ := due σ)
  · exact act_status
theorem Ex.status {c : Cf} {P : Pg} {σ σ' : St} {b : Bool} (h : Ex c P σ σ' b) : (b = true → σ'.status = σ.status) ∧ (b = false → σ'.status ≠ 0) := by
  induction h with
  | nil σ => exact ⟨fun _ => rfl, fun q => by cases q⟩
  | @stop a r σ σ' h => have := (stp_status (c := c) (a := a) (σ := σ)).2; rw [h] at this; exact ⟨fun q => (by cases q), fun _ => this rfl⟩
  | @go a r σ σ1 σ2 b h hr ih => have := (stp_status (c := c) (a := a) (σ := σ)).1; rw [h] at this; exact ⟨fun q => (ih.1 q).trans (this rfl), ih.2⟩
  | iteTired h => exact ⟨fun q => (by cases q), fun _ => by simp [tire]⟩
  | iteStop h hp ih => exact ⟨fun q => (by cases q), ih.2⟩
  | iteGo h hp hr ih1 ih2 => exact ⟨fun q => (ih2.1 q).trans (ih1.1 rfl), ih2.2⟩
  | loopTired h => exact ⟨fun q => (by cases q), fun _ => by simp [tire]⟩
  | loopEnd h h0 hr ih => exact ih
  | loopStop h h0 hp ih => exact ⟨fun q => (by cases q), ih.2⟩
  | loopGo h h0 hp hr ih1 ih2 => exact ⟨fun q => (ih2.1 q).trans (ih1.1 rfl), ih2.2⟩
/-- THE TOP: on a heap of any size, with any number of steps -/
theorem low_top (c : Cf) {P : Pg} {σ : St} {b : Bool} (s0 : St) (h0 : s0.status = 0 ∧ (∀ j, s0.bx j = [])) (hp : PgOk P) (ho : okG P noF) (h : Ex cP P s0 σ b) :
    ∃ τ b', Ex c (lowP P) s0 τ b' ∧ ((τ.status = σ.status ∧ τ.tr = σ.tr ∧ (τ.status = 0 → ∀ j, τ.bx j = [])) ∨ (τ.status = 3 ∧ τ.tr <+: σ.tr)) := by
  have hl : LS noF s0 s0 := ⟨rfl, rfl, rfl, rfl, fun k q => (by cases q), fun k _ => h0.2 k⟩
  have hL := h.low c hp clean_none ho hl
  unfold lowP
  cases b with
  | true =>
    rcases hL.tail (clean_aftG hp clean_none) (g' := noF) (fun k q => by cases q) with ⟨τ, k1, k2⟩ | ⟨τ, k1, k2, k3⟩
    · exact ⟨τ, true, k2, .inl ⟨k1.status, k1.tr, fun _ j => k1.off j rfl⟩⟩
    · exact ⟨τ, false, k1, .inr ⟨k2, k3⟩⟩
  | false =>
    rcases hL.halt with ⟨τ, k1, k2, k3, _⟩ | ⟨τ, k1, k2, k3⟩
    · exact ⟨τ, false, k1, .inl ⟨k2, k3, fun q => absurd q (k1.status.2 rfl)⟩⟩
    · exact ⟨τ, false, k1, .inr ⟨k2, k3⟩⟩
end Go.Proofs.YthcjcjfgdgnljabDoor

namespace Go.Proofs.YthcjcjfgdgnljabDoor
set_option linter.unusedVariables false

/-- from i up to j stand the sentences P -/
def Good (T : ByteArray) (i j : Nat) (P : Pg) : Prop := i ≤ j ∧ ∀ F, j - i < F → Prog T F i j ∧ pgN T F i j = P
theorem Good.nil (T : ByteArray) (i : Nat) : Good T i i .nil := ⟨Nat.le_refl _, fun F hF => by
  obtain ⟨F, rfl⟩ : ∃ g, F = g + 1 := ⟨F - 1, by omega⟩
  exact ⟨.inl rfl, pgN_end⟩⟩
theorem Good.act {T : ByteArray} {i m j : Nat} {P : Pg} (hS : Simple T i m) (h : Good T m j P) : Good T i j (.act (acN T i) P) := by
  have hl := hS.line.1
  have hm := h.1
  refine ⟨by omega, fun F hF => ?_⟩
  obtain ⟨F, rfl⟩ : ∃ g, F = g + 1 := ⟨F - 1, by omega⟩
  obtain ⟨h1, h2⟩ := h.2 F (by omega)
  exact ⟨.inr ⟨m, .inl hS, h1⟩, by rw [pgN_simple hS (by omega), h2]⟩
theorem Good.ite {T : ByteArray} {i a b c j : Nat} {P Q R : Pg} (e : bt T i = 63) (ho : Opnd T (i + 1) a) (ha : bt T a = 123) (hp : Good T (a + 1) b P) (hb : bt T b = 125) (hb1 : bt T (b + 1) = 123) (hq : Good T (b + 2) c Q) (hc : bt T c = 125) (hr : Good T (c + 1) j R) :
    Good T i j (.ite (odN T (i + 1)) P Q R) := by
  have l1 := ho.lt
  have l2 := hp.1
  have l3 := hq.1
  have l4 := hr.1
  refine ⟨by omega, fun F hF => ?_⟩
  obtain ⟨F, rfl⟩ : ∃ g, F = g + 1 := ⟨F - 1, by omega⟩
  obtain ⟨p1, p2⟩ := hp.2 F (by omega)
  obtain ⟨q1, q2⟩ := hq.2 F (by omega)
  obtain ⟨r1, r2⟩ := hr.2 F (by omega)
  exact ⟨.inr ⟨c + 1, .inr (.inl ⟨e, a, b, c, ho, ha, p1, hb, hb1, q1, hc, rfl⟩), r1⟩, by rw [pgN_if (ifAt_of e ho ha p1 hb hb1 q1 hc) (by omega), p2, q2, r2]⟩
theorem Good.loop {T : ByteArray} {i a b j : Nat} {P R : Pg} (e : bt T i = 64) (ho : Opnd T (i + 1) a) (ha : bt T a = 123) (hp : Good T (a + 1) b P) (hb : bt T b = 125) (hr : Good T (b + 1) j R) :
    Good T i j (.loop (odN T (i + 1)) P R) := by
  have l1 := ho.lt
  have l2 := hp.1
  have l4 := hr.1
  refine ⟨by omega, fun F hF => ?_⟩
  obtain ⟨F, rfl⟩ : ∃ g, F = g + 1 := ⟨F - 1, by omega⟩
  obtain ⟨p1, p2⟩ := hp.2 F (by omega)
  obtain ⟨r1, r2⟩ := hr.2 F (by omega)
  exact ⟨.inr ⟨b + 1, .inr (.inr ⟨e, a, b, ho, ha, p1, hb, rfl⟩), r1⟩, by rw [pgN_loop (loopAt_of e ho ha p1 hb) (by omega), p2, r2]⟩
/-- the text R stands in T from i on -/
def Emb (T : ByteArray) (i : Nat) (R : ByteArray) : Prop := ∀ k, k < R.size → bt T (i + k) = bt R k
theorem bt_app (x y : ByteArray) (k : Nat) : bt (x ++ y) k = if k < x.size then bt x k else bt y (k - x.size) := by
  have hs : (x ++ y).size = x.size + y.size := ByteArray.size_append
  by_cases h : k < x.size
  · rw [if_pos h, bt_in (by omega), bt_in h]
    congr 1
    exact ByteArray.getElem_append_left h
  · rw [if_neg h]
    by_cases h2 : k < x.size + y.size
    · rw [bt_in (by omega), bt_in (by omega)]
      congr 1
      exact ByteArray.getElem_append_right (by omega)
    · rw [bt_out (by omega), bt_out (by omega)]
theorem Emb.left {T : ByteArray} {i : Nat} {x y : ByteArray} (h : Emb T i (x ++ y)) : Emb T i x := fun k hk => by
  have hs : (x ++ y).size = x.size + y.size := ByteArray.size_append
  rw [h k (by omega), bt_app, if_pos hk]
theorem Emb.right {T : ByteArray} {i : Nat} {x y : ByteArray} (h : Emb T i (x ++ y)) : Emb T (i + x.size) y := fun k hk => by
  have hs : (x ++ y).size = x.size + y.size := ByteArray.size_append
  have := h (x.size + k) (by omega)
  rw [bt_app, if_neg (by omega), show x.size + k - x.size = k by omega] at this
  rw [Nat.add_assoc]
  exact this
theorem Emb.self (T : ByteArray) : Emb T 0 T := fun k _ => by rw [Nat.zero_add]
/-- a piece of text, and what it says ahead of whatever -/
def Text (R : ByteArray) (C : Pg → Pg) : Prop := ∀ (T : ByteArray) (i : Nat), Emb T i R → ∀ {j : Nat} {Q : Pg}, Good T (i + R.size) j Q → Good T i j (C Q)
theorem Text.nil {R : ByteArray} (h : R.size = 0) : Text R id := fun T i _ j Q hQ => by rw [h, Nat.add_zero] at hQ; exact hQ
theorem Text.app {x y : ByteArray} {C D : Pg → Pg} (h : Text x C) (g : Text y D) : Text (x ++ y) (fun Q => C (D Q)) := fun T i hE j Q hQ => by
  have hs : (x ++ y).size = x.size + y.size := ByteArray.size_append
  rw [hs, ← Nat.add_assoc] at hQ
  exact h T i hE.left (g T _ hE.right hQ)
theorem Text.good {R : ByteArray} {C : Pg → Pg} (h : Text R C) {T : ByteArray} {i : Nat} (hE : Emb T i R) : Good T i (i + R.size) (C .nil) := h T i hE (Good.nil T _)
/-- n bytes of s from a on stand in T from i on -/
def Cp (s : ByteArray) (a : Nat) (T : ByteArray) (i n : Nat) : Prop := ∀ k, k < n → bt T (i + k) = bt s (a + k)
theorem size_ext {s : ByteArray} {a b : Nat} (h : a ≤ b) (hb : b ≤ s.size) : (s.extract a b).size = b - a := by
  rw [ByteArray.size_extract]
  omega
theorem bt_ext {s : ByteArray} {a b k : Nat} (hb : b ≤ s.size) (hk : k < b - a) : bt (s.extract a b) k = bt s (a + k) := by
  rw [bt_in (by rw [ByteArray.size_extract]; omega), bt_in (by omega)]
  congr 1
  exact ByteArray.getElem_extract _
theorem Emb.cp {s T : ByteArray} {a b i : Nat} (h : a ≤ b) (hb : b ≤ s.size) (hE : Emb T i (s.extract a b)) : Cp s a T i (b - a) := fun k hk => by
  rw [hE k (by rw [size_ext h hb]; exact hk), bt_ext hb hk]
section
variable {s T : ByteArray} {a i n : Nat}
theorem Cp.eq (h : Cp s a T i n) {k : Nat} (hk : k < n) : bt T (i + k) = bt s (a + k) := h k hk
theorem Cp.opnd (h : Cp s a T i n) {x y : Nat} (ho : Opnd s (a + x) (a + y)) (hy : y ≤ n) : Opnd T (i + x) (i + y) := by
  have hl := ho.lt
  rcases ho with ⟨h1, h2⟩ | ⟨h1, h2, h3⟩
  · exact .inl ⟨by rw [h.eq (by omega)]; exact h1, by omega⟩
  · refine .inr ⟨by omega, by omega, fun k k1 k2 => ?_⟩
    have := h3 (a + (k - i)) (by omega) (by omega)
    rw [← h.eq (by omega), show i + (k - i) = k by omega] at this
    exact this
theorem Cp.dec (h : Cp s a T i n) {x : Nat} : ∀ {m : Nat}, x + m ≤ n → decN T (i + x) m = decN s (a + x) m
  | 0, _ => rfl
  | m + 1, hm => by
    show 10 * decN T (i + x) m + (bt T (i + x + m) - 48) = 10 * decN s (a + x) m + (bt s (a + x + m) - 48)
    rw [Cp.dec h (by omega), Nat.add_assoc i, Nat.add_assoc a, h.eq (by omega)]
theorem Cp.od (h : Cp s a T i n) {x y : Nat} (ho : Opnd s (a + x) (a + y)) (hy : y < n) (hys : a + y < s.size) (hyt : i + y < T.size) (hd : digitN (bt s (a + y)) = false) : odN T (i + x) = odN s (a + x) := by
  have hl := ho.lt
  unfold odN
  rw [bopN_eq ho hys hd, bopN_eq (h.opnd ho (by omega)) hyt (by rw [h.eq hy]; exact hd), h.eq (by omega), show i + y - (i + x) = a + y - (a + x) by omega, h.dec (by omega)]
end
/-- a sentence without braces, copied -/
theorem Cp.simple {s T : ByteArray} {a m i : Nat} (h : Cp s a T i (m - a)) (hS : Simple s a m) : Simple T i (i + (m - a)) ∧ acN T i = acN s a := by
  have e0 : ∀ {k x : Nat}, k < m - a → bt s (a + k) = x → bt T (i + k) = x := fun hk e => by rw [h.eq hk]; exact e
  have es : ∀ {k : Nat}, k < m - a → smallN (bt s (a + k)) = true → smallN (bt T (i + k)) = true := fun hk e => by rw [h.eq hk]; exact e
  have eg : ∀ {k : Nat}, k < m - a → greatN (bt s (a + k)) = true → greatN (bt T (i + k)) = true := fun hk e => by rw [h.eq hk]; exact e
  have z1 := fun (hk : 0 < m - a) => (show bt T i = bt s a from h.eq hk)
  have lt : ∀ {T : ByteArray} {k x : Nat}, bt T k = x → x ≠ 0 → k < T.size := fun h0 h1 => byte_in h0 h1
  rcases hS with q | q | q | q | q | q | q | q | q
  · have q' := q
    obtain ⟨h1, h2, h3, h4, h5, hm⟩ := q
    have k0 := z1 (by omega)
    have q2 : KSize T i (i + (m - a)) := ⟨by rw [k0]; exact h1, e0 (by omega) h2, e0 (by omega) h3, eg (by omega) h4, e0 (by omega) h5, by omega⟩
    exact ⟨.inl q2, by rw [acN_size q', acN_size q2, k0, h.eq (k := 3) (by omega)]⟩
  · have q' := q
    obtain ⟨h1, h2, h3, h4, k, h5, h6, h7, hm⟩ := q
    obtain ⟨y, rfl⟩ : ∃ y, k = a + y := ⟨k - a, by have := h5.lt; omega⟩
    have l5 := h5.lt
    have k0 := z1 (by omega)
    have g6 := e0 (by omega) h6
    have q2 : KLoad T i (i + (m - a)) := ⟨by rw [k0]; exact h1, e0 (by omega) h2, eg (by omega) h3, e0 (by omega) h4, i + y, h.opnd h5 (by omega), g6, e0 (k := y + 1) (by omega) h7, by omega⟩
    exact ⟨.inr (.inl q2), by rw [acN_load q', acN_load q2, k0, h.eq (k := 2) (by omega), h.od h5 (by omega) (lt h6 (by decide)) (lt g6 (by decide)) (by rw [h6]; rfl)]⟩
  · obtain ⟨h1, h2, k, h5, h6, hm⟩ := q
    obtain ⟨y, rfl⟩ : ∃ y, k = a + y := ⟨k - a, by have := h5.lt; omega⟩
    have l5 := h5.lt
    have k0 := z1 (by omega)
    have g6 := e0 (by omega) h6
    have g1 : smallN (bt T i) = true := by rw [k0]; exact h1
    have g5 := h.opnd h5 (by omega)
    exact ⟨.inr (.inr (.inl ⟨g1, e0 (by omega) h2, i + y, g5, g6, by omega⟩)), by rw [acN_set h1 h5 h6, acN_set g1 g5 g6, k0, h.od h5 (by omega) (lt h6 (by decide)) (lt g6 (by decide)) (by rw [h6]; rfl)]⟩
  · obtain ⟨h1, h2, k, l, h5, h6, h7, h8, hm⟩ := q
    obtain ⟨y, rfl⟩ : ∃ y, k = a + y := ⟨k - a, by have := h5.lt; omega⟩
    have l5 := h5.lt
    obtain ⟨z, rfl⟩ : ∃ z, l = a + z := ⟨l - a, by have := h7.lt; omega⟩
    have l7 := h7.lt
    have k0 := z1 (by omega)
    have ky := h.eq (k := y) (by omega)
    have g8 := e0 (by omega) h8
    have g1 : smallN (bt T i) = true := by rw [k0]; exact h1
    have g5 := h.opnd h5 (by omega)
    have g6 : isOp (bt T (i + y)) := by rw [ky]; exact h6
    have g7 := h.opnd (x := y + 1) h7 (by omega)
    have hks : a + y < s.size := byte_in rfl (by unfold isOp at h6; omega)
    have hkt : i + y < T.size := byte_in rfl (by unfold isOp at g6; omega)
    have hdk : digitN (bt s (a + y)) = false := by
      unfold isOp at h6
      rcases h6 with q | q | q | q | q <;> rw [q] <;> rfl
    exact ⟨.inr (.inr (.inr (.inl ⟨g1, e0 (by omega) h2, i + y, i + z, g5, g6, g7, g8, by omega⟩))), by rw [acN_bin h1 h5 h6 hks, acN_bin g1 g5 g6 hkt, k0, ky, h.od h5 (by omega) hks hkt hdk, show odN T (i + y + 1) = odN s (a + y + 1) from h.od (x := y + 1) h7 (by omega) (lt h8 (by decide)) (lt g8 (by decide)) (by rw [h8]; rfl)]⟩
  · obtain ⟨h1, h2, k, l, h5, h6, h7, h8, h9, hm⟩ := q
    obtain ⟨y, rfl⟩ : ∃ y, k = a + y := ⟨k - a, by have := h5.lt; omega⟩
    have l5 := h5.lt
    obtain ⟨z, rfl⟩ : ∃ z, l = a + z := ⟨l - a, by have := h8.lt; omega⟩
    have l8 := h8.lt
    have k0 := z1 (by omega)
    have g6 := e0 (by omega) h6
    have g9 := e0 (by omega) h9
    have g1 : greatN (bt T i) = true := by rw [k0]; exact h1
    have g2 := e0 (k := 1) (by omega) h2
    have g5 := h.opnd h5 (by omega)
    have g8 := h.opnd (x := y + 2) h8 (by omega)
    exact ⟨.inr (.inr (.inr (.inr (.inl ⟨g1, g2, i + y, i + z, g5, g6, e0 (k := y + 1) (by omega) h7, g8, g9, by omega⟩)))), by rw [acN_store h1 h2 h5 h6, acN_store g1 g2 g5 g6, k0, h.od h5 (by omega) (lt h6 (by decide)) (lt g6 (by decide)) (by rw [h6]; rfl), show odN T (i + y + 2) = odN s (a + y + 2) from h.od (x := y + 2) h8 (by omega) (lt h9 (by decide)) (lt g9 (by decide)) (by rw [h9]; rfl)]⟩
  · have q' := q
    obtain ⟨h1, h2, h3, k, h5, h6, h7, hm⟩ := q
    obtain ⟨y, rfl⟩ : ∃ y, k = a + y := ⟨k - a, by have := h5.lt; omega⟩
    have l5 := h5.lt
    have k0 := z1 (by omega)
    have g6 := e0 (by omega) h6
    have q2 : KMake T i (i + (m - a)) := ⟨by rw [k0]; exact h1, e0 (by omega) h2, e0 (by omega) h3, i + y, h.opnd h5 (by omega), g6, e0 (k := y + 1) (by omega) h7, by omega⟩
    exact ⟨.inr (.inr (.inr (.inr (.inr (.inl q2))))), by rw [acN_make q', acN_make q2, k0, h.od h5 (by omega) (lt h6 (by decide)) (lt g6 (by decide)) (by rw [h6]; rfl)]⟩
  · have q' := q
    obtain ⟨h1, h2, h3, h4, hm⟩ := q
    have k0 := z1 (by omega)
    have q2 : KMove T i (i + (m - a)) := ⟨by rw [k0]; exact h1, e0 (by omega) h2, eg (by omega) h3, e0 (by omega) h4, by omega⟩
    exact ⟨.inr (.inr (.inr (.inr (.inr (.inr (.inl q2)))))), by rw [acN_move q', acN_move q2, k0, h.eq (k := 2) (by omega)]⟩
  · obtain ⟨h1, k, h5, h6, hm⟩ := q
    obtain ⟨y, rfl⟩ : ∃ y, k = a + y := ⟨k - a, by have := h5.lt; omega⟩
    have l5 := h5.lt
    have k0 := z1 (by omega)
    have g6 := e0 (by omega) h6
    have g1 : bt T i = 33 := by rw [k0]; exact h1
    exact ⟨.inr (.inr (.inr (.inr (.inr (.inr (.inr (.inl ⟨g1, i + y, h.opnd h5 (by omega), g6, by omega⟩))))))), by rw [acN_print h1, acN_print g1, h.od h5 (by omega) (lt h6 (by decide)) (lt g6 (by decide)) (by rw [h6]; rfl)]⟩
  · obtain ⟨h1, h2, h3, hm⟩ := q
    have k0 := z1 (by omega)
    have g1 : bt T i = 126 := by rw [k0]; exact h1
    exact ⟨.inr (.inr (.inr (.inr (.inr (.inr (.inr (.inr ⟨g1, eg (k := 1) (by omega) h2, e0 (by omega) h3, by omega⟩))))))), by rw [acN_drop h1, acN_drop g1, h.eq (k := 1) (by omega)]⟩
/-- a sentence without braces, wherever it stands -/
theorem Text.simple {s : ByteArray} {a m : Nat} (hS : Simple s a m) : Text (s.extract a m) (fun Q => .act (acN s a) Q) := fun T i hE j Q hQ => by
  have hl := hS.line
  have hc := hE.cp (Nat.le_of_lt hl.1) hl.2.1
  obtain ⟨h1, h2⟩ := hc.simple hS
  rw [size_ext (Nat.le_of_lt hl.1) hl.2.1] at hQ
  have := Good.act h1 hQ
  rw [h2] at this
  exact this
/-- the end of a block -/
def drB (k : Nat) : ByteArray := ⟨#[126, UInt8.ofNat (65 + k), 59]⟩
theorem Text.drop {k : Nat} (hk : k < 26) : Text (drB k) (fun Q => .act (.drop k) Q) := fun T i hE j Q hQ => by
  have b0 : bt (drB k) 0 = 126 := rfl
  have b1 : bt (drB k) 1 = 65 + k := by
    show (UInt8.ofNat (65 + k)).toNat = 65 + k
    exact Nat.mod_eq_of_lt (by omega)
  have b2 : bt (drB k) 2 = 59 := rfl
  have hsz : (drB k).size = 3 := rfl
  have e0 : bt T i = 126 := (hE 0 (by rw [hsz]; omega)).trans b0
  have e1 : bt T (i + 1) = 65 + k := (hE 1 (by rw [hsz]; omega)).trans b1
  have e2 : bt T (i + 2) = 59 := (hE 2 (by rw [hsz]; omega)).trans b2
  have hg : greatN (bt T (i + 1)) = true := by rw [e1]; simp [greatN]; omega
  have hK : KDrop T i (i + 3) := ⟨e0, hg, e2, rfl⟩
  have hQ' : Good T (i + 3) j Q := hQ
  have := Good.act (.inr (.inr (.inr (.inr (.inr (.inr (.inr (.inr hK)))))))) hQ'
  rw [acN_drop e0, e1, show 65 + k - 65 = k by omega] at this
  exact this
def drsB : List Nat → ByteArray
  | [] => ⟨#[]⟩
  | k :: l => drB k ++ drsB l
theorem Text.drops : ∀ {l : List Nat}, (∀ k, k ∈ l → k < 26) → Text (drsB l) (drP l)
  | [], _ => Text.nil rfl
  | k :: l, h => (Text.drop (h k List.mem_cons_self)).app (Text.drops (fun j hj => h j (List.mem_cons_of_mem _ hj)))
end Go.Proofs.YthcjcjfgdgnljabDoor
