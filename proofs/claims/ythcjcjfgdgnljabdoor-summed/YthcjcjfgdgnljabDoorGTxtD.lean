/-
  LowD, TxtC, TxtD: one behind the other.
-/
import Derived.Test.YthcjcjfgdgnljabDoorGLowC
import Derived.Test.YthcjcjfgdgnljabDoorGTxtB
import Derived.Test.YthcjcjfgdgnljabDoorGMacB
namespace Go.Proofs.YthcjcjfgdgnljabDoor
set_option linter.unusedVariables false

theorem aft_seq : ∀ (P Q : Pg) (f : Nat → Bool), aftG (seqP P Q) f = aftG Q (aftG P f)
  | .nil, Q, f => rfl
  | .act a r, Q, f => by rw [seqP, aftG_act, aftG_act]; exact aft_seq r Q _
  | .ite o p q r, Q, f => by rw [seqP, aftG_ite, aftG_ite]; exact aft_seq r Q _
  | .loop o p r, Q, f => by rw [seqP, aftG_loop, aftG_loop]; exact aft_seq r Q _
theorem ok_seq : ∀ (P Q : Pg) (f : Nat → Bool), okG P f → okG Q (aftG P f) → okG (seqP P Q) f
  | .nil, Q, f, h1, h2 => h2
  | .act a r, Q, f, h1, h2 => by rw [okG_act] at h1; rw [aftG_act] at h2; rw [seqP, okG_act]; exact ⟨h1.1, ok_seq r Q _ h1.2 h2⟩
  | .ite o p q r, Q, f, h1, h2 => by rw [okG_ite] at h1; rw [aftG_ite] at h2; rw [seqP, okG_ite]; exact ⟨h1.1, h1.2.1, ok_seq r Q _ h1.2.2 h2⟩
  | .loop o p r, Q, f, h1, h2 => by rw [okG_loop] at h1; rw [aftG_loop] at h2; rw [seqP, okG_loop]; exact ⟨h1.1, ok_seq r Q _ h1.2 h2⟩
theorem low_seq : ∀ (P Q : Pg) (f : Nat → Bool), lowG (seqP P Q) f = seqP (lowG P f) (lowG Q (aftG P f))
  | .nil, Q, f => rfl
  | .act a r, Q, f => by
    rw [seqP, lowG, lowG, aftG_act, low_seq r Q]
    unfold ownP
    split <;> rfl
  | .ite o p q r, Q, f => by rw [seqP, lowG, lowG, aftG_ite, low_seq r Q]; rfl
  | .loop o p r, Q, f => by
    rw [seqP, lowG, lowG, aftG_loop, low_seq r Q]
    generalize minL f (iterF (aftG p) 27 f) = l
    induction l with
    | nil => rfl
    | cons k l ih => rw [drP, drP, seqP, ih]
theorem seq_nil : ∀ (P : Pg), seqP P .nil = P
  | .nil => rfl
  | .act a r => by rw [seqP, seq_nil r]
  | .ite o p q r => by rw [seqP, seq_nil r]
  | .loop o p r => by rw [seqP, seq_nil r]
/-- f without the boxes of a list -/
def subL (f : Nat → Bool) : List Nat → Nat → Bool
  | [] => f
  | k :: l => subL (updB f k false) l
theorem subL_at : ∀ (l : List Nat) (f : Nat → Bool) (j : Nat), subL f l j = if j ∈ l then false else f j
  | [], f, j => by simp [subL]
  | k :: l, f, j => by
    rw [subL, subL_at l]
    unfold updB
    by_cases e : j = k
    · subst e; simp
    · simp [e]
theorem subL_min {f g : Nat → Bool} (hc : Clean f) (hs : Sub g f) : subL f (minL f g) = g := by
  funext j
  rw [subL_at]
  by_cases q : j ∈ minL f g
  · rw [if_pos q]; exact (mem_minL.1 q).2.2.symm
  · rw [if_neg q]
    rw [mem_minL] at q
    cases hf : f j
    · cases hg : g j
      · rfl
      · rw [hs j hg] at hf; cases hf
    · have h26 : j < 26 := Nat.lt_of_not_le (fun q2 => by rw [hc j q2] at hf; cases hf)
      cases hg : g j
      · exact absurd ⟨h26, hf, hg⟩ q
      · rfl
theorem aft_dr : ∀ (l : List Nat) (Q : Pg) (f : Nat → Bool), aftG (drP l Q) f = aftG Q (subL f l)
  | [], Q, f => rfl
  | k :: l, Q, f => by rw [drP, aftG_act]; exact aft_dr l Q _
theorem ok_dr : ∀ (l : List Nat) (Q : Pg) (f : Nat → Bool), l.Nodup → (∀ k, k ∈ l → f k = true) → okG Q (subL f l) → okG (drP l Q) f
  | [], Q, f, _, _, h => h
  | k :: l, Q, f, h1, h2, h => by
    rw [List.nodup_cons] at h1
    rw [drP, okG_act]
    refine ⟨fun b hb => ?_, ok_dr l Q _ h1.2 (fun j hj => ?_) h⟩
    · have hb' : some k = some b := hb
      injection hb' with e
      rw [← e]
      exact h2 k List.mem_cons_self
    · show updB f k false j = true
      unfold updB
      rw [if_neg (fun e => h1.1 (by rw [← e]; exact hj))]
      exact h2 j (List.mem_cons_of_mem _ hj)
theorem low_dr : ∀ (l : List Nat) (Q : Pg) (f : Nat → Bool), lowG (drP l Q) f = drP l (lowG Q (subL f l))
  | [], Q, f => rfl
  | k :: l, Q, f => by
    rw [drP, lowG]
    show Pg.act (.drop k) (lowG (drP l Q) (updB f k false)) = _
    rw [low_dr l]
    rfl
theorem full_min {f g : Nat → Bool} : ∀ k, k ∈ minL f g → f k = true := fun k hk => (mem_minL.1 hk).2.1
theorem own_cases {a : Ac} {f : Nat → Bool} {b : Nat} (h : ownA a f = some b) : f b = true ∧ ((∃ o, a = .make b o) ∨ (∃ d, a = .move b d ∧ b ≠ d)) := by
  cases a <;> first | (cases h; done) | skip
  · rename_i k o
    have h' : (if f k = true then some k else none) = some b := h
    split at h'
    · rename_i q; injection h' with e; subst e; exact ⟨q, .inl ⟨o, rfl⟩⟩
    · cases h'
  · rename_i k d
    have h' : (if k ≠ d ∧ f k = true then some k else none) = some b := h
    split at h'
    · rename_i q; injection h' with e; subst e; exact ⟨q.2, .inr ⟨d, rfl, q.1⟩⟩
    · cases h'
theorem own_gone {a : Ac} {f : Nat → Bool} {b : Nat} (h : ownA a f = some b) : aftA a (updB f b false) = aftA a f ∧ ownA a (updB f b false) = none ∧ (∀ k, useA a = some k → f k = true → updB f b false k = true) := by
  have hbb : updB f b false b = false := by unfold updB; rw [if_pos rfl]
  rcases own_cases h with ⟨hf, ⟨o, rfl⟩ | ⟨d, rfl, hne⟩⟩
  · refine ⟨?_, ?_, fun k hk => by cases hk⟩
    · show updB (updB f b false) b true = updB f b true
      funext j
      unfold updB
      split <;> rfl
    · show (if updB f b false b = true then some b else none) = none
      rw [hbb]; rfl
  · have hd : updB f b false d = f d := by unfold updB; rw [if_neg (fun e => hne e.symm)]
    refine ⟨?_, ?_, fun k hk hfk => ?_⟩
    · show (if b = d then updB f b false else updB (updB (updB f b false) b (updB f b false d)) d false) = (if b = d then f else updB (updB f b (f d)) d false)
      rw [if_neg hne, if_neg hne, hd]
      funext j
      unfold updB
      split
      · rfl
      · split <;> rfl
    · show (if b ≠ d ∧ updB f b false b = true then some b else none) = none
      rw [hbb, if_neg (by simp)]
    · have hk' : some d = some k := hk
      injection hk' with e
      rw [← e, hd, e]
      exact hfk
/-- just the same is full behind it; no box is used that is not full; and it stays as it is -/
theorem low_same : ∀ (P : Pg) {f : Nat → Bool}, PgOk P → Clean f → okG P f → aftG (lowG P f) f = aftG P f ∧ okG (lowG P f) f ∧ lowG (lowG P f) f = lowG P f
  | .nil, f, hp, hf, ho => ⟨rfl, trivial, rfl⟩
  | .act a r, f, hp, hf, ho => by
    rw [okG_act] at ho
    obtain ⟨i1, i2, i3⟩ := low_same r hp.2 (clean_aftA hp.1 hf) ho.2
    rw [lowG, aftG_act]
    cases hoa : ownA a f with
    | none =>
      have e : ownP a f (lowG r (aftA a f)) = .act a (lowG r (aftA a f)) := by unfold ownP; rw [hoa]
      rw [e]
      refine ⟨by rw [aftG_act, i1], by rw [okG_act]; exact ⟨ho.1, i2⟩, ?_⟩
      rw [lowG, i3]
      exact e
    | some b =>
      obtain ⟨g1, g2, g3⟩ := own_gone hoa
      have hfb := (own_cases hoa).1
      have e : ownP a f (lowG r (aftA a f)) = .act (.drop b) (.act a (lowG r (aftA a f))) := by unfold ownP; rw [hoa]
      have hd : aftA (.drop b) f = updB f b false := rfl
      rw [e]
      refine ⟨by rw [aftG_act, aftG_act, hd, g1, i1], ?_, ?_⟩
      · rw [okG_act, okG_act, hd, g1]
        exact ⟨fun k hk => by have hk' : some b = some k := hk; injection hk' with e; rw [← e]; exact hfb, fun k hk => g3 k hk (ho.1 k hk), i2⟩
      · rw [lowG]
        show Pg.act (.drop b) (lowG (.act a (lowG r (aftA a f))) (updB f b false)) = _
        rw [lowG, g1, i3]
        unfold ownP
        rw [g2]
  | .ite o p q r, f, hp, hf, ho => by
    rw [okG_ite] at ho
    obtain ⟨p1, p2, p3⟩ := low_same p hp.2.1 hf ho.1
    obtain ⟨q1, q2, q3⟩ := low_same q hp.2.2.1 hf ho.2.1
    have cp := clean_aftG hp.2.1 hf
    have cq := clean_aftG hp.2.2.1 hf
    have sp := Sub.left (aftG p f) (aftG q f)
    have sq := Sub.right (aftG p f) (aftG q f)
    have hcl : Clean (bothF (aftG p f) (aftG q f)) := cp.both
    obtain ⟨r1, r2, r3⟩ := low_same r hp.2.2.2 hcl ho.2.2
    rw [lowG, aftG_ite]
    have ep : aftG (seqP (lowG p f) (drP (minL (aftG p f) (bothF (aftG p f) (aftG q f))) .nil)) f = bothF (aftG p f) (aftG q f) := by rw [aft_seq, p1, aft_dr, subL_min cp sp]; rfl
    have eq : aftG (seqP (lowG q f) (drP (minL (aftG q f) (bothF (aftG p f) (aftG q f))) .nil)) f = bothF (aftG p f) (aftG q f) := by rw [aft_seq, q1, aft_dr, subL_min cq sq]; rfl
    have ebb : bothF (bothF (aftG p f) (aftG q f)) (bothF (aftG p f) (aftG q f)) = bothF (aftG p f) (aftG q f) := both_sub (Sub.refl _)
    have lp : lowG (seqP (lowG p f) (drP (minL (aftG p f) (bothF (aftG p f) (aftG q f))) .nil)) f = seqP (lowG p f) (drP (minL (aftG p f) (bothF (aftG p f) (aftG q f))) .nil) := by rw [low_seq, p3, low_dr]; rfl
    have lq : lowG (seqP (lowG q f) (drP (minL (aftG q f) (bothF (aftG p f) (aftG q f))) .nil)) f = seqP (lowG q f) (drP (minL (aftG q f) (bothF (aftG p f) (aftG q f))) .nil) := by rw [low_seq, q3, low_dr]; rfl
    refine ⟨?_, ?_, ?_⟩
    · rw [aftG_ite, ep, eq, ebb, r1]
    · rw [okG_ite, ep, eq, ebb]
      exact ⟨ok_seq _ _ _ p2 (by rw [p1]; exact ok_dr _ _ _ (minL_nodup _ _) full_min trivial), ok_seq _ _ _ q2 (by rw [q1]; exact ok_dr _ _ _ (minL_nodup _ _) full_min trivial), r2⟩
    · rw [lowG, ep, eq, ebb, minL_self, drP, lp, lq, seq_nil, seq_nil, r3]
  | .loop o p r, f, hp, hf, ho => by
    rw [okG_loop] at ho
    rw [lowG, aftG_loop]
    have hsub := iter_sub (T := aftG p) 27 f
    have hcl := clean_iter (T := aftG p) 27 hf
    have hfix : Sub (iterF (aftG p) 27 f) (aftG p (iterF (aftG p) 27 f)) := iter_fix 27 f hf (by have := card_le f 26; omega)
    generalize iterF (aftG p) 27 f = H at *
    obtain ⟨p1, p2, p3⟩ := low_same p hp.2.1 hcl ho.1
    obtain ⟨r1, r2, r3⟩ := low_same r hp.2.2 hcl ho.2
    have cp := clean_aftG hp.2.1 hcl
    have ep : aftG (seqP (lowG p H) (drP (minL (aftG p H) H) .nil)) H = H := by rw [aft_seq, p1, aft_dr, subL_min cp hfix]; rfl
    have ei : iterF (aftG (seqP (lowG p H) (drP (minL (aftG p H) H) .nil))) 27 H = H := iter_self (by rw [ep]; exact Sub.refl _) 27
    have lp : lowG (seqP (lowG p H) (drP (minL (aftG p H) H) .nil)) H = seqP (lowG p H) (drP (minL (aftG p H) H) .nil) := by rw [low_seq, p3, low_dr]; rfl
    refine ⟨?_, ?_, ?_⟩
    · rw [aft_dr, subL_min hf hsub, aftG_loop, ei, r1]
    · refine ok_dr _ _ _ (minL_nodup _ _) full_min ?_
      rw [subL_min hf hsub, okG_loop, ei]
      exact ⟨ok_seq _ _ _ p2 (by rw [p1]; exact ok_dr _ _ _ (minL_nodup _ _) full_min trivial), r2⟩
    · rw [low_dr, subL_min hf hsub, lowG, ei, minL_self, ep, minL_self, drP, drP, lp, seq_nil, r3]
/-- what Lower makes is let by, nothing is full behind it, and it stays as it is -/
theorem lowP_same {P : Pg} (hp : PgOk P) (ho : okG P noF) : aftG (lowP P) noF = noF ∧ okG (lowP P) noF ∧ lowP (lowP P) = lowP P := by
  have cn : Clean noF := clean_none
  obtain ⟨p1, p2, p3⟩ := low_same P hp cn ho
  have cp := clean_aftG hp cn
  have hs : Sub noF (aftG P noF) := fun k q => by cases q
  have e1 : aftG (lowP P) noF = noF := by unfold lowP; rw [aft_seq, p1, aft_dr, subL_min cp hs]; rfl
  refine ⟨e1, ?_, ?_⟩
  · exact ok_seq _ _ _ p2 (by rw [p1]; exact ok_dr _ _ _ (minL_nodup _ _) full_min trivial)
  · have e2 : lowG (lowP P) noF = lowP P := by
      show lowG (seqP _ _) noF = _
      rw [low_seq, p3, low_dr]
      rfl
    show seqP (lowG (lowP P) noF) (drP (minL (aftG (lowP P) noF) noF) .nil) = _
    rw [e2, e1, minL_self, drP, seq_nil]
/-- Play is never crowded -/
theorem actP_room {a : Ac} {σ : St} (h3 : σ.status ≠ 3) : (act cP a σ).1.status ≠ 3 := by
  cases a <;> simp only [act]
  all_goals (repeat' split) <;> first | exact h3 | (simp [ends]; done) | (rename_i q; cases q)
theorem stpP_room {a : Ac} {σ : St} (h3 : σ.status ≠ 3) : (stp cP a σ).1.status ≠ 3 := by
  unfold stp
  split
  · split
    · simp [tire]
    · exact actP_room (σ := due σ) h3
  · exact actP_room h3
theorem Ex.roomP {P : Pg} {σ σ' : St} {b : Bool} (h : Ex cP P σ σ' b) : σ.status ≠ 3 → σ'.status ≠ 3 := by
  induction h with
  | nil σ => exact id
  | @stop a r σ σ' h => exact fun q => by have := stpP_room (a := a) q; rw [h] at this; exact this
  | @go a r σ σ1 σ2 b h hr ih => exact fun q => ih (by have := stpP_room (a := a) q; rw [h] at this; exact this)
  | iteTired h => exact fun q => by simp [tire]
  | iteStop h hp ih => exact fun q => ih q
  | iteGo h hp hr ih1 ih2 => exact fun q => ih2 (ih1 q)
  | loopTired h => exact fun q => by simp [tire]
  | loopEnd h h0 hr ih => exact fun q => ih q
  | loopStop h h0 hp ih => exact fun q => ih q
  | loopGo h h0 hp hr ih1 ih2 => exact fun q => ih2 (ih1 q)
/-- what Lower makes plays as the program does -/
theorem low_play {P : Pg} {σ : St} {b : Bool} (s0 : St) (h0 : s0.status = 0 ∧ (∀ j, s0.bx j = [])) (hp : PgOk P) (ho : okG P noF) (h : Ex cP P s0 σ b) : ∃ τ b', Ex cP (lowP P) s0 τ b' ∧ τ.status = σ.status ∧ τ.tr = σ.tr := by
  obtain ⟨τ, b', h1, h2 | h2⟩ := low_top cP s0 h0 hp ho h
  · exact ⟨τ, b', h1, h2.1, h2.2.1⟩
  · exact absurd h2.1 (h1.roomP (by rw [h0.1]; decide))
end Go.Proofs.YthcjcjfgdgnljabDoor

namespace Go.Proofs.YthcjcjfgdgnljabDoor
set_option linter.unusedVariables false

/-- would a block be lost? -/
def ownT (s : ByteArray) (i : Nat) (f : Nat → Bool) : Bool := greatN (bt s i) && (bt s (i + 1) == 61) && (bt s (i + 2) != bt s i) && f (bt s i - 65)
/-- what Lower makes of the sentences from i up to j, f being full ahead -/
def lowT (s : ByteArray) : Nat → Nat → Nat → (Nat → Bool) → ByteArray
  | 0, _, _, _ => ⟨#[]⟩
  | F + 1, i, j, f => if i < j then
      (if bt s i = 63 then s.extract i (bopN s (i + 1) + 1) ++ lowT s F (bopN s (i + 1) + 1) (bbrN s (bopN s (i + 1)) - 1) f ++ drsB (minL (alongF s F (bopN s (i + 1) + 1) (bbrN s (bopN s (i + 1)) - 1) f) (afterF (alongF s F) s i f))
          ++ s.extract (bbrN s (bopN s (i + 1)) - 1) (bbrN s (bopN s (i + 1)) + 1) ++ lowT s F (bbrN s (bopN s (i + 1)) + 1) (bbrN s (bbrN s (bopN s (i + 1))) - 1) f ++ drsB (minL (alongF s F (bbrN s (bopN s (i + 1)) + 1) (bbrN s (bbrN s (bopN s (i + 1))) - 1) f) (afterF (alongF s F) s i f))
          ++ s.extract (bbrN s (bbrN s (bopN s (i + 1))) - 1) (behN s i)
       else if bt s i = 64 then drsB (minL f (afterF (alongF s F) s i f)) ++ s.extract i (bopN s (i + 1) + 1) ++ lowT s F (bopN s (i + 1) + 1) (bbrN s (bopN s (i + 1)) - 1) (afterF (alongF s F) s i f)
          ++ drsB (minL (alongF s F (bopN s (i + 1) + 1) (bbrN s (bopN s (i + 1)) - 1) (afterF (alongF s F) s i f)) (afterF (alongF s F) s i f)) ++ s.extract (bbrN s (bopN s (i + 1)) - 1) (behN s i)
       else (if ownT s i f = true then drB (bt s i - 65) else ⟨#[]⟩) ++ s.extract i (behN s i))
      ++ lowT s F (behN s i) j (afterF (alongF s F) s i f) else ⟨#[]⟩
/-- and at the end all blocks end -/
def lowTT (s : ByteArray) : ByteArray := lowT s (s.size + 1) 0 s.size noF ++ drsB (minL (alongF s (s.size + 1) 0 s.size noF) noF)

theorem own_text {s : ByteArray} {i m : Nat} (hS : Simple s i m) (f : Nat → Bool) : ownA (acN s i) f = if ownT s i f = true then some (bt s i - 65) else none := by
  have sm : smallN (bt s i) = true → ownT s i f = false := fun h => by
    have := (sm_ne h).2.2
    unfold ownT
    rw [this]
    rfl
  have ng : greatN (bt s i) = false → ownT s i f = false := fun h => by unfold ownT; rw [h]; rfl
  rcases hS with q | q | q | q | q | q | q | q | q
  · rw [acN_size q, sm q.1]; rfl
  · rw [acN_load q, sm q.1]; rfl
  · obtain ⟨h1, h2, k, h5, h6, hm⟩ := q
    rw [acN_set h1 h5 h6, sm h1]; rfl
  · obtain ⟨h1, h2, k, l, h5, h6, h7, h8, hm⟩ := q
    rw [acN_bin h1 h5 h6 (byte_in rfl (by unfold isOp at h6; omega)), sm h1]; rfl
  · obtain ⟨h1, h2, k, l, h5, h6, h7, h8, h9, hm⟩ := q
    rw [acN_store h1 h2 h5 h6, show ownT s i f = false by unfold ownT; rw [h2]; simp]; rfl
  · have h1 := q.1
    have h2 := q.2.1
    have h3 := q.2.2.1
    rw [acN_make q]
    have hne : (bt s (i + 2) != bt s i) = true := bne_iff_ne.2 (fun e => by rw [← e, h3] at h1; simp [greatN] at h1)
    have e : ownT s i f = f (bt s i - 65) := by unfold ownT; rw [h1, h2, hne]; simp
    rw [e]
    rfl
  · have h1 := q.1
    have h2 := q.2.1
    have h3 := q.2.2.1
    rw [acN_move q]
    show (if bt s i - 65 ≠ bt s (i + 2) - 65 ∧ f (bt s i - 65) = true then some (bt s i - 65) else none) = _
    unfold ownT
    rw [h1, h2]
    by_cases e : bt s (i + 2) = bt s i
    · rw [e]
      simp
    · have hne : (bt s (i + 2) != bt s i) = true := bne_iff_ne.2 e
      have hne2 : bt s i - 65 ≠ bt s (i + 2) - 65 := fun q2 => e (by simp [greatN] at h1 h3; omega)
      rw [hne]
      simp [hne2]
  · rw [acN_print q.1, ng (by rw [q.1]; rfl)]; rfl
  · rw [acN_drop q.1, ng (by rw [q.1]; rfl)]; rfl
theorem text_like {R : ByteArray} {C D : Pg → Pg} (h : Text R C) (e : ∀ Q, D Q = C Q) : Text R D := fun T i hE j Q hQ => by rw [e]; exact h T i hE hQ
theorem Text.ite {s x y : ByteArray} {i a b c : Nat} {C D : Pg → Pg} (e : bt s i = 63) (ho : Opnd s (i + 1) a) (ha : bt s a = 123) (hab : a < b) (hb : bt s b = 125) (hb1 : bt s (b + 1) = 123) (hbc : b + 2 ≤ c) (hc : bt s c = 125) (hx : Text x C) (hy : Text y D) :
    Text (s.extract i (a + 1) ++ x ++ s.extract b (b + 2) ++ y ++ s.extract c (c + 1)) (fun Q => .ite (odN s (i + 1)) (C .nil) (D .nil) Q) := fun T i0 hE j Q hQ => by
  have la := byte_in ha (by decide)
  have lb1 := byte_in hb1 (by decide)
  have lc := byte_in hc (by decide)
  have lo := ho.lt
  have s1 : (s.extract i (a + 1)).size = a + 1 - i := size_ext (by omega) (by omega)
  have s2 : (s.extract b (b + 2)).size = 2 := by rw [size_ext (by omega) (by omega)]; omega
  have s3 : (s.extract c (c + 1)).size = 1 := by rw [size_ext (by omega) (by omega)]; omega
  have E5 := hE.right
  have E4 := hE.left.right
  have E3 := hE.left.left.right
  have E2 := hE.left.left.left.right
  have E1 := hE.left.left.left.left
  simp only [ByteArray.size_append, s1, s2, s3] at E2 E3 E4 E5 hQ
  have c1 := E1.cp (by omega) (by omega)
  have c3 := E3.cp (by omega) (by omega)
  have c5 := E5.cp (by omega) (by omega)
  have t0 : bt T i0 = 63 := (c1 0 (by omega)).trans e
  have t1 : Opnd T (i0 + 1) (i0 + (a - i)) := c1.opnd (x := 1) (y := a - i) (by rw [show i + (a - i) = a by omega]; exact ho) (by omega)
  have t2 : bt T (i0 + (a - i)) = 123 := (c1 (a - i) (by omega)).trans (by rw [show i + (a - i) = a by omega]; exact ha)
  have t3 : bt T (i0 + (a + 1 - i + x.size)) = 125 := (c3 0 (by omega)).trans hb
  have t4 : bt T (i0 + (a + 1 - i + x.size) + 1) = 123 := (c3 1 (by omega)).trans hb1
  have t5 : bt T (i0 + (a + 1 - i + x.size + 2 + y.size)) = 125 := (c5 0 (by omega)).trans hc
  have tod : odN T (i0 + 1) = odN s (i + 1) := c1.od (x := 1) (y := a - i) (by rw [show i + (a - i) = a by omega]; exact ho) (by omega) (by omega) (byte_in t2 (by decide)) (by rw [show i + (a - i) = a by omega, ha]; rfl)
  rw [← tod]
  refine Good.ite t0 t1 t2 (b := i0 + (a + 1 - i + x.size)) (c := i0 + (a + 1 - i + x.size + 2 + y.size)) ?_ t3 t4 ?_ t5 ?_
  · have := hx.good E2
    rw [show i0 + (a - i) + 1 = i0 + (a + 1 - i) by omega, show i0 + (a + 1 - i + x.size) = i0 + (a + 1 - i) + x.size by omega]
    exact this
  · have := hy.good E4
    rw [show i0 + (a + 1 - i + x.size) + 2 = i0 + (a + 1 - i + x.size + 2) by omega, show i0 + (a + 1 - i + x.size + 2 + y.size) = i0 + (a + 1 - i + x.size + 2) + y.size by omega]
    exact this
  · rw [show i0 + (a + 1 - i + x.size + 2 + y.size) + 1 = i0 + (a + 1 - i + x.size + 2 + y.size + 1) by omega]
    exact hQ
theorem Text.loop {s x : ByteArray} {i a b : Nat} {C : Pg → Pg} (e : bt s i = 64) (ho : Opnd s (i + 1) a) (ha : bt s a = 123) (hab : a < b) (hb : bt s b = 125) (hx : Text x C) :
    Text (s.extract i (a + 1) ++ x ++ s.extract b (b + 1)) (fun Q => .loop (odN s (i + 1)) (C .nil) Q) := fun T i0 hE j Q hQ => by
  have la := byte_in ha (by decide)
  have lb := byte_in hb (by decide)
  have lo := ho.lt
  have s1 : (s.extract i (a + 1)).size = a + 1 - i := size_ext (by omega) (by omega)
  have s2 : (s.extract b (b + 1)).size = 1 := by rw [size_ext (by omega) (by omega)]; omega
  have E3 := hE.right
  have E2 := hE.left.right
  have E1 := hE.left.left
  simp only [ByteArray.size_append, s1, s2] at E2 E3 hQ
  have c1 := E1.cp (by omega) (by omega)
  have c3 := E3.cp (by omega) (by omega)
  have t0 : bt T i0 = 64 := (c1 0 (by omega)).trans e
  have t1 : Opnd T (i0 + 1) (i0 + (a - i)) := c1.opnd (x := 1) (y := a - i) (by rw [show i + (a - i) = a by omega]; exact ho) (by omega)
  have t2 : bt T (i0 + (a - i)) = 123 := (c1 (a - i) (by omega)).trans (by rw [show i + (a - i) = a by omega]; exact ha)
  have t3 : bt T (i0 + (a + 1 - i + x.size)) = 125 := (c3 0 (by omega)).trans hb
  have tod : odN T (i0 + 1) = odN s (i + 1) := c1.od (x := 1) (y := a - i) (by rw [show i + (a - i) = a by omega]; exact ho) (by omega) (by omega) (byte_in t2 (by decide)) (by rw [show i + (a - i) = a by omega, ha]; rfl)
  rw [← tod]
  refine Good.loop t0 t1 t2 (b := i0 + (a + 1 - i + x.size)) ?_ t3 ?_
  · have := hx.good E2
    rw [show i0 + (a - i) + 1 = i0 + (a + 1 - i) by omega, show i0 + (a + 1 - i + x.size) = i0 + (a + 1 - i) + x.size by omega]
    exact this
  · rw [show i0 + (a + 1 - i + x.size) + 1 = i0 + (a + 1 - i + x.size + 1) by omega]
    exact hQ
theorem min_lt {f g : Nat → Bool} : ∀ k, k ∈ minL f g → k < 26 := fun k hk => (mem_minL.1 hk).1
theorem seq_dr : ∀ (l : List Nat) (P Q : Pg), seqP (drP l P) Q = drP l (seqP P Q)
  | [], P, Q => rfl
  | k :: l, P, Q => by rw [drP, drP, seqP, seq_dr l]
/-- what Lower makes says what is put into the tree -/
theorem text_low {s : ByteArray} : ∀ {F i j : Nat}, Prog s F i j → ∀ (f : Nat → Bool), Text (lowT s F i j f) (fun Q => seqP (lowG (pgN s F i j) f) Q)
  | 0, i, j, hp, f => Text.nil rfl
  | F + 1, i, j, hp, f => by
    have ih := fun {i j : Nat} (q : Prog s F i j) (f : Nat → Bool) => text_low q f
    rcases hp with hp | ⟨m, hst, hr⟩
    · subst hp
      rw [pgN_end, lowT, if_neg (Nat.lt_irrefl _)]
      exact Text.nil rfl
    · have hmj := hr.le
      have hlt := hst.lt
      have hij : i < j := by omega
      have hbeh := beh_of hst
      rw [lowT, if_pos hij, hbeh]
      rcases hst with hS | ⟨e, a, b, c, ho, ha, hp, hb, hb1, hq, hc, rfl⟩ | ⟨e, a, b, ho, ha, hp, hb, rfl⟩
      · have hf := hS.first
        rw [if_neg hf.1, if_neg hf.2, pgN_simple hS hij, afterF_simple hS, (simple_words hS).1]
        have hown := own_text hS f
        refine text_like (C := fun Q => ownP (acN s i) f (seqP (lowG (pgN s F m j) (aftA (acN s i) f)) Q)) ?_ (fun Q => by
          rw [lowG]
          unfold ownP
          split <;> rfl)
        cases hb : ownT s i f
        · rw [hb] at hown
          have ho : ownA (acN s i) f = none := by rw [hown]; rfl
          refine text_like (((Text.nil (R := ⟨#[]⟩) rfl).app (Text.simple hS)).app (ih hr _)) (fun Q => ?_)
          unfold ownP
          rw [ho]
          rfl
        · rw [hb] at hown
          have ho : ownA (acN s i) f = some (bt s i - 65) := by rw [hown]; rfl
          have hg : greatN (bt s i) = true := by
            unfold ownT at hb
            simp only [Bool.and_eq_true] at hb
            exact hb.1.1.1
          refine text_like (((Text.drop (k := bt s i - 65) (by simp [greatN] at hg; omega)).app (Text.simple hS)).app (ih hr _)) (fun Q => ?_)
          unfold ownP
          rw [ho]
      · have hI := ifAt_of e ho ha hp hb hb1 hq hc
        have l1 := hp.le
        have l2 := hq.le
        rw [if_pos e, pgN_if hI hij, afterF_if hI, hI.p1, hI.p2, hI.p3, show b + 1 - 1 = b by omega, show b + 1 + 1 = b + 2 by omega, show c + 1 - 1 = c by omega, (along_pg F _ _ hp).1, (along_pg F _ _ hq).1, lowG]
        generalize bothF (aftG (pgN s F (a + 1) b) f) (aftG (pgN s F (b + 2) c) f) = g
        have hx := (ih hp f).app (Text.drops (l := minL (aftG (pgN s F (a + 1) b) f) g) min_lt)
        have hy := (ih hq f).app (Text.drops (l := minL (aftG (pgN s F (b + 2) c) f) g) min_lt)
        have hh := (Text.ite e ho ha (by omega) hb hb1 (by omega) hc hx hy).app (ih hr g)
        simp only [ByteArray.append_assoc] at hh ⊢
        exact text_like hh (fun Q => by rw [seqP])
      · have hL := loopAt_of e ho ha hp hb
        have l1 := hp.le
        have hit : iterF (alongF s F (a + 1) b) 27 f = iterF (aftG (pgN s F (a + 1) b)) 27 f := iter_congr (along_pg F _ _ hp).1 27 f
        rw [if_neg (by rw [e]; decide), if_pos e, pgN_loop hL hij, afterF_loop hL, hit, hL.p1, hL.p2, show b + 1 - 1 = b by omega, (along_pg F _ _ hp).1, lowG]
        generalize iterF (aftG (pgN s F (a + 1) b)) 27 f = H
        have hx := (ih hp H).app (Text.drops (l := minL (aftG (pgN s F (a + 1) b) H) H) min_lt)
        have hh := ((Text.drops (l := minL f H) min_lt).app (Text.loop e ho ha (by omega) hb hx)).app (ih hr H)
        simp only [ByteArray.append_assoc] at hh ⊢
        exact text_like hh (fun Q => by rw [seq_dr, seqP])
/-- the whole of it -/
theorem text_top {s : ByteArray} (hp : Prog s (s.size + 1) 0 s.size) : Prog (lowTT s) ((lowTT s).size + 1) 0 (lowTT s).size ∧ pgN (lowTT s) ((lowTT s).size + 1) 0 (lowTT s).size = lowP (pgN s (s.size + 1) 0 s.size) := by
  have hh := (text_low hp noF).app (Text.drops (l := minL (alongF s (s.size + 1) 0 s.size noF) noF) min_lt)
  have hg := (hh.good (T := lowTT s) (i := 0) (Emb.self _)).2 ((lowTT s).size + 1) (by
    show 0 + (lowTT s).size - 0 < (lowTT s).size + 1
    omega)
  rw [Nat.zero_add] at hg
  refine ⟨hg.1, hg.2.trans ?_⟩
  rw [(along_pg _ _ _ hp).1]
  rfl
theorem dep_seq : ∀ (P Q : Pg), dep (seqP P Q) = max (dep P) (dep Q)
  | .nil, Q => by rw [seqP, dep]; omega
  | .act a r, Q => by rw [seqP, dep, dep, dep_seq r Q]
  | .ite o p q r, Q => by rw [seqP, dep, dep, dep_seq r Q]; omega
  | .loop o p r, Q => by rw [seqP, dep, dep, dep_seq r Q]; omega
theorem dep_dr : ∀ (l : List Nat) (Q : Pg), dep (drP l Q) = dep Q
  | [], Q => rfl
  | k :: l, Q => by rw [drP, dep, dep_dr l]
theorem dep_low : ∀ (P : Pg) (f : Nat → Bool), dep (lowG P f) = dep P
  | .nil, f => rfl
  | .act a r, f => by
    rw [lowG, dep]
    unfold ownP
    split
    · rw [dep, dep_low r]
    · rw [dep, dep, dep_low r]
  | .ite o p q r, f => by
    rw [lowG, dep, dep, dep_seq, dep_seq, dep_dr, dep_dr, dep_low p, dep_low q, dep_low r, dep]
    omega
  | .loop o p r, f => by
    rw [lowG, dep_dr, dep, dep, dep_seq, dep_dr, dep_low p, dep_low r, dep]
    omega
/-- what Lower makes of a right text is a right text -/
theorem low_right {s : ByteArray} (h : run s [(83, true)] 0 0 = (0, 0)) : run (lowTT s) [(83, true)] 0 0 = (0, 0) := by
  obtain ⟨h1, h2⟩ := text_top (prog_of_ok h)
  refine right_of h1 ?_
  rw [h2]
  unfold lowP
  rw [dep_seq, dep_low, dep_dr, dep]
  have := right_dep h
  omega
end Go.Proofs.YthcjcjfgdgnljabDoor

namespace Go.Proofs.YthcjcjfgdgnljabDoor
set_option linter.unusedVariables false

def cnt : Pg → Nat
  | .nil => 0
  | .act _ r => 1 + cnt r
  | .ite _ p q r => 1 + cnt p + cnt q + cnt r
  | .loop _ p r => 1 + cnt p + cnt r
theorem cnt_seq : ∀ (P Q : Pg), cnt (seqP P Q) = cnt P + cnt Q
  | .nil, Q => by rw [seqP, cnt]; omega
  | .act a r, Q => by rw [seqP, cnt, cnt, cnt_seq r Q]; omega
  | .ite o p q r, Q => by rw [seqP, cnt, cnt, cnt_seq r Q]; omega
  | .loop o p r, Q => by rw [seqP, cnt, cnt, cnt_seq r Q]; omega
theorem cnt_dr : ∀ (l : List Nat) (Q : Pg), cnt (drP l Q) = l.length + cnt Q
  | [], Q => by rw [drP]; simp
  | k :: l, Q => by rw [drP, cnt, cnt_dr l]; simp; omega
theorem cnt_low : ∀ (P : Pg) (f : Nat → Bool), cnt P ≤ cnt (lowG P f)
  | .nil, f => Nat.le_refl _
  | .act a r, f => by
    have := cnt_low r (aftA a f)
    rw [lowG, cnt]
    unfold ownP
    split
    · rw [cnt]; omega
    · rw [cnt, cnt]; omega
  | .ite o p q r, f => by
    have h1 := cnt_low p f
    have h2 := cnt_low q f
    have h3 := cnt_low r (bothF (aftG p f) (aftG q f))
    rw [lowG, cnt, cnt, cnt_seq, cnt_seq]
    omega
  | .loop o p r, f => by
    have h1 := cnt_low p (iterF (aftG p) 27 f)
    have h3 := cnt_low r (iterF (aftG p) 27 f)
    rw [lowG, cnt_dr, cnt, cnt, cnt_seq]
    omega
theorem fix_seq {P : Pg} {f : Nat → Bool} {l : List Nat} (h : seqP (lowG P f) (drP l .nil) = P) : l = [] ∧ lowG P f = P := by
  have h1 := congrArg cnt h
  rw [cnt_seq, cnt_dr] at h1
  have h2 := cnt_low P f
  have hl : l = [] := List.eq_nil_of_length_eq_zero (by omega)
  subst hl
  rw [drP, seq_nil] at h
  exact ⟨rfl, h⟩
theorem fix_act {a : Ac} {r : Pg} {f : Nat → Bool} (h : lowG (.act a r) f = .act a r) : ownA a f = none ∧ lowG r (aftA a f) = r := by
  rw [lowG] at h
  unfold ownP at h
  cases ho : ownA a f with
  | none =>
    rw [ho] at h
    injection h with _ h2
    exact ⟨rfl, h2⟩
  | some b =>
    rw [ho] at h
    injection h with h1 _
    rw [← h1] at ho
    cases ho
theorem fix_ite {o : Od} {p q r : Pg} {f : Nat → Bool} (h : lowG (.ite o p q r) f = .ite o p q r) : minL (aftG p f) (bothF (aftG p f) (aftG q f)) = [] ∧ minL (aftG q f) (bothF (aftG p f) (aftG q f)) = [] ∧ lowG p f = p ∧ lowG q f = q ∧ lowG r (bothF (aftG p f) (aftG q f)) = r := by
  rw [lowG] at h
  injection h with _ h1 h2 h3
  obtain ⟨a1, a2⟩ := fix_seq h1
  obtain ⟨b1, b2⟩ := fix_seq h2
  exact ⟨a1, b1, a2, b2, h3⟩
theorem fix_loop {o : Od} {p r : Pg} {f : Nat → Bool} (h : lowG (.loop o p r) f = .loop o p r) : minL f (iterF (aftG p) 27 f) = [] ∧ minL (aftG p (iterF (aftG p) 27 f)) (iterF (aftG p) 27 f) = [] ∧ lowG p (iterF (aftG p) 27 f) = p ∧ lowG r (iterF (aftG p) 27 f) = r := by
  rw [lowG] at h
  cases hm : minL f (iterF (aftG p) 27 f) with
  | nil =>
    rw [hm, drP] at h
    injection h with _ h1 h2
    obtain ⟨a1, a2⟩ := fix_seq h1
    exact ⟨rfl, a1, a2, h2⟩
  | cons k l =>
    rw [hm, drP] at h
    cases h
theorem ext_app (s : ByteArray) {i m j : Nat} (h1 : i ≤ m) (h2 : m ≤ j) : s.extract i m ++ s.extract m j = s.extract i j := by
  apply ByteArray.ext
  simp only [ByteArray.data_append, ByteArray.data_extract]
  rw [Array.extract_append_extract, Nat.min_eq_left h1, Nat.max_eq_right h2]
theorem nil_app (x : ByteArray) : (⟨#[]⟩ : ByteArray) ++ x = x := by
  apply ByteArray.ext
  simp
/-- where nothing is put in, the text stays -/
theorem text_fix {s : ByteArray} : ∀ {F i j : Nat}, Prog s F i j → ∀ {f : Nat → Bool}, lowG (pgN s F i j) f = pgN s F i j → lowT s F i j f = s.extract i j
  | 0, i, j, hp, f, h => by
    have e : i = j := hp
    subst e
    rw [lowT]
    apply ByteArray.ext
    simp
  | F + 1, i, j, hp, f, h => by
    have ih := fun {i j : Nat} (q : Prog s F i j) {f : Nat → Bool} (h : lowG (pgN s F i j) f = pgN s F i j) => text_fix q h
    rcases hp with hp | ⟨m, hst, hr⟩
    · subst hp
      rw [lowT, if_neg (Nat.lt_irrefl _)]
      apply ByteArray.ext
      simp
    · have hmj := hr.le
      have hlt := hst.lt
      have hij : i < j := by omega
      have hbeh := beh_of hst
      rw [lowT, if_pos hij, hbeh]
      rcases hst with hS | ⟨e, a, b, c, ho, ha, hp, hb, hb1, hq, hc, rfl⟩ | ⟨e, a, b, ho, ha, hp, hb, rfl⟩
      · have hf := hS.first
        rw [pgN_simple hS hij] at h
        obtain ⟨h1, h2⟩ := fix_act h
        have hown : ownT s i f = false := by
          have := own_text hS f
          rw [h1] at this
          cases hb : ownT s i f
          · rfl
          · rw [hb] at this; cases this
        rw [if_neg hf.1, if_neg hf.2, hown, afterF_simple hS, (simple_words hS).1, ih hr h2, if_neg (by simp), nil_app]
        exact ext_app s (by omega) hmj
      · have hI := ifAt_of e ho ha hp hb hb1 hq hc
        have l1 := hp.le
        have l2 := hq.le
        have l3 := ho.lt
        rw [pgN_if hI hij] at h
        obtain ⟨h1, h2, h3, h4, h5⟩ := fix_ite h
        rw [if_pos e, afterF_if hI, hI.p1, hI.p2, hI.p3, show b + 1 - 1 = b by omega, show b + 1 + 1 = b + 2 by omega, show c + 1 - 1 = c by omega, (along_pg F _ _ hp).1, (along_pg F _ _ hq).1, h1, h2, ih hp h3, ih hq h4, ih hr h5, drsB]
        simp only [ByteArray.append_assoc, nil_app]
        rw [ext_app s (by omega) hmj, ext_app s l2 (by omega), ext_app s (show b ≤ b + 2 by omega) (by omega), ext_app s l1 (by omega), ext_app s (by omega) (by omega)]
      · have hL := loopAt_of e ho ha hp hb
        have l1 := hp.le
        have l3 := ho.lt
        rw [pgN_loop hL hij] at h
        obtain ⟨h1, h2, h3, h4⟩ := fix_loop h
        have hit : iterF (alongF s F (a + 1) b) 27 f = iterF (aftG (pgN s F (a + 1) b)) 27 f := iter_congr (along_pg F _ _ hp).1 27 f
        rw [if_neg (by rw [e]; decide), if_pos e, afterF_loop hL, hit, hL.p1, hL.p2, show b + 1 - 1 = b by omega, (along_pg F _ _ hp).1, h1, h2, ih hp h3, ih hr h4, drsB]
        simp only [ByteArray.append_assoc, nil_app]
        rw [ext_app s (by omega) hmj, ext_app s l1 (by omega), ext_app s (by omega) (by omega)]
/-- what Lower makes of a text stays as it is -/
theorem text_settled {s : ByteArray} (hp : Prog s (s.size + 1) 0 s.size) (hok : PgOk (pgN s (s.size + 1) 0 s.size)) (ho : okG (pgN s (s.size + 1) 0 s.size) noF) : lowTT (lowTT s) = lowTT s := by
  obtain ⟨t1, t2⟩ := text_top hp
  obtain ⟨q1, q2, q3⟩ := lowP_same hok ho
  have cn : Clean noF := clean_none
  obtain ⟨p1, p2, p3⟩ := low_same _ hok cn ho
  have e2 : lowG (lowP (pgN s (s.size + 1) 0 s.size)) noF = lowP (pgN s (s.size + 1) 0 s.size) := by
    show lowG (seqP _ _) noF = _
    rw [low_seq, p3, low_dr]
    rfl
  have h1 := text_fix t1 (f := noF) (by rw [t2]; exact e2)
  generalize lowTT s = t at *
  show lowT t (t.size + 1) 0 t.size noF ++ drsB (minL (alongF t (t.size + 1) 0 t.size noF) noF) = t
  rw [h1, (along_pg _ _ _ t1).1, t2, q1, minL_self, drsB]
  apply ByteArray.ext
  simp
/-- where no box is used that is not full there is no such place -/
theorem mis_none {s : ByteArray} : ∀ {F i j : Nat}, Prog s F i j → ∀ {f : Nat → Bool}, okG (pgN s F i j) f → misN s F i j f < 0
  | 0, i, j, hp, f, h => by rw [misN]; decide
  | F + 1, i, j, hp, f, h => by
    have ih := fun {i j : Nat} (q : Prog s F i j) {f : Nat → Bool} (h : okG (pgN s F i j) f) => mis_none q h
    rcases hp with hp | ⟨m, hst, hr⟩
    · subst hp; rw [misN_end]; decide
    · have hmj := hr.le
      have hlt := hst.lt
      have hij : i < j := by omega
      rw [misN_step hst hij]
      have key : misP s (alongF s F) (misN s F) i f < 0 ∧ misN s F m j (afterF (alongF s F) s i f) < 0 := by
        rcases hst with hS | ⟨e, a, b, c, ho, ha, hp, hb, hb1, hq, hc, rfl⟩ | ⟨e, a, b, ho, ha, hp, hb, rfl⟩
        · rw [pgN_simple hS hij, okG_act] at h
          obtain ⟨w1, w2⟩ := simple_words hS
          rw [misP_simple hS, afterF_simple hS, w1]
          refine ⟨?_, ih hr h.2⟩
          rcases w2 with ⟨q1, q2⟩ | ⟨b, q1, q2, q3⟩
          · rw [q2, if_neg (by omega)]; decide
          · rw [q3, h.1 b q1, if_neg (by simp)]; decide
        · have hI := ifAt_of e ho ha hp hb hb1 hq hc
          rw [pgN_if hI hij, okG_ite] at h
          rw [misP_if hI, afterF_if hI, (along_pg F _ _ hp).1, (along_pg F _ _ hq).1, if_pos (ih hp h.1)]
          exact ⟨ih hq h.2.1, ih hr h.2.2⟩
        · have hL := loopAt_of e ho ha hp hb
          rw [pgN_loop hL hij, okG_loop] at h
          have hit : iterF (alongF s F (a + 1) b) 27 f = iterF (aftG (pgN s F (a + 1) b)) 27 f := iter_congr (along_pg F _ _ hp).1 27 f
          rw [misP_loop hL, afterF_loop hL, hit]
          exact ⟨ih hp h.1, ih hr h.2⟩
      rw [if_neg (by omega)]
      exact key.2
/-- Check of what Lower makes -/
theorem low_check {s : ByteArray} (h : run s [(83, true)] 0 0 = (0, 0)) (hok : PgOk (pgN s (s.size + 1) 0 s.size)) (ho : okG (pgN s (s.size + 1) 0 s.size) noF) : checkN (lowTT s) = if 400 < (lowTT s).size then (1, 0) else (0, 0) := by
  obtain ⟨t1, t2⟩ := text_top (prog_of_ok h)
  obtain ⟨q1, q2, q3⟩ := lowP_same hok ho
  have hm : misT (lowTT s) < 0 := mis_none t1 (by rw [t2]; exact q2)
  unfold checkN
  rw [low_right h]
  split
  · rfl
  · rw [if_neg (by simp), if_neg (by omega)]
end Go.Proofs.YthcjcjfgdgnljabDoor
