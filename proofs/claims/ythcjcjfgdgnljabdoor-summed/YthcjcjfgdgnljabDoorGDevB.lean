/-
  DevQ, DevB: one behind the other.
-/
import Derived.Test.YthcjcjfgdgnljabDoorGMacC
namespace Go.Proofs.YthcjcjfgdgnljabDoor
open Go.RowKit
set_option linter.unusedVariables false

def AboveC (B : Nat → Nat → Bool) : Nat → (Nat → Bool) → Prop := fun q H => Sub H (B q)
def TrueC : Nat → (Nat → Bool) → Prop := fun _ _ => True
def ExactC (A : Nat → Nat → Bool) : Nat → (Nat → Bool) → Prop := fun q f => A q = f

section
variable {p : Nat → Pt} {s : ByteArray}
theorem SegQ.reB {B B' : Nat → Nat → Bool} {F i j k l : Nat} {f : Nat → Bool} (h : SegQ p s (AboveC B) TrueC F i j k l f) (e : ∀ q, k ≤ q → q < l → B' q = B q) : SegQ p s (AboveC B') TrueC F i j k l f :=
  h.imp (fun q f a b c => by unfold AboveC at c ⊢; rw [e q a b]; exact c) (fun _ _ _ _ _ => trivial)
theorem SegQ.reA {A A' : Nat → Nat → Bool} {F i j k l : Nat} {f : Nat → Bool} (h : SegQ p s TrueC (ExactC A) F i j k l f) (e : ∀ q, k ≤ q → q < l → A' q = A q) : SegQ p s TrueC (ExactC A') F i j k l f :=
  h.imp (fun _ _ _ _ _ => trivial) (fun q f a b c => by unfold ExactC at c ⊢; rw [e q a b]; exact c)

theorem SQ.reB {B B' : Nat → Nat → Bool} {F i m k k' : Nat} {f : Nat → Bool} (h : SQ p s (AboveC B) TrueC F (SegQ p s (AboveC B) TrueC F) i m k k' f) (hk : k < k') (e : ∀ q, k ≤ q → q < k' → B' q = B q) : SQ p s (AboveC B') TrueC F (SegQ p s (AboveC B') TrueC F) i m k k' f := by
  refine ⟨trivial, ?_⟩
  rcases h.2 with q | ⟨a, b, c, ka, kb, q1, q2, q3, q4, q5, q6, q7, q8, q9, q10, q11, q12⟩ | ⟨a, b, ka, q1, q2, q3, q4, q5, q6, q7, q8, q9⟩
  · exact .inl q
  · have := q3.le
    exact .inr (.inl ⟨a, b, c, ka, kb, q1, q2.reB (fun q h1 h2 => e q (by omega) (by omega)), q3.reB (fun q h1 h2 => e q (by omega) (by omega)), q4, q5, q6, q7, q8, q9, q10, q11, q12⟩)
  · exact .inr (.inr ⟨a, b, ka, q1, by unfold AboveC at q2 ⊢; rw [e k (by omega) (by omega)]; exact q2, q3.reB (fun q h1 h2 => e q (by omega) (by omega)), q4, q5, q6, q7, q8, q9⟩)
theorem SQ.reA {A A' : Nat → Nat → Bool} {F i m k k' : Nat} {f : Nat → Bool} (h : SQ p s TrueC (ExactC A) F (SegQ p s TrueC (ExactC A) F) i m k k' f) (hk : k < k') (e : ∀ q, k ≤ q → q < k' → A' q = A q) : SQ p s TrueC (ExactC A') F (SegQ p s TrueC (ExactC A') F) i m k k' f := by
  refine ⟨by have := h.1; unfold ExactC at this ⊢; rw [e k (by omega) (by omega)]; exact this, ?_⟩
  rcases h.2 with q | ⟨a, b, c, ka, kb, q1, q2, q3, q4, q5, q6, q7, q8, q9, q10, q11, q12⟩ | ⟨a, b, ka, q1, q2, q3, q4, q5, q6, q7, q8, q9⟩
  · exact .inl q
  · have := q3.le
    exact .inr (.inl ⟨a, b, c, ka, kb, q1, q2.reA (fun q h1 h2 => e q (by omega) (by omega)), q3.reA (fun q h1 h2 => e q (by omega) (by omega)), q4, q5, q6, q7, q8, q9, q10, q11, q12⟩)
  · exact .inr (.inr ⟨a, b, ka, q1, trivial, q3.reA (fun q h1 h2 => e q (by omega) (by omega)), q4, q5, q6, q7, q8, q9⟩)
theorem behP_mono {t : Pt} {f g : Nat → Bool} (h : Sub f g) : Sub (behP t f) (behP t g) := by
  unfold behP
  split
  · exact h.upd _ id
  · split
    · exact h.upd _ id
    · split
      · unfold moveF
        cases hf : f t.src
        · cases hg : g t.src
          · exact (h.upd _ id).upd _ id
          · exact (h.upd _ id).upd _ (fun e => absurd e (by simp))
        · rw [h _ hf]
          exact (h.upd _ id).upd _ id
      · exact h

theorem head_facts (F a b : Nat) {f : Nat → Bool} (hc : Clean f) : Sub (iterF (alongF s F (a + 1) b) 27 f) f ∧ Sub (iterF (alongF s F (a + 1) b) 27 f) (alongF s F (a + 1) b (iterF (alongF s F (a + 1) b) 27 f)) :=
  ⟨iter_sub _ _, iter_fix _ _ hc (by have := card_le f 26; omega)⟩

/-- no pass takes too much -/
theorem seg_up : ∀ {F i j k l : Nat} {f : Nat → Bool} (z : Ps), SegQ p s (AboveC z.B) TrueC F i j k l f → Clean f → Sub f z.now → Sub (alongF s F i j f) (seg p k l z).now ∧ SegQ p s (AboveC (seg p k l z).B) TrueC F i j k l f
  | 0, i, j, k, l, f, z, h, hc, hs => by
    obtain ⟨e1, e2⟩ := h
    subst e1 e2
    rw [seg_nil]
    exact ⟨hs, rfl, rfl⟩
  | F + 1, i, j, k, l, f, z, h, hcf, hsub => by
    rcases h with ⟨e1, e2⟩ | ⟨m, k', ⟨hc, hs⟩, g1, g2, g3, g4, g5, hr⟩
    · subst e1 e2
      rw [seg_nil, alongF_end]
      exact ⟨hsub, .inl ⟨rfl, rfl⟩⟩
    · rw [seg_app p (m := k') (by omega) (by omega)]
      have hcA : Clean (afterF (alongF s F) s i f) := Clean.after (fun a b g hg => Clean.along hg) hcf
      have key : Sub (afterF (alongF s F) s i f) (seg p k k' z).now ∧ SQ p s (AboveC (seg p k k' z).B) TrueC F (SegQ p s (AboveC (seg p k k' z).B) TrueC F) i m k k' f ∧ Same k k' z (seg p k k' z) := by
        rcases hs with ⟨q1, q2, q3⟩ | ⟨a, b, c, ka, kb, q1, q2, q3, q4, q5, q6, q7, q8, q9, q10, q11, q12⟩ | ⟨a, b, ka, q1, q2, q3, q4, q5, q6, q7, q8, q9⟩
        · rw [q2, seg_one]
          refine ⟨?_, ⟨trivial, .inl ⟨q1, rfl, q3⟩⟩, step_same z (Nat.le_refl _) (by omega) (fun e => by have := q3.kd; omega)⟩
          have hk := q3.kd
          rw [step_now, now7 (by omega), afterF_simple q1, ← q3.eff f hcf]
          exact behP_mono hsub
        · have l2 := q2.le
          have l3 := q3.le
          rw [q5, seg_last p (l := kb) (by omega), seg_app p (m := ka + 1) (by omega) (by omega), seg_last p (l := ka) (by omega), seg_head p (l := ka) (by omega)]
          have n0 : (stepM p k z).now = z.now := by rw [step_now, now7 (by omega), beh7 q6.1]
          have t0 := step_same (p := p) (i := k) (k := k) (l := kb + 1) z (by omega) (by omega) (fun e => by omega)
          have t0' := step_same (p := p) (i := k) (k := k) (l := k + 1) z (by omega) (by omega) (fun e => by omega)
          have s1 := seg_same q2 (stepM p k z)
          have u1 := seg_up (stepM p k z) (q2.reB (B' := (stepM p k z).B) (fun q h1 h2 => (t0' q (.inr (by omega))).2)) hcf (by rw [n0]; exact hsub)
          generalize seg p (k + 1) ka (stepM p k z) = z1 at s1 u1 ⊢
          have nA : z1.A k = z.now := ((s1 k (.inl (by omega))).1).trans step_A
          have n1 : (stepM p ka z1).now = z.now := by rw [step_now, now8 q7 (by omega), q8, nA]
          have t1 := step_same (p := p) (i := ka) (k := k) (l := kb + 1) z1 (by omega) (by omega) (fun e => by omega)
          have t1' := step_same (p := p) (i := ka) (k := ka) (l := ka + 1) z1 (by omega) (by omega) (fun e => by omega)
          have hA2 : (stepM p ka z1).A ka = z1.now := step_A
          have s2 := seg_same q3 (stepM p ka z1)
          have u2 := seg_up (stepM p ka z1) (q3.reB (B' := (stepM p ka z1).B) (fun q h1 h2 => ((t1' q (.inr (by omega))).2).trans (((s1 q (.inr (by omega))).2).trans (t0' q (.inr (by omega))).2))) hcf (by rw [n1]; exact hsub)
          generalize seg p (ka + 1) kb (stepM p ka z1) = z2 at s2 u2 ⊢
          have nA2 : z2.A ka = z1.now := ((s2 ka (.inl (by omega))).1).trans hA2
          have t2 := step_same (p := p) (i := kb) (k := k) (l := kb + 1) z2 (by omega) (by omega) (fun e => by omega)
          have t2' := step_same (p := p) (i := kb) (k := kb) (l := kb + 1) z2 (by omega) (by omega) (fun e => by omega)
          refine ⟨?_, ⟨trivial, .inr (.inl ⟨a, b, c, ka, kb, q1, ?_, ?_, q4, rfl, q6, q7, q8, q9, q10, q11, q12⟩)⟩, ?_⟩
          · rw [step_now, now9 q9 (by omega), q10, nA2, afterF_if q1, both_comm]
            exact u2.1.both u1.1
          · exact u1.2.reB (fun q h1 h2 => ((t2' q (.inl (by omega))).2).trans (((s2 q (.inl (by omega))).2).trans (t1' q (.inl (by omega))).2))
          · exact u2.2.reB (fun q h1 h2 => (t2' q (.inl (by omega))).2)
          · exact ((((t0.trans (s1.mono (by omega) (by omega))).trans t1).trans (s2.mono (by omega) (by omega))).trans t2)
        · have l2 := q3.le
          rw [q5, seg_last p (l := ka) (by omega), seg_head p (l := ka) (by omega)]
          have hf := head_facts (s := s) F a b hcf
          have hcH : Clean (iterF (alongF s F (a + 1) b) 27 f) := Clean.iter hcf
          generalize hHe : iterF (alongF s F (a + 1) b) 27 f = H at q2 q3 hf hcH
          have n0 : (stepM p k z).now = bothF z.now (z.B k) := by rw [step_now, now10 q6.1]
          have hB : (stepM p k z).B k = bothF z.now (z.B k) := by rw [step_B, now10 q6.1]
          have hH0 : Sub H (bothF z.now (z.B k)) := (hf.1.trans hsub).into q2
          have t0 := step_same (p := p) (i := k) (k := k) (l := ka + 1) z (by omega) (by omega) (fun e => by omega)
          have t0' := step_same (p := p) (i := k) (k := k) (l := k + 1) z (by omega) (by omega) (fun e => by omega)
          have s1 := seg_same q3 (stepM p k z)
          have u1 := seg_up (stepM p k z) (q3.reB (B' := (stepM p k z).B) (fun q h1 h2 => (t0' q (.inr (by omega))).2)) hcH (by rw [n0]; exact hH0)
          generalize seg p (k + 1) ka (stepM p k z) = z1 at s1 u1 ⊢
          have nB : z1.B k = bothF z.now (z.B k) := ((s1 k (.inl (by omega))).2).trans hB
          have hH1 : Sub H z1.now := hf.2.trans u1.1
          have hnow : nowM p ka z1 = bothF (bothF z.now (z.B k)) z1.now := by rw [now11 q7, q8, nB]
          have hH2 : Sub H (nowM p ka z1) := by rw [hnow]; exact hH0.into hH1
          have t1 := step_same (p := p) (i := ka) (k := k) (l := ka + 1) z1 (by omega) (by omega) (fun e => by omega)
          have hBk : (stepM p ka z1).B k = nowM p ka z1 := by
            have := step_B11 (z := z1) q7 (by omega)
            rwa [q8] at this
          have hBin : ∀ q, k + 1 ≤ q → q < ka → (stepM p ka z1).B q = z1.B q := fun q h1 h2 => by
            show updA (if (p ka).kind = 12 then updA z1.B (p ka).opn (nowM p ka z1) else z1.B) ka (nowM p ka z1) q = z1.B q
            rw [updA_ne _ _ (by omega), if_pos q7, updA_ne _ _ (by omega)]
          refine ⟨?_, ⟨trivial, .inr (.inr ⟨a, b, ka, q1, ?_, ?_, q4, rfl, q6, q7, q8, q9⟩)⟩, ?_⟩
          · rw [step_now, afterF_loop q1, hHe]
            exact hH2
          · rw [hHe]
            unfold AboveC
            rw [hBk]
            exact hH2
          · rw [hHe]
            exact u1.2.reB hBin
          · exact (t0.trans (s1.mono (by omega) (by omega))).trans t1
      have hB : ∀ q, k' ≤ q → q < l → (seg p k k' z).B q = z.B q := fun q h1 h2 => (key.2.2 q (.inr h1)).2
      have e := seg_up (seg p k k' z) (hr.reB hB) hcA key.1
      have s2 := seg_same hr (seg p k k' z)
      rw [along_next g1 g2 g5]
      refine ⟨e.1, .inr ⟨m, k', key.2.1.reB g3 (fun q h1 h2 => (s2 q (.inl h2)).2), g1, g2, g3, g4, g5, e.2⟩⟩

/-- a pass after which all loops have kept their sets tells just what the document says -/
theorem seg_exact : ∀ {F i j k l : Nat} (z : Ps), SegQ p s (AboveC z.B) TrueC F i j k l z.now → Clean z.now → (seg p k l z).st = true → (seg p k l z).now = alongF s F i j z.now ∧ SegQ p s TrueC (ExactC (seg p k l z).A) F i j k l z.now
  | 0, i, j, k, l, z, h, hc, hs => by
    obtain ⟨e1, e2⟩ := h
    subst e1 e2
    rw [seg_nil]
    exact ⟨rfl, rfl, rfl⟩
  | F + 1, i, j, k, l, z, h, hcf, hst => by
    rcases h with ⟨e1, e2⟩ | ⟨m, k', ⟨hc, hs⟩, g1, g2, g3, g4, g5, hr⟩
    · subst e1 e2
      rw [seg_nil, alongF_end]
      exact ⟨rfl, .inl ⟨rfl, rfl⟩⟩
    · rw [seg_app p (m := k') (by omega) (by omega)] at hst ⊢
      have hst1 := seg_st hst
      have hcA : Clean (afterF (alongF s F) s i z.now) := Clean.after (fun a b g hg => Clean.along hg) hcf
      have key : (seg p k k' z).now = afterF (alongF s F) s i z.now ∧ SQ p s TrueC (ExactC (seg p k k' z).A) F (SegQ p s TrueC (ExactC (seg p k k' z).A) F) i m k k' z.now ∧ Same k k' z (seg p k k' z) := by
        rcases hs with ⟨q1, q2, q3⟩ | ⟨a, b, c, ka, kb, q1, q2, q3, q4, q5, q6, q7, q8, q9, q10, q11, q12⟩ | ⟨a, b, ka, q1, q2, q3, q4, q5, q6, q7, q8, q9⟩
        · rw [q2, seg_one]
          refine ⟨?_, ⟨step_A, .inl ⟨q1, rfl, q3⟩⟩, step_same z (Nat.le_refl _) (by omega) (fun e => by have := q3.kd; omega)⟩
          have hk := q3.kd
          rw [step_now, now7 (by omega), afterF_simple q1, q3.eff _ hcf]
        · have l2 := q2.le
          have l3 := q3.le
          rw [q5, seg_last p (l := kb) (by omega), seg_app p (m := ka + 1) (by omega) (by omega), seg_last p (l := ka) (by omega), seg_head p (l := ka) (by omega)] at hst1 ⊢
          have n0 : (stepM p k z).now = z.now := by rw [step_now, now7 (by omega), beh7 q6.1]
          have t0 := step_same (p := p) (i := k) (k := k) (l := kb + 1) z (by omega) (by omega) (fun e => by omega)
          have t0' := step_same (p := p) (i := k) (k := k) (l := k + 1) z (by omega) (by omega) (fun e => by omega)
          have s1 := seg_same q2 (stepM p k z)
          have hA0 : (stepM p k z).A k = z.now := step_A
          have u1 := fun h => seg_exact (F := F) (i := a + 1) (j := b) (k := k + 1) (l := ka) (stepM p k z) (by rw [n0]; exact q2.reB (fun q h1 h2 => (t0' q (.inr (by omega))).2)) (by rw [n0]; exact hcf) h
          generalize hz1 : seg p (k + 1) ka (stepM p k z) = z1 at hst1 s1 u1 ⊢
          have nA : z1.A k = z.now := ((s1 k (.inl (by omega))).1).trans hA0
          have n1 : (stepM p ka z1).now = z.now := by rw [step_now, now8 q7 (by omega), q8, nA]
          have t1 := step_same (p := p) (i := ka) (k := k) (l := kb + 1) z1 (by omega) (by omega) (fun e => by omega)
          have t1' := step_same (p := p) (i := ka) (k := ka) (l := ka + 1) z1 (by omega) (by omega) (fun e => by omega)
          have hA2 : (stepM p ka z1).A ka = z1.now := step_A
          have s2 := seg_same q3 (stepM p ka z1)
          have u2 := fun h => seg_exact (F := F) (i := b + 2) (j := c) (k := ka + 1) (l := kb) (stepM p ka z1) (by rw [n1]; exact q3.reB (fun q h1 h2 => ((t1' q (.inr (by omega))).2).trans (((s1 q (.inr (by omega))).2).trans (t0' q (.inr (by omega))).2))) (by rw [n1]; exact hcf) h
          have hstm := step_st hst1
          generalize hz2 : seg p (ka + 1) kb (stepM p ka z1) = z2 at hst1 s2 u2 hstm ⊢
          have nA2 : z2.A ka = z1.now := ((s2 ka (.inl (by omega))).1).trans hA2
          have t2 := step_same (p := p) (i := kb) (k := k) (l := kb + 1) z2 (by omega) (by omega) (fun e => by omega)
          have t2' := step_same (p := p) (i := kb) (k := kb) (l := kb + 1) z2 (by omega) (by omega) (fun e => by omega)
          have e2 := u2 hstm
          have hst3 : (stepM p ka z1).st = true := by rw [← hz2] at hstm; exact seg_st hstm
          have e1 := u1 (step_st hst3)
          rw [n0] at e1
          rw [n1] at e2
          have hAk : ∀ q, k ≤ q → q < ka → (stepM p kb z2).A q = z1.A q := fun q h1 h2 =>
            ((t2' q (.inl (by omega))).1).trans (((s2 q (.inl (by omega))).1).trans (t1' q (.inl (by omega))).1)
          refine ⟨?_, ⟨?_, .inr (.inl ⟨a, b, c, ka, kb, q1, ?_, ?_, q4, rfl, q6, q7, q8, q9, q10, q11, q12⟩)⟩, ?_⟩
          · rw [step_now, now9 q9 (by omega), q10, nA2, afterF_if q1, both_comm, e1.1, e2.1]
          · unfold ExactC
            rw [hAk k (by omega) (by omega), nA]
          · exact e1.2.reA (fun q h1 h2 => hAk q (by omega) h2)
          · exact e2.2.reA (fun q h1 h2 => (t2' q (.inl (by omega))).1)
          · exact ((((t0.trans (s1.mono (by omega) (by omega))).trans t1).trans (s2.mono (by omega) (by omega))).trans t2)
        · have l2 := q3.le
          rw [q5, seg_last p (l := ka) (by omega), seg_head p (l := ka) (by omega)] at hst1 ⊢
          have hf := head_facts (s := s) F a b hcf
          have hgr := fun G h1 h2 => iter_great (T := alongF s F (a + 1) b) (fun f g h => along_mono h) (G := G) h1 27 z.now h2
          have hcH : Clean (iterF (alongF s F (a + 1) b) 27 z.now) := Clean.iter hcf
          generalize hHe : iterF (alongF s F (a + 1) b) 27 z.now = H at q2 q3 hf hcH hgr
          have n0 : (stepM p k z).now = bothF z.now (z.B k) := by rw [step_now, now10 q6.1]
          have hB : (stepM p k z).B k = bothF z.now (z.B k) := by rw [step_B, now10 q6.1]
          have hc0 : Clean (bothF z.now (z.B k)) := hcf.both
          have hH0 : Sub H (bothF z.now (z.B k)) := hf.1.into q2
          have t0 := step_same (p := p) (i := k) (k := k) (l := ka + 1) z (by omega) (by omega) (fun e => by omega)
          have t0' := step_same (p := p) (i := k) (k := k) (l := k + 1) z (by omega) (by omega) (fun e => by omega)
          have hA0 : (stepM p k z).A k = z.now := step_A
          have s1 := seg_same q3 (stepM p k z)
          have d1 := seg_down q3 (stepM p k z) (by rw [n0]; exact hc0) (step_st hst1)
          have hsub := step_st11 q7 hst1
          have nB : (seg p (k + 1) ka (stepM p k z)).B k = bothF z.now (z.B k) := ((s1 k (.inl (by omega))).2).trans hB
          rw [q8, nB] at hsub
          rw [n0] at d1
          have hpf : Sub (bothF z.now (z.B k)) (alongF s F (a + 1) b (bothF z.now (z.B k))) := (Sub.of hc0 hsub).trans d1.2
          have hEq : bothF z.now (z.B k) = H := Sub.anti (hgr _ hpf (Sub.left _ _)) hH0
          rw [hEq] at n0 nB
          have u1 := seg_exact (F := F) (i := a + 1) (j := b) (k := k + 1) (l := ka) (stepM p k z) (by rw [n0]; exact q3.reB (fun q h1 h2 => (t0' q (.inr (by omega))).2)) (by rw [n0]; exact hcH) (step_st hst1)
          rw [n0] at u1
          generalize seg p (k + 1) ka (stepM p k z) = z1 at hst1 s1 u1 nB ⊢
          have t1 := step_same (p := p) (i := ka) (k := k) (l := ka + 1) z1 (by omega) (by omega) (fun e => by omega)
          have hA1 : ∀ q, q < ka → (stepM p ka z1).A q = z1.A q := fun q h => updA_ne _ _ (by omega)
          refine ⟨?_, ⟨?_, .inr (.inr ⟨a, b, ka, q1, trivial, ?_, q4, rfl, q6, q7, q8, q9⟩)⟩, ?_⟩
          · rw [step_now, now11 q7, q8, nB, u1.1, both_sub hf.2, afterF_loop q1, hHe]
          · unfold ExactC
            rw [hA1 k (by omega)]
            exact ((s1 k (.inl (by omega))).1).trans hA0
          · rw [hHe]
            exact u1.2.reA (fun q h1 h2 => hA1 q h2)
          · exact (t0.trans (s1.mono (by omega) (by omega))).trans t1
      have hB : ∀ q, k' ≤ q → q < l → (seg p k k' z).B q = z.B q := fun q h1 h2 => (key.2.2 q (.inr h1)).2
      have e := seg_exact (F := F) (i := m) (j := j) (k := k') (l := l) (seg p k k' z) (by rw [key.1]; exact hr.reB hB) (by rw [key.1]; exact hcA) hst
      have s2 := seg_same hr (seg p k k' z)
      rw [along_next g1 g2 g5]
      rw [key.1] at e
      exact ⟨e.1, .inr ⟨m, k', key.2.1.reA g3 (fun q h1 h2 => (s2 q (.inl h2)).1), g1, g2, g3, g4, g5, e.2⟩⟩

/-- the first part from k up to l that uses a box that is not full ahead of it: the place of the letter; -1: there is none -/
def scanM (p : Nat → Pt) (A : Nat → Nat → Bool) : Nat → Nat → Int
  | 0, _ => -1
  | n + 1, k => if useB (p k) = true ∧ A k (useBx (p k)) = false then (usePl (p k) : Int) else scanM p A n (k + 1)
theorem scanM_neg (p : Nat → Pt) (A : Nat → Nat → Bool) : ∀ n k, scanM p A n k < 0 → scanM p A n k = -1
  | 0, _, _ => rfl
  | n + 1, k, h => by
    unfold scanM at h ⊢
    split at h
    · omega
    · rename_i q
      rw [if_neg q]
      exact scanM_neg p A n (k + 1) h
theorem scanM_add (p : Nat → Pt) (A : Nat → Nat → Bool) : ∀ (m n k : Nat), scanM p A (m + n) k = if 0 ≤ scanM p A m k then scanM p A m k else scanM p A n (k + m)
  | 0, n, k => by rw [Nat.zero_add]; rfl
  | m + 1, n, k => by
    rw [show m + 1 + n = (m + n) + 1 by omega]
    show (if useB (p k) = true ∧ A k (useBx (p k)) = false then (usePl (p k) : Int) else scanM p A (m + n) (k + 1)) = (if 0 ≤ (if useB (p k) = true ∧ A k (useBx (p k)) = false then (usePl (p k) : Int) else scanM p A m (k + 1)) then (if useB (p k) = true ∧ A k (useBx (p k)) = false then (usePl (p k) : Int) else scanM p A m (k + 1)) else scanM p A n (k + (m + 1)))
    split
    · rw [if_pos (by omega)]
    · rw [scanM_add p A m n (k + 1), show k + 1 + m = k + (m + 1) by omega]
def scan (p : Nat → Pt) (A : Nat → Nat → Bool) (k l : Nat) : Int := scanM p A (l - k) k
theorem scan_app (p : Nat → Pt) (A : Nat → Nat → Bool) {k m l : Nat} (h1 : k ≤ m) (h2 : m ≤ l) : scan p A k l = if 0 ≤ scan p A k m then scan p A k m else scan p A m l := by
  unfold scan
  rw [show l - k = (m - k) + (l - m) by omega, scanM_add, show k + (m - k) = m by omega]
theorem scan_nil (p : Nat → Pt) (A : Nat → Nat → Bool) (k : Nat) : scan p A k k = -1 := by unfold scan; rw [Nat.sub_self]; rfl
theorem scan_one (p : Nat → Pt) (A : Nat → Nat → Bool) (k : Nat) : scan p A k (k + 1) = if useB (p k) = true ∧ A k (useBx (p k)) = false then (usePl (p k) : Int) else -1 := by
  unfold scan
  rw [show k + 1 - k = 1 by omega]
  rfl
theorem scan_brace {p : Nat → Pt} (A : Nat → Nat → Bool) {k : Nat} (h : 8 ≤ (p k).kind) : scan p A k (k + 1) = -1 := by
  rw [scan_one, if_neg]
  intro q
  have := q.1
  unfold useB at this
  simp at this
  omega
theorem scan_neg {p : Nat → Pt} {A : Nat → Nat → Bool} {k l : Nat} (h : ¬ 0 ≤ scan p A k l) : scan p A k l = -1 := scanM_neg p A _ _ (by unfold scan at h; omega)
theorem scan_skip {p : Nat → Pt} (A : Nat → Nat → Bool) {k l : Nat} (hk : 8 ≤ (p k).kind) (h : k < l) : scan p A k l = scan p A (k + 1) l := by
  rw [scan_app p A (m := k + 1) (by omega) (by omega), scan_brace A hk]
  rfl
theorem scan_cut {p : Nat → Pt} (A : Nat → Nat → Bool) {k l : Nat} (hk : 8 ≤ (p l).kind) (h : k ≤ l) : scan p A k (l + 1) = scan p A k l := by
  rw [scan_app p A (m := l) h (by omega), scan_brace A hk]
  split
  · rfl
  · rename_i q
    exact (scan_neg q).symm

/-- the document's place is the first of the parts' -/
theorem scan_mis {A : Nat → Nat → Bool} : ∀ {F i j k l : Nat} {f : Nat → Bool}, SegQ p s TrueC (ExactC A) F i j k l f → misN s F i j f = scan p A k l
  | 0, i, j, k, l, f, h => by
    obtain ⟨e1, e2⟩ := h
    subst e1 e2
    rw [scan_nil]
    rfl
  | F + 1, i, j, k, l, f, h => by
    rcases h with ⟨e1, e2⟩ | ⟨m, k', ⟨hc, hs⟩, g1, g2, g3, g4, g5, hr⟩
    · subst e1 e2
      rw [scan_nil, misN_end]
    · have key : misP s (alongF s F) (misN s F) i f = scan p A k k' := by
        rcases hs with ⟨q1, q2, q3⟩ | ⟨a, b, c, ka, kb, q1, q2, q3, q4, q5, q6, q7, q8, q9, q10, q11, q12⟩ | ⟨a, b, ka, q1, q2, q3, q4, q5, q6, q7, q8, q9⟩
        · rw [misP_simple q1, q2, scan_one, hc]
          rcases q3.use with ⟨u1, u2⟩ | ⟨u1, u2, u3⟩
          · rw [if_neg (by rw [u2]; omega), if_neg (by rw [u1]; simp)]
          · rw [u2, show ((usePl (p k) : Nat) : Int).toNat = usePl (p k) from rfl, u3]
            by_cases q : f (useBx (p k)) = false
            · rw [if_pos ⟨by omega, q⟩, if_pos ⟨u1, q⟩]
            · rw [if_neg (fun e => q e.2), if_neg (fun e => q e.2)]
        · rw [misP_if q1, scan_mis q2, scan_mis q3, q5, scan_cut A (by omega) (by omega), scan_skip A (k := k) (by omega) (by omega), scan_app p A (k := k + 1) (m := ka) (l := kb) (by omega) (by omega), scan_skip A (k := ka) (l := kb) (by omega) (by omega)]
          by_cases q : scan p A (k + 1) ka < 0
          · rw [if_pos q, if_neg (by omega)]
          · rw [if_neg q, if_pos (by omega)]
        · have := q3.le
          rw [misP_loop q1, scan_mis q3, q5, scan_cut A (by omega) (by omega), scan_skip A (k := k) (by omega) (by omega)]
      show (if i < j then (if 0 ≤ misP s (alongF s F) (misN s F) i f then misP s (alongF s F) (misN s F) i f else misN s F (behN s i) j (afterF (alongF s F) s i f)) else -1) = _
      rw [if_pos (by omega), g5, key, scan_mis hr, scan_app p A (k := k) (m := k') (l := l) (by omega) (by omega)]
end
end Go.Proofs.YthcjcjfgdgnljabDoor

namespace Go.Proofs.YthcjcjfgdgnljabDoor
open Go.RowKit
set_option linter.unusedVariables false

/-- an operand's two cells -/
def odB : Od → Bool
  | .n _ => true
  | .v _ => false
def odI : Od → Nat
  | .n k => k
  | .v x => x
/-- the cells of a part; clo: the part that closes its brace -/
def ptC (t : Pt) (clo : Nat) : List Value := [.int .i64 (t.kind : Int), .int .i64 (t.place : Int), .int .i64 (t.num : Int), .int .i64 (t.box : Int), .int .i64 (t.src : Int), .bool (odB t.o1), .int .i64 (odI t.o1 : Int), .int .u8 (t.sign : Int), .bool (odB t.o2), .int .i64 (odI t.o2 : Int), .int .i64 (t.opn : Int), .int .i64 (clo : Int)]
/-- a part whose numbers are in their bounds -/
structure PtOk (t : Pt) : Prop where
  k : t.kind ≤ 12
  n : t.num < 26
  o1 : OdOk t.o1
  o2 : OdOk t.o2
  sg : t.sign < 256
  b : t.box < 26
  s : t.src < 26
  p : t.place ≤ 100000
  o : t.opn ≤ 100000

set_option maxHeartbeats 1000000 in
theorem fbehind_fn (w : World) (t : Pt) (clo : Nat) (f : Nat → Bool) (ht : PtOk t) :
    Calls Tryd.prog 36 #[.agg #[.int .i64 (t.kind : Int), .int .i64 (t.place : Int), .int .i64 (t.num : Int), .int .i64 (t.box : Int), .int .i64 (t.src : Int), .bool (odB t.o1), .int .i64 (odI t.o1 : Int), .int .u8 (t.sign : Int), .bool (odB t.o2), .int .i64 (odI t.o2 : Int), .int .i64 (t.opn : Int), .int .i64 (clo : Int)], .int .u32 (msk f : Int)] w fun e w' => e = .returned (.int .u32 (msk (behP t f) : Int)) ∧ Fr NoB w w' := by
  obtain ⟨kind, place, num, box, src, o1, sign, o2, opn⟩ := t
  have hb : box < 26 := ht.b
  have hs : src < 26 := ht.s
  clear ht
  show Calls Tryd.prog 36 #[.agg #[.int .i64 (kind : Int), .int .i64 (place : Int), .int .i64 (num : Int), .int .i64 (box : Int), .int .i64 (src : Int), .bool (odB o1), .int .i64 (odI o1 : Int), .int .u8 (sign : Int), .bool (odB o2), .int .i64 (odI o2 : Int), .int .i64 (opn : Int), .int .i64 (clo : Int)], .int .u32 (msk f : Int)] w fun e w' => e = .returned (.int .u32 (msk (behP ⟨kind, place, num, box, src, o1, sign, o2, opn⟩ f) : Int)) ∧ Fr NoB w w'
  by_cases h4x : kind = 4
  · have hE : behP ⟨kind, place, num, box, src, o1, sign, o2, opn⟩ f = updB f box true := by unfold behP; rw [if_pos h4x]
    rw [hE]
    subst h4x
    clear hE
    go_enter Tryd.func36, Tryd.ntmps36
    go_wp2_with (go_at_call 47; refine (with_fn _ f box hb).mono ?_; rintro e w1 ⟨rfl, hw⟩; have hw2 := hw.symm; clear hw; subst hw2)
    go_ret
    exact ⟨rfl, (Fr.refl _ _).alloc _⟩
  · have b4x : ((kind : Int) == 4) = false := beq_eq_false_iff_ne.2 (by omega)
    by_cases h7x : kind = 7
    · have hE : behP ⟨kind, place, num, box, src, o1, sign, o2, opn⟩ f = updB f box false := by unfold behP; rw [if_neg h4x, if_pos h7x]
      rw [hE]
      subst h7x
      clear hE b4x h4x
      go_enter Tryd.func36, Tryd.ntmps36
      go_wp2_with (go_at_call 48; refine (without_fn _ f box hb).mono ?_; rintro e w1 ⟨rfl, hw⟩; have hw2 := hw.symm; clear hw; subst hw2)
      go_ret
      exact ⟨rfl, (Fr.refl _ _).alloc _⟩
    · have b7x : ((kind : Int) == 7) = false := beq_eq_false_iff_ne.2 (by omega)
      by_cases h5x : kind = 5
      · have hE : behP ⟨kind, place, num, box, src, o1, sign, o2, opn⟩ f = moveF box src f := by unfold behP; rw [if_neg h4x, if_neg h7x, if_pos h5x]
        rw [hE]
        subst h5x
        clear hE b4x h4x b7x h7x
        go_enter Tryd.func36, Tryd.ntmps36
        go_wp2_with (go_at_call 49; refine (move_fn _ f box src hb hs).mono ?_; rintro e w1 ⟨rfl, hw⟩; have hw2 := hw.symm; clear hw; subst hw2)
        go_ret
        exact ⟨rfl, (Fr.refl _ _).alloc _⟩
      · have b5x : ((kind : Int) == 5) = false := beq_eq_false_iff_ne.2 (by omega)
        have hE : behP ⟨kind, place, num, box, src, o1, sign, o2, opn⟩ f = f := by unfold behP; rw [if_neg h4x, if_neg h7x, if_neg h5x]
        rw [hE]
        clear hE h4x h7x h5x
        go_enter Tryd.func36, Tryd.ntmps36
        go_wp2
        go_ret
        exact ⟨rfl, (Fr.refl _ _).alloc _⟩

/-- parts in memory; C: the parts that close their braces -/
structure PartRow (w : World) (ao : Option Addr) (n : Nat) (p : Nat → Pt) (C : Nat → Nat) : Prop where
  some_ : 0 < n → ∃ g, ao = some ⟨g, 0, none⟩
  c : ∀ g i j u, i < n → ao = some ⟨g, 0, none⟩ → (ptC (p i) (C i))[j]? = some u → w.cell? ⟨g, i * 12 + j, none⟩ = some u
theorem PartRow.fr {S : Nat → Prop} {w w' : World} {ao : Option Addr} {n : Nat} {p : Nat → Pt} {C : Nat → Nat} (h : PartRow w ao n p C) (hf : Fr S w w') (hs : ∀ g, ao = some ⟨g, 0, none⟩ → ¬ S g) : PartRow w' ao n p C :=
  ⟨h.some_, fun g i j u hi e hu => hf.cell_some (h.c g i j u hi e hu) (hs g e)⟩
theorem PartRow.no {w w' : World} {ao : Option Addr} {n : Nat} {p : Nat → Pt} {C : Nat → Nat} (h : PartRow w ao n p C) (hf : Fr NoB w w') : PartRow w' ao n p C := h.fr hf (fun _ _ h => h)

/-- the sets ahead of and behind each part, in memory -/
structure Arnd (w : World) (ga n : Nat) (A B : Nat → Nat → Bool) : Prop where
  a : ∀ i, i < n → w.cell? ⟨ga, i * 2, none⟩ = some (.int .u32 (msk (A i) : Int))
  b : ∀ i, i < n → w.cell? ⟨ga, i * 2 + 1, none⟩ = some (.int .u32 (msk (B i) : Int))
  f : ∀ o, w.frozen? ⟨ga, o, none⟩ = false
theorem Arnd.fr {S : Nat → Prop} {w w' : World} {ga n : Nat} {A B : Nat → Nat → Bool} (h : Arnd w ga n A B) (hf : Fr S w w') (hs : ¬ S ga) (hl : ga < w.heap.size) : Arnd w' ga n A B :=
  ⟨fun i hi => hf.cell_some (h.a i hi) hs, fun i hi => hf.cell_some (h.b i hi) hs, fun o => (hf.frozen (p := ⟨ga, o, none⟩) hl hs).trans (h.f o)⟩
theorem Arnd.no {w w' : World} {ga n : Nat} {A B : Nat → Nat → Bool} (h : Arnd w ga n A B) (hf : Fr NoB w w') (hl : ga < w.heap.size) : Arnd w' ga n A B := h.fr hf id hl
theorem Arnd.setA {w : World} {ga n : Nat} {A B : Nat → Nat → Bool} (h : Arnd w ga n A B) {k : Nat} (hk : k < n) (f : Nat → Bool) : Arnd (w.setCell ⟨ga, k * 2, none⟩ (.int .u32 (msk f : Int))) ga n (updA A k f) B :=
  ⟨fun i hi => by
      by_cases e : i = k
      · subst e; rw [updA_at]; exact cell_same (h.a i hi)
      · rw [updA_ne _ _ e]; exact (cell_other (.inr (by omega))).trans (h.a i hi),
    fun i hi => (cell_other (.inr (by omega))).trans (h.b i hi), fun o => by rw [World.frozen?_setCell]; exact h.f o⟩
theorem Arnd.setB {w : World} {ga n : Nat} {A B : Nat → Nat → Bool} (h : Arnd w ga n A B) {k : Nat} (hk : k < n) (f : Nat → Bool) : Arnd (w.setCell ⟨ga, k * 2 + 1, none⟩ (.int .u32 (msk f : Int))) ga n A (updA B k f) :=
  ⟨fun i hi => (cell_other (.inr (by omega))).trans (h.a i hi),
    fun i hi => by
      by_cases e : i = k
      · subst e; rw [updA_at]; exact cell_same (h.b i hi)
      · rw [updA_ne _ _ e]; exact (cell_other (.inr (by omega))).trans (h.b i hi), fun o => by rw [World.frozen?_setCell]; exact h.f o⟩
theorem mk_ne {f g : Nat → Bool} : ((msk (bothF f g) : Int) != (msk f : Int)) = !subD f g := by
  by_cases h : subF f g
  · have : msk (bothF f g) = msk f := mk_congr fun i hi => by
      unfold bothF
      cases hf : f i
      · rfl
      · rw [h i hi hf]; rfl
    rw [this, subD_true h]
    simp
  · rw [subD_false h]
    have hne : msk (bothF f g) ≠ msk f := fun e => h fun i hi hf => by
      have h1 := mk_bit (bothF f g) i
      have h2 := mk_bit f i
      rw [e, h2] at h1
      simp [hi, hf] at h1
      unfold bothF at h1
      simp [hf] at h1
      exact h1
    exact bne_iff_ne.2 (by omega)
end Go.Proofs.YthcjcjfgdgnljabDoor
