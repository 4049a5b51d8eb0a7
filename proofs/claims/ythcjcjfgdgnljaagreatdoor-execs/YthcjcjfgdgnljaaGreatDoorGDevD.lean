/-
  DevQB, DevD: one behind the other.
-/
import Derived.Test.YthcjcjfgdgnljaaGreatDoorGDevQ
import Derived.Test.YthcjcjfgdgnljaaGreatDoorGDevC
namespace Go.Proofs.YthcjcjfgdgnljaaGreatDoor
open Go.RowKit
set_option linter.unusedVariables false

section
variable (p : Nat → Pt) (s : ByteArray) (A B : Nat → Nat → Bool)
/-- as SQ, with what is full on both sides of each part -/
def SL (F : Nat) (R : Nat → Nat → Nat → Nat → (Nat → Bool) → Prop) (i m k k' : Nat) (f : Nat → Bool) : Prop :=
  A k = f ∧
  ((Simple s i m ∧ k' = k + 1 ∧ SimPart s i (p k)) ∨
   (∃ a b c ka kb, IfAt s i a b c ∧ R (a + 1) b (k + 1) ka f ∧ R (b + 2) c (ka + 1) kb f ∧ m = c + 1 ∧ k' = kb + 1 ∧ ((p k).kind = 8 ∧ (p k).o1 = odN s (i + 1) ∧ (p k).place = i ∧ (p ka).place = b ∧ (p kb).place = c) ∧ (p ka).kind = 9 ∧ (p ka).opn = k ∧ (p kb).kind = 10 ∧ (p kb).opn = ka ∧ k + 1 ≤ ka ∧ ka + 1 ≤ kb ∧
      (A ka = alongF s F (a + 1) b f ∧ A kb = alongF s F (b + 2) c f ∧ B kb = afterF (alongF s F) s i f)) ∨
   (∃ a b ka, LoopAt s i a b ∧ R (a + 1) b (k + 1) ka (iterF (alongF s F (a + 1) b) 27 f) ∧ m = b + 1 ∧ k' = ka + 1 ∧ ((p k).kind = 11 ∧ (p k).o1 = odN s (i + 1) ∧ (p k).place = i ∧ (p ka).place = b) ∧ (p ka).kind = 12 ∧ (p ka).opn = k ∧ k + 1 ≤ ka ∧
      (B k = iterF (alongF s F (a + 1) b) 27 f ∧ A ka = alongF s F (a + 1) b (iterF (alongF s F (a + 1) b) 27 f) ∧ B ka = iterF (alongF s F (a + 1) b) 27 f)))
def SegL : Nat → Nat → Nat → Nat → Nat → (Nat → Bool) → Prop
  | 0, i, j, k, l, _ => i = j ∧ k = l
  | F + 1, i, j, k, l, f => (i = j ∧ k = l) ∨ ∃ m k', SL p s A B F (SegL F) i m k k' f ∧ i < m ∧ m ≤ j ∧ k < k' ∧ k' ≤ l ∧ behN s i = m ∧ SegL F m j k' l (afterF (alongF s F) s i f)
end
section
variable {p : Nat → Pt} {s : ByteArray} {A B : Nat → Nat → Bool}
theorem SegL.le : ∀ {F i j k l : Nat} {f : Nat → Bool}, SegL p s A B F i j k l f → k ≤ l
  | 0, _, _, _, _, _, h => Nat.le_of_eq h.2
  | F + 1, i, j, k, l, f, h => by
    rcases h with h | ⟨m, k', _, _, _, g3, g4, _⟩
    · exact Nat.le_of_eq h.2
    · omega
theorem SegL.segQ : ∀ {F i j k l : Nat} {f : Nat → Bool}, SegL p s A B F i j k l f → SegQ p s TrueC (ExactC A) F i j k l f
  | 0, _, _, _, _, _, h => h
  | F + 1, i, j, k, l, f, h => by
    rcases h with h | ⟨m, k', ⟨hc, hs⟩, g1, g2, g3, g4, g5, hr⟩
    · exact .inl h
    · refine .inr ⟨m, k', ⟨hc, ?_⟩, g1, g2, g3, g4, g5, hr.segQ⟩
      rcases hs with hs | ⟨a, b, c, ka, kb, q1, q2, q3, q4, q5, q6, q7, q8, q9, q10, q11, q12, _⟩ | ⟨a, b, ka, q1, q3, q4, q5, q6, q7, q8, q9, _⟩
      · exact .inl hs
      · exact .inr (.inl ⟨a, b, c, ka, kb, q1, q2.segQ, q3.segQ, q4, q5, q6, q7, q8, q9, q10, q11, q12⟩)
      · exact .inr (.inr ⟨a, b, ka, q1, trivial, q3.segQ, q4, q5, q6, q7, q8, q9⟩)
theorem SegL.re {A' B' : Nat → Nat → Bool} : ∀ {F i j k l : Nat} {f : Nat → Bool}, SegL p s A B F i j k l f → (∀ q, k ≤ q → q < l → A' q = A q ∧ B' q = B q) → SegL p s A' B' F i j k l f
  | 0, _, _, _, _, _, h, _ => h
  | F + 1, i, j, k, l, f, h, e => by
    rcases h with h | ⟨m, k', ⟨hc, hs⟩, g1, g2, g3, g4, g5, hr⟩
    · exact .inl h
    · refine .inr ⟨m, k', ⟨(e k (by omega) (by omega)).1.trans hc, ?_⟩, g1, g2, g3, g4, g5, hr.re (fun q a b => e q (by omega) b)⟩
      rcases hs with hs | ⟨a, b, c, ka, kb, q1, q2, q3, q4, q5, q6, q7, q8, q9, q10, q11, q12, q13, q14, q15⟩ | ⟨a, b, ka, q1, q3, q4, q5, q6, q7, q8, q9, q13, q14, q15⟩
      · exact .inl hs
      · exact .inr (.inl ⟨a, b, c, ka, kb, q1, q2.re (fun q a b => e q (by omega) (by omega)), q3.re (fun q a b => e q (by omega) (by omega)), q4, q5, q6, q7, q8, q9, q10, q11, q12, (e ka (by omega) (by omega)).1.trans q13, (e kb (by omega) (by omega)).1.trans q14, (e kb (by omega) (by omega)).2.trans q15⟩)
      · exact .inr (.inr ⟨a, b, ka, q1, q3.re (fun q a b => e q (by omega) (by omega)), q4, q5, q6, q7, q8, q9, (e k (by omega) (by omega)).2.trans q13, (e ka (by omega) (by omega)).1.trans q14, (e ka (by omega) (by omega)).2.trans q15⟩)
theorem SL.re {A' B' : Nat → Nat → Bool} {F i m k k' : Nat} {f : Nat → Bool} (h : SL p s A B F (SegL p s A B F) i m k k' f) (hk : k < k') (e : ∀ q, k ≤ q → q < k' → A' q = A q ∧ B' q = B q) : SL p s A' B' F (SegL p s A' B' F) i m k k' f := by
  refine ⟨(e k (by omega) (by omega)).1.trans h.1, ?_⟩
  rcases h.2 with hs | ⟨a, b, c, ka, kb, q1, q2, q3, q4, q5, q6, q7, q8, q9, q10, q11, q12, q13, q14, q15⟩ | ⟨a, b, ka, q1, q3, q4, q5, q6, q7, q8, q9, q13, q14, q15⟩
  · exact .inl hs
  · exact .inr (.inl ⟨a, b, c, ka, kb, q1, q2.re (fun q a b => e q (by omega) (by omega)), q3.re (fun q a b => e q (by omega) (by omega)), q4, q5, q6, q7, q8, q9, q10, q11, q12, (e ka (by omega) (by omega)).1.trans q13, (e kb (by omega) (by omega)).1.trans q14, (e kb (by omega) (by omega)).2.trans q15⟩)
  · exact .inr (.inr ⟨a, b, ka, q1, q3.re (fun q a b => e q (by omega) (by omega)), q4, q5, q6, q7, q8, q9, (e k (by omega) (by omega)).2.trans q13, (e ka (by omega) (by omega)).1.trans q14, (e ka (by omega) (by omega)).2.trans q15⟩)
/-- a pass after which all loops have kept their sets tells just what the document says -/
theorem seg_low : ∀ {F i j k l : Nat} (z : Ps), SegQ p s (AboveC z.B) TrueC F i j k l z.now → Clean z.now → (seg p k l z).st = true → (seg p k l z).now = alongF s F i j z.now ∧ SegL p s (seg p k l z).A (seg p k l z).B F i j k l z.now
  | 0, i, j, k, l, z, h, hc, hs => by
    obtain ⟨e1, e2⟩ := h
    subst e1 e2
    rw [seg_nil]
    exact ⟨rfl, rfl, rfl⟩
  | F + 1, i, j, k, l, z, h, hcf, hst => by
    rcases h with ⟨e1, e2⟩ | ⟨m, k', ⟨hc, hs⟩, g1, g2, g3, g4, g5, hr⟩
    · subst e1 e2
      rw [seg_nil, alongF_end]
      exact ⟨rfl, .inl ⟨rfl, rfl⟩⟩
    · rw [seg_app p (m := k') (by omega) (by omega)] at hst ⊢
      have hst1 := seg_st hst
      have hcA : Clean (afterF (alongF s F) s i z.now) := Clean.after (fun a b g hg => Clean.along hg) hcf
      have key : (seg p k k' z).now = afterF (alongF s F) s i z.now ∧ SL p s (seg p k k' z).A (seg p k k' z).B F (SegL p s (seg p k k' z).A (seg p k k' z).B F) i m k k' z.now ∧ Same k k' z (seg p k k' z) := by
        rcases hs with ⟨q1, q2, q3⟩ | ⟨a, b, c, ka, kb, q1, q2, q3, q4, q5, q6, q7, q8, q9, q10, q11, q12⟩ | ⟨a, b, ka, q1, q2, q3, q4, q5, q6, q7, q8, q9⟩
        · rw [q2, seg_one]
          refine ⟨?_, ⟨step_A, .inl ⟨q1, rfl, q3⟩⟩, step_same z (Nat.le_refl _) (by omega) (fun e => by have := q3.kd; omega)⟩
          have hk := q3.kd
          rw [step_now, now7 (by omega), afterF_simple q1, q3.eff _ hcf]
        · have l2 := q2.le
          have l3 := q3.le
          rw [q5, seg_last p (l := kb) (by omega), seg_app p (m := ka + 1) (by omega) (by omega), seg_last p (l := ka) (by omega), seg_head p (l := ka) (by omega)] at hst1 ⊢
          have n0 : (stepM p k z).now = z.now := by rw [step_now, now7 (by omega), beh7 q6.1]
          have t0 := step_same (p := p) (i := k) (k := k) (l := kb + 1) z (by omega) (by omega) (fun e => by omega)
          have t0' := step_same (p := p) (i := k) (k := k) (l := k + 1) z (by omega) (by omega) (fun e => by omega)
          have s1 := seg_same q2 (stepM p k z)
          have hA0 : (stepM p k z).A k = z.now := step_A
          have u1 := fun h => seg_low (F := F) (i := a + 1) (j := b) (k := k + 1) (l := ka) (stepM p k z) (by rw [n0]; exact q2.reB (fun q h1 h2 => (t0' q (.inr (by omega))).2)) (by rw [n0]; exact hcf) h
          generalize hz1 : seg p (k + 1) ka (stepM p k z) = z1 at hst1 s1 u1 ⊢
          have nA : z1.A k = z.now := ((s1 k (.inl (by omega))).1).trans hA0
          have n1 : (stepM p ka z1).now = z.now := by rw [step_now, now8 q7 (by omega), q8, nA]
          have t1 := step_same (p := p) (i := ka) (k := k) (l := kb + 1) z1 (by omega) (by omega) (fun e => by omega)
          have t1' := step_same (p := p) (i := ka) (k := ka) (l := ka + 1) z1 (by omega) (by omega) (fun e => by omega)
          have hA2 : (stepM p ka z1).A ka = z1.now := step_A
          have s2 := seg_same q3 (stepM p ka z1)
          have u2 := fun h => seg_low (F := F) (i := b + 2) (j := c) (k := ka + 1) (l := kb) (stepM p ka z1) (by rw [n1]; exact q3.reB (fun q h1 h2 => ((t1' q (.inr (by omega))).2).trans (((s1 q (.inr (by omega))).2).trans (t0' q (.inr (by omega))).2))) (by rw [n1]; exact hcf) h
          have hstm := step_st hst1
          generalize hz2 : seg p (ka + 1) kb (stepM p ka z1) = z2 at hst1 s2 u2 hstm ⊢
          have nA2 : z2.A ka = z1.now := ((s2 ka (.inl (by omega))).1).trans hA2
          have t2 := step_same (p := p) (i := kb) (k := k) (l := kb + 1) z2 (by omega) (by omega) (fun e => by omega)
          have t2' := step_same (p := p) (i := kb) (k := kb) (l := kb + 1) z2 (by omega) (by omega) (fun e => by omega)
          have e2 := u2 hstm
          have hst3 : (stepM p ka z1).st = true := by rw [← hz2] at hstm; exact seg_st hstm
          have e1 := u1 (step_st hst3)
          rw [n0] at e1
          rw [n1] at e2
          have hAk : ∀ q, k ≤ q → q < ka → (stepM p kb z2).A q = z1.A q ∧ (stepM p kb z2).B q = z1.B q := fun q h1 h2 =>
            ⟨((t2' q (.inl (by omega))).1).trans (((s2 q (.inl (by omega))).1).trans (t1' q (.inl (by omega))).1), ((t2' q (.inl (by omega))).2).trans (((s2 q (.inl (by omega))).2).trans (t1' q (.inl (by omega))).2)⟩
          have hnow : nowM p kb z2 = afterF (alongF s F) s i z.now := by rw [now9 q9 (by omega), q10, nA2, afterF_if q1, both_comm, e1.1, e2.1]
          refine ⟨?_, ⟨?_, .inr (.inl ⟨a, b, c, ka, kb, q1, ?_, ?_, q4, rfl, q6, q7, q8, q9, q10, q11, q12, ?_, ?_, ?_⟩)⟩, ?_⟩
          · rw [step_now]; exact hnow
          · rw [(hAk k (by omega) (by omega)).1, nA]
          · exact e1.2.re (fun q h1 h2 => hAk q (by omega) h2)
          · exact e2.2.re (fun q h1 h2 => t2' q (.inl (by omega)))
          · rw [(t2' ka (.inl (by omega))).1, nA2, e1.1]
          · rw [step_A, e2.1]
          · rw [step_B]; exact hnow
          · exact ((((t0.trans (s1.mono (by omega) (by omega))).trans t1).trans (s2.mono (by omega) (by omega))).trans t2)
        · have l2 := q3.le
          rw [q5, seg_last p (l := ka) (by omega), seg_head p (l := ka) (by omega)] at hst1 ⊢
          have hf := head_facts (s := s) F a b hcf
          have hgr := fun G h1 h2 => iter_great (T := alongF s F (a + 1) b) (fun f g h => along_mono h) (G := G) h1 27 z.now h2
          have hcH : Clean (iterF (alongF s F (a + 1) b) 27 z.now) := Clean.iter hcf
          generalize hHe : iterF (alongF s F (a + 1) b) 27 z.now = H at q2 q3 hf hcH hgr
          have n0 : (stepM p k z).now = bothF z.now (z.B k) := by rw [step_now, now10 q6.1]
          have hB : (stepM p k z).B k = bothF z.now (z.B k) := by rw [step_B, now10 q6.1]
          have hc0 : Clean (bothF z.now (z.B k)) := hcf.both
          have hH0 : Sub H (bothF z.now (z.B k)) := hf.1.into q2
          have t0 := step_same (p := p) (i := k) (k := k) (l := ka + 1) z (by omega) (by omega) (fun e => by omega)
          have t0' := step_same (p := p) (i := k) (k := k) (l := k + 1) z (by omega) (by omega) (fun e => by omega)
          have hA0 : (stepM p k z).A k = z.now := step_A
          have s1 := seg_same q3 (stepM p k z)
          have d1 := seg_down q3 (stepM p k z) (by rw [n0]; exact hc0) (step_st hst1)
          have hsub := step_st11 q7 hst1
          have nB : (seg p (k + 1) ka (stepM p k z)).B k = bothF z.now (z.B k) := ((s1 k (.inl (by omega))).2).trans hB
          rw [q8, nB] at hsub
          rw [n0] at d1
          have hpf : Sub (bothF z.now (z.B k)) (alongF s F (a + 1) b (bothF z.now (z.B k))) := (Sub.of hc0 hsub).trans d1.2
          have hEq : bothF z.now (z.B k) = H := Sub.anti (hgr _ hpf (Sub.left _ _)) hH0
          rw [hEq] at n0 nB
          have u1 := seg_low (F := F) (i := a + 1) (j := b) (k := k + 1) (l := ka) (stepM p k z) (by rw [n0]; exact q3.reB (fun q h1 h2 => (t0' q (.inr (by omega))).2)) (by rw [n0]; exact hcH) (step_st hst1)
          rw [n0] at u1
          generalize seg p (k + 1) ka (stepM p k z) = z1 at hst1 s1 u1 nB ⊢
          have t1 := step_same (p := p) (i := ka) (k := k) (l := ka + 1) z1 (by omega) (by omega) (fun e => by omega)
          have hA1 : ∀ q, q < ka → (stepM p ka z1).A q = z1.A q := fun q h => updA_ne _ _ (by omega)
          have hBin : ∀ q, k + 1 ≤ q → q < ka → (stepM p ka z1).B q = z1.B q := fun q h1 h2 => by
            show updA (if (p ka).kind = 12 then updA z1.B (p ka).opn (nowM p ka z1) else z1.B) ka (nowM p ka z1) q = z1.B q
            rw [updA_ne _ _ (by omega), if_pos q7, updA_ne _ _ (by omega)]
          have hnow : nowM p ka z1 = H := by rw [now11 q7, q8, nB, u1.1, both_sub hf.2]
          have hBk : (stepM p ka z1).B k = nowM p ka z1 := by
            have := step_B11 (z := z1) q7 (by omega)
            rwa [q8] at this
          refine ⟨?_, ⟨?_, .inr (.inr ⟨a, b, ka, q1, ?_, q4, rfl, q6, q7, q8, q9, ?_, ?_, ?_⟩)⟩, ?_⟩
          · rw [step_now, hnow, afterF_loop q1, hHe]
          · rw [hA1 k (by omega)]
            exact ((s1 k (.inl (by omega))).1).trans hA0
          · rw [hHe]
            exact u1.2.re (fun q h1 h2 => ⟨hA1 q h2, hBin q h1 h2⟩)
          · rw [hHe, hBk, hnow]
          · rw [hHe, step_A, u1.1]
          · rw [hHe, step_B, hnow]
          · exact (t0.trans (s1.mono (by omega) (by omega))).trans t1
      have hB : ∀ q, k' ≤ q → q < l → (seg p k k' z).B q = z.B q := fun q h1 h2 => (key.2.2 q (.inr h1)).2
      have e := seg_low (F := F) (i := m) (j := j) (k := k') (l := l) (seg p k k' z) (by rw [key.1]; exact hr.reB hB) (by rw [key.1]; exact hcA) hst
      have s2 := seg_same hr (seg p k k' z)
      rw [along_next g1 g2 g5]
      rw [key.1] at e
      exact ⟨e.1, .inr ⟨m, k', key.2.1.re g3 (fun q h1 h2 => s2 q (.inl h2)), g1, g2, g3, g4, g5, e.2⟩⟩

end
end Go.Proofs.YthcjcjfgdgnljaaGreatDoor

namespace Go.Proofs.YthcjcjfgdgnljaaGreatDoor
open Go.RowKit
set_option linter.unusedVariables false

/-- how many boxes the loops' sets have together -/
def muN (p : Nat → Pt) (B : Nat → Nat → Bool) : Nat → Nat
  | 0 => 0
  | q + 1 => muN p B q + (if (p q).kind = 11 then card (B q) 26 else 0)
theorem muN_le {p : Nat → Pt} {B B' : Nat → Nat → Bool} : ∀ {n : Nat}, (∀ q, q < n → (p q).kind = 11 → Sub (B' q) (B q)) → muN p B' n ≤ muN p B n
  | 0, _ => Nat.le_refl _
  | n + 1, h => by
    have h1 := muN_le (n := n) (fun q hq => h q (by omega))
    show muN p B' n + _ ≤ muN p B n + _
    split
    · rename_i hk
      have := card_mono (n := 26) (fun i _ => h n (by omega) hk i)
      omega
    · omega
theorem muN_lt {p : Nat → Pt} {B B' : Nat → Nat → Bool} : ∀ {n : Nat}, (∀ q, q < n → (p q).kind = 11 → Sub (B' q) (B q)) → (∃ q, q < n ∧ (p q).kind = 11 ∧ ∃ x, x < 26 ∧ B q x = true ∧ B' q x = false) → muN p B' n < muN p B n
  | 0, _, h => by obtain ⟨q, hq, _⟩ := h; omega
  | n + 1, h, ⟨q, hq, hk, x, hx, h1, h2⟩ => by
    show muN p B' n + (if (p n).kind = 11 then card (B' n) 26 else 0) < muN p B n + (if (p n).kind = 11 then card (B n) 26 else 0)
    by_cases e : q = n
    · subst e
      have a1 := muN_le (n := q) (fun q' hq' => h q' (by omega))
      have a2 := card_lt (n := 26) (fun i _ => h q (by omega) hk i) ⟨x, hx, h2, h1⟩
      rw [if_pos hk, if_pos hk]
      omega
    · have a1 := muN_lt (n := n) (fun q' hq' => h q' (by omega)) ⟨q, by omega, hk, x, hx, h1, h2⟩
      split
      · rename_i hk2
        have := card_mono (n := 26) (fun i _ => h n (by omega) hk2 i)
        omega
      · omega
theorem pass_mu {p : Nat → Pt} {n : Nat} (hp : FlatOk p n) (A B : Nat → Nat → Bool) : ∀ i, i ≤ n → (∀ q, q < n → (p q).kind = 11 → Sub ((passM p i 0 ⟨A, B, fun _ => false, true⟩).B q) (B q)) ∧
    ((passM p i 0 ⟨A, B, fun _ => false, true⟩).st = false → ∃ q, q < n ∧ (p q).kind = 11 ∧ ∃ x, x < 26 ∧ B q x = true ∧ (passM p i 0 ⟨A, B, fun _ => false, true⟩).B q x = false)
  | 0, _ => ⟨fun q _ _ => Sub.refl _, fun h => absurd h (by simp [passM])⟩
  | i + 1, hi => by
    obtain ⟨h1, h2⟩ := pass_mu hp A B i (by omega)
    rw [pass_next]
    generalize passM p i 0 ⟨A, B, fun _ => false, true⟩ = z at h1 h2
    obtain ⟨_, _, e3, e4⟩ := step_eq p i z
    have keep : (∀ q, q < n → (p q).kind = 11 → Sub ((stepM p i z).B q) (z.B q)) → z.st = false → ∃ q, q < n ∧ (p q).kind = 11 ∧ ∃ x, x < 26 ∧ B q x = true ∧ (stepM p i z).B q x = false := fun hs hz => by
      obtain ⟨q, hq, hk, x, hx, b1, b2⟩ := h2 hz
      refine ⟨q, hq, hk, x, hx, b1, ?_⟩
      cases hc : (stepM p i z).B q x
      · rfl
      · have := hs q hq hk x hc
        rw [b2] at this; cases this
    by_cases h11 : (p i).kind = 12
    · obtain ⟨f1, f2⟩ := e4 h11
      have ho := hp.op i (by omega) (.inr (.inr h11))
      have hk10 := hp.lp i (by omega) h11
      have hs : ∀ q, q < n → (p q).kind = 11 → Sub ((stepM p i z).B q) (z.B q) := fun q hq hk => by
        rw [f1, updA_ne _ _ (fun e => by subst e; omega)]
        by_cases e : q = (p i).opn
        · rw [e, updA_at, now11 h11]; exact Sub.left _ _
        · rw [updA_ne _ _ e]; exact Sub.refl _
      refine ⟨fun q hq hk => (hs q hq hk).trans (h1 q hq hk), fun hst => ?_⟩
      cases hz : z.st
      · exact keep hs hz
      · rw [f2, hz] at hst
        simp only [Bool.true_and] at hst
        replace hst := subD_not hst
        have : ∃ x, x < 26 ∧ z.B (p i).opn x = true ∧ z.now x = false := by
          apply Classical.byContradiction
          intro hn
          apply hst
          intro x hx hb
          cases hc : z.now x
          · exact absurd ⟨x, hx, hb, hc⟩ hn
          · rfl
        obtain ⟨x, hx, b1, b2⟩ := this
        refine ⟨(p i).opn, by omega, hk10, x, hx, h1 _ (by omega) hk10 x b1, ?_⟩
        rw [step_B11 h11 (by omega), now11 h11]
        unfold bothF
        rw [b2]
        simp
    · obtain ⟨f1, f2⟩ := e3 h11
      have hs : ∀ q, q < n → (p q).kind = 11 → Sub ((stepM p i z).B q) (z.B q) := fun q hq hk => by
        rw [f1]
        by_cases e : q = i
        · subst e
          rw [updA_at, now10 hk]; exact Sub.right _ _
        · rw [updA_ne _ _ e]; exact Sub.refl _
      exact ⟨fun q hq hk => (hs q hq hk).trans (h1 q hq hk), fun hst => keep hs (by rw [f2] at hst; exact hst)⟩

def allF : Nat → Bool := fun i => decide (i < 26)
theorem msk_all : msk allF = 67108863 := by decide
theorem sub_all {f : Nat → Bool} (h : Clean f) : Sub f allF := fun i hi => by
  unfold allF
  by_cases q : i < 26
  · simp [q]
  · rw [h i (by omega)] at hi; cases hi

/-- the parts are those of the text -/
def Seg0 (p : Nat → Pt) (s : ByteArray) (n : Nat) : Prop := SegQ p s (AboveC (fun _ => allF)) TrueC (s.size + 1) 0 s.size 0 n (fun _ => false)
theorem seg_is (p : Nat → Pt) (n : Nat) (z : Ps) : seg p 0 n z = passM p n 0 z := rfl

theorem Tryz.infoArnd : (Tryz.prog.info? 128).map (fun i => (i.zero, i.size, i.bytes)) = some (some (.agg #[.int .u32 0, .int .u32 0]), 2, 8) := by kernel_rfl
theorem made_two32 (n j : Nat) (h : j < n) : (madeCells #[Value.int .u32 0, Value.int .u32 0] n)[j]? = some (.int .u32 0) := by
  unfold madeCells
  have h2 : j % 2 = 0 ∨ j % 2 = 1 := by omega
  rcases h2 with h2 | h2 <;> simp [h, h2]
theorem arnd_made (n : Nat) (hn : n ≤ 100000) : ∃ C : Array Value, (∀ j, j < n * 2 → C[j]? = some (.int .u32 0)) ∧
    ∀ u : World, (Instr.makeSlice 71 (.int .i64 (n : Int)) (.int .i64 (n : Int))).run Tryz.prog u = .ok (.slice (some ⟨u.heap.size, 0, none⟩) n n) (u.alloc (.cells C 128)) := by
  obtain ⟨i0, hi, hz0, hz1, hz2⟩ := info_parts Tryz.infoArnd
  refine ⟨madeCells #[Value.int .u32 0, Value.int .u32 0] (n * 2), fun j hj => made_two32 _ _ hj, fun u => ?_⟩
  have h := run_make (P := Tryz.prog) u 71 128 i0 (.agg #[.int .u32 0, .int .u32 0]) Tryz.underlying71 hi hz0 .i64 .i64 (n : Int) (n : Int) (by omega) (Int.le_refl _) (by rw [hz2]; omega) (by omega)
  simpa [hz1, Value.cells] using h

/-- what Find answers -/
def FindSays (p : Nat → Pt) (s : ByteArray) (n : Nat) (w : World) (e : Ending) (w' : World) : Prop := ∃ (ga : Nat) (A B : Nat → Nat → Bool), e = .returned (.slice (some ⟨ga, 0, none⟩) n n) ∧ Arnd w' ga n A B ∧ SegQ p s TrueC (ExactC A) (s.size + 1) 0 s.size 0 n (fun _ => false) ∧ Fr NoB w w'
/-- and on both sides of each part -/
def FindSays2 (p : Nat → Pt) (s : ByteArray) (n : Nat) (w : World) (e : Ending) (w' : World) : Prop := ∃ (ga : Nat) (A B : Nat → Nat → Bool), e = .returned (.slice (some ⟨ga, 0, none⟩) n n) ∧ Arnd w' ga n A B ∧ (SegL p s A B (s.size + 1) 0 s.size 0 n (fun _ => false) ∧ (0 < n → B (n - 1) = alongF s (s.size + 1) 0 s.size (fun _ => false))) ∧ Fr NoB w w'
theorem pass_last {p : Nat → Pt} : ∀ {n : Nat} {z : Ps}, 0 < n → (passM p n 0 z).B (n - 1) = (passM p n 0 z).now
  | 0, z, h => absurd h (Nat.lt_irrefl _)
  | n + 1, z, _ => by
    rw [pass_next]
    show (stepM p n _).B n = _
    rw [step_B, step_now]
set_option maxRecDepth 8000 in
set_option maxHeartbeats 4000000 in
theorem find_fn2 (w : World) (n pc : Nat) (ao : Option Addr) (p : Nat → Pt) (CL : Nat → Nat) (s : ByteArray) (hn : n ≤ 100000) (hp : FlatOk p n) (hP : PartRow w ao n p CL) (hseg : Seg0 p s n) (hpl : ∀ g, ao = some ⟨g, 0, none⟩ → g < w.heap.size) :
    Calls Tryz.prog 30 #[.slice ao n pc] w fun e w' => FindSays2 p s n w e w' := by
  have Hp : Hid (FlatOk p n) := hp
  have HP : Hid (PartRow w ao n p CL) := hP
  have Hseg : Hid (Seg0 p s n) := hseg
  have Hpl : Hid _ := hpl
  clear hp hP hseg hpl
  obtain ⟨C, hC, hmk⟩ := arnd_made n hn
  have HC : Hid (∀ j, j < n * 2 → C[j]? = some (.int .u32 0)) := hC
  clear hC
  go_enter Tryz.func30, Tryz.ntmps30
  go_upto_region 3 with fail
  have h0 : Arnd ((w.alloc (Obj.cells C 128)).alloc (Obj.cells #[Value.slice ao n pc, Value.slice (some ⟨w.heap.size, 0, none⟩) n n] 124)) w.heap.size n (fun _ _ => false) (fun q => if q < 0 then allF else fun _ => false) := by
    have base : Arnd (w.alloc (Obj.cells C 128)) w.heap.size n (fun _ _ => false) (fun q => if q < 0 then allF else fun _ => false) := by
      refine ⟨fun i hi => ?_, fun i hi => ?_, fun o => World.frozen?_alloc_at _ _ _ _ rfl⟩
      · rw [msk_none]; exact cell_new _ _ _ rfl (HC.out _ (by omega))
      · simp only [Nat.not_lt_zero, if_false]; rw [msk_none]; exact cell_new _ _ _ rfl (HC.out _ (by omega))
    exact base.no ((Fr.refl _ _).alloc _) (by simp)
  have f0 : ((w.alloc (Obj.cells C 128)).alloc (Obj.cells #[Value.slice ao n pc, Value.slice (some ⟨w.heap.size, 0, none⟩) n n] 124)).cell? ⟨w.heap.size + 1, 0, none⟩ = some (.slice ao n pc) := cell_new _ _ _ (by simp) rfl
  have f1 : ((w.alloc (Obj.cells C 128)).alloc (Obj.cells #[Value.slice ao n pc, Value.slice (some ⟨w.heap.size, 0, none⟩) n n] 124)).cell? ⟨w.heap.size + 1, 1, none⟩ = some (.slice (some ⟨w.heap.size, 0, none⟩) n n) := cell_new _ _ _ (by simp) rfl
  have hFr : Fr NoB w ((w.alloc (Obj.cells C 128)).alloc (Obj.cells #[Value.slice ao n pc, Value.slice (some ⟨w.heap.size, 0, none⟩) n n] 124)) := ((Fr.refl _ _).alloc _).alloc _
  generalize ((w.alloc (Obj.cells C 128)).alloc (Obj.cells #[Value.slice ao n pc, Value.slice (some ⟨w.heap.size, 0, none⟩) n n] 124)) = W at *
  have H0 : Hid _ := h0
  have F0 : Hid _ := f0
  have F1 : Hid _ := f1
  have HFr : Hid _ := hFr
  clear h0 f0 f1 hFr hmk HC
  go_loopw [4] (fun t wr => ∃ i : Nat, i ≤ n ∧ t = .int .i64 i ∧ Arnd wr w.heap.size n (fun _ _ => false) (fun q => if q < i then allF else fun _ => false) ∧ Fr (OneB w.heap.size) W wr) (fun t _ => n - (intOf t).toNat)
  case atStart => exact ⟨0, Nat.zero_le _, rfl, H0.out, Fr.refl _ _⟩
  case round =>
    obtain ⟨i, hi, rfl, hA, hF⟩ := hrel
    have hne : ¬ OneB w.heap.size (w.heap.size + 1) := by unfold OneB; omega
    have c1 := hF.cell_some F1.out hne
    have HF : Hid _ := hF
    have HA : Hid _ := hA
    clear hF hA
    by_cases hlt : i < n
    · have e1 := HA.out.b i hlt
      have e2 := HA.out.f (i * 2 + 1)
      simp only [Nat.lt_irrefl, if_false] at e1
      go_wp2
      go_roundw
      case rel =>
        refine ⟨i + 1, by omega, by go_num, ?_, HF.out.setCell (p := ⟨w.heap.size, i * 2 + 1, none⟩) (fun _ => rfl) _⟩
        have this0 := HA.out.setB hlt allF
        rw [msk_all] at this0
        have this : Arnd (wr.setCell ⟨w.heap.size, i * 2 + 1, none⟩ (.int .u32 67108863)) w.heap.size n (fun _ _ => false) (updA (fun q => if q < i then allF else fun _ => false) i allF) := this0
        refine ⟨this.a, fun q hq => ?_, this.f⟩
        rw [this.b q hq]
        unfold updA
        by_cases e : q = i
        · subst e; simp
        · by_cases e2 : q < i
          · simp [e, e2, show q < i + 1 by omega]
          · simp [e, e2, show ¬ q < i + 1 by omega]
      case measure => simp [intOf]; omega
    · have hie : i = n := by omega
      subst hie
      have HB : Hid (Arnd wr w.heap.size i (fun _ _ => false) (fun _ => allF)) := ⟨HA.out.a, fun q hq => by rw [HA.out.b q hq, if_pos hq], HA.out.f⟩
      have hw1 : w.heap.size + 1 < wr.heap.size := World.block_lt_of_cell? _ _ c1
      have HFn : Hid (Fr NoB w wr) := HFr.out.then HF.out (fun k hk e => by unfold OneB at e; omega)
      have G0 : Hid _ := HF.out.cell_some F0.out hne
      have G1 : Hid _ := c1
      clear c1 HA HF H0 F0 F1 HFr
      generalize hwr : wr = V at *
      clear hwr
      go_wp2
      go_loopg [5] (muN p (fun _ => allF) i + 1) (fun k t wr => ∃ (A B : Nat → Nat → Bool) (st : Bool), t = .bool st ∧ (st = false → muN p B i + 1 ≤ k) ∧ Arnd wr w.heap.size i A B ∧ SegQ p s (AboveC B) TrueC (s.size + 1) 0 s.size 0 i (fun _ => false) ∧ (st = true → (SegL p s A B (s.size + 1) 0 s.size 0 i (fun _ => false) ∧ (0 < i → B (i - 1) = alongF s (s.size + 1) 0 s.size (fun _ => false)))) ∧ Fr (OneB w.heap.size) V wr)
      case atStart => exact ⟨_, _, false, rfl, fun _ => Nat.le_refl _, HB.out, Hseg.out, fun h => absurd h (by simp), Fr.refl _ _⟩
      case round =>
        obtain ⟨A, B, st, rfl, hk, hA, hS, hE, hF⟩ := hrel
        cases st
        · have hk2 := hk rfl
          have hgl : w.heap.size < wr.heap.size := Nat.lt_of_lt_of_le (by omega) hF.size
          have g0 := hF.cell_some G0.out hne
          have g1 := hF.cell_some G1.out hne
          have hPr := (HP.out.no HFn.out).fr hF (fun g e q => by have := Hpl.out g e; unfold OneB at q; omega)
          have HPass : Hid _ := fpass_fn wr (w.heap.size + 1) w.heap.size i i pc ao p CL A B hn Hp.out hPr hA g0 g1 hgl (by omega) (fun g e => by have := Hpl.out g e; omega)
          have hmu := pass_mu Hp.out A B i (Nat.le_refl _)
          have hup := (seg_up (z := ⟨A, B, fun _ => false, true⟩) hS clean_none (Sub.refl _)).2
          have hex := fun h => seg_low (z := ⟨A, B, fun _ => false, true⟩) hS clean_none h
          have hlast := fun h => pass_last (p := p) (n := i) (z := ⟨A, B, fun _ => false, true⟩) h
          rw [seg_is] at hup hex
          generalize passM p i 0 ⟨A, B, fun _ => false, true⟩ = z at HPass hmu hup hex hlast
          have Hmu : Hid _ := hmu
          have Hup : Hid _ := hup
          have Hex : Hid _ := fun h => And.intro (hex h).2 (fun h0 => (hlast h0).trans (hex h).1)
          have HF : Hid _ := hF
          clear hmu hup hex hlast hF hS hE hA hk g0 g1 hPr
          go_wp2_with (go_at_call 61; refine Calls.mono HPass.out ?_; rintro e w2 ⟨rfl, hA2, hF2⟩)
          cases hst : z.st
          · go_roundg (muN p z.B i + 1)
            case measure =>
              have := muN_lt Hmu.out.1 (Hmu.out.2 hst)
              omega
            case rel => exact ⟨z.A, z.B, false, rfl, fun _ => Nat.le_refl _, hA2, Hup.out, fun h => absurd h (by simp), HF.out.trans hF2⟩
          · go_roundg 0
            case measure => omega
            case rel => exact ⟨z.A, z.B, true, rfl, fun h => absurd h (by simp), hA2, Hup.out, fun _ => Hex.out hst, HF.out.trans hF2⟩
        · have HE : Hid _ := hE rfl
          have HA : Hid _ := hA
          have g1 := hF.cell_some G1.out hne
          have HF : Hid _ := hF
          clear hE hA hF hS hk
          go_wp2
          go_ret
          exact ⟨w.heap.size, A, B, rfl, HA.out, HE.out, HFn.out.then HF.out (fun k hk e => by unfold OneB at e; omega)⟩
theorem find_fn (w : World) (n pc : Nat) (ao : Option Addr) (p : Nat → Pt) (CL : Nat → Nat) (s : ByteArray) (hn : n ≤ 100000) (hp : FlatOk p n) (hP : PartRow w ao n p CL) (hseg : Seg0 p s n) (hpl : ∀ g, ao = some ⟨g, 0, none⟩ → g < w.heap.size) :
    Calls Tryz.prog 30 #[.slice ao n pc] w fun e w' => FindSays p s n w e w' :=
  (find_fn2 w n pc ao p CL s hn hp hP hseg hpl).mono fun e w' h => by
    obtain ⟨ga, A, B, he, hA, hS, hF⟩ := h
    exact ⟨ga, A, B, he, hA, hS.1.segQ, hF⟩
end Go.Proofs.YthcjcjfgdgnljaaGreatDoor
