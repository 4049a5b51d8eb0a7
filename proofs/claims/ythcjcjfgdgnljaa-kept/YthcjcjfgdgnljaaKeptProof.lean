/-
  KeptProof: one behind the other.
-/
import Derived.Test.YthcjcjfgdgnljaaRows
import Derived.Test.YthcjcjfgdgnljaaGKeepK
import Derived.ProofKit
import Derived.OpenShut
import Derived.ChangeOld
import Derived.Deep.Slices
namespace Go.Proofs.Ythcjcjfgdgnljaa.kept
open Go.ChangeShapes Go.WideShapes Go.ChangeAt Go.RowKit Go.Deep
set_option linter.unusedVariables false

theorem own : ownKnob Try.prog.godebug = none := by kernel_rfl
theorem laidOut : laidOutB Try.prog = true := by kernel_rfl
theorem cellsStep : Try.prog.cellsOf 30 = 4 := by kernel_rfl
theorem cellsInt : Try.prog.cellsOf 3 = 1 := by kernel_rfl
theorem cellsBool : Try.prog.cellsOf 4 = 1 := by kernel_rfl

theorem i64_bounds {n : Int} (h : (Lit.int .i64 n).wf = true) : -9223372036854775808 ≤ n ∧ n ≤ 9223372036854775807 := by
  simpa [Lit.wf, IntKind.min, IntKind.max, IntKind.signed, IntKind.bits] using h

set_option maxRecDepth 100000 in
/-- one step's cells -/
theorem step_cells {H : Type} {enc : TypeId × Value → H} {W : World} {fuel : Nat} {cs : List Value} {x : DataW H × List MemPlace} (h : DataW.trod enc Try.prog W 0 (fun _ => true) true fuel 30 cs = some x) :
    ∃ (f : Bool) (a b c : Int), cs = [.bool f, .int .i64 a, .int .i64 b, .int .i64 c] ∧ (-9223372036854775808 ≤ a ∧ a ≤ 9223372036854775807) ∧ (-9223372036854775808 ≤ b ∧ b ≤ 9223372036854775807) ∧ (-9223372036854775808 ≤ c ∧ c ≤ 9223372036854775807) := by
  obtain ⟨xs, n, _, rfl, hl, hlen, hf⟩ := DataW.trod_struct Try.underlying30 h
  rw [cellsStep] at hl
  match cs, hl with
  | [v0, v1, v2, v3], _ =>
    match xs, hlen with
    | [y0, y1, y2, y3], _ =>
      have e0 := hf 0 _ rfl
      have e1 := hf 1 _ rfl
      have e2 := hf 2 _ rfl
      have e3 := hf 3 _ rfl
      simp [cellsInt, cellsBool] at e0 e1 e2 e3
      obtain ⟨f, g0, _⟩ := DataW.trod_bool Try.underlying4 e0
      obtain ⟨a, g1, _, w1⟩ := DataW.trod_int Try.underlying3 e1
      obtain ⟨b, g2, _, w2⟩ := DataW.trod_int Try.underlying3 e2
      obtain ⟨c, g3, _, w3⟩ := DataW.trod_int Try.underlying3 e3
      simp at g0 g1 g2 g3
      subst g0 g1 g2 g3
      exact ⟨f, a, b, c, rfl, i64_bounds w1, i64_bounds w2, i64_bounds w3⟩

/-- the steps, opened -/
theorem steps_row {H : Type} {enc : TypeId × Value → H} {W : World} {ao : Option Addr} {m cap : Nat} {d : DataW H} {ps : List MemPlace} (h : DataW.Trod enc Try.prog W 0 (fun _ => true) true 22 (.slice ao m cap) d ps) :
    ∃ F N A C, StepRow W ao m F N A C := by
  obtain ⟨fuel, hf⟩ := h
  rcases open_slice Try.underlying22 hf with ⟨hcs, _⟩ | ⟨a, len, cap', k, n, D, Pl, hcs, _, hl, hm, hk, _, hx⟩
  · simp [Value.cells] at hcs
    obtain ⟨rfl, rfl, rfl⟩ := hcs
    exact ⟨fun _ => false, fun _ => 0, fun _ => 0, fun _ => 0, fun h => absurd h (by omega), fun _ _ i hi => absurd hi (by omega), fun _ _ i hi => absurd hi (by omega), fun _ _ i hi => absurd hi (by omega), fun _ _ i hi => absurd hi (by omega), fun i hi => absurd hi (by omega), fun i hi => absurd hi (by omega), fun i hi => absurd hi (by omega), by omega⟩
  · simp [Value.cells] at hcs
    obtain ⟨rfl, rfl, rfl⟩ := hcs
    have hmk : m ≤ k := by rw [hk]; simp; exact hl
    rw [cellsStep] at hx
    obtain ⟨Q, hQ⟩ := choose_lt (α := Bool × Int × Int × Int) (n := m) (p := fun i q => (W.cell? (a.add (i * 4)) = some (.bool q.1) ∧ W.cell? (a.add (i * 4 + 1)) = some (.int .i64 q.2.1) ∧ W.cell? (a.add (i * 4 + 2)) = some (.int .i64 q.2.2.1) ∧ W.cell? (a.add (i * 4 + 3)) = some (.int .i64 q.2.2.2)) ∧
        (-9223372036854775808 ≤ q.2.1 ∧ q.2.1 ≤ 9223372036854775807) ∧ (-9223372036854775808 ≤ q.2.2.1 ∧ q.2.2.1 ≤ 9223372036854775807) ∧ (-9223372036854775808 ≤ q.2.2.2 ∧ q.2.2.2 ≤ 9223372036854775807)) (fun i hi => by
      obtain ⟨cs', h1, h2⟩ := hx i (by omega)
      obtain ⟨f, x, y, z, rfl, r1, r2, r3⟩ := step_cells h2
      obtain ⟨_, _, hc⟩ := World.cells?_some h1
      have g0 := hc 0 (by omega)
      have g1 := hc 1 (by omega)
      have g2 := hc 2 (by omega)
      have g3 := hc 3 (by omega)
      rw [add_add] at g0 g1 g2 g3
      exact ⟨(f, x, y, z), ⟨by simpa using g0, by simpa using g1, by simpa using g2, by simpa using g3⟩, r1, r2, r3⟩)
    have hspot : 0 < m → a.spot = none := fun h0 => by
      have := World.cell?_spot (hQ 0 h0).1.1
      simpa [Addr.add] using this
    have hadd : ∀ (b off j : Nat), (⟨b, off, none⟩ : Addr).add j = ⟨b, off + j, none⟩ := fun b off j => by unfold Addr.add; split <;> simp_all
    refine ⟨fun i => (Q i).1, fun i => (Q i).2.1, fun i => (Q i).2.2.1, fun i => (Q i).2.2.2, ?_, ?_, ?_, ?_, ?_, fun i hi => (hQ i hi).2.1, fun i hi => (hQ i hi).2.2.1, fun i hi => (hQ i hi).2.2.2, by simp only [maxLen] at hm; omega⟩
    · intro h0
      obtain ⟨b, off, spot⟩ := a
      have := hspot h0
      simp at this
      subst this
      exact ⟨b, off, rfl⟩
    · intro b off i hi e
      injection e with e
      subst e
      have := (hQ i hi).1.1
      rwa [hadd] at this
    · intro b off i hi e
      injection e with e
      subst e
      have := (hQ i hi).1.2.1
      rwa [hadd, ← Nat.add_assoc] at this
    · intro b off i hi e
      injection e with e
      subst e
      have := (hQ i hi).1.2.2.1
      rwa [hadd, ← Nat.add_assoc] at this
    · intro b off i hi e
      injection e with e
      subst e
      have := (hQ i hi).1.2.2.2
      rwa [hadd, ← Nat.add_assoc] at this

set_option maxRecDepth 100000 in
theorem lifted (os : Os) (started : os.Started) (H : Type) (enc : TypeId × Value → H) :
    ReturnsInHanded {} Try.checked os 3 .any (Rows.keptSpec.pre6 enc Try.prog Try.f3 Rows.keptRow.domain false) (Rows.keptSpec.post enc Try.prog Try.f3 false true false false) := by
  refine returnsInHanded_of_change (C := Try.checked) own started (by kernel_rfl) Try.func3
    (ChangeSpec.witness6 (enc := enc) (C := Try.checked) false ⟨#[], #[.int .i64 0, .slice none 0 0], []⟩ 8 (by kernel_rfl) (by kernel_rfl) (by kernel_rfl) (by kernel_rfl)) ?_
  intro W base args ds gs before hval0 hW hcnd _
  have hval : ∀ (j : Nat) t v, Try.f3.params[j]? = some t → args[j]? = some v → Value.okWide Try.prog W .any base t v := hval0
  have hW' := hW
  obtain ⟨p, q, hA0, hV, rfl, hfz, hnd⟩ := hW
  have hA : DataW.TrodAll enc Try.prog W 0 (fun _ => true) true Try.f3.params.toList args.toList ds p := hA0
  rw [Try.params3] at hA hval
  obtain ⟨v0, vs0, d0, ds0, p0, q0, hargs, rfl, rfl, h0, r0⟩ := trodAll_cons hA
  obtain ⟨v1, vs1, d1, ds1, p1, q1, rfl, rfl, rfl, h1, r1⟩ := trodAll_cons r0
  obtain ⟨rfl, rfl, rfl⟩ := trodAll_nil r1
  obtain rfl : args = #[v0, v1] := by cases args; simp_all
  obtain ⟨rfl, rfl⟩ := trodVars_none hV
  obtain ⟨c, rfl, rfl, rfl, wc⟩ := open_int Try.underlying3 (hval 0 3 v0 rfl rfl) h0
  obtain ⟨ao, m, cap, rfl⟩ := okWide_slice Try.underlying22 (hval 1 22 v1 rfl rfl)
  have k1 := h1
  have lt1 : ∀ x ∈ p1, x.block < W.heap.size := by obtain ⟨m, hm⟩ := k1; exact DataW.trod_lt m _ _ _ hm
  obtain ⟨F, N, A, C, hrow⟩ := steps_row h1
  have hb := i64_bounds wc
  clear hA0 hval0
  refine (kept_any W c ao m cap F N A C hrow hb.1 hb.2).mono fun e W' ⟨he, hF⟩ => ?_
  subst he
  have bel : Below W.heap.size W W' := hF.below (Nat.le_refl _) (fun _ _ h => h)
  exact ⟨_, rfl, _, _, _, [], _, [], hW', trodAll_mk1 (shut_bool Try.underlying4 _), (trodAll_cons_mk (shut_int Try.underlying3 wc) (trodAll_cons_mk (Below.trod laidOut (by kernel_rfl) (of_decide_eq_true (by kernel_rfl)) k1 bel lt1) trodAll_mk0)), rfl, bel.frame _, fun h => by cases h⟩

end Go.Proofs.Ythcjcjfgdgnljaa.kept
namespace Go.Proofs.Ythcjcjfgdgnljaa
/-- The statement. -/
theorem kept_holds : Rows.KeptSaid :=
  OpenClaim.holds_of_wide 3 Try.f3 rfl rfl rfl rfl rfl rfl rfl ⟨rfl, rfl, rfl, rfl, rfl⟩ rfl rfl rfl rfl rfl (by kernel_rfl) Try.func3 (by kernel_rfl)
    (of_decide_eq_true (by kernel_rfl)) (by unfold Func.isWrapper; first | (rw [if_pos (by decide +kernel)]; kernel_rfl) | (rw [if_neg (by decide +kernel)]; exact ⟨rfl, rfl⟩))
    (fun os started H enc _ => kept.lifted os started H enc)
#print axioms kept_holds
end Go.Proofs.Ythcjcjfgdgnljaa
