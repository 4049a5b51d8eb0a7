/-
  The program's Read.
-/
import Derived.Test.YtcmnejcojphijaaDevZD
namespace Go.Proofs.Ytcmnejcojphijaa
open Go.RowKit
set_option linter.unusedVariables false

/-- what is asked of 'part' -/
def PartIs (s : ByteArray) : Prop := ∀ (w : World) (kp base : Nat) (r : Rs) (pv ov : Value), RdP w kp base s r pv ov (cloL r.P) → Zb s r.z → base ≤ w.heap.size → RJ s r → r.z.1 < s.size →
    Calls Try.prog 35 #[.pointer (some ⟨kp, 0, none⟩)] w fun x w' => PartSays kp base s (rPart s r) w x w'

/-- what Read answers -/
def ReadSays (s : ByteArray) (w : World) (x : Ending) (w' : World) : Prop := ∃ n, ((rIter s n r0).z.2 ≠ 0 ∨ ¬ (rIter s n r0).z.1 < s.size) ∧ Fr NoB w w' ∧
  (((told (rIter s n r0)).1 ≠ 0 ∧ x = .returned (.tuple #[.slice none 0 0, .int .i64 ((told (rIter s n r0)).1 : Int), .int .i64 ((told (rIter s n r0)).2 : Int)])) ∨
   (told (rIter s n r0) = (0, 0) ∧ (rIter s n r0).z.2 = 0 ∧ (rIter s n r0).O = [] ∧ ∃ ao cap, x = .returned (.tuple #[.slice ao (rIter s n r0).P.length cap, .int .i64 0, .int .i64 0]) ∧ PartRow w' ao (rIter s n r0).P.length (pOf (rIter s n r0).P) (cloL (rIter s n r0).P) ∧ ∀ g, ao = some ⟨g, 0, none⟩ → g < w'.heap.size))

theorem RdP.row {w : World} {kp base : Nat} {s : ByteArray} {r : Rs} {pv ov : Value} {C : Nat → Nat} (h : RdP w kp base s r pv ov C) : ∃ ao cap, pv = .slice ao r.P.length cap ∧ PartRow w ao r.P.length (pOf r.P) C ∧ ∀ g, ao = some ⟨g, 0, none⟩ → g < w.heap.size := by
  have hr := h.pr
  rcases h.pr.2 with ⟨rfl, h0⟩ | ⟨g, cap, cur, rfl, hb, hg, _⟩
  · refine ⟨none, 0, by rw [h0], ?_, fun g e => by cases e⟩
    rw [h0]
    exact ⟨fun q => absurd q (by omega), fun g i j u q => absurd q (by omega)⟩
  · refine ⟨_, _, rfl, ⟨fun _ => ⟨g, rfl⟩, fun g' i j u hi e hu => ?_⟩, fun g' e => ?_⟩
    · injection e with e
      injection e with e
      subst e
      have hj : j < 12 := by
        have := (List.getElem?_eq_some_iff.1 hu).1
        rwa [ptC_len] at this
      exact owns_cell hr (by rw [ptsC_get _ _ _ _ hi hj]; exact hu)
    · injection e with e
      injection e with e
      subst e
      exact (Array.getElem?_eq_some_iff.1 hg).1

/-- how many parts are still to come at most -/
def leftR (s : ByteArray) (r : Rs) : Nat := if r.z.2 = 0 then s.size - r.z.1 + 1 else 0

set_option maxRecDepth 8000 in
set_option maxHeartbeats 4000000 in
theorem read_fn (w : World) (s : ByteArray) (hs : s.size ≤ 90000) (HPart : PartIs s) :
    Calls Try.prog 26 #[.string s] w fun x w' => ReadSays s w x w' := by
  have HP : Hid (PartIs s) := HPart
  clear HPart
  have HS0 : Hid (RdP (w.alloc (.cells #[.string s, .int .i64 0, .slice none 0 0, .slice none 0 0, .int .i64 0] 78)) w.heap.size (w.heap.size + 1) s r0 (.slice none 0 0) (.slice none 0 0) (cloL r0.P)) := by
    refine ⟨⟨cell_new _ _ _ rfl rfl, cell_new _ _ _ rfl rfl, cell_new _ _ _ rfl rfl, cell_new _ _ _ rfl rfl, cell_new _ _ _ rfl rfl, fun o => World.frozen?_alloc_at _ _ _ _ rfl⟩, ⟨rfl, .inl ⟨rfl, rfl⟩⟩, ⟨rfl, .inl ⟨rfl, rfl⟩⟩, Nat.lt_succ_self _, fun g hg => by simp [Value.ownBlock] at hg⟩
  have HF0 : Hid (Fr NoB w (w.alloc (.cells #[.string s, .int .i64 0, .slice none 0 0, .slice none 0 0, .int .i64 0] 78))) := (Fr.refl _ _).alloc _
  have hsz0 : w.heap.size + 1 ≤ (w.alloc (.cells #[.string s, .int .i64 0, .slice none 0 0, .slice none 0 0, .int .i64 0] 78)).heap.size := by simp
  go_enter Try.func26, Try.ntmps26
  go_wp2
  generalize (w.alloc _) = W0 at *
  go_loopg [18] (s.size + 1) (fun k _ wr => ∃ (n : Nat) (pv ov : Value), leftR s (rIter s n r0) ≤ k ∧ RJ s (rIter s n r0) ∧ RdP wr w.heap.size (w.heap.size + 1) s (rIter s n r0) pv ov (cloL (rIter s n r0).P) ∧ Fr NoB w wr ∧ w.heap.size + 1 ≤ wr.heap.size)
  case atStart => exact ⟨0, _, _, Nat.le_refl _, rj0 s, HS0.out, HF0.out, hsz0⟩
  case round =>
    obtain ⟨n, pv, ov, hk, hJ, hR, hF, hsz⟩ := hrel
    have hnext : rIter s (n + 1) r0 = rStep s (rIter s n r0) := by rw [rIter_add]; rfl
    have Hn : Hid (rIter s (n + 1) r0 = rStep s (rIter s n r0)) := hnext
    clear hnext
    generalize hr : rIter s n r0 = r at *
    have Hr : Hid (rIter s n r0 = r) := hr
    clear hr HS0 HF0
    obtain ⟨ao, cap, rfl, hrow, hgl⟩ := hR.row
    obtain ⟨oo, oc, rfl⟩ := owns_form hR.orow
    have c1 := hR.rd.c1
    have c2 := hR.rd.c2
    have c3 := hR.rd.c3
    have c4 := hR.rd.c4
    have hw3 := hJ.w3
    have hin : r.z.1 ≤ s.size := hJ.hin
    have HR : Hid (RdP wr w.heap.size (w.heap.size + 1) s r (.slice ao r.P.length cap) (.slice oo r.O.length oc) (cloL r.P)) := hR
    have HJ : Hid (RJ s r) := hJ
    have HF : Hid (Fr NoB w wr) := hF
    have Hrow : Hid _ := And.intro hrow hgl
    clear hR hJ hF hrow hgl
    by_cases h2 : r.z.2 = 0
    · have b2 : ((r.z.2 : Int) == 0) = true := by rw [h2]; rfl
      by_cases hl : r.z.1 < s.size
      · have hstep : rStep s r = rPart s r := by unfold rStep; rw [if_pos ⟨h2, hl⟩]
        have hpr := rj_part hs HJ.out h2 hl
        have HJ2 : Hid (RJ s (rIter s (n + 1) r0)) := by show RJ s _; rw [Hn.out, hstep]; exact hpr.1
        have Hlt : Hid (leftR s (rIter s (n + 1) r0) < gk) := by
          show leftR s _ < gk
          rw [Hn.out, hstep]
          have h3 : leftR s r = s.size - r.z.1 + 1 := by unfold leftR; rw [if_pos h2]
          have h4 : leftR s (rPart s r) < leftR s r := by
            rw [h3]
            unfold leftR
            split
            · rename_i q
              rcases hpr.2 with q2 | q2
              · exact absurd q q2
              · have : (rPart s r).z.1 ≤ s.size := hpr.1.hin
                omega
            · omega
          omega
        have HPt : Hid (∀ (_ : Unit), Calls Try.prog 35 #[.pointer (some ⟨w.heap.size, 0, none⟩)] wr fun x w' => PartSays w.heap.size (w.heap.size + 1) s (rIter s (n + 1) r0) wr x w') := fun _ => by
          rw [Hn.out, hstep]
          exact HP.out wr w.heap.size (w.heap.size + 1) r _ _ HR.out ⟨HJ.out.hin, HJ.out.w3, hs⟩ hsz HJ.out hl
        clear hstep hpr h2
        go_wp2_with (go_at_call 35; refine (HPt.out ()).mono ?_; rintro x w2 ⟨rfl, ⟨pv2, ov2, hRP⟩, hF2⟩)
        go_roundg (leftR s (rIter s (n + 1) r0))
        case measure => exact Hlt.out
        case rel => exact ⟨n + 1, pv2, ov2, Nat.le_refl _, HJ2.out, hRP, HF.out.then hF2 (fun k hk e => by unfold StkS at e; omega), Nat.le_trans hsz hF2.size⟩
      · by_cases hO : r.O = []
        · have b3 : decide (0 < r.O.length) = false := by rw [hO]; rfl
          have HT : Hid (told (rIter s n r0) = (0, 0)) := by show told _ = _; rw [Hr.out]; unfold told; rw [if_neg (fun q => q h2), if_pos hO]
          have H2 : Hid (r.z.2 = 0 ∧ r.O = []) := ⟨h2, hO⟩
          have b4 : ((r.z.2 : Int) != 0) = false := by rw [h2]; rfl
          clear h2 hO
          go_wp2
          go_ret3
          refine ⟨n, .inr (by rw [Hr.out]; exact hl), HF.out, .inr ⟨HT.out, by rw [Hr.out]; exact H2.out.1, by rw [Hr.out]; exact H2.out.2, ao, cap, by rw [Hr.out]; rfl, by rw [Hr.out]; exact Hrow.out.1, Hrow.out.2⟩⟩
        · have hOl : 0 < r.O.length := List.length_pos_iff.2 hO
          have HT : Hid (told (rIter s n r0) = (2, r.z.1)) := by show told _ = _; rw [Hr.out]; unfold told; rw [if_neg (fun q => q h2), if_neg hO]
          have HRf : Hid (rf 2 r.z = (r.z.1, 2)) := rf_ok 2 h2
          clear h2 hO
          go_wp2_with (go_at_call 36; refine (refuse_fn _ w.heap.size s r.z _ _ HR.out.rd 2).mono ?_; rintro x w2 ⟨rfl, hR2, hF2⟩; rw [HRf.out] at hR2; have e1 := hR2.c1; have e4 := hR2.c4)
          go_quiet (fail)
          go_wp2
          go_ret3
          refine ⟨n, .inr (by rw [Hr.out]; exact hl), (HF.out.then hF2 (fun k hk e => by unfold OneB at e; omega)).drewN _, .inl ⟨by rw [HT.out]; simp, by rw [HT.out]; rfl⟩⟩
    · have b2 : ((r.z.2 : Int) == 0) = false := beq_eq_false_iff_ne.2 (by omega)
      have b4 : ((r.z.2 : Int) != 0) = true := bne_iff_ne.2 (by omega)
      have HT : Hid (told (rIter s n r0) = (r.z.2, r.z.1)) := by show told _ = _; rw [Hr.out]; unfold told; rw [if_pos h2]
      have H2 : Hid (r.z.2 ≠ 0) := h2
      have HRf : Hid (rf 2 r.z = r.z) := rf_bad 2 h2
      clear h2
      by_cases hO : 0 < r.O.length
      · go_wp2_with (go_at_call 36; refine (refuse_fn _ w.heap.size s r.z _ _ HR.out.rd 2).mono ?_; rintro x w2 ⟨rfl, hR2, hF2⟩; rw [HRf.out] at hR2; have e1 := hR2.c1; have e4 := hR2.c4)
        go_quiet (fail)
        go_wp2
        go_ret3
        refine ⟨n, .inl (by rw [Hr.out]; exact H2.out), (HF.out.then hF2 (fun k hk e => by unfold OneB at e; omega)).drewN _, .inl ⟨by rw [HT.out]; exact H2.out, by rw [HT.out]; rfl⟩⟩
      · have hO0 : r.O.length = 0 := by omega
        have b3 : decide (0 < r.O.length) = false := by rw [hO0]; rfl
        clear hO hO0
        go_wp2
        go_quiet (fail)
        go_wp2
        go_ret3
        refine ⟨n, .inl (by rw [Hr.out]; exact H2.out), HF.out.drewN _, .inl ⟨by rw [HT.out]; exact H2.out, by rw [HT.out]; rfl⟩⟩
end Go.Proofs.Ytcmnejcojphijaa
