/-
  The program's Check is the document's; and the law.
-/
import Derived.Test.YtcmnejcojphijaaDevZG
namespace Go.Proofs.Ytcmnejcojphijaa
open Go.RowKit
set_option linter.unusedVariables false

set_option maxHeartbeats 400000 in
theorem first_zero (w : World) (pc ga ac : Nat) (ao : Option Addr) :
    Calls Try.prog 28 #[.slice ao 0 pc, .slice (some ⟨ga, 0, none⟩) 0 ac] w fun e w' => e = .returned (.tuple #[.int .i64 0, .bool false]) ∧ Fr NoB w w' := by
  go_enter Try.func28, Try.ntmps28
  go_wp2
  go_loop [6] (fun t => t = .int .i64 0) (fun _ => 0)
  case atStart => rfl
  case round =>
    subst hrel
    go_wp2
    go_ret2
    exact ⟨rfl, Fr.refl _ _⟩
set_option maxRecDepth 8000 in
set_option maxHeartbeats 4000000 in
theorem devCheck_fn (w : World) (s : ByteArray) (hs : s.size ≤ 9223372036854775807) (HPart : s.size ≤ 400 → PartIs s) :
    Calls Try.prog 16 #[.string s] w fun e w' => e = .returned (.tuple #[.int .i64 ((checkN s).1 : Nat), .int .i64 (checkN s).2]) ∧ Fr NoB w w' := by
  by_cases h4 : 400 < s.size
  · have hc : checkN s = (1, 0) := by unfold checkN; rw [if_pos h4]
    rw [hc]
    clear hc HPart
    go_enter Try.func16, Try.ntmps16
    go_wp2
    go_ret2
    exact ⟨rfl, Fr.refl _ _⟩
  · have h9 : s.size ≤ 90000 := by omega
    have HRd : Hid (∀ X : World, Calls Try.prog 26 #[.string s] X fun x w' => ReadSays s X x w') := fun X => read_fn X s h9 (HPart (by omega))
    clear HPart
    have hck : checkN s = if (run s [(83, true)] 0 0).1 ≠ 0 then ((run s [(83, true)] 0 0).1, ((run s [(83, true)] 0 0).2 : Int)) else if 0 ≤ misT s then (4, misT s) else (0, 0) := by unfold checkN; rw [if_neg h4]
    have Hck : Hid _ := hck
    clear hck
    generalize hcc : checkN s = cc at *
    clear hcc
    go_enter Try.func16, Try.ntmps16
    go_wp2_with fail
    refine (HRd.out _).mono ?_
    rintro x w1 ⟨n, hst, hF1, hor⟩
    have hrun := run_told h9 n hst
    rcases hor with ⟨hne, rfl⟩ | ⟨ht, hz, hO, ao, cap, rfl, hrow, hgl⟩
    · have HE : Hid (cc = ((told (rIter s n r0)).1, ((told (rIter s n r0)).2 : Int))) := by
        show cc = _
        rw [Hck.out, hrun, if_pos hne]
      have b1 : (((told (rIter s n r0)).1 : Int) != 0) = true := bne_iff_ne.2 (by omega)
      generalize told (rIter s n r0) = tt at *
      clear hrun hst hne Hck HRd
      go_wp2
      go_ret2
      rw [HE.out]
      exact ⟨rfl, hF1⟩
    · have hl : ¬ (rIter s n r0).z.1 < s.size := by
        rcases hst with q | q
        · exact absurd hz q
        · exact q
      have hseg := seg_told h9 n hz hl hO
      have hJ := rj_iter h9 n (rj0 s)
      have HCC : Hid (cc = if 0 ≤ misT s then (4, misT s) else (0, 0)) := by
        show cc = _
        rw [Hck.out, hrun, ht, if_neg (by simp)]
      have hn : (rIter s n r0).P.length ≤ 100000 := by have := hJ.pl; have h5 : (rIter s n r0).z.1 ≤ s.size := hJ.hin; omega
      have hfl := hJ.fl
      generalize (rIter s n r0).P = P at *
      have HFd : Hid (∀ X : World, Fr NoB w1 X → Calls Try.prog 27 #[.slice ao P.length cap] X fun e w' => FindSays (pOf P) s P.length X e w') := fun X hX => find_fn X P.length cap ao (pOf P) (cloL P) s hn hfl (hrow.no hX) hseg (fun g e => Nat.lt_of_lt_of_le (hgl g e) hX.size)
      have HFl : Hid (FlatOk (pOf P) P.length) := hfl
      have Hrow : Hid _ := hrow
      clear hrun hst Hck HRd ht hz hO hl hseg hJ hfl hrow hgl
      go_wp2_with fail
      refine (HFd.out _ (Fr.refl _ _)).mono ?_
      rintro x w2 ⟨ga, A, B, rfl, hA, hsg, hF2⟩
      have hmis : misT s = scan (pOf P) A 0 P.length := scan_mis hsg
      have HFs : Hid (Calls Try.prog 28 #[.slice ao P.length cap, .slice (some ⟨ga, 0, none⟩) P.length P.length] w2 fun e w' => e = .returned (firstV (misT s)) ∧ Fr NoB w2 w') := by
        rw [hmis]
        by_cases q : P.length = 0
        · have hs0 : scan (pOf P) A 0 P.length = -1 := by rw [q]; rfl
          rw [hs0, firstV_neg (by omega), q]
          exact first_zero w2 cap ga 0 ao
        · exact first_fn w2 P.length cap ga P.length ao (pOf P) (cloL P) A B hn HFl.out (Hrow.out.no hF2) hA (World.block_lt_of_cell? w2 ⟨ga, 0 * 2, none⟩ (hA.a 0 (by omega)))
      clear hmis hsg hA
      generalize misT s = M at *
      by_cases hM : 0 ≤ M
      · rw [firstV_pos hM] at HFs
        have HE : Hid (cc = (4, M)) := by show cc = _; rw [HCC.out, if_pos hM]
        clear hM HCC
        go_wp2_with fail
        refine Calls.mono HFs.out ?_
        rintro x w3 ⟨rfl, hF3⟩
        go_wp2
        go_ret2
        rw [HE.out]
        exact ⟨rfl, (hF1.trans hF2).trans hF3⟩
      · rw [firstV_neg hM] at HFs
        have HE : Hid (cc = (0, 0)) := by show cc = _; rw [HCC.out, if_neg hM]
        clear hM HCC
        go_wp2_with fail
        refine Calls.mono HFs.out ?_
        rintro x w3 ⟨rfl, hF3⟩
        go_wp2
        go_ret2
        rw [HE.out]
        exact ⟨rfl, (hF1.trans hF2).trans hF3⟩

set_option maxHeartbeats 1000000 in
theorem checks_any (w : World) (s : ByteArray) (hs : s.size ≤ 9223372036854775807) (HPart : s.size ≤ 400 → PartIs s) :
    Calls Try.prog 4 #[.string s] w fun e w' => e = .returned (.bool true) ∧ Fr NoB w w' := by
  have H1 : Hid _ := fun X => devCheck_fn X s hs HPart
  have H2 : Hid _ := fun X => refCheck_fn X s hs
  generalize checkN s = cc at *
  obtain ⟨a, b⟩ := cc
  simp only [] at H1 H2
  clear HPart
  go_enter Try.func4, Try.ntmps4
  go_wp2_with (first | (go_at_call 16; refine (H1.out _).mono ?_; rintro x w1 ⟨rfl, hF1⟩) | (go_at_call 17; refine (H2.out _).mono ?_; rintro x w2 ⟨rfl, hF2⟩))
  go_ret
  exact ⟨by simp, hF1.trans hF2⟩
end Go.Proofs.Ytcmnejcojphijaa
