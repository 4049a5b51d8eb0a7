/-
  DevZH, MchZ: one behind the other.
-/
import Derived.Test.YthcjcjfgdgnljaaGreatDoorGDevZG
import Derived.Test.YthcjcjfgdgnljaaGreatDoorGMchY
import Derived.Test.YthcjcjfgdgnljaaGreatDoorGDevZF
namespace Go.Proofs.YthcjcjfgdgnljaaGreatDoor
open Go.RowKit
set_option linter.unusedVariables false

set_option maxHeartbeats 400000 in
theorem first_zero (w : World) (pc ga ac : Nat) (ao : Option Addr) :
    Calls Tryz.prog 31 #[.slice ao 0 pc, .slice (some ⟨ga, 0, none⟩) 0 ac] w fun e w' => e = .returned (.tuple #[.int .i64 0, .bool false]) ∧ Fr NoB w w' := by
  go_enter Tryz.func31, Tryz.ntmps31
  go_wp2
  go_loop [6] (fun t => t = .int .i64 0) (fun _ => 0)
  case atStart => rfl
  case round =>
    subst hrel
    go_wp2
    go_ret2
    exact ⟨rfl, Fr.refl _ _⟩
set_option maxRecDepth 8000 in
set_option maxHeartbeats 4000000 in
theorem devCheck_fn (w : World) (s : ByteArray) (hs : s.size ≤ 9223372036854775807) (HPart : s.size ≤ 400 → PartIs s) :
    Calls Tryz.prog 15 #[.string s] w fun e w' => e = .returned (.tuple #[.int .i64 ((checkN s).1 : Nat), .int .i64 (checkN s).2]) ∧ Fr NoB w w' := by
  by_cases h4 : 400 < s.size
  · have hc : checkN s = (1, 0) := by unfold checkN; rw [if_pos h4]
    rw [hc]
    clear hc HPart
    go_enter Tryz.func15, Tryz.ntmps15
    go_wp2
    go_ret2
    exact ⟨rfl, Fr.refl _ _⟩
  · have h9 : s.size ≤ 90000 := by omega
    have HRd : Hid (∀ X : World, Calls Tryz.prog 16 #[.string s] X fun x w' => ReadSays s X x w') := fun X => read_fn X s h9 (HPart (by omega))
    clear HPart
    have hck : checkN s = if (run s [(83, true)] 0 0).1 ≠ 0 then ((run s [(83, true)] 0 0).1, ((run s [(83, true)] 0 0).2 : Int)) else if 0 ≤ misT s then (4, misT s) else (0, 0) := by unfold checkN; rw [if_neg h4]
    have Hck : Hid _ := hck
    clear hck
    generalize hcc : checkN s = cc at *
    clear hcc
    go_enter Tryz.func15, Tryz.ntmps15
    go_wp2_with fail
    refine (HRd.out _).mono ?_
    rintro x w1 ⟨n, hst, hF1, hor⟩
    have hrun := run_told h9 n hst
    rcases hor with ⟨hne, rfl⟩ | ⟨ht, hz, hO, ao, cap, rfl, hrow, hgl⟩
    · have HE : Hid (cc = ((told (rIter s n r0)).1, ((told (rIter s n r0)).2 : Int))) := by
        show cc = _
        rw [Hck.out, hrun, if_pos hne]
      have b1 : (((told (rIter s n r0)).1 : Int) != 0) = true := bne_iff_ne.2 (by omega)
      generalize told (rIter s n r0) = tt at *
      clear hrun hst hne Hck HRd
      go_wp2
      go_ret2
      rw [HE.out]
      exact ⟨rfl, hF1⟩
    · have hl : ¬ (rIter s n r0).z.1 < s.size := by
        rcases hst with q | q
        · exact absurd hz q
        · exact q
      have hseg := seg_told h9 n hz hl hO
      have hJ := rj_iter h9 n (rj0 s)
      have HCC : Hid (cc = if 0 ≤ misT s then (4, misT s) else (0, 0)) := by
        show cc = _
        rw [Hck.out, hrun, ht, if_neg (by simp)]
      have hn : (rIter s n r0).P.length ≤ 100000 := by have := hJ.pl; have h5 : (rIter s n r0).z.1 ≤ s.size := hJ.hin; omega
      have hfl := hJ.fl
      generalize (rIter s n r0).P = P at *
      have HFd : Hid (∀ X : World, Fr NoB w1 X → Calls Tryz.prog 30 #[.slice ao P.length cap] X fun e w' => FindSays (pOf P) s P.length X e w') := fun X hX => find_fn X P.length cap ao (pOf P) (cloL P) s hn hfl (hrow.no hX) hseg (fun g e => Nat.lt_of_lt_of_le (hgl g e) hX.size)
      have HFl : Hid (FlatOk (pOf P) P.length) := hfl
      have Hrow : Hid _ := hrow
      clear hrun hst Hck HRd ht hz hO hl hseg hJ hfl hrow hgl
      go_wp2_with fail
      refine (HFd.out _ (Fr.refl _ _)).mono ?_
      rintro x w2 ⟨ga, A, B, rfl, hA, hsg, hF2⟩
      have hmis : misT s = scan (pOf P) A 0 P.length := scan_mis hsg
      have HFs : Hid (Calls Tryz.prog 31 #[.slice ao P.length cap, .slice (some ⟨ga, 0, none⟩) P.length P.length] w2 fun e w' => e = .returned (firstV (misT s)) ∧ Fr NoB w2 w') := by
        rw [hmis]
        by_cases q : P.length = 0
        · have hs0 : scan (pOf P) A 0 P.length = -1 := by rw [q]; rfl
          rw [hs0, firstV_neg (by omega), q]
          exact first_zero w2 cap ga 0 ao
        · exact first_fn w2 P.length cap ga P.length ao (pOf P) (cloL P) A B hn HFl.out (Hrow.out.no hF2) hA (World.block_lt_of_cell? w2 ⟨ga, 0 * 2, none⟩ (hA.a 0 (by omega)))
      clear hmis hsg hA
      generalize misT s = M at *
      by_cases hM : 0 ≤ M
      · rw [firstV_pos hM] at HFs
        have HE : Hid (cc = (4, M)) := by show cc = _; rw [HCC.out, if_pos hM]
        clear hM HCC
        go_wp2_with fail
        refine Calls.mono HFs.out ?_
        rintro x w3 ⟨rfl, hF3⟩
        go_wp2
        go_ret2
        rw [HE.out]
        exact ⟨rfl, (hF1.trans hF2).trans hF3⟩
      · rw [firstV_neg hM] at HFs
        have HE : Hid (cc = (0, 0)) := by show cc = _; rw [HCC.out, if_neg hM]
        clear hM HCC
        go_wp2_with fail
        refine Calls.mono HFs.out ?_
        rintro x w3 ⟨rfl, hF3⟩
        go_wp2
        go_ret2
        rw [HE.out]
        exact ⟨rfl, (hF1.trans hF2).trans hF3⟩

end Go.Proofs.YthcjcjfgdgnljaaGreatDoor

namespace Go.Proofs.YthcjcjfgdgnljaaGreatDoor
open Go.RowKit
set_option linter.unusedVariables false
theorem partIs2 (s : ByteArray) (hs : s.size ≤ 400) : PartIs s := fun w kp base r pv ov h hz hb hJ hlt => part_fn w kp base s r pv ov h hz hb hJ hlt
set_option maxRecDepth 8000 in
set_option maxHeartbeats 1000000 in
theorem dplay_bad (w : World) (s : ByteArray) (n : Int) (hs : s.size ≤ 9223372036854775807) (hc : (checkN s).1 ≠ 0) :
    Calls Tryz.prog 7 #[.string s, .int .i64 n] w fun e w' => e = .returned (.tuple #[out0, .int .i64 ((checkN s).1 : Int)]) ∧ Fr NoB w w' := by
  have HC : Hid _ := fun X => devCheck_fn X s hs (partIs2 s)
  have b1 : (((checkN s).1 : Int) != 0) = true := bne_iff_ne.2 (by omega)
  generalize (checkN s).1 = k at *
  generalize (checkN s).2 = p at *
  clear hc
  have HO : Hid _ := OutAt.new w 26 (.int .i64 0) (.string ⟨#[]⟩) (.int .i64 0) (.int .i64 0)
  have HF0 : Hid (Fr NoB w (w.alloc (.cells #[.int .i64 0, .string ⟨#[]⟩, .int .i64 0, .int .i64 0] 26))) := (Fr.refl _ _).alloc _
  go_enter Tryz.func7, Tryz.ntmps7
  go_upto_region 1 with fail
  generalize (w.alloc _) = W0 at *
  go_wp2_with (go_at_call 15; refine (HC.out _).mono ?_; rintro e w1 ⟨rfl, hF1⟩; have HO1 : Hid _ := HO.out.fr hF1 id; obtain ⟨c0, c1, c2, c3, hf⟩ := HO1.out; have f0 := hf 0; have f1 := hf 1; have f2 := hf 2; have f3 := hf 3; clear hf)
  obtain ⟨k0, k1, k2, k3, kf⟩ := HO1.out.put (u0 := .int .i64 0) (u1 := .string ⟨#[]⟩) (u2 := .int .i64 0) (u3 := .int .i64 0)
  exact bodyPost_ret (v := .tuple #[out0, .int .i64 (k : Int)]) (by simp [results, Tryz.results7, go_sem, k0, k1, k2, k3, out0]) rfl ⟨rfl, (HF0.out.trans hF1).put4 (fun q => absurd q (by omega)) _ _ _ _⟩
/-- Read of a text that Check lets by -/
theorem read_ok (w : World) (s : ByteArray) (hc : checkN s = (0, 0)) :
    Calls Tryz.prog 16 #[.string s] w fun e w' => ∃ ao np cap, e = .returned (.tuple #[.slice ao np cap, .int .i64 0, .int .i64 0]) ∧ Hid (Fr NoB w w' ∧ ∃ p C, Told s p C np ∧ PartRow w' ao np p C ∧ ∀ g, ao = some ⟨g, 0, none⟩ → g < w'.heap.size) := by
  obtain ⟨h4, hpr, hm⟩ := check_ok hc
  refine (read_fn w s (by omega) (partIs2 s h4)).mono ?_
  rintro e w1 ⟨n, hst, hF1, hor⟩
  have hrun := run_told (by omega) n hst
  have h00 : (run s [(83, true)] 0 0).1 = 0 := by
    have hc2 := hc
    unfold checkN at hc2
    rw [if_neg (by omega)] at hc2
    by_cases q : (run s [(83, true)] 0 0).1 ≠ 0
    · rw [if_pos q] at hc2
      exact absurd (congrArg Prod.fst hc2) q
    · omega
  rcases hor with ⟨hne, rfl⟩ | ⟨ht, hz, hO, ao, cap, rfl, hrow, hgl⟩
  · rw [hrun] at h00
    exact absurd h00 hne
  · have hl : ¬ (rIter s n r0).z.1 < s.size := by
      rcases hst with q | q
      · exact absurd hz q
      · exact q
    exact ⟨ao, _, cap, rfl, ⟨hF1, _, _, told_of h4 n hz hl hO, hrow, hgl⟩⟩
set_option maxRecDepth 8000 in
set_option maxHeartbeats 1000000 in
theorem dplay_any (w : World) (s : ByteArray) (n : Int) (v : Value) (ev : Int) (hs : s.size ≤ 400) (hc : checkN s = (0, 0))
    (HP : ∀ (W : World) (ao : Option Addr) (np cap : Nat) (p : Nat → Pt) (C : Nat → Nat), Fr NoB w W → Told s p C np → PartRow W ao np p C → (∀ g, ao = some ⟨g, 0, none⟩ → g < W.heap.size) → Calls Tryz.prog 17 #[.slice ao np cap, .int .i64 n] W fun e w' => e = .returned (.tuple #[v, .int .i64 ev]) ∧ Fr NoB W w')
    (hv : ∃ a b c d, v = .agg #[.int .i64 a, .string b, .int .i64 c, .int .i64 d]) :
    Calls Tryz.prog 7 #[.string s, .int .i64 n] w fun e w' => e = .returned (.tuple #[v, .int .i64 ev]) ∧ Fr NoB w w' := by
  have HC : Hid _ := fun X => devCheck_fn X s (by omega) (partIs2 s)
  rw [hc] at HC
  have HRd : Hid (∀ X, _) := fun X => read_ok X s hc
  have HPl : Hid _ := HP
  have HO : Hid _ := OutAt.new w 26 (.int .i64 0) (.string ⟨#[]⟩) (.int .i64 0) (.int .i64 0)
  have HF0 : Hid (Fr NoB w (w.alloc (.cells #[.int .i64 0, .string ⟨#[]⟩, .int .i64 0, .int .i64 0] 26))) := (Fr.refl _ _).alloc _
  obtain ⟨a, b, c, d, rfl⟩ := hv
  clear hc HP hs
  go_enter Tryz.func7, Tryz.ntmps7
  go_upto_region 1 with fail
  generalize (w.alloc _) = W0 at *
  go_upto_region 5 with (first | (go_at_call 15; refine (HC.out _).mono ?_; rintro e w1 ⟨rfl, hF1⟩) | (go_at_call 16; refine (HRd.out _).mono ?_; rintro e w2 ⟨ao, np, cap, rfl, HX⟩))
  obtain ⟨hF2, p, C, hT, hrow, hgl⟩ := HX.out
  have HPw : Hid _ := HPl.out w2 ao np cap p C ((HF0.out.trans hF1).trans hF2) hT hrow hgl
  have HO2 : Hid _ := (HO.out.fr hF1 id).fr hF2 id
  have HF2 : Hid (Fr NoB w w2) := (HF0.out.trans hF1).trans hF2
  clear HX hT hrow hgl HPl hF1 hF2
  go_wp2_with (go_at_call 17; refine Calls.mono HPw.out ?_; rintro e w3 ⟨rfl, hF3⟩; have HO3 : Hid _ := HO2.out.fr hF3 id; obtain ⟨c0, c1, c2, c3, hf⟩ := HO3.out; have f0 := hf 0; have f1 := hf 1; have f2 := hf 2; have f3 := hf 3; clear hf)
  obtain ⟨k0, k1, k2, k3, kf⟩ := HO3.out.put (u0 := .int .i64 a) (u1 := .string b) (u2 := .int .i64 c) (u3 := .int .i64 d)
  exact bodyPost_ret (v := .tuple #[.agg #[.int .i64 a, .string b, .int .i64 c, .int .i64 d], .int .i64 ev]) (by simp [results, Tryz.results7, go_sem, k0, k1, k2, k3]) rfl ⟨rfl, (HF2.out.trans hF3).put4 (fun q => absurd q (by omega)) _ _ _ _⟩
set_option maxRecDepth 8000 in
set_option maxHeartbeats 1000000 in
theorem alike_fn (w : World) (a c d : Int) (b : ByteArray) : Calls Tryz.prog 9 #[.agg #[.int .i64 a, .string b, .int .i64 c, .int .i64 d], .agg #[.int .i64 a, .string b, .int .i64 c, .int .i64 d]] w fun e w' => e = .returned (.bool true) ∧ Fr NoB w w' := by
  go_enter Tryz.func9, Tryz.ntmps9
  go_wp2
  go_ret
  exact ⟨by simp, by repeat (first | exact Fr.refl _ _ | refine Fr.drewN ?_ _ | refine Fr.drew ?_ | refine Fr.alloc ?_ _)⟩
set_option maxRecDepth 8000 in
set_option maxHeartbeats 1000000 in
theorem plays_walk (w : World) (s : ByteArray) (n a c d ev : Int) (b : ByteArray)
    (H1 : ∀ W, Fr NoB w W → Calls Tryz.prog 7 #[.string s, .int .i64 n] W fun e w' => e = .returned (.tuple #[.agg #[.int .i64 a, .string b, .int .i64 c, .int .i64 d], .int .i64 ev]) ∧ Fr NoB W w')
    (H2 : ∀ W, Fr NoB w W → Calls Tryz.prog 8 #[.string s, .int .i64 n] W fun e w' => e = .returned (.tuple #[.agg #[.int .i64 a, .string b, .int .i64 c, .int .i64 d], .int .i64 ev]) ∧ Fr NoB W w') :
    Calls Tryz.prog 4 #[.string s, .int .i64 n] w fun e w' => e = .returned (.bool true) ∧ Fr NoB w w' := by
  have HA : Hid _ := H1
  have HB : Hid _ := H2
  have HK : Hid (∀ W, _) := fun W => alike_fn W a c d b
  clear H1 H2
  go_enter Tryz.func4, Tryz.ntmps4
  go_upto_region 2 with (go_at_call 7; refine (HA.out _ (Fr.refl _ _)).mono ?_; rintro e w1 ⟨rfl, hF1⟩)
  have hO := OutAt.new w1 26 (.int .i64 a) (.string b) (.int .i64 c) (.int .i64 d)
  have HO : Hid _ := hO
  have hFa : Fr NoB w (w1.alloc (.cells #[.int .i64 a, .string b, .int .i64 c, .int .i64 d] 26)) := hF1.alloc _
  clear hO hF1
  generalize (w1.alloc _) = W1 at *
  generalize w1.heap.size = o1 at *
  go_upto_region 3 with (go_at_call 8; refine (HB.out _ hFa).mono ?_; rintro e w2 ⟨rfl, hF2⟩)
  have hO2 := OutAt.new w2 26 (.int .i64 a) (.string b) (.int .i64 c) (.int .i64 d)
  have HO2 : Hid _ := hO2
  have hFb : Fr NoB w2 (w2.alloc (.cells #[.int .i64 a, .string b, .int .i64 c, .int .i64 d] 26)) := (Fr.refl _ _).alloc _
  have HO1 : Hid _ := (HO.out.fr hF2 id).fr hFb id
  have hFc := (hFa.trans hF2).trans hFb
  clear hO2 hF2 hFa hFb
  generalize (w2.alloc _) = W2 at *
  generalize w2.heap.size = o2 at *
  obtain ⟨c0, c1, c2, c3, _⟩ := HO1.out
  obtain ⟨d0, d1, d2, d3, _⟩ := HO2.out
  go_wp2_with (go_at_call 9; refine (HK.out _).mono ?_; rintro e w3 ⟨rfl, hF3⟩)
  go_ret
  exact ⟨by simp, hFc.trans hF3⟩
/-- the law -/
theorem plays_any (w : World) (s : ByteArray) (n : Int) (hs : s.size ≤ 9223372036854775807) (htab : ∀ W, Fr NoB w W → TabOk W) :
    Calls Tryz.prog 4 #[.string s, .int .i64 n] w fun e w' => e = .returned (.bool true) ∧ Fr NoB w w' := by
  by_cases hc : (checkN s).1 ≠ 0
  · exact plays_walk w s n 0 0 0 _ ⟨#[]⟩ (fun W _ => dplay_bad W s n hs hc) (fun W _ => refPlay_bad W s n hs hc)
  · have hc0 : checkN s = (0, 0) := by
      have h0 : (checkN s).1 = 0 := by omega
      unfold checkN at h0 ⊢
      by_cases h4 : 400 < s.size
      · rw [if_pos h4] at h0; cases h0
      · rw [if_neg h4] at h0 ⊢
        by_cases q : (run s [(83, true)] 0 0).1 ≠ 0
        · rw [if_pos q] at h0; exact absurd h0 q
        · rw [if_neg q] at h0 ⊢
          by_cases hm : 0 ≤ misT s
          · rw [if_pos hm] at h0; cases h0
          · rw [if_neg hm]
    obtain ⟨h4, _, _⟩ := check_ok hc0
    by_cases hn : n < 0 ∨ 5000 < n
    · exact plays_walk w s n 0 0 0 5 ⟨#[]⟩ (fun W hW => dplay_any W s n out0 5 h4 hc0 (fun W2 ao np cap p C _ _ _ _ => rplay_arg W2 ao np cap n hn) ⟨_, _, _, _, rfl⟩) (fun W _ => refPlay_arg W s n h4 hc0 hn)
    · obtain ⟨k, rfl⟩ : ∃ k : Nat, n = (k : Int) := ⟨n.toNat, by omega⟩
      have hk : k ≤ 5000 := by omega
      obtain ⟨σ, b, hE⟩ := Ex.total cP k (pgN s (s.size + 1) 0 s.size) (st0 k) (Nat.le_refl _)
      refine plays_walk w s k _ _ _ 0 _ (fun W hW => dplay_any W s k (outP σ) 0 h4 hc0 (fun W2 ao np cap p C hW2 hT hrow hgl => ?_) ⟨_, _, _, _, rfl⟩) (fun W _ => refPlay_ok W s k h4 hc0 hk σ ⟨b, hE⟩)
      obtain ⟨σ', τ, m, ⟨b', hE'⟩, hR, h44, ho⟩ := plays_end hc0 hT k
      have e1 := (hE.det hE').1
      subst e1
      rw [← ho]
      exact rplay_ok W2 ao np cap k m p C τ hk hrow hgl hT.fl (fun i _ => hT.cl i) (by have := hT.nl; omega) hT.sg hR h44 (fun W3 hW3 => htab W3 ((hW.trans hW2).trans hW3))
end Go.Proofs.YthcjcjfgdgnljaaGreatDoor
