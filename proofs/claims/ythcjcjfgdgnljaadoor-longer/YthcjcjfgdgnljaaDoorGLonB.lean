/-
  ExeL, LonA, KeepA, LonB: one behind the other.
-/
import Derived.Test.YthcjcjfgdgnljaaDoorGExeK
import Derived.Test.YthcjcjfgdgnljaaDoorGMchY
import Derived.Test.YthcjcjfgdgnljaaDoorGRefB
import Derived.Test.YthcjcjfgdgnljaaDoorGDevZG
import Derived.Test.YthcjcjfgdgnljaaDoorGMchW
import Derived.Deep.QuietTactic
import Derived.BigQuiet
namespace Go.Proofs.YthcjcjfgdgnljaaDoor
open Go.RowKit
set_option linter.unusedVariables false
theorem partIsE (s : ByteArray) : PartIs s := fun w kp base r pv ov h hz hb hJ hlt => part_fn w kp base s r pv ov h hz hb hJ hlt
theorem told_big {s : ByteArray} (h9 : s.size ≤ 20000) (n : Nat) (h2 : (rIter s n r0).z.2 = 0) (hl : ¬ (rIter s n r0).z.1 < s.size) (hO : (rIter s n r0).O = []) : Told s (pOf (rIter s n r0).P) (cloL (rIter s n r0).P) (rIter s n r0).P.length := by
  have h9 : s.size ≤ 90000 := by omega
  have hseg := seg_told h9 n h2 hl hO
  have hJ := rj_iter h9 n (rj0 s)
  have hU := ru_iter h9 n ru0 (rj0 s)
  have hn : (rIter s n r0).P.length < 99999 := by have := hJ.pl; have h5 : (rIter s n r0).z.1 ≤ s.size := hJ.hin; omega
  refine ⟨prt_of_seg (fun q _ hq hc => clo_at _ _ rfl q hq hc (fun q' hq' hc' e => hU.uq q' q hq' hq hc' hc e)) hseg, hJ.fl, fun q hq hk => seg_fit hseg q (Nat.zero_le _) hq hk, fun i => ?_, hn⟩
  have := clo_le _ (rIter s n r0).P rfl i
  omega
/-- Read of a wrong text -/
theorem read_bad (w : World) (s : ByteArray) (hs : s.size ≤ 20000) (hc : (run s [(83, true)] 0 0).1 ≠ 0) :
    Calls Tryd.prog 18 #[.string s] w fun e w' => e = .returned (.tuple #[.slice none 0 0, .int .i64 ((run s [(83, true)] 0 0).1 : Int), .int .i64 ((run s [(83, true)] 0 0).2 : Int)]) ∧ Fr NoB w w' := by
  refine (read_fn w s (by omega) (partIsE s)).mono ?_
  rintro e w1 ⟨n, hst, hF1, hor⟩
  have hrun := run_told (by omega) n hst
  rcases hor with ⟨hne, rfl⟩ | ⟨ht, hz, hO, ao, cap, rfl, hrow, hgl⟩
  · rw [hrun]
    exact ⟨rfl, hF1⟩
  · rw [hrun, ht] at hc
    exact absurd rfl hc
/-- Read of a right text -/
theorem read_right (w : World) (s : ByteArray) (hs : s.size ≤ 20000) (hc : run s [(83, true)] 0 0 = (0, 0)) :
    Calls Tryd.prog 18 #[.string s] w fun e w' => ∃ ao np cap, e = .returned (.tuple #[.slice ao np cap, .int .i64 0, .int .i64 0]) ∧ Hid (Fr NoB w w' ∧ ∃ p C, Told s p C np ∧ PartRow w' ao np p C ∧ ∀ g, ao = some ⟨g, 0, none⟩ → g < w'.heap.size) := by
  refine (read_fn w s (by omega) (partIsE s)).mono ?_
  rintro e w1 ⟨n, hst, hF1, hor⟩
  have hrun := run_told (by omega) n hst
  rcases hor with ⟨hne, rfl⟩ | ⟨ht, hz, hO, ao, cap, rfl, hrow, hgl⟩
  · rw [← hrun, hc] at hne
    exact absurd rfl hne
  · have hl : ¬ (rIter s n r0).z.1 < s.size := by
      rcases hst with q | q
      · exact absurd hz q
      · exact q
    exact ⟨ao, _, cap, rfl, ⟨hF1, _, _, told_big hs n hz hl hO, hrow, hgl⟩⟩
set_option maxRecDepth 8000 in
set_option maxHeartbeats 1000000 in
theorem dexec_long (w : World) (s : ByteArray) (nw n : Int) (hs : 20000 < s.size) (hs2 : s.size ≤ 9223372036854775807) :
    Calls Tryd.prog 14 #[.string s, .int .i64 nw, .int .i64 n] w fun e w' => e = .returned (.tuple #[out0, .int .i64 1]) ∧ Fr NoB w w' := by
  have HO : Hid _ := OutAt.new w 28 (.int .i64 0) (.string ⟨#[]⟩) (.int .i64 0) (.int .i64 0)
  have HF0 : Hid (Fr NoB w (w.alloc (.cells #[.int .i64 0, .string ⟨#[]⟩, .int .i64 0, .int .i64 0] 28))) := (Fr.refl _ _).alloc _
  go_enter Tryd.func14, Tryd.ntmps14
  go_upto_region 1 with fail
  generalize (w.alloc _) = W0 at *
  obtain ⟨c0, c1, c2, c3, hf⟩ := HO.out
  have f0 := hf 0
  have f1 := hf 1
  have f2 := hf 2
  have f3 := hf 3
  clear hf
  go_wp2
  obtain ⟨k0, k1, k2, k3, kf⟩ := HO.out.put (u0 := .int .i64 0) (u1 := .string ⟨#[]⟩) (u2 := .int .i64 0) (u3 := .int .i64 0)
  exact bodyPost_ret (v := .tuple #[out0, .int .i64 1]) (by simp [results, Tryd.results14, go_sem, k0, k1, k2, k3, out0]) rfl ⟨rfl, HF0.out.put4 (fun q => absurd q (by omega)) _ _ _ _⟩
set_option maxRecDepth 8000 in
set_option maxHeartbeats 1000000 in
theorem dexec_bad (w : World) (s : ByteArray) (nw n : Int) (hs : s.size ≤ 20000) (hc : (run s [(83, true)] 0 0).1 ≠ 0) :
    Calls Tryd.prog 14 #[.string s, .int .i64 nw, .int .i64 n] w fun e w' => e = .returned (.tuple #[out0, .int .i64 ((run s [(83, true)] 0 0).1 : Int)]) ∧ Fr NoB w w' := by
  have HC : Hid _ := fun X => read_bad X s hs hc
  have b1 : (((run s [(83, true)] 0 0).1 : Int) != 0) = true := bne_iff_ne.2 (by omega)
  generalize (run s [(83, true)] 0 0).1 = k at *
  generalize (run s [(83, true)] 0 0).2 = p at *
  clear hc
  have HO : Hid _ := OutAt.new w 28 (.int .i64 0) (.string ⟨#[]⟩) (.int .i64 0) (.int .i64 0)
  have HF0 : Hid (Fr NoB w (w.alloc (.cells #[.int .i64 0, .string ⟨#[]⟩, .int .i64 0, .int .i64 0] 28))) := (Fr.refl _ _).alloc _
  go_enter Tryd.func14, Tryd.ntmps14
  go_upto_region 1 with fail
  generalize (w.alloc _) = W0 at *
  go_wp2_with (go_at_call 18; refine (HC.out _).mono ?_; rintro e w1 ⟨rfl, hF1⟩; have HO1 : Hid _ := HO.out.fr hF1 id; obtain ⟨c0, c1, c2, c3, hf⟩ := HO1.out; have f0 := hf 0; have f1 := hf 1; have f2 := hf 2; have f3 := hf 3; clear hf)
  obtain ⟨k0, k1, k2, k3, kf⟩ := HO1.out.put (u0 := .int .i64 0) (u1 := .string ⟨#[]⟩) (u2 := .int .i64 0) (u3 := .int .i64 0)
  exact bodyPost_ret (v := .tuple #[out0, .int .i64 (k : Int)]) (by simp [results, Tryd.results14, go_sem, k0, k1, k2, k3, out0]) rfl ⟨rfl, (HF0.out.trans hF1).put4 (fun q => absurd q (by omega)) _ _ _ _⟩
set_option maxRecDepth 8000 in
set_option maxHeartbeats 1000000 in
theorem dexec_any (w : World) (s : ByteArray) (nw n : Int) (v : Value) (ev : Int) (hs : s.size ≤ 20000) (hc : run s [(83, true)] 0 0 = (0, 0))
    (HP : ∀ (W : World) (ao : Option Addr) (np cap : Nat) (p : Nat → Pt) (C : Nat → Nat), Fr NoB w W → Told s p C np → PartRow W ao np p C → (∀ g, ao = some ⟨g, 0, none⟩ → g < W.heap.size) → Calls Tryd.prog 23 #[.slice ao np cap, .int .i64 nw, .int .i64 n] W fun e w' => e = .returned (.tuple #[v, .int .i64 ev]) ∧ Fr NoB W w')
    (hv : ∃ a b c d, v = .agg #[.int .i64 a, .string b, .int .i64 c, .int .i64 d]) :
    Calls Tryd.prog 14 #[.string s, .int .i64 nw, .int .i64 n] w fun e w' => e = .returned (.tuple #[v, .int .i64 ev]) ∧ Fr NoB w w' := by
  have HRd : Hid (∀ X, _) := fun X => read_right X s hs hc
  have HPl : Hid _ := HP
  have HO : Hid _ := OutAt.new w 28 (.int .i64 0) (.string ⟨#[]⟩) (.int .i64 0) (.int .i64 0)
  have HF0 : Hid (Fr NoB w (w.alloc (.cells #[.int .i64 0, .string ⟨#[]⟩, .int .i64 0, .int .i64 0] 28))) := (Fr.refl _ _).alloc _
  obtain ⟨a, b, c, d, rfl⟩ := hv
  clear hc HP
  go_enter Tryd.func14, Tryd.ntmps14
  go_upto_region 1 with fail
  generalize (w.alloc _) = W0 at *
  go_upto_region 6 with (first | (go_at_call 18; refine (HRd.out _).mono ?_; rintro e w2 ⟨ao, np, cap, rfl, HX⟩))
  obtain ⟨hF2, p, C, hT, hrow, hgl⟩ := HX.out
  have HPw : Hid _ := HPl.out w2 ao np cap p C (HF0.out.trans hF2) hT hrow hgl
  have HO2 : Hid _ := HO.out.fr hF2 id
  have HF2 : Hid (Fr NoB w w2) := HF0.out.trans hF2
  clear HX hT hrow hgl HPl hF2
  go_wp2_with (go_at_call 23; refine Calls.mono HPw.out ?_; rintro e w3 ⟨rfl, hF3⟩; have HO3 : Hid _ := HO2.out.fr hF3 id; obtain ⟨c0, c1, c2, c3, hf⟩ := HO3.out; have f0 := hf 0; have f1 := hf 1; have f2 := hf 2; have f3 := hf 3; clear hf)
  obtain ⟨k0, k1, k2, k3, kf⟩ := HO3.out.put (u0 := .int .i64 a) (u1 := .string b) (u2 := .int .i64 c) (u3 := .int .i64 d)
  exact bodyPost_ret (v := .tuple #[.agg #[.int .i64 a, .string b, .int .i64 c, .int .i64 d], .int .i64 ev]) (by simp [results, Tryd.results14, go_sem, k0, k1, k2, k3]) rfl ⟨rfl, (HF2.out.trans hF3).put4 (fun q => absurd q (by omega)) _ _ _ _⟩
end Go.Proofs.YthcjcjfgdgnljaaDoor

namespace Go.Proofs.YthcjcjfgdgnljaaDoor
open Go.RowKit
set_option linter.unusedVariables false

theorem dplay_ends (w : World) (s : ByteArray) (k : Nat) (hc0 : checkN s = (0, 0)) (hk : k ≤ 5000) (σ : St) (hE : Ends cP s k σ) (htab : ∀ W, Fr NoB w W → TabOk W) :
    Calls Tryd.prog 12 #[.string s, .int .i64 (k : Int)] w fun e w' => e = .returned (.tuple #[outP σ, .int .i64 0]) ∧ Fr NoB w w' := by
  obtain ⟨h4, _, _⟩ := check_ok hc0
  obtain ⟨b, hE⟩ := hE
  refine dplay_any w s k (outP σ) 0 h4 hc0 (fun W2 ao np cap p C hW2 hT hrow hgl => ?_) ⟨_, _, _, _, rfl⟩
  obtain ⟨σ', τ, m, ⟨b', hE'⟩, hR, h44, ho⟩ := plays_end hc0 hT k
  have e1 := (hE.det hE').1
  subst e1
  rw [← ho]
  exact rplay_ok W2 ao np cap k m p C τ hk hrow hgl hT.fl (fun i _ => hT.cl i) (by have := hT.nl; omega) hT.sg hR h44 (fun W3 hW3 => htab W3 (hW2.trans hW3))
theorem dexec_ends (w : World) (s : ByteArray) (m k : Nat) (h2 : s.size ≤ 20000) (hc0 : run s [(83, true)] 0 0 = (0, 0)) (hm1 : 1 ≤ m) (hm2 : m ≤ 4096) (hk : k ≤ 5000) (σ : St) (hE : Ends (cE true m) s k σ) (htab : ∀ W, Fr NoB w W → TabOk W) :
    Calls Tryd.prog 14 #[.string s, .int .i64 (m : Int), .int .i64 (k : Int)] w fun e w' => e = .returned (.tuple #[outE σ, .int .i64 0]) ∧ Fr NoB w w' := by
  obtain ⟨b, hE⟩ := hE
  refine dexec_any w s m k (outE σ) 0 h2 hc0 (fun W2 ao np cap p C hW2 hT hrow hgl => ?_) ⟨_, _, _, _, rfl⟩
  obtain ⟨j, hR⟩ := hE.runs_all hT.prt
  exact rexec_ok W2 ao np cap m k j p C σ hm1 hm2 hk hrow hgl hT.fl (fun i _ => hT.cl i) (by have := hT.nl; omega) hT.sg hR (fun W3 hW3 => htab W3 (hW2.trans hW3))
/-- the small program -/
def smT : ByteArray := ⟨#[65, 61, 91, 50, 93, 59, 97, 61, 35, 65, 59, 33, 97, 59]⟩
def smB : ByteArray := ⟨#[97, 61, 35, 65, 59]⟩
set_option maxRecDepth 100000 in
theorem smT_check : checkN smT = (0, 0) := by kernel_rfl
set_option maxRecDepth 100000 in
theorem smB_check : checkN smB = (4, 3) := by kernel_rfl
set_option maxRecDepth 100000 in
theorem smT_run : run smT [(83, true)] 0 0 = (0, 0) := by kernel_rfl
set_option maxRecDepth 100000 in
theorem smT_pg : pgN smT (smT.size + 1) 0 smT.size = .act (.make 0 (.v 2)) (.act (.size 0 0) (.act (.print (.n 0)) .nil)) := by kernel_rfl
def sm1 (c : Cf) : St := (stp c (.make 0 (.v 2)) (st0 3)).1
def sm2 (c : Cf) : St := (stp c (.size 0 0) (sm1 c)).1
def sm3 (c : Cf) : St := (stp c (.print (.n 0)) (sm2 c)).1
theorem sm_ends (c : Cf) (h1 : (stp c (.make 0 (.v 2)) (st0 3)).2 = true) (h2 : (stp c (.size 0 0) (sm1 c)).2 = true) (h3 : (stp c (.print (.n 0)) (sm2 c)).2 = true) : Ends c smT 3 (sm3 c) := by
  refine ⟨true, ?_⟩
  rw [smT_pg]
  exact .go (σ1 := sm1 c) (Prod.ext rfl h1) (.go (σ1 := sm2 c) (Prod.ext rfl h2) (.go (σ1 := sm3 c) (Prod.ext rfl h3) (.nil _)))
set_option maxRecDepth 100000 in
theorem smP_ends : Ends cP smT 3 (sm3 cP) := sm_ends cP (by kernel_rfl) (by kernel_rfl) (by kernel_rfl)
set_option maxRecDepth 100000 in
theorem smE_ends : Ends (cE true 2) smT 3 (sm3 (cE true 2)) := sm_ends (cE true 2) (by kernel_rfl) (by kernel_rfl) (by kernel_rfl)
set_option maxRecDepth 100000 in
theorem smP_out : outP (sm3 cP) = .agg #[.int .i64 0, .string ⟨#[50, 59]⟩, .int .i64 0, .int .i64 0] := by kernel_rfl
set_option maxRecDepth 100000 in
theorem smE_out : outE (sm3 (cE true 2)) = .agg #[.int .i64 0, .string ⟨#[50, 59]⟩, .int .i64 2, .int .i64 2] := by kernel_rfl
set_option maxRecDepth 8000 in
set_option maxHeartbeats 2000000 in
theorem runs_fn (w : World) (htab : ∀ W, Fr NoB w W → TabOk W) :
    Calls Tryd.prog 9 #[] w fun e w' => e = .returned (.bool true) ∧ Fr NoB w w' := by
  have H1 : Hid (∀ W, Calls Tryd.prog 11 #[.string ⟨#[65, 61, 91, 50, 93, 59, 97, 61, 35, 65, 59, 33, 97, 59]⟩] W fun e w' => e = .returned (.tuple #[.int .i64 0, .int .i64 0]) ∧ Fr NoB W w') := fun W => by
    have := devCheck_fn W smT (by decide) (partIs2 smT)
    rwa [smT_check] at this
  have H2 : Hid (∀ W, Calls Tryd.prog 11 #[.string ⟨#[97, 61, 35, 65, 59]⟩] W fun e w' => e = .returned (.tuple #[.int .i64 4, .int .i64 3]) ∧ Fr NoB W w') := fun W => by
    have := devCheck_fn W smB (by decide) (partIs2 smB)
    rwa [smB_check] at this
  have H3 : Hid (∀ W, Fr NoB w W → Calls Tryd.prog 12 #[.string ⟨#[65, 61, 91, 50, 93, 59, 97, 61, 35, 65, 59, 33, 97, 59]⟩, .int .i64 3] W fun e w' => e = .returned (.tuple #[.agg #[.int .i64 0, .string ⟨#[50, 59]⟩, .int .i64 0, .int .i64 0], .int .i64 0]) ∧ Fr NoB W w') := fun W hW => by
    have := dplay_ends W smT 3 smT_check (by omega) _ smP_ends (fun W2 hW2 => htab W2 (hW.trans hW2))
    rwa [smP_out] at this
  have H4 : Hid (∀ W, Fr NoB w W → Calls Tryd.prog 14 #[.string ⟨#[65, 61, 91, 50, 93, 59, 97, 61, 35, 65, 59, 33, 97, 59]⟩, .int .i64 2, .int .i64 3] W fun e w' => e = .returned (.tuple #[.agg #[.int .i64 0, .string ⟨#[50, 59]⟩, .int .i64 2, .int .i64 2], .int .i64 0]) ∧ Fr NoB W w') := fun W hW => by
    have := dexec_ends W smT 2 3 (by decide) smT_run (by omega) (by omega) (by omega) _ smE_ends (fun W2 hW2 => htab W2 (hW.trans hW2))
    rwa [smE_out] at this
  clear htab
  go_enter Tryd.func9, Tryd.ntmps9
  go_upto_region 2 with (go_at_call 11; refine (H1.out _).mono ?_; rintro e w1 ⟨rfl, hF1⟩)
  go_upto_region 3 with (go_at_call 11; refine (H2.out _).mono ?_; rintro e w2 ⟨rfl, hF2⟩)
  have HFa : Hid _ := hF1.trans hF2
  clear hF1 hF2
  go_upto_region 4 with (go_at_call 12; refine (H3.out _ HFa.out).mono ?_; rintro e w3 ⟨rfl, hF3⟩)
  have HO : Hid _ := OutAt.new w3 28 (.int .i64 0) (.string ⟨#[50, 59]⟩) (.int .i64 0) (.int .i64 0)
  have HFb : Hid (Fr NoB w (w3.alloc (.cells #[.int .i64 0, .string ⟨#[50, 59]⟩, .int .i64 0, .int .i64 0] 28))) := (HFa.out.trans hF3).alloc _
  clear hF3
  generalize (w3.alloc _) = W3 at *
  generalize w3.heap.size = o1 at *
  go_upto_region 5 with (go_at_call 14; refine (H4.out _ HFb.out).mono ?_; rintro e w4 ⟨rfl, hF4⟩)
  have HO4 : Hid _ := OutAt.new w4 28 (.int .i64 0) (.string ⟨#[50, 59]⟩) (.int .i64 2) (.int .i64 2)
  have hFc : Fr NoB w4 (w4.alloc (.cells #[.int .i64 0, .string ⟨#[50, 59]⟩, .int .i64 2, .int .i64 2] 28)) := (Fr.refl _ _).alloc _
  have HO3 : Hid _ := (HO.out.fr hF4 id).fr hFc id
  have HFd : Hid _ := (HFb.out.trans hF4).trans hFc
  clear hF4 hFc
  generalize (w4.alloc _) = W4 at *
  generalize w4.heap.size = o2 at *
  obtain ⟨c0, c1, c2, c3, _⟩ := HO3.out
  obtain ⟨d0, d1, d2, d3, _⟩ := HO4.out
  go_wp2
  go_ret
  exact ⟨rfl, HFd.out⟩
end Go.Proofs.YthcjcjfgdgnljaaDoor

namespace Go.Proofs.YthcjcjfgdgnljaaDoor
open Go.RowKit

set_option maxHeartbeats 400000 in
theorem kpick_fn (w : World) (c : Int) (n : Nat) (hn : 1 ≤ n) (hn2 : n ≤ 4611686018427387904) (h1 : -9223372036854775808 ≤ c) (h2 : c ≤ 9223372036854775807) :
    Calls Tryd.prog 10 #[.int .i64 c, .int .i64 (n : Int)] w fun e w' => e = .returned (.int .i64 (pickZ c n : Nat)) ∧ w' = w := by
  by_cases hc : c < 0
  · have hm1 := Int.emod_nonneg (-(c + 1)) (show (n : Int) ≠ 0 by omega)
    have HP : Hid (pickZ c n = ((-(c + 1)) % (n : Int)).toNat) := by unfold pickZ; exact if_pos hc
    go_enter Tryd.func10, Tryd.ntmps10
    go_wp2
    go_ret
    have e : (c + 1).tmod (n : Int) = -((-(c + 1)) % n) := by
      rw [← Int.tmod_eq_emod_of_nonneg (by omega), Int.neg_tmod, Int.neg_neg]
    exact ⟨ret_int (by rw [HP.out]; omega), rfl⟩
  · have hm1 := Int.emod_nonneg c (show (n : Int) ≠ 0 by omega)
    have HP : Hid (pickZ c n = (c % (n : Int)).toNat) := by unfold pickZ; exact if_neg hc
    go_enter Tryd.func10, Tryd.ntmps10
    go_wp2
    go_ret
    exact ⟨ret_int (by rw [HP.out]; omega), rfl⟩
theorem kpick_any (w : World) (c : Int) (n : Nat) (hn : 1 ≤ n) (hn2 : n ≤ 1000000) (h1 : -9223372036854775808 ≤ c) (h2 : c ≤ 9223372036854775807) :
    Calls Tryd.prog 10 #[.int .i64 c, .int .i64 (n : Int)] w fun e w' => ∃ j : Nat, j < n ∧ e = .returned (.int .i64 (j : Int)) ∧ w' = w :=
  (kpick_fn w c n hn (by omega) h1 h2).mono (fun _ _ ⟨h1, h2⟩ => ⟨pickZ c n, pickZ_lt c hn, h1, h2⟩)

/-- a list of blocks in memory: m of them; at, length and words of each -/
structure HeldRow (w : World) (ao : Option Addr) (m : Nat) (A N : Nat → Nat) (S : Nat → Value) : Prop where
  some_ : 0 < m → ∃ g, ao = some ⟨g, 0, none⟩
  c0 : ∀ g i, i < m → ao = some ⟨g, 0, none⟩ → w.cell? ⟨g, i * 3, none⟩ = some (.int .i64 (A i))
  c1 : ∀ g i, i < m → ao = some ⟨g, 0, none⟩ → w.cell? ⟨g, i * 3 + 1, none⟩ = some (.int .i64 (N i))
  c2 : ∀ g i, i < m → ao = some ⟨g, 0, none⟩ → w.cell? ⟨g, i * 3 + 2, none⟩ = some (S i)
  bd : ∀ i, i < m → A i + N i ≤ 4096
  hm : m ≤ 4096

def TK (m : Nat) (A N : Nat → Nat) (p : Nat) : Prop := ∃ i, i < m ∧ A i ≤ p ∧ p < A i + N i

theorem HeldRow.fr {S' : Nat → Prop} {w w' : World} {ao : Option Addr} {m : Nat} {A N : Nat → Nat} {S : Nat → Value} (h : HeldRow w ao m A N S) (hf : Fr S' w w') (hs : ∀ g, ao = some ⟨g, 0, none⟩ → ¬ S' g) : HeldRow w' ao m A N S :=
  ⟨h.some_, fun g i hi e => hf.cell_some (h.c0 g i hi e) (hs g e), fun g i hi e => hf.cell_some (h.c1 g i hi e) (hs g e), fun g i hi e => hf.cell_some (h.c2 g i hi e) (hs g e), h.bd, h.hm⟩
theorem HeldRow.no {w w' : World} {ao : Option Addr} {m : Nat} {A N : Nat → Nat} {S : Nat → Value} (h : HeldRow w ao m A N S) (hf : Fr NoB w w') : HeldRow w' ao m A N S := h.fr hf (fun _ _ h => h)

theorem none_step {P : Nat → Prop} {i : Nat} (h : ∀ j, j < i → ¬ P j) (hi : ¬ P i) : ∀ j, j < i + 1 → ¬ P j := fun j hj => by
  by_cases e : j = i
  · subst e; exact hi
  · exact h j (by omega)

/-- k free words from a on, by the list -/
def RoomAt (m : Nat) (A N : Nat → Nat) (n k a : Nat) : Prop := a + k ≤ n ∧ ∀ i, a ≤ i → i < a + k → ¬ TK m A N i

theorem all_free_step {P : Nat → Prop} {a p : Nat} {f b : Bool} (ha : a ≤ p) (h : f = true ↔ ∀ i, a ≤ i → i < p → ¬ P i) (hb : b = true ↔ P p) : ((f && !b) = true) ↔ ∀ i, a ≤ i → i < p + 1 → ¬ P i := by
  constructor
  · intro e
    simp at e
    intro i h1 h2
    by_cases ei : i = p
    · subst ei; intro hp; have := hb.2 hp; rw [e.2] at this; cases this
    · exact (h.1 e.1) i h1 (by omega)
  · intro hall
    have h1 := h.2 (fun i h1 h2 => hall i h1 (by omega))
    have h2 : b = false := by
      cases b
      · rfl
      · exact absurd (hb.1 rfl) (hall p ha (by omega))
    simp [h1, h2]

end Go.Proofs.YthcjcjfgdgnljaaDoor

namespace Go.Proofs.YthcjcjfgdgnljaaDoor
open Go.RowKit
set_option linter.unusedVariables false

set_option maxRecDepth 8000 in
set_option maxHeartbeats 2000000 in
theorem longer_walk (w : World) (s s2 : ByteArray) (fu mo ec pc : Int) (n j a b : Nat) (X Y : ByteArray) (hn : n ≤ 5000) (hj : n + j ≤ 5000) (hX : X.size ≤ 100000) (hY : Y.size ≤ 100000)
    (HR : ∀ W, Fr NoB w W → Calls Tryd.prog 9 #[] W fun e w' => e = .returned (.bool true) ∧ Fr NoB W w')
    (HP1 : ∀ W, Calls Tryd.prog 10 #[.int .i64 fu, .int .i64 5001] W fun e w' => e = .returned (.int .i64 (n : Int)) ∧ w' = W)
    (HP2 : ∀ W, Calls Tryd.prog 10 #[.int .i64 mo, .int .i64 (5001 - (n : Int))] W fun e w' => e = .returned (.int .i64 (j : Int)) ∧ w' = W)
    (HC : ∀ W, Calls Tryd.prog 11 #[.string s] W fun e w' => e = .returned (.tuple #[.int .i64 ec, .int .i64 pc]) ∧ Fr NoB W w')
    (hs2 : (ec = 0 ∧ s2 = s) ∨ (ec ≠ 0 ∧ s2 = smT))
    (HX : ∀ W, Fr NoB w W → Calls Tryd.prog 12 #[.string s2, .int .i64 (n : Int)] W fun e w' => e = .returned (.tuple #[.agg #[.int .i64 (a : Int), .string X, .int .i64 0, .int .i64 0], .int .i64 0]) ∧ Fr NoB W w')
    (HY : ∀ W, Fr NoB w W → Calls Tryd.prog 12 #[.string s2, .int .i64 ((n : Int) + (j : Int))] W fun e w' => e = .returned (.tuple #[.agg #[.int .i64 (b : Int), .string Y, .int .i64 0, .int .i64 0], .int .i64 0]) ∧ Fr NoB W w')
    (hfin : (a = 2 ∧ X.size ≤ Y.size ∧ Y.extract 0 X.size = X) ∨ (a ≠ 2 ∧ b = a ∧ Y = X)) :
    Calls Tryd.prog 3 #[.string s, .int .i64 fu, .int .i64 mo] w fun e w' => e = .returned (.bool true) ∧ Fr NoB w w' := by
  have G1 : Hid _ := HR
  have G2 : Hid _ := HP1
  have G3 : Hid _ := HP2
  have G4 : Hid _ := HC
  have G5 : Hid _ := HX
  have G6 : Hid _ := HY
  have Hfin : Hid _ := hfin
  clear HR HP1 HP2 HC HX HY hfin
  go_enter Tryd.func3, Tryd.ntmps3
  go_upto_region 4 with (go_at_call 9; refine (G1.out _ (Fr.refl _ _)).mono ?_; rintro e w1 ⟨rfl, hF1⟩)
  have HF1 : Hid _ := hF1
  clear hF1
  go_upto_region 5 with (go_at_call 10; refine (G2.out _).mono ?_; rintro e w6 ⟨rfl, hw⟩; have hw2 := hw.symm; clear hw; subst hw2)
  go_upto_region 6 with (go_at_call 10; refine (G3.out _).mono ?_; rintro e w6 ⟨rfl, hw⟩; have hw2 := hw.symm; clear hw; subst hw2)
  go_upto_region 7 with (go_at_call 11; refine (G4.out _).mono ?_; rintro e w2 ⟨rfl, hF2⟩)
  have HF2 : Hid (Fr NoB w w2) := HF1.out.trans hF2
  clear hF2 HF1 G1 G2 G3 G4
  have hb1 : (ec != 0) = false ∨ (ec != 0) = true := by cases (ec != 0) <;> simp
  have key : s2 = (if (ec != 0) = true then smT else s) := by
    rcases hs2 with ⟨h1, h2⟩ | ⟨h1, h2⟩
    · rw [h1, h2]; rfl
    · rw [h2, if_pos (bne_iff_ne.2 h1)]
  have Hk : Hid _ := key
  clear key hs2
  rcases hb1 with b1 | b1
  · have hs2 : s2 = s := by rw [Hk.out, if_neg (by rw [b1]; simp)]
    subst hs2
    clear Hk
    go_upto_region 10 with (go_at_call 12; refine (G5.out _ HF2.out).mono ?_; rintro e w3 ⟨rfl, hF3⟩)
    have HO : Hid _ := OutAt.new w3 28 (.int .i64 (a : Int)) (.string X) (.int .i64 0) (.int .i64 0)
    have HFb : Hid (Fr NoB w (w3.alloc (.cells #[.int .i64 (a : Int), .string X, .int .i64 0, .int .i64 0] 28))) := (HF2.out.trans hF3).alloc _
    clear hF3
    generalize (w3.alloc _) = W3 at *
    generalize w3.heap.size = o1 at *
    go_upto_region 11 with (go_at_call 12; refine (G6.out _ HFb.out).mono ?_; rintro e w4 ⟨rfl, hF4⟩)
    have HO4 : Hid _ := OutAt.new w4 28 (.int .i64 (b : Int)) (.string Y) (.int .i64 0) (.int .i64 0)
    have hFc : Fr NoB w4 (w4.alloc (.cells #[.int .i64 (b : Int), .string Y, .int .i64 0, .int .i64 0] 28)) := (Fr.refl _ _).alloc _
    have HO3 : Hid _ := (HO.out.fr hF4 id).fr hFc id
    have HFd : Hid _ := (HFb.out.trans hF4).trans hFc
    clear hF4 hFc
    generalize (w4.alloc _) = W4 at *
    generalize w4.heap.size = o2 at *
    obtain ⟨c0, c1, c2, c3, _⟩ := HO3.out
    obtain ⟨d0, d1, d2, d3, _⟩ := HO4.out
    rcases Hfin.out with ⟨ha, hl, hx⟩ | ⟨ha, hb, hy⟩
    · subst ha
      have bl : decide ((X.size : Int) ≤ (Y.size : Int)) = true := decide_eq_true (by omega)
      go_upto_region 14 with fail
      go_quiet (fail)
      go_wp2
      go_ret
      exact ⟨by simp, HFd.out.drewN _⟩
    · subst hb hy
      have ba : ((b : Int) == 2) = false := beq_eq_false_iff_ne.2 (by omega)
      go_wp2
      go_ret
      exact ⟨by simp, HFd.out⟩
  · have hs2 : s2 = smT := by rw [Hk.out, if_pos b1]
    subst hs2
    clear Hk
    go_upto_region 10 with (go_at_call 12; refine (G5.out _ HF2.out).mono ?_; rintro e w3 ⟨rfl, hF3⟩)
    have HO : Hid _ := OutAt.new w3 28 (.int .i64 (a : Int)) (.string X) (.int .i64 0) (.int .i64 0)
    have HFb : Hid (Fr NoB w (w3.alloc (.cells #[.int .i64 (a : Int), .string X, .int .i64 0, .int .i64 0] 28))) := (HF2.out.trans hF3).alloc _
    clear hF3
    generalize (w3.alloc _) = W3 at *
    generalize w3.heap.size = o1 at *
    go_upto_region 11 with (go_at_call 12; refine (G6.out _ HFb.out).mono ?_; rintro e w4 ⟨rfl, hF4⟩)
    have HO4 : Hid _ := OutAt.new w4 28 (.int .i64 (b : Int)) (.string Y) (.int .i64 0) (.int .i64 0)
    have hFc : Fr NoB w4 (w4.alloc (.cells #[.int .i64 (b : Int), .string Y, .int .i64 0, .int .i64 0] 28)) := (Fr.refl _ _).alloc _
    have HO3 : Hid _ := (HO.out.fr hF4 id).fr hFc id
    have HFd : Hid _ := (HFb.out.trans hF4).trans hFc
    clear hF4 hFc
    generalize (w4.alloc _) = W4 at *
    generalize w4.heap.size = o2 at *
    obtain ⟨c0, c1, c2, c3, _⟩ := HO3.out
    obtain ⟨d0, d1, d2, d3, _⟩ := HO4.out
    rcases Hfin.out with ⟨ha, hl, hx⟩ | ⟨ha, hb, hy⟩
    · subst ha
      have bl : decide ((X.size : Int) ≤ (Y.size : Int)) = true := decide_eq_true (by omega)
      go_upto_region 14 with fail
      go_quiet (fail)
      go_wp2
      go_ret
      exact ⟨by simp, HFd.out.drewN _⟩
    · subst hb hy
      have ba : ((b : Int) == 2) = false := beq_eq_false_iff_ne.2 (by omega)
      go_wp2
      go_ret
      exact ⟨by simp, HFd.out⟩
theorem check_zero {s : ByteArray} (h0 : (checkN s).1 = 0) : checkN s = (0, 0) := by
  unfold checkN at h0 ⊢
  by_cases h4 : 400 < s.size
  · rw [if_pos h4] at h0; cases h0
  · rw [if_neg h4] at h0 ⊢
    by_cases q : (run s [(83, true)] 0 0).1 ≠ 0
    · rw [if_pos q] at h0; exact absurd h0 q
    · rw [if_neg q] at h0 ⊢
      by_cases hm : 0 ≤ misT s
      · rw [if_pos hm] at h0; cases h0
      · rw [if_neg hm]
theorem trOk_due {σ : St} (h : TrOk σ) : TrOk (due σ) := by
  unfold TrOk at *
  show σ.tr.length + 5 * (σ.left - 1) ≤ 25000
  omega
theorem Ex.trOk {c : Cf} {P : Pg} {σ σ' : St} {b : Bool} (h : Ex c P σ σ' b) : TrOk σ → TrOk σ' := by
  induction h with
  | nil σ => exact id
  | @stop a r σ σ' h => exact fun q => by have := stp_trOk (c := c) (a := a) q; rw [h] at this; exact this
  | @go a r σ σ1 σ2 b h hr ih => exact fun q => ih (by have := stp_trOk (c := c) (a := a) q; rw [h] at this; exact this)
  | iteTired h => exact fun q => q
  | iteStop h hp ih => exact fun q => ih (trOk_due q)
  | iteGo h hp hr ih1 ih2 => exact fun q => ih2 (ih1 (trOk_due q))
  | loopTired h => exact fun q => q
  | loopEnd h h0 hr ih => exact fun q => ih (trOk_due q)
  | loopStop h h0 hp ih => exact fun q => ih (trOk_due q)
  | loopGo h h0 hp hr ih1 ih2 => exact fun q => ih2 (ih1 (trOk_due q))
theorem trB_pre {x y : List Nat} (h : x <+: y) : (trB x).size ≤ (trB y).size ∧ (trB y).extract 0 (trB x).size = trB x := by
  obtain ⟨z, rfl⟩ := h
  have hx : (trB x).size = x.length := by simp [trB, ByteArray.size]
  refine ⟨by simp [trB, ByteArray.size], ?_⟩
  rw [hx]
  apply ByteArray.ext
  simp [trB]
/-- the law -/
theorem longer_any (w : World) (s : ByteArray) (fu mo : Int) (hs : s.size ≤ 9223372036854775807) (h1 : -9223372036854775808 ≤ fu) (h2 : fu ≤ 9223372036854775807) (h3 : -9223372036854775808 ≤ mo) (h4 : mo ≤ 9223372036854775807) (htab : ∀ W, Fr NoB w W → TabOk W) :
    Calls Tryd.prog 3 #[.string s, .int .i64 fu, .int .i64 mo] w fun e w' => e = .returned (.bool true) ∧ Fr NoB w w' := by
  have hn : pickZ fu 5001 < 5001 := pickZ_lt fu (by omega)
  have hj : pickZ mo (5001 - pickZ fu 5001) < 5001 - pickZ fu 5001 := pickZ_lt mo (by omega)
  have P1 : ∀ W, Calls Tryd.prog 10 #[.int .i64 fu, .int .i64 5001] W fun e w' => e = .returned (.int .i64 (pickZ fu 5001 : Int)) ∧ w' = W := fun W => kpick_fn W fu 5001 (by omega) (by omega) h1 h2
  have P2 : ∀ W, Calls Tryd.prog 10 #[.int .i64 mo, .int .i64 (5001 - (pickZ fu 5001 : Int))] W fun e w' => e = .returned (.int .i64 (pickZ mo (5001 - pickZ fu 5001) : Int)) ∧ w' = W := fun W => by
    have := kpick_fn W mo (5001 - pickZ fu 5001) (by omega) (by omega) h3 h4
    rwa [show ((5001 - pickZ fu 5001 : Nat) : Int) = 5001 - (pickZ fu 5001 : Int) by omega] at this
  generalize pickZ mo (5001 - pickZ fu 5001) = j at *
  generalize pickZ fu 5001 = n at *
  obtain ⟨s2, hc2, hs2⟩ : ∃ s2, checkN s2 = (0, 0) ∧ ((((checkN s).1 : Int) = 0 ∧ s2 = s) ∨ (((checkN s).1 : Int) ≠ 0 ∧ s2 = smT)) := by
    by_cases hc : (checkN s).1 = 0
    · exact ⟨s, check_zero hc, .inl ⟨by rw [hc]; rfl, rfl⟩⟩
    · exact ⟨smT, smT_check, .inr ⟨by omega, rfl⟩⟩
  obtain ⟨σ, b, hE⟩ := Ex.total cP n (pgN s2 (s2.size + 1) 0 s2.size) (st0 n) (Nat.le_refl _)
  obtain ⟨τ, b', hE'⟩ := Ex.total cP (n + j) (pgN s2 (s2.size + 1) 0 s2.size) (st0 (n + j)) (Nat.le_refl _)
  have hmr : mr j (st0 n) = st0 (n + j) := rfl
  obtain ⟨m1, m2⟩ := hE.more cP_mr j
  have ht1 := (hE.trOk (show TrOk (st0 n) by unfold TrOk st0; show 0 + 5 * n ≤ 25000; omega))
  have ht2 := (hE'.trOk (show TrOk (st0 (n + j)) by unfold TrOk st0; show 0 + 5 * (n + j) ≤ 25000; omega))
  have hz : ∀ l : List Nat, (trB l).size = l.length := fun l => by simp [trB, ByteArray.size]
  refine longer_walk w s s2 fu mo _ _ n j σ.status τ.status (trB σ.tr) (trB τ.tr) (by omega) (by omega) (by rw [hz]; unfold TrOk at ht1; omega) (by rw [hz]; unfold TrOk at ht2; omega) (fun W hW => runs_fn W (fun W2 hW2 => htab W2 (hW.trans hW2))) P1 P2 (fun W => devCheck_fn W s hs (partIs2 s)) hs2
    (fun W hW => dplay_ends W s2 n hc2 (by omega) σ ⟨b, hE⟩ (fun W2 hW2 => htab W2 (hW.trans hW2))) (fun W hW => by
      have := dplay_ends W s2 (n + j) hc2 (by omega) τ ⟨b', hE'⟩ (fun W2 hW2 => htab W2 (hW.trans hW2))
      rwa [Int.natCast_add] at this) ?_
  by_cases hb : b = true ∨ σ.status ≠ 2
  · have e := (m1 hb).det (by rw [hmr]; exact hE')
    have e1 : τ = mr j σ := e.1
    by_cases h22 : σ.status = 2
    · refine .inl ⟨h22, trB_pre ?_⟩
      rw [e1]
      exact List.prefix_refl _
    · exact .inr ⟨h22, by rw [e1]; rfl, by rw [e1]; rfl⟩
  · have hbf : b = false := by cases b <;> simp at hb ⊢
    have h22 : σ.status = 2 := Classical.byContradiction (fun q => hb (.inr q))
    exact .inl ⟨h22, trB_pre (m2 hbf h22 (by rw [hmr]; exact hE'))⟩
end Go.Proofs.YthcjcjfgdgnljaaDoor
