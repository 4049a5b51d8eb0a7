/-
  ExeK, ExeL, LonA, LwrA, LwrF: one behind the other.
-/
import Derived.Test.YthcjcjfgdgnljabDoorGMchY
import Derived.Test.YthcjcjfgdgnljabDoorGLowC
import Derived.Deep.RegionHeld3
import Derived.Test.YthcjcjfgdgnljabDoorGMchZ
import Derived.Test.YthcjcjfgdgnljabDoorGDevZG
import Derived.Test.YthcjcjfgdgnljabDoorGTxtD
import Derived.Test.YthcjcjfgdgnljabDoorGSynY
import Derived.Test.YthcjcjfgdgnljabDoorGRunC
import Derived.Test.YthcjcjfgdgnljabDoorGTxtG
import Derived.Test.YthcjcjfgdgnljabDoorGMacB
import Derived.Deep.QuietTactic
import Derived.BigQuiet
namespace Go.Proofs.YthcjcjfgdgnljabDoor
open Go.RowKit
set_option linter.unusedVariables false

theorem MacAt.setStrict {w : World} {mp : Nat} {pv : Value} {st : Bool} {x : Mx} (h : MacAt w mp pv st x) (v : Bool) : MacAt (w.setCell ⟨mp, 2, none⟩ (.bool v)) mp pv v x :=
  ⟨cell_at h.cp (by omega), cell_at h.cx (by omega), cell_same h.cs, cell_at h.cf (by omega), fun k hk => cell_at (h.cn k hk) (by omega), fun k hk => cell_at (h.ca k hk) (by omega), fun k hk => cell_at (h.cl k hk) (by omega), cell_at h.ck (by omega), cell_at h.ct (by omega), cell_at h.co (by omega), cell_at h.cu (by omega), fun o => by rw [World.frozen?_setCell]; exact h.fz o⟩
theorem MM.strict {w : World} {mp r n base nx : Nat} {pv tv : Value} {st ov : Bool} {σ : St} {B V : Nat → Int} (h : MM w mp r n base pv st σ nx ov B V tv) (v : Bool) : MM (w.setCell ⟨mp, 2, none⟩ (.bool v)) mp r n base pv v σ nx ov B V tv := by
  have hF := (Fr.refl (OneB mp) w).setCell (p := ⟨mp, 2, none⟩) (fun _ => rfl) (.bool v)
  have hr : ¬ OneB mp r := fun e => h.h.ne (by unfold OneB at e; exact e.symm)
  exact ⟨h.m.setStrict v, ⟨h.h.lo, h.h.hi, h.h.ne, cell_at h.h.ptr (by omega), fun i hi => hF.cell_some (h.h.blk i hi) hr, fun i hi => hF.cell_some (h.h.val i hi) hr, fun o => (hF.frozen (p := ⟨r, o, none⟩) h.h.rl hr).trans (h.h.frz o), h.h.b0, h.h.b1⟩, h.b, h.ap, h.ok, hF.owns h.tr (fun g hg e => h.nm g hg e), h.tk, h.mb, h.rb, h.nm, h.nr, h.nxb⟩
section
variable (w : World) (mp r n base nx : Nat) (pv tv : Value) (st ov : Bool) (σ : St) (B V : Nat → Int)
set_option maxHeartbeats 1000000 in
theorem bused_fn (h : MM w mp r n base pv st σ nx ov B V tv) :
    Calls Tryd.prog 24 #[.pointer (some ⟨mp, 30, none⟩)] w fun e w' => e = .returned (.int .i64 (usedN σ 26 : Int)) ∧ w' = w := by
  have HM : Hid _ := h
  clear h
  go_enter Tryd.func24, Tryd.ntmps24
  go_wp2
  go_loop [3, 4] (fun t u => ∃ k : Nat, k ≤ 26 ∧ t = .int .i64 (usedN σ k : Int) ∧ u = .int .i64 k) (fun _ u => 26 - (intOf u).toNat)
  case atStart => exact ⟨0, by omega, rfl, rfl⟩
  case round =>
    obtain ⟨k, hk, rfl, rfl⟩ := hrel
    have ub := used_le HM.out.ok k
    have lb := HM.out.ok.sz k
    by_cases hlt : k < 26
    · have cl := HM.out.m.cl k hlt
      unfold mxOf at cl
      simp only [] at cl
      have HX : Hid (usedN σ (k + 1) = usedN σ k + (σ.bx k).length) := rfl
      generalize usedN σ k = U at *
      generalize (σ.bx k).length = L at *
      go_wp2
      go_round
      case rel => exact ⟨k + 1, by omega, by rw [HX.out]; go_num, by go_num⟩
      case measure => simp [intOf]; omega
    · have hk26 : k = 26 := by omega
      subst hk26
      go_wp2
      go_ret
      exact ⟨rfl, rfl⟩
end
set_option maxRecDepth 100000 in
set_option maxHeartbeats 1000000 in
theorem rexec_arg (w : World) (ao : Option Addr) (np cap : Nat) (a f : Int) (hf : (a < 1 ∨ 4096 < a) ∨ (f < 0 ∨ 5000 < f)) :
    Calls Tryd.prog 14 #[.slice ao np cap, .int .i64 a, .int .i64 f] w fun e w' => e = .returned (.tuple #[out0, .int .i64 5]) ∧ Fr NoB w w' := by
  have HB : Hid (∀ W, ∃ A : Array Value, A.size = 87 ∧ (∀ v ∈ A.toList, v.oneCell' = true) ∧ Calls Tryd.prog 22 #[.slice ao np cap, .int .i64 a, .int .i64 f] W fun e w' => e = .returned (.tuple #[.agg A, .int .i64 5]) ∧ Fr NoB W w') := fun W => ⟨zMac, zMac_size, zMac_one, by
    by_cases ha : a < 1 ∨ 4096 < a
    · exact begin_no W (.slice ao np cap) a f ha
    · obtain ⟨k, rfl⟩ : ∃ k : Nat, a = (k : Int) := ⟨a.toNat, by omega⟩
      exact begin_arg W (.slice ao np cap) k f (by omega) (by omega) (by omega)⟩
  have HO : Hid _ := OutAt.new w 28 (.int .i64 0) (.string ⟨#[]⟩) (.int .i64 0) (.int .i64 0)
  have HF0 : Hid (Fr NoB w (w.alloc (.cells #[.int .i64 0, .string ⟨#[]⟩, .int .i64 0, .int .i64 0] 28))) := (Fr.refl _ _).alloc _
  clear hf
  go_enter Tryd.func14, Tryd.ntmps14
  go_upto_region 1 with fail
  generalize (w.alloc _) = W0 at *
  obtain ⟨A, hA1, hA2, hB⟩ := HB.out W0
  have HB0 : Hid _ := hB
  clear hB HB
  go_upto_region 2 with (go_at_call 22; refine Calls.mono HB0.out ?_; rintro e w1 ⟨rfl, hF1⟩; have HRm : Hid _ := Room.new w1 Tryd.zeroCells76 76 87 (by rw [zMac_is, zMac_size]; omega); have hst := room_store HRm.out hA1 hA2)
  have hF2 : Fr NoB W0 ((w1.alloc (.cells Tryd.zeroCells76 76)).setCells w1.heap.size 0 A.toList) := Fr.setCells (fun q => by have := hF1.size; omega) _ _ (hF1.alloc _)
  generalize ((w1.alloc (.cells Tryd.zeroCells76 76)).setCells w1.heap.size 0 A.toList) = W2 at *
  have HO1 : Hid _ := HO.out.fr hF2 id
  obtain ⟨c0, c1, c2, c3, hf⟩ := HO1.out
  have f0 := hf 0
  have f1 := hf 1
  have f2 := hf 2
  have f3 := hf 3
  clear hf hst
  go_wp2
  obtain ⟨k0, k1, k2, k3, kf⟩ := HO1.out.put (u0 := .int .i64 0) (u1 := .string ⟨#[]⟩) (u2 := .int .i64 0) (u3 := .int .i64 0)
  exact bodyPost_ret (v := .tuple #[out0, .int .i64 5]) (by simp [results, Tryd.results14, go_sem, k0, k1, k2, k3, out0]) rfl ⟨rfl, (HF0.out.trans hF2).put4 (fun q => absurd q (by omega)) _ _ _ _⟩
set_option maxRecDepth 100000 in
set_option maxHeartbeats 2000000 in
theorem rexec_ok (w : World) (ao : Option Addr) (np cap nw k m : Nat) (p : Nat → Pt) (C : Nat → Nat) (σf : St) (hw1 : 1 ≤ nw) (hw2 : nw ≤ 4096) (hk : k ≤ 5000) (hrow : PartRow w ao np p C) (hg : ∀ g, ao = some ⟨g, 0, none⟩ → g < w.heap.size) (hfl : FlatOk p np) (hC : ∀ i, i < np → C i < 99999) (hnp : np < 100000)
    (hsg : ∀ i, i < np → (p i).kind = 0 → (p i).sign = 0 ∨ sgOk (p i).sign) (hR : RunsIn (cE true nw) p C np m (0, st0 k, false) σf) (htab : ∀ W, Fr NoB w W → TabOk W) :
    Calls Tryd.prog 14 #[.slice ao np cap, .int .i64 (nw : Int), .int .i64 (k : Int)] w fun e w' => e = .returned (.tuple #[outE σf, .int .i64 0]) ∧ Fr NoB w w' := by
  have HB : Hid (∀ W, Calls Tryd.prog 22 #[.slice ao np cap, .int .i64 (nw : Int), .int .i64 (k : Int)] W fun e w' => ∃ r A, e = .returned (.tuple #[.agg A, .int .i64 0]) ∧ Hid (A = mac0 (.slice ao np cap) (.slice (some ⟨r, 0, none⟩) nw nw) k ∧ Fr NoB W w' ∧
      W.heap.size ≤ r ∧ r < w'.heap.size ∧ (∀ j, j < nw * 2 → w'.cell? ⟨r, j, none⟩ = some (.int .i64 0)) ∧ (∀ o, w'.frozen? ⟨r, o, none⟩ = false))) := fun W => (begin_ok W ao np cap nw k hw1 hw2 hk).mono fun e w' ⟨r, h1, h2⟩ => ⟨r, _, h1, ⟨rfl, h2⟩⟩
  have HO : Hid _ := OutAt.new w 28 (.int .i64 0) (.string ⟨#[]⟩) (.int .i64 0) (.int .i64 0)
  have HF0 : Hid (Fr NoB w (w.alloc (.cells #[.int .i64 0, .string ⟨#[]⟩, .int .i64 0, .int .i64 0] 28))) := (Fr.refl _ _).alloc _
  have hl0 : (w.alloc (.cells #[.int .i64 0, .string ⟨#[]⟩, .int .i64 0, .int .i64 0] 28)).heap.size = w.heap.size + 1 := by simp
  have HRf : Hid _ := And.intro hrow (And.intro hg (And.intro hfl (And.intro hC (And.intro hsg (And.intro hR htab)))))
  have Hby : Hid _ := ri_byte hR (fun y hy => by simp [st0] at hy)
  have HL0 : Hid _ := hl0
  clear hrow hg hfl hC hsg hR htab hl0
  go_enter Tryd.func14, Tryd.ntmps14
  go_upto_region 1 with fail
  generalize (w.alloc _) = W0 at *
  go_upto_region 2 with (go_at_call 22; refine (HB.out _).mono ?_; rintro e w1 ⟨r, A, rfl, HX⟩; have HRm : Hid _ := Room.new w1 Tryd.zeroCells76 76 87 (by rw [zMac_is, zMac_size]; omega); have hA1 : A.size = 87 := (by rw [HX.out.1]; exact mac0_size _ _ _); have hst := room_store HRm.out (A := A) hA1 (by rw [HX.out.1]; exact mac0_one rfl rfl))
  obtain ⟨hA, hF1, hr1, hr2, hr3, hr4⟩ := HX.out
  have hl1 : W0.heap.size ≤ w1.heap.size := hF1.size
  have hFa : Fr NoB w1 (w1.alloc (.cells Tryd.zeroCells76 76)) := (Fr.refl _ _).alloc _
  have hM := mm_new (ao := ao) (np := np) (cap := cap) (n := nw) (k := k) (base := W0.heap.size) (r := r) HRm.out hl1 hr1 (by omega) (by omega) (by omega) hk (Nat.lt_of_lt_of_le hr2 hFa.size) (fun j hj => hFa.cell_some (hr3 j hj) id) (fun o => (hFa.frozen (p := ⟨r, o, none⟩) hr2 id).trans (hr4 o))
  rw [← hA] at hM
  have hF2 : Fr NoB W0 ((w1.alloc (.cells Tryd.zeroCells76 76)).setCells w1.heap.size 0 A.toList) := Fr.setCells (fun q => by omega) _ _ (hF1.trans hFa)
  have HM : Hid _ := hM
  clear hM hA hr1 hr2 hr3 hr4 hFa hst HX HRm HB
  generalize ((w1.alloc (.cells Tryd.zeroCells76 76)).setCells w1.heap.size 0 A.toList) = W2 at *
  generalize w1.heap.size = mp at *
  have cst := HM.out.m.cs
  have fst := HM.out.m.fz 2
  go_upto_region 5 with fail
  have HM2 : Hid _ := HM.out.strict true
  have hF2b : Fr NoB W0 (W2.setCell ⟨mp, 2, none⟩ (.bool true)) := hF2.setCell (p := ⟨mp, 2, none⟩) (fun (q : mp < W0.heap.size) => by omega) _
  clear HM hF2 cst fst
  generalize W2.setCell ⟨mp, 2, none⟩ (.bool true) = W3 at *
  have HF2 : Hid _ := HF0.out.trans hF2b
  have HO2 : Hid _ := HO.out.fr hF2b id
  have HRn : Hid (Calls Tryd.prog 23 #[.pointer (some ⟨mp, 0, none⟩)] W3 fun e w' => e = .returned (.tuple #[]) ∧ RunE mp r nw W0.heap.size (.slice ao np cap) true σf W3 w') := by
    obtain ⟨q1, q2, q3, q4, q5, q6, q8⟩ := HRf.out
    exact run_fn W3 mp r nw W0.heap.size np cap ao p C true _ _ _ (st0 k) σf m HM2.out (q1.no HF2.out) (fun g e => by have := q2 g e; have := HL0.out; omega) q3 q4 hnp q5 q6 (by simp [st0]) (fun q => by cases q) (fun W hW => q8 W (HF2.out.then hW (fun j hj q => by unfold FrM at q; have := HL0.out; omega)))
  clear hF1 hF2b
  go_upto_region 6 with (go_at_call 23; refine Calls.mono HRn.out ?_; rintro e w3 ⟨rfl, hE⟩; have HE : Hid _ := hE; clear hE)
  obtain ⟨⟨nx, ov, B, V, tv, hM3⟩, hF3⟩ := HE.out
  have cu := hM3.m.cu
  have ct := hM3.m.ct
  have ck := hM3.m.ck
  unfold mxOf at cu ct ck
  simp only [] at cu ct ck
  have hob : w.heap.size < W0.heap.size := by have := HL0.out; omega
  have hom : w.heap.size < mp := Nat.lt_of_lt_of_le hob hM3.mb
  have HUs : Hid (∀ W, Fr NoB w3 W → Calls Tryd.prog 24 #[.pointer (some ⟨mp, 30, none⟩)] W fun e w' => e = .returned (.int .i64 (usedN σf 26 : Int)) ∧ w' = W) := fun W hW => bused_fn W mp r nw W0.heap.size nx _ tv true ov σf B V (hM3.no hW)
  have HK : Hid (∀ W, Fr (OneB w.heap.size) w3 W → W.cell? ⟨mp, 86, none⟩ = some (.int .i64 (σf.status : Int)) ∧ W.cell? ⟨mp, 84, none⟩ = some tv ∧ W.cell? ⟨mp, 83, none⟩ = some (.int .i64 (σf.peak : Int)) ∧ (convert 33 9 tv).run Tryd.prog W = .ok (.string (trB σf.tr)) W) := fun W hW => by
    have hnm : ¬ OneB w.heap.size mp := fun e => by unfold OneB at e; omega
    refine ⟨hW.cell_some cu hnm, hW.cell_some ct hnm, hW.cell_some ck hnm, conv_tr (hW.owns hM3.tr (fun g hg e => ?_)) Hby.out⟩
    unfold OneB at e
    rcases hM3.tr.2 with ⟨rfl, h0⟩ | ⟨g', cap', cur, rfl, hg', _⟩
    · simp [Value.ownBlock] at hg
    · simp [Value.ownBlock] at hg
      omega
  have HO3 : Hid _ := HO2.out.fr hF3 (fun q => by unfold FrM at q; omega)
  have HF4 : Hid (Fr NoB w w3) := HF2.out.then hF3 (fun j hj q => by unfold FrM at q; have := HL0.out; omega)
  obtain ⟨c0, c1, c2, c3, hf⟩ := HO3.out
  have f0 := hf 0
  have f1 := hf 1
  have f2 := hf 2
  have f3 := hf 3
  clear hf hF3 hM3 cu ct ck
  generalize hTR : trB σf.tr = TR at *
  generalize hUU : usedN σf 26 = U at *
  have HTR : Hid _ := hTR
  have HUU : Hid _ := hUU
  clear hTR hUU
  have HP4 : Hid (∀ u0 u1 u2 u3 : Value, Fr (OneB w.heap.size) w3 ((((w3.setCell ⟨w.heap.size, 0, none⟩ u0).setCell ⟨w.heap.size, 1, none⟩ u1).setCell ⟨w.heap.size, 2, none⟩ u2).setCell ⟨w.heap.size, 3, none⟩ u3)) := fun u0 u1 u2 u3 => Fr.put4 (S := OneB w.heap.size) (Fr.refl _ _) (fun _ => rfl) u0 u1 u2 u3
  go_region_held3 (fun W => W.cell? ⟨mp, 86, none⟩ = some (.int .i64 (σf.status : Int)) ∧ W.cell? ⟨mp, 84, none⟩ = some tv ∧ W.cell? ⟨mp, 83, none⟩ = some (.int .i64 (σf.peak : Int)) ∧ (convert 33 9 tv).run Tryd.prog W = .ok (.string TR) W) (exact HK.out _ (by repeat (first | exact Fr.refl _ _ | refine Fr.drew ?_ | exact HP4.out _ _ _ _))) ((go_at_call 24; refine (HUs.out _ ((Fr.refl _ _).drew)).mono ?_; rintro e w5 ⟨rfl, hw⟩; have hw2 := hw.symm; clear hw; subst hw2))
  all_goals
    obtain ⟨k0, k1, k2, k3, kf⟩ := HO3.out.put (u0 := .int .i64 (σf.status : Int)) (u1 := .string TR) (u2 := .int .i64 (U : Int)) (u3 := .int .i64 (σf.peak : Int))
    go_wp2
    exact bodyPost_ret (v := .tuple #[outE σf, .int .i64 0]) (by simp [results, Tryd.results14, go_sem, k0, k1, k2, k3, outE, HTR.out, HUU.out]) rfl ⟨rfl, (HF4.out.put4 (fun q => absurd q (by omega)) _ _ _ _).drew⟩
end Go.Proofs.YthcjcjfgdgnljabDoor

namespace Go.Proofs.YthcjcjfgdgnljabDoor
open Go.RowKit
set_option linter.unusedVariables false
theorem partIsE (s : ByteArray) : PartIs s := fun w kp base r pv ov h hz hb hJ hlt => part_fn w kp base s r pv ov h hz hb hJ hlt
theorem told_big {s : ByteArray} (h9 : s.size ≤ 20000) (n : Nat) (h2 : (rIter s n r0).z.2 = 0) (hl : ¬ (rIter s n r0).z.1 < s.size) (hO : (rIter s n r0).O = []) : Told s (pOf (rIter s n r0).P) (cloL (rIter s n r0).P) (rIter s n r0).P.length := by
  have h9 : s.size ≤ 90000 := by omega
  have hseg := seg_told h9 n h2 hl hO
  have hJ := rj_iter h9 n (rj0 s)
  have hU := ru_iter h9 n ru0 (rj0 s)
  have hn : (rIter s n r0).P.length < 99999 := by have := hJ.pl; have h5 : (rIter s n r0).z.1 ≤ s.size := hJ.hin; omega
  refine ⟨prt_of_seg (fun q _ hq hc => clo_at _ _ rfl q hq hc (fun q' hq' hc' e => hU.uq q' q hq' hq hc' hc e)) hseg, hJ.fl, fun q hq hk => seg_fit hseg q (Nat.zero_le _) hq hk, fun i => ?_, hn⟩
  have := clo_le _ (rIter s n r0).P rfl i
  omega
/-- Read of a wrong text -/
theorem read_bad (w : World) (s : ByteArray) (hs : s.size ≤ 20000) (hc : (run s [(83, true)] 0 0).1 ≠ 0) :
    Calls Tryd.prog 10 #[.string s] w fun e w' => e = .returned (.tuple #[.slice none 0 0, .int .i64 ((run s [(83, true)] 0 0).1 : Int), .int .i64 ((run s [(83, true)] 0 0).2 : Int)]) ∧ Fr NoB w w' := by
  refine (read_fn w s (by omega) (partIsE s)).mono ?_
  rintro e w1 ⟨n, hst, hF1, hor⟩
  have hrun := run_told (by omega) n hst
  rcases hor with ⟨hne, rfl⟩ | ⟨ht, hz, hO, ao, cap, rfl, hrow, hgl⟩
  · rw [hrun]
    exact ⟨rfl, hF1⟩
  · rw [hrun, ht] at hc
    exact absurd rfl hc
/-- Read of a right text -/
theorem read_right (w : World) (s : ByteArray) (hs : s.size ≤ 20000) (hc : run s [(83, true)] 0 0 = (0, 0)) :
    Calls Tryd.prog 10 #[.string s] w fun e w' => ∃ ao np cap, e = .returned (.tuple #[.slice ao np cap, .int .i64 0, .int .i64 0]) ∧ Hid (Fr NoB w w' ∧ ∃ p C, Told s p C np ∧ PartRow w' ao np p C ∧ ∀ g, ao = some ⟨g, 0, none⟩ → g < w'.heap.size) := by
  refine (read_fn w s (by omega) (partIsE s)).mono ?_
  rintro e w1 ⟨n, hst, hF1, hor⟩
  have hrun := run_told (by omega) n hst
  rcases hor with ⟨hne, rfl⟩ | ⟨ht, hz, hO, ao, cap, rfl, hrow, hgl⟩
  · rw [← hrun, hc] at hne
    exact absurd rfl hne
  · have hl : ¬ (rIter s n r0).z.1 < s.size := by
      rcases hst with q | q
      · exact absurd hz q
      · exact q
    exact ⟨ao, _, cap, rfl, ⟨hF1, _, _, told_big hs n hz hl hO, hrow, hgl⟩⟩
set_option maxRecDepth 8000 in
set_option maxHeartbeats 1000000 in
theorem dexec_long (w : World) (s : ByteArray) (nw n : Int) (hs : 20000 < s.size) (hs2 : s.size ≤ 9223372036854775807) :
    Calls Tryd.prog 8 #[.string s, .int .i64 nw, .int .i64 n] w fun e w' => e = .returned (.tuple #[out0, .int .i64 1]) ∧ Fr NoB w w' := by
  have HO : Hid _ := OutAt.new w 28 (.int .i64 0) (.string ⟨#[]⟩) (.int .i64 0) (.int .i64 0)
  have HF0 : Hid (Fr NoB w (w.alloc (.cells #[.int .i64 0, .string ⟨#[]⟩, .int .i64 0, .int .i64 0] 28))) := (Fr.refl _ _).alloc _
  go_enter Tryd.func8, Tryd.ntmps8
  go_upto_region 1 with fail
  generalize (w.alloc _) = W0 at *
  obtain ⟨c0, c1, c2, c3, hf⟩ := HO.out
  have f0 := hf 0
  have f1 := hf 1
  have f2 := hf 2
  have f3 := hf 3
  clear hf
  go_wp2
  obtain ⟨k0, k1, k2, k3, kf⟩ := HO.out.put (u0 := .int .i64 0) (u1 := .string ⟨#[]⟩) (u2 := .int .i64 0) (u3 := .int .i64 0)
  exact bodyPost_ret (v := .tuple #[out0, .int .i64 1]) (by simp [results, Tryd.results8, go_sem, k0, k1, k2, k3, out0]) rfl ⟨rfl, HF0.out.put4 (fun q => absurd q (by omega)) _ _ _ _⟩
set_option maxRecDepth 8000 in
set_option maxHeartbeats 1000000 in
theorem dexec_bad (w : World) (s : ByteArray) (nw n : Int) (hs : s.size ≤ 20000) (hc : (run s [(83, true)] 0 0).1 ≠ 0) :
    Calls Tryd.prog 8 #[.string s, .int .i64 nw, .int .i64 n] w fun e w' => e = .returned (.tuple #[out0, .int .i64 ((run s [(83, true)] 0 0).1 : Int)]) ∧ Fr NoB w w' := by
  have HC : Hid _ := fun X => read_bad X s hs hc
  have b1 : (((run s [(83, true)] 0 0).1 : Int) != 0) = true := bne_iff_ne.2 (by omega)
  generalize (run s [(83, true)] 0 0).1 = k at *
  generalize (run s [(83, true)] 0 0).2 = p at *
  clear hc
  have HO : Hid _ := OutAt.new w 28 (.int .i64 0) (.string ⟨#[]⟩) (.int .i64 0) (.int .i64 0)
  have HF0 : Hid (Fr NoB w (w.alloc (.cells #[.int .i64 0, .string ⟨#[]⟩, .int .i64 0, .int .i64 0] 28))) := (Fr.refl _ _).alloc _
  go_enter Tryd.func8, Tryd.ntmps8
  go_upto_region 1 with fail
  generalize (w.alloc _) = W0 at *
  go_wp2_with (go_at_call 10; refine (HC.out _).mono ?_; rintro e w1 ⟨rfl, hF1⟩; have HO1 : Hid _ := HO.out.fr hF1 id; obtain ⟨c0, c1, c2, c3, hf⟩ := HO1.out; have f0 := hf 0; have f1 := hf 1; have f2 := hf 2; have f3 := hf 3; clear hf)
  obtain ⟨k0, k1, k2, k3, kf⟩ := HO1.out.put (u0 := .int .i64 0) (u1 := .string ⟨#[]⟩) (u2 := .int .i64 0) (u3 := .int .i64 0)
  exact bodyPost_ret (v := .tuple #[out0, .int .i64 (k : Int)]) (by simp [results, Tryd.results8, go_sem, k0, k1, k2, k3, out0]) rfl ⟨rfl, (HF0.out.trans hF1).put4 (fun q => absurd q (by omega)) _ _ _ _⟩
set_option maxRecDepth 8000 in
set_option maxHeartbeats 1000000 in
theorem dexec_any (w : World) (s : ByteArray) (nw n : Int) (v : Value) (ev : Int) (hs : s.size ≤ 20000) (hc : run s [(83, true)] 0 0 = (0, 0))
    (HP : ∀ (W : World) (ao : Option Addr) (np cap : Nat) (p : Nat → Pt) (C : Nat → Nat), Fr NoB w W → Told s p C np → PartRow W ao np p C → (∀ g, ao = some ⟨g, 0, none⟩ → g < W.heap.size) → Calls Tryd.prog 14 #[.slice ao np cap, .int .i64 nw, .int .i64 n] W fun e w' => e = .returned (.tuple #[v, .int .i64 ev]) ∧ Fr NoB W w')
    (hv : ∃ a b c d, v = .agg #[.int .i64 a, .string b, .int .i64 c, .int .i64 d]) :
    Calls Tryd.prog 8 #[.string s, .int .i64 nw, .int .i64 n] w fun e w' => e = .returned (.tuple #[v, .int .i64 ev]) ∧ Fr NoB w w' := by
  have HRd : Hid (∀ X, _) := fun X => read_right X s hs hc
  have HPl : Hid _ := HP
  have HO : Hid _ := OutAt.new w 28 (.int .i64 0) (.string ⟨#[]⟩) (.int .i64 0) (.int .i64 0)
  have HF0 : Hid (Fr NoB w (w.alloc (.cells #[.int .i64 0, .string ⟨#[]⟩, .int .i64 0, .int .i64 0] 28))) := (Fr.refl _ _).alloc _
  obtain ⟨a, b, c, d, rfl⟩ := hv
  clear hc HP
  go_enter Tryd.func8, Tryd.ntmps8
  go_upto_region 1 with fail
  generalize (w.alloc _) = W0 at *
  go_upto_region 6 with (first | (go_at_call 10; refine (HRd.out _).mono ?_; rintro e w2 ⟨ao, np, cap, rfl, HX⟩))
  obtain ⟨hF2, p, C, hT, hrow, hgl⟩ := HX.out
  have HPw : Hid _ := HPl.out w2 ao np cap p C (HF0.out.trans hF2) hT hrow hgl
  have HO2 : Hid _ := HO.out.fr hF2 id
  have HF2 : Hid (Fr NoB w w2) := HF0.out.trans hF2
  clear HX hT hrow hgl HPl hF2
  go_wp2_with (go_at_call 14; refine Calls.mono HPw.out ?_; rintro e w3 ⟨rfl, hF3⟩; have HO3 : Hid _ := HO2.out.fr hF3 id; obtain ⟨c0, c1, c2, c3, hf⟩ := HO3.out; have f0 := hf 0; have f1 := hf 1; have f2 := hf 2; have f3 := hf 3; clear hf)
  obtain ⟨k0, k1, k2, k3, kf⟩ := HO3.out.put (u0 := .int .i64 a) (u1 := .string b) (u2 := .int .i64 c) (u3 := .int .i64 d)
  exact bodyPost_ret (v := .tuple #[.agg #[.int .i64 a, .string b, .int .i64 c, .int .i64 d], .int .i64 ev]) (by simp [results, Tryd.results8, go_sem, k0, k1, k2, k3]) rfl ⟨rfl, (HF2.out.trans hF3).put4 (fun q => absurd q (by omega)) _ _ _ _⟩
end Go.Proofs.YthcjcjfgdgnljabDoor

namespace Go.Proofs.YthcjcjfgdgnljabDoor
open Go.RowKit
set_option linter.unusedVariables false

theorem dplay_ends (w : World) (s : ByteArray) (k : Nat) (hc0 : checkN s = (0, 0)) (hk : k ≤ 5000) (σ : St) (hE : Ends cP s k σ) (htab : ∀ W, Fr NoB w W → TabOk W) :
    Calls Tryd.prog 7 #[.string s, .int .i64 (k : Int)] w fun e w' => e = .returned (.tuple #[outP σ, .int .i64 0]) ∧ Fr NoB w w' := by
  obtain ⟨h4, _, _⟩ := check_ok hc0
  obtain ⟨b, hE⟩ := hE
  refine dplay_any w s k (outP σ) 0 h4 hc0 (fun W2 ao np cap p C hW2 hT hrow hgl => ?_) ⟨_, _, _, _, rfl⟩
  obtain ⟨σ', τ, m, ⟨b', hE'⟩, hR, h44, ho⟩ := plays_end hc0 hT k
  have e1 := (hE.det hE').1
  subst e1
  rw [← ho]
  exact rplay_ok W2 ao np cap k m p C τ hk hrow hgl hT.fl (fun i _ => hT.cl i) (by have := hT.nl; omega) hT.sg hR h44 (fun W3 hW3 => htab W3 (hW2.trans hW3))
theorem dexec_ends (w : World) (s : ByteArray) (m k : Nat) (h2 : s.size ≤ 20000) (hc0 : run s [(83, true)] 0 0 = (0, 0)) (hm1 : 1 ≤ m) (hm2 : m ≤ 4096) (hk : k ≤ 5000) (σ : St) (hE : Ends (cE true m) s k σ) (htab : ∀ W, Fr NoB w W → TabOk W) :
    Calls Tryd.prog 8 #[.string s, .int .i64 (m : Int), .int .i64 (k : Int)] w fun e w' => e = .returned (.tuple #[outE σ, .int .i64 0]) ∧ Fr NoB w w' := by
  obtain ⟨b, hE⟩ := hE
  refine dexec_any w s m k (outE σ) 0 h2 hc0 (fun W2 ao np cap p C hW2 hT hrow hgl => ?_) ⟨_, _, _, _, rfl⟩
  obtain ⟨j, hR⟩ := hE.runs_all hT.prt
  exact rexec_ok W2 ao np cap m k j p C σ hm1 hm2 hk hrow hgl hT.fl (fun i _ => hT.cl i) (by have := hT.nl; omega) hT.sg hR (fun W3 hW3 => htab W3 (hW2.trans hW3))
/-- the small program -/
def smT : ByteArray := ⟨#[65, 61, 91, 50, 93, 59, 97, 61, 35, 65, 59, 33, 97, 59]⟩
def smB : ByteArray := ⟨#[97, 61, 35, 65, 59]⟩
set_option maxRecDepth 100000 in
theorem smT_check : checkN smT = (0, 0) := by kernel_rfl
set_option maxRecDepth 100000 in
theorem smB_check : checkN smB = (4, 3) := by kernel_rfl
set_option maxRecDepth 100000 in
theorem smT_run : run smT [(83, true)] 0 0 = (0, 0) := by kernel_rfl
set_option maxRecDepth 100000 in
theorem smT_pg : pgN smT (smT.size + 1) 0 smT.size = .act (.make 0 (.v 2)) (.act (.size 0 0) (.act (.print (.n 0)) .nil)) := by kernel_rfl
def sm1 (c : Cf) : St := (stp c (.make 0 (.v 2)) (st0 3)).1
def sm2 (c : Cf) : St := (stp c (.size 0 0) (sm1 c)).1
def sm3 (c : Cf) : St := (stp c (.print (.n 0)) (sm2 c)).1
theorem sm_ends (c : Cf) (h1 : (stp c (.make 0 (.v 2)) (st0 3)).2 = true) (h2 : (stp c (.size 0 0) (sm1 c)).2 = true) (h3 : (stp c (.print (.n 0)) (sm2 c)).2 = true) : Ends c smT 3 (sm3 c) := by
  refine ⟨true, ?_⟩
  rw [smT_pg]
  exact .go (σ1 := sm1 c) (Prod.ext rfl h1) (.go (σ1 := sm2 c) (Prod.ext rfl h2) (.go (σ1 := sm3 c) (Prod.ext rfl h3) (.nil _)))
set_option maxRecDepth 100000 in
theorem smP_ends : Ends cP smT 3 (sm3 cP) := sm_ends cP (by kernel_rfl) (by kernel_rfl) (by kernel_rfl)
set_option maxRecDepth 100000 in
theorem smE_ends : Ends (cE true 2) smT 3 (sm3 (cE true 2)) := sm_ends (cE true 2) (by kernel_rfl) (by kernel_rfl) (by kernel_rfl)
set_option maxRecDepth 100000 in
theorem smP_out : outP (sm3 cP) = .agg #[.int .i64 0, .string ⟨#[50, 59]⟩, .int .i64 0, .int .i64 0] := by kernel_rfl
set_option maxRecDepth 100000 in
theorem smE_out : outE (sm3 (cE true 2)) = .agg #[.int .i64 0, .string ⟨#[50, 59]⟩, .int .i64 2, .int .i64 2] := by kernel_rfl
end Go.Proofs.YthcjcjfgdgnljabDoor

namespace Go.Proofs.YthcjcjfgdgnljabDoor
open Go.RowKit
set_option linter.unusedVariables false

theorem drsB_snoc : ∀ (l : List Nat) (k : Nat), drsB (l ++ [k]) = drsB l ++ drB k
  | [], k => by
    show drB k ++ (⟨#[]⟩ : ByteArray) = (⟨#[]⟩ : ByteArray) ++ drB k
    apply ByteArray.ext
    simp
  | x :: l, k => by
    show drB x ++ drsB (l ++ [k]) = (drB x ++ drsB l) ++ drB k
    rw [drsB_snoc l k, ByteArray.append_assoc]
/-- the boxes below i of f that are not of g -/
def minT (f g : Nat → Bool) (i : Nat) : List Nat := (List.range i).filter (fun k => f k && !g k)
theorem minT_yes {f g : Nat → Bool} {i : Nat} (h : (f i && !g i) = true) : minT f g (i + 1) = minT f g i ++ [i] := by
  unfold minT
  rw [List.range_succ, List.filter_append]
  simp [h]
theorem minT_no {f g : Nat → Bool} {i : Nat} (h : (f i && !g i) = false) : minT f g (i + 1) = minT f g i := by
  unfold minT
  rw [List.range_succ, List.filter_append]
  simp [h]
theorem drsT_size (f g : Nat → Bool) (i : Nat) : (drsB (minT f g i)).size ≤ 3 * i := by
  have key : ∀ l : List Nat, (drsB l).size = 3 * l.length := fun l => by
    induction l with
    | nil => rfl
    | cons k l ih =>
      have hs : (drB k ++ drsB l).size = (drB k).size + (drsB l).size := ByteArray.size_append
      rw [drsB, hs, ih, show (drB k).size = 3 from rfl, List.length_cons]
      omega
  rw [key]
  have : (minT f g i).length ≤ i := by
    unfold minT
    have := List.length_filter_le (fun k => f k && !g k) (List.range i)
    simpa using this
  omega
theorem let_str (i : Nat) (u : World) : (convert 33 9 (.slice (some ⟨u.heap.size, 0, none⟩) 1 1)).run Tryd.prog (u.alloc (.cells #[.int .u8 (65 + (i : Int))] 5)) = .ok (strN [65 + i]) (u.alloc (.cells #[.int .u8 (65 + (i : Int))] 5)) := by
  have e : (65 + (i : Int)) = ((65 + i : Nat) : Int) := by omega
  rw [e]
  exact bytes_str u [65 + i]
end Go.Proofs.YthcjcjfgdgnljabDoor

namespace Go.Proofs.YthcjcjfgdgnljabDoor
open Go.RowKit
set_option linter.unusedVariables false

/-- what Lower makes of the sentence from i up to m -/
def lowS (s : ByteArray) (F i m : Nat) (f : Nat → Bool) : ByteArray :=
  if bt s i = 63 then s.extract i (bopN s (i + 1) + 1) ++ lowT s F (bopN s (i + 1) + 1) (bbrN s (bopN s (i + 1)) - 1) f ++ drsB (minL (alongF s F (bopN s (i + 1) + 1) (bbrN s (bopN s (i + 1)) - 1) f) (afterF (alongF s F) s i f))
          ++ s.extract (bbrN s (bopN s (i + 1)) - 1) (bbrN s (bopN s (i + 1)) + 1) ++ lowT s F (bbrN s (bopN s (i + 1)) + 1) (bbrN s (bbrN s (bopN s (i + 1))) - 1) f ++ drsB (minL (alongF s F (bbrN s (bopN s (i + 1)) + 1) (bbrN s (bbrN s (bopN s (i + 1))) - 1) f) (afterF (alongF s F) s i f))
          ++ s.extract (bbrN s (bbrN s (bopN s (i + 1))) - 1) m
       else if bt s i = 64 then drsB (minL f (afterF (alongF s F) s i f)) ++ s.extract i (bopN s (i + 1) + 1) ++ lowT s F (bopN s (i + 1) + 1) (bbrN s (bopN s (i + 1)) - 1) (afterF (alongF s F) s i f)
          ++ drsB (minL (alongF s F (bopN s (i + 1) + 1) (bbrN s (bopN s (i + 1)) - 1) (afterF (alongF s F) s i f)) (afterF (alongF s F) s i f)) ++ s.extract (bbrN s (bopN s (i + 1)) - 1) m
       else (if ownT s i f = true then drB (bt s i - 65) else ⟨#[]⟩) ++ s.extract i m
theorem lowT_step {s : ByteArray} {F i m j : Nat} (h : StmtF (Prog s F) s i m) (hij : i < j) (f : Nat → Bool) : lowT s (F + 1) i j f = lowS s F i m f ++ lowT s F m j (afterF (alongF s F) s i f) := by
  rw [lowT, if_pos hij, beh_of h]
  rfl
theorem low_nil (x : ByteArray) : (⟨#[]⟩ : ByteArray) ++ x = x := by
  apply ByteArray.ext
  simp
theorem retS {a b : ByteArray} (h : a = b) : Ending.returned (.string a) = .returned (.string b) := by rw [h]
theorem lowT_end {s : ByteArray} {F i : Nat} (f : Nat → Bool) : lowT s F i i f = ⟨#[]⟩ := by
  cases F with
  | zero => rfl
  | succ F => rw [lowT, if_neg (Nat.lt_irrefl _)]
theorem lowS_size {s : ByteArray} {F i m : Nat} (h : StmtF (Prog s F) s i m) (f : Nat → Bool) : (lowS s F i m f).size ≤ 40 * (m - i) := by
  have hm : Prog s F m m := by cases F with | zero => rfl | succ F => exact .inl rfl
  have hp : Prog s (F + 1) i m := .inr ⟨m, h, hm⟩
  have h1 := lowT_size hp f
  have h2 := h.lt
  rw [lowT_step h (by omega), lowT_end, ByteArray.size_append] at h1
  omega
theorem lowS_if {s : ByteArray} {F i a b c : Nat} (h : IfAt s i a b c) (f G : Nat → Bool) (hG : afterF (alongF s F) s i f = G) : lowS s F i (c + 1) f = s.extract i (a + 1) ++ lowT s F (a + 1) b f ++ drsB (minL (alongF s F (a + 1) b f) G) ++ s.extract b (b + 2) ++ lowT s F (b + 2) c f ++ drsB (minL (alongF s F (b + 2) c f) G) ++ s.extract c (c + 1) := by
  unfold lowS
  rw [if_pos h.q, hG, h.p1, h.p2, h.p3, show b + 1 - 1 = b by omega, show b + 1 + 1 = b + 2 by omega, show c + 1 - 1 = c by omega]
theorem lowS_loop {s : ByteArray} {F i a b : Nat} (h : LoopAt s i a b) (f G : Nat → Bool) (hG : afterF (alongF s F) s i f = G) : lowS s F i (b + 1) f = drsB (minL f G) ++ s.extract i (a + 1) ++ lowT s F (a + 1) b G ++ drsB (minL (alongF s F (a + 1) b G) G) ++ s.extract b (b + 1) := by
  unfold lowS
  rw [if_neg (by rw [h.q]; decide), if_pos h.q, hG, h.p1, h.p2, show b + 1 - 1 = b by omega]
theorem lowS_simple {s : ByteArray} {F i m : Nat} (h : Simple s i m) (f : Nat → Bool) : lowS s F i m f = (if ownT s i f = true then drB (bt s i - 65) else ⟨#[]⟩) ++ s.extract i m := by
  unfold lowS
  rw [if_neg h.first.1, if_neg h.first.2]
theorem simple_two {s : ByteArray} {i m : Nat} (h : Simple s i m) (hg : greatN (bt s i) = true) : i + 2 < s.size := by
  have sm : smallN (bt s i) = true → False := fun q => by have := (sm_ne q).2.2; rw [hg] at this; cases this
  rcases h with q | q | q | q | q | q | q | q | q
  · exact (sm q.1).elim
  · exact (sm q.1).elim
  · exact (sm q.1).elim
  · exact (sm q.1).elim
  · obtain ⟨h1, h2, k, l, h5, h6, h7, h8, h9, hm⟩ := q
    have := h5.lt
    have := byte_in h6 (by decide)
    omega
  · exact byte_in q.2.2.1 (by decide)
  · exact (great_in q.2.2.1).1
  · rw [q.1] at hg; cases hg
  · rw [q.1] at hg; cases hg

theorem drB_text {s : ByteArray} {p : Nat} (hp : p < s.size) (hg : greatN (bt s p) = true) : drB (bt s p - 65) = ⟨#[126]⟩ ++ s.extract p (p + 1) ++ ⟨#[59]⟩ := by
  have h1 : s.extract p (p + 1) = ⟨#[s[p]]⟩ := by
    apply ByteArray.ext
    rw [ByteArray.data_extract]
    apply Array.ext
    · simp
      have : s.data.size = s.size := rfl
      omega
    · intro i h1 h2
      simp at h2
      subst h2
      simp [ByteArray.getElem_eq_getElem_data]
  rw [h1]
  rw [bt_in hp] at hg ⊢
  have h2 : UInt8.ofNat (65 + (s[p].toNat - 65)) = s[p] := by
    simp [greatN] at hg
    rw [show 65 + (s[p].toNat - 65) = s[p].toNat by omega]
    exact UInt8.ofNat_toNat
  unfold drB
  rw [h2]
  rfl
theorem str_add (W : World) (a b : ByteArray) (n : Nat) (h : (a ++ b).size ≤ n) (hn : n ≤ 100000000) : (Op.stringOp .add a b).run Tryd.prog W = .ok (.string (a ++ b)) W := run_string_add_sum W a b (by rw [ByteArray.size_append] at h; omega)
theorem str_cut (W : World) (s : ByteArray) (a b : Nat) (i j : Int) (h1 : a ≤ b) (h2 : b ≤ s.size) (ei : i = (a : Int)) (ej : j = (b : Int)) : (Instr.slice 9 (.string s) (some (.int .i64 i)) (some (.int .i64 j)) none).run Tryd.prog W = .ok (.string (s.extract a b)) W := by
  subst ei ej
  rw [run_slice_string (w := W) _ _ _ _ _ _ Tryd.underlying9 (by omega) (by omega) (by omega)]
  rfl
theorem str_at (W : World) (s : ByteArray) (n : Nat) (i : Int) (h : n < s.size) (e : i = (n : Int)) : (Instr.index 9 (.string s) (.int .i64 i)).run Tryd.prog W = .ok (.int .u8 (s[n].toNat : Int)) W := by
  subst e
  rw [run_index_string _ _ _ _ _ Tryd.underlying9, dif_pos ⟨by omega, by omega⟩]
  rfl
/-- a world in which all that is old is as it was -/
structure Kin (w : World) where
  x : World
  f : Fr NoB w x
/-- a region that draws its order and leaves all that is old as it was -/
theorem wp_region_cls {P : Program} {id : Nat} {Q : Exit → Act → World → Prop} {a : Act} {w : World} {l : List Oper} (hm : P.follows .mixedOrders = true) (hB : Region.lexB .any l.toArray = true)
    (h : wpQuiet P l.toArray (fun w' => ∃ i : Kin w, w' = i.x) (fun a' => ∀ w', (∃ i : Kin w, w' = i.x) → Q .normal a' w') l a) : (Code.region id l.toArray true).wp P Q a w :=
  wp_region_quiet (C := fun w' => ∃ i : Kin w, w' = i.x) hm hB ⟨⟨w.drew, (Fr.refl _ _).drew⟩, rfl⟩ (by simpa using h)
theorem quiet_row {P : Program} {ops : Array Oper} {C : World → Prop} {Q : Act → Prop} {a : Act} {o : Oper} {rest : List Oper} (ty : TypeId) (x : Operand) (b : Nat) (v : Value) (hg : o.guard = none) (ho : o.op = .load ty x) (hx : a.eval x = .pointer (some ⟨b, 0, none⟩)) (h1 : ∀ w, C w → (loadVar ty ⟨b, 0, none⟩).run P w = .ok v w) (h2 : wpQuiet P ops C Q rest (a.put o.dst v)) : wpQuiet P ops C Q (o :: rest) a :=
  BigFrame.wpQuiet_want (by simp [Region.wanted, hg]) fun K hK => ⟨v, fun w hw => by
    unfold Oper.quietAt execOp
    simp only [ho, hx, Instr.loadAt, Instr.sureAddr, Sem.run_bind, Sem.run_pure, Result.andThen_ok, h1 w hw]
    exact ⟨rfl, rfl⟩, hK _ h2⟩
theorem Calls.cls {P : Program} {f : FuncId} {args : Array Value} {w : World} {v : Value} (i : Kin w) (h : Calls P f args i.x fun e w' => e = .returned v ∧ Fr NoB i.x w') : Calls P f args i.x fun e w'' => e = .returned v ∧ ∃ j : Kin w, w'' = j.x :=
  h.mono fun _ w' ⟨he, hF⟩ => ⟨he, ⟨w', i.f.trans hF⟩, rfl⟩
end Go.Proofs.YthcjcjfgdgnljabDoor
