import Derived.Test.YtcmnejcojphijaaKeepN
import Derived.Deep.RegionWith
import Derived.Deep.DeepCutAuto
namespace Go.Proofs.Ytcmnejcojphijaa
open Go.RowKit

set_option maxRecDepth 20000 in
set_option maxHeartbeats 2000000 in
theorem kept_any (w : World) (c : Int) (ao : Option Addr) (m cap : Nat) (F : Nat → Bool) (N A C : Nat → Int) (h : StepRow w ao m F N A C) (hc1 : -9223372036854775808 ≤ c) (hc2 : c ≤ 9223372036854775807) :
    Calls Try.prog 3 #[.int .i64 c, .slice ao m cap] w fun e w' => e = .returned (.bool true) ∧ Fr NoB w w' := by
  have hm := h.hm
  go_enter Try.func3, Try.ntmps3
  go_wp2_with fail
  refine (kpick_any _ c 4096 (by omega) (by omega) hc1 hc2).mono ?_
  rintro e w1 ⟨j, hj, rfl, hw1⟩
  have hw1' := hw1.symm
  clear hw1
  subst hw1'
  go_wp2_with fail
  rw [show (1 : Int) + (j : Int) = ((j + 1 : Nat) : Int) from by omega]
  obtain ⟨n, hn⟩ : ∃ n, n = j + 1 := ⟨_, rfl⟩
  rw [← hn]
  have hn1 : 1 ≤ n := by omega
  have hn2 : n ≤ 4096 := by omega
  clear hn
  refine (new_yes _ n hn1 hn2).mono ?_
  rintro e w1 ⟨p, r, rfl, hF1, hp, hr, hH⟩
  have hSt : St w w1 p r n (.slice none 0 0) [] (fun _ => 0) (fun _ => 0) :=
    ⟨hH, Inv.start n, ⟨World.ownsRow_nil _ _ _ _, fun _ hx => absurd hx (by simp), fun _ hx => absurd hx (by simp), fun _ hx => absurd hx (by simp), fun _ hx => absurd hx (by simp), List.Pairwise.nil, by simp [Value.ownBlock], by simp [Value.ownBlock]⟩, hF1, hp, hr⟩
  clear hF1 hp hr hH
  go_wp2_with fail
  go_loopw [8, 9] (fun t u wr => ∃ (i : Nat) (hs : List Held) (B V : Nat → Int), i ≤ m ∧ u = .int .i64 i ∧ St w wr p r n t hs B V) (fun _ u _ => m - (intOf u).toNat)
  case atStart => exact ⟨0, [], _, _, Nat.zero_le _, rfl, hSt⟩
  case round =>
    obtain ⟨i, hs, B, V, hi, rfl, hS⟩ := hrel
    clear hSt
    have hlen := hS.inv.len
    obtain ⟨ls, cap2, rfl, hrow, hls⟩ := hS.mem.heldRow hS.inv hn2
    have Hls : Hid (∀ g, ls = some ⟨g, 0, none⟩ → (Value.slice ls hs.length cap2).ownBlock = some g) := hls
    clear hls
    by_cases hlt : i < m
    · obtain ⟨b, off, rfl⟩ := h.some_ (by omega)
      have hstep := h.fr hS.fr (fun _ _ e => e)
      have s0 := hstep.c0 b off i hlt rfl
      have s1 := hstep.c1 b off i hlt rfl
      have s2 := hstep.c2 b off i hlt rfl
      have s3 := hstep.c3 b off i hlt rfl
      have rN := h.rN i hlt
      have rA := h.rA i hlt
      have rC := h.rC i hlt
      clear hstep
      by_cases hfree : F i = true ∧ 0 < hs.length
      · obtain ⟨hf1, hf2⟩ := hfree
        rw [hf1] at s0
        clear hf1
        go_wp2_with fail
        refine (kpick_any _ (N i) hs.length (by omega) (by omega) rN.1 rN.2).mono ?_
        rintro e w2 ⟨q, hq, rfl, hw2⟩
        have hF2 : Fr NoB wr w2 := by rw [hw2]; exact (Fr.refl _ _).alloc _
        have hS2 := hS.no hF2
        have hrow2 := hrow.no hF2
        clear hw2 hF2 hS hrow s0 s1 s2 s3
        obtain ⟨g, rfl⟩ := hrow2.some_ (by omega)
        have hcell := hrow2.c0 g q hq rfl
        have hx : hs.getD q heldZ = hs[q] := by simp [hq]
        simp only [hx] at hcell
        have hbk := hS2.inv.own _ (List.getElem_mem hq) hs[q].at_ (Nat.le_refl _) (by have := hS2.inv.pos _ (List.getElem_mem hq); omega)
        have hbn : hs[q].at_ < n := by have := hS2.inv.pos _ (List.getElem_mem hq); omega
        have Hbk : Hid (B hs[q].at_ = (hs[q].at_ : Int) + 1) := hbk
        clear hbk hx
        go_wp2_with fail
        refine (sfree_yes _ p r n B V hs[q].at_ hS2.heap hbn Hbk.out).mono ?_
        rintro e w3 ⟨rfl, z, hz1, hz2, hz3, hz4, hH3, hF3⟩
        have hM3 := hS2.mem.fr_r hF3
        obtain ⟨ls', cap', hlv, hrow3, _⟩ := hM3.heldRow hS2.inv hn2
        injection hlv with e1 e2 e3
        subst e1
        subst e3
        have HZ : Hid ((∀ i, hs[q].at_ ≤ i → i < z → B i = (hs[q].at_ : Int) + 1) ∧ (z = n ∨ B z ≠ (hs[q].at_ : Int) + 1)) := ⟨hz3, hz4⟩
        clear hz3 hz4 e2 hcell
        go_wp2_with fail
        refine (kwithout_any _ _ cap2 q hs hrow3).mono ?_
        rintro e w4 ⟨v', rfl, hown, hF4⟩
        have HE : Hid (∃ B' V', St w w4 p r n v' (hs.eraseIdx q) B' V') := hS2.free hq hz1 hz2 HZ.out.1 HZ.out.2 hH3 hF3 hown hF4
        clear hown hF4 hF3 hH3 hM3 hrow3 hS2 hrow2
        go_wp2
        go_roundw
        case rel =>
          obtain ⟨B', V', hS'⟩ := HE.out
          exact ⟨i + 1, _, B', V', by omega, by go_num, hS'⟩
        case measure => simp [intOf]; omega
      · obtain ⟨f, hf⟩ : ∃ f, f = F i := ⟨_, rfl⟩
        rw [← hf] at s0 hfree
        have Hfree : Hid (¬ (f = true ∧ 0 < hs.length)) := hfree
        clear hfree hf
        have hz0 := hS.fr.size
        have hpw := hS.heap.pl
        have hrw := hS.heap.rl
        have Hvw : Hid (∀ g, (Value.slice ls hs.length cap2).ownBlock = some g → g < wr.heap.size) := fun g hg => (hS.mem.row.lt g hg).2
        clear hrow
        go_upto_region 10 with fail
        go_cut [54] (fun s wx => s = .bool false ∧ Fr NoB wr wx ∧ wx.cell? ⟨wr.heap.size, 1, none⟩ = some (.int .i64 (N i)) ∧ wx.cell? ⟨wr.heap.size, 2, none⟩ = some (.int .i64 (A i)) ∧ wx.cell? ⟨wr.heap.size, 3, none⟩ = some (.int .i64 (C i)))
        case first =>
          cases f
          · go_wp2_with fail
            go_meet
            case rel => exact ⟨rfl, (Fr.refl _ _).alloc _, by simp, by simp, by simp⟩
          · have hz : ¬ 0 < hs.length := fun h => Hfree.out ⟨rfl, h⟩
            go_wp2_with fail
            go_meet
            case rel => exact ⟨rfl, (Fr.refl _ _).alloc _, by simp, by simp, by simp⟩
        case rest =>
          obtain ⟨rfl, hF2, o1, o2, o3⟩ := hcut
          have hS2 := hS.no hF2
          clear hF2 hS s0 s1 s2 s3 Hfree
          go_wp2_with fail
          refine (kpick_any _ (N i) 64 (by omega) (by omega) rN.1 rN.2).mono ?_
          rintro e w2 ⟨q, hq, rfl, hw2⟩
          have hw2' := hw2.symm
          clear hw2
          subst hw2'
          go_wp2_with fail
          rw [show (1 : Int) + (q : Int) = ((q + 1 : Nat) : Int) from by omega]
          refine (kgrows_any _ w.heap.size p r n (q + 1) B V _ hs hS2.heap hS2.inv hS2.mem (by have := hS2.fr.size; omega) (by omega) (by omega)).mono ?_
          rintro e w3 ⟨v', hs', B', rfl, hH3, hI3, hM3, hF3⟩
          have hS3 := hS2.grow hH3 hI3 hM3 hF3
          have hnb : ¬ GrowS r (Value.slice ls hs.length cap2) wr.heap.size := fun e => by
            rcases e with e | e
            · omega
            · exact absurd (Hvw.out _ e) (Nat.lt_irrefl _)
          have o2' := hF3.cell_some o2 hnb
          have o3' := hF3.cell_some o3 hnb
          have owl3 : wr.heap.size < w3.heap.size := World.block_lt_of_cell? _ _ o2'
          clear hH3 hI3 hM3 hF3 hS2 o1 o2 o3 hnb Hvw
          have hlen3 := hS3.inv.len
          obtain ⟨ls3, cap3, rfl, hrow3, _⟩ := hS3.mem.heldRow hS3.inv hn2
          by_cases hpos : 0 < hs'.length
          · obtain ⟨g, rfl⟩ := hrow3.some_ hpos
            have b0 := hrow3.c0 g (hs'.length - 1) (by omega) rfl
            have b1 := hrow3.c1 g (hs'.length - 1) (by omega) rfl
            have b2 := hrow3.c2 g (hs'.length - 1) (by omega) rfl
            obtain ⟨x, hx⟩ : ∃ x, x = hs'.getD (hs'.length - 1) heldZ := ⟨_, rfl⟩
            have hl1 : hs'.length - 1 < hs'.length := by omega
            have hxi : hs'.getD (hs'.length - 1) heldZ = hs'[hs'.length - 1] := by simp [hl1]
            simp only [← hx] at b0 b1 b2
            have hxm : x ∈ hs' := by rw [hx, hxi]; exact List.getElem_mem _
            have hxp := hS3.inv.pos x hxm
            have Hxi : Hid (x = hs'[hs'.length - 1]'(by omega)) := hx.trans hxi
            clear hx hxi hrow3
            unfold words at b2
            go_wp2_with fail
            refine (kpick_any _ (A i) x.n (by omega) (by omega) rA.1 rA.2).mono ?_
            rintro e w4 ⟨t, ht, rfl, hw4⟩
            have hF4 : Fr NoB w3 w4 := by rw [hw4]; exact (Fr.refl _ _).alloc _
            have d0 : w4.cell? ⟨w3.heap.size, 0, none⟩ = some (.int .i64 x.at_) := by rw [hw4]; simp
            have d2 : w4.cell? ⟨w3.heap.size, 2, none⟩ = some (.slice (some ⟨x.wb, 0, none⟩) x.n x.n) := by rw [hw4]; simp
            have d3 := hF4.cell_some o3' id
            have hS4 := hS3.no hF4
            have dl : w3.heap.size < w4.heap.size := World.block_lt_of_cell? _ _ d0
            have Hwb : Hid (x.wb < w3.heap.size) := (hS3.mem.lo x hxm).2
            have cw := hS4.mem.cell x hxm t ht
            have cf := hS4.mem.frz x hxm t
            have hne1 : x.wb ≠ w3.heap.size := by have := Hwb.out; omega
            clear hw4 hF4 hS3 b0 b1 b2 o2' o3'
            obtain ⟨u, hu⟩ : ∃ u, u = pickZ (C i) 1000 := ⟨_, rfl⟩
            have hul : u < 1000 := by rw [hu]; exact pickZ_lt _ (by omega)
            have HK : Hid (∀ W : World, Calls Try.prog 5 #[.int .i64 (C i), .int .i64 1000] W fun e w' => e = .returned (.int .i64 (u : Int)) ∧ w' = W) := fun W => by
              rw [hu]; exact kpick_fn W (C i) 1000 (by omega) (by omega) rC.1 rC.2
            clear hu
            go_upto_region 23 with fail
            go_cut [] (fun wx => Fr NoB (w4.setCell ⟨x.wb, t, none⟩ (.int .i64 (u : Int))) wx)
            case first =>
              go_region_with (go_at_call 5; refine (HK.out _).mono ?_; rintro e w' ⟨rfl, rfl⟩)
              all_goals
                go_wp2_with fail
                go_meet
                case rel => exact (Fr.refl _ _).drew
            case rest =>
              have f0 : wc.cell? ⟨w3.heap.size, 0, none⟩ = some (.int .i64 x.at_) := hcut.cell_some ((cell_other (.inl hne1)).trans d0) id
              have f2 : wc.cell? ⟨w3.heap.size, 2, none⟩ = some (.slice (some ⟨x.wb, 0, none⟩) x.n x.n) := hcut.cell_some ((cell_other (.inl hne1)).trans d2) id
              have fw : wc.cell? ⟨x.wb, t, none⟩ = some (.int .i64 (u : Int)) := hcut.cell_some (cell_same cw) id
              have Hcut : Hid (Fr NoB (w4.setCell ⟨x.wb, t, none⟩ (.int .i64 (u : Int))) wc) := hcut
              clear hcut cw cf d0 d2 d3
              have hxn := hS4.mem.ne x hxm
              have hHc : HeapAt wc p r n B' V := (hS4.heap.fr ((Fr.refl (OneB x.wb) w4).setCell (p := ⟨x.wb, t, none⟩) (fun _ => rfl) _) (fun e => hxn.1 e.symm) (fun e => hxn.2.1 e.symm)).no Hcut.out
              have Hwr : Hid (IntKind.i64.wrap ((x.at_ : Int) + (t : Int)) = ((x.at_ + t : Nat) : Int)) := by unfold Hid; rw [IntKind.wrap_i64]; omega
              have hxb : B' (x.at_ + t) ≠ 0 := by rw [hS4.inv.own x hxm _ (by omega) (by omega)]; omega
              have Hxb : Hid (B' (x.at_ + t) ≠ 0) := hxb
              clear hxb
              go_upto_region 24 with fail
              go_cut [7] (fun q wx => q = .int .i64 0 ∧ HeapAt wx p r n B' (upd V (x.at_ + t) u) ∧ Fr (OneB r) wc wx)
              case first =>
                go_region_with (go_at_call 10; rw [Hwr.out]; refine (sstore_yes wc.drew p r n B' V (x.at_ + t) u (hHc.no (Fr.refl _ _).drew) (by omega) Hxb.out (by omega) (by omega)).mono ?_; rintro e w5 ⟨rfl, hH5, hF5⟩)
                all_goals
                  go_wp2_with fail
                  go_meet
                  case rel => exact ⟨rfl, hH5, ((Fr.refl (OneB r) wc).drew).trans hF5⟩
              case rest =>
                obtain ⟨rfl, hH5, hF5⟩ := hcut
                have hidx : hs'.length - 1 < hs'.length := by omega
                have HS5 : Hid (St w wc p r n (Value.slice (some ⟨g, 0, none⟩) hs'.length cap3) hs' B' (upd V (x.at_ + t) u)) := by
                  have hx' := Hxi.out
                  subst hx'
                  exact hS4.write hidx ht u Hcut.out hH5 hF5
                clear hH5 hF5 hidx
                go_wp2
                go_roundw
                case rel => exact ⟨i + 1, hs', B', _, by omega, by go_num, HS5.out⟩
                case measure => simp [intOf]; omega
          · go_wp2
            go_roundw
            case rel => exact ⟨i + 1, hs', B', V, by omega, by go_num, hS3⟩
            case measure => simp [intOf]; omega
    · clear h
      have hwS : Fr NoB wr wr := Fr.refl _ _
      go_wp2_with fail
      go_loopw [15] (fun u wq => ∃ q : Nat, q ≤ hs.length ∧ u = .int .i64 q ∧ Fr NoB wr wq) (fun u _ => hs.length - (intOf u).toNat)
      case atStart => exact ⟨0, Nat.zero_le _, rfl, hwS⟩
      case round =>
        obtain ⟨q, hq, rfl, hFq⟩ := hrel
        clear hwS
        have hSq := hS.no hFq
        have hrq := hrow.no hFq
        by_cases hlt2 : q < hs.length
        · obtain ⟨g, rfl⟩ := hrow.some_ (by omega)
          have b0 := hrq.c0 g q hlt2 rfl
          have b1 := hrq.c1 g q hlt2 rfl
          have b2 := hrq.c2 g q hlt2 rfl
          obtain ⟨x, hx⟩ : ∃ x, x = hs.getD q heldZ := ⟨_, rfl⟩
          have hxi : hs.getD q heldZ = hs[q] := by simp [hlt2]
          simp only [← hx] at b0 b1 b2
          have hxm : x ∈ hs := by rw [hx, hxi]; exact List.getElem_mem _
          have hxp := hSq.inv.pos x hxm
          clear hx hxi
          unfold words at b2
          go_wp2_with fail
          refine (kreads_yes _ p r n B V x.at_ x.n x.wb hSq.heap (by omega) (fun k hk => by rw [hSq.inv.own x hxm _ (by omega) (by omega)]; omega) (hSq.mem.cell x hxm)).mono ?_
          rintro e w2 ⟨rfl, hF2⟩
          have HF2 : Hid (Fr NoB _ w2) := hFq.trans hF2
          clear hF2 b0 b1 b2 hSq hrq
          go_wp2
          go_roundw
          case rel => exact ⟨q + 1, by omega, by go_num, HF2.out⟩
          case measure => simp [intOf]; omega
        · clear hS hrow
          go_wp2_with fail
          refine (sruns_any _ p r n B V hSq.heap).mono ?_
          rintro e w2 ⟨v, L, rfl, hL, hown, hF2⟩
          obtain ⟨lo, lcap, rfl, hspan⟩ := spanRow_of hown
          have hrise := runs_rise L 0 hL
          have hrl := runs_len L 0 (Nat.zero_le _) hL
          have hcn := runs_cnt L 0 (Nat.zero_le _) hL
          have hfu := hSq.inv.free_used
          have hsum : (L.map Prod.snd).sum + (hs.map Held.n).sum = n := by simp [cnt_zero] at hcn; omega
          have hS2 := hSq.no hF2
          have hrow2 := hrq.no hF2
          have Hr1 : Hid (∀ i, i < L.length → 1 ≤ (L.getD i (0, 0)).2 ∧ (L.getD i (0, 0)).1 + (L.getD i (0, 0)).2 ≤ n) := hrise.1
          have Hr2 : Hid (∀ i, i + 1 < L.length → (L.getD i (0, 0)).1 + (L.getD i (0, 0)).2 + 1 ≤ (L.getD (i + 1) (0, 0)).1) := hrise.2.1
          have Hs1 : Hid (sumTo (fun i => (L.getD i (0, 0)).2) L.length = (L.map Prod.snd).sum) := sumTo_list Prod.snd (0, 0) L
          have Hs2 : Hid (sumTo (fun i => (hs.getD i heldZ).n) hs.length = (hs.map Held.n).sum) := sumTo_list Held.n heldZ hs
          have HL : Hid (IsRuns B n 0 L) := hL
          clear hrise hcn hfu hL hown hSq hrq hF2
          generalize (L.map Prod.snd).sum = sa at *
          generalize (hs.map Held.n).sum = sb at *
          go_wp2_with fail
          refine (ksum_yes _ lo L.length lcap n _ _ hspan hn2 (by omega) Hr1.out Hr2.out).mono ?_
          rintro e w3 ⟨rfl, hF3⟩
          rw [Hs1.out]
          have hS3 := hS2.no hF3
          have hrow3 := hrow2.no hF3
          clear hS2 hrow2 hspan hF3
          go_wp2_with fail
          refine (kused_any _ ls hs.length cap2 _ _ _ hrow3).mono ?_
          rintro e w4 ⟨rfl, hw4⟩
          have hw4' := hw4.symm
          clear hw4
          subst hw4'
          rw [Hs2.out]
          have htest : ((sa : Int) != (n : Int) - (sb : Int)) = false := by simp; omega
          go_wp2_with fail
          have HI3 : Hid (Inv n B V (hs.drop 0)) := hS3.inv
          have hH3 := hS3.heap
          have HF3 : Hid (Fr NoB w w3) := hS3.fr
          have hlr : ∀ g, ls = some ⟨g, 0, none⟩ → ¬ OneB r g := fun g hg e => hS3.mem.vr (by rw [Hls.out g hg]; exact congrArg some e)
          have Hlr : Hid (∀ g, ls = some ⟨g, 0, none⟩ → ¬ OneB r g) := hlr
          have hrl3 := hS3.rl
          clear hlr hS3 Hr1 Hr2 Hs1 Hs2 HL hsum htest
          go_loopw [19] (fun u wq => ∃ (k : Nat) (B V : Nat → Int), k ≤ hs.length ∧ u = .int .i64 k ∧ HeapAt wq p r n B V ∧ Inv n B V (hs.drop k) ∧ Fr (OneB r) w3 wq) (fun u _ => hs.length - (intOf u).toNat)
          case atStart => exact ⟨0, B, V, Nat.zero_le _, rfl, hH3, HI3.out, Fr.refl _ _⟩
          case round =>
            obtain ⟨k, B1, V1, hk, rfl, hH, hI, hF⟩ := hrel
            clear hH3
            have hr := hrow3.fr hF Hlr.out
            by_cases hkl : k < hs.length
            · obtain ⟨g, rfl⟩ := hrow3.some_ (by omega)
              have hx : hs.getD k heldZ = hs[k] := by simp [hkl]
              have b0 := hr.c0 g k hkl rfl
              obtain ⟨hs1, hs2, hs3⟩ := rest_step hI hkl
              simp only [hx] at b0
              have Hb : Hid (B1 hs[k].at_ = (hs[k].at_ : Int) + 1) := hs2
              have H3 := show Hid _ from hs3
              have hng : ¬ OneB r g := Hlr.out g rfl
              obtain ⟨at_, hat⟩ : ∃ a, a = hs[k].at_ := ⟨_, rfl⟩
              rw [← hat] at b0 hs1 Hb H3
              clear hx hs2 hs3 hr hI hat
              go_wp2_with fail
              refine (sfree_yes _ p r n B1 V1 at_ hH hs1 Hb.out).mono ?_
              rintro e w4 ⟨rfl, z, hz1, hz2, hz3, hz4, hH4, hF4⟩
              have HI4 := show Hid _ from H3.out z hz1 hz2 hz3 hz4
              have hcl : takenB (clearTo B1 at_ z) n (at_ : Int) = false := by
                rw [takenB_in hs1]; unfold clearTo; rw [if_pos ⟨Nat.le_refl _, hz1⟩]; rfl
              have Hcl : Hid (takenB (clearTo B1 at_ z) n (at_ : Int) = false) := hcl
              have b0' := hF4.cell_some b0 hng
              have HF4 : Hid (Fr (OneB r) _ w4) := hF.trans hF4
              clear hz3 hz4 hcl hF4 hF b0 hH H3
              go_wp2_with fail
              refine (sfree_no _ p r n _ _ (at_ : Int) hH4 Hcl.out).mono ?_
              rintro e w5 ⟨rfl, hw5⟩
              have hw5' := hw5.symm
              clear hw5
              subst hw5'
              go_wp2_with fail
              refine (sload_no _ p r n _ _ (at_ : Int) hH4 Hcl.out).mono ?_
              rintro e w5 ⟨rfl, hw5⟩
              have hw5' := hw5.symm
              clear hw5
              subst hw5'
              go_wp2
              go_roundw
              case rel => exact ⟨k + 1, _, _, by omega, by go_num, hH4, HI4.out, HF4.out⟩
              case measure => simp [intOf]; omega
            · have hke : k = hs.length := by omega
              have hz : ∀ i, i < n → B1 i = 0 := rest_end (V := V1) (by rw [hke, List.drop_length] at hI; exact hI)
              have Hz : Hid (∀ i, i < n → B1 i = 0) := hz
              have HFF : Hid (Fr NoB w _) := HF3.out.then hF (fun q hq e => by have e' : q = r := e; omega)
              clear hke hz hr hI hF hrow3
              go_wp2_with fail
              refine (sruns_any _ p r n B1 V1 hH).mono ?_
              rintro e w4 ⟨v, L2, rfl, hL, hown, hF4⟩
              have hone := runs_one hn1 Hz.out L2 hL
              subst hone
              obtain ⟨lo2, lcap2, rfl, hspan⟩ := spanRow_of hown
              obtain ⟨g, rfl⟩ := hspan.some_ (by simp)
              have c0 := hspan.c0 g 0 (by simp) rfl
              have c1 := hspan.c1 g 0 (by simp) rfl
              simp only [List.getD_cons_zero, Nat.zero_mul, Nat.zero_add] at c0 c1
              have HFE : Hid (Fr NoB w w4) := HFF.out.trans hF4
              clear hspan hown hL hF4 HFF
              simp only [List.length_singleton]
              go_wp2
              go_ret
              exact ⟨rfl, HFE.out⟩
end Go.Proofs.Ytcmnejcojphijaa
