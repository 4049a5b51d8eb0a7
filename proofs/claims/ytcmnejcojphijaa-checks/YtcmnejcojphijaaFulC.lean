/-
  Which boxes are full: the document's own after, of one sentence.
-/
import Derived.Test.YtcmnejcojphijaaFulB
namespace Go.Proofs.Ytcmnejcojphijaa
open Go.RowKit
set_option linter.unusedVariables false

/-- the world behind the beginning of a call that takes a set and gives one -/
theorem two_rows (w : World) (f : Nat → Bool) : RowF ((w.alloc (.cells (arrF f) 70)).alloc (.cells zrs 70)) w.heap.size f ∧ RowF ((w.alloc (.cells (arrF f) 70)).alloc (.cells zrs 70)) (w.heap.size + 1) (fun _ => false) ∧ Fr NoB w ((w.alloc (.cells (arrF f) 70)).alloc (.cells zrs 70)) := by
  refine ⟨(RowF.new w f).no ((Fr.refl _ _).alloc _), ?_, ((Fr.refl _ _).alloc _).alloc _⟩
  have := RowF.zero (w.alloc (.cells (arrF f) 70))
  exact (show (w.alloc (.cells (arrF f) 70)).heap.size = w.heap.size + 1 by simp) ▸ this

set_option maxRecDepth 8000 in
set_option maxHeartbeats 2000000 in
theorem aft_small (w : World) (s : ByteArray) (hs : s.size ≤ 100000) (i : Nat) (f : Nat → Bool) (hi : i < s.size) (b1 : ((s[i].toNat : Int) == 63) = false) (b2 : ((s[i].toNat : Int) == 64) = false) (b3 : ((s[i].toNat : Int) == 126) = false) (hg : greatN s[i].toNat = false) :
    Calls Try.prog 46 #[.string s, .int .i64 (i : Int), .agg (arrF f)] w fun e w' => e = .returned (.agg (arrF (f))) ∧ Fr NoB w w' := by
  have HG : Hid _ := fun X => great_fn X s[i].toNat (UInt8.toNat_lt _)
  rw [hg] at HG
  have H0 : Hid _ := two_rows w f
  unfold zrs at H0
  go_enter Try.func46, Try.ntmps46
  go_upto_region 1 with fail
  generalize ((w.alloc (Obj.cells (arrF f) 70)).alloc _) = W at *
  have H1 : Hid _ := H0.out.1
  have H2 : Hid _ := H0.out.2.1
  have H3 : Hid _ := H0.out.2.2
  clear H0
  go_wp2_with (first
    | (go_at_call 66; refine (HG.out _).mono ?_; rintro e w1 ⟨rfl, hw⟩; have hw2 := hw.symm; clear hw; subst hw2)
    | (refine wpList_load_row rfl 70 _ rfl (w.heap.size) rfl 70 (arrF (f)) (0, 0) _ (H1.out).h Try.underlying70 rfl (sizeArr _) ?_)
    | (refine wpList_store_row rfl 70 _ _ rfl (w.heap.size + 1) (arrF (f)) rfl rfl 70 _ (H2.out).h (sizeArr _) (by rw [arrF_size, arrF_size]) (arrF_one _) ?_))
  refine bodyPost_ret (v := .agg (arrF (f))) ?_ rfl ⟨rfl, (H3.out).setRow (fun q => absurd q (by omega)) _⟩
  exact results_cell_row (fn := Try.f46) rfl _ _ (w.heap.size + 1) 70 _ (0, 0) _ rfl ((H2.out).row (f)).h Try.underlying70 rfl (sizeArr _)

set_option maxRecDepth 8000 in
set_option maxHeartbeats 2000000 in
theorem aft_store (w : World) (s : ByteArray) (hs : s.size ≤ 100000) (i : Nat) (f : Nat → Bool) (hi : i + 1 < s.size) (b1 : ((s[i].toNat : Int) == 63) = false) (b2 : ((s[i].toNat : Int) == 64) = false) (b3 : ((s[i].toNat : Int) == 126) = false) (hg : greatN s[i].toNat = true) (b4 : ((s[i + 1].toNat : Int) == 61) = false) :
    Calls Try.prog 46 #[.string s, .int .i64 (i : Int), .agg (arrF f)] w fun e w' => e = .returned (.agg (arrF (f))) ∧ Fr NoB w w' := by
  have HG : Hid _ := fun X => great_fn X s[i].toNat (UInt8.toNat_lt _)
  rw [hg] at HG
  have H0 : Hid _ := two_rows w f
  unfold zrs at H0
  go_enter Try.func46, Try.ntmps46
  go_upto_region 1 with fail
  generalize ((w.alloc (Obj.cells (arrF f) 70)).alloc _) = W at *
  have H1 : Hid _ := H0.out.1
  have H2 : Hid _ := H0.out.2.1
  have H3 : Hid _ := H0.out.2.2
  clear H0
  go_wp2_with (first
    | (go_at_call 66; refine (HG.out _).mono ?_; rintro e w1 ⟨rfl, hw⟩; have hw2 := hw.symm; clear hw; subst hw2)
    | (refine wpList_load_row rfl 70 _ rfl (w.heap.size) rfl 70 (arrF (f)) (0, 0) _ (H1.out).h Try.underlying70 rfl (sizeArr _) ?_)
    | (refine wpList_store_row rfl 70 _ _ rfl (w.heap.size + 1) (arrF (f)) rfl rfl 70 _ (H2.out).h (sizeArr _) (by rw [arrF_size, arrF_size]) (arrF_one _) ?_))
  refine bodyPost_ret (v := .agg (arrF (f))) ?_ rfl ⟨rfl, (H3.out).setRow (fun q => absurd q (by omega)) _⟩
  exact results_cell_row (fn := Try.f46) rfl _ _ (w.heap.size + 1) 70 _ (0, 0) _ rfl ((H2.out).row (f)).h Try.underlying70 rfl (sizeArr _)

set_option maxRecDepth 8000 in
set_option maxHeartbeats 2000000 in
theorem aft_self (w : World) (s : ByteArray) (hs : s.size ≤ 100000) (i : Nat) (f : Nat → Bool) (hi : i + 2 < s.size) (b1 : ((s[i].toNat : Int) == 63) = false) (b2 : ((s[i].toNat : Int) == 64) = false) (b3 : ((s[i].toNat : Int) == 126) = false) (hg : greatN s[i].toNat = true) (b4 : ((s[i + 1].toNat : Int) == 61) = true) (b5 : ((s[i + 2].toNat : Int) == 91) = false) (b6 : ((s[i + 2].toNat : Int) != (s[i].toNat : Int)) = false) :
    Calls Try.prog 46 #[.string s, .int .i64 (i : Int), .agg (arrF f)] w fun e w' => e = .returned (.agg (arrF (f))) ∧ Fr NoB w w' := by
  have HG : Hid _ := fun X => great_fn X s[i].toNat (UInt8.toNat_lt _)
  rw [hg] at HG
  have H0 : Hid _ := two_rows w f
  unfold zrs at H0
  go_enter Try.func46, Try.ntmps46
  go_upto_region 1 with fail
  generalize ((w.alloc (Obj.cells (arrF f) 70)).alloc _) = W at *
  have H1 : Hid _ := H0.out.1
  have H2 : Hid _ := H0.out.2.1
  have H3 : Hid _ := H0.out.2.2
  clear H0
  go_wp2_with (first
    | (go_at_call 66; refine (HG.out _).mono ?_; rintro e w1 ⟨rfl, hw⟩; have hw2 := hw.symm; clear hw; subst hw2)
    | (refine wpList_load_row rfl 70 _ rfl (w.heap.size) rfl 70 (arrF (f)) (0, 0) _ (H1.out).h Try.underlying70 rfl (sizeArr _) ?_)
    | (refine wpList_store_row rfl 70 _ _ rfl (w.heap.size + 1) (arrF (f)) rfl rfl 70 _ (H2.out).h (sizeArr _) (by rw [arrF_size, arrF_size]) (arrF_one _) ?_))
  refine bodyPost_ret (v := .agg (arrF (f))) ?_ rfl ⟨rfl, (H3.out).setRow (fun q => absurd q (by omega)) _⟩
  exact results_cell_row (fn := Try.f46) rfl _ _ (w.heap.size + 1) 70 _ (0, 0) _ rfl ((H2.out).row (f)).h Try.underlying70 rfl (sizeArr _)

set_option maxRecDepth 8000 in
set_option maxHeartbeats 2000000 in
theorem aft_drop (w : World) (s : ByteArray) (hs : s.size ≤ 100000) (i : Nat) (f : Nat → Bool) (hi : i + 1 < s.size) (b1 : ((s[i].toNat : Int) == 63) = false) (b2 : ((s[i].toNat : Int) == 64) = false) (b3 : ((s[i].toNat : Int) == 126) = true) (k : Nat) (hk : k < 26) (hq : s[i + 1].toNat = k + 65) :
    Calls Try.prog 46 #[.string s, .int .i64 (i : Int), .agg (arrF f)] w fun e w' => e = .returned (.agg (arrF (updB f k false))) ∧ Fr NoB w w' := by
  have H0 : Hid _ := two_rows w f
  unfold zrs at H0
  go_enter Try.func46, Try.ntmps46
  go_upto_region 1 with fail
  generalize ((w.alloc (Obj.cells (arrF f) 70)).alloc _) = W at *
  have H1 : Hid _ := H0.out.1
  have H2 : Hid _ := H0.out.2.1
  have H3 : Hid _ := H0.out.2.2
  clear H0
  have c1 := H1.out.cell hk
  have c2 := H1.out.frz k
  have HS : Hid _ := H1.out.set hk false
  have HZ : Hid (RowF (W.setCell ⟨w.heap.size, k, none⟩ (.bool false)) (w.heap.size + 1) (fun _ => false)) := H2.out.fr ((Fr.refl (OneB w.heap.size) _).setCell (p := ⟨w.heap.size, k, none⟩) (fun _ => rfl) _) (by unfold OneB; omega)
  have HF : Hid (Fr NoB w (W.setCell ⟨w.heap.size, k, none⟩ (.bool false))) := H3.out.setCell (p := ⟨w.heap.size, k, none⟩) (fun q => absurd q (by simp)) _
  go_wp2_with (first
    | (refine wpList_load_row rfl 70 _ rfl (w.heap.size) rfl 70 (arrF (updB f k false)) (0, 0) _ (HS.out).h Try.underlying70 rfl (sizeArr _) ?_)
    | (refine wpList_store_row rfl 70 _ _ rfl (w.heap.size + 1) (arrF (updB f k false)) rfl rfl 70 _ (HZ.out).h (sizeArr _) (by rw [arrF_size, arrF_size]) (arrF_one _) ?_))
  refine bodyPost_ret (v := .agg (arrF (updB f k false))) ?_ rfl ⟨rfl, (HF.out).setRow (fun q => absurd q (by omega)) _⟩
  exact results_cell_row (fn := Try.f46) rfl _ _ (w.heap.size + 1) 70 _ (0, 0) _ rfl ((HZ.out).row (updB f k false)).h Try.underlying70 rfl (sizeArr _)

set_option maxRecDepth 8000 in
set_option maxHeartbeats 2000000 in
theorem aft_make (w : World) (s : ByteArray) (hs : s.size ≤ 100000) (i : Nat) (f : Nat → Bool) (hi : i + 2 < s.size) (b1 : ((s[i].toNat : Int) == 63) = false) (b2 : ((s[i].toNat : Int) == 64) = false) (b3 : ((s[i].toNat : Int) == 126) = false) (hg : greatN s[i].toNat = true) (b4 : ((s[i + 1].toNat : Int) == 61) = true) (b5 : ((s[i + 2].toNat : Int) == 91) = true) (k : Nat) (hk : k < 26) (hq : s[i].toNat = k + 65) :
    Calls Try.prog 46 #[.string s, .int .i64 (i : Int), .agg (arrF f)] w fun e w' => e = .returned (.agg (arrF (updB f k true))) ∧ Fr NoB w w' := by
  have HG : Hid _ := fun X => great_fn X s[i].toNat (UInt8.toNat_lt _)
  rw [hg] at HG
  have H0 : Hid _ := two_rows w f
  unfold zrs at H0
  go_enter Try.func46, Try.ntmps46
  go_upto_region 1 with fail
  generalize ((w.alloc (Obj.cells (arrF f) 70)).alloc _) = W at *
  have H1 : Hid _ := H0.out.1
  have H2 : Hid _ := H0.out.2.1
  have H3 : Hid _ := H0.out.2.2
  clear H0
  have c1 := H1.out.cell hk
  have c2 := H1.out.frz k
  have HS : Hid _ := H1.out.set hk true
  have HZ : Hid (RowF (W.setCell ⟨w.heap.size, k, none⟩ (.bool true)) (w.heap.size + 1) (fun _ => false)) := H2.out.fr ((Fr.refl (OneB w.heap.size) _).setCell (p := ⟨w.heap.size, k, none⟩) (fun _ => rfl) _) (by unfold OneB; omega)
  have HF : Hid (Fr NoB w (W.setCell ⟨w.heap.size, k, none⟩ (.bool true))) := H3.out.setCell (p := ⟨w.heap.size, k, none⟩) (fun q => absurd q (by simp)) _
  rw [hq] at HG b1 b2 b3
  go_wp2_with (first
    | (go_at_call 66; refine (HG.out _).mono ?_; rintro e w1 ⟨rfl, hw⟩; have hw2 := hw.symm; clear hw; subst hw2)
    | (refine wpList_load_row rfl 70 _ rfl (w.heap.size) rfl 70 (arrF (updB f k true)) (0, 0) _ (HS.out).h Try.underlying70 rfl (sizeArr _) ?_)
    | (refine wpList_store_row rfl 70 _ _ rfl (w.heap.size + 1) (arrF (updB f k true)) rfl rfl 70 _ (HZ.out).h (sizeArr _) (by rw [arrF_size, arrF_size]) (arrF_one _) ?_))
  refine bodyPost_ret (v := .agg (arrF (updB f k true))) ?_ rfl ⟨rfl, (HF.out).setRow (fun q => absurd q (by omega)) _⟩
  exact results_cell_row (fn := Try.f46) rfl _ _ (w.heap.size + 1) 70 _ (0, 0) _ rfl ((HZ.out).row (updB f k true)).h Try.underlying70 rfl (sizeArr _)

set_option maxRecDepth 8000 in
set_option maxHeartbeats 2000000 in
theorem aft_move (w : World) (s : ByteArray) (hs : s.size ≤ 100000) (i : Nat) (f : Nat → Bool) (hi : i + 2 < s.size) (b1 : ((s[i].toNat : Int) == 63) = false) (b2 : ((s[i].toNat : Int) == 64) = false) (b3 : ((s[i].toNat : Int) == 126) = false) (hg : greatN s[i].toNat = true) (b4 : ((s[i + 1].toNat : Int) == 61) = true) (b5 : ((s[i + 2].toNat : Int) == 91) = false) (b6 : ((s[i + 2].toNat : Int) != (s[i].toNat : Int)) = true) (k : Nat) (hk : k < 26) (hq : s[i].toNat = k + 65) (l : Nat) (hl : l < 26) (hp : s[i + 2].toNat = l + 65) :
    Calls Try.prog 46 #[.string s, .int .i64 (i : Int), .agg (arrF f)] w fun e w' => e = .returned (.agg (arrF (updB (updB f k (f l)) l false))) ∧ Fr NoB w w' := by
  have HG : Hid _ := fun X => great_fn X s[i].toNat (UInt8.toNat_lt _)
  rw [hg] at HG
  have H0 : Hid _ := two_rows w f
  unfold zrs at H0
  go_enter Try.func46, Try.ntmps46
  go_upto_region 1 with fail
  generalize ((w.alloc (Obj.cells (arrF f) 70)).alloc _) = W at *
  have H1 : Hid _ := H0.out.1
  have H2 : Hid _ := H0.out.2.1
  have H3 : Hid _ := H0.out.2.2
  clear H0
  have c1 := H1.out.cell hl
  have c2 := H1.out.frz k
  have c3 := H1.out.frz l
  have c4 := H1.out.cell hk
  have HSa : Hid _ := H1.out.set hk (f l)
  have HS : Hid _ := HSa.out.set hl false
  have HZ : Hid (RowF ((W.setCell ⟨w.heap.size, k, none⟩ (.bool (f l))).setCell ⟨w.heap.size, l, none⟩ (.bool false)) (w.heap.size + 1) (fun _ => false)) := (H2.out.fr ((Fr.refl (OneB w.heap.size) _).setCell (p := ⟨w.heap.size, k, none⟩) (fun _ => rfl) _) (by unfold OneB; omega)).fr ((Fr.refl (OneB w.heap.size) _).setCell (p := ⟨w.heap.size, l, none⟩) (fun _ => rfl) _) (by unfold OneB; omega)
  have HF : Hid (Fr NoB w ((W.setCell ⟨w.heap.size, k, none⟩ (.bool (f l))).setCell ⟨w.heap.size, l, none⟩ (.bool false))) := (H3.out.setCell (p := ⟨w.heap.size, k, none⟩) (fun q => absurd q (by simp)) _).setCell (p := ⟨w.heap.size, l, none⟩) (fun q => absurd q (by simp)) _
  have c5 := HSa.out.cell hl
  rw [hq] at HG b1 b2 b3 b6
  rw [hp] at b5 b6
  go_wp2_with (first
    | (go_at_call 66; refine (HG.out _).mono ?_; rintro e w1 ⟨rfl, hw⟩; have hw2 := hw.symm; clear hw; subst hw2)
    | (refine wpList_load_row rfl 70 _ rfl (w.heap.size) rfl 70 (arrF (updB (updB f k (f l)) l false)) (0, 0) _ (HS.out).h Try.underlying70 rfl (sizeArr _) ?_)
    | (refine wpList_store_row rfl 70 _ _ rfl (w.heap.size + 1) (arrF (updB (updB f k (f l)) l false)) rfl rfl 70 _ (HZ.out).h (sizeArr _) (by rw [arrF_size, arrF_size]) (arrF_one _) ?_))
  refine bodyPost_ret (v := .agg (arrF (updB (updB f k (f l)) l false))) ?_ rfl ⟨rfl, (HF.out).setRow (fun q => absurd q (by omega)) _⟩
  exact results_cell_row (fn := Try.f46) rfl _ _ (w.heap.size + 1) 70 _ (0, 0) _ rfl ((HZ.out).row (updB (updB f k (f l)) l false)).h Try.underlying70 rfl (sizeArr _)

set_option maxRecDepth 8000 in
set_option maxHeartbeats 2000000 in
theorem aft_if (w : World) (s : ByteArray) (hs : s.size ≤ 100000) (i : Nat) (f : Nat → Bool) (a b c : Nat) (h : IfAt s i a b c) (T1 T2 : (Nat → Bool) → Nat → Bool) (hc : Clean f) (IH1 : AlongIs s (a + 1) b T1) (IH2 : AlongIs s (b + 2) c T2) :
    Calls Try.prog 46 #[.string s, .int .i64 (i : Int), .agg (arrF f)] w fun e w' => e = .returned (.agg (arrF (bothF (T1 f) (T2 f)))) ∧ Fr NoB w w' := by
  have hbd := h.bnd
  have hi : i < s.size := by omega
  have hq : s[i].toNat = 63 := by rw [← bt_in hi]; exact h.q
  have b1 : ((s[i].toNat : Int) == 63) = true := beq_iff_eq.2 (by omega)
  have HH : Hid _ := fun X => halves_fn X s i a b c h hs
  have HI1 : Hid (∀ (X : World), Calls Try.prog 63 #[.string s, .int .i64 ((a : Int) + 1), .int .i64 (b : Int), .agg (arrF f)] X fun e w' => e = .returned (.agg (arrF (T1 f))) ∧ Fr NoB X w') := fun X => IH1 X f hc
  have HI2 : Hid (∀ (X : World), Calls Try.prog 63 #[.string s, .int .i64 ((b : Int) + 2), .int .i64 (c : Int), .agg (arrF f)] X fun e w' => e = .returned (.agg (arrF (T2 f))) ∧ Fr NoB X w') := fun X => IH2 X f hc
  clear h hq IH1 IH2
  have H0 : Hid _ := two_rows w f
  unfold zrs at H0
  go_enter Try.func46, Try.ntmps46
  go_upto_region 1 with fail
  generalize ((w.alloc (Obj.cells (arrF f) 70)).alloc _) = W at *
  have H1 : Hid _ := H0.out.1
  have H2 : Hid _ := H0.out.2.1
  have H3 : Hid _ := H0.out.2.2
  clear H0
  go_upto_region 5 with (first
    | (go_at_call 42; refine (HH.out _).mono ?_; rintro e w1 ⟨rfl, hw⟩; have hw2 := hw.symm; clear hw; subst hw2)
    | (refine wpList_load_row rfl 70 _ rfl (w.heap.size) rfl 70 (arrF (f)) (0, 0) _ (H1.out).h Try.underlying70 rfl (sizeArr _) ?_)
    | (go_at_call 63; refine (HI1.out _).mono ?_; rintro e w1 ⟨rfl, hF1⟩)
    | (refine wpList_store_row rfl 70 _ _ rfl (w1.heap.size) (arrF (T1 f)) rfl rfl 70 _ (RowF.zero w1).h (sizeArr _) (by rw [arrF_size, arrF_size]) (arrF_one _) ?_))
  have hq1 : w.heap.size + 1 < w1.heap.size := Nat.lt_of_lt_of_le H2.out.lt hF1.size
  have K0 : Fr NoB W ((w1.alloc (.cells zrs 70)).setRow w1.heap.size (arrF (T1 f))) := (hF1.alloc _).setRow (fun q => absurd hF1.size (by omega)) _
  have K1 := H1.out.no K0
  have K2 := H2.out.no K0
  have K3 : RowF ((w1.alloc (.cells zrs 70)).setRow w1.heap.size (arrF (T1 f))) w1.heap.size (T1 f) := (RowF.zero w1).row (T1 f)
  have K4 := H3.out.trans K0
  unfold zrs at K0 K1 K2 K3 K4
  generalize ((w1.alloc (Obj.cells _ 70)).setRow w1.heap.size (arrF (T1 f))) = W2 at *
  generalize w1.heap.size = q at *
  have HK1 : Hid _ := K1
  have HK2 : Hid _ := K2
  have HK3 : Hid _ := K3
  have HK4 : Hid _ := K4
  clear K0 K1 K2 K3 K4 hF1 H1 H2 H3
  go_upto_region 6 with (first
    | (refine wpList_load_row rfl 70 _ rfl (w.heap.size) rfl 70 (arrF (f)) (0, 0) _ (HK1.out).h Try.underlying70 rfl (sizeArr _) ?_)
    | (go_at_call 63; refine (HI2.out _).mono ?_; rintro e w2 ⟨rfl, hF2⟩)
    | (refine wpList_store_row rfl 70 _ _ rfl (w2.heap.size) (arrF (T2 f)) rfl rfl 70 _ (RowF.zero w2).h (sizeArr _) (by rw [arrF_size, arrF_size]) (arrF_one _) ?_))
  have hq2 : q < w2.heap.size := Nat.lt_of_lt_of_le HK3.out.lt hF2.size
  have K0 : Fr NoB W2 ((w2.alloc (.cells zrs 70)).setRow w2.heap.size (arrF (T2 f))) := (hF2.alloc _).setRow (fun q => absurd hF2.size (by omega)) _
  have K2 := HK2.out.no K0
  have K3 := HK3.out.no K0
  have K5 : RowF ((w2.alloc (.cells zrs 70)).setRow w2.heap.size (arrF (T2 f))) w2.heap.size (T2 f) := (RowF.zero w2).row (T2 f)
  have K4 := HK4.out.trans K0
  unfold zrs at K0 K2 K3 K4 K5
  generalize ((w2.alloc (Obj.cells _ 70)).setRow w2.heap.size (arrF (T2 f))) = W3 at *
  generalize w2.heap.size = r at *
  have HL2 : Hid _ := K2
  have HL3 : Hid _ := K3
  have HL4 : Hid _ := K4
  have HL5 : Hid _ := K5
  clear K0 K2 K3 K4 K5 hF2 HK1 HK2 HK3 HK4
  go_wp2_with (first
    | (refine wpList_load_row rfl 70 _ rfl (q) rfl 70 (arrF (T1 f)) (0, 0) _ (HL3.out).h Try.underlying70 rfl (sizeArr _) ?_)
    | (refine wpList_load_row rfl 70 _ rfl (r) rfl 70 (arrF (T2 f)) (0, 0) _ (HL5.out).h Try.underlying70 rfl (sizeArr _) ?_)
    | (go_at_call 65; refine (both_fn _ (T1 f) (T2 f)).mono ?_; rintro e w3 ⟨rfl, hF3⟩)
    | (refine wpList_store_row rfl 70 _ _ rfl (w.heap.size + 1) (arrF (bothF (T1 f) (T2 f))) rfl rfl 70 _ (HL2.out.no hF3).h (sizeArr _) (by rw [arrF_size, arrF_size]) (arrF_one _) ?_))
  refine bodyPost_ret (v := .agg (arrF (bothF (T1 f) (T2 f)))) ?_ rfl ⟨rfl, (HL4.out.trans hF3).setRow (fun q => absurd q (by omega)) _⟩
  exact results_cell_row (fn := Try.f46) rfl _ _ (w.heap.size + 1) 70 _ (0, 0) _ rfl ((HL2.out.no hF3).row (bothF (T1 f) (T2 f))).h Try.underlying70 rfl (sizeArr _)

set_option maxRecDepth 8000 in
set_option maxHeartbeats 2000000 in
theorem aft_loop (w : World) (s : ByteArray) (hs : s.size ≤ 100000) (i : Nat) (f : Nat → Bool) (a b : Nat) (h : LoopAt s i a b) (T : (Nat → Bool) → Nat → Bool) (hc : Clean f) (hT : ∀ g, Clean g → Clean (T g)) (IH : AlongIs s (a + 1) b T) :
    Calls Try.prog 46 #[.string s, .int .i64 (i : Int), .agg (arrF f)] w fun e w' => e = .returned (.agg (arrF (iterF T 27 f))) ∧ Fr NoB w w' := by
  have hbd := h.bnd
  have hi : i < s.size := by omega
  have hq : s[i].toNat = 64 := by rw [← bt_in hi]; exact h.q
  have b1 : ((s[i].toNat : Int) == 63) = false := beq_eq_false_iff_ne.2 (by omega)
  have b2 : ((s[i].toNat : Int) == 64) = true := beq_iff_eq.2 (by omega)
  have HH : Hid _ := fun X => head_of X s hs i a b h T f hc hT IH
  generalize hR : iterF T 27 f = R at *
  clear h hq IH hR
  have H0 : Hid _ := two_rows w f
  unfold zrs at H0
  go_enter Try.func46, Try.ntmps46
  go_upto_region 1 with fail
  generalize ((w.alloc (Obj.cells (arrF f) 70)).alloc _) = W at *
  have H1 : Hid _ := H0.out.1
  have H2 : Hid _ := H0.out.2.1
  have H3 : Hid _ := H0.out.2.2
  clear H0
  go_wp2_with (first
    | (refine wpList_load_row rfl 70 _ rfl (w.heap.size) rfl 70 (arrF (f)) (0, 0) _ (H1.out).h Try.underlying70 rfl (sizeArr _) ?_)
    | (go_at_call 44; refine (HH.out _).mono ?_; rintro e w1 ⟨rfl, hF1⟩)
    | (refine wpList_store_row rfl 70 _ _ rfl (w.heap.size + 1) (arrF (R)) rfl rfl 70 _ (H2.out.no hF1).h (sizeArr _) (by rw [arrF_size, arrF_size]) (arrF_one _) ?_))
  refine bodyPost_ret (v := .agg (arrF (R))) ?_ rfl ⟨rfl, (H3.out.trans hF1).setRow (fun q => absurd q (by omega)) _⟩
  exact results_cell_row (fn := Try.f46) rfl _ _ (w.heap.size + 1) 70 _ (0, 0) _ rfl ((H2.out.no hF1).row (R)).h Try.underlying70 rfl (sizeArr _)

end Go.Proofs.Ytcmnejcojphijaa
