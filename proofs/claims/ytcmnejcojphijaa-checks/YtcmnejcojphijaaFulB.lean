/-
  Which boxes are full: the document's own head, after and along.
-/
import Derived.Test.YtcmnejcojphijaaFulA
namespace Go.Proofs.Ytcmnejcojphijaa
open Go.RowKit
set_option linter.unusedVariables false

theorem sizeArr (f : Nat → Bool) : (Try.prog.info? 70).map (·.size) = some (arrF f).size := by rw [arrF_size]; exact Try.sizeFull
/-- the zeros of a new one -/
def zrs : Array Value := #[.bool false, .bool false, .bool false, .bool false, .bool false, .bool false, .bool false, .bool false, .bool false, .bool false, .bool false, .bool false, .bool false, .bool false, .bool false, .bool false, .bool false, .bool false, .bool false, .bool false, .bool false, .bool false, .bool false, .bool false, .bool false, .bool false]
theorem RowF.zero (w : World) : RowF (w.alloc (.cells zrs 70)) w.heap.size (fun _ => false) := RowF.new w (fun _ => false)

/-- what 'along' does from i up to j -/
def AlongIs (s : ByteArray) (i j : Nat) (T : (Nat → Bool) → Nat → Bool) : Prop := ∀ (W : World) (g : Nat → Bool), Clean g → Calls Try.prog 63 #[.string s, .int .i64 (i : Int), .int .i64 (j : Int), .agg (arrF g)] W fun e w' => e = .returned (.agg (arrF (T g))) ∧ Fr NoB W w'

set_option maxRecDepth 8000 in
set_option maxHeartbeats 2000000 in
theorem head_of (w : World) (s : ByteArray) (hs : s.size ≤ 100000) (i a b : Nat) (hL : LoopAt s i a b) (T : (Nat → Bool) → Nat → Bool) (f : Nat → Bool) (hc : Clean f) (hT : ∀ g, Clean g → Clean (T g)) (IH : AlongIs s (a + 1) b T) :
    Calls Try.prog 44 #[.string s, .int .i64 (i : Int), .agg (arrF f)] w fun e w' => e = .returned (.agg (arrF (iterF T 27 f))) ∧ Fr NoB w w' := by
  have HIH : Hid (∀ (W : World) (g : Nat → Bool), Clean g → Calls Try.prog 63 #[.string s, .int .i64 ((a : Int) + 1), .int .i64 (b : Int), .agg (arrF g)] W fun e w' => e = .returned (.agg (arrF (T g))) ∧ Fr NoB W w') := IH
  have HB : Hid _ := fun W => body_fn W s i a b hL hs
  have hbd := hL.bnd
  clear IH hL
  have Hf1 : Hid (RowF ((w.alloc (.cells (arrF f) 70)).alloc (.cells zrs 70)) w.heap.size f) := (RowF.new w f).no ((Fr.refl _ _).alloc _)
  have Hz1 : Hid (RowF ((w.alloc (.cells (arrF f) 70)).alloc (.cells zrs 70)) (w.heap.size + 1) (fun _ => false)) := by
    have := RowF.zero (w.alloc (.cells (arrF f) 70))
    exact (show (w.alloc (.cells (arrF f) 70)).heap.size = w.heap.size + 1 by simp) ▸ this
  have HF1 : Hid (Fr NoB w ((w.alloc (.cells (arrF f) 70)).alloc (.cells zrs 70))) := ((Fr.refl _ _).alloc _).alloc _
  generalize hR : iterF T 27 f = R
  have HR : Hid _ := hR
  clear hR
  unfold zrs at Hf1 Hz1 HF1
  generalize hf : arrF f = af at *
  clear hf
  go_enter Try.func44, Try.ntmps44
  go_wp2_with (go_at_call 43; refine (HB.out _).mono ?_; rintro e w1 ⟨rfl, hw⟩; have hw2 := hw.symm; clear hw; subst hw2)
  generalize ((w.alloc (Obj.cells af 70)).alloc _) = W at *
  go_loopg [9] 26 (fun k _ wr => ∃ (g : Nat → Bool) (m : Nat), card g 26 ≤ k ∧ m + card g 26 ≤ 26 ∧ R = iterF T (27 - m) g ∧ Clean g ∧ RowF wr w.heap.size g ∧ RowF wr (w.heap.size + 1) (fun _ => false) ∧ Fr NoB w wr)
  case atStart => exact ⟨f, 0, card_le f 26, by have := card_le f 26; omega, HR.out.symm, hc, Hf1.out, Hz1.out, HF1.out⟩
  case round =>
    obtain ⟨g, m, hk, hm, hR, hcg, h1, h2, h3⟩ := hrel
    have H1 : Hid _ := h1
    have H2 : Hid _ := h2
    have H3 : Hid _ := h3
    have HR2 : Hid (R = iterF T (27 - m) g) := hR
    have Hcg : Hid _ := hcg
    clear h1 h2 h3 hR Hf1 Hz1 HF1 hcg
    go_upto_region 3 with (first
        | (refine wpList_load_row rfl 70 _ rfl w.heap.size rfl 70 (arrF g) (0, 0) _ H1.out.h Try.underlying70 rfl (sizeArr g) ?_)
        | (go_at_call 63; refine (HIH.out _ g Hcg.out).mono ?_; rintro e w1 ⟨rfl, hF1⟩)
        | (refine wpList_store_row rfl 70 _ _ rfl w1.heap.size (arrF (T g)) rfl rfl 70 _ (RowF.zero w1).h (sizeArr _) (by rw [arrF_size, arrF_size]) (arrF_one _) ?_))
    have hq1 : w.heap.size + 1 < w1.heap.size := Nat.lt_of_lt_of_le H2.out.lt hF1.size
    have K0 : Fr NoB wr ((w1.alloc (.cells zrs 70)).setRow w1.heap.size (arrF (T g))) := (hF1.alloc _).setRow (fun q => absurd hF1.size (by omega)) _
    have K1 := H1.out.no K0
    have K2 := H2.out.no K0
    have K3 : RowF ((w1.alloc (.cells zrs 70)).setRow w1.heap.size (arrF (T g))) w1.heap.size (T g) := (RowF.zero w1).row (T g)
    have K4 := H3.out.trans K0
    unfold zrs at K0 K1 K2 K3 K4
    generalize ((w1.alloc (Obj.cells _ 70)).setRow w1.heap.size (arrF (T g))) = W2 at *
    generalize w1.heap.size = q at *
    have HK1 : Hid _ := K1
    have HK2 : Hid _ := K2
    have HK3 : Hid _ := K3
    have HK4 : Hid _ := K4
    clear K0 K1 K2 K3 K4 hF1 H1 H2 H3
    by_cases hsub : subF g (T g)
    · have HE : Hid (R = g) := by
        show R = g
        rw [HR2.out]
        exact iterF_stop (both_eq Hcg.out hsub) _
      have HS : Hid (∀ X : World, Calls Try.prog 64 #[.agg (arrF g), .agg (arrF (T g))] X fun e w' => e = .returned (.bool true) ∧ Fr NoB X w') := fun X => by
        have := subset_fn X g (T g)
        rwa [subD_true hsub] at this
      clear hsub
      go_upto_region 4 with (first
        | (refine wpList_load_row rfl 70 _ rfl w.heap.size rfl 70 (arrF g) (0, 0) _ HK1.out.h Try.underlying70 rfl (sizeArr g) ?_)
        | (refine wpList_load_row rfl 70 _ rfl q rfl 70 (arrF (T g)) (0, 0) _ HK3.out.h Try.underlying70 rfl (sizeArr _) ?_)
        | (go_at_call 64; refine (HS.out _).mono ?_; rintro e w2 ⟨rfl, hF2⟩))
      have HL1 : Hid _ := HK1.out.no hF2
      have HL2 : Hid _ := HK2.out.no hF2
      have HL4 : Hid _ := HK4.out.trans hF2
      clear hF2
      go_wp2_with (first
        | (refine wpList_load_row rfl 70 _ rfl w.heap.size rfl 70 (arrF g) (0, 0) _ HL1.out.h Try.underlying70 rfl (sizeArr g) ?_)
        | (refine wpList_store_row rfl 70 _ _ rfl (w.heap.size + 1) (arrF g) rfl rfl 70 _ HL2.out.h (sizeArr _) (by rw [arrF_size, arrF_size]) (arrF_one _) ?_))
      refine bodyPost_ret (v := .agg (arrF R)) ?_ rfl ⟨rfl, HL4.out.setRow (fun q => absurd q (by omega)) _⟩
      rw [HE.out]
      exact results_cell_row (fn := Try.f44) rfl _ _ (w.heap.size + 1) 70 _ (0, 0) _ rfl (HL2.out.row g).h Try.underlying70 rfl (sizeArr _)
    · have hcard := card_both hsub
      have HE : Hid (R = iterF T (27 - (m + 1)) (bothF g (T g))) := by
        show R = _
        rw [HR2.out, show 27 - m = (27 - (m + 1)) + 1 by omega]
        rfl
      have HS : Hid (∀ X : World, Calls Try.prog 64 #[.agg (arrF g), .agg (arrF (T g))] X fun e w' => e = .returned (.bool false) ∧ Fr NoB X w') := fun X => by
        have := subset_fn X g (T g)
        rwa [subD_false hsub] at this
      clear hsub
      go_upto_region 5 with (first
        | (refine wpList_load_row rfl 70 _ rfl w.heap.size rfl 70 (arrF g) (0, 0) _ HK1.out.h Try.underlying70 rfl (sizeArr g) ?_)
        | (refine wpList_load_row rfl 70 _ rfl q rfl 70 (arrF (T g)) (0, 0) _ HK3.out.h Try.underlying70 rfl (sizeArr _) ?_)
        | (go_at_call 64; refine (HS.out _).mono ?_; rintro e w2 ⟨rfl, hF2⟩))
      have HL1 : Hid _ := HK1.out.no hF2
      have HL2 : Hid _ := HK2.out.no hF2
      have HL3 : Hid _ := HK3.out.no hF2
      have HL4 : Hid _ := HK4.out.trans hF2
      clear hF2 HK1 HK2 HK3 HK4
      go_wp2_with (first
        | (refine wpList_load_row rfl 70 _ rfl w.heap.size rfl 70 (arrF g) (0, 0) _ HL1.out.h Try.underlying70 rfl (sizeArr g) ?_)
        | (refine wpList_load_row rfl 70 _ rfl q rfl 70 (arrF (T g)) (0, 0) _ HL3.out.h Try.underlying70 rfl (sizeArr _) ?_)
        | (go_at_call 65; refine (both_fn _ g (T g)).mono ?_; rintro e w3 ⟨rfl, hF3⟩)
        | (refine wpList_store_row rfl 70 _ _ rfl w.heap.size (arrF (bothF g (T g))) rfl rfl 70 _ (HL1.out.no hF3).h (sizeArr _) (by rw [arrF_size, arrF_size]) (arrF_one _) ?_))
      go_roundg (card (bothF g (T g)) 26)
      case measure => omega
      case rel => exact ⟨bothF g (T g), m + 1, Nat.le_refl _, by omega, HE.out, Clean.both Hcg.out, (HL1.out.no hF3).row _, (HL2.out.no hF3).fr ((Fr.refl (OneB w.heap.size) _).setRow (fun _ => rfl) _) (by unfold OneB; omega), (HL4.out.trans hF3).setRow (fun q => absurd q (by omega)) _⟩
end Go.Proofs.Ytcmnejcojphijaa
