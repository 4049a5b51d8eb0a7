/-
  The program's full: the first box that is used and not full.
-/
import Derived.Test.YtcmnejcojphijaaDevD
namespace Go.Proofs.Ytcmnejcojphijaa
open Go.RowKit
set_option linter.unusedVariables false

set_option maxHeartbeats 1000000 in
theorem usedP_2 (w : World) (place num box src x1 sign x2 opn clo : Nat) (b1 b2 : Bool) (hp : place ≤ 100000) :
    Calls Try.prog 38 #[.agg #[.int .i64 2, .int .i64 (place : Int), .int .i64 (num : Int), .int .i64 (box : Int), .int .i64 (src : Int), .bool b1, .int .i64 (x1 : Int), .int .u8 (sign : Int), .bool b2, .int .i64 (x2 : Int), .int .i64 (opn : Int), .int .i64 (clo : Int)]] w fun e w' => e = .returned (.tuple #[.int .i64 (box : Int), .int .i64 ((place : Int) + 2), .bool true]) ∧ Fr NoB w w' := by
  go_enter Try.func38, Try.ntmps38
  go_upto_region 3 with fail
  go_quiet (fail)
  go_wp2
  go_ret3
  exact ⟨rfl, by repeat (first | exact Fr.refl _ _ | refine Fr.drewN ?_ _ | refine Fr.drew ?_ | refine Fr.alloc ?_ _)⟩
set_option maxHeartbeats 1000000 in
theorem usedP_3 (w : World) (place num box src x1 sign x2 opn clo : Nat) (b1 b2 : Bool) (hp : place ≤ 100000) :
    Calls Try.prog 38 #[.agg #[.int .i64 3, .int .i64 (place : Int), .int .i64 (num : Int), .int .i64 (box : Int), .int .i64 (src : Int), .bool b1, .int .i64 (x1 : Int), .int .u8 (sign : Int), .bool b2, .int .i64 (x2 : Int), .int .i64 (opn : Int), .int .i64 (clo : Int)]] w fun e w' => e = .returned (.tuple #[.int .i64 (box : Int), .int .i64 ((place : Int) + 3), .bool true]) ∧ Fr NoB w w' := by
  go_enter Try.func38, Try.ntmps38
  go_upto_region 5 with fail
  go_quiet (fail)
  go_wp2
  go_ret3
  exact ⟨rfl, by repeat (first | exact Fr.refl _ _ | refine Fr.drewN ?_ _ | refine Fr.drew ?_ | refine Fr.alloc ?_ _)⟩
set_option maxHeartbeats 1000000 in
theorem usedP_6 (w : World) (place num box src x1 sign x2 opn clo : Nat) (b1 b2 : Bool) (hp : place ≤ 100000) :
    Calls Try.prog 38 #[.agg #[.int .i64 6, .int .i64 (place : Int), .int .i64 (num : Int), .int .i64 (box : Int), .int .i64 (src : Int), .bool b1, .int .i64 (x1 : Int), .int .u8 (sign : Int), .bool b2, .int .i64 (x2 : Int), .int .i64 (opn : Int), .int .i64 (clo : Int)]] w fun e w' => e = .returned (.tuple #[.int .i64 (box : Int), .int .i64 ((place : Int)), .bool true]) ∧ Fr NoB w w' := by
  go_enter Try.func38, Try.ntmps38
  go_upto_region 7 with fail
  go_quiet (fail)
  go_wp2
  go_ret3
  exact ⟨rfl, by repeat (first | exact Fr.refl _ _ | refine Fr.drewN ?_ _ | refine Fr.drew ?_ | refine Fr.alloc ?_ _)⟩
set_option maxHeartbeats 1000000 in
theorem usedP_7 (w : World) (place num box src x1 sign x2 opn clo : Nat) (b1 b2 : Bool) (hp : place ≤ 100000) :
    Calls Try.prog 38 #[.agg #[.int .i64 7, .int .i64 (place : Int), .int .i64 (num : Int), .int .i64 (box : Int), .int .i64 (src : Int), .bool b1, .int .i64 (x1 : Int), .int .u8 (sign : Int), .bool b2, .int .i64 (x2 : Int), .int .i64 (opn : Int), .int .i64 (clo : Int)]] w fun e w' => e = .returned (.tuple #[.int .i64 (box : Int), .int .i64 ((place : Int) + 1), .bool true]) ∧ Fr NoB w w' := by
  go_enter Try.func38, Try.ntmps38
  go_upto_region 9 with fail
  go_quiet (fail)
  go_wp2
  go_ret3
  exact ⟨rfl, by repeat (first | exact Fr.refl _ _ | refine Fr.drewN ?_ _ | refine Fr.drew ?_ | refine Fr.alloc ?_ _)⟩
set_option maxHeartbeats 1000000 in
theorem usedP_5 (w : World) (place num box src x1 sign x2 opn clo : Nat) (b1 b2 : Bool) (hp : place ≤ 100000) :
    Calls Try.prog 38 #[.agg #[.int .i64 5, .int .i64 (place : Int), .int .i64 (num : Int), .int .i64 (box : Int), .int .i64 (src : Int), .bool b1, .int .i64 (x1 : Int), .int .u8 (sign : Int), .bool b2, .int .i64 (x2 : Int), .int .i64 (opn : Int), .int .i64 (clo : Int)]] w fun e w' => e = .returned (.tuple #[.int .i64 (src : Int), .int .i64 ((place : Int) + 2), .bool true]) ∧ Fr NoB w w' := by
  go_enter Try.func38, Try.ntmps38
  go_upto_region 11 with fail
  go_quiet (fail)
  go_wp2
  go_ret3
  exact ⟨rfl, by repeat (first | exact Fr.refl _ _ | refine Fr.drewN ?_ _ | refine Fr.drew ?_ | refine Fr.alloc ?_ _)⟩
set_option maxHeartbeats 1000000 in
theorem usedP_0 (w : World) (kind place num box src x1 sign x2 opn clo : Nat) (b1 b2 : Bool) (e1 : ((kind : Int) == 2) = false) (e2 : ((kind : Int) == 3) = false) (e5 : ((kind : Int) == 6) = false) (e6 : ((kind : Int) == 7) = false) (e4 : ((kind : Int) == 5) = false) :
    Calls Try.prog 38 #[.agg #[.int .i64 (kind : Int), .int .i64 (place : Int), .int .i64 (num : Int), .int .i64 (box : Int), .int .i64 (src : Int), .bool b1, .int .i64 (x1 : Int), .int .u8 (sign : Int), .bool b2, .int .i64 (x2 : Int), .int .i64 (opn : Int), .int .i64 (clo : Int)]] w fun e w' => e = .returned (.tuple #[.int .i64 0, .int .i64 0, .bool false]) ∧ Fr NoB w w' := by
  go_enter Try.func38, Try.ntmps38
  go_wp2
  go_ret3
  exact ⟨rfl, (Fr.refl _ _).alloc _⟩

theorem usedPt_fn (w : World) (kind place num box src x1 sign x2 opn clo : Nat) (b1 b2 : Bool) (o1 o2 : Od) (hp : place ≤ 100000) :
    (useB ⟨kind, place, num, box, src, o1, sign, o2, opn⟩ = true → Calls Try.prog 38 #[.agg #[.int .i64 (kind : Int), .int .i64 (place : Int), .int .i64 (num : Int), .int .i64 (box : Int), .int .i64 (src : Int), .bool b1, .int .i64 (x1 : Int), .int .u8 (sign : Int), .bool b2, .int .i64 (x2 : Int), .int .i64 (opn : Int), .int .i64 (clo : Int)]] w fun e w' => e = .returned (.tuple #[.int .i64 (useBx ⟨kind, place, num, box, src, o1, sign, o2, opn⟩ : Int), .int .i64 (usePl ⟨kind, place, num, box, src, o1, sign, o2, opn⟩ : Int), .bool true]) ∧ Fr NoB w w') ∧
    (useB ⟨kind, place, num, box, src, o1, sign, o2, opn⟩ = false → Calls Try.prog 38 #[.agg #[.int .i64 (kind : Int), .int .i64 (place : Int), .int .i64 (num : Int), .int .i64 (box : Int), .int .i64 (src : Int), .bool b1, .int .i64 (x1 : Int), .int .u8 (sign : Int), .bool b2, .int .i64 (x2 : Int), .int .i64 (opn : Int), .int .i64 (clo : Int)]] w fun e w' => e = .returned (.tuple #[.int .i64 0, .int .i64 0, .bool false]) ∧ Fr NoB w w') := by
  constructor
  · intro h
    have hk : kind = 2 ∨ kind = 3 ∨ kind = 6 ∨ kind = 7 ∨ kind = 5 := by
      unfold useB at h; simp at h; omega
    rcases hk with rfl | rfl | rfl | rfl | rfl
    · exact usedP_2 w place num box src x1 sign x2 opn clo b1 b2 hp
    · exact usedP_3 w place num box src x1 sign x2 opn clo b1 b2 hp
    · exact usedP_6 w place num box src x1 sign x2 opn clo b1 b2 hp
    · exact usedP_7 w place num box src x1 sign x2 opn clo b1 b2 hp
    · exact usedP_5 w place num box src x1 sign x2 opn clo b1 b2 hp
  · intro h
    unfold useB at h
    simp at h
    exact usedP_0 w kind place num box src x1 sign x2 opn clo b1 b2 (beq_eq_false_iff_ne.2 (by omega)) (beq_eq_false_iff_ne.2 (by omega)) (beq_eq_false_iff_ne.2 (by omega)) (beq_eq_false_iff_ne.2 (by omega)) (beq_eq_false_iff_ne.2 (by omega))

theorem useBx_lt {t : Pt} (h : PtOk t) : useBx t < 26 := by
  unfold useBx
  split
  · exact h.s
  · exact h.b

theorem scanM_next (p : Nat → Pt) (A : Nat → Nat → Bool) {n k : Nat} (h : 0 < n) : scanM p A n k = if useB (p k) = true ∧ A k (useBx (p k)) = false then (usePl (p k) : Int) else scanM p A (n - 1) (k + 1) := by
  obtain ⟨m, rfl⟩ : ∃ m, n = m + 1 := ⟨n - 1, by omega⟩
  rfl

/-- what FirstEmpty answers -/
def firstV (R : Int) : Value := if 0 ≤ R then .tuple #[.int .i64 R, .bool true] else .tuple #[.int .i64 0, .bool false]
theorem firstV_pos {R : Int} (h : 0 ≤ R) : firstV R = .tuple #[.int .i64 R, .bool true] := if_pos h
theorem firstV_neg {R : Int} (h : ¬ 0 ≤ R) : firstV R = .tuple #[.int .i64 0, .bool false] := if_neg h
set_option maxRecDepth 8000 in
set_option maxHeartbeats 4000000 in
theorem first_fn (w : World) (n pc ga ac : Nat) (ao : Option Addr) (p : Nat → Pt) (C : Nat → Nat) (A B : Nat → Nat → Bool) (hn : n ≤ 100000) (hp : FlatOk p n) (hP : PartRow w ao n p C) (hA : Arnd w ga n A B) (hgl : ga < w.heap.size) :
    Calls Try.prog 28 #[.slice ao n pc, .slice (some ⟨ga, 0, none⟩) n ac] w fun e w' => e = .returned (firstV (scan p A 0 n)) ∧ Fr NoB w w' := by
  have Hp : Hid (FlatOk p n) := hp
  have HP : Hid (PartRow w ao n p C) := hP
  have HA : Hid (Arnd w ga n A B) := hA
  clear hp hP hA
  generalize hR : scan p A 0 n = R
  have HR : Hid (scanM p A n 0 = R) := hR
  clear hR
  go_enter Try.func28, Try.ntmps28
  go_wp2
  go_loopw [6] (fun t wr => ∃ i : Nat, i ≤ n ∧ t = .int .i64 i ∧ R = scanM p A (n - i) i ∧ Fr NoB w wr) (fun t _ => n - (intOf t).toNat)
  case atStart => exact ⟨0, Nat.zero_le _, rfl, HR.out.symm, Fr.refl _ _⟩
  case round =>
    obtain ⟨i, hi, rfl, hR, hF⟩ := hrel
    by_cases hlt : i < n
    · have hR2 := hR.trans (scanM_next p A (n := n - i) (k := i) (by omega))
      rw [show n - i - 1 = n - (i + 1) by omega] at hR2
      obtain ⟨g, rfl⟩ := HP.out.some_ (by omega)
      have hP2 := HP.out.no hF
      have d0 : wr.cell? ⟨g, i * 12, none⟩ = _ := hP2.c g i 0 _ hlt rfl rfl
      have d1 := hP2.c g i 1 _ hlt rfl rfl
      have d2 := hP2.c g i 2 _ hlt rfl rfl
      have d3 := hP2.c g i 3 _ hlt rfl rfl
      have d4 := hP2.c g i 4 _ hlt rfl rfl
      have d5 := hP2.c g i 5 _ hlt rfl rfl
      have d6 := hP2.c g i 6 _ hlt rfl rfl
      have d7 := hP2.c g i 7 _ hlt rfl rfl
      have d8 := hP2.c g i 8 _ hlt rfl rfl
      have d9 := hP2.c g i 9 _ hlt rfl rfl
      have d10 := hP2.c g i 10 _ hlt rfl rfl
      have d11 := hP2.c g i 11 _ hlt rfl rfl
      have e1 := (HA.out.no hF hgl).a i hlt
      have hok := Hp.out.ok i hlt
      have hbx := useBx_lt hok
      have hpl := hok.p
      have HF : Hid (Fr NoB w wr) := hF
      have HRR : Hid _ := hR2
      clear hP2 hF hR hR2 hok HP HR
      generalize p i = t at *
      obtain ⟨kind, place, num, box, src, o1, sign, o2, opn⟩ := t
      simp only [] at d0 d1 d2 d3 d4 d5 d6 d7 d8 d9 d10 d11 hpl
      generalize C i = clo at *
      generalize odB o1 = b1 at *
      generalize odI o1 = x1 at *
      generalize odB o2 = b2 at *
      generalize odI o2 = x2 at *
      have hU := usedPt_fn wr kind place num box src x1 sign x2 opn clo b1 b2 o1 o2 hpl
      generalize ht : (⟨kind, place, num, box, src, o1, sign, o2, opn⟩ : Pt) = t at *
      cases hu : useB t
      · have HU : Hid _ := hU.2 hu
        have HN : Hid (R = scanM p A (n - (i + 1)) (i + 1)) := by show R = _; rw [HRR.out, hu]; rfl
        clear hU hu ht HRR
        go_wp2_with (go_at_call 38; refine Calls.mono HU.out ?_; rintro e w1 ⟨rfl, hF1⟩)
        go_roundw
        case rel => exact ⟨i + 1, by omega, by go_num, HN.out, HF.out.trans hF1⟩
        case measure => simp [intOf]; omega
      · have HU : Hid _ := hU.1 hu
        have HH : Hid _ := fun X => has_fn X (A i) (useBx t) hbx
        cases ha : A i (useBx t)
        · have HN : Hid (R = (usePl t : Int)) := by show R = _; rw [HRR.out, hu, ha]; rfl
          rw [ha] at HH
          generalize useBx t = bx at *
          generalize usePl t = pl at *
          clear hU hu ht ha HRR
          go_wp2_with (first | (go_at_call 38; refine Calls.mono HU.out ?_; rintro e w1 ⟨rfl, hF1⟩; have e2 := hF1.cell_some e1 id) | (go_at_call 39; refine (HH.out _).mono ?_; rintro e w2 ⟨rfl, hw⟩; have hw2 := hw.symm; clear hw; subst hw2))
          go_ret2
          rw [HN.out, firstV_pos (by omega)]
          exact ⟨rfl, HF.out.trans hF1⟩
        · have HN : Hid (R = scanM p A (n - (i + 1)) (i + 1)) := by show R = _; rw [HRR.out, hu, ha]; rfl
          rw [ha] at HH
          generalize useBx t = bx at *
          generalize usePl t = pl at *
          clear hU hu ht ha HRR
          go_wp2_with (first | (go_at_call 38; refine Calls.mono HU.out ?_; rintro e w1 ⟨rfl, hF1⟩; have e2 := hF1.cell_some e1 id) | (go_at_call 39; refine (HH.out _).mono ?_; rintro e w2 ⟨rfl, hw⟩; have hw2 := hw.symm; clear hw; subst hw2))
          go_roundw
          case rel => exact ⟨i + 1, by omega, by go_num, HN.out, HF.out.trans hF1⟩
          case measure => simp [intOf]; omega
    · have hie : i = n := by omega
      subst hie
      have HE : Hid (R = -1) := by show R = -1; rw [hR, Nat.sub_self]; rfl
      have HF : Hid (Fr NoB w wr) := hF
      clear hR hF
      go_wp2
      go_ret2
      rw [HE.out, firstV_neg (by omega)]
      exact ⟨rfl, HF.out⟩
end Go.Proofs.Ytcmnejcojphijaa
