/-
  The program's full: the first box that is used and not full.
-/
import Derived.Test.YtdpkcniiljpdbaaDevD
namespace Go.Proofs.Ytdpkcniiljpdbaa
open Go.RowKit
set_option linter.unusedVariables false

set_option maxHeartbeats 1000000 in
theorem used_1 (w : World) (place box src opn : Nat) (hp : place ≤ 100000) :
    Calls Try.prog 38 #[.agg #[.int .i64 1, .int .i64 (place : Int), .int .i64 (box : Int), .int .i64 (src : Int), .int .i64 (opn : Int)]] w fun e w' => e = .returned (.tuple #[.int .i64 (box : Int), .int .i64 ((place : Int) + 2), .bool true]) ∧ Fr NoB w w' := by
  go_enter Try.func38, Try.ntmps38
  go_upto_region 3 with fail
  go_quiet (fail)
  go_wp2
  go_ret3
  exact ⟨rfl, by repeat (first | exact Fr.refl _ _ | refine Fr.drewN ?_ _ | refine Fr.drew ?_ | refine Fr.alloc ?_ _)⟩
set_option maxHeartbeats 1000000 in
theorem used_2 (w : World) (place box src opn : Nat) (hp : place ≤ 100000) :
    Calls Try.prog 38 #[.agg #[.int .i64 2, .int .i64 (place : Int), .int .i64 (box : Int), .int .i64 (src : Int), .int .i64 (opn : Int)]] w fun e w' => e = .returned (.tuple #[.int .i64 (box : Int), .int .i64 ((place : Int) + 3), .bool true]) ∧ Fr NoB w w' := by
  go_enter Try.func38, Try.ntmps38
  go_upto_region 5 with fail
  go_quiet (fail)
  go_wp2
  go_ret3
  exact ⟨rfl, by repeat (first | exact Fr.refl _ _ | refine Fr.drewN ?_ _ | refine Fr.drew ?_ | refine Fr.alloc ?_ _)⟩
set_option maxHeartbeats 1000000 in
theorem used_5 (w : World) (place box src opn : Nat) (hp : place ≤ 100000) :
    Calls Try.prog 38 #[.agg #[.int .i64 5, .int .i64 (place : Int), .int .i64 (box : Int), .int .i64 (src : Int), .int .i64 (opn : Int)]] w fun e w' => e = .returned (.tuple #[.int .i64 (box : Int), .int .i64 ((place : Int)), .bool true]) ∧ Fr NoB w w' := by
  go_enter Try.func38, Try.ntmps38
  go_upto_region 7 with fail
  go_quiet (fail)
  go_wp2
  go_ret3
  exact ⟨rfl, by repeat (first | exact Fr.refl _ _ | refine Fr.drewN ?_ _ | refine Fr.drew ?_ | refine Fr.alloc ?_ _)⟩
set_option maxHeartbeats 1000000 in
theorem used_6 (w : World) (place box src opn : Nat) (hp : place ≤ 100000) :
    Calls Try.prog 38 #[.agg #[.int .i64 6, .int .i64 (place : Int), .int .i64 (box : Int), .int .i64 (src : Int), .int .i64 (opn : Int)]] w fun e w' => e = .returned (.tuple #[.int .i64 (box : Int), .int .i64 ((place : Int) + 1), .bool true]) ∧ Fr NoB w w' := by
  go_enter Try.func38, Try.ntmps38
  go_upto_region 9 with fail
  go_quiet (fail)
  go_wp2
  go_ret3
  exact ⟨rfl, by repeat (first | exact Fr.refl _ _ | refine Fr.drewN ?_ _ | refine Fr.drew ?_ | refine Fr.alloc ?_ _)⟩
set_option maxHeartbeats 1000000 in
theorem used_4 (w : World) (place box src opn : Nat) (hp : place ≤ 100000) :
    Calls Try.prog 38 #[.agg #[.int .i64 4, .int .i64 (place : Int), .int .i64 (box : Int), .int .i64 (src : Int), .int .i64 (opn : Int)]] w fun e w' => e = .returned (.tuple #[.int .i64 (src : Int), .int .i64 ((place : Int) + 2), .bool true]) ∧ Fr NoB w w' := by
  go_enter Try.func38, Try.ntmps38
  go_upto_region 11 with fail
  go_quiet (fail)
  go_wp2
  go_ret3
  exact ⟨rfl, by repeat (first | exact Fr.refl _ _ | refine Fr.drewN ?_ _ | refine Fr.drew ?_ | refine Fr.alloc ?_ _)⟩
set_option maxHeartbeats 1000000 in
theorem used_0 (w : World) (kind place box src opn : Nat) (b1 : ((kind : Int) == 1) = false) (b2 : ((kind : Int) == 2) = false) (b5 : ((kind : Int) == 5) = false) (b6 : ((kind : Int) == 6) = false) (b4 : ((kind : Int) == 4) = false) :
    Calls Try.prog 38 #[.agg #[.int .i64 (kind : Int), .int .i64 (place : Int), .int .i64 (box : Int), .int .i64 (src : Int), .int .i64 (opn : Int)]] w fun e w' => e = .returned (.tuple #[.int .i64 0, .int .i64 0, .bool false]) ∧ Fr NoB w w' := by
  go_enter Try.func38, Try.ntmps38
  go_wp2
  go_ret3
  exact ⟨rfl, (Fr.refl _ _).alloc _⟩

theorem usedPt_fn (w : World) (kind place box src opn : Nat) (hp : place ≤ 100000) :
    (useB ⟨kind, place, box, src, opn⟩ = true → Calls Try.prog 38 #[.agg #[.int .i64 (kind : Int), .int .i64 (place : Int), .int .i64 (box : Int), .int .i64 (src : Int), .int .i64 (opn : Int)]] w fun e w' => e = .returned (.tuple #[.int .i64 (useBx ⟨kind, place, box, src, opn⟩ : Int), .int .i64 (usePl ⟨kind, place, box, src, opn⟩ : Int), .bool true]) ∧ Fr NoB w w') ∧
    (useB ⟨kind, place, box, src, opn⟩ = false → Calls Try.prog 38 #[.agg #[.int .i64 (kind : Int), .int .i64 (place : Int), .int .i64 (box : Int), .int .i64 (src : Int), .int .i64 (opn : Int)]] w fun e w' => e = .returned (.tuple #[.int .i64 0, .int .i64 0, .bool false]) ∧ Fr NoB w w') := by
  constructor
  · intro h
    have hk : kind = 1 ∨ kind = 2 ∨ kind = 5 ∨ kind = 6 ∨ kind = 4 := by
      unfold useB at h; simp at h; omega
    rcases hk with rfl | rfl | rfl | rfl | rfl
    · exact used_1 w place box src opn hp
    · exact used_2 w place box src opn hp
    · exact used_5 w place box src opn hp
    · exact used_6 w place box src opn hp
    · exact used_4 w place box src opn hp
  · intro h
    unfold useB at h
    simp at h
    exact used_0 w kind place box src opn (beq_eq_false_iff_ne.2 (by omega)) (beq_eq_false_iff_ne.2 (by omega)) (beq_eq_false_iff_ne.2 (by omega)) (beq_eq_false_iff_ne.2 (by omega)) (beq_eq_false_iff_ne.2 (by omega))

theorem useBx_lt {t : Pt} (h : PtOk t) : useBx t < 26 := by
  unfold useBx
  split
  · exact h.s
  · exact h.b

theorem scanM_next (p : Nat → Pt) (A : Nat → Nat → Bool) {n k : Nat} (h : 0 < n) : scanM p A n k = if useB (p k) = true ∧ A k (useBx (p k)) = false then (usePl (p k) : Int) else scanM p A (n - 1) (k + 1) := by
  obtain ⟨m, rfl⟩ : ∃ m, n = m + 1 := ⟨n - 1, by omega⟩
  rfl

/-- what FirstEmpty answers -/
def firstV (R : Int) : Value := if 0 ≤ R then .tuple #[.int .i64 R, .bool true] else .tuple #[.int .i64 0, .bool false]
theorem firstV_pos {R : Int} (h : 0 ≤ R) : firstV R = .tuple #[.int .i64 R, .bool true] := if_pos h
theorem firstV_neg {R : Int} (h : ¬ 0 ≤ R) : firstV R = .tuple #[.int .i64 0, .bool false] := if_neg h
set_option maxRecDepth 8000 in
set_option maxHeartbeats 4000000 in
theorem first_fn (w : World) (n pc ga ac : Nat) (ao : Option Addr) (p : Nat → Pt) (A B : Nat → Nat → Bool) (hn : n ≤ 100000) (hp : FlatOk p n) (hP : PartRow w ao n p) (hA : Arnd w ga n A B) (hgl : ga < w.heap.size) :
    Calls Try.prog 28 #[.slice ao n pc, .slice (some ⟨ga, 0, none⟩) n ac] w fun e w' => e = .returned (firstV (scan p A 0 n)) ∧ Fr NoB w w' := by
  have Hp : Hid (FlatOk p n) := hp
  have HP : Hid (PartRow w ao n p) := hP
  have HA : Hid (Arnd w ga n A B) := hA
  clear hp hP hA
  generalize hR : scan p A 0 n = R
  have HR : Hid (scanM p A n 0 = R) := hR
  clear hR
  go_enter Try.func28, Try.ntmps28
  go_wp2
  go_loopw [6] (fun t wr => ∃ i : Nat, i ≤ n ∧ t = .int .i64 i ∧ R = scanM p A (n - i) i ∧ Fr NoB w wr) (fun t _ => n - (intOf t).toNat)
  case atStart => exact ⟨0, Nat.zero_le _, rfl, HR.out.symm, Fr.refl _ _⟩
  case round =>
    obtain ⟨i, hi, rfl, hR, hF⟩ := hrel
    by_cases hlt : i < n
    · have hR2 := hR.trans (scanM_next p A (n := n - i) (k := i) (by omega))
      rw [show n - i - 1 = n - (i + 1) by omega] at hR2
      obtain ⟨g, rfl⟩ := HP.out.some_ (by omega)
      have hP2 := HP.out.no hF
      have d0 := hP2.c0 g i hlt rfl
      have d1 := hP2.c1 g i hlt rfl
      have d2 := hP2.c2 g i hlt rfl
      have d3 := hP2.c3 g i hlt rfl
      have d4 := hP2.c4 g i hlt rfl
      have e1 := (HA.out.no hF hgl).a i hlt
      have hok := Hp.out.ok i hlt
      have hbx := useBx_lt hok
      have hpl := hok.p
      have HF : Hid (Fr NoB w wr) := hF
      have HRR : Hid _ := hR2
      clear hP2 hF hR hR2 hok HP HR
      generalize p i = t at *
      obtain ⟨kind, place, box, src, opn⟩ := t
      simp only [] at d0 d1 d2 d3 d4 hpl
      have hU := usedPt_fn wr kind place box src opn hpl
      generalize ht : (⟨kind, place, box, src, opn⟩ : Pt) = t at *
      cases hu : useB t
      · have HU : Hid _ := hU.2 hu
        have HN : Hid (R = scanM p A (n - (i + 1)) (i + 1)) := by show R = _; rw [HRR.out, hu]; rfl
        clear hU hu ht HRR
        go_wp2_with (go_at_call 38; refine Calls.mono HU.out ?_; rintro e w1 ⟨rfl, hF1⟩)
        go_roundw
        case rel => exact ⟨i + 1, by omega, by go_num, HN.out, HF.out.trans hF1⟩
        case measure => simp [intOf]; omega
      · have HU : Hid _ := hU.1 hu
        have HH : Hid _ := fun X => has_fn X (A i) (useBx t) hbx
        cases ha : A i (useBx t)
        · have HN : Hid (R = (usePl t : Int)) := by show R = _; rw [HRR.out, hu, ha]; rfl
          rw [ha] at HH
          generalize useBx t = bx at *
          generalize usePl t = pl at *
          clear hU hu ht ha HRR
          go_wp2_with (first | (go_at_call 38; refine Calls.mono HU.out ?_; rintro e w1 ⟨rfl, hF1⟩; have e2 := hF1.cell_some e1 id) | (go_at_call 39; refine (HH.out _).mono ?_; rintro e w2 ⟨rfl, hw⟩; have hw2 := hw.symm; clear hw; subst hw2))
          go_ret2
          rw [HN.out, firstV_pos (by omega)]
          exact ⟨rfl, HF.out.trans hF1⟩
        · have HN : Hid (R = scanM p A (n - (i + 1)) (i + 1)) := by show R = _; rw [HRR.out, hu, ha]; rfl
          rw [ha] at HH
          generalize useBx t = bx at *
          generalize usePl t = pl at *
          clear hU hu ht ha HRR
          go_wp2_with (first | (go_at_call 38; refine Calls.mono HU.out ?_; rintro e w1 ⟨rfl, hF1⟩; have e2 := hF1.cell_some e1 id) | (go_at_call 39; refine (HH.out _).mono ?_; rintro e w2 ⟨rfl, hw⟩; have hw2 := hw.symm; clear hw; subst hw2))
          go_roundw
          case rel => exact ⟨i + 1, by omega, by go_num, HN.out, HF.out.trans hF1⟩
          case measure => simp [intOf]; omega
    · have hie : i = n := by omega
      subst hie
      have HE : Hid (R = -1) := by show R = -1; rw [hR, Nat.sub_self]; rfl
      have HF : Hid (Fr NoB w wr) := hF
      clear hR hF
      go_wp2
      go_ret2
      rw [HE.out, firstV_neg (by omega)]
      exact ⟨rfl, HF.out⟩
end Go.Proofs.Ytdpkcniiljpdbaa
