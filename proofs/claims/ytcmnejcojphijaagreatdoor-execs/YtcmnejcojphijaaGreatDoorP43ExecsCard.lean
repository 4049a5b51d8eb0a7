/-
  DevZF, ExeL, ExecsCard: one behind the other.
-/
import Derived.Test.YtcmnejcojphijaaGreatDoorP39DevZA
import Derived.Test.YtcmnejcojphijaaGreatDoorP40DevZB
import Derived.Test.YtcmnejcojphijaaGreatDoorP42DevZE
import Derived.Test.YtcmnejcojphijaaGreatDoorP38MchY
import Derived.Test.YtcmnejcojphijaaGreatDoorP30DevZG
import Derived.Test.YtcmnejcojphijaaGreatDoorRows
import Derived.Test.YtcmnejcojphijaaGreatDoorTie
import Derived.Test.YtcmnejcojphijaaGreatDoorCards
import Derived.LaidMore
import Derived.SevenTiedAt
import Derived.Stop.Joined
import Derived.LaidLaws
import Derived.LaidSub
import Derived.MakeChecks
import Derived.Lib.LaidTab
import Derived.Lib.AppendIntMem
import Derived.ProofKit
import Derived.OpenShut
import Derived.ChangeOld
import Derived.SizedLaws
import Derived.ChangeMaps5
import Derived.Deep.Slices
namespace Go.Proofs.YtcmnejcojphijaaGreatDoor
open Go.RowKit
set_option linter.unusedVariables false

set_option maxHeartbeats 2000000 in
theorem part_small (w : World) (kp base : Nat) (s : ByteArray) (r : Rs) (pv ov : Value) (h : RdP w kp base s r pv ov (cloL r.P)) (hz : Zb s r.z) (hb : base ≤ w.heap.size) (hJ : RJ s r) (hlt : r.z.1 < s.size) (c1 : smallN (pk s r.z) = true) :
    Calls Tryz.prog 32 #[.pointer (some ⟨kp, 0, none⟩)] w fun x w' => PartSays kp base s (rPart s r) w x w' := by
  have hC := rj_zero hJ
  have hl : r.P.length ≤ 90001 := by have := hJ.pl; have := hz.n; omega
  have hlo : r.O.length ≤ 90001 := by have := hJ.o9; omega
  have hE : rPart s r = rNumber s r := by unfold rPart; rw [if_pos c1]
  rw [hE]
  have HPk : Hid (Calls Tryz.prog 64 #[.pointer (some ⟨kp, 0, none⟩)] w fun e w' => e = .returned (.int .u8 (pk s r.z : Int)) ∧ Fr NoB w w') := by
    have := peek_fn w kp s r.z pv ov h.rd hz
    exact this
  have HC : Hid (∀ X : World, Fr NoB w X → Calls Tryz.prog 66 #[.pointer (some ⟨kp, 0, none⟩), .int .u8 (pk s r.z : Int)] X fun x w' => PartSays kp base s (rNumber s r) X x w') := fun X hX => toNumber_fn X kp base s r pv ov (h.no hX) hC hz (Nat.le_trans hb hX.size) hl hlt c1
  have HN : Hid _ := fun X => isNumber_fn X (pk s r.z)
  rw [c1] at HN
  clear hE hJ
  go_enter Tryz.func32, Tryz.ntmps32
  go_wp2_with (first | (go_at_call 64; refine HPk.out.mono ?_; rintro x w1 ⟨rfl, hF1⟩) | (go_at_call 65; refine (HN.out _).mono ?_; rintro x wn ⟨rfl, hw⟩; have hw2 := hw.symm; clear hw; subst hw2) | (go_at_call 66; refine (HC.out _ hF1).mono ?_; rintro x w2 ⟨rfl, ⟨pv2, ov2, hRP⟩, hF2⟩))
  go_end0
  exact ⟨rfl, ⟨pv2, ov2, hRP⟩, hF1.of_no.trans hF2⟩
set_option maxHeartbeats 2000000 in
theorem part_great (w : World) (kp base : Nat) (s : ByteArray) (r : Rs) (pv ov : Value) (h : RdP w kp base s r pv ov (cloL r.P)) (hz : Zb s r.z) (hb : base ≤ w.heap.size) (hJ : RJ s r) (hlt : r.z.1 < s.size) (c1 : smallN (pk s r.z) = false) (c2 : greatN (pk s r.z) = true) :
    Calls Tryz.prog 32 #[.pointer (some ⟨kp, 0, none⟩)] w fun x w' => PartSays kp base s (rPart s r) w x w' := by
  have hC := rj_zero hJ
  have hl : r.P.length ≤ 90001 := by have := hJ.pl; have := hz.n; omega
  have hlo : r.O.length ≤ 90001 := by have := hJ.o9; omega
  have hE : rPart s r = rBox s r := by unfold rPart; rw [if_neg (by rw [c1]; simp), if_pos c2]
  rw [hE]
  have HPk : Hid (Calls Tryz.prog 64 #[.pointer (some ⟨kp, 0, none⟩)] w fun e w' => e = .returned (.int .u8 (pk s r.z : Int)) ∧ Fr NoB w w') := by
    have := peek_fn w kp s r.z pv ov h.rd hz
    exact this
  have HC : Hid (∀ X : World, Fr NoB w X → Calls Tryz.prog 68 #[.pointer (some ⟨kp, 0, none⟩)] X fun x w' => PartSays kp base s (rBox s r) X x w') := fun X hX => toBox_fn X kp base s r pv ov (h.no hX) hC hz (Nat.le_trans hb hX.size) hl
  have HN : Hid _ := fun X => isNumber_fn X (pk s r.z)
  rw [c1] at HN
  have HB : Hid _ := fun X => isBox_fn X (pk s r.z)
  rw [c2] at HB
  clear hE hJ
  go_enter Tryz.func32, Tryz.ntmps32
  go_wp2_with (first | (go_at_call 64; refine HPk.out.mono ?_; rintro x w1 ⟨rfl, hF1⟩) | (go_at_call 65; refine (HN.out _).mono ?_; rintro x wn ⟨rfl, hw⟩; have hw2 := hw.symm; clear hw; subst hw2) | (go_at_call 67; refine (HB.out _).mono ?_; rintro x wb ⟨rfl, hw⟩; have hw2 := hw.symm; clear hw; subst hw2) | (go_at_call 68; refine (HC.out _ hF1).mono ?_; rintro x w2 ⟨rfl, ⟨pv2, ov2, hRP⟩, hF2⟩))
  go_end0
  exact ⟨rfl, ⟨pv2, ov2, hRP⟩, hF1.of_no.trans hF2⟩
set_option maxHeartbeats 2000000 in
theorem part_end (w : World) (kp base : Nat) (s : ByteArray) (r : Rs) (pv ov : Value) (h : RdP w kp base s r pv ov (cloL r.P)) (hz : Zb s r.z) (hb : base ≤ w.heap.size) (hJ : RJ s r) (hlt : r.z.1 < s.size) (c1 : pk s r.z = 126) :
    Calls Tryz.prog 32 #[.pointer (some ⟨kp, 0, none⟩)] w fun x w' => PartSays kp base s (rPart s r) w x w' := by
  have hC := rj_zero hJ
  have hl : r.P.length ≤ 90001 := by have := hJ.pl; have := hz.n; omega
  have hlo : r.O.length ≤ 90001 := by have := hJ.o9; omega
  have hE : rPart s r = rEnd s r := by unfold rPart; rw [c1]; rw [if_neg (by decide), if_neg (by decide), if_pos rfl]
  rw [hE]
  have HPk : Hid (Calls Tryz.prog 64 #[.pointer (some ⟨kp, 0, none⟩)] w fun e w' => e = .returned (.int .u8 ((126 : Nat) : Int)) ∧ Fr NoB w w') := by
    have := peek_fn w kp s r.z pv ov h.rd hz
    rwa [c1] at this
  have HC : Hid (∀ X : World, Fr NoB w X → Calls Tryz.prog 69 #[.pointer (some ⟨kp, 0, none⟩)] X fun x w' => PartSays kp base s (rEnd s r) X x w') := fun X hX => ending_fn X kp base s r pv ov (h.no hX) hC hz (Nat.le_trans hb hX.size) hl
  have HN : Hid (∀ X : World, Calls Tryz.prog 65 #[.int .u8 ((126 : Nat) : Int)] X fun e w' => e = .returned (.bool false) ∧ w' = X) := fun X => isNumber_fn X 126
  have HB : Hid (∀ X : World, Calls Tryz.prog 67 #[.int .u8 ((126 : Nat) : Int)] X fun e w' => e = .returned (.bool false) ∧ w' = X) := fun X => isBox_fn X 126
  clear hE hJ
  go_enter Tryz.func32, Tryz.ntmps32
  go_wp2_with (first | (go_at_call 64; refine HPk.out.mono ?_; rintro x w1 ⟨rfl, hF1⟩) | (go_at_call 65; refine (HN.out _).mono ?_; rintro x wn ⟨rfl, hw⟩; have hw2 := hw.symm; clear hw; subst hw2) | (go_at_call 67; refine (HB.out _).mono ?_; rintro x wb ⟨rfl, hw⟩; have hw2 := hw.symm; clear hw; subst hw2) | (go_at_call 69; refine (HC.out _ hF1).mono ?_; rintro x w2 ⟨rfl, ⟨pv2, ov2, hRP⟩, hF2⟩))
  go_end0
  exact ⟨rfl, ⟨pv2, ov2, hRP⟩, hF1.of_no.trans hF2⟩
set_option maxHeartbeats 2000000 in
theorem part_print (w : World) (kp base : Nat) (s : ByteArray) (r : Rs) (pv ov : Value) (h : RdP w kp base s r pv ov (cloL r.P)) (hz : Zb s r.z) (hb : base ≤ w.heap.size) (hJ : RJ s r) (hlt : r.z.1 < s.size) (c1 : pk s r.z = 33) :
    Calls Tryz.prog 32 #[.pointer (some ⟨kp, 0, none⟩)] w fun x w' => PartSays kp base s (rPart s r) w x w' := by
  have hC := rj_zero hJ
  have hl : r.P.length ≤ 90001 := by have := hJ.pl; have := hz.n; omega
  have hlo : r.O.length ≤ 90001 := by have := hJ.o9; omega
  have hE : rPart s r = rPrint s r := by unfold rPart; rw [c1]; rw [if_neg (by decide), if_neg (by decide), if_neg (by decide), if_pos rfl]
  rw [hE]
  have HPk : Hid (Calls Tryz.prog 64 #[.pointer (some ⟨kp, 0, none⟩)] w fun e w' => e = .returned (.int .u8 ((33 : Nat) : Int)) ∧ Fr NoB w w') := by
    have := peek_fn w kp s r.z pv ov h.rd hz
    rwa [c1] at this
  have HC : Hid (∀ X : World, Fr NoB w X → Calls Tryz.prog 70 #[.pointer (some ⟨kp, 0, none⟩)] X fun x w' => PartSays kp base s (rPrint s r) X x w') := fun X hX => printing_fn X kp base s r pv ov (h.no hX) hC hz (Nat.le_trans hb hX.size) hl
  have HN : Hid (∀ X : World, Calls Tryz.prog 65 #[.int .u8 ((33 : Nat) : Int)] X fun e w' => e = .returned (.bool false) ∧ w' = X) := fun X => isNumber_fn X 33
  have HB : Hid (∀ X : World, Calls Tryz.prog 67 #[.int .u8 ((33 : Nat) : Int)] X fun e w' => e = .returned (.bool false) ∧ w' = X) := fun X => isBox_fn X 33
  clear hE hJ
  go_enter Tryz.func32, Tryz.ntmps32
  go_wp2_with (first | (go_at_call 64; refine HPk.out.mono ?_; rintro x w1 ⟨rfl, hF1⟩) | (go_at_call 65; refine (HN.out _).mono ?_; rintro x wn ⟨rfl, hw⟩; have hw2 := hw.symm; clear hw; subst hw2) | (go_at_call 67; refine (HB.out _).mono ?_; rintro x wb ⟨rfl, hw⟩; have hw2 := hw.symm; clear hw; subst hw2) | (go_at_call 70; refine (HC.out _ hF1).mono ?_; rintro x w2 ⟨rfl, ⟨pv2, ov2, hRP⟩, hF2⟩))
  go_end0
  exact ⟨rfl, ⟨pv2, ov2, hRP⟩, hF1.of_no.trans hF2⟩
set_option maxHeartbeats 2000000 in
theorem part_if (w : World) (kp base : Nat) (s : ByteArray) (r : Rs) (pv ov : Value) (h : RdP w kp base s r pv ov (cloL r.P)) (hz : Zb s r.z) (hb : base ≤ w.heap.size) (hJ : RJ s r) (hlt : r.z.1 < s.size) (c1 : pk s r.z = 63) :
    Calls Tryz.prog 32 #[.pointer (some ⟨kp, 0, none⟩)] w fun x w' => PartSays kp base s (rPart s r) w x w' := by
  have hC := rj_zero hJ
  have hl : r.P.length ≤ 90001 := by have := hJ.pl; have := hz.n; omega
  have hlo : r.O.length ≤ 90001 := by have := hJ.o9; omega
  have hE : rPart s r = rOpen s 63 8 r := by unfold rPart; rw [c1]; rw [if_neg (by decide), if_neg (by decide), if_neg (by decide), if_neg (by decide), if_pos rfl]
  rw [hE]
  have HPk : Hid (Calls Tryz.prog 64 #[.pointer (some ⟨kp, 0, none⟩)] w fun e w' => e = .returned (.int .u8 ((63 : Nat) : Int)) ∧ Fr NoB w w') := by
    have := peek_fn w kp s r.z pv ov h.rd hz
    rwa [c1] at this
  have HC : Hid (∀ X : World, Fr NoB w X → Calls Tryz.prog 71 #[.pointer (some ⟨kp, 0, none⟩), .int .u8 ((63 : Nat) : Int), .int .i64 ((8 : Nat) : Int)] X fun x w' => PartSays kp base s (rOpen s 63 8 r) X x w') := fun X hX => opening_fn X kp base s r pv ov (h.no hX) hC hz (Nat.le_trans hb hX.size) hl hlo 63 8 (by decide) rfl
  have HN : Hid (∀ X : World, Calls Tryz.prog 65 #[.int .u8 ((63 : Nat) : Int)] X fun e w' => e = .returned (.bool false) ∧ w' = X) := fun X => isNumber_fn X 63
  have HB : Hid (∀ X : World, Calls Tryz.prog 67 #[.int .u8 ((63 : Nat) : Int)] X fun e w' => e = .returned (.bool false) ∧ w' = X) := fun X => isBox_fn X 63
  clear hE hJ
  go_enter Tryz.func32, Tryz.ntmps32
  go_wp2_with (first | (go_at_call 64; refine HPk.out.mono ?_; rintro x w1 ⟨rfl, hF1⟩) | (go_at_call 65; refine (HN.out _).mono ?_; rintro x wn ⟨rfl, hw⟩; have hw2 := hw.symm; clear hw; subst hw2) | (go_at_call 67; refine (HB.out _).mono ?_; rintro x wb ⟨rfl, hw⟩; have hw2 := hw.symm; clear hw; subst hw2) | (go_at_call 71; refine (HC.out _ hF1).mono ?_; rintro x w2 ⟨rfl, ⟨pv2, ov2, hRP⟩, hF2⟩))
  go_end0
  exact ⟨rfl, ⟨pv2, ov2, hRP⟩, hF1.of_no.trans hF2⟩
set_option maxHeartbeats 2000000 in
theorem part_loop (w : World) (kp base : Nat) (s : ByteArray) (r : Rs) (pv ov : Value) (h : RdP w kp base s r pv ov (cloL r.P)) (hz : Zb s r.z) (hb : base ≤ w.heap.size) (hJ : RJ s r) (hlt : r.z.1 < s.size) (c1 : pk s r.z = 64) :
    Calls Tryz.prog 32 #[.pointer (some ⟨kp, 0, none⟩)] w fun x w' => PartSays kp base s (rPart s r) w x w' := by
  have hC := rj_zero hJ
  have hl : r.P.length ≤ 90001 := by have := hJ.pl; have := hz.n; omega
  have hlo : r.O.length ≤ 90001 := by have := hJ.o9; omega
  have hE : rPart s r = rOpen s 64 11 r := by unfold rPart; rw [c1]; rw [if_neg (by decide), if_neg (by decide), if_neg (by decide), if_neg (by decide), if_neg (by decide), if_pos rfl]
  rw [hE]
  have HPk : Hid (Calls Tryz.prog 64 #[.pointer (some ⟨kp, 0, none⟩)] w fun e w' => e = .returned (.int .u8 ((64 : Nat) : Int)) ∧ Fr NoB w w') := by
    have := peek_fn w kp s r.z pv ov h.rd hz
    rwa [c1] at this
  have HC : Hid (∀ X : World, Fr NoB w X → Calls Tryz.prog 71 #[.pointer (some ⟨kp, 0, none⟩), .int .u8 ((64 : Nat) : Int), .int .i64 ((11 : Nat) : Int)] X fun x w' => PartSays kp base s (rOpen s 64 11 r) X x w') := fun X hX => opening_fn X kp base s r pv ov (h.no hX) hC hz (Nat.le_trans hb hX.size) hl hlo 64 11 (by decide) rfl
  have HN : Hid (∀ X : World, Calls Tryz.prog 65 #[.int .u8 ((64 : Nat) : Int)] X fun e w' => e = .returned (.bool false) ∧ w' = X) := fun X => isNumber_fn X 64
  have HB : Hid (∀ X : World, Calls Tryz.prog 67 #[.int .u8 ((64 : Nat) : Int)] X fun e w' => e = .returned (.bool false) ∧ w' = X) := fun X => isBox_fn X 64
  clear hE hJ
  go_enter Tryz.func32, Tryz.ntmps32
  go_wp2_with (first | (go_at_call 64; refine HPk.out.mono ?_; rintro x w1 ⟨rfl, hF1⟩) | (go_at_call 65; refine (HN.out _).mono ?_; rintro x wn ⟨rfl, hw⟩; have hw2 := hw.symm; clear hw; subst hw2) | (go_at_call 67; refine (HB.out _).mono ?_; rintro x wb ⟨rfl, hw⟩; have hw2 := hw.symm; clear hw; subst hw2) | (go_at_call 71; refine (HC.out _ hF1).mono ?_; rintro x w2 ⟨rfl, ⟨pv2, ov2, hRP⟩, hF2⟩))
  go_end0
  exact ⟨rfl, ⟨pv2, ov2, hRP⟩, hF1.of_no.trans hF2⟩
set_option maxHeartbeats 2000000 in
theorem part_close (w : World) (kp base : Nat) (s : ByteArray) (r : Rs) (pv ov : Value) (h : RdP w kp base s r pv ov (cloL r.P)) (hz : Zb s r.z) (hb : base ≤ w.heap.size) (hJ : RJ s r) (hlt : r.z.1 < s.size) (c1 : pk s r.z = 125) :
    Calls Tryz.prog 32 #[.pointer (some ⟨kp, 0, none⟩)] w fun x w' => PartSays kp base s (rPart s r) w x w' := by
  have hC := rj_zero hJ
  have hl : r.P.length ≤ 90001 := by have := hJ.pl; have := hz.n; omega
  have hlo : r.O.length ≤ 90001 := by have := hJ.o9; omega
  have hE : rPart s r = rClose s r := by unfold rPart; rw [c1]; rw [if_neg (by decide), if_neg (by decide), if_neg (by decide), if_neg (by decide), if_neg (by decide), if_neg (by decide), if_pos rfl]
  rw [hE]
  have HPk : Hid (Calls Tryz.prog 64 #[.pointer (some ⟨kp, 0, none⟩)] w fun e w' => e = .returned (.int .u8 ((125 : Nat) : Int)) ∧ Fr NoB w w') := by
    have := peek_fn w kp s r.z pv ov h.rd hz
    rwa [c1] at this
  have HC : Hid (∀ X : World, Fr NoB w X → Calls Tryz.prog 72 #[.pointer (some ⟨kp, 0, none⟩)] X fun x w' => PartSays kp base s (rClose s r) X x w') := fun X hX => closing_fn X kp base s r pv ov (h.no hX) hC hz (Nat.le_trans hb hX.size) hl hlo (fun o ho => (hJ.ho o ho).1)
  have HN : Hid (∀ X : World, Calls Tryz.prog 65 #[.int .u8 ((125 : Nat) : Int)] X fun e w' => e = .returned (.bool false) ∧ w' = X) := fun X => isNumber_fn X 125
  have HB : Hid (∀ X : World, Calls Tryz.prog 67 #[.int .u8 ((125 : Nat) : Int)] X fun e w' => e = .returned (.bool false) ∧ w' = X) := fun X => isBox_fn X 125
  clear hE hJ
  go_enter Tryz.func32, Tryz.ntmps32
  go_wp2_with (first | (go_at_call 64; refine HPk.out.mono ?_; rintro x w1 ⟨rfl, hF1⟩) | (go_at_call 65; refine (HN.out _).mono ?_; rintro x wn ⟨rfl, hw⟩; have hw2 := hw.symm; clear hw; subst hw2) | (go_at_call 67; refine (HB.out _).mono ?_; rintro x wb ⟨rfl, hw⟩; have hw2 := hw.symm; clear hw; subst hw2) | (go_at_call 72; refine (HC.out _ hF1).mono ?_; rintro x w2 ⟨rfl, ⟨pv2, ov2, hRP⟩, hF2⟩))
  go_end0
  exact ⟨rfl, ⟨pv2, ov2, hRP⟩, hF1.of_no.trans hF2⟩
set_option maxHeartbeats 2000000 in
theorem part_none (w : World) (kp base : Nat) (s : ByteArray) (r : Rs) (pv ov : Value) (h : RdP w kp base s r pv ov (cloL r.P)) (hz : Zb s r.z) (hb : base ≤ w.heap.size) (hJ : RJ s r) (hlt : r.z.1 < s.size) (c1 : smallN (pk s r.z) = false) (c2 : greatN (pk s r.z) = false) (c3 : pk s r.z ≠ 126) (c4 : pk s r.z ≠ 33) (c5 : pk s r.z ≠ 63) (c6 : pk s r.z ≠ 64) (c7 : pk s r.z ≠ 125) :
    Calls Tryz.prog 32 #[.pointer (some ⟨kp, 0, none⟩)] w fun x w' => PartSays kp base s (rPart s r) w x w' := by
  have hC := rj_zero hJ
  have hl : r.P.length ≤ 90001 := by have := hJ.pl; have := hz.n; omega
  have hlo : r.O.length ≤ 90001 := by have := hJ.o9; omega
  have hE : rPart s r = ⟨rf 2 r.z, r.P, r.O⟩ := by unfold rPart; rw [if_neg (by rw [c1]; simp), if_neg (by rw [c2]; simp), if_neg c3, if_neg c4, if_neg c5, if_neg c6, if_neg c7]
  rw [hE]
  have HPk : Hid (Calls Tryz.prog 64 #[.pointer (some ⟨kp, 0, none⟩)] w fun e w' => e = .returned (.int .u8 (pk s r.z : Int)) ∧ Fr NoB w w') := by
    have := peek_fn w kp s r.z pv ov h.rd hz
    exact this
  have HC : Hid (∀ X : World, Fr NoB w X → Calls Tryz.prog 33 #[.pointer (some ⟨kp, 0, none⟩), .int .i64 ((2 : Nat) : Int)] X fun x w' => x = .returned (.tuple #[]) ∧ Rd w' kp s (rf 2 r.z) pv ov ∧ Fr (OneB kp) X w') := fun X hX => refuse_fn X kp s r.z pv ov (h.no hX).rd 2
  have HN : Hid _ := fun X => isNumber_fn X (pk s r.z)
  rw [c1] at HN
  have HB : Hid _ := fun X => isBox_fn X (pk s r.z)
  rw [c2] at HB
  have b3 : ((pk s r.z : Int) == 126) = false := beq_eq_false_iff_ne.2 (by omega)
  have b4 : ((pk s r.z : Int) == 33) = false := beq_eq_false_iff_ne.2 (by omega)
  have b5 : ((pk s r.z : Int) == 63) = false := beq_eq_false_iff_ne.2 (by omega)
  have b6 : ((pk s r.z : Int) == 64) = false := beq_eq_false_iff_ne.2 (by omega)
  have b7 : ((pk s r.z : Int) == 125) = false := beq_eq_false_iff_ne.2 (by omega)
  have HR : Hid _ := h
  clear hE hJ
  go_enter Tryz.func32, Tryz.ntmps32
  go_wp2_with (first | (go_at_call 64; refine HPk.out.mono ?_; rintro x w1 ⟨rfl, hF1⟩) | (go_at_call 65; refine (HN.out _).mono ?_; rintro x wn ⟨rfl, hw⟩; have hw2 := hw.symm; clear hw; subst hw2) | (go_at_call 67; refine (HB.out _).mono ?_; rintro x wb ⟨rfl, hw⟩; have hw2 := hw.symm; clear hw; subst hw2) | (go_at_call 33; refine (HC.out _ hF1).mono ?_; rintro x w2 ⟨rfl, hR2, hF2⟩))
  go_end0
  exact ⟨rfl, ⟨pv, ov, (h.no hF1).step hF2 hR2⟩, hF1.of_no.trans (hF2.mono (fun k _ e => .inl e))⟩
theorem part_fn (w : World) (kp base : Nat) (s : ByteArray) (r : Rs) (pv ov : Value) (h : RdP w kp base s r pv ov (cloL r.P)) (hz : Zb s r.z) (hb : base ≤ w.heap.size) (hJ : RJ s r) (hlt : r.z.1 < s.size) :
    Calls Tryz.prog 32 #[.pointer (some ⟨kp, 0, none⟩)] w fun x w' => PartSays kp base s (rPart s r) w x w' := by
  cases c1 : smallN (pk s r.z)
  · cases c2 : greatN (pk s r.z)
    · by_cases c3 : pk s r.z = 126
      · exact part_end w kp base s r pv ov h hz hb hJ hlt c3
      · by_cases c4 : pk s r.z = 33
        · exact part_print w kp base s r pv ov h hz hb hJ hlt c4
        · by_cases c5 : pk s r.z = 63
          · exact part_if w kp base s r pv ov h hz hb hJ hlt c5
          · by_cases c6 : pk s r.z = 64
            · exact part_loop w kp base s r pv ov h hz hb hJ hlt c6
            · by_cases c7 : pk s r.z = 125
              · exact part_close w kp base s r pv ov h hz hb hJ hlt c7
              · exact part_none w kp base s r pv ov h hz hb hJ hlt c1 c2 c3 c4 c5 c6 c7
    · exact part_great w kp base s r pv ov h hz hb hJ hlt c1 c2
  · exact part_small w kp base s r pv ov h hz hb hJ hlt c1
end Go.Proofs.YtcmnejcojphijaaGreatDoor

namespace Go.Proofs.YtcmnejcojphijaaGreatDoor
open Go.RowKit
set_option linter.unusedVariables false
theorem partIsE (s : ByteArray) : PartIs s := fun w kp base r pv ov h hz hb hJ hlt => part_fn w kp base s r pv ov h hz hb hJ hlt
theorem told_big {s : ByteArray} (h9 : s.size ≤ 20000) (n : Nat) (h2 : (rIter s n r0).z.2 = 0) (hl : ¬ (rIter s n r0).z.1 < s.size) (hO : (rIter s n r0).O = []) : Told s (pOf (rIter s n r0).P) (cloL (rIter s n r0).P) (rIter s n r0).P.length := by
  have h9 : s.size ≤ 90000 := by omega
  have hseg := seg_told h9 n h2 hl hO
  have hJ := rj_iter h9 n (rj0 s)
  have hU := ru_iter h9 n ru0 (rj0 s)
  have hn : (rIter s n r0).P.length < 99999 := by have := hJ.pl; have h5 : (rIter s n r0).z.1 ≤ s.size := hJ.hin; omega
  refine ⟨prt_of_seg (fun q _ hq hc => clo_at _ _ rfl q hq hc (fun q' hq' hc' e => hU.uq q' q hq' hq hc' hc e)) hseg, hJ.fl, fun q hq hk => seg_fit hseg q (Nat.zero_le _) hq hk, fun i => ?_, hn⟩
  have := clo_le _ (rIter s n r0).P rfl i
  omega
/-- Read of a wrong text -/
theorem read_bad (w : World) (s : ByteArray) (hs : s.size ≤ 20000) (hc : (run s [(83, true)] 0 0).1 ≠ 0) :
    Calls Tryz.prog 16 #[.string s] w fun e w' => e = .returned (.tuple #[.slice none 0 0, .int .i64 ((run s [(83, true)] 0 0).1 : Int), .int .i64 ((run s [(83, true)] 0 0).2 : Int)]) ∧ Fr NoB w w' := by
  refine (read_fn w s (by omega) (partIsE s)).mono ?_
  rintro e w1 ⟨n, hst, hF1, hor⟩
  have hrun := run_told (by omega) n hst
  rcases hor with ⟨hne, rfl⟩ | ⟨ht, hz, hO, ao, cap, rfl, hrow, hgl⟩
  · rw [hrun]
    exact ⟨rfl, hF1⟩
  · rw [hrun, ht] at hc
    exact absurd rfl hc
/-- Read of a right text -/
theorem read_right (w : World) (s : ByteArray) (hs : s.size ≤ 20000) (hc : run s [(83, true)] 0 0 = (0, 0)) :
    Calls Tryz.prog 16 #[.string s] w fun e w' => ∃ ao np cap, e = .returned (.tuple #[.slice ao np cap, .int .i64 0, .int .i64 0]) ∧ Hid (Fr NoB w w' ∧ ∃ p C, Told s p C np ∧ PartRow w' ao np p C ∧ ∀ g, ao = some ⟨g, 0, none⟩ → g < w'.heap.size) := by
  refine (read_fn w s (by omega) (partIsE s)).mono ?_
  rintro e w1 ⟨n, hst, hF1, hor⟩
  have hrun := run_told (by omega) n hst
  rcases hor with ⟨hne, rfl⟩ | ⟨ht, hz, hO, ao, cap, rfl, hrow, hgl⟩
  · rw [← hrun, hc] at hne
    exact absurd rfl hne
  · have hl : ¬ (rIter s n r0).z.1 < s.size := by
      rcases hst with q | q
      · exact absurd hz q
      · exact q
    exact ⟨ao, _, cap, rfl, ⟨hF1, _, _, told_big hs n hz hl hO, hrow, hgl⟩⟩
set_option maxRecDepth 8000 in
set_option maxHeartbeats 1000000 in
theorem dexec_long (w : World) (s : ByteArray) (nw n : Int) (hs : 20000 < s.size) (hs2 : s.size ≤ 9223372036854775807) :
    Calls Tryz.prog 10 #[.string s, .int .i64 nw, .int .i64 n] w fun e w' => e = .returned (.tuple #[out0, .int .i64 1]) ∧ Fr NoB w w' := by
  have HO : Hid _ := OutAt.new w 26 (.int .i64 0) (.string ⟨#[]⟩) (.int .i64 0) (.int .i64 0)
  have HF0 : Hid (Fr NoB w (w.alloc (.cells #[.int .i64 0, .string ⟨#[]⟩, .int .i64 0, .int .i64 0] 26))) := (Fr.refl _ _).alloc _
  go_enter Tryz.func10, Tryz.ntmps10
  go_upto_region 1 with fail
  generalize (w.alloc _) = W0 at *
  obtain ⟨c0, c1, c2, c3, hf⟩ := HO.out
  have f0 := hf 0
  have f1 := hf 1
  have f2 := hf 2
  have f3 := hf 3
  clear hf
  go_wp2
  obtain ⟨k0, k1, k2, k3, kf⟩ := HO.out.put (u0 := .int .i64 0) (u1 := .string ⟨#[]⟩) (u2 := .int .i64 0) (u3 := .int .i64 0)
  exact bodyPost_ret (v := .tuple #[out0, .int .i64 1]) (by simp [results, Tryz.results10, go_sem, k0, k1, k2, k3, out0]) rfl ⟨rfl, HF0.out.put4 (fun q => absurd q (by omega)) _ _ _ _⟩
set_option maxRecDepth 8000 in
set_option maxHeartbeats 1000000 in
theorem dexec_bad (w : World) (s : ByteArray) (nw n : Int) (hs : s.size ≤ 20000) (hc : (run s [(83, true)] 0 0).1 ≠ 0) :
    Calls Tryz.prog 10 #[.string s, .int .i64 nw, .int .i64 n] w fun e w' => e = .returned (.tuple #[out0, .int .i64 ((run s [(83, true)] 0 0).1 : Int)]) ∧ Fr NoB w w' := by
  have HC : Hid _ := fun X => read_bad X s hs hc
  have b1 : (((run s [(83, true)] 0 0).1 : Int) != 0) = true := bne_iff_ne.2 (by omega)
  generalize (run s [(83, true)] 0 0).1 = k at *
  generalize (run s [(83, true)] 0 0).2 = p at *
  clear hc
  have HO : Hid _ := OutAt.new w 26 (.int .i64 0) (.string ⟨#[]⟩) (.int .i64 0) (.int .i64 0)
  have HF0 : Hid (Fr NoB w (w.alloc (.cells #[.int .i64 0, .string ⟨#[]⟩, .int .i64 0, .int .i64 0] 26))) := (Fr.refl _ _).alloc _
  go_enter Tryz.func10, Tryz.ntmps10
  go_upto_region 1 with fail
  generalize (w.alloc _) = W0 at *
  go_wp2_with (go_at_call 16; refine (HC.out _).mono ?_; rintro e w1 ⟨rfl, hF1⟩; have HO1 : Hid _ := HO.out.fr hF1 id; obtain ⟨c0, c1, c2, c3, hf⟩ := HO1.out; have f0 := hf 0; have f1 := hf 1; have f2 := hf 2; have f3 := hf 3; clear hf)
  obtain ⟨k0, k1, k2, k3, kf⟩ := HO1.out.put (u0 := .int .i64 0) (u1 := .string ⟨#[]⟩) (u2 := .int .i64 0) (u3 := .int .i64 0)
  exact bodyPost_ret (v := .tuple #[out0, .int .i64 (k : Int)]) (by simp [results, Tryz.results10, go_sem, k0, k1, k2, k3, out0]) rfl ⟨rfl, (HF0.out.trans hF1).put4 (fun q => absurd q (by omega)) _ _ _ _⟩
set_option maxRecDepth 8000 in
set_option maxHeartbeats 1000000 in
theorem dexec_any (w : World) (s : ByteArray) (nw n : Int) (v : Value) (ev : Int) (hs : s.size ≤ 20000) (hc : run s [(83, true)] 0 0 = (0, 0))
    (HP : ∀ (W : World) (ao : Option Addr) (np cap : Nat) (p : Nat → Pt) (C : Nat → Nat), Fr NoB w W → Told s p C np → PartRow W ao np p C → (∀ g, ao = some ⟨g, 0, none⟩ → g < W.heap.size) → Calls Tryz.prog 21 #[.slice ao np cap, .int .i64 nw, .int .i64 n] W fun e w' => e = .returned (.tuple #[v, .int .i64 ev]) ∧ Fr NoB W w')
    (hv : ∃ a b c d, v = .agg #[.int .i64 a, .string b, .int .i64 c, .int .i64 d]) :
    Calls Tryz.prog 10 #[.string s, .int .i64 nw, .int .i64 n] w fun e w' => e = .returned (.tuple #[v, .int .i64 ev]) ∧ Fr NoB w w' := by
  have HRd : Hid (∀ X, _) := fun X => read_right X s hs hc
  have HPl : Hid _ := HP
  have HO : Hid _ := OutAt.new w 26 (.int .i64 0) (.string ⟨#[]⟩) (.int .i64 0) (.int .i64 0)
  have HF0 : Hid (Fr NoB w (w.alloc (.cells #[.int .i64 0, .string ⟨#[]⟩, .int .i64 0, .int .i64 0] 26))) := (Fr.refl _ _).alloc _
  obtain ⟨a, b, c, d, rfl⟩ := hv
  clear hc HP
  go_enter Tryz.func10, Tryz.ntmps10
  go_upto_region 1 with fail
  generalize (w.alloc _) = W0 at *
  go_upto_region 6 with (first | (go_at_call 16; refine (HRd.out _).mono ?_; rintro e w2 ⟨ao, np, cap, rfl, HX⟩))
  obtain ⟨hF2, p, C, hT, hrow, hgl⟩ := HX.out
  have HPw : Hid _ := HPl.out w2 ao np cap p C (HF0.out.trans hF2) hT hrow hgl
  have HO2 : Hid _ := HO.out.fr hF2 id
  have HF2 : Hid (Fr NoB w w2) := HF0.out.trans hF2
  clear HX hT hrow hgl HPl hF2
  go_wp2_with (go_at_call 21; refine Calls.mono HPw.out ?_; rintro e w3 ⟨rfl, hF3⟩; have HO3 : Hid _ := HO2.out.fr hF3 id; obtain ⟨c0, c1, c2, c3, hf⟩ := HO3.out; have f0 := hf 0; have f1 := hf 1; have f2 := hf 2; have f3 := hf 3; clear hf)
  obtain ⟨k0, k1, k2, k3, kf⟩ := HO3.out.put (u0 := .int .i64 a) (u1 := .string b) (u2 := .int .i64 c) (u3 := .int .i64 d)
  exact bodyPost_ret (v := .tuple #[.agg #[.int .i64 a, .string b, .int .i64 c, .int .i64 d], .int .i64 ev]) (by simp [results, Tryz.results10, go_sem, k0, k1, k2, k3]) rfl ⟨rfl, (HF2.out.trans hF3).put4 (fun q => absurd q (by omega)) _ _ _ _⟩
set_option maxRecDepth 8000 in
set_option maxHeartbeats 1000000 in
theorem alikeE_fn (w : World) (a c d : Int) (b : ByteArray) : Calls Tryz.prog 9 #[.agg #[.int .i64 a, .string b, .int .i64 c, .int .i64 d], .agg #[.int .i64 a, .string b, .int .i64 c, .int .i64 d]] w fun e w' => e = .returned (.bool true) ∧ Fr NoB w w' := by
  go_enter Tryz.func9, Tryz.ntmps9
  go_wp2
  go_ret
  exact ⟨by simp, by repeat (first | exact Fr.refl _ _ | refine Fr.drewN ?_ _ | refine Fr.drew ?_ | refine Fr.alloc ?_ _)⟩
set_option maxRecDepth 8000 in
set_option maxHeartbeats 1000000 in
theorem execs_walk (w : World) (s : ByteArray) (nw n a c d ev : Int) (b : ByteArray)
    (H1 : ∀ W, Fr NoB w W → Calls Tryz.prog 10 #[.string s, .int .i64 nw, .int .i64 n] W fun e w' => e = .returned (.tuple #[.agg #[.int .i64 a, .string b, .int .i64 c, .int .i64 d], .int .i64 ev]) ∧ Fr NoB W w')
    (H2 : ∀ W, Fr NoB w W → Calls Tryz.prog 11 #[.string s, .int .i64 nw, .int .i64 n] W fun e w' => e = .returned (.tuple #[.agg #[.int .i64 a, .string b, .int .i64 c, .int .i64 d], .int .i64 ev]) ∧ Fr NoB W w') :
    Calls Tryz.prog 5 #[.string s, .int .i64 nw, .int .i64 n] w fun e w' => e = .returned (.bool true) ∧ Fr NoB w w' := by
  have HA : Hid _ := H1
  have HB : Hid _ := H2
  have HK : Hid (∀ W, _) := fun W => alikeE_fn W a c d b
  clear H1 H2
  go_enter Tryz.func5, Tryz.ntmps5
  go_upto_region 2 with (go_at_call 10; refine (HA.out _ (Fr.refl _ _)).mono ?_; rintro e w1 ⟨rfl, hF1⟩)
  have hO := OutAt.new w1 26 (.int .i64 a) (.string b) (.int .i64 c) (.int .i64 d)
  have HO : Hid _ := hO
  have hFa : Fr NoB w (w1.alloc (.cells #[.int .i64 a, .string b, .int .i64 c, .int .i64 d] 26)) := hF1.alloc _
  clear hO hF1
  generalize (w1.alloc _) = W1 at *
  generalize w1.heap.size = o1 at *
  go_upto_region 3 with (go_at_call 11; refine (HB.out _ hFa).mono ?_; rintro e w2 ⟨rfl, hF2⟩)
  have hO2 := OutAt.new w2 26 (.int .i64 a) (.string b) (.int .i64 c) (.int .i64 d)
  have HO2 : Hid _ := hO2
  have hFb : Fr NoB w2 (w2.alloc (.cells #[.int .i64 a, .string b, .int .i64 c, .int .i64 d] 26)) := (Fr.refl _ _).alloc _
  have HO1 : Hid _ := (HO.out.fr hF2 id).fr hFb id
  have hFc := (hFa.trans hF2).trans hFb
  clear hO2 hF2 hFa hFb
  generalize (w2.alloc _) = W2 at *
  generalize w2.heap.size = o2 at *
  obtain ⟨c0, c1, c2, c3, _⟩ := HO1.out
  obtain ⟨d0, d1, d2, d3, _⟩ := HO2.out
  go_wp2_with (go_at_call 9; refine (HK.out _).mono ?_; rintro e w3 ⟨rfl, hF3⟩)
  go_ret
  exact ⟨by simp, hFc.trans hF3⟩
/-- the law -/
theorem execs_any (w : World) (s : ByteArray) (nw n : Int) (hs : s.size ≤ 9223372036854775807) (htab : ∀ W, Fr NoB w W → TabOk W) :
    Calls Tryz.prog 5 #[.string s, .int .i64 nw, .int .i64 n] w fun e w' => e = .returned (.bool true) ∧ Fr NoB w w' := by
  by_cases hl : 20000 < s.size
  · exact execs_walk w s nw n 0 0 0 _ ⟨#[]⟩ (fun W _ => dexec_long W s nw n hl hs) (fun W _ => refExec_long W s nw n hl hs)
  · have h2 : s.size ≤ 20000 := by omega
    by_cases hc : (run s [(83, true)] 0 0).1 ≠ 0
    · exact execs_walk w s nw n 0 0 0 _ ⟨#[]⟩ (fun W _ => dexec_bad W s nw n h2 hc) (fun W _ => refExec_bad W s nw n h2 hc)
    · have hc0 : run s [(83, true)] 0 0 = (0, 0) := run_zero (by omega)
      by_cases hw : nw < 1 ∨ 4096 < nw
      · exact execs_walk w s nw n 0 0 0 5 ⟨#[]⟩ (fun W hW => dexec_any W s nw n out0 5 h2 hc0 (fun W2 ao np cap p C _ _ _ _ => rexec_arg W2 ao np cap nw n (.inl hw)) ⟨_, _, _, _, rfl⟩) (fun W _ => refExec_words W s nw n h2 hc0 hw)
      · obtain ⟨m, rfl⟩ : ∃ k : Nat, nw = (k : Int) := ⟨nw.toNat, by omega⟩
        have hm1 : 1 ≤ m := by omega
        have hm2 : m ≤ 4096 := by omega
        by_cases hn : n < 0 ∨ 5000 < n
        · exact execs_walk w s m n 0 0 0 5 ⟨#[]⟩ (fun W hW => dexec_any W s m n out0 5 h2 hc0 (fun W2 ao np cap p C _ _ _ _ => rexec_arg W2 ao np cap m n (.inr hn)) ⟨_, _, _, _, rfl⟩) (fun W _ => refExec_fuel W s m n h2 hc0 hm1 hm2 hn)
        · obtain ⟨k, rfl⟩ : ∃ k : Nat, n = (k : Int) := ⟨n.toNat, by omega⟩
          have hk : k ≤ 5000 := by omega
          obtain ⟨σ, b, hE⟩ := Ex.total (cE true m) k (pgN s (s.size + 1) 0 s.size) (st0 k) (Nat.le_refl _)
          refine execs_walk w s m k _ _ _ 0 _ (fun W hW => dexec_any W s m k (outE σ) 0 h2 hc0 (fun W2 ao np cap p C hW2 hT hrow hgl => ?_) ⟨_, _, _, _, rfl⟩) (fun W _ => refExec_ok W s m k h2 hc0 hm1 hm2 hk σ ⟨b, hE⟩)
          obtain ⟨j, hR⟩ := hE.runs_all hT.prt
          exact rexec_ok W2 ao np cap m k j p C σ hm1 hm2 hk hrow hgl hT.fl (fun i _ => hT.cl i) (by have := hT.nl; omega) hT.sg hR (fun W3 hW3 => htab W3 ((hW.trans hW2).trans hW3))
end Go.Proofs.YtcmnejcojphijaaGreatDoor

namespace Go.Proofs.YtcmnejcojphijaaGreatDoor.execs
open Go.ChangeShapes Go.WideShapes Go.ChangeAt Go.RowKit Go.Deep Go.ChangeMaps
set_option linter.unusedVariables false

theorem own : ownKnob Tryz.prog.godebug = none := by kernel_rfl

theorem i64_bounds {n : Int} (h : (Lit.int .i64 n).wf = true) : -9223372036854775808 ≤ n ∧ n ≤ 9223372036854775807 := by
  simpa [Lit.wf, IntKind.min, IntKind.max, IntKind.signed, IntKind.bits] using h

/-- The door's own heap meets the condition. -/
theorem door_met (os : Os) (args : Array Value) : laidMetH Tryz.prog Rows.execsRow.laid ((World.doorLaid Tryz.prog 400 os).forCall (fun _ _ => 0) ⟨#[], args, []⟩).memory :=
  laidMetH_of_parts3 (fuel := 8) (laidMet_of_run' 8 (by kernel_rfl) (by kernel_rfl)) (by kernel_rfl) (by kernel_rfl)
set_option maxRecDepth 100000 in
/-- the table that Itoa reads -/
theorem tab_ok (W : World) (h : laidMetH Tryz.prog Rows.execsRow.laid W) : ∀ W', Fr NoB W W' → TabOk W' := by
  have h1 := h.filter (fun x => x.1 == "internal/strconv.uint64pow10")
  have e : (Rows.execsRow.laid.filter fun x => x.1 == "internal/strconv.uint64pow10") = [("internal/strconv.uint64pow10", Lib.tabData .u64 Lib.pow10Tab)] := by kernel_rfl
  rw [e, MakeChecks.laidMetH_plain _ _ _ (by kernel_rfl)] at h1
  have h2 : Lib.TabIs Tryz.prog W "internal/strconv.uint64pow10" .u64 Lib.pow10Tab := by
    first
      | exact Lib.tabIs_of_head (g := 0) (t := 182) (e := 176) (n := 20) (by kernel_rfl) (by kernel_rfl) (by kernel_rfl) (by kernel_rfl) (by kernel_rfl) (by kernel_rfl) h1
      | exact Lib.tabIs_of_head (g := 1) (t := 182) (e := 176) (n := 20) (by kernel_rfl) (by kernel_rfl) (by kernel_rfl) (by kernel_rfl) (by kernel_rfl) (by kernel_rfl) h1
      | exact Lib.tabIs_of_head (g := 2) (t := 182) (e := 176) (n := 20) (by kernel_rfl) (by kernel_rfl) (by kernel_rfl) (by kernel_rfl) (by kernel_rfl) (by kernel_rfl) h1
  exact fun W' hF => Lib.tabBelow_of_tabIs h2 W' (hF.below (Nat.le_refl _) (fun _ _ q => q))
set_option maxRecDepth 100000 in
theorem lifted (os : Os) (started : os.Started) (H : Type) (enc : TypeId × Value → H) :
    ReturnsInHanded {} Tryz.checked os 5 .any (fun w args => (Rows.execsSpec.pre enc Tryz.prog Tryz.f5 [] false w args ∧ laidMetH Tryz.prog Rows.execsRow.laid w) ∧ sizedMet enc Tryz.prog Tryz.f5 (OpenSpec.ofChange Rows.execsSpec) false w args) (Rows.execsSpec.post enc Tryz.prog Tryz.f5 false true false false) := by
  refine returnsInHanded_of_change_and (C := Tryz.checked) (X := fun w _ => laidMetH Tryz.prog Rows.execsRow.laid w) (fun _ _ _ hh h => h.of_heap hh) own started (by kernel_rfl) Tryz.func5
    (ChangeSpec.witness_shaped (enc := enc) (C := Tryz.checked) (os := os) (X := fun w _ => laidMetH Tryz.prog Rows.execsRow.laid w) false (World.doorLaid Tryz.prog 400 os) #[.string ⟨#[]⟩, .int .i64 0, .int .i64 0] 8 rfl (World.shaped_of_RefB (by kernel_rfl) (by kernel_rfl)) (by kernel_rfl) (by kernel_rfl) (by kernel_rfl) (door_met os _)) ?_
  intro W base args ds gs before hval0 hW hcnd hsz0 hX _
  have htab := tab_ok W hX
  have hval : ∀ (j : Nat) t v, Tryz.f5.params[j]? = some t → args[j]? = some v → Value.okWide Tryz.prog W .any base t v := hval0
  have hW' := hW
  obtain ⟨p, q, hA0, hV, rfl, hfz, hnd⟩ := hW
  have hA : DataW.TrodAll enc Tryz.prog W 0 (fun _ => true) true Tryz.f5.params.toList args.toList ds p := hA0
  rw [Tryz.params5] at hA hval
  obtain ⟨v0, vs0, d0, ds0, p0, q0, hargs, rfl, rfl, h0, r0⟩ := trodAll_cons hA
  obtain ⟨v1, vs1, d1, ds1, p1, q1, hargs1, rfl, rfl, h1, r1⟩ := trodAll_cons r0
  obtain ⟨v2, vs2, d2, ds2, p2, q2, hargs2, rfl, rfl, h2, r2⟩ := trodAll_cons r1
  obtain ⟨rfl, rfl, rfl⟩ := trodAll_nil r2
  subst hargs2
  subst hargs1
  obtain rfl : args = #[v0, v1, v2] := by cases args; simp_all
  obtain ⟨rfl, rfl⟩ := trodVars_none hV
  obtain ⟨s, rfl, rfl, rfl, hsz⟩ := open_string Tryz.underlying9 (hval 0 9 v0 rfl rfl) h0
  obtain ⟨nw, rfl, rfl, rfl, hnw⟩ := open_int Tryz.underlying3 (hval 1 3 v1 rfl rfl) h1
  obtain ⟨n, rfl, rfl, rfl, hn⟩ := open_int Tryz.underlying3 (hval 2 3 v2 rfl rfl) h2
  clear hA0 hval0 hsz0
  refine (execs_any W s nw n (by unfold maxLen at hsz; omega) htab).mono fun e W' ⟨he, hF⟩ => ?_
  subst he
  have bel : Below W.heap.size W W' := hF.below (Nat.le_refl _) (fun _ _ h => h)
  exact ⟨_, rfl, _, _, _, [], _, [], hW', trodAll_mk1 (shut_bool Tryz.underlying4 _), (trodAll_cons_mk (shut_string Tryz.underlying9 hsz) (trodAll_cons_mk (shut_int Tryz.underlying3 hnw) (trodAll_cons_mk (shut_int Tryz.underlying3 hn) trodAll_mk0))), rfl, bel.frame _, fun h => by cases h⟩

end Go.Proofs.YtcmnejcojphijaaGreatDoor.execs
namespace Go.Proofs.YtcmnejcojphijaaGreatDoor
/-- The row's statement. -/
theorem execs_row : Rows.ExecsSaid :=
  OpenClaim.holds_of_wide 5 Tryz.f5 rfl rfl rfl rfl rfl rfl rfl ⟨rfl, rfl, rfl, rfl, rfl⟩ rfl rfl rfl rfl rfl (by kernel_rfl) Tryz.func5 (by kernel_rfl)
    (of_decide_eq_true (by kernel_rfl)) (by unfold Func.isWrapper; first | (rw [if_pos (by decide +kernel)]; kernel_rfl) | (rw [if_neg (by decide +kernel)]; exact ⟨rfl, rfl⟩))
    (fun os started H enc _ => execs.lifted os started H enc)
/-- The card. -/
theorem execs_holds : Rows.ExecsCardSaid :=
  Claim7.holds_tied_plain_at .later [] [.data, .data, .data] true Rows.execsCard.stood.harness false
    execs_row (fun _ h => by cases h) (by kernel_rfl) (fun _ h => by cases h) execs_row_tie rfl ⟨rfl, rfl⟩ (by kernel_rfl) rfl
    (fun f fn hf hfn => by
      obtain rfl : f = 5 := Option.some.inj ((show Tryz.prog.funcNamed "steward/stewardlaw.Execs" = some 5 by kernel_rfl).symm.trans hf) |>.symm
      obtain rfl : fn = Tryz.f5 := (Option.some.inj (Tryz.func5.symm.trans hfn)).symm
      exact ⟨by kernel_rfl, fun j t ht => by
        rw [Tryz.params5] at ht
        have hm : t ∈ [9, 3, 3] := by simpa using Array.mem_of_getElem? ht
        have hall : ([9, 3, 3].all fun u => !Tryz.prog.wantsStandIn u) = true := by kernel_rfl
        exact (show Tryz.prog.wantsStandIn t = false by simpa using List.all_eq_true.1 hall t hm)⟩)
    (by kernel_rfl)
#print axioms execs_holds
end Go.Proofs.YtcmnejcojphijaaGreatDoor
