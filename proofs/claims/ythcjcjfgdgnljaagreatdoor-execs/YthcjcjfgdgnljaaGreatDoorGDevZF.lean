/-
  DevZF: one behind the other.
-/
import Derived.Test.YthcjcjfgdgnljaaGreatDoorGDevZA
import Derived.Test.YthcjcjfgdgnljaaGreatDoorGDevZB
import Derived.Test.YthcjcjfgdgnljaaGreatDoorGDevZE
namespace Go.Proofs.YthcjcjfgdgnljaaGreatDoor
open Go.RowKit
set_option linter.unusedVariables false

set_option maxHeartbeats 2000000 in
theorem part_small (w : World) (kp base : Nat) (s : ByteArray) (r : Rs) (pv ov : Value) (h : RdP w kp base s r pv ov (cloL r.P)) (hz : Zb s r.z) (hb : base ≤ w.heap.size) (hJ : RJ s r) (hlt : r.z.1 < s.size) (c1 : smallN (pk s r.z) = true) :
    Calls Tryz.prog 32 #[.pointer (some ⟨kp, 0, none⟩)] w fun x w' => PartSays kp base s (rPart s r) w x w' := by
  have hC := rj_zero hJ
  have hl : r.P.length ≤ 90001 := by have := hJ.pl; have := hz.n; omega
  have hlo : r.O.length ≤ 90001 := by have := hJ.o9; omega
  have hE : rPart s r = rNumber s r := by unfold rPart; rw [if_pos c1]
  rw [hE]
  have HPk : Hid (Calls Tryz.prog 64 #[.pointer (some ⟨kp, 0, none⟩)] w fun e w' => e = .returned (.int .u8 (pk s r.z : Int)) ∧ Fr NoB w w') := by
    have := peek_fn w kp s r.z pv ov h.rd hz
    exact this
  have HC : Hid (∀ X : World, Fr NoB w X → Calls Tryz.prog 66 #[.pointer (some ⟨kp, 0, none⟩), .int .u8 (pk s r.z : Int)] X fun x w' => PartSays kp base s (rNumber s r) X x w') := fun X hX => toNumber_fn X kp base s r pv ov (h.no hX) hC hz (Nat.le_trans hb hX.size) hl hlt c1
  have HN : Hid _ := fun X => isNumber_fn X (pk s r.z)
  rw [c1] at HN
  clear hE hJ
  go_enter Tryz.func32, Tryz.ntmps32
  go_wp2_with (first | (go_at_call 64; refine HPk.out.mono ?_; rintro x w1 ⟨rfl, hF1⟩) | (go_at_call 65; refine (HN.out _).mono ?_; rintro x wn ⟨rfl, hw⟩; have hw2 := hw.symm; clear hw; subst hw2) | (go_at_call 66; refine (HC.out _ hF1).mono ?_; rintro x w2 ⟨rfl, ⟨pv2, ov2, hRP⟩, hF2⟩))
  go_end0
  exact ⟨rfl, ⟨pv2, ov2, hRP⟩, hF1.of_no.trans hF2⟩
set_option maxHeartbeats 2000000 in
theorem part_great (w : World) (kp base : Nat) (s : ByteArray) (r : Rs) (pv ov : Value) (h : RdP w kp base s r pv ov (cloL r.P)) (hz : Zb s r.z) (hb : base ≤ w.heap.size) (hJ : RJ s r) (hlt : r.z.1 < s.size) (c1 : smallN (pk s r.z) = false) (c2 : greatN (pk s r.z) = true) :
    Calls Tryz.prog 32 #[.pointer (some ⟨kp, 0, none⟩)] w fun x w' => PartSays kp base s (rPart s r) w x w' := by
  have hC := rj_zero hJ
  have hl : r.P.length ≤ 90001 := by have := hJ.pl; have := hz.n; omega
  have hlo : r.O.length ≤ 90001 := by have := hJ.o9; omega
  have hE : rPart s r = rBox s r := by unfold rPart; rw [if_neg (by rw [c1]; simp), if_pos c2]
  rw [hE]
  have HPk : Hid (Calls Tryz.prog 64 #[.pointer (some ⟨kp, 0, none⟩)] w fun e w' => e = .returned (.int .u8 (pk s r.z : Int)) ∧ Fr NoB w w') := by
    have := peek_fn w kp s r.z pv ov h.rd hz
    exact this
  have HC : Hid (∀ X : World, Fr NoB w X → Calls Tryz.prog 68 #[.pointer (some ⟨kp, 0, none⟩)] X fun x w' => PartSays kp base s (rBox s r) X x w') := fun X hX => toBox_fn X kp base s r pv ov (h.no hX) hC hz (Nat.le_trans hb hX.size) hl
  have HN : Hid _ := fun X => isNumber_fn X (pk s r.z)
  rw [c1] at HN
  have HB : Hid _ := fun X => isBox_fn X (pk s r.z)
  rw [c2] at HB
  clear hE hJ
  go_enter Tryz.func32, Tryz.ntmps32
  go_wp2_with (first | (go_at_call 64; refine HPk.out.mono ?_; rintro x w1 ⟨rfl, hF1⟩) | (go_at_call 65; refine (HN.out _).mono ?_; rintro x wn ⟨rfl, hw⟩; have hw2 := hw.symm; clear hw; subst hw2) | (go_at_call 67; refine (HB.out _).mono ?_; rintro x wb ⟨rfl, hw⟩; have hw2 := hw.symm; clear hw; subst hw2) | (go_at_call 68; refine (HC.out _ hF1).mono ?_; rintro x w2 ⟨rfl, ⟨pv2, ov2, hRP⟩, hF2⟩))
  go_end0
  exact ⟨rfl, ⟨pv2, ov2, hRP⟩, hF1.of_no.trans hF2⟩
set_option maxHeartbeats 2000000 in
theorem part_end (w : World) (kp base : Nat) (s : ByteArray) (r : Rs) (pv ov : Value) (h : RdP w kp base s r pv ov (cloL r.P)) (hz : Zb s r.z) (hb : base ≤ w.heap.size) (hJ : RJ s r) (hlt : r.z.1 < s.size) (c1 : pk s r.z = 126) :
    Calls Tryz.prog 32 #[.pointer (some ⟨kp, 0, none⟩)] w fun x w' => PartSays kp base s (rPart s r) w x w' := by
  have hC := rj_zero hJ
  have hl : r.P.length ≤ 90001 := by have := hJ.pl; have := hz.n; omega
  have hlo : r.O.length ≤ 90001 := by have := hJ.o9; omega
  have hE : rPart s r = rEnd s r := by unfold rPart; rw [c1]; rw [if_neg (by decide), if_neg (by decide), if_pos rfl]
  rw [hE]
  have HPk : Hid (Calls Tryz.prog 64 #[.pointer (some ⟨kp, 0, none⟩)] w fun e w' => e = .returned (.int .u8 ((126 : Nat) : Int)) ∧ Fr NoB w w') := by
    have := peek_fn w kp s r.z pv ov h.rd hz
    rwa [c1] at this
  have HC : Hid (∀ X : World, Fr NoB w X → Calls Tryz.prog 69 #[.pointer (some ⟨kp, 0, none⟩)] X fun x w' => PartSays kp base s (rEnd s r) X x w') := fun X hX => ending_fn X kp base s r pv ov (h.no hX) hC hz (Nat.le_trans hb hX.size) hl
  have HN : Hid (∀ X : World, Calls Tryz.prog 65 #[.int .u8 ((126 : Nat) : Int)] X fun e w' => e = .returned (.bool false) ∧ w' = X) := fun X => isNumber_fn X 126
  have HB : Hid (∀ X : World, Calls Tryz.prog 67 #[.int .u8 ((126 : Nat) : Int)] X fun e w' => e = .returned (.bool false) ∧ w' = X) := fun X => isBox_fn X 126
  clear hE hJ
  go_enter Tryz.func32, Tryz.ntmps32
  go_wp2_with (first | (go_at_call 64; refine HPk.out.mono ?_; rintro x w1 ⟨rfl, hF1⟩) | (go_at_call 65; refine (HN.out _).mono ?_; rintro x wn ⟨rfl, hw⟩; have hw2 := hw.symm; clear hw; subst hw2) | (go_at_call 67; refine (HB.out _).mono ?_; rintro x wb ⟨rfl, hw⟩; have hw2 := hw.symm; clear hw; subst hw2) | (go_at_call 69; refine (HC.out _ hF1).mono ?_; rintro x w2 ⟨rfl, ⟨pv2, ov2, hRP⟩, hF2⟩))
  go_end0
  exact ⟨rfl, ⟨pv2, ov2, hRP⟩, hF1.of_no.trans hF2⟩
set_option maxHeartbeats 2000000 in
theorem part_print (w : World) (kp base : Nat) (s : ByteArray) (r : Rs) (pv ov : Value) (h : RdP w kp base s r pv ov (cloL r.P)) (hz : Zb s r.z) (hb : base ≤ w.heap.size) (hJ : RJ s r) (hlt : r.z.1 < s.size) (c1 : pk s r.z = 33) :
    Calls Tryz.prog 32 #[.pointer (some ⟨kp, 0, none⟩)] w fun x w' => PartSays kp base s (rPart s r) w x w' := by
  have hC := rj_zero hJ
  have hl : r.P.length ≤ 90001 := by have := hJ.pl; have := hz.n; omega
  have hlo : r.O.length ≤ 90001 := by have := hJ.o9; omega
  have hE : rPart s r = rPrint s r := by unfold rPart; rw [c1]; rw [if_neg (by decide), if_neg (by decide), if_neg (by decide), if_pos rfl]
  rw [hE]
  have HPk : Hid (Calls Tryz.prog 64 #[.pointer (some ⟨kp, 0, none⟩)] w fun e w' => e = .returned (.int .u8 ((33 : Nat) : Int)) ∧ Fr NoB w w') := by
    have := peek_fn w kp s r.z pv ov h.rd hz
    rwa [c1] at this
  have HC : Hid (∀ X : World, Fr NoB w X → Calls Tryz.prog 70 #[.pointer (some ⟨kp, 0, none⟩)] X fun x w' => PartSays kp base s (rPrint s r) X x w') := fun X hX => printing_fn X kp base s r pv ov (h.no hX) hC hz (Nat.le_trans hb hX.size) hl
  have HN : Hid (∀ X : World, Calls Tryz.prog 65 #[.int .u8 ((33 : Nat) : Int)] X fun e w' => e = .returned (.bool false) ∧ w' = X) := fun X => isNumber_fn X 33
  have HB : Hid (∀ X : World, Calls Tryz.prog 67 #[.int .u8 ((33 : Nat) : Int)] X fun e w' => e = .returned (.bool false) ∧ w' = X) := fun X => isBox_fn X 33
  clear hE hJ
  go_enter Tryz.func32, Tryz.ntmps32
  go_wp2_with (first | (go_at_call 64; refine HPk.out.mono ?_; rintro x w1 ⟨rfl, hF1⟩) | (go_at_call 65; refine (HN.out _).mono ?_; rintro x wn ⟨rfl, hw⟩; have hw2 := hw.symm; clear hw; subst hw2) | (go_at_call 67; refine (HB.out _).mono ?_; rintro x wb ⟨rfl, hw⟩; have hw2 := hw.symm; clear hw; subst hw2) | (go_at_call 70; refine (HC.out _ hF1).mono ?_; rintro x w2 ⟨rfl, ⟨pv2, ov2, hRP⟩, hF2⟩))
  go_end0
  exact ⟨rfl, ⟨pv2, ov2, hRP⟩, hF1.of_no.trans hF2⟩
set_option maxHeartbeats 2000000 in
theorem part_if (w : World) (kp base : Nat) (s : ByteArray) (r : Rs) (pv ov : Value) (h : RdP w kp base s r pv ov (cloL r.P)) (hz : Zb s r.z) (hb : base ≤ w.heap.size) (hJ : RJ s r) (hlt : r.z.1 < s.size) (c1 : pk s r.z = 63) :
    Calls Tryz.prog 32 #[.pointer (some ⟨kp, 0, none⟩)] w fun x w' => PartSays kp base s (rPart s r) w x w' := by
  have hC := rj_zero hJ
  have hl : r.P.length ≤ 90001 := by have := hJ.pl; have := hz.n; omega
  have hlo : r.O.length ≤ 90001 := by have := hJ.o9; omega
  have hE : rPart s r = rOpen s 63 8 r := by unfold rPart; rw [c1]; rw [if_neg (by decide), if_neg (by decide), if_neg (by decide), if_neg (by decide), if_pos rfl]
  rw [hE]
  have HPk : Hid (Calls Tryz.prog 64 #[.pointer (some ⟨kp, 0, none⟩)] w fun e w' => e = .returned (.int .u8 ((63 : Nat) : Int)) ∧ Fr NoB w w') := by
    have := peek_fn w kp s r.z pv ov h.rd hz
    rwa [c1] at this
  have HC : Hid (∀ X : World, Fr NoB w X → Calls Tryz.prog 71 #[.pointer (some ⟨kp, 0, none⟩), .int .u8 ((63 : Nat) : Int), .int .i64 ((8 : Nat) : Int)] X fun x w' => PartSays kp base s (rOpen s 63 8 r) X x w') := fun X hX => opening_fn X kp base s r pv ov (h.no hX) hC hz (Nat.le_trans hb hX.size) hl hlo 63 8 (by decide) rfl
  have HN : Hid (∀ X : World, Calls Tryz.prog 65 #[.int .u8 ((63 : Nat) : Int)] X fun e w' => e = .returned (.bool false) ∧ w' = X) := fun X => isNumber_fn X 63
  have HB : Hid (∀ X : World, Calls Tryz.prog 67 #[.int .u8 ((63 : Nat) : Int)] X fun e w' => e = .returned (.bool false) ∧ w' = X) := fun X => isBox_fn X 63
  clear hE hJ
  go_enter Tryz.func32, Tryz.ntmps32
  go_wp2_with (first | (go_at_call 64; refine HPk.out.mono ?_; rintro x w1 ⟨rfl, hF1⟩) | (go_at_call 65; refine (HN.out _).mono ?_; rintro x wn ⟨rfl, hw⟩; have hw2 := hw.symm; clear hw; subst hw2) | (go_at_call 67; refine (HB.out _).mono ?_; rintro x wb ⟨rfl, hw⟩; have hw2 := hw.symm; clear hw; subst hw2) | (go_at_call 71; refine (HC.out _ hF1).mono ?_; rintro x w2 ⟨rfl, ⟨pv2, ov2, hRP⟩, hF2⟩))
  go_end0
  exact ⟨rfl, ⟨pv2, ov2, hRP⟩, hF1.of_no.trans hF2⟩
set_option maxHeartbeats 2000000 in
theorem part_loop (w : World) (kp base : Nat) (s : ByteArray) (r : Rs) (pv ov : Value) (h : RdP w kp base s r pv ov (cloL r.P)) (hz : Zb s r.z) (hb : base ≤ w.heap.size) (hJ : RJ s r) (hlt : r.z.1 < s.size) (c1 : pk s r.z = 64) :
    Calls Tryz.prog 32 #[.pointer (some ⟨kp, 0, none⟩)] w fun x w' => PartSays kp base s (rPart s r) w x w' := by
  have hC := rj_zero hJ
  have hl : r.P.length ≤ 90001 := by have := hJ.pl; have := hz.n; omega
  have hlo : r.O.length ≤ 90001 := by have := hJ.o9; omega
  have hE : rPart s r = rOpen s 64 11 r := by unfold rPart; rw [c1]; rw [if_neg (by decide), if_neg (by decide), if_neg (by decide), if_neg (by decide), if_neg (by decide), if_pos rfl]
  rw [hE]
  have HPk : Hid (Calls Tryz.prog 64 #[.pointer (some ⟨kp, 0, none⟩)] w fun e w' => e = .returned (.int .u8 ((64 : Nat) : Int)) ∧ Fr NoB w w') := by
    have := peek_fn w kp s r.z pv ov h.rd hz
    rwa [c1] at this
  have HC : Hid (∀ X : World, Fr NoB w X → Calls Tryz.prog 71 #[.pointer (some ⟨kp, 0, none⟩), .int .u8 ((64 : Nat) : Int), .int .i64 ((11 : Nat) : Int)] X fun x w' => PartSays kp base s (rOpen s 64 11 r) X x w') := fun X hX => opening_fn X kp base s r pv ov (h.no hX) hC hz (Nat.le_trans hb hX.size) hl hlo 64 11 (by decide) rfl
  have HN : Hid (∀ X : World, Calls Tryz.prog 65 #[.int .u8 ((64 : Nat) : Int)] X fun e w' => e = .returned (.bool false) ∧ w' = X) := fun X => isNumber_fn X 64
  have HB : Hid (∀ X : World, Calls Tryz.prog 67 #[.int .u8 ((64 : Nat) : Int)] X fun e w' => e = .returned (.bool false) ∧ w' = X) := fun X => isBox_fn X 64
  clear hE hJ
  go_enter Tryz.func32, Tryz.ntmps32
  go_wp2_with (first | (go_at_call 64; refine HPk.out.mono ?_; rintro x w1 ⟨rfl, hF1⟩) | (go_at_call 65; refine (HN.out _).mono ?_; rintro x wn ⟨rfl, hw⟩; have hw2 := hw.symm; clear hw; subst hw2) | (go_at_call 67; refine (HB.out _).mono ?_; rintro x wb ⟨rfl, hw⟩; have hw2 := hw.symm; clear hw; subst hw2) | (go_at_call 71; refine (HC.out _ hF1).mono ?_; rintro x w2 ⟨rfl, ⟨pv2, ov2, hRP⟩, hF2⟩))
  go_end0
  exact ⟨rfl, ⟨pv2, ov2, hRP⟩, hF1.of_no.trans hF2⟩
set_option maxHeartbeats 2000000 in
theorem part_close (w : World) (kp base : Nat) (s : ByteArray) (r : Rs) (pv ov : Value) (h : RdP w kp base s r pv ov (cloL r.P)) (hz : Zb s r.z) (hb : base ≤ w.heap.size) (hJ : RJ s r) (hlt : r.z.1 < s.size) (c1 : pk s r.z = 125) :
    Calls Tryz.prog 32 #[.pointer (some ⟨kp, 0, none⟩)] w fun x w' => PartSays kp base s (rPart s r) w x w' := by
  have hC := rj_zero hJ
  have hl : r.P.length ≤ 90001 := by have := hJ.pl; have := hz.n; omega
  have hlo : r.O.length ≤ 90001 := by have := hJ.o9; omega
  have hE : rPart s r = rClose s r := by unfold rPart; rw [c1]; rw [if_neg (by decide), if_neg (by decide), if_neg (by decide), if_neg (by decide), if_neg (by decide), if_neg (by decide), if_pos rfl]
  rw [hE]
  have HPk : Hid (Calls Tryz.prog 64 #[.pointer (some ⟨kp, 0, none⟩)] w fun e w' => e = .returned (.int .u8 ((125 : Nat) : Int)) ∧ Fr NoB w w') := by
    have := peek_fn w kp s r.z pv ov h.rd hz
    rwa [c1] at this
  have HC : Hid (∀ X : World, Fr NoB w X → Calls Tryz.prog 72 #[.pointer (some ⟨kp, 0, none⟩)] X fun x w' => PartSays kp base s (rClose s r) X x w') := fun X hX => closing_fn X kp base s r pv ov (h.no hX) hC hz (Nat.le_trans hb hX.size) hl hlo (fun o ho => (hJ.ho o ho).1)
  have HN : Hid (∀ X : World, Calls Tryz.prog 65 #[.int .u8 ((125 : Nat) : Int)] X fun e w' => e = .returned (.bool false) ∧ w' = X) := fun X => isNumber_fn X 125
  have HB : Hid (∀ X : World, Calls Tryz.prog 67 #[.int .u8 ((125 : Nat) : Int)] X fun e w' => e = .returned (.bool false) ∧ w' = X) := fun X => isBox_fn X 125
  clear hE hJ
  go_enter Tryz.func32, Tryz.ntmps32
  go_wp2_with (first | (go_at_call 64; refine HPk.out.mono ?_; rintro x w1 ⟨rfl, hF1⟩) | (go_at_call 65; refine (HN.out _).mono ?_; rintro x wn ⟨rfl, hw⟩; have hw2 := hw.symm; clear hw; subst hw2) | (go_at_call 67; refine (HB.out _).mono ?_; rintro x wb ⟨rfl, hw⟩; have hw2 := hw.symm; clear hw; subst hw2) | (go_at_call 72; refine (HC.out _ hF1).mono ?_; rintro x w2 ⟨rfl, ⟨pv2, ov2, hRP⟩, hF2⟩))
  go_end0
  exact ⟨rfl, ⟨pv2, ov2, hRP⟩, hF1.of_no.trans hF2⟩
set_option maxHeartbeats 2000000 in
theorem part_none (w : World) (kp base : Nat) (s : ByteArray) (r : Rs) (pv ov : Value) (h : RdP w kp base s r pv ov (cloL r.P)) (hz : Zb s r.z) (hb : base ≤ w.heap.size) (hJ : RJ s r) (hlt : r.z.1 < s.size) (c1 : smallN (pk s r.z) = false) (c2 : greatN (pk s r.z) = false) (c3 : pk s r.z ≠ 126) (c4 : pk s r.z ≠ 33) (c5 : pk s r.z ≠ 63) (c6 : pk s r.z ≠ 64) (c7 : pk s r.z ≠ 125) :
    Calls Tryz.prog 32 #[.pointer (some ⟨kp, 0, none⟩)] w fun x w' => PartSays kp base s (rPart s r) w x w' := by
  have hC := rj_zero hJ
  have hl : r.P.length ≤ 90001 := by have := hJ.pl; have := hz.n; omega
  have hlo : r.O.length ≤ 90001 := by have := hJ.o9; omega
  have hE : rPart s r = ⟨rf 2 r.z, r.P, r.O⟩ := by unfold rPart; rw [if_neg (by rw [c1]; simp), if_neg (by rw [c2]; simp), if_neg c3, if_neg c4, if_neg c5, if_neg c6, if_neg c7]
  rw [hE]
  have HPk : Hid (Calls Tryz.prog 64 #[.pointer (some ⟨kp, 0, none⟩)] w fun e w' => e = .returned (.int .u8 (pk s r.z : Int)) ∧ Fr NoB w w') := by
    have := peek_fn w kp s r.z pv ov h.rd hz
    exact this
  have HC : Hid (∀ X : World, Fr NoB w X → Calls Tryz.prog 33 #[.pointer (some ⟨kp, 0, none⟩), .int .i64 ((2 : Nat) : Int)] X fun x w' => x = .returned (.tuple #[]) ∧ Rd w' kp s (rf 2 r.z) pv ov ∧ Fr (OneB kp) X w') := fun X hX => refuse_fn X kp s r.z pv ov (h.no hX).rd 2
  have HN : Hid _ := fun X => isNumber_fn X (pk s r.z)
  rw [c1] at HN
  have HB : Hid _ := fun X => isBox_fn X (pk s r.z)
  rw [c2] at HB
  have b3 : ((pk s r.z : Int) == 126) = false := beq_eq_false_iff_ne.2 (by omega)
  have b4 : ((pk s r.z : Int) == 33) = false := beq_eq_false_iff_ne.2 (by omega)
  have b5 : ((pk s r.z : Int) == 63) = false := beq_eq_false_iff_ne.2 (by omega)
  have b6 : ((pk s r.z : Int) == 64) = false := beq_eq_false_iff_ne.2 (by omega)
  have b7 : ((pk s r.z : Int) == 125) = false := beq_eq_false_iff_ne.2 (by omega)
  have HR : Hid _ := h
  clear hE hJ
  go_enter Tryz.func32, Tryz.ntmps32
  go_wp2_with (first | (go_at_call 64; refine HPk.out.mono ?_; rintro x w1 ⟨rfl, hF1⟩) | (go_at_call 65; refine (HN.out _).mono ?_; rintro x wn ⟨rfl, hw⟩; have hw2 := hw.symm; clear hw; subst hw2) | (go_at_call 67; refine (HB.out _).mono ?_; rintro x wb ⟨rfl, hw⟩; have hw2 := hw.symm; clear hw; subst hw2) | (go_at_call 33; refine (HC.out _ hF1).mono ?_; rintro x w2 ⟨rfl, hR2, hF2⟩))
  go_end0
  exact ⟨rfl, ⟨pv, ov, (h.no hF1).step hF2 hR2⟩, hF1.of_no.trans (hF2.mono (fun k _ e => .inl e))⟩
theorem part_fn (w : World) (kp base : Nat) (s : ByteArray) (r : Rs) (pv ov : Value) (h : RdP w kp base s r pv ov (cloL r.P)) (hz : Zb s r.z) (hb : base ≤ w.heap.size) (hJ : RJ s r) (hlt : r.z.1 < s.size) :
    Calls Tryz.prog 32 #[.pointer (some ⟨kp, 0, none⟩)] w fun x w' => PartSays kp base s (rPart s r) w x w' := by
  cases c1 : smallN (pk s r.z)
  · cases c2 : greatN (pk s r.z)
    · by_cases c3 : pk s r.z = 126
      · exact part_end w kp base s r pv ov h hz hb hJ hlt c3
      · by_cases c4 : pk s r.z = 33
        · exact part_print w kp base s r pv ov h hz hb hJ hlt c4
        · by_cases c5 : pk s r.z = 63
          · exact part_if w kp base s r pv ov h hz hb hJ hlt c5
          · by_cases c6 : pk s r.z = 64
            · exact part_loop w kp base s r pv ov h hz hb hJ hlt c6
            · by_cases c7 : pk s r.z = 125
              · exact part_close w kp base s r pv ov h hz hb hJ hlt c7
              · exact part_none w kp base s r pv ov h hz hb hJ hlt c1 c2 c3 c4 c5 c6 c7
    · exact part_great w kp base s r pv ov h hz hb hJ hlt c1 c2
  · exact part_small w kp base s r pv ov h hz hb hJ hlt c1
end Go.Proofs.YthcjcjfgdgnljaaGreatDoor
