/-
  DevZF, DevZG, DevZH: one behind the other.
-/
import Derived.Test.YthcjcjfgdgnljaaGDevZA
import Derived.Test.YthcjcjfgdgnljaaGDevZB
import Derived.Test.YthcjcjfgdgnljaaGDevZE
import Derived.Test.YthcjcjfgdgnljaaGDevZD
namespace Go.Proofs.Ythcjcjfgdgnljaa
open Go.RowKit
set_option linter.unusedVariables false

set_option maxHeartbeats 2000000 in
theorem part_small (w : World) (kp base : Nat) (s : ByteArray) (r : Rs) (pv ov : Value) (h : RdP w kp base s r pv ov (cloL r.P)) (hz : Zb s r.z) (hb : base ≤ w.heap.size) (hJ : RJ s r) (hlt : r.z.1 < s.size) (c1 : smallN (pk s r.z) = true) :
    Calls Try.prog 42 #[.pointer (some ⟨kp, 0, none⟩)] w fun x w' => PartSays kp base s (rPart s r) w x w' := by
  have hC := rj_zero hJ
  have hl : r.P.length ≤ 90001 := by have := hJ.pl; have := hz.n; omega
  have hlo : r.O.length ≤ 90001 := by have := hJ.o9; omega
  have hE : rPart s r = rNumber s r := by unfold rPart; rw [if_pos c1]
  rw [hE]
  have HPk : Hid (Calls Try.prog 59 #[.pointer (some ⟨kp, 0, none⟩)] w fun e w' => e = .returned (.int .u8 (pk s r.z : Int)) ∧ Fr NoB w w') := by
    have := peek_fn w kp s r.z pv ov h.rd hz
    exact this
  have HC : Hid (∀ X : World, Fr NoB w X → Calls Try.prog 61 #[.pointer (some ⟨kp, 0, none⟩), .int .u8 (pk s r.z : Int)] X fun x w' => PartSays kp base s (rNumber s r) X x w') := fun X hX => toNumber_fn X kp base s r pv ov (h.no hX) hC hz (Nat.le_trans hb hX.size) hl hlt c1
  have HN : Hid _ := fun X => isNumber_fn X (pk s r.z)
  rw [c1] at HN
  clear hE hJ
  go_enter Try.func42, Try.ntmps42
  go_wp2_with (first | (go_at_call 59; refine HPk.out.mono ?_; rintro x w1 ⟨rfl, hF1⟩) | (go_at_call 60; refine (HN.out _).mono ?_; rintro x wn ⟨rfl, hw⟩; have hw2 := hw.symm; clear hw; subst hw2) | (go_at_call 61; refine (HC.out _ hF1).mono ?_; rintro x w2 ⟨rfl, ⟨pv2, ov2, hRP⟩, hF2⟩))
  go_end0
  exact ⟨rfl, ⟨pv2, ov2, hRP⟩, hF1.of_no.trans hF2⟩
set_option maxHeartbeats 2000000 in
theorem part_great (w : World) (kp base : Nat) (s : ByteArray) (r : Rs) (pv ov : Value) (h : RdP w kp base s r pv ov (cloL r.P)) (hz : Zb s r.z) (hb : base ≤ w.heap.size) (hJ : RJ s r) (hlt : r.z.1 < s.size) (c1 : smallN (pk s r.z) = false) (c2 : greatN (pk s r.z) = true) :
    Calls Try.prog 42 #[.pointer (some ⟨kp, 0, none⟩)] w fun x w' => PartSays kp base s (rPart s r) w x w' := by
  have hC := rj_zero hJ
  have hl : r.P.length ≤ 90001 := by have := hJ.pl; have := hz.n; omega
  have hlo : r.O.length ≤ 90001 := by have := hJ.o9; omega
  have hE : rPart s r = rBox s r := by unfold rPart; rw [if_neg (by rw [c1]; simp), if_pos c2]
  rw [hE]
  have HPk : Hid (Calls Try.prog 59 #[.pointer (some ⟨kp, 0, none⟩)] w fun e w' => e = .returned (.int .u8 (pk s r.z : Int)) ∧ Fr NoB w w') := by
    have := peek_fn w kp s r.z pv ov h.rd hz
    exact this
  have HC : Hid (∀ X : World, Fr NoB w X → Calls Try.prog 63 #[.pointer (some ⟨kp, 0, none⟩)] X fun x w' => PartSays kp base s (rBox s r) X x w') := fun X hX => toBox_fn X kp base s r pv ov (h.no hX) hC hz (Nat.le_trans hb hX.size) hl
  have HN : Hid _ := fun X => isNumber_fn X (pk s r.z)
  rw [c1] at HN
  have HB : Hid _ := fun X => isBox_fn X (pk s r.z)
  rw [c2] at HB
  clear hE hJ
  go_enter Try.func42, Try.ntmps42
  go_wp2_with (first | (go_at_call 59; refine HPk.out.mono ?_; rintro x w1 ⟨rfl, hF1⟩) | (go_at_call 60; refine (HN.out _).mono ?_; rintro x wn ⟨rfl, hw⟩; have hw2 := hw.symm; clear hw; subst hw2) | (go_at_call 62; refine (HB.out _).mono ?_; rintro x wb ⟨rfl, hw⟩; have hw2 := hw.symm; clear hw; subst hw2) | (go_at_call 63; refine (HC.out _ hF1).mono ?_; rintro x w2 ⟨rfl, ⟨pv2, ov2, hRP⟩, hF2⟩))
  go_end0
  exact ⟨rfl, ⟨pv2, ov2, hRP⟩, hF1.of_no.trans hF2⟩
set_option maxHeartbeats 2000000 in
theorem part_end (w : World) (kp base : Nat) (s : ByteArray) (r : Rs) (pv ov : Value) (h : RdP w kp base s r pv ov (cloL r.P)) (hz : Zb s r.z) (hb : base ≤ w.heap.size) (hJ : RJ s r) (hlt : r.z.1 < s.size) (c1 : pk s r.z = 126) :
    Calls Try.prog 42 #[.pointer (some ⟨kp, 0, none⟩)] w fun x w' => PartSays kp base s (rPart s r) w x w' := by
  have hC := rj_zero hJ
  have hl : r.P.length ≤ 90001 := by have := hJ.pl; have := hz.n; omega
  have hlo : r.O.length ≤ 90001 := by have := hJ.o9; omega
  have hE : rPart s r = rEnd s r := by unfold rPart; rw [c1]; rw [if_neg (by decide), if_neg (by decide), if_pos rfl]
  rw [hE]
  have HPk : Hid (Calls Try.prog 59 #[.pointer (some ⟨kp, 0, none⟩)] w fun e w' => e = .returned (.int .u8 ((126 : Nat) : Int)) ∧ Fr NoB w w') := by
    have := peek_fn w kp s r.z pv ov h.rd hz
    rwa [c1] at this
  have HC : Hid (∀ X : World, Fr NoB w X → Calls Try.prog 64 #[.pointer (some ⟨kp, 0, none⟩)] X fun x w' => PartSays kp base s (rEnd s r) X x w') := fun X hX => ending_fn X kp base s r pv ov (h.no hX) hC hz (Nat.le_trans hb hX.size) hl
  have HN : Hid (∀ X : World, Calls Try.prog 60 #[.int .u8 ((126 : Nat) : Int)] X fun e w' => e = .returned (.bool false) ∧ w' = X) := fun X => isNumber_fn X 126
  have HB : Hid (∀ X : World, Calls Try.prog 62 #[.int .u8 ((126 : Nat) : Int)] X fun e w' => e = .returned (.bool false) ∧ w' = X) := fun X => isBox_fn X 126
  clear hE hJ
  go_enter Try.func42, Try.ntmps42
  go_wp2_with (first | (go_at_call 59; refine HPk.out.mono ?_; rintro x w1 ⟨rfl, hF1⟩) | (go_at_call 60; refine (HN.out _).mono ?_; rintro x wn ⟨rfl, hw⟩; have hw2 := hw.symm; clear hw; subst hw2) | (go_at_call 62; refine (HB.out _).mono ?_; rintro x wb ⟨rfl, hw⟩; have hw2 := hw.symm; clear hw; subst hw2) | (go_at_call 64; refine (HC.out _ hF1).mono ?_; rintro x w2 ⟨rfl, ⟨pv2, ov2, hRP⟩, hF2⟩))
  go_end0
  exact ⟨rfl, ⟨pv2, ov2, hRP⟩, hF1.of_no.trans hF2⟩
set_option maxHeartbeats 2000000 in
theorem part_print (w : World) (kp base : Nat) (s : ByteArray) (r : Rs) (pv ov : Value) (h : RdP w kp base s r pv ov (cloL r.P)) (hz : Zb s r.z) (hb : base ≤ w.heap.size) (hJ : RJ s r) (hlt : r.z.1 < s.size) (c1 : pk s r.z = 33) :
    Calls Try.prog 42 #[.pointer (some ⟨kp, 0, none⟩)] w fun x w' => PartSays kp base s (rPart s r) w x w' := by
  have hC := rj_zero hJ
  have hl : r.P.length ≤ 90001 := by have := hJ.pl; have := hz.n; omega
  have hlo : r.O.length ≤ 90001 := by have := hJ.o9; omega
  have hE : rPart s r = rPrint s r := by unfold rPart; rw [c1]; rw [if_neg (by decide), if_neg (by decide), if_neg (by decide), if_pos rfl]
  rw [hE]
  have HPk : Hid (Calls Try.prog 59 #[.pointer (some ⟨kp, 0, none⟩)] w fun e w' => e = .returned (.int .u8 ((33 : Nat) : Int)) ∧ Fr NoB w w') := by
    have := peek_fn w kp s r.z pv ov h.rd hz
    rwa [c1] at this
  have HC : Hid (∀ X : World, Fr NoB w X → Calls Try.prog 65 #[.pointer (some ⟨kp, 0, none⟩)] X fun x w' => PartSays kp base s (rPrint s r) X x w') := fun X hX => printing_fn X kp base s r pv ov (h.no hX) hC hz (Nat.le_trans hb hX.size) hl
  have HN : Hid (∀ X : World, Calls Try.prog 60 #[.int .u8 ((33 : Nat) : Int)] X fun e w' => e = .returned (.bool false) ∧ w' = X) := fun X => isNumber_fn X 33
  have HB : Hid (∀ X : World, Calls Try.prog 62 #[.int .u8 ((33 : Nat) : Int)] X fun e w' => e = .returned (.bool false) ∧ w' = X) := fun X => isBox_fn X 33
  clear hE hJ
  go_enter Try.func42, Try.ntmps42
  go_wp2_with (first | (go_at_call 59; refine HPk.out.mono ?_; rintro x w1 ⟨rfl, hF1⟩) | (go_at_call 60; refine (HN.out _).mono ?_; rintro x wn ⟨rfl, hw⟩; have hw2 := hw.symm; clear hw; subst hw2) | (go_at_call 62; refine (HB.out _).mono ?_; rintro x wb ⟨rfl, hw⟩; have hw2 := hw.symm; clear hw; subst hw2) | (go_at_call 65; refine (HC.out _ hF1).mono ?_; rintro x w2 ⟨rfl, ⟨pv2, ov2, hRP⟩, hF2⟩))
  go_end0
  exact ⟨rfl, ⟨pv2, ov2, hRP⟩, hF1.of_no.trans hF2⟩
set_option maxHeartbeats 2000000 in
theorem part_if (w : World) (kp base : Nat) (s : ByteArray) (r : Rs) (pv ov : Value) (h : RdP w kp base s r pv ov (cloL r.P)) (hz : Zb s r.z) (hb : base ≤ w.heap.size) (hJ : RJ s r) (hlt : r.z.1 < s.size) (c1 : pk s r.z = 63) :
    Calls Try.prog 42 #[.pointer (some ⟨kp, 0, none⟩)] w fun x w' => PartSays kp base s (rPart s r) w x w' := by
  have hC := rj_zero hJ
  have hl : r.P.length ≤ 90001 := by have := hJ.pl; have := hz.n; omega
  have hlo : r.O.length ≤ 90001 := by have := hJ.o9; omega
  have hE : rPart s r = rOpen s 63 8 r := by unfold rPart; rw [c1]; rw [if_neg (by decide), if_neg (by decide), if_neg (by decide), if_neg (by decide), if_pos rfl]
  rw [hE]
  have HPk : Hid (Calls Try.prog 59 #[.pointer (some ⟨kp, 0, none⟩)] w fun e w' => e = .returned (.int .u8 ((63 : Nat) : Int)) ∧ Fr NoB w w') := by
    have := peek_fn w kp s r.z pv ov h.rd hz
    rwa [c1] at this
  have HC : Hid (∀ X : World, Fr NoB w X → Calls Try.prog 66 #[.pointer (some ⟨kp, 0, none⟩), .int .u8 ((63 : Nat) : Int), .int .i64 ((8 : Nat) : Int)] X fun x w' => PartSays kp base s (rOpen s 63 8 r) X x w') := fun X hX => opening_fn X kp base s r pv ov (h.no hX) hC hz (Nat.le_trans hb hX.size) hl hlo 63 8 (by decide) rfl
  have HN : Hid (∀ X : World, Calls Try.prog 60 #[.int .u8 ((63 : Nat) : Int)] X fun e w' => e = .returned (.bool false) ∧ w' = X) := fun X => isNumber_fn X 63
  have HB : Hid (∀ X : World, Calls Try.prog 62 #[.int .u8 ((63 : Nat) : Int)] X fun e w' => e = .returned (.bool false) ∧ w' = X) := fun X => isBox_fn X 63
  clear hE hJ
  go_enter Try.func42, Try.ntmps42
  go_wp2_with (first | (go_at_call 59; refine HPk.out.mono ?_; rintro x w1 ⟨rfl, hF1⟩) | (go_at_call 60; refine (HN.out _).mono ?_; rintro x wn ⟨rfl, hw⟩; have hw2 := hw.symm; clear hw; subst hw2) | (go_at_call 62; refine (HB.out _).mono ?_; rintro x wb ⟨rfl, hw⟩; have hw2 := hw.symm; clear hw; subst hw2) | (go_at_call 66; refine (HC.out _ hF1).mono ?_; rintro x w2 ⟨rfl, ⟨pv2, ov2, hRP⟩, hF2⟩))
  go_end0
  exact ⟨rfl, ⟨pv2, ov2, hRP⟩, hF1.of_no.trans hF2⟩
set_option maxHeartbeats 2000000 in
theorem part_loop (w : World) (kp base : Nat) (s : ByteArray) (r : Rs) (pv ov : Value) (h : RdP w kp base s r pv ov (cloL r.P)) (hz : Zb s r.z) (hb : base ≤ w.heap.size) (hJ : RJ s r) (hlt : r.z.1 < s.size) (c1 : pk s r.z = 64) :
    Calls Try.prog 42 #[.pointer (some ⟨kp, 0, none⟩)] w fun x w' => PartSays kp base s (rPart s r) w x w' := by
  have hC := rj_zero hJ
  have hl : r.P.length ≤ 90001 := by have := hJ.pl; have := hz.n; omega
  have hlo : r.O.length ≤ 90001 := by have := hJ.o9; omega
  have hE : rPart s r = rOpen s 64 11 r := by unfold rPart; rw [c1]; rw [if_neg (by decide), if_neg (by decide), if_neg (by decide), if_neg (by decide), if_neg (by decide), if_pos rfl]
  rw [hE]
  have HPk : Hid (Calls Try.prog 59 #[.pointer (some ⟨kp, 0, none⟩)] w fun e w' => e = .returned (.int .u8 ((64 : Nat) : Int)) ∧ Fr NoB w w') := by
    have := peek_fn w kp s r.z pv ov h.rd hz
    rwa [c1] at this
  have HC : Hid (∀ X : World, Fr NoB w X → Calls Try.prog 66 #[.pointer (some ⟨kp, 0, none⟩), .int .u8 ((64 : Nat) : Int), .int .i64 ((11 : Nat) : Int)] X fun x w' => PartSays kp base s (rOpen s 64 11 r) X x w') := fun X hX => opening_fn X kp base s r pv ov (h.no hX) hC hz (Nat.le_trans hb hX.size) hl hlo 64 11 (by decide) rfl
  have HN : Hid (∀ X : World, Calls Try.prog 60 #[.int .u8 ((64 : Nat) : Int)] X fun e w' => e = .returned (.bool false) ∧ w' = X) := fun X => isNumber_fn X 64
  have HB : Hid (∀ X : World, Calls Try.prog 62 #[.int .u8 ((64 : Nat) : Int)] X fun e w' => e = .returned (.bool false) ∧ w' = X) := fun X => isBox_fn X 64
  clear hE hJ
  go_enter Try.func42, Try.ntmps42
  go_wp2_with (first | (go_at_call 59; refine HPk.out.mono ?_; rintro x w1 ⟨rfl, hF1⟩) | (go_at_call 60; refine (HN.out _).mono ?_; rintro x wn ⟨rfl, hw⟩; have hw2 := hw.symm; clear hw; subst hw2) | (go_at_call 62; refine (HB.out _).mono ?_; rintro x wb ⟨rfl, hw⟩; have hw2 := hw.symm; clear hw; subst hw2) | (go_at_call 66; refine (HC.out _ hF1).mono ?_; rintro x w2 ⟨rfl, ⟨pv2, ov2, hRP⟩, hF2⟩))
  go_end0
  exact ⟨rfl, ⟨pv2, ov2, hRP⟩, hF1.of_no.trans hF2⟩
set_option maxHeartbeats 2000000 in
theorem part_close (w : World) (kp base : Nat) (s : ByteArray) (r : Rs) (pv ov : Value) (h : RdP w kp base s r pv ov (cloL r.P)) (hz : Zb s r.z) (hb : base ≤ w.heap.size) (hJ : RJ s r) (hlt : r.z.1 < s.size) (c1 : pk s r.z = 125) :
    Calls Try.prog 42 #[.pointer (some ⟨kp, 0, none⟩)] w fun x w' => PartSays kp base s (rPart s r) w x w' := by
  have hC := rj_zero hJ
  have hl : r.P.length ≤ 90001 := by have := hJ.pl; have := hz.n; omega
  have hlo : r.O.length ≤ 90001 := by have := hJ.o9; omega
  have hE : rPart s r = rClose s r := by unfold rPart; rw [c1]; rw [if_neg (by decide), if_neg (by decide), if_neg (by decide), if_neg (by decide), if_neg (by decide), if_neg (by decide), if_pos rfl]
  rw [hE]
  have HPk : Hid (Calls Try.prog 59 #[.pointer (some ⟨kp, 0, none⟩)] w fun e w' => e = .returned (.int .u8 ((125 : Nat) : Int)) ∧ Fr NoB w w') := by
    have := peek_fn w kp s r.z pv ov h.rd hz
    rwa [c1] at this
  have HC : Hid (∀ X : World, Fr NoB w X → Calls Try.prog 67 #[.pointer (some ⟨kp, 0, none⟩)] X fun x w' => PartSays kp base s (rClose s r) X x w') := fun X hX => closing_fn X kp base s r pv ov (h.no hX) hC hz (Nat.le_trans hb hX.size) hl hlo (fun o ho => (hJ.ho o ho).1)
  have HN : Hid (∀ X : World, Calls Try.prog 60 #[.int .u8 ((125 : Nat) : Int)] X fun e w' => e = .returned (.bool false) ∧ w' = X) := fun X => isNumber_fn X 125
  have HB : Hid (∀ X : World, Calls Try.prog 62 #[.int .u8 ((125 : Nat) : Int)] X fun e w' => e = .returned (.bool false) ∧ w' = X) := fun X => isBox_fn X 125
  clear hE hJ
  go_enter Try.func42, Try.ntmps42
  go_wp2_with (first | (go_at_call 59; refine HPk.out.mono ?_; rintro x w1 ⟨rfl, hF1⟩) | (go_at_call 60; refine (HN.out _).mono ?_; rintro x wn ⟨rfl, hw⟩; have hw2 := hw.symm; clear hw; subst hw2) | (go_at_call 62; refine (HB.out _).mono ?_; rintro x wb ⟨rfl, hw⟩; have hw2 := hw.symm; clear hw; subst hw2) | (go_at_call 67; refine (HC.out _ hF1).mono ?_; rintro x w2 ⟨rfl, ⟨pv2, ov2, hRP⟩, hF2⟩))
  go_end0
  exact ⟨rfl, ⟨pv2, ov2, hRP⟩, hF1.of_no.trans hF2⟩
set_option maxHeartbeats 2000000 in
theorem part_none (w : World) (kp base : Nat) (s : ByteArray) (r : Rs) (pv ov : Value) (h : RdP w kp base s r pv ov (cloL r.P)) (hz : Zb s r.z) (hb : base ≤ w.heap.size) (hJ : RJ s r) (hlt : r.z.1 < s.size) (c1 : smallN (pk s r.z) = false) (c2 : greatN (pk s r.z) = false) (c3 : pk s r.z ≠ 126) (c4 : pk s r.z ≠ 33) (c5 : pk s r.z ≠ 63) (c6 : pk s r.z ≠ 64) (c7 : pk s r.z ≠ 125) :
    Calls Try.prog 42 #[.pointer (some ⟨kp, 0, none⟩)] w fun x w' => PartSays kp base s (rPart s r) w x w' := by
  have hC := rj_zero hJ
  have hl : r.P.length ≤ 90001 := by have := hJ.pl; have := hz.n; omega
  have hlo : r.O.length ≤ 90001 := by have := hJ.o9; omega
  have hE : rPart s r = ⟨rf 2 r.z, r.P, r.O⟩ := by unfold rPart; rw [if_neg (by rw [c1]; simp), if_neg (by rw [c2]; simp), if_neg c3, if_neg c4, if_neg c5, if_neg c6, if_neg c7]
  rw [hE]
  have HPk : Hid (Calls Try.prog 59 #[.pointer (some ⟨kp, 0, none⟩)] w fun e w' => e = .returned (.int .u8 (pk s r.z : Int)) ∧ Fr NoB w w') := by
    have := peek_fn w kp s r.z pv ov h.rd hz
    exact this
  have HC : Hid (∀ X : World, Fr NoB w X → Calls Try.prog 43 #[.pointer (some ⟨kp, 0, none⟩), .int .i64 ((2 : Nat) : Int)] X fun x w' => x = .returned (.tuple #[]) ∧ Rd w' kp s (rf 2 r.z) pv ov ∧ Fr (OneB kp) X w') := fun X hX => refuse_fn X kp s r.z pv ov (h.no hX).rd 2
  have HN : Hid _ := fun X => isNumber_fn X (pk s r.z)
  rw [c1] at HN
  have HB : Hid _ := fun X => isBox_fn X (pk s r.z)
  rw [c2] at HB
  have b3 : ((pk s r.z : Int) == 126) = false := beq_eq_false_iff_ne.2 (by omega)
  have b4 : ((pk s r.z : Int) == 33) = false := beq_eq_false_iff_ne.2 (by omega)
  have b5 : ((pk s r.z : Int) == 63) = false := beq_eq_false_iff_ne.2 (by omega)
  have b6 : ((pk s r.z : Int) == 64) = false := beq_eq_false_iff_ne.2 (by omega)
  have b7 : ((pk s r.z : Int) == 125) = false := beq_eq_false_iff_ne.2 (by omega)
  have HR : Hid _ := h
  clear hE hJ
  go_enter Try.func42, Try.ntmps42
  go_wp2_with (first | (go_at_call 59; refine HPk.out.mono ?_; rintro x w1 ⟨rfl, hF1⟩) | (go_at_call 60; refine (HN.out _).mono ?_; rintro x wn ⟨rfl, hw⟩; have hw2 := hw.symm; clear hw; subst hw2) | (go_at_call 62; refine (HB.out _).mono ?_; rintro x wb ⟨rfl, hw⟩; have hw2 := hw.symm; clear hw; subst hw2) | (go_at_call 43; refine (HC.out _ hF1).mono ?_; rintro x w2 ⟨rfl, hR2, hF2⟩))
  go_end0
  exact ⟨rfl, ⟨pv, ov, (h.no hF1).step hF2 hR2⟩, hF1.of_no.trans (hF2.mono (fun k _ e => .inl e))⟩
theorem part_fn (w : World) (kp base : Nat) (s : ByteArray) (r : Rs) (pv ov : Value) (h : RdP w kp base s r pv ov (cloL r.P)) (hz : Zb s r.z) (hb : base ≤ w.heap.size) (hJ : RJ s r) (hlt : r.z.1 < s.size) :
    Calls Try.prog 42 #[.pointer (some ⟨kp, 0, none⟩)] w fun x w' => PartSays kp base s (rPart s r) w x w' := by
  cases c1 : smallN (pk s r.z)
  · cases c2 : greatN (pk s r.z)
    · by_cases c3 : pk s r.z = 126
      · exact part_end w kp base s r pv ov h hz hb hJ hlt c3
      · by_cases c4 : pk s r.z = 33
        · exact part_print w kp base s r pv ov h hz hb hJ hlt c4
        · by_cases c5 : pk s r.z = 63
          · exact part_if w kp base s r pv ov h hz hb hJ hlt c5
          · by_cases c6 : pk s r.z = 64
            · exact part_loop w kp base s r pv ov h hz hb hJ hlt c6
            · by_cases c7 : pk s r.z = 125
              · exact part_close w kp base s r pv ov h hz hb hJ hlt c7
              · exact part_none w kp base s r pv ov h hz hb hJ hlt c1 c2 c3 c4 c5 c6 c7
    · exact part_great w kp base s r pv ov h hz hb hJ hlt c1 c2
  · exact part_small w kp base s r pv ov h hz hb hJ hlt c1
end Go.Proofs.Ythcjcjfgdgnljaa

namespace Go.Proofs.Ythcjcjfgdgnljaa
open Go.RowKit
set_option linter.unusedVariables false

/-- what is asked of 'part' -/
def PartIs (s : ByteArray) : Prop := ∀ (w : World) (kp base : Nat) (r : Rs) (pv ov : Value), RdP w kp base s r pv ov (cloL r.P) → Zb s r.z → base ≤ w.heap.size → RJ s r → r.z.1 < s.size →
    Calls Try.prog 42 #[.pointer (some ⟨kp, 0, none⟩)] w fun x w' => PartSays kp base s (rPart s r) w x w'

/-- what Read answers -/
def ReadSays (s : ByteArray) (w : World) (x : Ending) (w' : World) : Prop := ∃ n, ((rIter s n r0).z.2 ≠ 0 ∨ ¬ (rIter s n r0).z.1 < s.size) ∧ Fr NoB w w' ∧
  (((told (rIter s n r0)).1 ≠ 0 ∧ x = .returned (.tuple #[.slice none 0 0, .int .i64 ((told (rIter s n r0)).1 : Int), .int .i64 ((told (rIter s n r0)).2 : Int)])) ∨
   (told (rIter s n r0) = (0, 0) ∧ (rIter s n r0).z.2 = 0 ∧ (rIter s n r0).O = [] ∧ ∃ ao cap, x = .returned (.tuple #[.slice ao (rIter s n r0).P.length cap, .int .i64 0, .int .i64 0]) ∧ PartRow w' ao (rIter s n r0).P.length (pOf (rIter s n r0).P) (cloL (rIter s n r0).P) ∧ ∀ g, ao = some ⟨g, 0, none⟩ → g < w'.heap.size))

theorem RdP.row {w : World} {kp base : Nat} {s : ByteArray} {r : Rs} {pv ov : Value} {C : Nat → Nat} (h : RdP w kp base s r pv ov C) : ∃ ao cap, pv = .slice ao r.P.length cap ∧ PartRow w ao r.P.length (pOf r.P) C ∧ ∀ g, ao = some ⟨g, 0, none⟩ → g < w.heap.size := by
  have hr := h.pr
  rcases h.pr.2 with ⟨rfl, h0⟩ | ⟨g, cap, cur, rfl, hb, hg, _⟩
  · refine ⟨none, 0, by rw [h0], ?_, fun g e => by cases e⟩
    rw [h0]
    exact ⟨fun q => absurd q (by omega), fun g i j u q => absurd q (by omega)⟩
  · refine ⟨_, _, rfl, ⟨fun _ => ⟨g, rfl⟩, fun g' i j u hi e hu => ?_⟩, fun g' e => ?_⟩
    · injection e with e
      injection e with e
      subst e
      have hj : j < 12 := by
        have := (List.getElem?_eq_some_iff.1 hu).1
        rwa [ptC_len] at this
      exact owns_cell hr (by rw [ptsC_get _ _ _ _ hi hj]; exact hu)
    · injection e with e
      injection e with e
      subst e
      exact (Array.getElem?_eq_some_iff.1 hg).1

/-- how many parts are still to come at most -/
def leftR (s : ByteArray) (r : Rs) : Nat := if r.z.2 = 0 then s.size - r.z.1 + 1 else 0

set_option maxRecDepth 8000 in
set_option maxHeartbeats 4000000 in
theorem read_fn (w : World) (s : ByteArray) (hs : s.size ≤ 90000) (HPart : PartIs s) :
    Calls Try.prog 29 #[.string s] w fun x w' => ReadSays s w x w' := by
  have HP : Hid (PartIs s) := HPart
  clear HPart
  have HS0 : Hid (RdP (w.alloc (.cells #[.string s, .int .i64 0, .slice none 0 0, .slice none 0 0, .int .i64 0] 84)) w.heap.size (w.heap.size + 1) s r0 (.slice none 0 0) (.slice none 0 0) (cloL r0.P)) := by
    refine ⟨⟨cell_new _ _ _ rfl rfl, cell_new _ _ _ rfl rfl, cell_new _ _ _ rfl rfl, cell_new _ _ _ rfl rfl, cell_new _ _ _ rfl rfl, fun o => World.frozen?_alloc_at _ _ _ _ rfl⟩, ⟨rfl, .inl ⟨rfl, rfl⟩⟩, ⟨rfl, .inl ⟨rfl, rfl⟩⟩, Nat.lt_succ_self _, fun g hg => by simp [Value.ownBlock] at hg⟩
  have HF0 : Hid (Fr NoB w (w.alloc (.cells #[.string s, .int .i64 0, .slice none 0 0, .slice none 0 0, .int .i64 0] 84))) := (Fr.refl _ _).alloc _
  have hsz0 : w.heap.size + 1 ≤ (w.alloc (.cells #[.string s, .int .i64 0, .slice none 0 0, .slice none 0 0, .int .i64 0] 84)).heap.size := by simp
  go_enter Try.func29, Try.ntmps29
  go_wp2
  generalize (w.alloc _) = W0 at *
  go_loopg [18] (s.size + 1) (fun k _ wr => ∃ (n : Nat) (pv ov : Value), leftR s (rIter s n r0) ≤ k ∧ RJ s (rIter s n r0) ∧ RdP wr w.heap.size (w.heap.size + 1) s (rIter s n r0) pv ov (cloL (rIter s n r0).P) ∧ Fr NoB w wr ∧ w.heap.size + 1 ≤ wr.heap.size)
  case atStart => exact ⟨0, _, _, Nat.le_refl _, rj0 s, HS0.out, HF0.out, hsz0⟩
  case round =>
    obtain ⟨n, pv, ov, hk, hJ, hR, hF, hsz⟩ := hrel
    have hnext : rIter s (n + 1) r0 = rStep s (rIter s n r0) := by rw [rIter_add]; rfl
    have Hn : Hid (rIter s (n + 1) r0 = rStep s (rIter s n r0)) := hnext
    clear hnext
    generalize hr : rIter s n r0 = r at *
    have Hr : Hid (rIter s n r0 = r) := hr
    clear hr HS0 HF0
    obtain ⟨ao, cap, rfl, hrow, hgl⟩ := hR.row
    obtain ⟨oo, oc, rfl⟩ := owns_form hR.orow
    have c1 := hR.rd.c1
    have c2 := hR.rd.c2
    have c3 := hR.rd.c3
    have c4 := hR.rd.c4
    have hw3 := hJ.w3
    have hin : r.z.1 ≤ s.size := hJ.hin
    have HR : Hid (RdP wr w.heap.size (w.heap.size + 1) s r (.slice ao r.P.length cap) (.slice oo r.O.length oc) (cloL r.P)) := hR
    have HJ : Hid (RJ s r) := hJ
    have HF : Hid (Fr NoB w wr) := hF
    have Hrow : Hid _ := And.intro hrow hgl
    clear hR hJ hF hrow hgl
    by_cases h2 : r.z.2 = 0
    · have b2 : ((r.z.2 : Int) == 0) = true := by rw [h2]; rfl
      by_cases hl : r.z.1 < s.size
      · have hstep : rStep s r = rPart s r := by unfold rStep; rw [if_pos ⟨h2, hl⟩]
        have hpr := rj_part hs HJ.out h2 hl
        have HJ2 : Hid (RJ s (rIter s (n + 1) r0)) := by show RJ s _; rw [Hn.out, hstep]; exact hpr.1
        have Hlt : Hid (leftR s (rIter s (n + 1) r0) < gk) := by
          show leftR s _ < gk
          rw [Hn.out, hstep]
          have h3 : leftR s r = s.size - r.z.1 + 1 := by unfold leftR; rw [if_pos h2]
          have h4 : leftR s (rPart s r) < leftR s r := by
            rw [h3]
            unfold leftR
            split
            · rename_i q
              rcases hpr.2 with q2 | q2
              · exact absurd q q2
              · have : (rPart s r).z.1 ≤ s.size := hpr.1.hin
                omega
            · omega
          omega
        have HPt : Hid (∀ (_ : Unit), Calls Try.prog 42 #[.pointer (some ⟨w.heap.size, 0, none⟩)] wr fun x w' => PartSays w.heap.size (w.heap.size + 1) s (rIter s (n + 1) r0) wr x w') := fun _ => by
          rw [Hn.out, hstep]
          exact HP.out wr w.heap.size (w.heap.size + 1) r _ _ HR.out ⟨HJ.out.hin, HJ.out.w3, hs⟩ hsz HJ.out hl
        clear hstep hpr h2
        go_wp2_with (go_at_call 42; refine (HPt.out ()).mono ?_; rintro x w2 ⟨rfl, ⟨pv2, ov2, hRP⟩, hF2⟩)
        go_roundg (leftR s (rIter s (n + 1) r0))
        case measure => exact Hlt.out
        case rel => exact ⟨n + 1, pv2, ov2, Nat.le_refl _, HJ2.out, hRP, HF.out.then hF2 (fun k hk e => by unfold StkS at e; omega), Nat.le_trans hsz hF2.size⟩
      · by_cases hO : r.O = []
        · have b3 : decide (0 < r.O.length) = false := by rw [hO]; rfl
          have HT : Hid (told (rIter s n r0) = (0, 0)) := by show told _ = _; rw [Hr.out]; unfold told; rw [if_neg (fun q => q h2), if_pos hO]
          have H2 : Hid (r.z.2 = 0 ∧ r.O = []) := ⟨h2, hO⟩
          have b4 : ((r.z.2 : Int) != 0) = false := by rw [h2]; rfl
          clear h2 hO
          go_wp2
          go_ret3
          refine ⟨n, .inr (by rw [Hr.out]; exact hl), HF.out, .inr ⟨HT.out, by rw [Hr.out]; exact H2.out.1, by rw [Hr.out]; exact H2.out.2, ao, cap, by rw [Hr.out]; rfl, by rw [Hr.out]; exact Hrow.out.1, Hrow.out.2⟩⟩
        · have hOl : 0 < r.O.length := List.length_pos_iff.2 hO
          have HT : Hid (told (rIter s n r0) = (2, r.z.1)) := by show told _ = _; rw [Hr.out]; unfold told; rw [if_neg (fun q => q h2), if_neg hO]
          have HRf : Hid (rf 2 r.z = (r.z.1, 2)) := rf_ok 2 h2
          clear h2 hO
          go_wp2_with (go_at_call 43; refine (refuse_fn _ w.heap.size s r.z _ _ HR.out.rd 2).mono ?_; rintro x w2 ⟨rfl, hR2, hF2⟩; rw [HRf.out] at hR2; have e1 := hR2.c1; have e4 := hR2.c4)
          go_quiet (fail)
          go_wp2
          go_ret3
          refine ⟨n, .inr (by rw [Hr.out]; exact hl), (HF.out.then hF2 (fun k hk e => by unfold OneB at e; omega)).drewN _, .inl ⟨by rw [HT.out]; simp, by rw [HT.out]; rfl⟩⟩
    · have b2 : ((r.z.2 : Int) == 0) = false := beq_eq_false_iff_ne.2 (by omega)
      have b4 : ((r.z.2 : Int) != 0) = true := bne_iff_ne.2 (by omega)
      have HT : Hid (told (rIter s n r0) = (r.z.2, r.z.1)) := by show told _ = _; rw [Hr.out]; unfold told; rw [if_pos h2]
      have H2 : Hid (r.z.2 ≠ 0) := h2
      have HRf : Hid (rf 2 r.z = r.z) := rf_bad 2 h2
      clear h2
      by_cases hO : 0 < r.O.length
      · go_wp2_with (go_at_call 43; refine (refuse_fn _ w.heap.size s r.z _ _ HR.out.rd 2).mono ?_; rintro x w2 ⟨rfl, hR2, hF2⟩; rw [HRf.out] at hR2; have e1 := hR2.c1; have e4 := hR2.c4)
        go_quiet (fail)
        go_wp2
        go_ret3
        refine ⟨n, .inl (by rw [Hr.out]; exact H2.out), (HF.out.then hF2 (fun k hk e => by unfold OneB at e; omega)).drewN _, .inl ⟨by rw [HT.out]; exact H2.out, by rw [HT.out]; rfl⟩⟩
      · have hO0 : r.O.length = 0 := by omega
        have b3 : decide (0 < r.O.length) = false := by rw [hO0]; rfl
        clear hO hO0
        go_wp2
        go_quiet (fail)
        go_wp2
        go_ret3
        refine ⟨n, .inl (by rw [Hr.out]; exact H2.out), HF.out.drewN _, .inl ⟨by rw [HT.out]; exact H2.out, by rw [HT.out]; rfl⟩⟩
end Go.Proofs.Ythcjcjfgdgnljaa

namespace Go.Proofs.Ythcjcjfgdgnljaa
open Go.RowKit
set_option linter.unusedVariables false

set_option maxHeartbeats 400000 in
theorem first_zero (w : World) (pc ga ac : Nat) (ao : Option Addr) :
    Calls Try.prog 31 #[.slice ao 0 pc, .slice (some ⟨ga, 0, none⟩) 0 ac] w fun e w' => e = .returned (.tuple #[.int .i64 0, .bool false]) ∧ Fr NoB w w' := by
  go_enter Try.func31, Try.ntmps31
  go_wp2
  go_loop [6] (fun t => t = .int .i64 0) (fun _ => 0)
  case atStart => rfl
  case round =>
    subst hrel
    go_wp2
    go_ret2
    exact ⟨rfl, Fr.refl _ _⟩
set_option maxRecDepth 8000 in
set_option maxHeartbeats 4000000 in
theorem devCheck_fn (w : World) (s : ByteArray) (hs : s.size ≤ 9223372036854775807) (HPart : s.size ≤ 400 → PartIs s) :
    Calls Try.prog 17 #[.string s] w fun e w' => e = .returned (.tuple #[.int .i64 ((checkN s).1 : Nat), .int .i64 (checkN s).2]) ∧ Fr NoB w w' := by
  by_cases h4 : 400 < s.size
  · have hc : checkN s = (1, 0) := by unfold checkN; rw [if_pos h4]
    rw [hc]
    clear hc HPart
    go_enter Try.func17, Try.ntmps17
    go_wp2
    go_ret2
    exact ⟨rfl, Fr.refl _ _⟩
  · have h9 : s.size ≤ 90000 := by omega
    have HRd : Hid (∀ X : World, Calls Try.prog 29 #[.string s] X fun x w' => ReadSays s X x w') := fun X => read_fn X s h9 (HPart (by omega))
    clear HPart
    have hck : checkN s = if (run s [(83, true)] 0 0).1 ≠ 0 then ((run s [(83, true)] 0 0).1, ((run s [(83, true)] 0 0).2 : Int)) else if 0 ≤ misT s then (4, misT s) else (0, 0) := by unfold checkN; rw [if_neg h4]
    have Hck : Hid _ := hck
    clear hck
    generalize hcc : checkN s = cc at *
    clear hcc
    go_enter Try.func17, Try.ntmps17
    go_wp2_with fail
    refine (HRd.out _).mono ?_
    rintro x w1 ⟨n, hst, hF1, hor⟩
    have hrun := run_told h9 n hst
    rcases hor with ⟨hne, rfl⟩ | ⟨ht, hz, hO, ao, cap, rfl, hrow, hgl⟩
    · have HE : Hid (cc = ((told (rIter s n r0)).1, ((told (rIter s n r0)).2 : Int))) := by
        show cc = _
        rw [Hck.out, hrun, if_pos hne]
      have b1 : (((told (rIter s n r0)).1 : Int) != 0) = true := bne_iff_ne.2 (by omega)
      generalize told (rIter s n r0) = tt at *
      clear hrun hst hne Hck HRd
      go_wp2
      go_ret2
      rw [HE.out]
      exact ⟨rfl, hF1⟩
    · have hl : ¬ (rIter s n r0).z.1 < s.size := by
        rcases hst with q | q
        · exact absurd hz q
        · exact q
      have hseg := seg_told h9 n hz hl hO
      have hJ := rj_iter h9 n (rj0 s)
      have HCC : Hid (cc = if 0 ≤ misT s then (4, misT s) else (0, 0)) := by
        show cc = _
        rw [Hck.out, hrun, ht, if_neg (by simp)]
      have hn : (rIter s n r0).P.length ≤ 100000 := by have := hJ.pl; have h5 : (rIter s n r0).z.1 ≤ s.size := hJ.hin; omega
      have hfl := hJ.fl
      generalize (rIter s n r0).P = P at *
      have HFd : Hid (∀ X : World, Fr NoB w1 X → Calls Try.prog 30 #[.slice ao P.length cap] X fun e w' => FindSays (pOf P) s P.length X e w') := fun X hX => find_fn X P.length cap ao (pOf P) (cloL P) s hn hfl (hrow.no hX) hseg (fun g e => Nat.lt_of_lt_of_le (hgl g e) hX.size)
      have HFl : Hid (FlatOk (pOf P) P.length) := hfl
      have Hrow : Hid _ := hrow
      clear hrun hst Hck HRd ht hz hO hl hseg hJ hfl hrow hgl
      go_wp2_with fail
      refine (HFd.out _ (Fr.refl _ _)).mono ?_
      rintro x w2 ⟨ga, A, B, rfl, hA, hsg, hF2⟩
      have hmis : misT s = scan (pOf P) A 0 P.length := scan_mis hsg
      have HFs : Hid (Calls Try.prog 31 #[.slice ao P.length cap, .slice (some ⟨ga, 0, none⟩) P.length P.length] w2 fun e w' => e = .returned (firstV (misT s)) ∧ Fr NoB w2 w') := by
        rw [hmis]
        by_cases q : P.length = 0
        · have hs0 : scan (pOf P) A 0 P.length = -1 := by rw [q]; rfl
          rw [hs0, firstV_neg (by omega), q]
          exact first_zero w2 cap ga 0 ao
        · exact first_fn w2 P.length cap ga P.length ao (pOf P) (cloL P) A B hn HFl.out (Hrow.out.no hF2) hA (World.block_lt_of_cell? w2 ⟨ga, 0 * 2, none⟩ (hA.a 0 (by omega)))
      clear hmis hsg hA
      generalize misT s = M at *
      by_cases hM : 0 ≤ M
      · rw [firstV_pos hM] at HFs
        have HE : Hid (cc = (4, M)) := by show cc = _; rw [HCC.out, if_pos hM]
        clear hM HCC
        go_wp2_with fail
        refine Calls.mono HFs.out ?_
        rintro x w3 ⟨rfl, hF3⟩
        go_wp2
        go_ret2
        rw [HE.out]
        exact ⟨rfl, (hF1.trans hF2).trans hF3⟩
      · rw [firstV_neg hM] at HFs
        have HE : Hid (cc = (0, 0)) := by show cc = _; rw [HCC.out, if_neg hM]
        clear hM HCC
        go_wp2_with fail
        refine Calls.mono HFs.out ?_
        rintro x w3 ⟨rfl, hF3⟩
        go_wp2
        go_ret2
        rw [HE.out]
        exact ⟨rfl, (hF1.trans hF2).trans hF3⟩

set_option maxHeartbeats 1000000 in
theorem checks_any (w : World) (s : ByteArray) (hs : s.size ≤ 9223372036854775807) (HPart : s.size ≤ 400 → PartIs s) :
    Calls Try.prog 4 #[.string s] w fun e w' => e = .returned (.bool true) ∧ Fr NoB w w' := by
  have H1 : Hid _ := fun X => devCheck_fn X s hs HPart
  have H2 : Hid _ := fun X => refCheck_fn X s hs
  generalize checkN s = cc at *
  obtain ⟨a, b⟩ := cc
  simp only [] at H1 H2
  clear HPart
  go_enter Try.func4, Try.ntmps4
  go_wp2_with (first | (go_at_call 17; refine (H1.out _).mono ?_; rintro x w1 ⟨rfl, hF1⟩) | (go_at_call 18; refine (H2.out _).mono ?_; rintro x w2 ⟨rfl, hF2⟩))
  go_ret
  exact ⟨by simp, hF1.trans hF2⟩
end Go.Proofs.Ythcjcjfgdgnljaa
