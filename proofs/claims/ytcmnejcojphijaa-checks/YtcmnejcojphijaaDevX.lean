/-
  The program's reader in memory: what takes bytes.
-/
import Derived.Test.YtcmnejcojphijaaDevW
namespace Go.Proofs.Ytcmnejcojphijaa
open Go.RowKit
set_option linter.unusedVariables false

theorem Zb.rf {s : ByteArray} {z : Nat × Nat} (h : Zb s z) {e : Nat} (he : e = 2 ∨ e = 3) : Zb s (rf e z) := ⟨h.i.rf e, (mo_rf he z).w h.w, h.n⟩
theorem Zb.tk {s : ByteArray} {z : Nat × Nat} (h : Zb s z) {c : Nat} (hc : c ≠ 0) : Zb s (tk s c z) := ⟨h.i.tk hc, (mo_tk s c z).w h.w, h.n⟩
theorem Zb.bx {s : ByteArray} {z : Nat × Nat} (h : Zb s z) : Zb s (bx s z) := ⟨h.i.bx, (mo_bx s z).w h.w, h.n⟩
theorem Zb.op {s : ByteArray} {z : Nat × Nat} (h : Zb s z) : Zb s (op s z) := ⟨h.i.op, (mo_op s z).w h.w, h.n⟩
theorem Zb.ix {s : ByteArray} {z : Nat × Nat} (h : Zb s z) : Zb s (ix s z) := ⟨h.i.ix, (mo_ix s z).w h.w, h.n⟩
theorem Zb.rk {s : ByteArray} {z : Nat × Nat} (h : Zb s z) : Zb s (rk s z) := ⟨h.i.rk, (mo_rk s z).w h.w, h.n⟩
theorem pk_lt (s : ByteArray) (z : Nat × Nat) : pk s z < 256 := by
  unfold pk
  split
  · exact bt_lt s _
  · omega

set_option maxHeartbeats 400000 in
theorem isNumber_fn (w : World) (c : Nat) : Calls Try.prog 49 #[.int .u8 (c : Int)] w fun e w' => e = .returned (.bool (smallN c)) ∧ w' = w := by
  by_cases h1 : 97 ≤ c
  · have hd : smallN c = decide ((c : Int) ≤ 122) := by
      have : decide ((c : Int) ≤ 122) = decide (c ≤ 122) := by simp; omega
      rw [this]; simp [smallN, h1]
    rw [hd]
    clear hd
    go_enter Try.func49, Try.ntmps49
    go_wp2
    go_ret
    exact ⟨rfl, rfl⟩
  · have hd : smallN c = false := by simp [smallN]; omega
    rw [hd]
    clear hd
    go_enter Try.func49, Try.ntmps49
    go_wp2
    go_ret
    exact ⟨rfl, rfl⟩
set_option maxHeartbeats 400000 in
theorem isBox_fn (w : World) (c : Nat) : Calls Try.prog 51 #[.int .u8 (c : Int)] w fun e w' => e = .returned (.bool (greatN c)) ∧ w' = w := by
  by_cases h1 : 65 ≤ c
  · have hd : greatN c = decide ((c : Int) ≤ 90) := by
      have : decide ((c : Int) ≤ 90) = decide (c ≤ 90) := by simp; omega
      rw [this]; simp [greatN, h1]
    rw [hd]
    clear hd
    go_enter Try.func51, Try.ntmps51
    go_wp2
    go_ret
    exact ⟨rfl, rfl⟩
  · have hd : greatN c = false := by simp [greatN]; omega
    rw [hd]
    clear hd
    go_enter Try.func51, Try.ntmps51
    go_wp2
    go_ret
    exact ⟨rfl, rfl⟩
set_option maxHeartbeats 400000 in
theorem isDigit_fn (w : World) (c : Nat) : Calls Try.prog 79 #[.int .u8 (c : Int)] w fun e w' => e = .returned (.bool (digitN c)) ∧ w' = w := by
  by_cases h1 : 48 ≤ c
  · have hd : digitN c = decide ((c : Int) ≤ 57) := by
      have : decide ((c : Int) ≤ 57) = decide (c ≤ 57) := by simp; omega
      rw [this]; simp [digitN, h1]
    rw [hd]
    clear hd
    go_enter Try.func79, Try.ntmps79
    go_wp2
    go_ret
    exact ⟨rfl, rfl⟩
  · have hd : digitN c = false := by simp [digitN]; omega
    rw [hd]
    clear hd
    go_enter Try.func79, Try.ntmps79
    go_wp2
    go_ret
    exact ⟨rfl, rfl⟩

section
variable (w : World) (kp : Nat) (s : ByteArray) (z : Nat × Nat) (pv ov : Value)
set_option maxHeartbeats 1000000 in
theorem refuse_fn (h : Rd w kp s z pv ov) (e : Nat) :
    Calls Try.prog 36 #[.pointer (some ⟨kp, 0, none⟩), .int .i64 (e : Int)] w fun x w' => x = .returned (.tuple #[]) ∧ Rd w' kp s (rf e z) pv ov ∧ Fr (OneB kp) w w' := by
  have c4 := h.c4
  have f4 := h.f 4
  have HR : Hid (Rd w kp s z pv ov) := h
  clear h
  by_cases h2 : z.2 = 0
  · have b1 : ((z.2 : Int) == 0) = true := by rw [h2]; rfl
    have HE : Hid (rf e z = (z.1, e)) := rf_ok e h2
    clear h2
    go_enter Try.func36, Try.ntmps36
    go_wp2
    go_end0
    exact ⟨rfl, by rw [HE.out]; exact HR.out.set4 e, (Fr.refl (OneB kp) _).setCell (p := ⟨kp, 4, none⟩) (fun _ => rfl) _⟩
  · have b1 : ((z.2 : Int) == 0) = false := beq_eq_false_iff_ne.2 (by omega)
    have HE : Hid (rf e z = z) := rf_bad e h2
    clear h2
    go_enter Try.func36, Try.ntmps36
    go_wp2
    go_end0
    exact ⟨rfl, by rw [HE.out]; exact HR.out, Fr.refl _ _⟩
set_option maxHeartbeats 1000000 in
theorem take_fn (h : Rd w kp s z pv ov) (hz : Zb s z) (c : Nat) (hc : c ≠ 0) :
    Calls Try.prog 68 #[.pointer (some ⟨kp, 0, none⟩), .int .u8 (c : Int)] w fun x w' => x = .returned (.tuple #[]) ∧ Rd w' kp s (tk s c z) pv ov ∧ Fr (OneB kp) w w' := by
  have HR : Hid (Rd w kp s z pv ov) := h
  have Hz : Hid (Zb s z) := hz
  clear h hz
  by_cases e : pk s z = c
  · have b1 : ((pk s z : Int) != (c : Int)) = false := by rw [e]; simp
    obtain ⟨hl, _, _⟩ := pk_in (s := s) (z := z) (by rw [e]; exact hc)
    have HE : Hid (tk s c z = (z.1 + 1, z.2)) := by show tk s c z = _; unfold tk; rw [if_pos e]
    have hn := Hz.out.n
    clear e
    go_enter Try.func68, Try.ntmps68
    go_wp2_with (go_at_call 48; refine (peek_fn _ kp s _ pv ov HR.out Hz.out).mono ?_; rintro e w1 ⟨rfl, hF1⟩; have HR1 : Hid _ := HR.out.no hF1; have c1 := HR1.out.c1; have f1 := HR1.out.f 1)
    go_end0
    exact ⟨rfl, by rw [HE.out]; exact HR1.out.set1 (z.1 + 1), (hF1.of_no (T := OneB kp)).setCell (p := ⟨kp, 1, none⟩) (fun _ => rfl) _⟩
  · have b1 : ((pk s z : Int) != (c : Int)) = true := bne_iff_ne.2 (by omega)
    have HE : Hid (tk s c z = rf 2 z) := by show tk s c z = _; unfold tk; rw [if_neg e]
    clear e
    go_enter Try.func68, Try.ntmps68
    go_wp2_with (first | (go_at_call 48; refine (peek_fn _ kp s _ pv ov HR.out Hz.out).mono ?_; rintro e w1 ⟨rfl, hF1⟩) | (go_at_call 36; refine (refuse_fn _ kp s z pv ov (HR.out.no hF1) 2).mono ?_; rintro x w2 ⟨rfl, hR2, hF2⟩))
    exact bodyPost_ret (v := .tuple #[]) (by simp [results, Try.results68, go_sem]) rfl ⟨rfl, by rw [HE.out]; exact hR2, hF1.of_no.trans hF2⟩
set_option maxHeartbeats 1000000 in
theorem box_fn (h : Rd w kp s z pv ov) (hz : Zb s z) :
    Calls Try.prog 69 #[.pointer (some ⟨kp, 0, none⟩)] w fun x w' => x = .returned (.int .i64 (bxV s z : Int)) ∧ Rd w' kp s (bx s z) pv ov ∧ Fr (OneB kp) w w' := by
  have HR : Hid (Rd w kp s z pv ov) := h
  have Hz : Hid (Zb s z) := hz
  clear h hz
  cases e : greatN (pk s z)
  · have HE : Hid (bx s z = rf 2 z) := by show bx s z = _; unfold bx; rw [e]; rfl
    have HV : Hid (bxV s z = 0) := by show bxV s z = _; unfold bxV; rw [e]; rfl
    have HG : Hid _ := fun X => isBox_fn X (pk s z)
    rw [e] at HG
    clear e
    go_enter Try.func69, Try.ntmps69
    go_wp2_with (first | (go_at_call 48; refine (peek_fn _ kp s _ pv ov HR.out Hz.out).mono ?_; rintro e w1 ⟨rfl, hF1⟩) | (go_at_call 51; refine (HG.out _).mono ?_; rintro x w2 ⟨rfl, hw⟩; have hw2 := hw.symm; clear hw; subst hw2) | (go_at_call 36; refine (refuse_fn _ kp s z pv ov (HR.out.no hF1) 2).mono ?_; rintro x w2 ⟨rfl, hR2, hF2⟩))
    go_ret
    exact ⟨by rw [HV.out]; rfl, by rw [HE.out]; exact hR2, hF1.of_no.trans hF2⟩
  · have HE : Hid (bx s z = (z.1 + 1, z.2)) := by show bx s z = _; unfold bx; rw [if_pos e]
    have HV : Hid (bxV s z = pk s z - 65) := by show bxV s z = _; unfold bxV; rw [if_pos e]
    have HG : Hid _ := fun X => isBox_fn X (pk s z)
    rw [e] at HG
    obtain ⟨hl, _, _⟩ := pk_in (great0 e)
    have hn := Hz.out.n
    obtain ⟨k1, k2⟩ := great_k e
    rw [← HV.out] at k1 k2
    generalize bxV s z = k at *
    have HPk : Hid (∀ X : World, Fr NoB w X → Calls Try.prog 48 #[.pointer (some ⟨kp, 0, none⟩)] X fun e w' => e = .returned (.int .u8 ((k + 65 : Nat) : Int)) ∧ Fr NoB X w') := fun X hX => by
      have := peek_fn X kp s z pv ov (HR.out.no hX) Hz.out
      rwa [k2] at this
    rw [k2] at HG
    clear e k2 HV
    go_enter Try.func69, Try.ntmps69
    go_wp2_with (first | (go_at_call 48; refine (HPk.out _ (Fr.refl _ _)).mono ?_; rintro e w1 ⟨rfl, hF1⟩; have HR1 : Hid _ := HR.out.no hF1; have c1 := HR1.out.c1; have f1 := HR1.out.f 1) | (go_at_call 51; refine (HG.out _).mono ?_; rintro x w2 ⟨rfl, hw⟩; have hw2 := hw.symm; clear hw; subst hw2))
    go_ret
    exact ⟨rfl, by rw [HE.out]; exact HR1.out.set1 (z.1 + 1), (hF1.of_no (T := OneB kp)).setCell (p := ⟨kp, 1, none⟩) (fun _ => rfl) _⟩
end
end Go.Proofs.Ytcmnejcojphijaa
