/-
  DevX, DevY: one behind the other.
-/
import Derived.Test.YtcmnejcojphijaaDoorP18DevW
namespace Go.Proofs.YtcmnejcojphijaaDoor
open Go.RowKit
set_option linter.unusedVariables false

theorem Zb.rf {s : ByteArray} {z : Nat × Nat} (h : Zb s z) {e : Nat} (he : e = 2 ∨ e = 3) : Zb s (rf e z) := ⟨h.i.rf e, (mo_rf he z).w h.w, h.n⟩
theorem Zb.tk {s : ByteArray} {z : Nat × Nat} (h : Zb s z) {c : Nat} (hc : c ≠ 0) : Zb s (tk s c z) := ⟨h.i.tk hc, (mo_tk s c z).w h.w, h.n⟩
theorem Zb.bx {s : ByteArray} {z : Nat × Nat} (h : Zb s z) : Zb s (bx s z) := ⟨h.i.bx, (mo_bx s z).w h.w, h.n⟩
theorem Zb.op {s : ByteArray} {z : Nat × Nat} (h : Zb s z) : Zb s (op s z) := ⟨h.i.op, (mo_op s z).w h.w, h.n⟩
theorem Zb.ix {s : ByteArray} {z : Nat × Nat} (h : Zb s z) : Zb s (ix s z) := ⟨h.i.ix, (mo_ix s z).w h.w, h.n⟩
theorem Zb.rk {s : ByteArray} {z : Nat × Nat} (h : Zb s z) : Zb s (rk s z) := ⟨h.i.rk, (mo_rk s z).w h.w, h.n⟩
set_option maxHeartbeats 400000 in
theorem isNumber_fn (w : World) (c : Nat) : Calls Tryd.prog 26 #[.int .u8 (c : Int)] w fun e w' => e = .returned (.bool (smallN c)) ∧ w' = w := by
  by_cases h1 : 97 ≤ c
  · have hd : smallN c = decide ((c : Int) ≤ 122) := by
      have : decide ((c : Int) ≤ 122) = decide (c ≤ 122) := by simp; omega
      rw [this]; simp [smallN, h1]
    rw [hd]
    clear hd
    go_enter Tryd.func26, Tryd.ntmps26
    go_wp2
    go_ret
    exact ⟨rfl, rfl⟩
  · have hd : smallN c = false := by simp [smallN]; omega
    rw [hd]
    clear hd
    go_enter Tryd.func26, Tryd.ntmps26
    go_wp2
    go_ret
    exact ⟨rfl, rfl⟩
set_option maxHeartbeats 400000 in
theorem isBox_fn (w : World) (c : Nat) : Calls Tryd.prog 28 #[.int .u8 (c : Int)] w fun e w' => e = .returned (.bool (greatN c)) ∧ w' = w := by
  by_cases h1 : 65 ≤ c
  · have hd : greatN c = decide ((c : Int) ≤ 90) := by
      have : decide ((c : Int) ≤ 90) = decide (c ≤ 90) := by simp; omega
      rw [this]; simp [greatN, h1]
    rw [hd]
    clear hd
    go_enter Tryd.func28, Tryd.ntmps28
    go_wp2
    go_ret
    exact ⟨rfl, rfl⟩
  · have hd : greatN c = false := by simp [greatN]; omega
    rw [hd]
    clear hd
    go_enter Tryd.func28, Tryd.ntmps28
    go_wp2
    go_ret
    exact ⟨rfl, rfl⟩
set_option maxHeartbeats 400000 in
theorem isDigit_fn (w : World) (c : Nat) : Calls Tryd.prog 51 #[.int .u8 (c : Int)] w fun e w' => e = .returned (.bool (digitN c)) ∧ w' = w := by
  by_cases h1 : 48 ≤ c
  · have hd : digitN c = decide ((c : Int) ≤ 57) := by
      have : decide ((c : Int) ≤ 57) = decide (c ≤ 57) := by simp; omega
      rw [this]; simp [digitN, h1]
    rw [hd]
    clear hd
    go_enter Tryd.func51, Tryd.ntmps51
    go_wp2
    go_ret
    exact ⟨rfl, rfl⟩
  · have hd : digitN c = false := by simp [digitN]; omega
    rw [hd]
    clear hd
    go_enter Tryd.func51, Tryd.ntmps51
    go_wp2
    go_ret
    exact ⟨rfl, rfl⟩

section
variable (w : World) (kp : Nat) (s : ByteArray) (z : Nat × Nat) (pv ov : Value)
set_option maxHeartbeats 1000000 in
theorem refuse_fn (h : Rd w kp s z pv ov) (e : Nat) :
    Calls Tryd.prog 18 #[.pointer (some ⟨kp, 0, none⟩), .int .i64 (e : Int)] w fun x w' => x = .returned (.tuple #[]) ∧ Rd w' kp s (rf e z) pv ov ∧ Fr (OneB kp) w w' := by
  have c4 := h.c4
  have f4 := h.f 4
  have HR : Hid (Rd w kp s z pv ov) := h
  clear h
  by_cases h2 : z.2 = 0
  · have b1 : ((z.2 : Int) == 0) = true := by rw [h2]; rfl
    have HE : Hid (rf e z = (z.1, e)) := rf_ok e h2
    clear h2
    go_enter Tryd.func18, Tryd.ntmps18
    go_wp2
    go_end0
    exact ⟨rfl, by rw [HE.out]; exact HR.out.set4 e, (Fr.refl (OneB kp) _).setCell (p := ⟨kp, 4, none⟩) (fun _ => rfl) _⟩
  · have b1 : ((z.2 : Int) == 0) = false := beq_eq_false_iff_ne.2 (by omega)
    have HE : Hid (rf e z = z) := rf_bad e h2
    clear h2
    go_enter Tryd.func18, Tryd.ntmps18
    go_wp2
    go_end0
    exact ⟨rfl, by rw [HE.out]; exact HR.out, Fr.refl _ _⟩
set_option maxHeartbeats 1000000 in
theorem take_fn (h : Rd w kp s z pv ov) (hz : Zb s z) (c : Nat) (hc : c ≠ 0) :
    Calls Tryd.prog 38 #[.pointer (some ⟨kp, 0, none⟩), .int .u8 (c : Int)] w fun x w' => x = .returned (.tuple #[]) ∧ Rd w' kp s (tk s c z) pv ov ∧ Fr (OneB kp) w w' := by
  have HR : Hid (Rd w kp s z pv ov) := h
  have Hz : Hid (Zb s z) := hz
  clear h hz
  by_cases e : pk s z = c
  · have b1 : ((pk s z : Int) != (c : Int)) = false := by rw [e]; simp
    obtain ⟨hl, _, _⟩ := pk_in (s := s) (z := z) (by rw [e]; exact hc)
    have HE : Hid (tk s c z = (z.1 + 1, z.2)) := by show tk s c z = _; unfold tk; rw [if_pos e]
    have hn := Hz.out.n
    clear e
    go_enter Tryd.func38, Tryd.ntmps38
    go_wp2_with (go_at_call 25; refine (peek_fn _ kp s _ pv ov HR.out Hz.out).mono ?_; rintro e w1 ⟨rfl, hF1⟩; have HR1 : Hid _ := HR.out.no hF1; have c1 := HR1.out.c1; have f1 := HR1.out.f 1)
    go_end0
    exact ⟨rfl, by rw [HE.out]; exact HR1.out.set1 (z.1 + 1), (hF1.of_no (T := OneB kp)).setCell (p := ⟨kp, 1, none⟩) (fun _ => rfl) _⟩
  · have b1 : ((pk s z : Int) != (c : Int)) = true := bne_iff_ne.2 (by omega)
    have HE : Hid (tk s c z = rf 2 z) := by show tk s c z = _; unfold tk; rw [if_neg e]
    clear e
    go_enter Tryd.func38, Tryd.ntmps38
    go_wp2_with (first | (go_at_call 25; refine (peek_fn _ kp s _ pv ov HR.out Hz.out).mono ?_; rintro e w1 ⟨rfl, hF1⟩) | (go_at_call 18; refine (refuse_fn _ kp s z pv ov (HR.out.no hF1) 2).mono ?_; rintro x w2 ⟨rfl, hR2, hF2⟩))
    exact bodyPost_ret (v := .tuple #[]) (by simp [results, Tryd.results38, go_sem]) rfl ⟨rfl, by rw [HE.out]; exact hR2, hF1.of_no.trans hF2⟩
set_option maxHeartbeats 1000000 in
theorem box_fn (h : Rd w kp s z pv ov) (hz : Zb s z) :
    Calls Tryd.prog 39 #[.pointer (some ⟨kp, 0, none⟩)] w fun x w' => x = .returned (.int .i64 (bxV s z : Int)) ∧ Rd w' kp s (bx s z) pv ov ∧ Fr (OneB kp) w w' := by
  have HR : Hid (Rd w kp s z pv ov) := h
  have Hz : Hid (Zb s z) := hz
  clear h hz
  cases e : greatN (pk s z)
  · have HE : Hid (bx s z = rf 2 z) := by show bx s z = _; unfold bx; rw [e]; rfl
    have HV : Hid (bxV s z = 0) := by show bxV s z = _; unfold bxV; rw [e]; rfl
    have HG : Hid _ := fun X => isBox_fn X (pk s z)
    rw [e] at HG
    clear e
    go_enter Tryd.func39, Tryd.ntmps39
    go_wp2_with (first | (go_at_call 25; refine (peek_fn _ kp s _ pv ov HR.out Hz.out).mono ?_; rintro e w1 ⟨rfl, hF1⟩) | (go_at_call 28; refine (HG.out _).mono ?_; rintro x w2 ⟨rfl, hw⟩; have hw2 := hw.symm; clear hw; subst hw2) | (go_at_call 18; refine (refuse_fn _ kp s z pv ov (HR.out.no hF1) 2).mono ?_; rintro x w2 ⟨rfl, hR2, hF2⟩))
    go_ret
    exact ⟨by rw [HV.out]; rfl, by rw [HE.out]; exact hR2, hF1.of_no.trans hF2⟩
  · have HE : Hid (bx s z = (z.1 + 1, z.2)) := by show bx s z = _; unfold bx; rw [if_pos e]
    have HV : Hid (bxV s z = pk s z - 65) := by show bxV s z = _; unfold bxV; rw [if_pos e]
    have HG : Hid _ := fun X => isBox_fn X (pk s z)
    rw [e] at HG
    obtain ⟨hl, _, _⟩ := pk_in (great0 e)
    have hn := Hz.out.n
    obtain ⟨k1, k2⟩ := great_k e
    rw [← HV.out] at k1 k2
    generalize bxV s z = k at *
    have HPk : Hid (∀ X : World, Fr NoB w X → Calls Tryd.prog 25 #[.pointer (some ⟨kp, 0, none⟩)] X fun e w' => e = .returned (.int .u8 ((k + 65 : Nat) : Int)) ∧ Fr NoB X w') := fun X hX => by
      have := peek_fn X kp s z pv ov (HR.out.no hX) Hz.out
      rwa [k2] at this
    rw [k2] at HG
    clear e k2 HV
    go_enter Tryd.func39, Tryd.ntmps39
    go_wp2_with (first | (go_at_call 25; refine (HPk.out _ (Fr.refl _ _)).mono ?_; rintro e w1 ⟨rfl, hF1⟩; have HR1 : Hid _ := HR.out.no hF1; have c1 := HR1.out.c1; have f1 := HR1.out.f 1) | (go_at_call 28; refine (HG.out _).mono ?_; rintro x w2 ⟨rfl, hw⟩; have hw2 := hw.symm; clear hw; subst hw2))
    go_ret
    exact ⟨rfl, by rw [HE.out]; exact HR1.out.set1 (z.1 + 1), (hF1.of_no (T := OneB kp)).setCell (p := ⟨kp, 1, none⟩) (fun _ => rfl) _⟩
end
end Go.Proofs.YtcmnejcojphijaaDoor

namespace Go.Proofs.YtcmnejcojphijaaDoor
open Go.RowKit
set_option linter.unusedVariables false

section
variable (w : World) (kp : Nat) (s : ByteArray) (z : Nat × Nat) (pv ov : Value)
set_option maxRecDepth 8000 in
set_option maxHeartbeats 2000000 in
theorem rvalue_fn (h : Rd w kp s z pv ov) (hz : Zb s z) :
    Calls Tryd.prog 52 #[.pointer (some ⟨kp, 0, none⟩)] w fun x w' => x = .returned (.int .i64 (dgV s 3 z 0 : Int)) ∧ Rd w' kp s (dg s 3 z) pv ov ∧ Fr (OneB kp) w w' := by
  have HR : Hid (Rd w kp s z pv ov) := h
  have Hz : Hid (Zb s z) := hz
  clear h hz
  generalize hG : dgV s 3 z 0 = G
  have HG : Hid _ := hG
  clear hG
  go_enter Tryd.func52, Tryd.ntmps52
  go_wp2
  go_loopw [3, 4] (fun tv t wr => ∃ (n a : Nat) (y : Nat × Nat), n ≤ 3 ∧ t = .int .i64 n ∧ tv = .int .i64 a ∧ a < 10 ^ n ∧ dg s 3 z = dg s (3 - n) y ∧ G = dgV s (3 - n) y a ∧ Rd wr kp s y pv ov ∧ Zb s y ∧ Fr (OneB kp) w wr) (fun _ t _ => 3 - (intOf t).toNat)
  case atStart => exact ⟨0, 0, z, by omega, rfl, rfl, by decide, rfl, HG.out.symm, HR.out, Hz.out, Fr.refl _ _⟩
  case round =>
    obtain ⟨n, a, y, hn, rfl, rfl, ha, hdg, hdv, hR, hzy, hF⟩ := hrel
    have HRy : Hid (Rd wr kp s y pv ov) := hR
    have Hzy : Hid (Zb s y) := hzy
    have HFy : Hid (Fr (OneB kp) w wr) := hF
    have Hdg : Hid _ := hdg
    have Hdv : Hid _ := hdv
    clear hR hzy hF hdg hdv HR HG
    have ha3 : a < 1000 := Nat.lt_of_lt_of_le ha (Nat.le_trans (Nat.pow_le_pow_right (by decide) hn) (by decide))
    by_cases hlt : n < 3
    · have HD : Hid _ := fun X => isDigit_fn X (pk s y)
      have hstep : dg s (3 - n) y = if digitN (pk s y) = true then dg s (3 - (n + 1)) (y.1 + 1, y.2) else y := by
        rw [show 3 - n = (3 - (n + 1)) + 1 by omega]; rfl
      have hstepV : dgV s (3 - n) y a = if digitN (pk s y) = true then dgV s (3 - (n + 1)) (y.1 + 1, y.2) (a * 10 + (pk s y - 48)) else a := by
        rw [show 3 - n = (3 - (n + 1)) + 1 by omega]; rfl
      cases e : digitN (pk s y)
      · rw [e] at HD hstep hstepV
        have HX : Hid (dg s 3 z = y) := Hdg.out.trans hstep
        have HXv : Hid (G = a) := Hdv.out.trans hstepV
        clear hstep hstepV e Hdg Hdv ha
        go_wp2_with (first | (go_at_call 25; refine (peek_fn _ kp s y pv ov HRy.out Hzy.out).mono ?_; rintro x w2 ⟨rfl, hF2⟩) | (go_at_call 51; refine (HD.out _).mono ?_; rintro x w4 ⟨rfl, hw⟩; have hw2 := hw.symm; clear hw; subst hw2))
        go_ret
        exact ⟨by rw [HXv.out]; rfl, by rw [HX.out]; exact HRy.out.no hF2, HFy.out.trans hF2.of_no⟩
      · rw [e] at HD hstep hstepV
        have HX : Hid (dg s 3 z = dg s (3 - (n + 1)) (y.1 + 1, y.2)) := Hdg.out.trans hstep
        have HXv : Hid (G = dgV s (3 - (n + 1)) (y.1 + 1, y.2) (a * 10 + (pk s y - 48))) := Hdv.out.trans hstepV
        have hl := (pk_in (digit0 e)).1
        have hsn := Hzy.out.n
        have HZ : Hid (Zb s (y.1 + 1, y.2)) := ⟨hl, Hzy.out.w, Hzy.out.n⟩
        obtain ⟨k, hk1, hk2⟩ : ∃ k, k < 10 ∧ pk s y = k + 48 := ⟨pk s y - 48, by simp [digitN] at e; omega, by simp [digitN] at e; omega⟩
        have HPk : Hid (∀ X : World, Rd X kp s y pv ov → Calls Tryd.prog 25 #[.pointer (some ⟨kp, 0, none⟩)] X fun e w' => e = .returned (.int .u8 ((k + 48 : Nat) : Int)) ∧ Fr NoB X w') := fun X hX => by
          have := peek_fn X kp s y pv ov hX Hzy.out
          rwa [hk2] at this
        rw [hk2] at HD HXv
        have HA : Hid (a * 10 + (k + 48 - 48) < 10 ^ (n + 1)) := by
          show _ < _
          rw [Nat.pow_succ]
          omega
        clear hstep hstepV e Hdg Hdv hk2 ha
        go_wp2_with (first | (go_at_call 25; refine (HPk.out _ HRy.out).mono ?_; rintro x w2 ⟨rfl, hF2⟩; have HR2 : Hid (Rd w2 kp s y pv ov) := HRy.out.no hF2; have c1 := HR2.out.c1; have f1 := HR2.out.f 1) | (go_at_call 51; refine (HD.out _).mono ?_; rintro x w4 ⟨rfl, hw⟩; have hw2 := hw.symm; clear hw; subst hw2))
        go_roundw
        case rel => exact ⟨n + 1, a * 10 + (k + 48 - 48), (y.1 + 1, y.2), by omega, by go_num, by go_num, HA.out, HX.out, HXv.out, HR2.out.set1 (y.1 + 1), HZ.out, (HFy.out.trans hF2.of_no).setCell (p := ⟨kp, 1, none⟩) (fun _ => rfl) _⟩
        case measure => simp [intOf]; omega
    · have hn3 : n = 3 := by omega
      subst hn3
      have HX : Hid (dg s 3 z = y) := Hdg.out
      have HXv : Hid (G = a) := Hdv.out
      clear Hdg Hdv ha
      go_wp2
      go_ret
      exact ⟨by rw [HXv.out]; rfl, by rw [HX.out]; exact HRy.out, HFy.out⟩
/-- an operand as a value -/
def odW (o : Od) : Value := .agg #[.bool (odB o), .int .i64 (odI o : Int)]
theorem Rd.far {w : World} {kp rb : Nat} {s : ByteArray} {z : Nat × Nat} {pv ov : Value} (h : Rd w kp s z pv ov) (hne : ¬ OneB kp rb) (u v : Value) : Rd ((w.setCell ⟨rb, 0, none⟩ u).setCell ⟨rb, 1, none⟩ v) kp s z pv ov :=
  h.fr (((Fr.refl (OneB rb) w).setCell (p := ⟨rb, 0, none⟩) (fun _ => rfl) u).setCell (p := ⟨rb, 1, none⟩) (fun _ => rfl) v) (fun e => hne (by unfold OneB at e ⊢; omega))
set_option maxRecDepth 8000 in
set_option maxHeartbeats 2000000 in
theorem operand_fn (h : Rd w kp s z pv ov) (hz : Zb s z) :
    Calls Tryd.prog 42 #[.pointer (some ⟨kp, 0, none⟩)] w fun x w' => x = .returned (odW (opV s z)) ∧ Rd w' kp s (op s z) pv ov ∧ Fr (OneB kp) w w' := by
  have HR : Hid (Rd w kp s z pv ov) := h
  have Hz : Hid (Zb s z) := hz
  have hkl := h.lt
  clear h hz
  have HN : Hid _ := fun X => isNumber_fn X (pk s z)
  have HD : Hid _ := fun X => isDigit_fn X (pk s z)
  cases e : smallN (pk s z)
  · rw [e] at HN
    cases e2 : digitN (pk s z)
    · rw [e2] at HD
      have HE : Hid (op s z = rf 2 z) := by show op s z = _; unfold op; rw [e, e2]; rfl
      have HV : Hid (opV s z = .v 0) := by show opV s z = _; unfold opV; rw [e, e2]; rfl
      clear e e2
      go_enter Tryd.func42, Tryd.ntmps42
      go_upto_region 1 with fail
      have HW0 : Hid (Rd (w.alloc (Obj.cells #[Value.bool false, Value.int .i64 0] 58)) kp s z pv ov ∧ Fr NoB w (w.alloc (Obj.cells #[Value.bool false, Value.int .i64 0] 58))) := ⟨HR.out.no ((Fr.refl _ _).alloc _), (Fr.refl _ _).alloc _⟩
      have r0 : (w.alloc (Obj.cells #[Value.bool false, Value.int .i64 0] 58)).cell? ⟨w.heap.size, 0, none⟩ = some (.bool false) := cell_new _ _ _ rfl rfl
      have r1 : (w.alloc (Obj.cells #[Value.bool false, Value.int .i64 0] 58)).cell? ⟨w.heap.size, 1, none⟩ = some (.int .i64 0) := cell_new _ _ _ rfl rfl
      have rf0 : (w.alloc (Obj.cells #[Value.bool false, Value.int .i64 0] 58)).frozen? ⟨w.heap.size, 0, none⟩ = false := World.frozen?_alloc_at _ _ _ _ rfl
      have rf1 : (w.alloc (Obj.cells #[Value.bool false, Value.int .i64 0] 58)).frozen? ⟨w.heap.size, 1, none⟩ = false := World.frozen?_alloc_at _ _ _ _ rfl
      have hrk : ¬ OneB kp w.heap.size := fun e => by unfold OneB at e; omega
      have hrl : w.heap.size < (w.alloc (Obj.cells #[Value.bool false, Value.int .i64 0] 58)).heap.size := by simp
      have hfin : Hid (∀ {S : Nat → Prop} {X : World}, Fr S (w.alloc (Obj.cells #[Value.bool false, Value.int .i64 0] 58)) X → (∀ k, S k → OneB kp k) → ∀ u v : Value, Fr (OneB kp) w ((X.setCell ⟨w.heap.size, 0, none⟩ u).setCell ⟨w.heap.size, 1, none⟩ v)) := fun {S X} hX hS u v =>
        (((((Fr.refl _ _).alloc _).trans (hX.mono (fun k _ q => hS k q))).setCell (p := ⟨w.heap.size, 0, none⟩) (fun q => absurd q (by simp)) u).setCell (p := ⟨w.heap.size, 1, none⟩) (fun q => absurd q (by simp)) v)
      generalize (w.alloc (Obj.cells #[Value.bool false, Value.int .i64 0] 58)) = W0 at *
      generalize w.heap.size = rb at *
      go_wp2_with (first | (go_at_call 25; refine (peek_fn _ kp s z pv ov HW0.out.1 Hz.out).mono ?_; rintro x w1 ⟨rfl, hF1⟩) | (go_at_call 26; refine (HN.out _).mono ?_; rintro x w3 ⟨rfl, hw⟩; have hw2 := hw.symm; clear hw; subst hw2) | (go_at_call 51; refine (HD.out _).mono ?_; rintro x w4 ⟨rfl, hw⟩; have hw2 := hw.symm; clear hw; subst hw2) | (go_at_call 18; refine (refuse_fn _ kp s z pv ov (HW0.out.1.no hF1) 2).mono ?_; rintro x w2 ⟨rfl, hR2, hF2⟩; have hF3 := (hF1.of_no (T := OneB kp)).trans hF2; have s0 := hF3.cell_some r0 hrk; have s1 := hF3.cell_some r1 hrk; have sf0 := (hF3.frozen (p := ⟨rb, 0, none⟩) hrl hrk).trans rf0; have sf1 := (hF3.frozen (p := ⟨rb, 1, none⟩) hrl hrk).trans rf1))
      have h2 := two_set (u0 := Value.bool false) (u1 := Value.int .i64 0) s0 s1
      exact bodyPost_ret (v := .agg #[.bool false, .int .i64 0]) (by simp [results, Tryd.results42, go_sem, h2.1, h2.2]) rfl ⟨by rw [HV.out]; rfl, by rw [HE.out]; exact hR2.far hrk _ _, hfin.out hF3 (fun _ q => q) _ _⟩
    · rw [e2] at HD
      have HE : Hid (op s z = dg s 3 z) := by show op s z = _; unfold op; rw [e, e2]; rfl
      have HV : Hid (opV s z = .v (dgV s 3 z 0)) := by show opV s z = _; unfold opV; rw [e, e2]; rfl
      clear e e2
      go_enter Tryd.func42, Tryd.ntmps42
      go_upto_region 1 with fail
      have HW0 : Hid (Rd (w.alloc (Obj.cells #[Value.bool false, Value.int .i64 0] 58)) kp s z pv ov ∧ Fr NoB w (w.alloc (Obj.cells #[Value.bool false, Value.int .i64 0] 58))) := ⟨HR.out.no ((Fr.refl _ _).alloc _), (Fr.refl _ _).alloc _⟩
      have r0 : (w.alloc (Obj.cells #[Value.bool false, Value.int .i64 0] 58)).cell? ⟨w.heap.size, 0, none⟩ = some (.bool false) := cell_new _ _ _ rfl rfl
      have r1 : (w.alloc (Obj.cells #[Value.bool false, Value.int .i64 0] 58)).cell? ⟨w.heap.size, 1, none⟩ = some (.int .i64 0) := cell_new _ _ _ rfl rfl
      have rf0 : (w.alloc (Obj.cells #[Value.bool false, Value.int .i64 0] 58)).frozen? ⟨w.heap.size, 0, none⟩ = false := World.frozen?_alloc_at _ _ _ _ rfl
      have rf1 : (w.alloc (Obj.cells #[Value.bool false, Value.int .i64 0] 58)).frozen? ⟨w.heap.size, 1, none⟩ = false := World.frozen?_alloc_at _ _ _ _ rfl
      have hrk : ¬ OneB kp w.heap.size := fun e => by unfold OneB at e; omega
      have hrl : w.heap.size < (w.alloc (Obj.cells #[Value.bool false, Value.int .i64 0] 58)).heap.size := by simp
      have hfin : Hid (∀ {S : Nat → Prop} {X : World}, Fr S (w.alloc (Obj.cells #[Value.bool false, Value.int .i64 0] 58)) X → (∀ k, S k → OneB kp k) → ∀ u v : Value, Fr (OneB kp) w ((X.setCell ⟨w.heap.size, 0, none⟩ u).setCell ⟨w.heap.size, 1, none⟩ v)) := fun {S X} hX hS u v =>
        (((((Fr.refl _ _).alloc _).trans (hX.mono (fun k _ q => hS k q))).setCell (p := ⟨w.heap.size, 0, none⟩) (fun q => absurd q (by simp)) u).setCell (p := ⟨w.heap.size, 1, none⟩) (fun q => absurd q (by simp)) v)
      generalize (w.alloc (Obj.cells #[Value.bool false, Value.int .i64 0] 58)) = W0 at *
      generalize w.heap.size = rb at *
      go_wp2_with (first | (go_at_call 25; refine (peek_fn _ kp s z pv ov HW0.out.1 Hz.out).mono ?_; rintro x w1 ⟨rfl, hF1⟩) | (go_at_call 26; refine (HN.out _).mono ?_; rintro x w3 ⟨rfl, hw⟩; have hw2 := hw.symm; clear hw; subst hw2) | (go_at_call 51; refine (HD.out _).mono ?_; rintro x w4 ⟨rfl, hw⟩; have hw2 := hw.symm; clear hw; subst hw2) | (go_at_call 52; refine (rvalue_fn _ kp s z pv ov (HW0.out.1.no hF1) Hz.out).mono ?_; rintro x w2 ⟨rfl, hR2, hF2⟩; have hF3 := (hF1.of_no (T := OneB kp)).trans hF2; have s0 := hF3.cell_some r0 hrk; have s1 := hF3.cell_some r1 hrk; have sf0 := (hF3.frozen (p := ⟨rb, 0, none⟩) hrl hrk).trans rf0; have sf1 := (hF3.frozen (p := ⟨rb, 1, none⟩) hrl hrk).trans rf1))
      have h2 := two_set (u0 := Value.bool false) (u1 := Value.int .i64 (dgV s 3 z 0 : Int)) s0 s1
      exact bodyPost_ret (v := .agg #[.bool false, .int .i64 (dgV s 3 z 0 : Int)]) (by simp [results, Tryd.results42, go_sem, h2.1, h2.2]) rfl ⟨by rw [HV.out]; rfl, by rw [HE.out]; exact hR2.far hrk _ _, hfin.out hF3 (fun _ q => q) _ _⟩
  · rw [e] at HN
    have HE : Hid (op s z = (z.1 + 1, z.2)) := by show op s z = _; unfold op; rw [if_pos e]
    obtain ⟨k, hk1, hk2⟩ : ∃ k, k < 26 ∧ pk s z = k + 97 := ⟨pk s z - 97, by simp [smallN] at e; omega, by simp [smallN] at e; omega⟩
    have HV : Hid (opV s z = .n k) := by show opV s z = _; unfold opV; rw [if_pos e, hk2]; rfl
    have hl := (pk_in (small0 e)).1
    have hn := Hz.out.n
    have HPk : Hid (∀ X : World, Rd X kp s z pv ov → Calls Tryd.prog 25 #[.pointer (some ⟨kp, 0, none⟩)] X fun e w' => e = .returned (.int .u8 ((k + 97 : Nat) : Int)) ∧ Fr NoB X w') := fun X hX => by
      have := peek_fn X kp s z pv ov hX Hz.out
      rwa [hk2] at this
    rw [hk2] at HN
    clear e hk2 HD
    go_enter Tryd.func42, Tryd.ntmps42
    go_upto_region 1 with fail
    have HW0 : Hid (Rd (w.alloc (Obj.cells #[Value.bool false, Value.int .i64 0] 58)) kp s z pv ov ∧ Fr NoB w (w.alloc (Obj.cells #[Value.bool false, Value.int .i64 0] 58))) := ⟨HR.out.no ((Fr.refl _ _).alloc _), (Fr.refl _ _).alloc _⟩
    have r0 : (w.alloc (Obj.cells #[Value.bool false, Value.int .i64 0] 58)).cell? ⟨w.heap.size, 0, none⟩ = some (.bool false) := cell_new _ _ _ rfl rfl
    have r1 : (w.alloc (Obj.cells #[Value.bool false, Value.int .i64 0] 58)).cell? ⟨w.heap.size, 1, none⟩ = some (.int .i64 0) := cell_new _ _ _ rfl rfl
    have rf0 : (w.alloc (Obj.cells #[Value.bool false, Value.int .i64 0] 58)).frozen? ⟨w.heap.size, 0, none⟩ = false := World.frozen?_alloc_at _ _ _ _ rfl
    have rf1 : (w.alloc (Obj.cells #[Value.bool false, Value.int .i64 0] 58)).frozen? ⟨w.heap.size, 1, none⟩ = false := World.frozen?_alloc_at _ _ _ _ rfl
    have hrk : ¬ OneB kp w.heap.size := fun e => by unfold OneB at e; omega
    have hrl : w.heap.size < (w.alloc (Obj.cells #[Value.bool false, Value.int .i64 0] 58)).heap.size := by simp
    have hfin : Hid (∀ {S : Nat → Prop} {X : World}, Fr S (w.alloc (Obj.cells #[Value.bool false, Value.int .i64 0] 58)) X → (∀ k, S k → OneB kp k) → ∀ u v : Value, Fr (OneB kp) w ((X.setCell ⟨w.heap.size, 0, none⟩ u).setCell ⟨w.heap.size, 1, none⟩ v)) := fun {S X} hX hS u v =>
      (((((Fr.refl _ _).alloc _).trans (hX.mono (fun k _ q => hS k q))).setCell (p := ⟨w.heap.size, 0, none⟩) (fun q => absurd q (by simp)) u).setCell (p := ⟨w.heap.size, 1, none⟩) (fun q => absurd q (by simp)) v)
    generalize (w.alloc (Obj.cells #[Value.bool false, Value.int .i64 0] 58)) = W0 at *
    generalize w.heap.size = rb at *
    go_wp2_with (first | (go_at_call 25; refine (HPk.out _ HW0.out.1).mono ?_; rintro x w1 ⟨rfl, hF1⟩; have HR1 : Hid (Rd w1 kp s z pv ov) := HW0.out.1.no hF1; have c1 := HR1.out.c1; have f1 := HR1.out.f 1; have s0 := hF1.cell_some r0 id; have s1 := hF1.cell_some r1 id; have sf0 := (hF1.frozen (p := ⟨rb, 0, none⟩) hrl id).trans rf0; have sf1 := (hF1.frozen (p := ⟨rb, 1, none⟩) hrl id).trans rf1; have hne2 : kp ≠ rb := (fun q => hrk (by unfold OneB; omega))) | (go_at_call 26; refine (HN.out _).mono ?_; rintro x w3 ⟨rfl, hw⟩; have hw2 := hw.symm; clear hw; subst hw2))
    have s0' : (w1.setCell ⟨kp, 1, none⟩ (Value.int .i64 ((z.1 : Int) + 1))).cell? ⟨rb, 0, none⟩ = some (.bool false) := (cell_other (.inl hne2)).trans s0
    have s1' : (w1.setCell ⟨kp, 1, none⟩ (Value.int .i64 ((z.1 : Int) + 1))).cell? ⟨rb, 1, none⟩ = some (.int .i64 0) := (cell_other (.inl hne2)).trans s1
    have h2 := two_set (u0 := Value.bool true) (u1 := Value.int .i64 (k : Int)) s0' s1'
    exact bodyPost_ret (v := .agg #[.bool true, .int .i64 (k : Int)]) (by simp [results, Tryd.results42, go_sem, h2.1, h2.2]) rfl ⟨by rw [HV.out]; rfl, by rw [HE.out]; exact (HR1.out.set1 (z.1 + 1)).far hrk _ _, hfin.out ((hF1.of_no (T := OneB kp)).setCell (p := ⟨kp, 1, none⟩) (fun _ => rfl) _) (fun _ q => q) _ _⟩
set_option maxRecDepth 8000 in
set_option maxHeartbeats 1000000 in
theorem index_fn (h : Rd w kp s z pv ov) (hz : Zb s z) :
    Calls Tryd.prog 40 #[.pointer (some ⟨kp, 0, none⟩)] w fun x w' => x = .returned (odW (ixV s z)) ∧ Rd w' kp s (ix s z) pv ov ∧ Fr (OneB kp) w w' := by
  have HR : Hid (Rd w kp s z pv ov) := h
  have Hz : Hid (Zb s z) := hz
  have hkl := h.lt
  clear h hz
  go_enter Tryd.func40, Tryd.ntmps40
  go_upto_region 1 with fail
  have HW0 : Hid (Rd (w.alloc (Obj.cells #[Value.bool false, Value.int .i64 0] 58)) kp s z pv ov ∧ Fr NoB w (w.alloc (Obj.cells #[Value.bool false, Value.int .i64 0] 58))) := ⟨HR.out.no ((Fr.refl _ _).alloc _), (Fr.refl _ _).alloc _⟩
  have r0 : (w.alloc (Obj.cells #[Value.bool false, Value.int .i64 0] 58)).cell? ⟨w.heap.size, 0, none⟩ = some (.bool false) := cell_new _ _ _ rfl rfl
  have r1 : (w.alloc (Obj.cells #[Value.bool false, Value.int .i64 0] 58)).cell? ⟨w.heap.size, 1, none⟩ = some (.int .i64 0) := cell_new _ _ _ rfl rfl
  have rf0 : (w.alloc (Obj.cells #[Value.bool false, Value.int .i64 0] 58)).frozen? ⟨w.heap.size, 0, none⟩ = false := World.frozen?_alloc_at _ _ _ _ rfl
  have rf1 : (w.alloc (Obj.cells #[Value.bool false, Value.int .i64 0] 58)).frozen? ⟨w.heap.size, 1, none⟩ = false := World.frozen?_alloc_at _ _ _ _ rfl
  have hrk : ¬ OneB kp w.heap.size := fun e => by unfold OneB at e; omega
  have hrl : w.heap.size < (w.alloc (Obj.cells #[Value.bool false, Value.int .i64 0] 58)).heap.size := by simp
  have hfin : Hid (∀ {S : Nat → Prop} {X : World}, Fr S (w.alloc (Obj.cells #[Value.bool false, Value.int .i64 0] 58)) X → (∀ k, S k → OneB kp k) → ∀ u v : Value, Fr (OneB kp) w ((X.setCell ⟨w.heap.size, 0, none⟩ u).setCell ⟨w.heap.size, 1, none⟩ v)) := fun {S X} hX hS u v =>
    (((((Fr.refl _ _).alloc _).trans (hX.mono (fun k _ q => hS k q))).setCell (p := ⟨w.heap.size, 0, none⟩) (fun q => absurd q (by simp)) u).setCell (p := ⟨w.heap.size, 1, none⟩) (fun q => absurd q (by simp)) v)
  generalize (w.alloc (Obj.cells #[Value.bool false, Value.int .i64 0] 58)) = W0 at *
  generalize w.heap.size = rb at *
  go_wp2_with fail
  refine (take_fn _ kp s z pv ov HW0.out.1 Hz.out 91 (by decide)).mono ?_
  rintro x w1 ⟨rfl, hR1, hF1⟩
  have HV : Hid (ixV s z = opV s (tk s 91 z)) := rfl
  have Hz1 : Hid (Zb s (tk s 91 z)) := Hz.out.tk (by decide)
  have HX : Hid (ix s z = tk s 93 (op s (tk s 91 z))) := rfl
  generalize tk s 91 z = z1 at *
  go_wp2_with fail
  refine (operand_fn _ kp s _ pv ov hR1 Hz1.out).mono ?_
  rintro x w2 ⟨rfl, hR2, hF2⟩
  unfold odW
  have hF12 := hF1.trans hF2
  have hF3 : Fr (OneB kp) W0 (w2.alloc (Obj.cells #[Value.bool (odB (opV s z1)), Value.int .i64 (odI (opV s z1) : Int)] 58)) := hF12.alloc _
  have hR3 := hR2.no ((Fr.refl NoB w2).alloc (Obj.cells #[Value.bool (odB (opV s z1)), Value.int .i64 (odI (opV s z1) : Int)] 58))
  have p0 : (w2.alloc (Obj.cells #[Value.bool (odB (opV s z1)), Value.int .i64 (odI (opV s z1) : Int)] 58)).cell? ⟨w2.heap.size, 0, none⟩ = some (.bool (odB (opV s z1))) := cell_new _ _ _ rfl rfl
  have p1 : (w2.alloc (Obj.cells #[Value.bool (odB (opV s z1)), Value.int .i64 (odI (opV s z1) : Int)] 58)).cell? ⟨w2.heap.size, 1, none⟩ = some (.int .i64 (odI (opV s z1) : Int)) := cell_new _ _ _ rfl rfl
  have hkl2 : kp < w2.heap.size := hR2.lt
  have hrl2 : rb < w2.heap.size := Nat.lt_of_lt_of_le hrl hF12.size
  have Hz2 : Hid (Zb s (op s z1)) := Hz1.out.op
  go_upto_region 3 with fail
  generalize (w2.alloc (Obj.cells #[Value.bool (odB (opV s z1)), Value.int .i64 (odI (opV s z1) : Int)] 58)) = W3 at *
  generalize hqb : w2.heap.size = qb at *
  have hqk : ¬ OneB kp qb := fun e => by unfold OneB at e; omega
  have HOW : Hid (odW (ixV s z) = .agg #[.bool (odB (opV s z1)), .int .i64 (odI (opV s z1) : Int)]) := by show odW (ixV s z) = _; rw [HV.out]; rfl
  generalize odB (opV s z1) = ob at *
  generalize odI (opV s z1) = oi at *
  go_wp2_with fail
  refine (take_fn _ kp s _ pv ov hR3 Hz2.out 93 (by decide)).mono ?_
  rintro x w4 ⟨rfl, hR4, hF4⟩
  have q0 := hF4.cell_some p0 hqk
  have q1 := hF4.cell_some p1 hqk
  have hF5 := hF3.trans hF4
  have s0 := hF5.cell_some r0 hrk
  have s1 := hF5.cell_some r1 hrk
  have sf0 := (hF5.frozen (p := ⟨rb, 0, none⟩) hrl hrk).trans rf0
  have sf1 := (hF5.frozen (p := ⟨rb, 1, none⟩) hrl hrk).trans rf1
  go_wp2
  have h2 := two_set (u0 := Value.bool ob) (u1 := Value.int .i64 (oi : Int)) s0 s1
  exact bodyPost_ret (v := .agg #[.bool ob, .int .i64 (oi : Int)]) (by simp [results, Tryd.results40, go_sem, h2.1, h2.2]) rfl ⟨by rw [HOW.out], by rw [HX.out]; exact hR4.far hrk _ _, hfin.out hF5 (fun _ q => q) _ _⟩
end
end Go.Proofs.YtcmnejcojphijaaDoor
