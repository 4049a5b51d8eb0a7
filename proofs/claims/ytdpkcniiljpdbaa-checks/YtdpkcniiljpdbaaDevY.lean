/-
  The program's reader in memory: operands.
-/
import Derived.Test.YtdpkcniiljpdbaaDevX
namespace Go.Proofs.Ytdpkcniiljpdbaa
open Go.RowKit
set_option linter.unusedVariables false

section
variable (w : World) (kp : Nat) (s : ByteArray) (z : Nat × Nat) (pv ov : Value)
set_option maxRecDepth 8000 in
set_option maxHeartbeats 2000000 in
theorem operand_fn (h : Rd w kp s z pv ov) (hz : Zb s z) :
    Calls Try.prog 72 #[.pointer (some ⟨kp, 0, none⟩)] w fun x w' => x = .returned (.tuple #[]) ∧ Rd w' kp s (op s z) pv ov ∧ Fr (OneB kp) w w' := by
  have HR : Hid (Rd w kp s z pv ov) := h
  have Hz : Hid (Zb s z) := hz
  clear h hz
  have HN : Hid _ := fun X => isNumber_fn X (pk s z)
  have HD : Hid _ := fun X => isDigit_fn X (pk s z)
  cases e : smallN (pk s z)
  · rw [e] at HN
    cases e2 : digitN (pk s z)
    · rw [e2] at HD
      have HE : Hid (op s z = rf 2 z) := by show op s z = _; unfold op; rw [e, e2]; rfl
      clear e e2
      go_enter Try.func72, Try.ntmps72
      go_wp2_with (first | (go_at_call 48; refine (peek_fn _ kp s z pv ov HR.out Hz.out).mono ?_; rintro x w1 ⟨rfl, hF1⟩) | (go_at_call 49; refine (HN.out _).mono ?_; rintro x w3 ⟨rfl, hw⟩; have hw2 := hw.symm; clear hw; subst hw2) | (go_at_call 79; refine (HD.out _).mono ?_; rintro x w4 ⟨rfl, hw⟩; have hw2 := hw.symm; clear hw; subst hw2) | (go_at_call 36; refine (refuse_fn _ kp s z pv ov (HR.out.no hF1) 2).mono ?_; rintro x w2 ⟨rfl, hR2, hF2⟩))
      exact bodyPost_ret (v := .tuple #[]) (by simp [results, Try.results72, go_sem]) rfl ⟨rfl, by rw [HE.out]; exact hR2, hF1.of_no.trans hF2⟩
    · rw [e2] at HD
      have HE : Hid (op s z = dg s 3 z) := by show op s z = _; unfold op; rw [e, e2]; rfl
      clear e e2
      go_enter Try.func72, Try.ntmps72
      go_wp2_with (first | (go_at_call 48; refine (peek_fn _ kp s z pv ov HR.out Hz.out).mono ?_; rintro x w1 ⟨rfl, hF1⟩) | (go_at_call 49; refine (HN.out _).mono ?_; rintro x w3 ⟨rfl, hw⟩; have hw2 := hw.symm; clear hw; subst hw2) | (go_at_call 79; refine (HD.out _).mono ?_; rintro x w4 ⟨rfl, hw⟩; have hw2 := hw.symm; clear hw; subst hw2))
      have HR1 : Hid (Rd w1 kp s z pv ov) := HR.out.no hF1
      have HF1 : Hid _ := hF1
      clear hF1 HN HD
      go_loopw [3] (fun t wr => ∃ (n : Nat) (y : Nat × Nat), n ≤ 3 ∧ t = .int .i64 n ∧ dg s 3 z = dg s (3 - n) y ∧ Rd wr kp s y pv ov ∧ Zb s y ∧ Fr (OneB kp) w wr) (fun t _ => 3 - (intOf t).toNat)
      case atStart => exact ⟨0, z, by omega, rfl, rfl, HR1.out, Hz.out, HF1.out.of_no⟩
      case round =>
        obtain ⟨n, y, hn, rfl, hdg, hR, hzy, hF⟩ := hrel
        have HRy : Hid (Rd wr kp s y pv ov) := hR
        have Hzy : Hid (Zb s y) := hzy
        have HFy : Hid (Fr (OneB kp) w wr) := hF
        have Hdg : Hid _ := hdg
        clear hR hzy hF hdg HR1 HF1
        by_cases hlt : n < 3
        · have HD : Hid _ := fun X => isDigit_fn X (pk s y)
          have hstep : dg s (3 - n) y = if digitN (pk s y) = true then dg s (3 - (n + 1)) (y.1 + 1, y.2) else y := by
            rw [show 3 - n = (3 - (n + 1)) + 1 by omega]; rfl
          cases e : digitN (pk s y)
          · rw [e] at HD hstep
            have HX : Hid (dg s 3 z = y) := Hdg.out.trans hstep
            clear hstep e Hdg
            go_wp2_with (first | (go_at_call 48; refine (peek_fn _ kp s y pv ov HRy.out Hzy.out).mono ?_; rintro x w2 ⟨rfl, hF2⟩) | (go_at_call 79; refine (HD.out _).mono ?_; rintro x w4 ⟨rfl, hw⟩; have hw2 := hw.symm; clear hw; subst hw2))
            go_end0
            exact ⟨rfl, by rw [HE.out, HX.out]; exact HRy.out.no hF2, HFy.out.trans hF2.of_no⟩
          · rw [e] at HD hstep
            have HX : Hid (dg s 3 z = dg s (3 - (n + 1)) (y.1 + 1, y.2)) := Hdg.out.trans hstep
            have hl := (pk_in (digit0 e)).1
            have hsn := Hzy.out.n
            have HZ : Hid (Zb s (y.1 + 1, y.2)) := ⟨hl, Hzy.out.w, Hzy.out.n⟩
            clear hstep e Hdg
            go_wp2_with (first | (go_at_call 48; refine (peek_fn _ kp s y pv ov HRy.out Hzy.out).mono ?_; rintro x w2 ⟨rfl, hF2⟩; have HR2 : Hid (Rd w2 kp s y pv ov) := HRy.out.no hF2; have c1 := HR2.out.c1; have f1 := HR2.out.f 1) | (go_at_call 79; refine (HD.out _).mono ?_; rintro x w4 ⟨rfl, hw⟩; have hw2 := hw.symm; clear hw; subst hw2))
            go_roundw
            case rel => exact ⟨n + 1, (y.1 + 1, y.2), by omega, by go_num, HX.out, HR2.out.set1 (y.1 + 1), HZ.out, (HFy.out.trans hF2.of_no).setCell (p := ⟨kp, 1, none⟩) (fun _ => rfl) _⟩
            case measure => simp [intOf]; omega
        · have hn3 : n = 3 := by omega
          subst hn3
          have HX : Hid (dg s 3 z = y) := Hdg.out
          clear Hdg
          go_wp2
          go_end0
          exact ⟨rfl, by rw [HE.out, HX.out]; exact HRy.out, HFy.out⟩
  · rw [e] at HN
    have HE : Hid (op s z = (z.1 + 1, z.2)) := by show op s z = _; unfold op; rw [if_pos e]
    have hl := (pk_in (small0 e)).1
    have hn := Hz.out.n
    clear e
    go_enter Try.func72, Try.ntmps72
    go_wp2_with (first | (go_at_call 48; refine (peek_fn _ kp s z pv ov HR.out Hz.out).mono ?_; rintro x w1 ⟨rfl, hF1⟩; have HR1 : Hid (Rd w1 kp s z pv ov) := HR.out.no hF1; have c1 := HR1.out.c1; have f1 := HR1.out.f 1) | (go_at_call 49; refine (HN.out _).mono ?_; rintro x w3 ⟨rfl, hw⟩; have hw2 := hw.symm; clear hw; subst hw2))
    exact bodyPost_ret (v := .tuple #[]) (by simp [results, Try.results72, go_sem]) rfl ⟨rfl, by rw [HE.out]; exact HR1.out.set1 (z.1 + 1), (hF1.of_no (T := OneB kp)).setCell (p := ⟨kp, 1, none⟩) (fun _ => rfl) _⟩

set_option maxHeartbeats 1000000 in
theorem index_fn (h : Rd w kp s z pv ov) (hz : Zb s z) :
    Calls Try.prog 70 #[.pointer (some ⟨kp, 0, none⟩)] w fun x w' => x = .returned (.tuple #[]) ∧ Rd w' kp s (ix s z) pv ov ∧ Fr (OneB kp) w w' := by
  have HR : Hid (Rd w kp s z pv ov) := h
  have Hz : Hid (Zb s z) := hz
  clear h hz
  go_enter Try.func70, Try.ntmps70
  go_wp2_with fail
  refine (take_fn _ kp s z pv ov HR.out Hz.out 91 (by decide)).mono ?_
  rintro x w1 ⟨rfl, hR1, hF1⟩
  go_wp2_with fail
  refine (operand_fn _ kp s _ pv ov hR1 (Hz.out.tk (by decide))).mono ?_
  rintro x w2 ⟨rfl, hR2, hF2⟩
  go_wp2_with fail
  refine (take_fn _ kp s _ pv ov hR2 (Hz.out.tk (by decide)).op 93 (by decide)).mono ?_
  rintro x w3 ⟨rfl, hR3, hF3⟩
  go_wp2
  go_end0
  exact ⟨rfl, hR3, (hF1.trans hF2).trans hF3⟩

set_option maxHeartbeats 2000000 in
theorem reckon_fn (h : Rd w kp s z pv ov) (hz : Zb s z) :
    Calls Try.prog 71 #[.pointer (some ⟨kp, 0, none⟩)] w fun x w' => x = .returned (.tuple #[]) ∧ Rd w' kp s (rk s z) pv ov ∧ Fr (OneB kp) w w' := by
  have HR : Hid (Rd w kp s z pv ov) := h
  have Hz : Hid (Zb s z) := hz
  clear h hz
  have Hzo : Hid (Zb s (op s z)) := Hz.out.op
  by_cases e : isOp (pk s (op s z))
  · have HE : Hid (rk s z = op s (tk s (pk s (op s z)) (op s z))) := by show rk s z = _; unfold rk; rw [if_pos e]
    have hc0 := op0 e
    have hcase : ∀ c, pk s (op s z) = c → c ≠ 0 → isOp c → Calls Try.prog 71 #[.pointer (some ⟨kp, 0, none⟩)] w fun x w' => x = .returned (.tuple #[]) ∧ Rd w' kp s (rk s z) pv ov ∧ Fr (OneB kp) w w' := fun c hc h0 hop => by
      rw [hc] at HE
      have HPk : Hid (∀ X : World, Rd X kp s (op s z) pv ov → Calls Try.prog 48 #[.pointer (some ⟨kp, 0, none⟩)] X fun e w' => e = .returned (.int .u8 (c : Int)) ∧ Fr NoB X w') := fun X hX => by
        have := peek_fn X kp s (op s z) pv ov hX Hzo.out
        rwa [hc] at this
      have HTk : Hid (∀ X : World, Rd X kp s (op s z) pv ov → Calls Try.prog 68 #[.pointer (some ⟨kp, 0, none⟩), .int .u8 (c : Int)] X fun x w' => x = .returned (.tuple #[]) ∧ Rd w' kp s (tk s c (op s z)) pv ov ∧ Fr (OneB kp) X w') := fun X hX => take_fn X kp s (op s z) pv ov hX Hzo.out c h0
      have HOp : Hid (∀ X : World, Rd X kp s (tk s c (op s z)) pv ov → Calls Try.prog 72 #[.pointer (some ⟨kp, 0, none⟩)] X fun x w' => x = .returned (.tuple #[]) ∧ Rd w' kp s (op s (tk s c (op s z))) pv ov ∧ Fr (OneB kp) X w') := fun X hX => operand_fn X kp s _ pv ov hX (Hzo.out.tk h0)
      clear hc
      unfold isOp at hop
      rcases hop with rfl | rfl | rfl | rfl | rfl
      all_goals
        go_enter Try.func71, Try.ntmps71
        go_wp2_with fail
        refine (operand_fn _ kp s z pv ov HR.out Hz.out).mono ?_
        rintro x w1 ⟨rfl, hR1, hF1⟩
        go_wp2_with fail
        refine (HPk.out _ hR1).mono ?_
        rintro x w2 ⟨rfl, hF2⟩
        go_wp2_with fail
        refine (HTk.out _ (hR1.no hF2)).mono ?_
        rintro x w3 ⟨rfl, hR3, hF3⟩
        go_wp2_with fail
        refine (HOp.out _ hR3).mono ?_
        rintro x w4 ⟨rfl, hR4, hF4⟩
        go_wp2
        go_end0
        exact ⟨rfl, by rw [HE.out]; exact hR4, ((hF1.trans hF2.of_no).trans hF3).trans hF4⟩
    exact hcase _ rfl hc0 e
  · have HE : Hid (rk s z = op s z) := by show rk s z = _; unfold rk; rw [if_neg e]
    have b1 : ((pk s (op s z) : Int) == 43) = false := beq_eq_false_iff_ne.2 (fun q => e (by unfold isOp; omega))
    have b2 : ((pk s (op s z) : Int) == 45) = false := beq_eq_false_iff_ne.2 (fun q => e (by unfold isOp; omega))
    have b3 : ((pk s (op s z) : Int) == 42) = false := beq_eq_false_iff_ne.2 (fun q => e (by unfold isOp; omega))
    have b4 : ((pk s (op s z) : Int) == 47) = false := beq_eq_false_iff_ne.2 (fun q => e (by unfold isOp; omega))
    have b5 : ((pk s (op s z) : Int) == 60) = false := beq_eq_false_iff_ne.2 (fun q => e (by unfold isOp; omega))
    clear e
    go_enter Try.func71, Try.ntmps71
    go_wp2_with fail
    refine (operand_fn _ kp s z pv ov HR.out Hz.out).mono ?_
    rintro x w1 ⟨rfl, hR1, hF1⟩
    go_wp2_with fail
    refine (peek_fn _ kp s _ pv ov hR1 Hzo.out).mono ?_
    rintro x w2 ⟨rfl, hF2⟩
    go_wp2
    go_end0
    exact ⟨rfl, by rw [HE.out]; exact hR1.no hF2, hF1.trans hF2.of_no⟩
end

/-- a part that is being read, in memory -/
structure PtAt (w : World) (pb : Nat) (t : Pt) : Prop where
  c0 : w.cell? ⟨pb, 0, none⟩ = some (.int .i64 (t.kind : Int))
  c1 : w.cell? ⟨pb, 1, none⟩ = some (.int .i64 (t.place : Int))
  c2 : w.cell? ⟨pb, 2, none⟩ = some (.int .i64 (t.box : Int))
  c3 : w.cell? ⟨pb, 3, none⟩ = some (.int .i64 (t.src : Int))
  c4 : w.cell? ⟨pb, 4, none⟩ = some (.int .i64 (t.opn : Int))
  f : ∀ o, w.frozen? ⟨pb, o, none⟩ = false
theorem PtAt.lt {w : World} {pb : Nat} {t : Pt} (h : PtAt w pb t) : pb < w.heap.size := World.block_lt_of_cell? w _ h.c0
theorem PtAt.fr {S : Nat → Prop} {w w' : World} {pb : Nat} {t : Pt} (h : PtAt w pb t) (hF : Fr S w w') (hS : ¬ S pb) : PtAt w' pb t :=
  ⟨hF.cell_some h.c0 hS, hF.cell_some h.c1 hS, hF.cell_some h.c2 hS, hF.cell_some h.c3 hS, hF.cell_some h.c4 hS, fun o => (hF.frozen (p := ⟨pb, o, none⟩) h.lt hS).trans (h.f o)⟩
theorem PtAt.new (w : World) (t : Pt) : PtAt (w.alloc (.cells #[.int .i64 (t.kind : Int), .int .i64 (t.place : Int), .int .i64 (t.box : Int), .int .i64 (t.src : Int), .int .i64 (t.opn : Int)] 89)) w.heap.size t :=
  ⟨cell_new _ _ _ rfl rfl, cell_new _ _ _ rfl rfl, cell_new _ _ _ rfl rfl, cell_new _ _ _ rfl rfl, cell_new _ _ _ rfl rfl, fun o => World.frozen?_alloc_at _ _ _ _ rfl⟩
theorem PtAt.set0 {w : World} {pb : Nat} {t : Pt} (h : PtAt w pb t) (k : Nat) : PtAt (w.setCell ⟨pb, 0, none⟩ (.int .i64 (k : Int))) pb ⟨k, t.place, t.box, t.src, t.opn⟩ :=
  ⟨cell_same h.c0, (cell_other (.inr (by omega))).trans h.c1, (cell_other (.inr (by omega))).trans h.c2, (cell_other (.inr (by omega))).trans h.c3, (cell_other (.inr (by omega))).trans h.c4, fun o => by rw [World.frozen?_setCell]; exact h.f o⟩
theorem PtAt.set2 {w : World} {pb : Nat} {t : Pt} (h : PtAt w pb t) (k : Nat) : PtAt (w.setCell ⟨pb, 2, none⟩ (.int .i64 (k : Int))) pb ⟨t.kind, t.place, k, t.src, t.opn⟩ :=
  ⟨(cell_other (.inr (by omega))).trans h.c0, (cell_other (.inr (by omega))).trans h.c1, cell_same h.c2, (cell_other (.inr (by omega))).trans h.c3, (cell_other (.inr (by omega))).trans h.c4, fun o => by rw [World.frozen?_setCell]; exact h.f o⟩
theorem PtAt.set3 {w : World} {pb : Nat} {t : Pt} (h : PtAt w pb t) (k : Nat) : PtAt (w.setCell ⟨pb, 3, none⟩ (.int .i64 (k : Int))) pb ⟨t.kind, t.place, t.box, k, t.opn⟩ :=
  ⟨(cell_other (.inr (by omega))).trans h.c0, (cell_other (.inr (by omega))).trans h.c1, (cell_other (.inr (by omega))).trans h.c2, cell_same h.c3, (cell_other (.inr (by omega))).trans h.c4, fun o => by rw [World.frozen?_setCell]; exact h.f o⟩
end Go.Proofs.Ytdpkcniiljpdbaa
