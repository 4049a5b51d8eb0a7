/-
  The program's reader in memory: sentences without braces.
-/
import Derived.Test.YtdpkcniiljpdbaaDevZ
namespace Go.Proofs.Ytdpkcniiljpdbaa
open Go.RowKit
set_option linter.unusedVariables false

set_option maxRecDepth 8000 in
set_option maxHeartbeats 4000000 in
theorem printing_fn (w : World) (kp base : Nat) (s : ByteArray) (r : Rs) (pv ov : Value) (h : RdP w kp base s r pv ov) (hz : Zb s r.z) (hb : base ≤ w.heap.size) (hl : r.P.length ≤ 90001) :
    Calls Try.prog 54 #[.pointer (some ⟨kp, 0, none⟩)] w fun x w' => PartSays kp base s (rPrint s r) w x w' := by
  obtain ⟨i0, hi0, hz0, hz1, hz2⟩ := info_parts Try.infoPart
  obtain ⟨ao, cap, rfl⟩ := owns_form h.pr
  have HR : Hid (RdP w kp base s r (.slice ao r.P.length cap) ov) := h
  have Hz : Hid (Zb s r.z) := hz
  have c1 := h.rd.c1
  have hkl := h.rd.lt
  clear h hz
  have HW0 : Hid _ := Wk.start HR.out hb ⟨0, r.z.1, 0, 0, 0⟩
  simp only [] at HW0
  go_enter Try.func54, Try.ntmps54
  go_upto_region 1 with fail
  generalize (w.alloc _) = W0 at *
  generalize hpb : w.heap.size = pb at *
  clear hpb
  go_wp2_with fail
  refine (take_fn _ kp s r.z _ ov HW0.out.rp.rd Hz.out 33 (by decide)).mono ?_
  rintro x w1 ⟨rfl, hR1, hF1⟩
  have HW1 : Hid _ := HW0.out.step hF1 hR1
  clear hR1 hF1 HW0
  go_wp2_with fail
  refine (operand_fn _ kp s _ _ ov HW1.out.rp.rd (Hz.out.tk (by decide))).mono ?_
  rintro x w2 ⟨rfl, hR2, hF2⟩
  have HW2 : Hid _ := HW1.out.step hF2 hR2
  clear hR2 hF2 HW1
  go_wp2_with fail
  refine (take_fn _ kp s _ _ ov HW2.out.rp.rd (Hz.out.tk (by decide)).op 59 (by decide)).mono ?_
  rintro x w3 ⟨rfl, hR3, hF3⟩
  have HW3 : Hid _ := HW2.out.step hF3 hR3
  clear hR3 hF3 HW2
  have HT : Hid _ := HW3.out
  clear HW3
  generalize hT : (⟨_, _, _, _, _⟩ : Pt) = tt at HT
  have HTT : Hid _ := hT
  clear hT
  have hrow := HT.out.rp.pr
  have e0 := HT.out.pt.c0
  have e1 := HT.out.pt.c1
  have e2 := HT.out.pt.c2
  have e3 := HT.out.pt.c3
  have e4 := HT.out.pt.c4
  have eP := HT.out.rp.rd.c2
  have hsz := HT.out.fr.size
  have hbb := HT.out.hb
  have hkl2 := HT.out.rp.rd.lt
  have hpl2 := HT.out.pt.lt
  simp only [] at hrow eP
  go_upto_region 4 with fail
  go_region_law ((refine step_append_kind rfl _ _ 62 rfl base 89 i0 (.agg #[.int .i64 0, .int .i64 0, .int .i64 0, .int .i64 0, .int .i64 0]) 5 40 Try.underlying62 hi0 hz0 hz1 hz2 rfl (by decide) _ _ _ rfl ((hrow.alloc _).drew) ⟨w3.heap.size, 0, none⟩ 1 1 [.int .i64 (tt.kind : Int), .int .i64 (tt.place : Int), .int .i64 (tt.box : Int), .int .i64 (tt.src : Int), .int .i64 (tt.opn : Int)] (by decide) rfl rfl (by intro j u hj; match j, hj with | 0, hj => (simp at hj; subst hj; simp [Addr.add]) | 1, hj => (simp at hj; subst hj; simp [Addr.add]) | 2, hj => (simp at hj; subst hj; simp [Addr.add]) | 3, hj => (simp at hj; subst hj; simp [Addr.add]) | 4, hj => (simp at hj; subst hj; simp [Addr.add])) (by intro u hu; simp at hu; rcases hu with rfl | rfl | rfl | rfl | rfl <;> rfl) (by unfold maxLen; omega) (by omega) (by simp; omega) ?_; intro v2 wv hown2 hk2; obtain ⟨y1, y2, y3, y4⟩ := HT.out.rp.growP (t := tt) hk2 hown2; obtain ⟨gb, cb, hve, _⟩ := hk2.place; subst hve; have HG := show Hid (_ ∧ _) from ⟨y3, y4⟩; clear y3 y4 hown2 hk2))
  all_goals
    go_wp2
    go_end0
    exact ⟨rfl, ⟨_, _, by rw [← HTT.out] at HG; exact HG.out.1⟩, HT.out.fr.trans HG.out.2⟩

set_option maxHeartbeats 2000000 in
theorem block_make (w0 w : World) (kp base pb : Nat) (s : ByteArray) (r : Rs) (pv ov : Value) (t : Pt) (h : Wk w0 w kp base pb s r pv ov t) (hz : Zb s r.z) (he : pk s r.z = 91) :
    Calls Try.prog 73 #[.pointer (some ⟨kp, 0, none⟩), .pointer (some ⟨pb, 0, none⟩)] w fun x w' => x = .returned (.tuple #[]) ∧ Wk w0 w' kp base pb s ⟨ix s r.z, r.P, r.O⟩ pv ov ⟨3, t.place, t.box, t.src, t.opn⟩ := by
  have HW0 : Hid (Wk w0 w kp base pb s r pv ov t) := h
  have Hz : Hid (Zb s r.z) := hz
  have HPk : Hid (Calls Try.prog 48 #[.pointer (some ⟨kp, 0, none⟩)] w fun e w' => e = .returned (.int .u8 ((91 : Nat) : Int)) ∧ Fr NoB w w') := by
    have := peek_fn w kp s r.z pv ov h.rp.rd hz
    rwa [he] at this
  clear h hz he
  go_enter Try.func73, Try.ntmps73
  go_wp2_with fail
  refine HPk.out.mono ?_
  rintro x w1 ⟨rfl, hF1⟩
  have HW1 : Hid _ := HW0.out.no hF1
  clear hF1 HW0
  have d10 := HW1.out.pt.c0
  have g10 := HW1.out.pt.f 0
  go_wp2_with fail
  have HW2 : Hid _ := HW1.out.set0 3
  clear HW1 d10 g10
  refine (index_fn _ kp s _ _ ov HW2.out.rp.rd Hz.out).mono ?_
  rintro x w3 ⟨rfl, hR3, hF3⟩
  have HW3 : Hid _ := HW2.out.step hF3 hR3
  go_wp2
  exact bodyPost_ret (v := .tuple #[]) (by simp [results, Try.results73, go_sem]) rfl ⟨rfl, HW3.out⟩
set_option maxHeartbeats 2000000 in
theorem block_move (w0 w : World) (kp base pb : Nat) (s : ByteArray) (r : Rs) (pv ov : Value) (t : Pt) (h : Wk w0 w kp base pb s r pv ov t) (hz : Zb s r.z) (he : pk s r.z ≠ 91) :
    Calls Try.prog 73 #[.pointer (some ⟨kp, 0, none⟩), .pointer (some ⟨pb, 0, none⟩)] w fun x w' => x = .returned (.tuple #[]) ∧ Wk w0 w' kp base pb s ⟨bx s r.z, r.P, r.O⟩ pv ov ⟨4, t.place, t.box, bxV s r.z, t.opn⟩ := by
  have HW0 : Hid (Wk w0 w kp base pb s r pv ov t) := h
  have Hz : Hid (Zb s r.z) := hz
  have b1 : ((pk s r.z : Int) == 91) = false := beq_eq_false_iff_ne.2 (by omega)
  clear h hz he
  go_enter Try.func73, Try.ntmps73
  go_wp2_with fail
  refine (peek_fn _ kp s r.z pv ov HW0.out.rp.rd Hz.out).mono ?_
  rintro x w1 ⟨rfl, hF1⟩
  have HW1 : Hid _ := HW0.out.no hF1
  clear hF1 HW0
  have d10 := HW1.out.pt.c0
  have g10 := HW1.out.pt.f 0
  go_wp2_with fail
  have HW2 : Hid _ := HW1.out.set0 4
  clear HW1 d10 g10
  refine (box_fn _ kp s _ _ ov HW2.out.rp.rd Hz.out).mono ?_
  rintro x w3 ⟨rfl, hR3, hF3⟩
  have HW3 : Hid _ := HW2.out.step hF3 hR3
  have d33 := HW3.out.pt.c3
  have g33 := HW3.out.pt.f 3
  simp only [] at d33
  go_wp2
  go_end0
  exact ⟨rfl, HW3.out.set3 (bxV s r.z)⟩

set_option maxRecDepth 8000 in
set_option maxHeartbeats 2000000 in
theorem toBox_store (w : World) (kp base : Nat) (s : ByteArray) (r : Rs) (pv ov : Value) (h : RdP w kp base s r pv ov) (hz : Zb s r.z) (hb : base ≤ w.heap.size) (hl : r.P.length ≤ 90001) (he : pk s (bx s r.z) = 91) :
    Calls Try.prog 52 #[.pointer (some ⟨kp, 0, none⟩)] w fun x w' => PartSays kp base s (rBox s r) w x w' := by
  obtain ⟨i0, hi0, hz0, hz1, hz2⟩ := info_parts Try.infoPart
  obtain ⟨ao, cap, rfl⟩ := owns_form h.pr
  obtain ⟨z0, P, O⟩ := r
  simp only [] at h hz hl ⊢
  have HR : Hid (RdP w kp base s ⟨z0, P, O⟩ (.slice ao P.length cap) ov) := h
  have Hz0 : Hid (Zb s z0) := hz
  have c1 := h.rd.c1
  simp only [] at c1
  have hkl := h.rd.lt
  clear h hz
  have HE : Hid (rBox s ⟨z0, P, O⟩ = ⟨tk s 59 (op s (tk s 61 (ix s (bx s z0)))), P ++ [⟨5, z0.1, bxV s z0, 0, 0⟩], O⟩) := by show rBox s ⟨z0, P, O⟩ = _; unfold rBox; rw [if_pos he]
  have HQ : Hid (pk s (bx s z0) = 91) := he
  clear he
  have HW0 : Hid _ := Wk.start HR.out hb ⟨5, z0.1, 0, 0, 0⟩
  simp only [] at HW0
  go_enter Try.func52, Try.ntmps52
  go_upto_region 1 with fail
  generalize (w.alloc _) = W0 at *
  generalize hpb : w.heap.size = pb at *
  clear hpb
  go_wp2_with fail
  refine (box_fn _ kp s z0 _ ov HW0.out.rp.rd Hz0.out).mono ?_
  rintro x w1 ⟨rfl, hR1, hF1⟩
  have HW1 : Hid _ := HW0.out.step hF1 hR1
  have Hz1 : Hid (Zb s (bx s z0)) := Hz0.out.bx
  simp only [] at HW1
  clear hR1 hF1 HW0
  generalize bx s z0 = z1 at *
  have d12 := HW1.out.pt.c2
  have g12 := HW1.out.pt.f 2
  simp only [] at d12
  go_wp2_with fail
  have HW2 : Hid _ := HW1.out.set2 (bxV s z0)
  clear HW1 d12 g12
  simp only [] at HW2
  have HPk3 : Hid (∀ X : World, Rd X kp s z1 (.slice ao P.length cap) ov → Calls Try.prog 48 #[.pointer (some ⟨kp, 0, none⟩)] X fun e w' => e = .returned (.int .u8 ((91 : Nat) : Int)) ∧ Fr NoB X w') := fun X hX => by
    have := peek_fn X kp s z1 _ ov hX Hz1.out
    rwa [HQ.out] at this
  refine (HPk3.out _ HW2.out.rp.rd).mono ?_
  rintro x w3 ⟨rfl, hF3⟩
  have HW3 : Hid _ := HW2.out.no hF3
  clear hF3 HW2 HPk3
  go_wp2_with fail
  refine (index_fn _ kp s z1 _ ov HW3.out.rp.rd Hz1.out).mono ?_
  rintro x w4 ⟨rfl, hR4, hF4⟩
  have HW4 : Hid _ := HW3.out.step hF4 hR4
  have Hz4 : Hid (Zb s (ix s z1)) := Hz1.out.ix
  simp only [] at HW4
  clear hR4 hF4 HW3
  generalize ix s z1 = z4 at *
  go_wp2_with fail
  refine (take_fn _ kp s z4 _ ov HW4.out.rp.rd Hz4.out 61 (by decide)).mono ?_
  rintro x w5 ⟨rfl, hR5, hF5⟩
  have HW5 : Hid _ := HW4.out.step hF5 hR5
  have Hz5 : Hid (Zb s (tk s 61 z4)) := Hz4.out.tk (by decide)
  simp only [] at HW5
  clear hR5 hF5 HW4
  generalize tk s 61 z4 = z5 at *
  go_wp2_with fail
  refine (operand_fn _ kp s z5 _ ov HW5.out.rp.rd Hz5.out).mono ?_
  rintro x w6 ⟨rfl, hR6, hF6⟩
  have HW6 : Hid _ := HW5.out.step hF6 hR6
  have Hz6 : Hid (Zb s (op s z5)) := Hz5.out.op
  simp only [] at HW6
  clear hR6 hF6 HW5
  generalize op s z5 = z6 at *
  go_wp2_with fail
  refine (take_fn _ kp s z6 _ ov HW6.out.rp.rd Hz6.out 59 (by decide)).mono ?_
  rintro x w7 ⟨rfl, hR7, hF7⟩
  have HW7 : Hid _ := HW6.out.step hF7 hR7
  have Hz7 : Hid (Zb s (tk s 59 z6)) := Hz6.out.tk (by decide)
  simp only [] at HW7
  clear hR7 hF7 HW6
  generalize tk s 59 z6 = z7 at *
  have HT : Hid _ := HW7.out
  clear HW7
  generalize hT : (⟨_, _, _, _, _⟩ : Pt) = tt at HT
  have HTT : Hid _ := hT
  clear hT
  have hrow := HT.out.rp.pr
  have e0 := HT.out.pt.c0
  have e1 := HT.out.pt.c1
  have e2 := HT.out.pt.c2
  have e3 := HT.out.pt.c3
  have e4 := HT.out.pt.c4
  have eP := HT.out.rp.rd.c2
  have hsz := HT.out.fr.size
  have hbb := HT.out.hb
  have hkl2 := HT.out.rp.rd.lt
  have hpl2 := HT.out.pt.lt
  simp only [] at hrow eP
  go_upto_region 9 with fail
  go_region_law ((refine step_append_kind rfl _ _ 62 rfl base 89 i0 (.agg #[.int .i64 0, .int .i64 0, .int .i64 0, .int .i64 0, .int .i64 0]) 5 40 Try.underlying62 hi0 hz0 hz1 hz2 rfl (by decide) _ _ _ rfl ((hrow.alloc _).drew) ⟨w7.heap.size, 0, none⟩ 1 1 [.int .i64 (tt.kind : Int), .int .i64 (tt.place : Int), .int .i64 (tt.box : Int), .int .i64 (tt.src : Int), .int .i64 (tt.opn : Int)] (by decide) rfl rfl (by intro j u hj; match j, hj with | 0, hj => (simp at hj; subst hj; simp [Addr.add]) | 1, hj => (simp at hj; subst hj; simp [Addr.add]) | 2, hj => (simp at hj; subst hj; simp [Addr.add]) | 3, hj => (simp at hj; subst hj; simp [Addr.add]) | 4, hj => (simp at hj; subst hj; simp [Addr.add])) (by intro u hu; simp at hu; rcases hu with rfl | rfl | rfl | rfl | rfl <;> rfl) (by unfold maxLen; omega) (by omega) (by simp; omega) ?_; intro v2 wv hown2 hk2; obtain ⟨y1, y2, y3, y4⟩ := HT.out.rp.growP (t := tt) hk2 hown2; obtain ⟨gb, cb, hve, _⟩ := hk2.place; subst hve; have HG := show Hid (_ ∧ _) from ⟨y3, y4⟩; clear y3 y4 hown2 hk2))
  all_goals
    go_wp2
    go_end0
    exact ⟨rfl, ⟨_, _, by rw [← HTT.out] at HG; rw [HE.out]; exact HG.out.1⟩, HT.out.fr.trans HG.out.2⟩
set_option maxRecDepth 8000 in
set_option maxHeartbeats 2000000 in
theorem toBox_make (w : World) (kp base : Nat) (s : ByteArray) (r : Rs) (pv ov : Value) (h : RdP w kp base s r pv ov) (hz : Zb s r.z) (hb : base ≤ w.heap.size) (hl : r.P.length ≤ 90001) (he : pk s (bx s r.z) ≠ 91) (he2 : pk s (tk s 61 (bx s r.z)) = 91) :
    Calls Try.prog 52 #[.pointer (some ⟨kp, 0, none⟩)] w fun x w' => PartSays kp base s (rBox s r) w x w' := by
  obtain ⟨i0, hi0, hz0, hz1, hz2⟩ := info_parts Try.infoPart
  obtain ⟨ao, cap, rfl⟩ := owns_form h.pr
  obtain ⟨z0, P, O⟩ := r
  simp only [] at h hz hl ⊢
  have HR : Hid (RdP w kp base s ⟨z0, P, O⟩ (.slice ao P.length cap) ov) := h
  have Hz0 : Hid (Zb s z0) := hz
  have c1 := h.rd.c1
  simp only [] at c1
  have hkl := h.rd.lt
  clear h hz
  have HE : Hid (rBox s ⟨z0, P, O⟩ = ⟨tk s 59 (ix s (tk s 61 (bx s z0))), P ++ [⟨3, z0.1, bxV s z0, 0, 0⟩], O⟩) := by show rBox s ⟨z0, P, O⟩ = _; unfold rBox; rw [if_neg he, if_pos he2]
  have HQ : Hid (pk s (bx s z0) ≠ 91) := he
  have HQ2 : Hid (pk s (tk s 61 (bx s z0)) = 91) := he2
  clear he he2
  have HW0 : Hid _ := Wk.start HR.out hb ⟨5, z0.1, 0, 0, 0⟩
  simp only [] at HW0
  go_enter Try.func52, Try.ntmps52
  go_upto_region 1 with fail
  generalize (w.alloc _) = W0 at *
  generalize hpb : w.heap.size = pb at *
  clear hpb
  go_wp2_with fail
  refine (box_fn _ kp s z0 _ ov HW0.out.rp.rd Hz0.out).mono ?_
  rintro x w1 ⟨rfl, hR1, hF1⟩
  have HW1 : Hid _ := HW0.out.step hF1 hR1
  have Hz1 : Hid (Zb s (bx s z0)) := Hz0.out.bx
  simp only [] at HW1
  clear hR1 hF1 HW0
  generalize bx s z0 = z1 at *
  have d12 := HW1.out.pt.c2
  have g12 := HW1.out.pt.f 2
  simp only [] at d12
  go_wp2_with fail
  have HW2 : Hid _ := HW1.out.set2 (bxV s z0)
  clear HW1 d12 g12
  simp only [] at HW2
  have b1 : ((pk s z1 : Int) == 91) = false := beq_eq_false_iff_ne.2 (by have := HQ.out; omega)
  have HPk3 : Hid (∀ X : World, Rd X kp s z1 (.slice ao P.length cap) ov → Calls Try.prog 48 #[.pointer (some ⟨kp, 0, none⟩)] X fun e w' => e = .returned (.int .u8 (pk s z1 : Int)) ∧ Fr NoB X w') := fun X hX => by
    have := peek_fn X kp s z1 _ ov hX Hz1.out
    exact this
  refine (HPk3.out _ HW2.out.rp.rd).mono ?_
  rintro x w3 ⟨rfl, hF3⟩
  have HW3 : Hid _ := HW2.out.no hF3
  clear hF3 HW2 HPk3
  go_wp2_with fail
  refine (take_fn _ kp s z1 _ ov HW3.out.rp.rd Hz1.out 61 (by decide)).mono ?_
  rintro x w4 ⟨rfl, hR4, hF4⟩
  have HW4 : Hid _ := HW3.out.step hF4 hR4
  have Hz4 : Hid (Zb s (tk s 61 z1)) := Hz1.out.tk (by decide)
  simp only [] at HW4
  clear hR4 hF4 HW3
  generalize tk s 61 z1 = z4 at *
  go_wp2_with fail
  refine (block_make w _ kp base pb s _ _ ov _ HW4.out Hz4.out HQ2.out).mono ?_
  rintro x w5 ⟨rfl, hW5⟩
  have HW5 : Hid _ := hW5
  have Hz5 : Hid (Zb s (ix s z4)) := Hz4.out.ix
  simp only [] at HW5
  clear hW5 HW4
  generalize ix s z4 = z5 at *
  go_wp2_with fail
  refine (take_fn _ kp s z5 _ ov HW5.out.rp.rd Hz5.out 59 (by decide)).mono ?_
  rintro x w6 ⟨rfl, hR6, hF6⟩
  have HW6 : Hid _ := HW5.out.step hF6 hR6
  have Hz6 : Hid (Zb s (tk s 59 z5)) := Hz5.out.tk (by decide)
  simp only [] at HW6
  clear hR6 hF6 HW5
  generalize tk s 59 z5 = z6 at *
  have HT : Hid _ := HW6.out
  clear HW6
  generalize hT : (⟨_, _, _, _, _⟩ : Pt) = tt at HT
  have HTT : Hid _ := hT
  clear hT
  have hrow := HT.out.rp.pr
  have e0 := HT.out.pt.c0
  have e1 := HT.out.pt.c1
  have e2 := HT.out.pt.c2
  have e3 := HT.out.pt.c3
  have e4 := HT.out.pt.c4
  have eP := HT.out.rp.rd.c2
  have hsz := HT.out.fr.size
  have hbb := HT.out.hb
  have hkl2 := HT.out.rp.rd.lt
  have hpl2 := HT.out.pt.lt
  simp only [] at hrow eP
  go_upto_region 9 with fail
  go_region_law ((refine step_append_kind rfl _ _ 62 rfl base 89 i0 (.agg #[.int .i64 0, .int .i64 0, .int .i64 0, .int .i64 0, .int .i64 0]) 5 40 Try.underlying62 hi0 hz0 hz1 hz2 rfl (by decide) _ _ _ rfl ((hrow.alloc _).drew) ⟨w6.heap.size, 0, none⟩ 1 1 [.int .i64 (tt.kind : Int), .int .i64 (tt.place : Int), .int .i64 (tt.box : Int), .int .i64 (tt.src : Int), .int .i64 (tt.opn : Int)] (by decide) rfl rfl (by intro j u hj; match j, hj with | 0, hj => (simp at hj; subst hj; simp [Addr.add]) | 1, hj => (simp at hj; subst hj; simp [Addr.add]) | 2, hj => (simp at hj; subst hj; simp [Addr.add]) | 3, hj => (simp at hj; subst hj; simp [Addr.add]) | 4, hj => (simp at hj; subst hj; simp [Addr.add])) (by intro u hu; simp at hu; rcases hu with rfl | rfl | rfl | rfl | rfl <;> rfl) (by unfold maxLen; omega) (by omega) (by simp; omega) ?_; intro v2 wv hown2 hk2; obtain ⟨y1, y2, y3, y4⟩ := HT.out.rp.growP (t := tt) hk2 hown2; obtain ⟨gb, cb, hve, _⟩ := hk2.place; subst hve; have HG := show Hid (_ ∧ _) from ⟨y3, y4⟩; clear y3 y4 hown2 hk2))
  all_goals
    go_wp2
    go_end0
    exact ⟨rfl, ⟨_, _, by rw [← HTT.out] at HG; rw [HE.out]; exact HG.out.1⟩, HT.out.fr.trans HG.out.2⟩
set_option maxRecDepth 8000 in
set_option maxHeartbeats 2000000 in
theorem toBox_move (w : World) (kp base : Nat) (s : ByteArray) (r : Rs) (pv ov : Value) (h : RdP w kp base s r pv ov) (hz : Zb s r.z) (hb : base ≤ w.heap.size) (hl : r.P.length ≤ 90001) (he : pk s (bx s r.z) ≠ 91) (he2 : pk s (tk s 61 (bx s r.z)) ≠ 91) :
    Calls Try.prog 52 #[.pointer (some ⟨kp, 0, none⟩)] w fun x w' => PartSays kp base s (rBox s r) w x w' := by
  obtain ⟨i0, hi0, hz0, hz1, hz2⟩ := info_parts Try.infoPart
  obtain ⟨ao, cap, rfl⟩ := owns_form h.pr
  obtain ⟨z0, P, O⟩ := r
  simp only [] at h hz hl ⊢
  have HR : Hid (RdP w kp base s ⟨z0, P, O⟩ (.slice ao P.length cap) ov) := h
  have Hz0 : Hid (Zb s z0) := hz
  have c1 := h.rd.c1
  simp only [] at c1
  have hkl := h.rd.lt
  clear h hz
  have HE : Hid (rBox s ⟨z0, P, O⟩ = ⟨tk s 59 (bx s (tk s 61 (bx s z0))), P ++ [⟨4, z0.1, bxV s z0, bxV s (tk s 61 (bx s z0)), 0⟩], O⟩) := by show rBox s ⟨z0, P, O⟩ = _; unfold rBox; rw [if_neg he, if_neg he2]
  have HQ : Hid (pk s (bx s z0) ≠ 91) := he
  have HQ2 : Hid (pk s (tk s 61 (bx s z0)) ≠ 91) := he2
  clear he he2
  have HW0 : Hid _ := Wk.start HR.out hb ⟨5, z0.1, 0, 0, 0⟩
  simp only [] at HW0
  go_enter Try.func52, Try.ntmps52
  go_upto_region 1 with fail
  generalize (w.alloc _) = W0 at *
  generalize hpb : w.heap.size = pb at *
  clear hpb
  go_wp2_with fail
  refine (box_fn _ kp s z0 _ ov HW0.out.rp.rd Hz0.out).mono ?_
  rintro x w1 ⟨rfl, hR1, hF1⟩
  have HW1 : Hid _ := HW0.out.step hF1 hR1
  have Hz1 : Hid (Zb s (bx s z0)) := Hz0.out.bx
  simp only [] at HW1
  clear hR1 hF1 HW0
  generalize bx s z0 = z1 at *
  have d12 := HW1.out.pt.c2
  have g12 := HW1.out.pt.f 2
  simp only [] at d12
  go_wp2_with fail
  have HW2 : Hid _ := HW1.out.set2 (bxV s z0)
  clear HW1 d12 g12
  simp only [] at HW2
  have b1 : ((pk s z1 : Int) == 91) = false := beq_eq_false_iff_ne.2 (by have := HQ.out; omega)
  have HPk3 : Hid (∀ X : World, Rd X kp s z1 (.slice ao P.length cap) ov → Calls Try.prog 48 #[.pointer (some ⟨kp, 0, none⟩)] X fun e w' => e = .returned (.int .u8 (pk s z1 : Int)) ∧ Fr NoB X w') := fun X hX => by
    have := peek_fn X kp s z1 _ ov hX Hz1.out
    exact this
  refine (HPk3.out _ HW2.out.rp.rd).mono ?_
  rintro x w3 ⟨rfl, hF3⟩
  have HW3 : Hid _ := HW2.out.no hF3
  clear hF3 HW2 HPk3
  go_wp2_with fail
  refine (take_fn _ kp s z1 _ ov HW3.out.rp.rd Hz1.out 61 (by decide)).mono ?_
  rintro x w4 ⟨rfl, hR4, hF4⟩
  have HW4 : Hid _ := HW3.out.step hF4 hR4
  have Hz4 : Hid (Zb s (tk s 61 z1)) := Hz1.out.tk (by decide)
  simp only [] at HW4
  clear hR4 hF4 HW3
  generalize tk s 61 z1 = z4 at *
  go_wp2_with fail
  refine (block_move w _ kp base pb s _ _ ov _ HW4.out Hz4.out HQ2.out).mono ?_
  rintro x w5 ⟨rfl, hW5⟩
  have HW5 : Hid _ := hW5
  have Hz5 : Hid (Zb s (bx s z4)) := Hz4.out.bx
  simp only [] at HW5
  clear hW5 HW4
  generalize bx s z4 = z5 at *
  go_wp2_with fail
  refine (take_fn _ kp s z5 _ ov HW5.out.rp.rd Hz5.out 59 (by decide)).mono ?_
  rintro x w6 ⟨rfl, hR6, hF6⟩
  have HW6 : Hid _ := HW5.out.step hF6 hR6
  have Hz6 : Hid (Zb s (tk s 59 z5)) := Hz5.out.tk (by decide)
  simp only [] at HW6
  clear hR6 hF6 HW5
  generalize tk s 59 z5 = z6 at *
  have HT : Hid _ := HW6.out
  clear HW6
  generalize hT : (⟨_, _, _, _, _⟩ : Pt) = tt at HT
  have HTT : Hid _ := hT
  clear hT
  have hrow := HT.out.rp.pr
  have e0 := HT.out.pt.c0
  have e1 := HT.out.pt.c1
  have e2 := HT.out.pt.c2
  have e3 := HT.out.pt.c3
  have e4 := HT.out.pt.c4
  have eP := HT.out.rp.rd.c2
  have hsz := HT.out.fr.size
  have hbb := HT.out.hb
  have hkl2 := HT.out.rp.rd.lt
  have hpl2 := HT.out.pt.lt
  simp only [] at hrow eP
  go_upto_region 9 with fail
  go_region_law ((refine step_append_kind rfl _ _ 62 rfl base 89 i0 (.agg #[.int .i64 0, .int .i64 0, .int .i64 0, .int .i64 0, .int .i64 0]) 5 40 Try.underlying62 hi0 hz0 hz1 hz2 rfl (by decide) _ _ _ rfl ((hrow.alloc _).drew) ⟨w6.heap.size, 0, none⟩ 1 1 [.int .i64 (tt.kind : Int), .int .i64 (tt.place : Int), .int .i64 (tt.box : Int), .int .i64 (tt.src : Int), .int .i64 (tt.opn : Int)] (by decide) rfl rfl (by intro j u hj; match j, hj with | 0, hj => (simp at hj; subst hj; simp [Addr.add]) | 1, hj => (simp at hj; subst hj; simp [Addr.add]) | 2, hj => (simp at hj; subst hj; simp [Addr.add]) | 3, hj => (simp at hj; subst hj; simp [Addr.add]) | 4, hj => (simp at hj; subst hj; simp [Addr.add])) (by intro u hu; simp at hu; rcases hu with rfl | rfl | rfl | rfl | rfl <;> rfl) (by unfold maxLen; omega) (by omega) (by simp; omega) ?_; intro v2 wv hown2 hk2; obtain ⟨y1, y2, y3, y4⟩ := HT.out.rp.growP (t := tt) hk2 hown2; obtain ⟨gb, cb, hve, _⟩ := hk2.place; subst hve; have HG := show Hid (_ ∧ _) from ⟨y3, y4⟩; clear y3 y4 hown2 hk2))
  all_goals
    go_wp2
    go_end0
    exact ⟨rfl, ⟨_, _, by rw [← HTT.out] at HG; rw [HE.out]; exact HG.out.1⟩, HT.out.fr.trans HG.out.2⟩
theorem toBox_fn (w : World) (kp base : Nat) (s : ByteArray) (r : Rs) (pv ov : Value) (h : RdP w kp base s r pv ov) (hz : Zb s r.z) (hb : base ≤ w.heap.size) (hl : r.P.length ≤ 90001) :
    Calls Try.prog 52 #[.pointer (some ⟨kp, 0, none⟩)] w fun x w' => PartSays kp base s (rBox s r) w x w' := by
  by_cases he : pk s (bx s r.z) = 91
  · exact toBox_store w kp base s r pv ov h hz hb hl he
  · by_cases he2 : pk s (tk s 61 (bx s r.z)) = 91
    · exact toBox_make w kp base s r pv ov h hz hb hl he he2
    · exact toBox_move w kp base s r pv ov h hz hb hl he he2
end Go.Proofs.Ytdpkcniiljpdbaa
