/-
  The program's reader in memory: sentences that begin with a number's letter.
-/
import Derived.Test.YtdpkcniiljpdbaaDevZ
namespace Go.Proofs.Ytdpkcniiljpdbaa
open Go.RowKit
set_option linter.unusedVariables false

set_option maxRecDepth 8000 in
set_option maxHeartbeats 2000000 in
theorem toNumber_size (w : World) (kp base : Nat) (s : ByteArray) (r : Rs) (pv ov : Value) (h : RdP w kp base s r pv ov) (hz : Zb s r.z) (hb : base ≤ w.heap.size) (hl : r.P.length ≤ 90001) (hlt : r.z.1 < s.size) (he : pk s (tk s 61 (r.z.1 + 1, r.z.2)) = 35) :
    Calls Try.prog 50 #[.pointer (some ⟨kp, 0, none⟩)] w fun x w' => PartSays kp base s (rNumber s r) w x w' := by
  obtain ⟨i0, hi0, hz0, hz1, hz2⟩ := info_parts Try.infoPart
  obtain ⟨ao, cap, rfl⟩ := owns_form h.pr
  obtain ⟨z0, P, O⟩ := r
  simp only [] at h hz hl hlt ⊢
  have HR : Hid (RdP w kp base s ⟨z0, P, O⟩ (.slice ao P.length cap) ov) := h
  have Hz0 : Hid (Zb s z0) := hz
  have c1 := h.rd.c1
  simp only [] at c1
  have hkl := h.rd.lt
  clear h hz
  have HE : Hid (rNumber s ⟨z0, P, O⟩ = ⟨tk s 59 (bx s (tk s 35 (tk s 61 (z0.1 + 1, z0.2)))), P ++ [⟨2, z0.1, bxV s (tk s 35 (tk s 61 (z0.1 + 1, z0.2))), 0, 0⟩], O⟩) := by show rNumber s ⟨z0, P, O⟩ = _; unfold rNumber; rw [if_pos he]
  have HQ : Hid (pk s (tk s 61 (z0.1 + 1, z0.2)) = 35) := he
  clear he
  have HW0 : Hid _ := Wk.start HR.out hb ⟨0, z0.1, 0, 0, 0⟩
  simp only [] at HW0
  go_enter Try.func50, Try.ntmps50
  go_upto_region 1 with fail
  generalize (w.alloc _) = W0 at *
  generalize hpb : w.heap.size = pb at *
  clear hpb
  have Hz1 : Hid (Zb s (z0.1 + 1, z0.2)) := ⟨hlt, Hz0.out.w, Hz0.out.n⟩
  have hn := Hz0.out.n
  have c1' := HW0.out.rp.rd.c1
  have f1' := HW0.out.rp.rd.f 1
  simp only [] at c1'
  have HW1 : Hid _ := HW0.out.step ((Fr.refl (OneB kp) W0).setCell (p := ⟨kp, 1, none⟩) (fun _ => rfl) _) (HW0.out.rp.rd.set1 (z0.1 + 1))
  simp only [] at HW1
  clear HW0
  go_wp2_with fail
  generalize hz1 : ((z0.1 + 1, z0.2) : Nat × Nat) = z1 at *
  clear hz1
  refine (take_fn _ kp s z1 _ ov HW1.out.rp.rd Hz1.out 61 (by decide)).mono ?_
  rintro x w2 ⟨rfl, hR2, hF2⟩
  have HW2 : Hid _ := HW1.out.step hF2 hR2
  have Hz2 : Hid (Zb s (tk s 61 z1)) := Hz1.out.tk (by decide)
  simp only [] at HW2
  clear hR2 hF2 HW1
  generalize tk s 61 z1 = z2 at *
  have HPk3 : Hid (∀ X : World, Rd X kp s z2 (.slice ao P.length cap) ov → Calls Try.prog 48 #[.pointer (some ⟨kp, 0, none⟩)] X fun e w' => e = .returned (.int .u8 ((35 : Nat) : Int)) ∧ Fr NoB X w') := fun X hX => by
    have := peek_fn X kp s z2 _ ov hX Hz2.out
    rwa [HQ.out] at this
  go_wp2_with fail
  refine (HPk3.out _ HW2.out.rp.rd).mono ?_
  rintro x w3 ⟨rfl, hF3⟩
  have HW3 : Hid _ := HW2.out.no hF3
  clear hF3 HW2 HPk3
  have d4 := HW3.out.pt.c0
  have g4 := HW3.out.pt.f 0
  simp only [] at d4
  go_wp2_with fail
  have HW4 : Hid _ := HW3.out.set0 2
  clear HW3 d4 g4
  simp only [] at HW4
  refine (take_fn _ kp s z2 _ ov HW4.out.rp.rd Hz2.out 35 (by decide)).mono ?_
  rintro x w5 ⟨rfl, hR5, hF5⟩
  have HW5 : Hid _ := HW4.out.step hF5 hR5
  have Hz5 : Hid (Zb s (tk s 35 z2)) := Hz2.out.tk (by decide)
  simp only [] at HW5
  clear hR5 hF5 HW4
  generalize tk s 35 z2 = z5 at *
  go_wp2_with fail
  refine (box_fn _ kp s z5 _ ov HW5.out.rp.rd Hz5.out).mono ?_
  rintro x w6 ⟨rfl, hR6, hF6⟩
  have HW6 : Hid _ := HW5.out.step hF6 hR6
  have Hz6 : Hid (Zb s (bx s z5)) := Hz5.out.bx
  simp only [] at HW6
  clear hR6 hF6 HW5
  generalize bx s z5 = z6 at *
  have d7 := HW6.out.pt.c2
  have g7 := HW6.out.pt.f 2
  simp only [] at d7
  go_wp2_with fail
  have HW7 : Hid _ := HW6.out.set2 (bxV s z5)
  clear HW6 d7 g7
  simp only [] at HW7
  refine (take_fn _ kp s z6 _ ov HW7.out.rp.rd Hz6.out 59 (by decide)).mono ?_
  rintro x w8 ⟨rfl, hR8, hF8⟩
  have HW8 : Hid _ := HW7.out.step hF8 hR8
  have Hz8 : Hid (Zb s (tk s 59 z6)) := Hz6.out.tk (by decide)
  simp only [] at HW8
  clear hR8 hF8 HW7
  generalize tk s 59 z6 = z8 at *
  have HT : Hid _ := HW8.out
  clear HW8
  generalize hT : (⟨_, _, _, _, _⟩ : Pt) = tt at HT
  have HTT : Hid _ := hT
  clear hT
  have hrow := HT.out.rp.pr
  have e0 := HT.out.pt.c0
  have e1 := HT.out.pt.c1
  have e2 := HT.out.pt.c2
  have e3 := HT.out.pt.c3
  have e4 := HT.out.pt.c4
  have eP := HT.out.rp.rd.c2
  have hsz := HT.out.fr.size
  have hbb := HT.out.hb
  have hkl2 := HT.out.rp.rd.lt
  have hpl2 := HT.out.pt.lt
  simp only [] at hrow eP
  go_upto_region 14 with fail
  go_region_law ((refine step_append_kind rfl _ _ 62 rfl base 89 i0 (.agg #[.int .i64 0, .int .i64 0, .int .i64 0, .int .i64 0, .int .i64 0]) 5 40 Try.underlying62 hi0 hz0 hz1 hz2 rfl (by decide) _ _ _ rfl ((hrow.alloc _).drew) ⟨w8.heap.size, 0, none⟩ 1 1 [.int .i64 (tt.kind : Int), .int .i64 (tt.place : Int), .int .i64 (tt.box : Int), .int .i64 (tt.src : Int), .int .i64 (tt.opn : Int)] (by decide) rfl rfl (by intro j u hj; match j, hj with | 0, hj => (simp at hj; subst hj; simp [Addr.add]) | 1, hj => (simp at hj; subst hj; simp [Addr.add]) | 2, hj => (simp at hj; subst hj; simp [Addr.add]) | 3, hj => (simp at hj; subst hj; simp [Addr.add]) | 4, hj => (simp at hj; subst hj; simp [Addr.add])) (by intro u hu; simp at hu; rcases hu with rfl | rfl | rfl | rfl | rfl <;> rfl) (by unfold maxLen; omega) (by omega) (by simp; omega) ?_; intro v2 wv hown2 hk2; obtain ⟨y1, y2, y3, y4⟩ := HT.out.rp.growP (t := tt) hk2 hown2; obtain ⟨gb, cb, hve, _⟩ := hk2.place; subst hve; have HG := show Hid (_ ∧ _) from ⟨y3, y4⟩; clear y3 y4 hown2 hk2))
  all_goals
    go_wp2
    go_end0
    exact ⟨rfl, ⟨_, _, by rw [← HTT.out] at HG; rw [HE.out]; exact HG.out.1⟩, HT.out.fr.trans HG.out.2⟩
set_option maxRecDepth 8000 in
set_option maxHeartbeats 2000000 in
theorem toNumber_load (w : World) (kp base : Nat) (s : ByteArray) (r : Rs) (pv ov : Value) (h : RdP w kp base s r pv ov) (hz : Zb s r.z) (hb : base ≤ w.heap.size) (hl : r.P.length ≤ 90001) (hlt : r.z.1 < s.size) (he : pk s (tk s 61 (r.z.1 + 1, r.z.2)) ≠ 35) (he2 : greatN (pk s (tk s 61 (r.z.1 + 1, r.z.2))) = true) :
    Calls Try.prog 50 #[.pointer (some ⟨kp, 0, none⟩)] w fun x w' => PartSays kp base s (rNumber s r) w x w' := by
  obtain ⟨i0, hi0, hz0, hz1, hz2⟩ := info_parts Try.infoPart
  obtain ⟨ao, cap, rfl⟩ := owns_form h.pr
  obtain ⟨z0, P, O⟩ := r
  simp only [] at h hz hl hlt ⊢
  have HR : Hid (RdP w kp base s ⟨z0, P, O⟩ (.slice ao P.length cap) ov) := h
  have Hz0 : Hid (Zb s z0) := hz
  have c1 := h.rd.c1
  simp only [] at c1
  have hkl := h.rd.lt
  clear h hz
  have HE : Hid (rNumber s ⟨z0, P, O⟩ = ⟨tk s 59 (ix s (bx s (tk s 61 (z0.1 + 1, z0.2)))), P ++ [⟨1, z0.1, bxV s (tk s 61 (z0.1 + 1, z0.2)), 0, 0⟩], O⟩) := by show rNumber s ⟨z0, P, O⟩ = _; unfold rNumber; rw [if_neg he, if_pos he2]
  have HQ : Hid (pk s (tk s 61 (z0.1 + 1, z0.2)) ≠ 35) := he
  have HQ2 : Hid (greatN (pk s (tk s 61 (z0.1 + 1, z0.2))) = true) := he2
  clear he he2
  have HW0 : Hid _ := Wk.start HR.out hb ⟨0, z0.1, 0, 0, 0⟩
  simp only [] at HW0
  go_enter Try.func50, Try.ntmps50
  go_upto_region 1 with fail
  generalize (w.alloc _) = W0 at *
  generalize hpb : w.heap.size = pb at *
  clear hpb
  have Hz1 : Hid (Zb s (z0.1 + 1, z0.2)) := ⟨hlt, Hz0.out.w, Hz0.out.n⟩
  have hn := Hz0.out.n
  have c1' := HW0.out.rp.rd.c1
  have f1' := HW0.out.rp.rd.f 1
  simp only [] at c1'
  have HW1 : Hid _ := HW0.out.step ((Fr.refl (OneB kp) W0).setCell (p := ⟨kp, 1, none⟩) (fun _ => rfl) _) (HW0.out.rp.rd.set1 (z0.1 + 1))
  simp only [] at HW1
  clear HW0
  go_wp2_with fail
  generalize hz1 : ((z0.1 + 1, z0.2) : Nat × Nat) = z1 at *
  clear hz1
  refine (take_fn _ kp s z1 _ ov HW1.out.rp.rd Hz1.out 61 (by decide)).mono ?_
  rintro x w2 ⟨rfl, hR2, hF2⟩
  have HW2 : Hid _ := HW1.out.step hF2 hR2
  have Hz2 : Hid (Zb s (tk s 61 z1)) := Hz1.out.tk (by decide)
  simp only [] at HW2
  clear hR2 hF2 HW1
  generalize tk s 61 z1 = z2 at *
  have HPk3 : Hid (∀ X : World, Rd X kp s z2 (.slice ao P.length cap) ov → Calls Try.prog 48 #[.pointer (some ⟨kp, 0, none⟩)] X fun e w' => e = .returned (.int .u8 (pk s z2 : Int)) ∧ Fr NoB X w') := fun X hX => by
    have := peek_fn X kp s z2 _ ov hX Hz2.out
    exact this
  have b1 : ((pk s z2 : Int) == 35) = false := beq_eq_false_iff_ne.2 (by have := HQ.out; omega)
  have HB : Hid _ := fun X => isBox_fn X (pk s z2)
  rw [HQ2.out] at HB
  go_wp2_with fail
  refine (HPk3.out _ HW2.out.rp.rd).mono ?_
  rintro x w3 ⟨rfl, hF3⟩
  have HW3 : Hid _ := HW2.out.no hF3
  clear hF3 HW2 HPk3
  go_wp2_with fail
  refine (HB.out _).mono ?_
  rintro x wb ⟨rfl, hw⟩
  have hw2 := hw.symm
  clear hw
  subst hw2
  have d4 := HW3.out.pt.c0
  have g4 := HW3.out.pt.f 0
  simp only [] at d4
  go_wp2_with fail
  have HW4 : Hid _ := HW3.out.set0 1
  clear HW3 d4 g4
  simp only [] at HW4
  refine (box_fn _ kp s z2 _ ov HW4.out.rp.rd Hz2.out).mono ?_
  rintro x w5 ⟨rfl, hR5, hF5⟩
  have HW5 : Hid _ := HW4.out.step hF5 hR5
  have Hz5 : Hid (Zb s (bx s z2)) := Hz2.out.bx
  simp only [] at HW5
  clear hR5 hF5 HW4
  generalize bx s z2 = z5 at *
  have d6 := HW5.out.pt.c2
  have g6 := HW5.out.pt.f 2
  simp only [] at d6
  go_wp2_with fail
  have HW6 : Hid _ := HW5.out.set2 (bxV s z2)
  clear HW5 d6 g6
  simp only [] at HW6
  refine (index_fn _ kp s z5 _ ov HW6.out.rp.rd Hz5.out).mono ?_
  rintro x w7 ⟨rfl, hR7, hF7⟩
  have HW7 : Hid _ := HW6.out.step hF7 hR7
  have Hz7 : Hid (Zb s (ix s z5)) := Hz5.out.ix
  simp only [] at HW7
  clear hR7 hF7 HW6
  generalize ix s z5 = z7 at *
  go_wp2_with fail
  refine (take_fn _ kp s z7 _ ov HW7.out.rp.rd Hz7.out 59 (by decide)).mono ?_
  rintro x w8 ⟨rfl, hR8, hF8⟩
  have HW8 : Hid _ := HW7.out.step hF8 hR8
  have Hz8 : Hid (Zb s (tk s 59 z7)) := Hz7.out.tk (by decide)
  simp only [] at HW8
  clear hR8 hF8 HW7
  generalize tk s 59 z7 = z8 at *
  have HT : Hid _ := HW8.out
  clear HW8
  generalize hT : (⟨_, _, _, _, _⟩ : Pt) = tt at HT
  have HTT : Hid _ := hT
  clear hT
  have hrow := HT.out.rp.pr
  have e0 := HT.out.pt.c0
  have e1 := HT.out.pt.c1
  have e2 := HT.out.pt.c2
  have e3 := HT.out.pt.c3
  have e4 := HT.out.pt.c4
  have eP := HT.out.rp.rd.c2
  have hsz := HT.out.fr.size
  have hbb := HT.out.hb
  have hkl2 := HT.out.rp.rd.lt
  have hpl2 := HT.out.pt.lt
  simp only [] at hrow eP
  go_upto_region 14 with fail
  go_region_law ((refine step_append_kind rfl _ _ 62 rfl base 89 i0 (.agg #[.int .i64 0, .int .i64 0, .int .i64 0, .int .i64 0, .int .i64 0]) 5 40 Try.underlying62 hi0 hz0 hz1 hz2 rfl (by decide) _ _ _ rfl ((hrow.alloc _).drew) ⟨w8.heap.size, 0, none⟩ 1 1 [.int .i64 (tt.kind : Int), .int .i64 (tt.place : Int), .int .i64 (tt.box : Int), .int .i64 (tt.src : Int), .int .i64 (tt.opn : Int)] (by decide) rfl rfl (by intro j u hj; match j, hj with | 0, hj => (simp at hj; subst hj; simp [Addr.add]) | 1, hj => (simp at hj; subst hj; simp [Addr.add]) | 2, hj => (simp at hj; subst hj; simp [Addr.add]) | 3, hj => (simp at hj; subst hj; simp [Addr.add]) | 4, hj => (simp at hj; subst hj; simp [Addr.add])) (by intro u hu; simp at hu; rcases hu with rfl | rfl | rfl | rfl | rfl <;> rfl) (by unfold maxLen; omega) (by omega) (by simp; omega) ?_; intro v2 wv hown2 hk2; obtain ⟨y1, y2, y3, y4⟩ := HT.out.rp.growP (t := tt) hk2 hown2; obtain ⟨gb, cb, hve, _⟩ := hk2.place; subst hve; have HG := show Hid (_ ∧ _) from ⟨y3, y4⟩; clear y3 y4 hown2 hk2))
  all_goals
    go_wp2
    go_end0
    exact ⟨rfl, ⟨_, _, by rw [← HTT.out] at HG; rw [HE.out]; exact HG.out.1⟩, HT.out.fr.trans HG.out.2⟩
set_option maxRecDepth 8000 in
set_option maxHeartbeats 2000000 in
theorem toNumber_set (w : World) (kp base : Nat) (s : ByteArray) (r : Rs) (pv ov : Value) (h : RdP w kp base s r pv ov) (hz : Zb s r.z) (hb : base ≤ w.heap.size) (hl : r.P.length ≤ 90001) (hlt : r.z.1 < s.size) (he : pk s (tk s 61 (r.z.1 + 1, r.z.2)) ≠ 35) (he2 : greatN (pk s (tk s 61 (r.z.1 + 1, r.z.2))) = false) :
    Calls Try.prog 50 #[.pointer (some ⟨kp, 0, none⟩)] w fun x w' => PartSays kp base s (rNumber s r) w x w' := by
  obtain ⟨i0, hi0, hz0, hz1, hz2⟩ := info_parts Try.infoPart
  obtain ⟨ao, cap, rfl⟩ := owns_form h.pr
  obtain ⟨z0, P, O⟩ := r
  simp only [] at h hz hl hlt ⊢
  have HR : Hid (RdP w kp base s ⟨z0, P, O⟩ (.slice ao P.length cap) ov) := h
  have Hz0 : Hid (Zb s z0) := hz
  have c1 := h.rd.c1
  simp only [] at c1
  have hkl := h.rd.lt
  clear h hz
  have HE : Hid (rNumber s ⟨z0, P, O⟩ = ⟨tk s 59 (rk s (tk s 61 (z0.1 + 1, z0.2))), P ++ [⟨0, z0.1, 0, 0, 0⟩], O⟩) := by show rNumber s ⟨z0, P, O⟩ = _; unfold rNumber; rw [if_neg he, if_neg (by rw [he2]; simp)]
  have HQ : Hid (pk s (tk s 61 (z0.1 + 1, z0.2)) ≠ 35) := he
  have HQ2 : Hid (greatN (pk s (tk s 61 (z0.1 + 1, z0.2))) = false) := he2
  clear he he2
  have HW0 : Hid _ := Wk.start HR.out hb ⟨0, z0.1, 0, 0, 0⟩
  simp only [] at HW0
  go_enter Try.func50, Try.ntmps50
  go_upto_region 1 with fail
  generalize (w.alloc _) = W0 at *
  generalize hpb : w.heap.size = pb at *
  clear hpb
  have Hz1 : Hid (Zb s (z0.1 + 1, z0.2)) := ⟨hlt, Hz0.out.w, Hz0.out.n⟩
  have hn := Hz0.out.n
  have c1' := HW0.out.rp.rd.c1
  have f1' := HW0.out.rp.rd.f 1
  simp only [] at c1'
  have HW1 : Hid _ := HW0.out.step ((Fr.refl (OneB kp) W0).setCell (p := ⟨kp, 1, none⟩) (fun _ => rfl) _) (HW0.out.rp.rd.set1 (z0.1 + 1))
  simp only [] at HW1
  clear HW0
  go_wp2_with fail
  generalize hz1 : ((z0.1 + 1, z0.2) : Nat × Nat) = z1 at *
  clear hz1
  refine (take_fn _ kp s z1 _ ov HW1.out.rp.rd Hz1.out 61 (by decide)).mono ?_
  rintro x w2 ⟨rfl, hR2, hF2⟩
  have HW2 : Hid _ := HW1.out.step hF2 hR2
  have Hz2 : Hid (Zb s (tk s 61 z1)) := Hz1.out.tk (by decide)
  simp only [] at HW2
  clear hR2 hF2 HW1
  generalize tk s 61 z1 = z2 at *
  have HPk3 : Hid (∀ X : World, Rd X kp s z2 (.slice ao P.length cap) ov → Calls Try.prog 48 #[.pointer (some ⟨kp, 0, none⟩)] X fun e w' => e = .returned (.int .u8 (pk s z2 : Int)) ∧ Fr NoB X w') := fun X hX => by
    have := peek_fn X kp s z2 _ ov hX Hz2.out
    exact this
  have b1 : ((pk s z2 : Int) == 35) = false := beq_eq_false_iff_ne.2 (by have := HQ.out; omega)
  have HB : Hid _ := fun X => isBox_fn X (pk s z2)
  rw [HQ2.out] at HB
  go_wp2_with fail
  refine (HPk3.out _ HW2.out.rp.rd).mono ?_
  rintro x w3 ⟨rfl, hF3⟩
  have HW3 : Hid _ := HW2.out.no hF3
  clear hF3 HW2 HPk3
  go_wp2_with fail
  refine (HB.out _).mono ?_
  rintro x wb ⟨rfl, hw⟩
  have hw2 := hw.symm
  clear hw
  subst hw2
  go_wp2_with fail
  refine (reckon_fn _ kp s z2 _ ov HW3.out.rp.rd Hz2.out).mono ?_
  rintro x w4 ⟨rfl, hR4, hF4⟩
  have HW4 : Hid _ := HW3.out.step hF4 hR4
  have Hz4 : Hid (Zb s (rk s z2)) := Hz2.out.rk
  simp only [] at HW4
  clear hR4 hF4 HW3
  generalize rk s z2 = z4 at *
  go_wp2_with fail
  refine (take_fn _ kp s z4 _ ov HW4.out.rp.rd Hz4.out 59 (by decide)).mono ?_
  rintro x w5 ⟨rfl, hR5, hF5⟩
  have HW5 : Hid _ := HW4.out.step hF5 hR5
  have Hz5 : Hid (Zb s (tk s 59 z4)) := Hz4.out.tk (by decide)
  simp only [] at HW5
  clear hR5 hF5 HW4
  generalize tk s 59 z4 = z5 at *
  have HT : Hid _ := HW5.out
  clear HW5
  generalize hT : (⟨_, _, _, _, _⟩ : Pt) = tt at HT
  have HTT : Hid _ := hT
  clear hT
  have hrow := HT.out.rp.pr
  have e0 := HT.out.pt.c0
  have e1 := HT.out.pt.c1
  have e2 := HT.out.pt.c2
  have e3 := HT.out.pt.c3
  have e4 := HT.out.pt.c4
  have eP := HT.out.rp.rd.c2
  have hsz := HT.out.fr.size
  have hbb := HT.out.hb
  have hkl2 := HT.out.rp.rd.lt
  have hpl2 := HT.out.pt.lt
  simp only [] at hrow eP
  go_upto_region 14 with fail
  go_region_law ((refine step_append_kind rfl _ _ 62 rfl base 89 i0 (.agg #[.int .i64 0, .int .i64 0, .int .i64 0, .int .i64 0, .int .i64 0]) 5 40 Try.underlying62 hi0 hz0 hz1 hz2 rfl (by decide) _ _ _ rfl ((hrow.alloc _).drew) ⟨w5.heap.size, 0, none⟩ 1 1 [.int .i64 (tt.kind : Int), .int .i64 (tt.place : Int), .int .i64 (tt.box : Int), .int .i64 (tt.src : Int), .int .i64 (tt.opn : Int)] (by decide) rfl rfl (by intro j u hj; match j, hj with | 0, hj => (simp at hj; subst hj; simp [Addr.add]) | 1, hj => (simp at hj; subst hj; simp [Addr.add]) | 2, hj => (simp at hj; subst hj; simp [Addr.add]) | 3, hj => (simp at hj; subst hj; simp [Addr.add]) | 4, hj => (simp at hj; subst hj; simp [Addr.add])) (by intro u hu; simp at hu; rcases hu with rfl | rfl | rfl | rfl | rfl <;> rfl) (by unfold maxLen; omega) (by omega) (by simp; omega) ?_; intro v2 wv hown2 hk2; obtain ⟨y1, y2, y3, y4⟩ := HT.out.rp.growP (t := tt) hk2 hown2; obtain ⟨gb, cb, hve, _⟩ := hk2.place; subst hve; have HG := show Hid (_ ∧ _) from ⟨y3, y4⟩; clear y3 y4 hown2 hk2))
  all_goals
    go_wp2
    go_end0
    exact ⟨rfl, ⟨_, _, by rw [← HTT.out] at HG; rw [HE.out]; exact HG.out.1⟩, HT.out.fr.trans HG.out.2⟩
theorem toNumber_fn (w : World) (kp base : Nat) (s : ByteArray) (r : Rs) (pv ov : Value) (h : RdP w kp base s r pv ov) (hz : Zb s r.z) (hb : base ≤ w.heap.size) (hl : r.P.length ≤ 90001) (hlt : r.z.1 < s.size) :
    Calls Try.prog 50 #[.pointer (some ⟨kp, 0, none⟩)] w fun x w' => PartSays kp base s (rNumber s r) w x w' := by
  by_cases he : pk s (tk s 61 (r.z.1 + 1, r.z.2)) = 35
  · exact toNumber_size w kp base s r pv ov h hz hb hl hlt he
  · cases he2 : greatN (pk s (tk s 61 (r.z.1 + 1, r.z.2)))
    · exact toNumber_set w kp base s r pv ov h hz hb hl hlt he he2
    · exact toNumber_load w kp base s r pv ov h hz hb hl hlt he he2
end Go.Proofs.Ytdpkcniiljpdbaa
