/-
  The program's reader in memory: what closes a brace.
-/
import Derived.Test.YtdpkcniiljpdbaaDevZC
import Derived.Test.YtdpkcniiljpdbaaDevZD
namespace Go.Proofs.Ytdpkcniiljpdbaa
open Go.RowKit
set_option linter.unusedVariables false

set_option maxHeartbeats 2000000 in
theorem closing_nil (w : World) (kp base : Nat) (s : ByteArray) (r : Rs) (pv ov : Value) (h : RdP w kp base s r pv ov) (hO : r.O = []) :
    Calls Try.prog 56 #[.pointer (some ⟨kp, 0, none⟩)] w fun x w' => PartSays kp base s (rClose s r) w x w' := by
  obtain ⟨z0, P, O⟩ := r
  simp only [] at hO
  subst hO
  obtain ⟨oo, oc, rfl⟩ := owns_form h.orow
  have c3 := h.rd.c3
  simp only [List.length_nil] at c3
  have HR : Hid (RdP w kp base s ⟨z0, P, []⟩ pv (.slice oo 0 oc)) := h
  have HE : Hid (rClose s ⟨z0, P, []⟩ = ⟨rf 2 z0, P, []⟩) := by show rClose s ⟨z0, P, []⟩ = _; unfold rClose; rw [if_pos rfl]
  clear h
  go_enter Try.func56, Try.ntmps56
  go_wp2_with (go_at_call 36; refine (refuse_fn _ kp s z0 pv _ HR.out.rd 2).mono ?_; rintro x w2 ⟨rfl, hR2, hF2⟩)
  exact bodyPost_ret (v := .tuple #[]) (by simp [results, Try.results56, go_sem]) rfl ⟨rfl, ⟨_, _, by rw [HE.out]; exact HR.out.step hF2 hR2⟩, hF2.mono (fun k _ e => .inl e)⟩

set_option maxRecDepth 8000 in
set_option maxHeartbeats 2000000 in
theorem closing_join (w : World) (kp base : Nat) (s : ByteArray) (z0 : Nat × Nat) (P : List Pt) (O1 : List Nat) (la : Nat) (pv ov : Value) (h : RdP w kp base s ⟨z0, P, O1 ++ [la]⟩ pv ov) (hz : Zb s z0) (hb : base ≤ w.heap.size) (hl : P.length ≤ 90001) (hlo : O1.length ≤ 90000) (hla : la < P.length) (hk : (pOf P la).kind = 8) :
    Calls Try.prog 56 #[.pointer (some ⟨kp, 0, none⟩)] w fun x w' => PartSays kp base s (rClose s ⟨z0, P, O1 ++ [la]⟩) w x w' := by
  obtain ⟨i0, hi0, hz0, hz1, hz2⟩ := info_parts Try.infoPart
  obtain ⟨i1, hi1, hy0, hy1, hy2⟩ := info_parts Try.infoInt
  have hlast : (O1 ++ [la]).getLast?.getD 0 = la := by simp
  have hdrop : (O1 ++ [la]).dropLast = O1 := by simp
  have hnil : ¬ (O1 ++ [la] = []) := by simp
  have HE : Hid (rClose s ⟨z0, P, O1 ++ [la]⟩ = ⟨tk s 125 z0, P ++ [⟨9, z0.1, 0, 0, la⟩], O1⟩) := by show rClose s ⟨z0, P, O1 ++ [la]⟩ = _; unfold rClose; simp only []; rw [if_neg hnil, hlast, hdrop, if_neg (by omega), if_pos hk]
  clear hlast hdrop hnil
  obtain ⟨go, oc, rfl, hoc1, hoc2, hco⟩ := h.openTop
  obtain ⟨gp, cap, rfl, hgp, hcp⟩ := h.part (show 0 < P.length by omega)
  have hck := hcp la 0 _ hla (by omega) rfl
  rw [hk] at hck
  simp only [Nat.add_zero] at hck
  clear hcp
  unfold maxLen at hoc2
  have HR : Hid (RdP w kp base s ⟨z0, P, O1 ++ [la]⟩ (.slice (some ⟨gp, 0, none⟩) P.length cap) (.slice (some ⟨go, 0, none⟩) (O1.length + 1) oc)) := h
  have Hz0 : Hid (Zb s z0) := hz
  have c1 := h.rd.c1
  have c3 := h.rd.c3
  simp only [] at c1
  have hkl := h.rd.lt
  have hgol : go < w.heap.size := (owns_base h.orow (g := go) rfl).2
  have hgk : gp ≠ kp := fun e => by have := owns_base h.pr (g := gp) rfl; have := h.kb; omega
  have Hck : Hid (w.cell? ⟨gp, la * 5, none⟩ = some (.int .i64 ((8 : Nat) : Int))) := hck
  clear h hz hck
  have HW0 : Hid _ := (Wk.start HR.out hb ⟨0, z0.1, 0, 0, la⟩).no ((Fr.refl _ _).drew)
  simp only [] at HW0
  go_enter Try.func56, Try.ntmps56
  go_upto_region 3 with fail
  go_region
  have HF0 : Hid (Fr NoB w (w.alloc (Obj.cells #[Value.int IntKind.i64 0, Value.int IntKind.i64 (z0.1 : Int), Value.int IntKind.i64 0, Value.int IntKind.i64 0, Value.int IntKind.i64 (la : Int)] 89)).drew) := ((Fr.refl _ _).alloc _).drew
  generalize (w.alloc (Obj.cells #[Value.int IntKind.i64 0, Value.int IntKind.i64 (z0.1 : Int), Value.int IntKind.i64 0, Value.int IntKind.i64 0, Value.int IntKind.i64 (la : Int)] 89)).drew = W0 at *
  have hpbne : w.heap.size ≠ gp := by omega
  generalize hpb : w.heap.size = pb at *
  have HC0 : Hid _ := HF0.out.cell_some Hck.out id
  clear hpb Hck HF0 c1 c3 hco
  have c3 := HW0.out.rp.rd.c3
  have f3 := HW0.out.rp.rd.f 3
  go_wp2_with fail
  have HW1 : Hid _ := HW0.out.popO
  have HC1 : Hid _ := ((Fr.refl (OneB kp) W0).setCell (p := ⟨kp, 3, none⟩) (fun _ => rfl) (Value.slice (some ⟨go, 0, none⟩) O1.length oc)).cell_some HC0.out hgk
  clear HW0 HC0 c3 f3
  refine (take_fn _ kp s z0 _ _ HW1.out.rp.rd Hz0.out 125 (by decide)).mono ?_
  rintro x w2 ⟨rfl, hR2, hF2⟩
  have HW2 : Hid _ := HW1.out.step hF2 hR2
  have Hz2 : Hid (Zb s (tk s 125 z0)) := Hz0.out.tk (by decide)
  have HC2 : Hid _ := hF2.cell_some HC1.out hgk
  try simp only [] at HW2
  clear hR2 hF2 HW1 HC1
  generalize tk s 125 z0 = z2 at *
  have c2 := HW2.out.rp.rd.c2
  have d4 := HW2.out.pt.c4
  have ck := HC2.out
  try simp only [] at d4
  go_upto_region 6 with fail
  go_quiet (fail)
  have HW3 : Hid _ := HW2.out.no ((Fr.refl _ w2).drewN nq)
  generalize hw3 : w2.drewN nq = w3 at *
  clear hw3 HW2 c2 d4 ck HC2
  have d0 := HW3.out.pt.c0
  have g0 := HW3.out.pt.f 0
  try simp only [] at d0
  go_upto_region 14 with fail
  have HW4 : Hid _ := HW3.out.set0 9
  clear HW3 d0 g0
  try simp only [] at HW4
  generalize hw4 : (w3.setCell ⟨pb, 0, none⟩ _) = w4 at *
  clear hw4
  have HT : Hid _ := HW4.out
  clear HW4
  generalize hT : (⟨_, _, _, _, _⟩ : Pt) = tt at HT
  have HTT : Hid _ := hT
  clear hT
  have hrow := HT.out.rp.pr
  have e0 := HT.out.pt.c0
  have e1 := HT.out.pt.c1
  have e2 := HT.out.pt.c2
  have e3 := HT.out.pt.c3
  have e4 := HT.out.pt.c4
  have eP := HT.out.rp.rd.c2
  have hsz := HT.out.fr.size
  have hbb := HT.out.hb
  have hkl2 := HT.out.rp.rd.lt
  have hpl2 := HT.out.pt.lt
  try simp only [] at hrow eP
  go_upto_region 14 with fail
  go_region_law ((refine step_append_kind rfl _ _ 62 rfl base 89 i0 (.agg #[.int .i64 0, .int .i64 0, .int .i64 0, .int .i64 0, .int .i64 0]) 5 40 Try.underlying62 hi0 hz0 hz1 hz2 rfl (by decide) _ _ _ rfl ((hrow.alloc _).drew) ⟨w4.heap.size, 0, none⟩ 1 1 [.int .i64 (tt.kind : Int), .int .i64 (tt.place : Int), .int .i64 (tt.box : Int), .int .i64 (tt.src : Int), .int .i64 (tt.opn : Int)] (by decide) rfl rfl (by intro j u hj; match j, hj with | 0, hj => (simp at hj; subst hj; simp [Addr.add]) | 1, hj => (simp at hj; subst hj; simp [Addr.add]) | 2, hj => (simp at hj; subst hj; simp [Addr.add]) | 3, hj => (simp at hj; subst hj; simp [Addr.add]) | 4, hj => (simp at hj; subst hj; simp [Addr.add])) (by intro u hu; simp at hu; rcases hu with rfl | rfl | rfl | rfl | rfl <;> rfl) (by unfold maxLen; omega) (by omega) (by simp; omega) ?_; intro v2 wv hown2 hk2; obtain ⟨y1, y2, y3, y4⟩ := HT.out.rp.growP (t := tt) hk2 hown2; obtain ⟨gb, cb, hve, _⟩ := hk2.place; subst hve; have HG := show Hid (_ ∧ _) from ⟨y3, y4⟩; clear y3 y4 hown2 hk2))
  all_goals
    go_wp2
    go_end0
    exact ⟨rfl, ⟨_, _, by rw [← HTT.out] at HG; rw [HE.out]; exact HG.out.1⟩, HT.out.fr.trans HG.out.2⟩
set_option maxRecDepth 8000 in
set_option maxHeartbeats 2000000 in
theorem closing_again (w : World) (kp base : Nat) (s : ByteArray) (z0 : Nat × Nat) (P : List Pt) (O1 : List Nat) (la : Nat) (pv ov : Value) (h : RdP w kp base s ⟨z0, P, O1 ++ [la]⟩ pv ov) (hz : Zb s z0) (hb : base ≤ w.heap.size) (hl : P.length ≤ 90001) (hlo : O1.length ≤ 90000) (hla : la < P.length) (hk : (pOf P la).kind ≠ 7) (hk8 : (pOf P la).kind ≠ 8) :
    Calls Try.prog 56 #[.pointer (some ⟨kp, 0, none⟩)] w fun x w' => PartSays kp base s (rClose s ⟨z0, P, O1 ++ [la]⟩) w x w' := by
  obtain ⟨i0, hi0, hz0, hz1, hz2⟩ := info_parts Try.infoPart
  obtain ⟨i1, hi1, hy0, hy1, hy2⟩ := info_parts Try.infoInt
  have hlast : (O1 ++ [la]).getLast?.getD 0 = la := by simp
  have hdrop : (O1 ++ [la]).dropLast = O1 := by simp
  have hnil : ¬ (O1 ++ [la] = []) := by simp
  have HE : Hid (rClose s ⟨z0, P, O1 ++ [la]⟩ = ⟨tk s 125 z0, P ++ [⟨11, z0.1, 0, 0, la⟩], O1⟩) := by show rClose s ⟨z0, P, O1 ++ [la]⟩ = _; unfold rClose; simp only []; rw [if_neg hnil, hlast, hdrop, if_neg hk, if_neg hk8]
  have b7 : (((pOf P la).kind : Int) == 7) = false := beq_eq_false_iff_ne.2 (by omega)
  have b8 : (((pOf P la).kind : Int) == 8) = false := beq_eq_false_iff_ne.2 (by omega)
  clear hlast hdrop hnil
  obtain ⟨go, oc, rfl, hoc1, hoc2, hco⟩ := h.openTop
  obtain ⟨gp, cap, rfl, hgp, hcp⟩ := h.part (show 0 < P.length by omega)
  have hck := hcp la 0 _ hla (by omega) rfl
  simp only [Nat.add_zero] at hck
  clear hcp
  unfold maxLen at hoc2
  have HR : Hid (RdP w kp base s ⟨z0, P, O1 ++ [la]⟩ (.slice (some ⟨gp, 0, none⟩) P.length cap) (.slice (some ⟨go, 0, none⟩) (O1.length + 1) oc)) := h
  have Hz0 : Hid (Zb s z0) := hz
  have c1 := h.rd.c1
  have c3 := h.rd.c3
  simp only [] at c1
  have hkl := h.rd.lt
  have hgol : go < w.heap.size := (owns_base h.orow (g := go) rfl).2
  have hgk : gp ≠ kp := fun e => by have := owns_base h.pr (g := gp) rfl; have := h.kb; omega
  have Hck : Hid (w.cell? ⟨gp, la * 5, none⟩ = some (.int .i64 ((pOf P la).kind : Int))) := hck
  clear h hz hck
  have HW0 : Hid _ := (Wk.start HR.out hb ⟨0, z0.1, 0, 0, la⟩).no ((Fr.refl _ _).drew)
  simp only [] at HW0
  go_enter Try.func56, Try.ntmps56
  go_upto_region 3 with fail
  go_region
  have HF0 : Hid (Fr NoB w (w.alloc (Obj.cells #[Value.int IntKind.i64 0, Value.int IntKind.i64 (z0.1 : Int), Value.int IntKind.i64 0, Value.int IntKind.i64 0, Value.int IntKind.i64 (la : Int)] 89)).drew) := ((Fr.refl _ _).alloc _).drew
  generalize (w.alloc (Obj.cells #[Value.int IntKind.i64 0, Value.int IntKind.i64 (z0.1 : Int), Value.int IntKind.i64 0, Value.int IntKind.i64 0, Value.int IntKind.i64 (la : Int)] 89)).drew = W0 at *
  have hpbne : w.heap.size ≠ gp := by omega
  generalize hpb : w.heap.size = pb at *
  have HC0 : Hid _ := HF0.out.cell_some Hck.out id
  clear hpb Hck HF0 c1 c3 hco
  have c3 := HW0.out.rp.rd.c3
  have f3 := HW0.out.rp.rd.f 3
  go_wp2_with fail
  have HW1 : Hid _ := HW0.out.popO
  have HC1 : Hid _ := ((Fr.refl (OneB kp) W0).setCell (p := ⟨kp, 3, none⟩) (fun _ => rfl) (Value.slice (some ⟨go, 0, none⟩) O1.length oc)).cell_some HC0.out hgk
  clear HW0 HC0 c3 f3
  refine (take_fn _ kp s z0 _ _ HW1.out.rp.rd Hz0.out 125 (by decide)).mono ?_
  rintro x w2 ⟨rfl, hR2, hF2⟩
  have HW2 : Hid _ := HW1.out.step hF2 hR2
  have Hz2 : Hid (Zb s (tk s 125 z0)) := Hz0.out.tk (by decide)
  have HC2 : Hid _ := hF2.cell_some HC1.out hgk
  try simp only [] at HW2
  clear hR2 hF2 HW1 HC1
  generalize tk s 125 z0 = z2 at *
  have c2 := HW2.out.rp.rd.c2
  have d4 := HW2.out.pt.c4
  have ck := HC2.out
  try simp only [] at d4
  go_upto_region 6 with fail
  go_quiet (fail)
  have HW3 : Hid _ := HW2.out.no ((Fr.refl _ w2).drewN nq)
  generalize hw3 : w2.drewN nq = w3 at *
  clear hw3 HW2 c2 d4 ck HC2
  have d0 := HW3.out.pt.c0
  have g0 := HW3.out.pt.f 0
  try simp only [] at d0
  go_upto_region 14 with fail
  have HW4 : Hid _ := HW3.out.set0 11
  clear HW3 d0 g0
  try simp only [] at HW4
  generalize hw4 : (w3.setCell ⟨pb, 0, none⟩ _) = w4 at *
  clear hw4
  have HT : Hid _ := HW4.out
  clear HW4
  generalize hT : (⟨_, _, _, _, _⟩ : Pt) = tt at HT
  have HTT : Hid _ := hT
  clear hT
  have hrow := HT.out.rp.pr
  have e0 := HT.out.pt.c0
  have e1 := HT.out.pt.c1
  have e2 := HT.out.pt.c2
  have e3 := HT.out.pt.c3
  have e4 := HT.out.pt.c4
  have eP := HT.out.rp.rd.c2
  have hsz := HT.out.fr.size
  have hbb := HT.out.hb
  have hkl2 := HT.out.rp.rd.lt
  have hpl2 := HT.out.pt.lt
  try simp only [] at hrow eP
  go_upto_region 14 with fail
  go_region_law ((refine step_append_kind rfl _ _ 62 rfl base 89 i0 (.agg #[.int .i64 0, .int .i64 0, .int .i64 0, .int .i64 0, .int .i64 0]) 5 40 Try.underlying62 hi0 hz0 hz1 hz2 rfl (by decide) _ _ _ rfl ((hrow.alloc _).drew) ⟨w4.heap.size, 0, none⟩ 1 1 [.int .i64 (tt.kind : Int), .int .i64 (tt.place : Int), .int .i64 (tt.box : Int), .int .i64 (tt.src : Int), .int .i64 (tt.opn : Int)] (by decide) rfl rfl (by intro j u hj; match j, hj with | 0, hj => (simp at hj; subst hj; simp [Addr.add]) | 1, hj => (simp at hj; subst hj; simp [Addr.add]) | 2, hj => (simp at hj; subst hj; simp [Addr.add]) | 3, hj => (simp at hj; subst hj; simp [Addr.add]) | 4, hj => (simp at hj; subst hj; simp [Addr.add])) (by intro u hu; simp at hu; rcases hu with rfl | rfl | rfl | rfl | rfl <;> rfl) (by unfold maxLen; omega) (by omega) (by simp; omega) ?_; intro v2 wv hown2 hk2; obtain ⟨y1, y2, y3, y4⟩ := HT.out.rp.growP (t := tt) hk2 hown2; obtain ⟨gb, cb, hve, _⟩ := hk2.place; subst hve; have HG := show Hid (_ ∧ _) from ⟨y3, y4⟩; clear y3 y4 hown2 hk2))
  all_goals
    go_wp2
    go_end0
    exact ⟨rfl, ⟨_, _, by rw [← HTT.out] at HG; rw [HE.out]; exact HG.out.1⟩, HT.out.fr.trans HG.out.2⟩
set_option maxRecDepth 8000 in
set_option maxHeartbeats 2000000 in
theorem closing_middle (w : World) (kp base : Nat) (s : ByteArray) (z0 : Nat × Nat) (P : List Pt) (O1 : List Nat) (la : Nat) (pv ov : Value) (h : RdP w kp base s ⟨z0, P, O1 ++ [la]⟩ pv ov) (hz : Zb s z0) (hb : base ≤ w.heap.size) (hl : P.length ≤ 90001) (hlo : O1.length ≤ 90000) (hla : la < P.length) (hk : (pOf P la).kind = 7) :
    Calls Try.prog 56 #[.pointer (some ⟨kp, 0, none⟩)] w fun x w' => PartSays kp base s (rClose s ⟨z0, P, O1 ++ [la]⟩) w x w' := by
  obtain ⟨i0, hi0, hz0, hz1, hz2⟩ := info_parts Try.infoPart
  obtain ⟨i1, hi1, hy0, hy1, hy2⟩ := info_parts Try.infoInt
  have hlast : (O1 ++ [la]).getLast?.getD 0 = la := by simp
  have hdrop : (O1 ++ [la]).dropLast = O1 := by simp
  have hnil : ¬ (O1 ++ [la] = []) := by simp
  have HE : Hid (rClose s ⟨z0, P, O1 ++ [la]⟩ = ⟨tk s 123 (tk s 125 z0), P ++ [⟨8, z0.1, 0, 0, la⟩], O1 ++ [P.length]⟩) := by show rClose s ⟨z0, P, O1 ++ [la]⟩ = _; unfold rClose; simp only []; rw [if_neg hnil, hlast, hdrop, if_pos hk]
  clear hlast hdrop hnil
  obtain ⟨go, oc, rfl, hoc1, hoc2, hco⟩ := h.openTop
  obtain ⟨gp, cap, rfl, hgp, hcp⟩ := h.part (show 0 < P.length by omega)
  have hck := hcp la 0 _ hla (by omega) rfl
  rw [hk] at hck
  simp only [Nat.add_zero] at hck
  clear hcp
  unfold maxLen at hoc2
  have HR : Hid (RdP w kp base s ⟨z0, P, O1 ++ [la]⟩ (.slice (some ⟨gp, 0, none⟩) P.length cap) (.slice (some ⟨go, 0, none⟩) (O1.length + 1) oc)) := h
  have Hz0 : Hid (Zb s z0) := hz
  have c1 := h.rd.c1
  have c3 := h.rd.c3
  simp only [] at c1
  have hkl := h.rd.lt
  have hgol : go < w.heap.size := (owns_base h.orow (g := go) rfl).2
  have hgk : gp ≠ kp := fun e => by have := owns_base h.pr (g := gp) rfl; have := h.kb; omega
  have Hck : Hid (w.cell? ⟨gp, la * 5, none⟩ = some (.int .i64 ((7 : Nat) : Int))) := hck
  clear h hz hck
  have HW0 : Hid _ := (Wk.start HR.out hb ⟨0, z0.1, 0, 0, la⟩).no ((Fr.refl _ _).drew)
  simp only [] at HW0
  go_enter Try.func56, Try.ntmps56
  go_upto_region 3 with fail
  go_region
  have HF0 : Hid (Fr NoB w (w.alloc (Obj.cells #[Value.int IntKind.i64 0, Value.int IntKind.i64 (z0.1 : Int), Value.int IntKind.i64 0, Value.int IntKind.i64 0, Value.int IntKind.i64 (la : Int)] 89)).drew) := ((Fr.refl _ _).alloc _).drew
  generalize (w.alloc (Obj.cells #[Value.int IntKind.i64 0, Value.int IntKind.i64 (z0.1 : Int), Value.int IntKind.i64 0, Value.int IntKind.i64 0, Value.int IntKind.i64 (la : Int)] 89)).drew = W0 at *
  have hpbne : w.heap.size ≠ gp := by omega
  generalize hpb : w.heap.size = pb at *
  have HC0 : Hid _ := HF0.out.cell_some Hck.out id
  clear hpb Hck HF0 c1 c3 hco
  have c3 := HW0.out.rp.rd.c3
  have f3 := HW0.out.rp.rd.f 3
  go_wp2_with fail
  have HW1 : Hid _ := HW0.out.popO
  have HC1 : Hid _ := ((Fr.refl (OneB kp) W0).setCell (p := ⟨kp, 3, none⟩) (fun _ => rfl) (Value.slice (some ⟨go, 0, none⟩) O1.length oc)).cell_some HC0.out hgk
  clear HW0 HC0 c3 f3
  refine (take_fn _ kp s z0 _ _ HW1.out.rp.rd Hz0.out 125 (by decide)).mono ?_
  rintro x w2 ⟨rfl, hR2, hF2⟩
  have HW2 : Hid _ := HW1.out.step hF2 hR2
  have Hz2 : Hid (Zb s (tk s 125 z0)) := Hz0.out.tk (by decide)
  have HC2 : Hid _ := hF2.cell_some HC1.out hgk
  try simp only [] at HW2
  clear hR2 hF2 HW1 HC1
  generalize tk s 125 z0 = z2 at *
  have c2 := HW2.out.rp.rd.c2
  have d4 := HW2.out.pt.c4
  have ck := HC2.out
  try simp only [] at d4
  go_upto_region 6 with fail
  go_quiet (fail)
  have HW3 : Hid _ := HW2.out.no ((Fr.refl _ w2).drewN nq)
  generalize hw3 : w2.drewN nq = w3 at *
  clear hw3 HW2 c2 d4 ck HC2
  have d0 := HW3.out.pt.c0
  have g0 := HW3.out.pt.f 0
  try simp only [] at d0
  go_wp2_with fail
  have HW4 : Hid _ := HW3.out.set0 8
  clear HW3 d0 g0
  try simp only [] at HW4
  refine (take_fn _ kp s z2 _ _ HW4.out.rp.rd Hz2.out 123 (by decide)).mono ?_
  rintro x w5 ⟨rfl, hR5, hF5⟩
  have HW5 : Hid _ := HW4.out.step hF5 hR5
  try simp only [] at HW5
  clear hR5 hF5 HW4
  generalize tk s 123 z2 = z5 at *
  have hrowO := HW5.out.rp.orow
  have eO := HW5.out.rp.rd.c3
  have eP2 := HW5.out.rp.rd.c2
  have hszO := HW5.out.fr.size
  have hbbO := HW5.out.hb
  have hklO := HW5.out.rp.rd.lt
  try simp only [] at hrowO eO eP2
  go_upto_region 11 with fail
  go_region_law ((refine step_append_kind rfl _ _ 32 rfl base 3 i1 (.int .i64 0) 1 8 Try.underlying32 hi1 hy0 hy1 hy2 rfl (by decide) _ _ _ rfl ((hrowO.alloc _).drew) ⟨w5.heap.size, 0, none⟩ 1 1 [.int .i64 (P.length : Int)] (by decide) rfl rfl (by intro j u hj; match j, hj with | 0, hj => (simp at hj; subst hj; simp [Addr.add])) (by intro u hu; simp at hu; subst hu; rfl) (by unfold maxLen; omega) (by omega) (by simp; omega) ?_; intro v3 wo hown3 hk3; obtain ⟨x1, x2, x3⟩ := HW5.out.growO (t := P.length) hk3 hown3; obtain ⟨gc, cc, hvo, _⟩ := hk3.place; subst hvo; have HX := show Hid _ from x3; clear x3 hown3 hk3))
  all_goals
    have HWc : Hid _ := HX.out
    clear HX HW5 hrowO eO eP2 hszO hbbO hklO x1 x2
    generalize hWO : (World.setCell _ ⟨kp, 3, none⟩ _) = wc at *
    clear hWO
    have HT : Hid _ := HWc.out
    clear HWc
    generalize hT : (⟨_, _, _, _, _⟩ : Pt) = tt at HT
    have HTT : Hid _ := hT
    clear hT
    have hrow := HT.out.rp.pr
    have e0 := HT.out.pt.c0
    have e1 := HT.out.pt.c1
    have e2 := HT.out.pt.c2
    have e3 := HT.out.pt.c3
    have e4 := HT.out.pt.c4
    have eP := HT.out.rp.rd.c2
    have hsz := HT.out.fr.size
    have hbb := HT.out.hb
    have hkl2 := HT.out.rp.rd.lt
    have hpl2 := HT.out.pt.lt
    try simp only [] at hrow eP
    go_upto_region 14 with fail
    go_region_law ((refine step_append_kind rfl _ _ 62 rfl base 89 i0 (.agg #[.int .i64 0, .int .i64 0, .int .i64 0, .int .i64 0, .int .i64 0]) 5 40 Try.underlying62 hi0 hz0 hz1 hz2 rfl (by decide) _ _ _ rfl ((hrow.alloc _).drew) ⟨wc.heap.size, 0, none⟩ 1 1 [.int .i64 (tt.kind : Int), .int .i64 (tt.place : Int), .int .i64 (tt.box : Int), .int .i64 (tt.src : Int), .int .i64 (tt.opn : Int)] (by decide) rfl rfl (by intro j u hj; match j, hj with | 0, hj => (simp at hj; subst hj; simp [Addr.add]) | 1, hj => (simp at hj; subst hj; simp [Addr.add]) | 2, hj => (simp at hj; subst hj; simp [Addr.add]) | 3, hj => (simp at hj; subst hj; simp [Addr.add]) | 4, hj => (simp at hj; subst hj; simp [Addr.add])) (by intro u hu; simp at hu; rcases hu with rfl | rfl | rfl | rfl | rfl <;> rfl) (by unfold maxLen; omega) (by omega) (by simp; omega) ?_; intro v2 wv hown2 hk2; obtain ⟨y1, y2, y3, y4⟩ := HT.out.rp.growP (t := tt) hk2 hown2; obtain ⟨gb, cb, hve, _⟩ := hk2.place; subst hve; have HG := show Hid (_ ∧ _) from ⟨y3, y4⟩; clear y3 y4 hown2 hk2))
    all_goals
      go_wp2
      go_end0
      exact ⟨rfl, ⟨_, _, by rw [← HTT.out] at HG; rw [HE.out]; exact HG.out.1⟩, HT.out.fr.trans HG.out.2⟩
theorem closing_fn (w : World) (kp base : Nat) (s : ByteArray) (r : Rs) (pv ov : Value) (h : RdP w kp base s r pv ov) (hz : Zb s r.z) (hb : base ≤ w.heap.size) (hl : r.P.length ≤ 90001) (hlo : r.O.length ≤ 90001) (ho : ∀ o, o ∈ r.O → o < r.P.length) :
    Calls Try.prog 56 #[.pointer (some ⟨kp, 0, none⟩)] w fun x w' => PartSays kp base s (rClose s r) w x w' := by
  by_cases hO : r.O = []
  · exact closing_nil w kp base s r pv ov h hO
  · obtain ⟨z0, P, O⟩ := r
    simp only [] at hO h hz hl hlo ho
    have hsp := last_split hO
    generalize O.getLast?.getD 0 = la at hsp
    generalize O.dropLast = O1 at hsp
    subst hsp
    have hla := ho la (by simp)
    have hlo2 : O1.length ≤ 90000 := by simp at hlo; omega
    by_cases k7 : (pOf P la).kind = 7
    · exact closing_middle w kp base s z0 P O1 la pv ov h hz hb hl hlo2 hla k7
    · by_cases k8 : (pOf P la).kind = 8
      · exact closing_join w kp base s z0 P O1 la pv ov h hz hb hl hlo2 hla k8
      · exact closing_again w kp base s z0 P O1 la pv ov h hz hb hl hlo2 hla k7 k8
end Go.Proofs.Ytdpkcniiljpdbaa
