/-
  MchQ: one behind the other.
-/
import Derived.Test.YtcmnejcojphijaaDoorP25MchI
import Derived.Test.YtcmnejcojphijaaDoorP24MchG
import Derived.Test.YtcmnejcojphijaaDoorP26MchO
namespace Go.Proofs.YtcmnejcojphijaaDoor
open Go.RowKit
set_option linter.unusedVariables false
section
variable (w : World) (mp r n base nx : Nat) (pv tv : Value) (st ov : Bool) (σ : St) (B V : Nat → Int)
set_option maxHeartbeats 1000000 in
theorem do_reckon (t : Pt) (clo : Nat) (hk : t.kind = 0) (Post : World → Prop) (HC : Hid (∀ W, Fr NoB w W → Calls Tryd.prog 55 #[.pointer (some ⟨mp, 0, none⟩), ptV t clo] W fun e w' => e = .returned (.tuple #[]) ∧ Post w')) :
    Calls Tryd.prog 50 #[.pointer (some ⟨mp, 0, none⟩), ptV t clo] w fun e w' => e = .returned (.tuple #[]) ∧ Post w' := by
  unfold ptV at HC ⊢
  obtain ⟨kind, place, num, box, src, o1, sign, o2, opn⟩ := t
  simp only [] at *
  generalize odB o1 = b1 at *
  generalize odI o1 = x1 at *
  generalize odB o2 = b2 at *
  generalize odI o2 = x2 at *
  have f0 : ((kind : Int) == 0) = true := beq_iff_eq.2 (by omega)
  clear hk
  go_enter Tryd.func50, Tryd.ntmps50
  go_upto_region 1 with fail
  obtain ⟨hFA, HPA⟩ := box_new w kind place num box src b1 x1 sign b2 x2 opn clo
  generalize w.alloc (Obj.cells #[.int .i64 (kind : Int), .int .i64 (place : Int), .int .i64 (num : Int), .int .i64 (box : Int), .int .i64 (src : Int), .bool b1, .int .i64 (x1 : Int), .int .u8 (sign : Int), .bool b2, .int .i64 (x2 : Int), .int .i64 (opn : Int), .int .i64 (clo : Int)] 60) = W1 at hFA HPA ⊢
  generalize w.heap.size = q at *
  have c0 := HPA.out.c0
  have c1 := HPA.out.c1
  have c2 := HPA.out.c2
  have c3 := HPA.out.c3
  have c4 := HPA.out.c4
  have c5 := HPA.out.c5
  have c6 := HPA.out.c6
  have c7 := HPA.out.c7
  have c8 := HPA.out.c8
  have c9 := HPA.out.c9
  have c10 := HPA.out.c10
  have c11 := HPA.out.c11
  go_wp2_with (go_at_call 55; refine (HC.out _ hFA).mono ?_; rintro e w2 ⟨rfl, hp⟩; have HH : Hid _ := hp; clear hp)
  go_end0
  exact ⟨rfl, HH.out⟩
set_option maxHeartbeats 1000000 in
theorem do_load (t : Pt) (clo : Nat) (hk : t.kind = 2) (Post : World → Prop) (HC : Hid (∀ W, Fr NoB w W → Calls Tryd.prog 58 #[.pointer (some ⟨mp, 0, none⟩), ptV t clo] W fun e w' => e = .returned (.tuple #[]) ∧ Post w')) :
    Calls Tryd.prog 50 #[.pointer (some ⟨mp, 0, none⟩), ptV t clo] w fun e w' => e = .returned (.tuple #[]) ∧ Post w' := by
  unfold ptV at HC ⊢
  obtain ⟨kind, place, num, box, src, o1, sign, o2, opn⟩ := t
  simp only [] at *
  generalize odB o1 = b1 at *
  generalize odI o1 = x1 at *
  generalize odB o2 = b2 at *
  generalize odI o2 = x2 at *
  have f0 : ((kind : Int) == 0) = false := beq_eq_false_iff_ne.2 (by omega)
  have f1 : ((kind : Int) == 1) = false := beq_eq_false_iff_ne.2 (by omega)
  have f2 : ((kind : Int) == 2) = true := beq_iff_eq.2 (by omega)
  clear hk
  go_enter Tryd.func50, Tryd.ntmps50
  go_upto_region 1 with fail
  obtain ⟨hFA, HPA⟩ := box_new w kind place num box src b1 x1 sign b2 x2 opn clo
  generalize w.alloc (Obj.cells #[.int .i64 (kind : Int), .int .i64 (place : Int), .int .i64 (num : Int), .int .i64 (box : Int), .int .i64 (src : Int), .bool b1, .int .i64 (x1 : Int), .int .u8 (sign : Int), .bool b2, .int .i64 (x2 : Int), .int .i64 (opn : Int), .int .i64 (clo : Int)] 60) = W1 at hFA HPA ⊢
  generalize w.heap.size = q at *
  have c0 := HPA.out.c0
  have c1 := HPA.out.c1
  have c2 := HPA.out.c2
  have c3 := HPA.out.c3
  have c4 := HPA.out.c4
  have c5 := HPA.out.c5
  have c6 := HPA.out.c6
  have c7 := HPA.out.c7
  have c8 := HPA.out.c8
  have c9 := HPA.out.c9
  have c10 := HPA.out.c10
  have c11 := HPA.out.c11
  go_wp2_with (go_at_call 58; refine (HC.out _ hFA).mono ?_; rintro e w2 ⟨rfl, hp⟩; have HH : Hid _ := hp; clear hp)
  go_end0
  exact ⟨rfl, HH.out⟩
set_option maxHeartbeats 1000000 in
theorem do_newBlock (t : Pt) (clo : Nat) (hk : t.kind = 4) (Post : World → Prop) (HC : Hid (∀ W, Fr NoB w W → Calls Tryd.prog 59 #[.pointer (some ⟨mp, 0, none⟩), ptV t clo] W fun e w' => e = .returned (.tuple #[]) ∧ Post w')) :
    Calls Tryd.prog 50 #[.pointer (some ⟨mp, 0, none⟩), ptV t clo] w fun e w' => e = .returned (.tuple #[]) ∧ Post w' := by
  unfold ptV at HC ⊢
  obtain ⟨kind, place, num, box, src, o1, sign, o2, opn⟩ := t
  simp only [] at *
  generalize odB o1 = b1 at *
  generalize odI o1 = x1 at *
  generalize odB o2 = b2 at *
  generalize odI o2 = x2 at *
  have f0 : ((kind : Int) == 0) = false := beq_eq_false_iff_ne.2 (by omega)
  have f1 : ((kind : Int) == 1) = false := beq_eq_false_iff_ne.2 (by omega)
  have f2 : ((kind : Int) == 2) = false := beq_eq_false_iff_ne.2 (by omega)
  have f3 : ((kind : Int) == 3) = false := beq_eq_false_iff_ne.2 (by omega)
  have f4 : ((kind : Int) == 4) = true := beq_iff_eq.2 (by omega)
  clear hk
  go_enter Tryd.func50, Tryd.ntmps50
  go_upto_region 1 with fail
  obtain ⟨hFA, HPA⟩ := box_new w kind place num box src b1 x1 sign b2 x2 opn clo
  generalize w.alloc (Obj.cells #[.int .i64 (kind : Int), .int .i64 (place : Int), .int .i64 (num : Int), .int .i64 (box : Int), .int .i64 (src : Int), .bool b1, .int .i64 (x1 : Int), .int .u8 (sign : Int), .bool b2, .int .i64 (x2 : Int), .int .i64 (opn : Int), .int .i64 (clo : Int)] 60) = W1 at hFA HPA ⊢
  generalize w.heap.size = q at *
  have c0 := HPA.out.c0
  have c1 := HPA.out.c1
  have c2 := HPA.out.c2
  have c3 := HPA.out.c3
  have c4 := HPA.out.c4
  have c5 := HPA.out.c5
  have c6 := HPA.out.c6
  have c7 := HPA.out.c7
  have c8 := HPA.out.c8
  have c9 := HPA.out.c9
  have c10 := HPA.out.c10
  have c11 := HPA.out.c11
  go_wp2_with (go_at_call 59; refine (HC.out _ hFA).mono ?_; rintro e w2 ⟨rfl, hp⟩; have HH : Hid _ := hp; clear hp)
  go_end0
  exact ⟨rfl, HH.out⟩
set_option maxHeartbeats 1000000 in
theorem do_move (t : Pt) (clo : Nat) (hk : t.kind = 5) (Post : World → Prop) (HC : Hid (∀ W, Fr NoB w W → Calls Tryd.prog 60 #[.pointer (some ⟨mp, 0, none⟩), ptV t clo] W fun e w' => e = .returned (.tuple #[]) ∧ Post w')) :
    Calls Tryd.prog 50 #[.pointer (some ⟨mp, 0, none⟩), ptV t clo] w fun e w' => e = .returned (.tuple #[]) ∧ Post w' := by
  unfold ptV at HC ⊢
  obtain ⟨kind, place, num, box, src, o1, sign, o2, opn⟩ := t
  simp only [] at *
  generalize odB o1 = b1 at *
  generalize odI o1 = x1 at *
  generalize odB o2 = b2 at *
  generalize odI o2 = x2 at *
  have f0 : ((kind : Int) == 0) = false := beq_eq_false_iff_ne.2 (by omega)
  have f1 : ((kind : Int) == 1) = false := beq_eq_false_iff_ne.2 (by omega)
  have f2 : ((kind : Int) == 2) = false := beq_eq_false_iff_ne.2 (by omega)
  have f3 : ((kind : Int) == 3) = false := beq_eq_false_iff_ne.2 (by omega)
  have f4 : ((kind : Int) == 4) = false := beq_eq_false_iff_ne.2 (by omega)
  have f5 : ((kind : Int) == 5) = true := beq_iff_eq.2 (by omega)
  clear hk
  go_enter Tryd.func50, Tryd.ntmps50
  go_upto_region 1 with fail
  obtain ⟨hFA, HPA⟩ := box_new w kind place num box src b1 x1 sign b2 x2 opn clo
  generalize w.alloc (Obj.cells #[.int .i64 (kind : Int), .int .i64 (place : Int), .int .i64 (num : Int), .int .i64 (box : Int), .int .i64 (src : Int), .bool b1, .int .i64 (x1 : Int), .int .u8 (sign : Int), .bool b2, .int .i64 (x2 : Int), .int .i64 (opn : Int), .int .i64 (clo : Int)] 60) = W1 at hFA HPA ⊢
  generalize w.heap.size = q at *
  have c0 := HPA.out.c0
  have c1 := HPA.out.c1
  have c2 := HPA.out.c2
  have c3 := HPA.out.c3
  have c4 := HPA.out.c4
  have c5 := HPA.out.c5
  have c6 := HPA.out.c6
  have c7 := HPA.out.c7
  have c8 := HPA.out.c8
  have c9 := HPA.out.c9
  have c10 := HPA.out.c10
  have c11 := HPA.out.c11
  go_wp2_with (go_at_call 60; refine (HC.out _ hFA).mono ?_; rintro e w2 ⟨rfl, hp⟩; have HH : Hid _ := hp; clear hp)
  go_end0
  exact ⟨rfl, HH.out⟩
set_option maxHeartbeats 1000000 in
theorem do_store (t : Pt) (clo : Nat) (hk : t.kind = 6) (Post : World → Prop) (HC : Hid (∀ W, Fr NoB w W → Calls Tryd.prog 61 #[.pointer (some ⟨mp, 0, none⟩), ptV t clo] W fun e w' => e = .returned (.tuple #[]) ∧ Post w')) :
    Calls Tryd.prog 50 #[.pointer (some ⟨mp, 0, none⟩), ptV t clo] w fun e w' => e = .returned (.tuple #[]) ∧ Post w' := by
  unfold ptV at HC ⊢
  obtain ⟨kind, place, num, box, src, o1, sign, o2, opn⟩ := t
  simp only [] at *
  generalize odB o1 = b1 at *
  generalize odI o1 = x1 at *
  generalize odB o2 = b2 at *
  generalize odI o2 = x2 at *
  have f0 : ((kind : Int) == 0) = false := beq_eq_false_iff_ne.2 (by omega)
  have f1 : ((kind : Int) == 1) = false := beq_eq_false_iff_ne.2 (by omega)
  have f2 : ((kind : Int) == 2) = false := beq_eq_false_iff_ne.2 (by omega)
  have f3 : ((kind : Int) == 3) = false := beq_eq_false_iff_ne.2 (by omega)
  have f4 : ((kind : Int) == 4) = false := beq_eq_false_iff_ne.2 (by omega)
  have f5 : ((kind : Int) == 5) = false := beq_eq_false_iff_ne.2 (by omega)
  have f6 : ((kind : Int) == 6) = true := beq_iff_eq.2 (by omega)
  clear hk
  go_enter Tryd.func50, Tryd.ntmps50
  go_upto_region 1 with fail
  obtain ⟨hFA, HPA⟩ := box_new w kind place num box src b1 x1 sign b2 x2 opn clo
  generalize w.alloc (Obj.cells #[.int .i64 (kind : Int), .int .i64 (place : Int), .int .i64 (num : Int), .int .i64 (box : Int), .int .i64 (src : Int), .bool b1, .int .i64 (x1 : Int), .int .u8 (sign : Int), .bool b2, .int .i64 (x2 : Int), .int .i64 (opn : Int), .int .i64 (clo : Int)] 60) = W1 at hFA HPA ⊢
  generalize w.heap.size = q at *
  have c0 := HPA.out.c0
  have c1 := HPA.out.c1
  have c2 := HPA.out.c2
  have c3 := HPA.out.c3
  have c4 := HPA.out.c4
  have c5 := HPA.out.c5
  have c6 := HPA.out.c6
  have c7 := HPA.out.c7
  have c8 := HPA.out.c8
  have c9 := HPA.out.c9
  have c10 := HPA.out.c10
  have c11 := HPA.out.c11
  go_wp2_with (go_at_call 61; refine (HC.out _ hFA).mono ?_; rintro e w2 ⟨rfl, hp⟩; have HH : Hid _ := hp; clear hp)
  go_end0
  exact ⟨rfl, HH.out⟩
set_option maxHeartbeats 1000000 in
theorem do_turn (t : Pt) (clo : Nat) (hk : 8 ≤ t.kind) (Post : World → Prop) (HC : Hid (∀ W, Fr NoB w W → Calls Tryd.prog 63 #[.pointer (some ⟨mp, 0, none⟩), ptV t clo] W fun e w' => e = .returned (.tuple #[]) ∧ Post w')) :
    Calls Tryd.prog 50 #[.pointer (some ⟨mp, 0, none⟩), ptV t clo] w fun e w' => e = .returned (.tuple #[]) ∧ Post w' := by
  unfold ptV at HC ⊢
  obtain ⟨kind, place, num, box, src, o1, sign, o2, opn⟩ := t
  simp only [] at *
  generalize odB o1 = b1 at *
  generalize odI o1 = x1 at *
  generalize odB o2 = b2 at *
  generalize odI o2 = x2 at *
  have f0 : ((kind : Int) == 0) = false := beq_eq_false_iff_ne.2 (by omega)
  have f1 : ((kind : Int) == 1) = false := beq_eq_false_iff_ne.2 (by omega)
  have f2 : ((kind : Int) == 2) = false := beq_eq_false_iff_ne.2 (by omega)
  have f3 : ((kind : Int) == 3) = false := beq_eq_false_iff_ne.2 (by omega)
  have f4 : ((kind : Int) == 4) = false := beq_eq_false_iff_ne.2 (by omega)
  have f5 : ((kind : Int) == 5) = false := beq_eq_false_iff_ne.2 (by omega)
  have f6 : ((kind : Int) == 6) = false := beq_eq_false_iff_ne.2 (by omega)
  have f7 : ((kind : Int) == 7) = false := beq_eq_false_iff_ne.2 (by omega)
  clear hk
  go_enter Tryd.func50, Tryd.ntmps50
  go_upto_region 1 with fail
  obtain ⟨hFA, HPA⟩ := box_new w kind place num box src b1 x1 sign b2 x2 opn clo
  generalize w.alloc (Obj.cells #[.int .i64 (kind : Int), .int .i64 (place : Int), .int .i64 (num : Int), .int .i64 (box : Int), .int .i64 (src : Int), .bool b1, .int .i64 (x1 : Int), .int .u8 (sign : Int), .bool b2, .int .i64 (x2 : Int), .int .i64 (opn : Int), .int .i64 (clo : Int)] 60) = W1 at hFA HPA ⊢
  generalize w.heap.size = q at *
  have c0 := HPA.out.c0
  have c1 := HPA.out.c1
  have c2 := HPA.out.c2
  have c3 := HPA.out.c3
  have c4 := HPA.out.c4
  have c5 := HPA.out.c5
  have c6 := HPA.out.c6
  have c7 := HPA.out.c7
  have c8 := HPA.out.c8
  have c9 := HPA.out.c9
  have c10 := HPA.out.c10
  have c11 := HPA.out.c11
  go_wp2_with (go_at_call 63; refine (HC.out _ hFA).mono ?_; rintro e w2 ⟨rfl, hp⟩; have HH : Hid _ := hp; clear hp)
  go_end0
  exact ⟨rfl, HH.out⟩
set_option maxHeartbeats 1000000 in
theorem do_print (h : MM w mp r n base pv st σ nx false B V tv) (t : Pt) (clo : Nat) (ht : PtOk t) (hk : t.kind = 1) (hsl : σ.tr.length + 5 * σ.left + 5 ≤ 25000) (htab : ∀ W, Fr NoB w W → TabOk W) :
    Calls Tryd.prog 50 #[.pointer (some ⟨mp, 0, none⟩), ptV t clo] w fun e w' => MS mp r n base pv st nx ({ σ with tr := σ.tr ++ digF 3 (valO σ.num t.o1) ++ [59] }, true) w e w' := by
  have hv := val_lt σ h.ok ht.o1
  have HV : Hid (∀ W, Fr NoB w W → _) := fun W hW => mvalue_fn W mp r n base nx pv tv st false σ B V (h.no hW) t.o1 ht.o1
  have HP : Hid (∀ W, Fr NoB w W → Calls Tryd.prog 56 #[.pointer (some ⟨mp, 0, none⟩), .int .i64 (valO σ.num t.o1 : Int)] W fun e w' => MS mp r n base pv st nx ({ σ with tr := σ.tr ++ digF 3 (valO σ.num t.o1) ++ [59] }, true) w e w') := fun W hW => (dprint_fn W mp r n base nx pv tv st false σ B V (h.no hW) _ hv hsl (fun W2 hW2 => htab W2 (hW.trans hW2))).mono fun e w' hh => ⟨hh.1, ⟨_, _, hh.2.1⟩, (frM_no hW).trans hh.2.2⟩
  unfold ptV
  obtain ⟨kind, place, num, box, src, o1, sign, o2, opn⟩ := t
  simp only [] at *
  generalize valO σ.num o1 = v at *
  generalize odB o1 = b1 at *
  generalize odI o1 = x1 at *
  generalize odB o2 = b2 at *
  generalize odI o2 = x2 at *
  have f0 : ((kind : Int) == 0) = false := beq_eq_false_iff_ne.2 (by omega)
  have f1 : ((kind : Int) == 1) = true := beq_iff_eq.2 (by omega)
  clear hk h ht htab
  go_enter Tryd.func50, Tryd.ntmps50
  go_upto_region 1 with fail
  obtain ⟨hFA, HPA⟩ := box_new w kind place num box src b1 x1 sign b2 x2 opn clo
  generalize w.alloc (Obj.cells #[.int .i64 (kind : Int), .int .i64 (place : Int), .int .i64 (num : Int), .int .i64 (box : Int), .int .i64 (src : Int), .bool b1, .int .i64 (x1 : Int), .int .u8 (sign : Int), .bool b2, .int .i64 (x2 : Int), .int .i64 (opn : Int), .int .i64 (clo : Int)] 60) = W1 at hFA HPA ⊢
  generalize w.heap.size = q at *
  have c0 := HPA.out.c0
  have c5 := HPA.out.c5
  have c6 := HPA.out.c6
  go_wp2_with (first | (go_at_call 57; refine (HV.out _ hFA).mono ?_; rintro e w2 ⟨rfl, hF2⟩) | (go_at_call 56; refine (HP.out _ (hFA.trans hF2)).mono ?_; rintro e w3 ⟨rfl, hp⟩; have HH : Hid _ := hp; clear hp))
  go_end0
  exact ⟨rfl, HH.out⟩
set_option maxHeartbeats 1000000 in
theorem do_size (h : MM w mp r n base pv st σ nx false B V tv) (t : Pt) (clo : Nat) (ht : PtOk t) (hk : t.kind = 3) :
    Calls Tryd.prog 50 #[.pointer (some ⟨mp, 0, none⟩), ptV t clo] w fun e w' => MS mp r n base pv st nx ({ σ with num := upN σ.num t.num (σ.bx t.box).length }, true) w e w' := by
  have HM : Hid _ := h
  have hn : t.num < 26 := ht.n
  have hbt : t.box < 26 := ht.b
  have hz : (σ.bx t.box).length < 1000 := by have := h.ok.sz t.box; omega
  unfold ptV
  obtain ⟨kind, place, num, box, src, o1, sign, o2, opn⟩ := t
  simp only [] at *
  generalize odB o1 = b1 at *
  generalize odI o1 = x1 at *
  generalize odB o2 = b2 at *
  generalize odI o2 = x2 at *
  have f0 : ((kind : Int) == 0) = false := beq_eq_false_iff_ne.2 (by omega)
  have f1 : ((kind : Int) == 1) = false := beq_eq_false_iff_ne.2 (by omega)
  have f2 : ((kind : Int) == 2) = false := beq_eq_false_iff_ne.2 (by omega)
  have f3 : ((kind : Int) == 3) = true := beq_iff_eq.2 (by omega)
  clear hk h ht
  go_enter Tryd.func50, Tryd.ntmps50
  go_upto_region 1 with fail
  obtain ⟨hFA, HPA⟩ := box_new w kind place num box src b1 x1 sign b2 x2 opn clo
  generalize w.alloc (Obj.cells #[.int .i64 (kind : Int), .int .i64 (place : Int), .int .i64 (num : Int), .int .i64 (box : Int), .int .i64 (src : Int), .bool b1, .int .i64 (x1 : Int), .int .u8 (sign : Int), .bool b2, .int .i64 (x2 : Int), .int .i64 (opn : Int), .int .i64 (clo : Int)] 60) = W1 at hFA HPA ⊢
  generalize w.heap.size = q at *
  have c0 := HPA.out.c0
  have c2 := HPA.out.c2
  have c3 := HPA.out.c3
  go_upto_region 10 with fail
  have HM3 : Hid _ := HM.out.no hFA
  have cn := HM3.out.m.cn num hn
  have cl := HM3.out.m.cl box hbt
  have fz := HM3.out.m.fz (4 + num)
  unfold mxOf at cl
  simp only [] at cl
  go_region
  all_goals
    go_wp2
    go_end0
    exact ⟨rfl, ⟨_, _, _, (HM3.out.setNum hn hz).no ((Fr.refl _ _).drew)⟩, ((frM_no hFA).trans (frM_one ((Fr.refl (OneB mp) W1).setCell (p := ⟨mp, 4 + num, none⟩) (fun _ => rfl) _) HM.out.mb)).drew⟩
set_option maxHeartbeats 1000000 in
theorem do_end (h : MM w mp r n base pv st σ nx false B V tv) (t : Pt) (clo : Nat) (ht : PtOk t) (hk : t.kind = 7) :
    Calls Tryd.prog 50 #[.pointer (some ⟨mp, 0, none⟩), ptV t clo] w fun e w' => MS mp r n base pv st nx ({ σ with bx := upB σ.bx t.box [] }, true) w e w' := by
  have HL : Hid (∀ W, Fr NoB w W → _) := fun W hW => lose_any W mp r n base nx pv tv st false σ B V (h.no hW) t.box ht.b
  have HM : Hid _ := h
  unfold ptV
  obtain ⟨kind, place, num, box, src, o1, sign, o2, opn⟩ := t
  simp only [] at *
  generalize odB o1 = b1 at *
  generalize odI o1 = x1 at *
  generalize odB o2 = b2 at *
  generalize odI o2 = x2 at *
  have f0 : ((kind : Int) == 0) = false := beq_eq_false_iff_ne.2 (by omega)
  have f1 : ((kind : Int) == 1) = false := beq_eq_false_iff_ne.2 (by omega)
  have f2 : ((kind : Int) == 2) = false := beq_eq_false_iff_ne.2 (by omega)
  have f3 : ((kind : Int) == 3) = false := beq_eq_false_iff_ne.2 (by omega)
  have f4 : ((kind : Int) == 4) = false := beq_eq_false_iff_ne.2 (by omega)
  have f5 : ((kind : Int) == 5) = false := beq_eq_false_iff_ne.2 (by omega)
  have f6 : ((kind : Int) == 6) = false := beq_eq_false_iff_ne.2 (by omega)
  have f7 : ((kind : Int) == 7) = true := beq_iff_eq.2 (by omega)
  clear hk h ht
  go_enter Tryd.func50, Tryd.ntmps50
  go_upto_region 1 with fail
  obtain ⟨hFA, HPA⟩ := box_new w kind place num box src b1 x1 sign b2 x2 opn clo
  generalize w.alloc (Obj.cells #[.int .i64 (kind : Int), .int .i64 (place : Int), .int .i64 (num : Int), .int .i64 (box : Int), .int .i64 (src : Int), .bool b1, .int .i64 (x1 : Int), .int .u8 (sign : Int), .bool b2, .int .i64 (x2 : Int), .int .i64 (opn : Int), .int .i64 (clo : Int)] 60) = W1 at hFA HPA ⊢
  generalize w.heap.size = q at *
  have c0 := HPA.out.c0
  have c3 := HPA.out.c3
  go_upto_region 18 with fail
  go_region_with (go_at_call 62; refine (HL.out _ (hFA.drew)).mono ?_; rintro e w3 ⟨rfl, hh⟩; have HH : Hid _ := hh; clear hh)
  all_goals
    go_wp2
    go_end0
    obtain ⟨⟨B', V', hM'⟩, hF'⟩ := HH.out
    exact ⟨rfl, ⟨B', V', tv, hM'⟩, (frM_no (hFA.drew)).trans (frM_two hF' HM.out.mb HM.out.rb)⟩
end
end Go.Proofs.YtcmnejcojphijaaDoor
