import Derived.Test.YthcjcjfgdgnljabGreatDoorGMchQ
set_option linter.unusedVariables false
set_option maxHeartbeats 4000000
set_option maxRecDepth 8000
open Go.Proofs.Tryz
namespace Go.Proofs.YthcjcjfgdgnljabGreatDoor
open Go.RowKit
section
theorem MM.dued {w:World} {mp r n base nx:Nat} {pv tv:Value} {st ov:Bool} {σ:St} {B V:Nat → Int} (h:MM w mp r n base pv st σ nx ov B V tv):MM (w.setCell ⟨mp,3,none⟩ (.int .i64 ((σ.left - 1:Nat):Int))) mp r n base pv st (due σ) nx ov B V tv :=
 h.own (τ:=due σ) ((Fr.refl (OneB mp) w).setCell (p:=⟨mp,3,none⟩) (fun _=>rfl) _) (h.m.setLeft (σ.left - 1)) (cell_other (.inr (by omega))) rfl rfl (h.ok.like rfl rfl) rfl (by have:=h.tk;unfold TrOk at *;show σ.tr.length + 5 * (σ.left - 1) ≤ 25000;omega) h.nxb
section
variable (w:World) (mp r n base nx:Nat) (pv tv:Value) (st ov:Bool) (σ:St) (B V:Nat → Int)
theorem part_tired (h:MM w mp r n base pv st σ nx false B V tv) (t:Pt) (clo:Nat) (hb:stB t = true) (h0:σ.left = 0) :
  Calls prog 107 #[.pointer (some ⟨mp,0,none⟩),ptV t clo] w fun e w'=>MS mp r n base pv st nx (tire σ,false) w e w':=by
 have HI:Hid (∀ W,CR 127 #[ptV t clo] W (.bool true)):=fun W=>by
  have:=isStep_fn W t clo
  rwa [hb] at this
 have HS:Hid (∀ W,Fr NoB w W → Calls prog 128 #[.pointer (some ⟨mp,0,none⟩),.int .i64 2] W fun e w'=>MS mp r n base pv st nx (tire σ,false) w e w'):=fun W hW=>(stop_fn W mp r n base nx pv tv st false σ B V (h.no hW) 2).mono fun e w' hh=>⟨hh.1,⟨_,_,_,hh.2.1⟩,(frM_no hW).trans hh.2.2⟩
 have cf:=h.m.cf
 unfold mxOf at cf
 simp only [] at cf
 rw [h0] at cf
 clear h hb h0
 unfold ptV at *
 obtain ⟨kind,place,num,box,src,o1,sign,o2,opn⟩:=t
 simp only [] at *
 generalize odB o1 = b1 at *
 generalize odI o1 = x1 at *
 generalize odB o2 = b2 at *
 generalize odI o2 = x2 at *
 go_enter func107,ntmps107
 go_upto_region 1 with fail
 obtain ⟨hFA,HPA⟩:=box_new w kind place num box src b1 x1 sign b2 x2 opn clo
 generalize w.alloc _ = W1 at hFA HPA ⊢
 generalize w.heap.size = q at *
 have c0:=HPA.out.c0
 have c1:=HPA.out.c1
 have c2:=HPA.out.c2
 have c3:=HPA.out.c3
 have c4:=HPA.out.c4
 have c5:=HPA.out.c5
 have c6:=HPA.out.c6
 have c7:=HPA.out.c7
 have c8:=HPA.out.c8
 have c9:=HPA.out.c9
 have c10:=HPA.out.c10
 have c11:=HPA.out.c11
 go_wp2_with (first | (go_at_call 127;refine (HI.out _).mono ?_;rintro e w2 ⟨rfl,hF2⟩;have cf2:=(hFA.trans hF2).cell_some cf id) | (go_at_call 128;refine (HS.out _ (hFA.trans hF2)).mono ?_;rintro e w4 ⟨rfl,hh⟩;have HH:Hid _:=hh;clear hh))
 go_end0
 exact ⟨rfl,HH.out⟩
theorem part_loose_s (h:MM w mp r n base pv false σ nx false B V tv) (t:Pt) (clo:Nat) (hb:stB t = true) (h0:σ.left ≠ 0) (Post:World → Prop) (HD:Hid (∀ W,Fr (FrM base) w W → MM W mp r n base pv false (due σ) nx false B V tv → Calls prog 130 #[.pointer (some ⟨mp,0,none⟩),ptV t clo] W fun e w'=>e = .returned (.tuple #[]) ∧ Post w')) :
  Calls prog 107 #[.pointer (some ⟨mp,0,none⟩),ptV t clo] w fun e w'=>e = .returned (.tuple #[]) ∧ Post w':=by
 have HI:Hid (∀ W,CR 127 #[ptV t clo] W (.bool true)):=fun W=>by
  have:=isStep_fn W t clo
  rwa [hb] at this
 have HM:Hid _:=h
 have cf:=h.m.cf
 have cs:=h.m.cs
 unfold mxOf at cf
 simp only [] at cf
 have hqm:w.heap.size ≠ mp:=by have:=h.m.lt;omega
 have hlb:σ.left ≤ 5000:=by have:=h.tk;unfold TrOk at this;omega
 have hl0:((σ.left:Int) == 0) = false:=bF (by omega)
 have hl1:((σ.left - 1:Nat):Int) = (σ.left:Int) - 1:=by omega
 have HL1:Hid _:=hl1
 clear hl1
 clear h hb
 unfold ptV at *
 obtain ⟨kind,place,num,box,src,o1,sign,o2,opn⟩:=t
 simp only [] at *
 generalize odB o1 = b1 at *
 generalize odI o1 = x1 at *
 generalize odB o2 = b2 at *
 generalize odI o2 = x2 at *
 go_enter func107,ntmps107
 go_upto_region 1 with fail
 obtain ⟨hFA,HPA⟩:=box_new w kind place num box src b1 x1 sign b2 x2 opn clo
 generalize w.alloc _ = W1 at hFA HPA ⊢
 generalize w.heap.size = q at *
 have c0:=HPA.out.c0
 have c1:=HPA.out.c1
 have c2:=HPA.out.c2
 have c3:=HPA.out.c3
 have c4:=HPA.out.c4
 have c5:=HPA.out.c5
 have c6:=HPA.out.c6
 have c7:=HPA.out.c7
 have c8:=HPA.out.c8
 have c9:=HPA.out.c9
 have c10:=HPA.out.c10
 have c11:=HPA.out.c11
 go_upto_region 4 with (go_at_call 127;refine (HI.out _).mono ?_;rintro e w2 ⟨rfl,hF2⟩;have cf2:=(hFA.trans hF2).cell_some cf id)
 have hFX:Fr NoB w w2:=hFA.trans hF2
 have HM2:Hid _:=HM.out.no hFX
 have fz2:=HM2.out.m.fz 3
 have d0:=hF2.cell_some c0 id;have d1:=hF2.cell_some c1 id;have d2:=hF2.cell_some c2 id;have d3:=hF2.cell_some c3 id;have d4:=hF2.cell_some c4 id;have d5:=hF2.cell_some c5 id;have d6:=hF2.cell_some c6 id;have d7:=hF2.cell_some c7 id;have d8:=hF2.cell_some c8 id;have d9:=hF2.cell_some c9 id;have d10:=hF2.cell_some c10 id;have d11:=hF2.cell_some c11 id
 go_upto_region 5 with fail
 have hF3:Fr (OneB mp) w2 (w2.setCell ⟨mp,3,none⟩ (.int .i64 ((σ.left:Int) - 1))):=(Fr.refl (OneB mp) w2).setCell (p:=⟨mp,3,none⟩) (fun _=>rfl) _
 have HM3:Hid (MM (w2.setCell ⟨mp,3,none⟩ (.int .i64 ((σ.left:Int) - 1))) mp r n base pv false (due σ) nx false B V tv):=by
  have:=HM2.out.dued
  rwa [HL1.out] at this
 have hFY:Fr (FrM base) w (w2.setCell ⟨mp,3,none⟩ (.int .i64 ((σ.left:Int) - 1))):=(frM_no hFX).trans (frM_one hF3 HM.out.mb)
 have e0:=hF3.cell_some d0 (fun q=>hqm (by unfold OneB at q;exact q));have e1:=hF3.cell_some d1 (fun q=>hqm (by unfold OneB at q;exact q));have e2:=hF3.cell_some d2 (fun q=>hqm (by unfold OneB at q;exact q));have e3:=hF3.cell_some d3 (fun q=>hqm (by unfold OneB at q;exact q));have e4:=hF3.cell_some d4 (fun q=>hqm (by unfold OneB at q;exact q));have e5:=hF3.cell_some d5 (fun q=>hqm (by unfold OneB at q;exact q));have e6:=hF3.cell_some d6 (fun q=>hqm (by unfold OneB at q;exact q));have e7:=hF3.cell_some d7 (fun q=>hqm (by unfold OneB at q;exact q));have e8:=hF3.cell_some d8 (fun q=>hqm (by unfold OneB at q;exact q));have e9:=hF3.cell_some d9 (fun q=>hqm (by unfold OneB at q;exact q));have e10:=hF3.cell_some d10 (fun q=>hqm (by unfold OneB at q;exact q));have e11:=hF3.cell_some d11 (fun q=>hqm (by unfold OneB at q;exact q))
 have cs3:=HM3.out.m.cs
 generalize w2.setCell ⟨mp,3,none⟩ (.int .i64 ((σ.left:Int) - 1)) = W3 at *
 go_wp2_with (go_at_call 130;refine (HD.out _ hFY HM3.out).mono ?_;rintro e w5 ⟨rfl,hp⟩;have HH:Hid _:=hp;clear hp)
 go_end0
 exact ⟨rfl,HH.out⟩
theorem part_strict_s (h:MM w mp r n base pv true σ nx false B V tv) (t:Pt) (clo:Nat) (hb:stB t = true) (h0:σ.left ≠ 0) (ht:PtOk t) (hbr:brkB t (due σ) = false) (Post:World → Prop) (HD:Hid (∀ W,Fr (FrM base) w W → MM W mp r n base pv true (due σ) nx false B V tv → Calls prog 130 #[.pointer (some ⟨mp,0,none⟩),ptV t clo] W fun e w'=>e = .returned (.tuple #[]) ∧ Post w')) :
  Calls prog 107 #[.pointer (some ⟨mp,0,none⟩),ptV t clo] w fun e w'=>e = .returned (.tuple #[]) ∧ Post w':=by
 have HI:Hid (∀ W,CR 127 #[ptV t clo] W (.bool true)):=fun W=>by
  have:=isStep_fn W t clo
  rwa [hb] at this
 have HB:Hid (∀ W,MM W mp r n base pv true (due σ) nx false B V tv → CR 129 #[.pointer (some ⟨mp,0,none⟩),ptV t clo] W (.bool false)):=fun W hW=>by
  have:=breaks_fn W mp r n base nx pv tv true false (due σ) B V hW t clo ht
  rwa [hbr] at this
 have HM:Hid _:=h
 have cf:=h.m.cf
 have cs:=h.m.cs
 unfold mxOf at cf
 simp only [] at cf
 have hqm:w.heap.size ≠ mp:=by have:=h.m.lt;omega
 have hlb:σ.left ≤ 5000:=by have:=h.tk;unfold TrOk at this;omega
 have hl0:((σ.left:Int) == 0) = false:=bF (by omega)
 have hl1:((σ.left - 1:Nat):Int) = (σ.left:Int) - 1:=by omega
 have HL1:Hid _:=hl1
 clear hl1
 clear h hb ht hbr
 unfold ptV at *
 obtain ⟨kind,place,num,box,src,o1,sign,o2,opn⟩:=t
 simp only [] at *
 generalize odB o1 = b1 at *
 generalize odI o1 = x1 at *
 generalize odB o2 = b2 at *
 generalize odI o2 = x2 at *
 go_enter func107,ntmps107
 go_upto_region 1 with fail
 obtain ⟨hFA,HPA⟩:=box_new w kind place num box src b1 x1 sign b2 x2 opn clo
 generalize w.alloc _ = W1 at hFA HPA ⊢
 generalize w.heap.size = q at *
 have c0:=HPA.out.c0
 have c1:=HPA.out.c1
 have c2:=HPA.out.c2
 have c3:=HPA.out.c3
 have c4:=HPA.out.c4
 have c5:=HPA.out.c5
 have c6:=HPA.out.c6
 have c7:=HPA.out.c7
 have c8:=HPA.out.c8
 have c9:=HPA.out.c9
 have c10:=HPA.out.c10
 have c11:=HPA.out.c11
 go_upto_region 4 with (go_at_call 127;refine (HI.out _).mono ?_;rintro e w2 ⟨rfl,hF2⟩;have cf2:=(hFA.trans hF2).cell_some cf id)
 have hFX:Fr NoB w w2:=hFA.trans hF2
 have HM2:Hid _:=HM.out.no hFX
 have fz2:=HM2.out.m.fz 3
 have d0:=hF2.cell_some c0 id;have d1:=hF2.cell_some c1 id;have d2:=hF2.cell_some c2 id;have d3:=hF2.cell_some c3 id;have d4:=hF2.cell_some c4 id;have d5:=hF2.cell_some c5 id;have d6:=hF2.cell_some c6 id;have d7:=hF2.cell_some c7 id;have d8:=hF2.cell_some c8 id;have d9:=hF2.cell_some c9 id;have d10:=hF2.cell_some c10 id;have d11:=hF2.cell_some c11 id
 go_upto_region 5 with fail
 have hF3:Fr (OneB mp) w2 (w2.setCell ⟨mp,3,none⟩ (.int .i64 ((σ.left:Int) - 1))):=(Fr.refl (OneB mp) w2).setCell (p:=⟨mp,3,none⟩) (fun _=>rfl) _
 have HM3:Hid (MM (w2.setCell ⟨mp,3,none⟩ (.int .i64 ((σ.left:Int) - 1))) mp r n base pv true (due σ) nx false B V tv):=by
  have:=HM2.out.dued
  rwa [HL1.out] at this
 have hFY:Fr (FrM base) w (w2.setCell ⟨mp,3,none⟩ (.int .i64 ((σ.left:Int) - 1))):=(frM_no hFX).trans (frM_one hF3 HM.out.mb)
 have e0:=hF3.cell_some d0 (fun q=>hqm (by unfold OneB at q;exact q));have e1:=hF3.cell_some d1 (fun q=>hqm (by unfold OneB at q;exact q));have e2:=hF3.cell_some d2 (fun q=>hqm (by unfold OneB at q;exact q));have e3:=hF3.cell_some d3 (fun q=>hqm (by unfold OneB at q;exact q));have e4:=hF3.cell_some d4 (fun q=>hqm (by unfold OneB at q;exact q));have e5:=hF3.cell_some d5 (fun q=>hqm (by unfold OneB at q;exact q));have e6:=hF3.cell_some d6 (fun q=>hqm (by unfold OneB at q;exact q));have e7:=hF3.cell_some d7 (fun q=>hqm (by unfold OneB at q;exact q));have e8:=hF3.cell_some d8 (fun q=>hqm (by unfold OneB at q;exact q));have e9:=hF3.cell_some d9 (fun q=>hqm (by unfold OneB at q;exact q));have e10:=hF3.cell_some d10 (fun q=>hqm (by unfold OneB at q;exact q));have e11:=hF3.cell_some d11 (fun q=>hqm (by unfold OneB at q;exact q))
 have cs3:=HM3.out.m.cs
 generalize w2.setCell ⟨mp,3,none⟩ (.int .i64 ((σ.left:Int) - 1)) = W3 at *
 go_wp2_with (first | (go_at_call 129;refine (HB.out _ HM3.out).mono ?_;rintro e w4 ⟨rfl,hF4⟩;have g0:=hF4.cell_some e0 id;have g1:=hF4.cell_some e1 id;have g2:=hF4.cell_some e2 id;have g3:=hF4.cell_some e3 id;have g4:=hF4.cell_some e4 id;have g5:=hF4.cell_some e5 id;have g6:=hF4.cell_some e6 id;have g7:=hF4.cell_some e7 id;have g8:=hF4.cell_some e8 id;have g9:=hF4.cell_some e9 id;have g10:=hF4.cell_some e10 id;have g11:=hF4.cell_some e11 id) | (go_at_call 130;refine (HD.out _ (hFY.trans (frM_no hF4)) (HM3.out.no hF4)).mono ?_;rintro e w5 ⟨rfl,hp⟩;have HH:Hid _:=hp;clear hp))
 go_end0
 exact ⟨rfl,HH.out⟩
theorem part_brk_s (h:MM w mp r n base pv true σ nx false B V tv) (t:Pt) (clo:Nat) (hb:stB t = true) (h0:σ.left ≠ 0) (ht:PtOk t) (hbr:brkB t (due σ) = true) :
  Calls prog 107 #[.pointer (some ⟨mp,0,none⟩),ptV t clo] w fun e w'=>MS mp r n base pv true nx (ends (due σ) 4) w e w':=by
 have HI:Hid (∀ W,CR 127 #[ptV t clo] W (.bool true)):=fun W=>by
  have:=isStep_fn W t clo
  rwa [hb] at this
 have HB:Hid (∀ W,MM W mp r n base pv true (due σ) nx false B V tv → CR 129 #[.pointer (some ⟨mp,0,none⟩),ptV t clo] W (.bool true)):=fun W hW=>by
  have:=breaks_fn W mp r n base nx pv tv true false (due σ) B V hW t clo ht
  rwa [hbr] at this
 have HS:Hid (∀ W,Fr (FrM base) w W → MM W mp r n base pv true (due σ) nx false B V tv → Calls prog 128 #[.pointer (some ⟨mp,0,none⟩),.int .i64 4] W fun e w'=>MS mp r n base pv true nx (ends (due σ) 4) w e w'):=fun W hW hM=>(stop_fn W mp r n base nx pv tv true false (due σ) B V hM 4).mono fun e w' hh=>⟨hh.1,⟨_,_,_,hh.2.1⟩,hW.trans hh.2.2⟩
 have HM:Hid _:=h
 have cf:=h.m.cf
 have cs:=h.m.cs
 unfold mxOf at cf
 simp only [] at cf
 have hqm:w.heap.size ≠ mp:=by have:=h.m.lt;omega
 have hlb:σ.left ≤ 5000:=by have:=h.tk;unfold TrOk at this;omega
 have hl0:((σ.left:Int) == 0) = false:=bF (by omega)
 have hl1:((σ.left - 1:Nat):Int) = (σ.left:Int) - 1:=by omega
 have HL1:Hid _:=hl1
 clear hl1
 clear h hb ht hbr
 unfold ptV at *
 obtain ⟨kind,place,num,box,src,o1,sign,o2,opn⟩:=t
 simp only [] at *
 generalize odB o1 = b1 at *
 generalize odI o1 = x1 at *
 generalize odB o2 = b2 at *
 generalize odI o2 = x2 at *
 go_enter func107,ntmps107
 go_upto_region 1 with fail
 obtain ⟨hFA,HPA⟩:=box_new w kind place num box src b1 x1 sign b2 x2 opn clo
 generalize w.alloc _ = W1 at hFA HPA ⊢
 generalize w.heap.size = q at *
 have c0:=HPA.out.c0
 have c1:=HPA.out.c1
 have c2:=HPA.out.c2
 have c3:=HPA.out.c3
 have c4:=HPA.out.c4
 have c5:=HPA.out.c5
 have c6:=HPA.out.c6
 have c7:=HPA.out.c7
 have c8:=HPA.out.c8
 have c9:=HPA.out.c9
 have c10:=HPA.out.c10
 have c11:=HPA.out.c11
 go_upto_region 4 with (go_at_call 127;refine (HI.out _).mono ?_;rintro e w2 ⟨rfl,hF2⟩;have cf2:=(hFA.trans hF2).cell_some cf id)
 have hFX:Fr NoB w w2:=hFA.trans hF2
 have HM2:Hid _:=HM.out.no hFX
 have fz2:=HM2.out.m.fz 3
 have d0:=hF2.cell_some c0 id;have d1:=hF2.cell_some c1 id;have d2:=hF2.cell_some c2 id;have d3:=hF2.cell_some c3 id;have d4:=hF2.cell_some c4 id;have d5:=hF2.cell_some c5 id;have d6:=hF2.cell_some c6 id;have d7:=hF2.cell_some c7 id;have d8:=hF2.cell_some c8 id;have d9:=hF2.cell_some c9 id;have d10:=hF2.cell_some c10 id;have d11:=hF2.cell_some c11 id
 go_upto_region 5 with fail
 have hF3:Fr (OneB mp) w2 (w2.setCell ⟨mp,3,none⟩ (.int .i64 ((σ.left:Int) - 1))):=(Fr.refl (OneB mp) w2).setCell (p:=⟨mp,3,none⟩) (fun _=>rfl) _
 have HM3:Hid (MM (w2.setCell ⟨mp,3,none⟩ (.int .i64 ((σ.left:Int) - 1))) mp r n base pv true (due σ) nx false B V tv):=by
  have:=HM2.out.dued
  rwa [HL1.out] at this
 have hFY:Fr (FrM base) w (w2.setCell ⟨mp,3,none⟩ (.int .i64 ((σ.left:Int) - 1))):=(frM_no hFX).trans (frM_one hF3 HM.out.mb)
 have e0:=hF3.cell_some d0 (fun q=>hqm (by unfold OneB at q;exact q));have e1:=hF3.cell_some d1 (fun q=>hqm (by unfold OneB at q;exact q));have e2:=hF3.cell_some d2 (fun q=>hqm (by unfold OneB at q;exact q));have e3:=hF3.cell_some d3 (fun q=>hqm (by unfold OneB at q;exact q));have e4:=hF3.cell_some d4 (fun q=>hqm (by unfold OneB at q;exact q));have e5:=hF3.cell_some d5 (fun q=>hqm (by unfold OneB at q;exact q));have e6:=hF3.cell_some d6 (fun q=>hqm (by unfold OneB at q;exact q));have e7:=hF3.cell_some d7 (fun q=>hqm (by unfold OneB at q;exact q));have e8:=hF3.cell_some d8 (fun q=>hqm (by unfold OneB at q;exact q));have e9:=hF3.cell_some d9 (fun q=>hqm (by unfold OneB at q;exact q));have e10:=hF3.cell_some d10 (fun q=>hqm (by unfold OneB at q;exact q));have e11:=hF3.cell_some d11 (fun q=>hqm (by unfold OneB at q;exact q))
 have cs3:=HM3.out.m.cs
 generalize w2.setCell ⟨mp,3,none⟩ (.int .i64 ((σ.left:Int) - 1)) = W3 at *
 go_wp2_with (first | (go_at_call 129;refine (HB.out _ HM3.out).mono ?_;rintro e w4 ⟨rfl,hF4⟩) | (go_at_call 128;refine (HS.out _ (hFY.trans (frM_no hF4)) (HM3.out.no hF4)).mono ?_;rintro e w5 ⟨rfl,hp⟩;have HH:Hid _:=hp;clear hp))
 go_end0
 exact ⟨rfl,HH.out⟩
theorem part_loose_n (h:MM w mp r n base pv false σ nx false B V tv) (t:Pt) (clo:Nat) (hb:stB t = false) (Post:World → Prop) (HD:Hid (∀ W,Fr (FrM base) w W → MM W mp r n base pv false σ nx false B V tv → Calls prog 130 #[.pointer (some ⟨mp,0,none⟩),ptV t clo] W fun e w'=>e = .returned (.tuple #[]) ∧ Post w')) :
  Calls prog 107 #[.pointer (some ⟨mp,0,none⟩),ptV t clo] w fun e w'=>e = .returned (.tuple #[]) ∧ Post w':=by
 have HI:Hid (∀ W,CR 127 #[ptV t clo] W (.bool false)):=fun W=>by
  have:=isStep_fn W t clo
  rwa [hb] at this
 have HM:Hid _:=h
 have cf:=h.m.cf
 have cs:=h.m.cs
 unfold mxOf at cf
 simp only [] at cf
 have hqm:w.heap.size ≠ mp:=by have:=h.m.lt;omega
 have hlb:σ.left ≤ 5000:=by have:=h.tk;unfold TrOk at this;omega
 clear h hb
 unfold ptV at *
 obtain ⟨kind,place,num,box,src,o1,sign,o2,opn⟩:=t
 simp only [] at *
 generalize odB o1 = b1 at *
 generalize odI o1 = x1 at *
 generalize odB o2 = b2 at *
 generalize odI o2 = x2 at *
 go_enter func107,ntmps107
 go_upto_region 1 with fail
 obtain ⟨hFA,HPA⟩:=box_new w kind place num box src b1 x1 sign b2 x2 opn clo
 generalize w.alloc _ = W1 at hFA HPA ⊢
 generalize w.heap.size = q at *
 have c0:=HPA.out.c0
 have c1:=HPA.out.c1
 have c2:=HPA.out.c2
 have c3:=HPA.out.c3
 have c4:=HPA.out.c4
 have c5:=HPA.out.c5
 have c6:=HPA.out.c6
 have c7:=HPA.out.c7
 have c8:=HPA.out.c8
 have c9:=HPA.out.c9
 have c10:=HPA.out.c10
 have c11:=HPA.out.c11
 go_upto_region 5 with (go_at_call 127;refine (HI.out _).mono ?_;rintro e w2 ⟨rfl,hF2⟩)
 have hFX:Fr NoB w w2:=hFA.trans hF2
 have HM2:Hid _:=HM.out.no hFX
 have d0:=hF2.cell_some c0 id;have d1:=hF2.cell_some c1 id;have d2:=hF2.cell_some c2 id;have d3:=hF2.cell_some c3 id;have d4:=hF2.cell_some c4 id;have d5:=hF2.cell_some c5 id;have d6:=hF2.cell_some c6 id;have d7:=hF2.cell_some c7 id;have d8:=hF2.cell_some c8 id;have d9:=hF2.cell_some c9 id;have d10:=hF2.cell_some c10 id;have d11:=hF2.cell_some c11 id
 have cs3:=HM2.out.m.cs
 go_wp2_with (go_at_call 130;refine (HD.out _ (frM_no hFX) HM2.out).mono ?_;rintro e w5 ⟨rfl,hp⟩;have HH:Hid _:=hp;clear hp)
 go_end0
 exact ⟨rfl,HH.out⟩
theorem part_strict_n (h:MM w mp r n base pv true σ nx false B V tv) (t:Pt) (clo:Nat) (hb:stB t = false) (ht:PtOk t) (hbr:brkB t σ = false) (Post:World → Prop) (HD:Hid (∀ W,Fr (FrM base) w W → MM W mp r n base pv true σ nx false B V tv → Calls prog 130 #[.pointer (some ⟨mp,0,none⟩),ptV t clo] W fun e w'=>e = .returned (.tuple #[]) ∧ Post w')) :
  Calls prog 107 #[.pointer (some ⟨mp,0,none⟩),ptV t clo] w fun e w'=>e = .returned (.tuple #[]) ∧ Post w':=by
 have HI:Hid (∀ W,CR 127 #[ptV t clo] W (.bool false)):=fun W=>by
  have:=isStep_fn W t clo
  rwa [hb] at this
 have HB:Hid (∀ W,MM W mp r n base pv true σ nx false B V tv → CR 129 #[.pointer (some ⟨mp,0,none⟩),ptV t clo] W (.bool false)):=fun W hW=>by
  have:=breaks_fn W mp r n base nx pv tv true false σ B V hW t clo ht
  rwa [hbr] at this
 have HM:Hid _:=h
 have cf:=h.m.cf
 have cs:=h.m.cs
 unfold mxOf at cf
 simp only [] at cf
 have hqm:w.heap.size ≠ mp:=by have:=h.m.lt;omega
 have hlb:σ.left ≤ 5000:=by have:=h.tk;unfold TrOk at this;omega
 clear h hb ht hbr
 unfold ptV at *
 obtain ⟨kind,place,num,box,src,o1,sign,o2,opn⟩:=t
 simp only [] at *
 generalize odB o1 = b1 at *
 generalize odI o1 = x1 at *
 generalize odB o2 = b2 at *
 generalize odI o2 = x2 at *
 go_enter func107,ntmps107
 go_upto_region 1 with fail
 obtain ⟨hFA,HPA⟩:=box_new w kind place num box src b1 x1 sign b2 x2 opn clo
 generalize w.alloc _ = W1 at hFA HPA ⊢
 generalize w.heap.size = q at *
 have c0:=HPA.out.c0
 have c1:=HPA.out.c1
 have c2:=HPA.out.c2
 have c3:=HPA.out.c3
 have c4:=HPA.out.c4
 have c5:=HPA.out.c5
 have c6:=HPA.out.c6
 have c7:=HPA.out.c7
 have c8:=HPA.out.c8
 have c9:=HPA.out.c9
 have c10:=HPA.out.c10
 have c11:=HPA.out.c11
 go_upto_region 5 with (go_at_call 127;refine (HI.out _).mono ?_;rintro e w2 ⟨rfl,hF2⟩)
 have hFX:Fr NoB w w2:=hFA.trans hF2
 have HM2:Hid _:=HM.out.no hFX
 have d0:=hF2.cell_some c0 id;have d1:=hF2.cell_some c1 id;have d2:=hF2.cell_some c2 id;have d3:=hF2.cell_some c3 id;have d4:=hF2.cell_some c4 id;have d5:=hF2.cell_some c5 id;have d6:=hF2.cell_some c6 id;have d7:=hF2.cell_some c7 id;have d8:=hF2.cell_some c8 id;have d9:=hF2.cell_some c9 id;have d10:=hF2.cell_some c10 id;have d11:=hF2.cell_some c11 id
 have cs3:=HM2.out.m.cs
 go_wp2_with (first | (go_at_call 129;refine (HB.out _ HM2.out).mono ?_;rintro e w4 ⟨rfl,hF4⟩;have g0:=hF4.cell_some d0 id;have g1:=hF4.cell_some d1 id;have g2:=hF4.cell_some d2 id;have g3:=hF4.cell_some d3 id;have g4:=hF4.cell_some d4 id;have g5:=hF4.cell_some d5 id;have g6:=hF4.cell_some d6 id;have g7:=hF4.cell_some d7 id;have g8:=hF4.cell_some d8 id;have g9:=hF4.cell_some d9 id;have g10:=hF4.cell_some d10 id;have g11:=hF4.cell_some d11 id) | (go_at_call 130;refine (HD.out _ ((frM_no hFX).trans (frM_no hF4)) (HM2.out.no hF4)).mono ?_;rintro e w5 ⟨rfl,hp⟩;have HH:Hid _:=hp;clear hp))
 go_end0
 exact ⟨rfl,HH.out⟩
theorem part_brk_n (h:MM w mp r n base pv true σ nx false B V tv) (t:Pt) (clo:Nat) (hb:stB t = false) (ht:PtOk t) (hbr:brkB t σ = true) :
  Calls prog 107 #[.pointer (some ⟨mp,0,none⟩),ptV t clo] w fun e w'=>MS mp r n base pv true nx (ends σ 4) w e w':=by
 have HI:Hid (∀ W,CR 127 #[ptV t clo] W (.bool false)):=fun W=>by
  have:=isStep_fn W t clo
  rwa [hb] at this
 have HB:Hid (∀ W,MM W mp r n base pv true σ nx false B V tv → CR 129 #[.pointer (some ⟨mp,0,none⟩),ptV t clo] W (.bool true)):=fun W hW=>by
  have:=breaks_fn W mp r n base nx pv tv true false σ B V hW t clo ht
  rwa [hbr] at this
 have HS:Hid (∀ W,Fr (FrM base) w W → MM W mp r n base pv true σ nx false B V tv → Calls prog 128 #[.pointer (some ⟨mp,0,none⟩),.int .i64 4] W fun e w'=>MS mp r n base pv true nx (ends σ 4) w e w'):=fun W hW hM=>(stop_fn W mp r n base nx pv tv true false σ B V hM 4).mono fun e w' hh=>⟨hh.1,⟨_,_,_,hh.2.1⟩,hW.trans hh.2.2⟩
 have HM:Hid _:=h
 have cf:=h.m.cf
 have cs:=h.m.cs
 unfold mxOf at cf
 simp only [] at cf
 have hqm:w.heap.size ≠ mp:=by have:=h.m.lt;omega
 have hlb:σ.left ≤ 5000:=by have:=h.tk;unfold TrOk at this;omega
 clear h hb ht hbr
 unfold ptV at *
 obtain ⟨kind,place,num,box,src,o1,sign,o2,opn⟩:=t
 simp only [] at *
 generalize odB o1 = b1 at *
 generalize odI o1 = x1 at *
 generalize odB o2 = b2 at *
 generalize odI o2 = x2 at *
 go_enter func107,ntmps107
 go_upto_region 1 with fail
 obtain ⟨hFA,HPA⟩:=box_new w kind place num box src b1 x1 sign b2 x2 opn clo
 generalize w.alloc _ = W1 at hFA HPA ⊢
 generalize w.heap.size = q at *
 have c0:=HPA.out.c0
 have c1:=HPA.out.c1
 have c2:=HPA.out.c2
 have c3:=HPA.out.c3
 have c4:=HPA.out.c4
 have c5:=HPA.out.c5
 have c6:=HPA.out.c6
 have c7:=HPA.out.c7
 have c8:=HPA.out.c8
 have c9:=HPA.out.c9
 have c10:=HPA.out.c10
 have c11:=HPA.out.c11
 go_upto_region 5 with (go_at_call 127;refine (HI.out _).mono ?_;rintro e w2 ⟨rfl,hF2⟩)
 have hFX:Fr NoB w w2:=hFA.trans hF2
 have HM2:Hid _:=HM.out.no hFX
 have d0:=hF2.cell_some c0 id;have d1:=hF2.cell_some c1 id;have d2:=hF2.cell_some c2 id;have d3:=hF2.cell_some c3 id;have d4:=hF2.cell_some c4 id;have d5:=hF2.cell_some c5 id;have d6:=hF2.cell_some c6 id;have d7:=hF2.cell_some c7 id;have d8:=hF2.cell_some c8 id;have d9:=hF2.cell_some c9 id;have d10:=hF2.cell_some c10 id;have d11:=hF2.cell_some c11 id
 have cs3:=HM2.out.m.cs
 go_wp2_with (first | (go_at_call 129;refine (HB.out _ HM2.out).mono ?_;rintro e w4 ⟨rfl,hF4⟩) | (go_at_call 128;refine (HS.out _ ((frM_no hFX).trans (frM_no hF4)) (HM2.out.no hF4)).mono ?_;rintro e w5 ⟨rfl,hp⟩;have HH:Hid _:=hp;clear hp))
 go_end0
 exact ⟨rfl,HH.out⟩
end
end
end Go.Proofs.YthcjcjfgdgnljabGreatDoor
