import Derived.Test.YthcjcjfgdgnljabGreatDoorGMchK
set_option linter.unusedVariables false
set_option maxHeartbeats 4000000
set_option maxRecDepth 8000
open Go.Proofs.Tryz
namespace Go.Proofs.YthcjcjfgdgnljabGreatDoor
open Go.RowKit
section
section
variable (w:World) (mp r n base nx:Nat) (pv tv:Value) (st ov:Bool) (σ:St) (B V:Nat → Int)
theorem dmove_self (h:MM w mp r n base pv st σ nx false B V tv) (t:Pt) (clo:Nat) (hg:getB t = false) :
  Calls prog 142 #[.pointer (some ⟨mp,0,none⟩),ptV t clo] w fun e w'=>MS mp r n base pv st nx (σ,true) w e w':=by
 have HG:Hid (∀ W,CR 116 #[ptV t clo] W (.bool false)):=fun W=>by
  have:=gets_fn W t clo
  rwa [hg] at this
 have HM:Hid _:=h
 unfold ptV at HG ⊢
 clear h hg
 obtain ⟨kind,place,num,box,src,o1,sign,o2,opn⟩:=t
 simp only [] at *
 generalize odB o1 = b1 at *
 generalize odI o1 = x1 at *
 generalize odB o2 = b2 at *
 generalize odI o2 = x2 at *
 go_enter func142,ntmps142
 go_upto_region 1 with fail
 obtain ⟨hFA,HPA⟩:=box_new w kind place num box src b1 x1 sign b2 x2 opn clo
 generalize w.alloc _ = W1 at hFA HPA ⊢
 generalize w.heap.size = q at *
 have c0:=HPA.out.c0
 have c1:=HPA.out.c1
 have c2:=HPA.out.c2
 have c3:=HPA.out.c3
 have c4:=HPA.out.c4
 have c5:=HPA.out.c5
 have c6:=HPA.out.c6
 have c7:=HPA.out.c7
 have c8:=HPA.out.c8
 have c9:=HPA.out.c9
 have c10:=HPA.out.c10
 have c11:=HPA.out.c11
 go_wp2_with (go_at_call 116;refine (HG.out _).mono ?_;rintro e w2 ⟨rfl,hF2⟩)
 go_end0
 exact ⟨rfl,⟨_,_,_,HM.out.no (hFA.trans hF2)⟩,frM_no (hFA.trans hF2)⟩
theorem dmove_yes (h:MM w mp r n base pv st σ nx false B V tv) (t:Pt) (clo:Nat) (ht:PtOk t) (hg:getB t = true) (hne:t.box ≠ t.src) (hd:σ.bx t.src ≠ []) :
  Calls prog 142 #[.pointer (some ⟨mp,0,none⟩),ptV t clo] w fun e w'=>MS mp r n base pv st nx ({ σ with bx:=upB (upB σ.bx t.box (σ.bx t.src)) t.src [],at_:=upN σ.at_ t.box (σ.at_ t.src) },true) w e w':=by
 have HG:Hid (∀ W,CR 116 #[ptV t clo] W (.bool true)):=fun W=>by
  have:=gets_fn W t clo
  rwa [hg] at this
 have HL:Hid (∀ W,Fr NoB w W → _):=fun W hW=>lose_any W mp r n base nx pv tv st false σ B V (h.no hW) t.box ht.b
 have HB:Hid (∀ W B' V',MM W mp r n base pv st { σ with bx:=upB σ.bx t.box [] } nx false B' V' tv → Calls prog 150 #[.pointer (some ⟨mp,30,none⟩),.int .i64 t.box,.int .i64 t.src] W fun e w'=>e = .returned (.tuple #[]) ∧ MM w' mp r n base pv st { σ with bx:=upB (upB σ.bx t.box (σ.bx t.src)) t.src [],at_:=upN σ.at_ t.box (σ.at_ t.src) } nx false B' V' tv ∧ Fr (TwoB mp r) W w'):=fun W B' V' hW=>by
  have e1:upB σ.bx t.box [] t.src = σ.bx t.src:=upB_ne _ _ (Ne.symm hne)
  have:=bmove_fn W mp r n base nx pv tv st false { σ with bx:=upB σ.bx t.box [] } B' V' hW t.box t.src ht.b ht.s hne (upB_at _ _ _) (by show upB σ.bx t.box [] t.src ≠ [];rw [e1];exact hd)
  simp only [e1,upB_up] at this
  exact this
 have hqm:w.heap.size ≠ mp:=by have:=h.m.lt;omega
 have hqr:w.heap.size ≠ r:=by have:=h.h.rl;omega
 have HM:Hid _:=h
 unfold ptV at HG ⊢
 clear h hg hd hne ht
 obtain ⟨kind,place,num,box,src,o1,sign,o2,opn⟩:=t
 simp only [] at *
 generalize odB o1 = b1 at *
 generalize odI o1 = x1 at *
 generalize odB o2 = b2 at *
 generalize odI o2 = x2 at *
 generalize ({ σ with bx:=upB (upB σ.bx box (σ.bx src)) src [],at_:=upN σ.at_ box (σ.at_ src) }:St) = τ2 at *
 generalize ({ σ with bx:=upB σ.bx box [] }:St) = τ at *
 go_enter func142,ntmps142
 go_upto_region 1 with fail
 obtain ⟨hFA,HPA⟩:=box_new w kind place num box src b1 x1 sign b2 x2 opn clo
 generalize w.alloc _ = W1 at hFA HPA ⊢
 generalize w.heap.size = q at *
 have c0:=HPA.out.c0
 have c1:=HPA.out.c1
 have c2:=HPA.out.c2
 have c3:=HPA.out.c3
 have c4:=HPA.out.c4
 have c5:=HPA.out.c5
 have c6:=HPA.out.c6
 have c7:=HPA.out.c7
 have c8:=HPA.out.c8
 have c9:=HPA.out.c9
 have c10:=HPA.out.c10
 have c11:=HPA.out.c11
 go_upto_region 2 with (go_at_call 116;refine (HG.out _).mono ?_;rintro e w2 ⟨rfl,hF2⟩;have d3:=hF2.cell_some c3 id;have d4:=hF2.cell_some c4 id)
 go_region_with (go_at_call 144;refine (HL.out _ ((hFA.trans hF2).drew)).mono ?_;rintro e w3 ⟨rfl,⟨B',V',hM3⟩,hF3⟩)
 have e3:=((((Fr.refl _ w2).drew).trans hF3)).cell_some d3 (fun q=>by rcases q with q | q;exact hqm q;exact hqr q)
 have e4:=((((Fr.refl _ w2).drew).trans hF3)).cell_some d4 (fun q=>by rcases q with q | q;exact hqm q;exact hqr q)
 have HM3:Hid _:=hM3
 have hFX:Fr (FrM base) w w3:=(frM_no ((hFA.trans hF2).drew)).trans (frM_two hF3 HM.out.mb HM.out.rb)
 clear hM3
 go_upto_region 3 with fail
 go_region_with (go_at_call 150;refine (HB.out _ B' V' (HM3.out.no ((Fr.refl _ w3).drew))).mono ?_;rintro e w4 ⟨rfl,hM4,hF4⟩;have HH:Hid _:=And.intro hM4 hF4;clear hM4 hF4)
 all_goals
  go_wp2
  go_end0
  exact ⟨rfl,⟨_,_,_,HH.out.1⟩,hFX.trans ((frM_no ((Fr.refl _ w3).drew)).trans (frM_two HH.out.2 HM.out.mb HM.out.rb))⟩
theorem MM.setNx {w:World} {mp r n base nx:Nat} {pv tv:Value} {st ov:Bool} {σ:St} {B V:Nat → Int} (h:MM w mp r n base pv st σ nx ov B V tv) {v:Nat} (hv:v ≤ 100000):MM (w.setCell ⟨mp,1,none⟩ (.int .i64 v)) mp r n base pv st σ v ov B V tv :=
 h.own (τ:=σ) ((Fr.refl (OneB mp) w).setCell (p:=⟨mp,1,none⟩) (fun _=>rfl) _) (h.m.setNx v) (cell_other (.inr (by omega))) rfl rfl h.ok rfl h.tk hv
def turnN (t:Pt) (clo:Nat) (σ:St) (nx:Nat):Nat :=
 if t.kind = 8 ∨ t.kind = 11 then (if valO σ.num t.o1 = 0 then clo + 1 else nx) else if t.kind = 9 then clo else if t.kind = 12 then t.opn else nx
theorem turn_fn (h:MM w mp r n base pv st σ nx false B V tv) (t:Pt) (clo:Nat) (ht:PtOk t) (hk:8 ≤ t.kind) (hcl:clo < 100000) :
  Calls prog 145 #[.pointer (some ⟨mp,0,none⟩),ptV t clo] w fun e w'=>MS mp r n base pv st (turnN t clo σ nx) (σ,true) w e w':=by
 have HV:Hid (∀ W,Fr NoB w W → _):=fun W hW=>mvalue_fn W mp r n base nx pv tv st false σ B V (h.no hW) t.o1 ht.o1
 have HM:Hid _:=h
 have hop:=ht.o
 have hk2:=ht.k
 have HN:Hid (∀ W v,Fr NoB w W → v ≤ 100000 → MS mp r n base pv st v (σ,true) w (.returned (.tuple #[])) (W.setCell ⟨mp,1,none⟩ (.int .i64 v))):=fun W v hW hv=>⟨rfl,⟨_,_,_,(h.no hW).setNx hv⟩,(frM_no hW).trans (frM_one ((Fr.refl (OneB mp) W).setCell (p:=⟨mp,1,none⟩) (fun _=>rfl) _) h.mb)⟩
 have cx:=h.m.cx
 have HFz:Hid (∀ W,Fr NoB w W → W.frozen? ⟨mp,1,none⟩ = false):=fun W hW=>(h.no hW).m.fz 1
 unfold ptV turnN
 obtain ⟨kind,place,num,box,src,o1,sign,o2,opn⟩:=t
 simp only [] at *
 generalize valO σ.num o1 = v at *
 generalize odB o1 = b1 at *
 generalize odI o1 = x1 at *
 generalize odB o2 = b2 at *
 generalize odI o2 = x2 at *
 clear h ht
 have hkk:(kind = 8 ∨ kind = 11) ∨ kind = 9 ∨ kind = 12 ∨ kind = 10:=by omega
 rcases hkk with hb | hb | hb | hb
 ·rw [if_pos hb]
  by_cases hv:v = 0
  ·subst hv
   rw [if_pos rfl]
   rcases hb with hb | hb
   ·have f8:((kind:Int) == 8) = true:=beq_iff_eq.2 (by omega)
    have f11:((kind:Int) == 11) = false:=bF (by omega)
    clear hb
    go_enter func145,ntmps145
    go_upto_region 1 with fail
    obtain ⟨hFA,HPA⟩:=box_new w kind place num box src b1 x1 sign b2 x2 opn clo
    generalize w.alloc _ = W1 at hFA HPA ⊢
    generalize w.heap.size = q at *
    have c0:=HPA.out.c0
    have c5:=HPA.out.c5
    have c6:=HPA.out.c6
    have c11:=HPA.out.c11
    go_wp2_with (go_at_call 139;refine (HV.out _ hFA).mono ?_;rintro e w2 ⟨rfl,hF2⟩;have d11:=hF2.cell_some c11 id;have cx2:=(hFA.trans hF2).cell_some cx id;have fz2:=HFz.out _ (hFA.trans hF2))
    go_end0
    exact HN.out _ (clo + 1) (hFA.trans hF2) (by omega)
   ·have f8:((kind:Int) == 8) = false:=bF (by omega)
    have f11:((kind:Int) == 11) = true:=beq_iff_eq.2 (by omega)
    clear hb
    go_enter func145,ntmps145
    go_upto_region 1 with fail
    obtain ⟨hFA,HPA⟩:=box_new w kind place num box src b1 x1 sign b2 x2 opn clo
    generalize w.alloc _ = W1 at hFA HPA ⊢
    generalize w.heap.size = q at *
    have c0:=HPA.out.c0
    have c5:=HPA.out.c5
    have c6:=HPA.out.c6
    have c11:=HPA.out.c11
    go_wp2_with (go_at_call 139;refine (HV.out _ hFA).mono ?_;rintro e w2 ⟨rfl,hF2⟩;have d11:=hF2.cell_some c11 id;have cx2:=(hFA.trans hF2).cell_some cx id;have fz2:=HFz.out _ (hFA.trans hF2))
    go_end0
    exact HN.out _ (clo + 1) (hFA.trans hF2) (by omega)
  ·rw [if_neg hv]
   have hv0:((v:Int) == 0) = false:=bF (by omega)
   rcases hb with hb | hb
   ·have f8:((kind:Int) == 8) = true:=beq_iff_eq.2 (by omega)
    have f11:((kind:Int) == 11) = false:=bF (by omega)
    clear hb
    go_enter func145,ntmps145
    go_upto_region 1 with fail
    obtain ⟨hFA,HPA⟩:=box_new w kind place num box src b1 x1 sign b2 x2 opn clo
    generalize w.alloc _ = W1 at hFA HPA ⊢
    generalize w.heap.size = q at *
    have c0:=HPA.out.c0
    have c5:=HPA.out.c5
    have c6:=HPA.out.c6
    have c11:=HPA.out.c11
    go_wp2_with (go_at_call 139;refine (HV.out _ hFA).mono ?_;rintro e w2 ⟨rfl,hF2⟩)
    go_end0
    exact ⟨rfl,⟨_,_,_,HM.out.no (hFA.trans hF2)⟩,frM_no (hFA.trans hF2)⟩
   ·have f8:((kind:Int) == 8) = false:=bF (by omega)
    have f11:((kind:Int) == 11) = true:=beq_iff_eq.2 (by omega)
    clear hb
    go_enter func145,ntmps145
    go_upto_region 1 with fail
    obtain ⟨hFA,HPA⟩:=box_new w kind place num box src b1 x1 sign b2 x2 opn clo
    generalize w.alloc _ = W1 at hFA HPA ⊢
    generalize w.heap.size = q at *
    have c0:=HPA.out.c0
    have c5:=HPA.out.c5
    have c6:=HPA.out.c6
    have c11:=HPA.out.c11
    go_wp2_with (go_at_call 139;refine (HV.out _ hFA).mono ?_;rintro e w2 ⟨rfl,hF2⟩)
    go_end0
    exact ⟨rfl,⟨_,_,_,HM.out.no (hFA.trans hF2)⟩,frM_no (hFA.trans hF2)⟩
 ·rw [if_neg (by omega),if_pos hb]
  have f8:((kind:Int) == 8) = false:=bF (by omega)
  have f11:((kind:Int) == 11) = false:=bF (by omega)
  have f9:((kind:Int) == 9) = true:=beq_iff_eq.2 (by omega)
  have f12:((kind:Int) == 12) = false:=bF (by omega)
  clear hb
  go_enter func145,ntmps145
  go_upto_region 1 with fail
  obtain ⟨hFA,HPA⟩:=box_new w kind place num box src b1 x1 sign b2 x2 opn clo
  generalize w.alloc _ = W1 at hFA HPA ⊢
  generalize w.heap.size = q at *
  have c0:=HPA.out.c0
  have c11:=HPA.out.c11
  have cx2:=hFA.cell_some cx id
  have fz2:=HFz.out _ hFA
  go_wp2
  go_end0
  exact HN.out _ clo hFA (by omega)
 ·rw [if_neg (by omega),if_neg (by omega),if_pos hb]
  have f8:((kind:Int) == 8) = false:=bF (by omega)
  have f11:((kind:Int) == 11) = false:=bF (by omega)
  have f9:((kind:Int) == 9) = false:=bF (by omega)
  have f12:((kind:Int) == 12) = true:=beq_iff_eq.2 (by omega)
  clear hb
  go_enter func145,ntmps145
  go_upto_region 1 with fail
  obtain ⟨hFA,HPA⟩:=box_new w kind place num box src b1 x1 sign b2 x2 opn clo
  generalize w.alloc _ = W1 at hFA HPA ⊢
  generalize w.heap.size = q at *
  have c0:=HPA.out.c0
  have c10:=HPA.out.c10
  have cx2:=hFA.cell_some cx id
  have fz2:=HFz.out _ hFA
  go_wp2
  go_end0
  exact HN.out _ opn hFA (by omega)
 ·rw [if_neg (by omega),if_neg (by omega),if_neg (by omega)]
  have f8:((kind:Int) == 8) = false:=bF (by omega)
  have f11:((kind:Int) == 11) = false:=bF (by omega)
  have f9:((kind:Int) == 9) = false:=bF (by omega)
  have f12:((kind:Int) == 12) = false:=bF (by omega)
  clear hb
  go_enter func145,ntmps145
  go_upto_region 1 with fail
  obtain ⟨hFA,HPA⟩:=box_new w kind place num box src b1 x1 sign b2 x2 opn clo
  generalize w.alloc _ = W1 at hFA HPA ⊢
  generalize w.heap.size = q at *
  have c0:=HPA.out.c0
  go_wp2
  go_end0
  exact ⟨rfl,⟨_,_,_,HM.out.no hFA⟩,frM_no hFA⟩
end
end
section
section
variable (w:World) (mp r n base nx:Nat) (pv tv:Value) (st ov:Bool) (σ:St) (B V:Nat → Int)
theorem do_reckon (t:Pt) (clo:Nat) (hk:t.kind = 0) (Post:World → Prop) (HC:Hid (∀ W,Fr NoB w W → Calls prog 137 #[.pointer (some ⟨mp,0,none⟩),ptV t clo] W fun e w'=>e = .returned (.tuple #[]) ∧ Post w')) :
  Calls prog 130 #[.pointer (some ⟨mp,0,none⟩),ptV t clo] w fun e w'=>e = .returned (.tuple #[]) ∧ Post w':=by
 unfold ptV at HC ⊢
 obtain ⟨kind,place,num,box,src,o1,sign,o2,opn⟩:=t
 simp only [] at *
 generalize odB o1 = b1 at *
 generalize odI o1 = x1 at *
 generalize odB o2 = b2 at *
 generalize odI o2 = x2 at *
 have f0:((kind:Int) == 0) = true:=beq_iff_eq.2 (by omega)
 clear hk
 go_enter func130,ntmps130
 go_upto_region 1 with fail
 obtain ⟨hFA,HPA⟩:=box_new w kind place num box src b1 x1 sign b2 x2 opn clo
 generalize w.alloc _ = W1 at hFA HPA ⊢
 generalize w.heap.size = q at *
 have c0:=HPA.out.c0
 have c1:=HPA.out.c1
 have c2:=HPA.out.c2
 have c3:=HPA.out.c3
 have c4:=HPA.out.c4
 have c5:=HPA.out.c5
 have c6:=HPA.out.c6
 have c7:=HPA.out.c7
 have c8:=HPA.out.c8
 have c9:=HPA.out.c9
 have c10:=HPA.out.c10
 have c11:=HPA.out.c11
 go_wp2_with (go_at_call 137;refine (HC.out _ hFA).mono ?_;rintro e w2 ⟨rfl,hp⟩;have HH:Hid _:=hp;clear hp)
 go_end0
 exact ⟨rfl,HH.out⟩
theorem do_load (t:Pt) (clo:Nat) (hk:t.kind = 2) (Post:World → Prop) (HC:Hid (∀ W,Fr NoB w W → Calls prog 140 #[.pointer (some ⟨mp,0,none⟩),ptV t clo] W fun e w'=>e = .returned (.tuple #[]) ∧ Post w')) :
  Calls prog 130 #[.pointer (some ⟨mp,0,none⟩),ptV t clo] w fun e w'=>e = .returned (.tuple #[]) ∧ Post w':=by
 unfold ptV at HC ⊢
 obtain ⟨kind,place,num,box,src,o1,sign,o2,opn⟩:=t
 simp only [] at *
 generalize odB o1 = b1 at *
 generalize odI o1 = x1 at *
 generalize odB o2 = b2 at *
 generalize odI o2 = x2 at *
 have f0:((kind:Int) == 0) = false:=bF (by omega)
 have f1:((kind:Int) == 1) = false:=bF (by omega)
 have f2:((kind:Int) == 2) = true:=beq_iff_eq.2 (by omega)
 clear hk
 go_enter func130,ntmps130
 go_upto_region 1 with fail
 obtain ⟨hFA,HPA⟩:=box_new w kind place num box src b1 x1 sign b2 x2 opn clo
 generalize w.alloc _ = W1 at hFA HPA ⊢
 generalize w.heap.size = q at *
 have c0:=HPA.out.c0
 have c1:=HPA.out.c1
 have c2:=HPA.out.c2
 have c3:=HPA.out.c3
 have c4:=HPA.out.c4
 have c5:=HPA.out.c5
 have c6:=HPA.out.c6
 have c7:=HPA.out.c7
 have c8:=HPA.out.c8
 have c9:=HPA.out.c9
 have c10:=HPA.out.c10
 have c11:=HPA.out.c11
 go_wp2_with (go_at_call 140;refine (HC.out _ hFA).mono ?_;rintro e w2 ⟨rfl,hp⟩;have HH:Hid _:=hp;clear hp)
 go_end0
 exact ⟨rfl,HH.out⟩
theorem do_newBlock (t:Pt) (clo:Nat) (hk:t.kind = 4) (Post:World → Prop) (HC:Hid (∀ W,Fr NoB w W → Calls prog 141 #[.pointer (some ⟨mp,0,none⟩),ptV t clo] W fun e w'=>e = .returned (.tuple #[]) ∧ Post w')) :
  Calls prog 130 #[.pointer (some ⟨mp,0,none⟩),ptV t clo] w fun e w'=>e = .returned (.tuple #[]) ∧ Post w':=by
 unfold ptV at HC ⊢
 obtain ⟨kind,place,num,box,src,o1,sign,o2,opn⟩:=t
 simp only [] at *
 generalize odB o1 = b1 at *
 generalize odI o1 = x1 at *
 generalize odB o2 = b2 at *
 generalize odI o2 = x2 at *
 have f0:((kind:Int) == 0) = false:=bF (by omega)
 have f1:((kind:Int) == 1) = false:=bF (by omega)
 have f2:((kind:Int) == 2) = false:=bF (by omega)
 have f3:((kind:Int) == 3) = false:=bF (by omega)
 have f4:((kind:Int) == 4) = true:=beq_iff_eq.2 (by omega)
 clear hk
 go_enter func130,ntmps130
 go_upto_region 1 with fail
 obtain ⟨hFA,HPA⟩:=box_new w kind place num box src b1 x1 sign b2 x2 opn clo
 generalize w.alloc _ = W1 at hFA HPA ⊢
 generalize w.heap.size = q at *
 have c0:=HPA.out.c0
 have c1:=HPA.out.c1
 have c2:=HPA.out.c2
 have c3:=HPA.out.c3
 have c4:=HPA.out.c4
 have c5:=HPA.out.c5
 have c6:=HPA.out.c6
 have c7:=HPA.out.c7
 have c8:=HPA.out.c8
 have c9:=HPA.out.c9
 have c10:=HPA.out.c10
 have c11:=HPA.out.c11
 go_wp2_with (go_at_call 141;refine (HC.out _ hFA).mono ?_;rintro e w2 ⟨rfl,hp⟩;have HH:Hid _:=hp;clear hp)
 go_end0
 exact ⟨rfl,HH.out⟩
theorem do_move (t:Pt) (clo:Nat) (hk:t.kind = 5) (Post:World → Prop) (HC:Hid (∀ W,Fr NoB w W → Calls prog 142 #[.pointer (some ⟨mp,0,none⟩),ptV t clo] W fun e w'=>e = .returned (.tuple #[]) ∧ Post w')) :
  Calls prog 130 #[.pointer (some ⟨mp,0,none⟩),ptV t clo] w fun e w'=>e = .returned (.tuple #[]) ∧ Post w':=by
 unfold ptV at HC ⊢
 obtain ⟨kind,place,num,box,src,o1,sign,o2,opn⟩:=t
 simp only [] at *
 generalize odB o1 = b1 at *
 generalize odI o1 = x1 at *
 generalize odB o2 = b2 at *
 generalize odI o2 = x2 at *
 have f0:((kind:Int) == 0) = false:=bF (by omega)
 have f1:((kind:Int) == 1) = false:=bF (by omega)
 have f2:((kind:Int) == 2) = false:=bF (by omega)
 have f3:((kind:Int) == 3) = false:=bF (by omega)
 have f4:((kind:Int) == 4) = false:=bF (by omega)
 have f5:((kind:Int) == 5) = true:=beq_iff_eq.2 (by omega)
 clear hk
 go_enter func130,ntmps130
 go_upto_region 1 with fail
 obtain ⟨hFA,HPA⟩:=box_new w kind place num box src b1 x1 sign b2 x2 opn clo
 generalize w.alloc _ = W1 at hFA HPA ⊢
 generalize w.heap.size = q at *
 have c0:=HPA.out.c0
 have c1:=HPA.out.c1
 have c2:=HPA.out.c2
 have c3:=HPA.out.c3
 have c4:=HPA.out.c4
 have c5:=HPA.out.c5
 have c6:=HPA.out.c6
 have c7:=HPA.out.c7
 have c8:=HPA.out.c8
 have c9:=HPA.out.c9
 have c10:=HPA.out.c10
 have c11:=HPA.out.c11
 go_wp2_with (go_at_call 142;refine (HC.out _ hFA).mono ?_;rintro e w2 ⟨rfl,hp⟩;have HH:Hid _:=hp;clear hp)
 go_end0
 exact ⟨rfl,HH.out⟩
theorem do_store (t:Pt) (clo:Nat) (hk:t.kind = 6) (Post:World → Prop) (HC:Hid (∀ W,Fr NoB w W → Calls prog 143 #[.pointer (some ⟨mp,0,none⟩),ptV t clo] W fun e w'=>e = .returned (.tuple #[]) ∧ Post w')) :
  Calls prog 130 #[.pointer (some ⟨mp,0,none⟩),ptV t clo] w fun e w'=>e = .returned (.tuple #[]) ∧ Post w':=by
 unfold ptV at HC ⊢
 obtain ⟨kind,place,num,box,src,o1,sign,o2,opn⟩:=t
 simp only [] at *
 generalize odB o1 = b1 at *
 generalize odI o1 = x1 at *
 generalize odB o2 = b2 at *
 generalize odI o2 = x2 at *
 have f0:((kind:Int) == 0) = false:=bF (by omega)
 have f1:((kind:Int) == 1) = false:=bF (by omega)
 have f2:((kind:Int) == 2) = false:=bF (by omega)
 have f3:((kind:Int) == 3) = false:=bF (by omega)
 have f4:((kind:Int) == 4) = false:=bF (by omega)
 have f5:((kind:Int) == 5) = false:=bF (by omega)
 have f6:((kind:Int) == 6) = true:=beq_iff_eq.2 (by omega)
 clear hk
 go_enter func130,ntmps130
 go_upto_region 1 with fail
 obtain ⟨hFA,HPA⟩:=box_new w kind place num box src b1 x1 sign b2 x2 opn clo
 generalize w.alloc _ = W1 at hFA HPA ⊢
 generalize w.heap.size = q at *
 have c0:=HPA.out.c0
 have c1:=HPA.out.c1
 have c2:=HPA.out.c2
 have c3:=HPA.out.c3
 have c4:=HPA.out.c4
 have c5:=HPA.out.c5
 have c6:=HPA.out.c6
 have c7:=HPA.out.c7
 have c8:=HPA.out.c8
 have c9:=HPA.out.c9
 have c10:=HPA.out.c10
 have c11:=HPA.out.c11
 go_wp2_with (go_at_call 143;refine (HC.out _ hFA).mono ?_;rintro e w2 ⟨rfl,hp⟩;have HH:Hid _:=hp;clear hp)
 go_end0
 exact ⟨rfl,HH.out⟩
theorem do_turn (t:Pt) (clo:Nat) (hk:8 ≤ t.kind) (Post:World → Prop) (HC:Hid (∀ W,Fr NoB w W → Calls prog 145 #[.pointer (some ⟨mp,0,none⟩),ptV t clo] W fun e w'=>e = .returned (.tuple #[]) ∧ Post w')) :
  Calls prog 130 #[.pointer (some ⟨mp,0,none⟩),ptV t clo] w fun e w'=>e = .returned (.tuple #[]) ∧ Post w':=by
 unfold ptV at HC ⊢
 obtain ⟨kind,place,num,box,src,o1,sign,o2,opn⟩:=t
 simp only [] at *
 generalize odB o1 = b1 at *
 generalize odI o1 = x1 at *
 generalize odB o2 = b2 at *
 generalize odI o2 = x2 at *
 have f0:((kind:Int) == 0) = false:=bF (by omega)
 have f1:((kind:Int) == 1) = false:=bF (by omega)
 have f2:((kind:Int) == 2) = false:=bF (by omega)
 have f3:((kind:Int) == 3) = false:=bF (by omega)
 have f4:((kind:Int) == 4) = false:=bF (by omega)
 have f5:((kind:Int) == 5) = false:=bF (by omega)
 have f6:((kind:Int) == 6) = false:=bF (by omega)
 have f7:((kind:Int) == 7) = false:=bF (by omega)
 clear hk
 go_enter func130,ntmps130
 go_upto_region 1 with fail
 obtain ⟨hFA,HPA⟩:=box_new w kind place num box src b1 x1 sign b2 x2 opn clo
 generalize w.alloc _ = W1 at hFA HPA ⊢
 generalize w.heap.size = q at *
 have c0:=HPA.out.c0
 have c1:=HPA.out.c1
 have c2:=HPA.out.c2
 have c3:=HPA.out.c3
 have c4:=HPA.out.c4
 have c5:=HPA.out.c5
 have c6:=HPA.out.c6
 have c7:=HPA.out.c7
 have c8:=HPA.out.c8
 have c9:=HPA.out.c9
 have c10:=HPA.out.c10
 have c11:=HPA.out.c11
 go_wp2_with (go_at_call 145;refine (HC.out _ hFA).mono ?_;rintro e w2 ⟨rfl,hp⟩;have HH:Hid _:=hp;clear hp)
 go_end0
 exact ⟨rfl,HH.out⟩
theorem do_print (h:MM w mp r n base pv st σ nx false B V tv) (t:Pt) (clo:Nat) (ht:PtOk t) (hk:t.kind = 1) (hsl:σ.tr.length + 5 * σ.left + 5 ≤ 25000) (htab:∀ W,Fr NoB w W → TabOk W) :
  Calls prog 130 #[.pointer (some ⟨mp,0,none⟩),ptV t clo] w fun e w'=>MS mp r n base pv st nx ({ σ with tr:=σ.tr ++ digF 3 (valO σ.num t.o1) ++ [59] },true) w e w':=by
 have hv:=val_lt σ h.ok ht.o1
 have HV:Hid (∀ W,Fr NoB w W → _):=fun W hW=>mvalue_fn W mp r n base nx pv tv st false σ B V (h.no hW) t.o1 ht.o1
 have HP:Hid (∀ W,Fr NoB w W → Calls prog 138 #[.pointer (some ⟨mp,0,none⟩),.int .i64 (valO σ.num t.o1:Int)] W fun e w'=>MS mp r n base pv st nx ({ σ with tr:=σ.tr ++ digF 3 (valO σ.num t.o1) ++ [59] },true) w e w'):=fun W hW=>(dprint_fn W mp r n base nx pv tv st false σ B V (h.no hW) _ hv hsl (fun W2 hW2=>htab W2 (hW.trans hW2))).mono fun e w' hh=>⟨hh.1,⟨_,_,hh.2.1⟩,(frM_no hW).trans hh.2.2⟩
 unfold ptV
 obtain ⟨kind,place,num,box,src,o1,sign,o2,opn⟩:=t
 simp only [] at *
 generalize valO σ.num o1 = v at *
 generalize odB o1 = b1 at *
 generalize odI o1 = x1 at *
 generalize odB o2 = b2 at *
 generalize odI o2 = x2 at *
 have f0:((kind:Int) == 0) = false:=bF (by omega)
 have f1:((kind:Int) == 1) = true:=beq_iff_eq.2 (by omega)
 clear hk h ht htab
 go_enter func130,ntmps130
 go_upto_region 1 with fail
 obtain ⟨hFA,HPA⟩:=box_new w kind place num box src b1 x1 sign b2 x2 opn clo
 generalize w.alloc _ = W1 at hFA HPA ⊢
 generalize w.heap.size = q at *
 have c0:=HPA.out.c0
 have c5:=HPA.out.c5
 have c6:=HPA.out.c6
 go_wp2_with (first | (go_at_call 139;refine (HV.out _ hFA).mono ?_;rintro e w2 ⟨rfl,hF2⟩) | (go_at_call 138;refine (HP.out _ (hFA.trans hF2)).mono ?_;rintro e w3 ⟨rfl,hp⟩;have HH:Hid _:=hp;clear hp))
 go_end0
 exact ⟨rfl,HH.out⟩
theorem do_size (h:MM w mp r n base pv st σ nx false B V tv) (t:Pt) (clo:Nat) (ht:PtOk t) (hk:t.kind = 3) :
  Calls prog 130 #[.pointer (some ⟨mp,0,none⟩),ptV t clo] w fun e w'=>MS mp r n base pv st nx ({ σ with num:=upN σ.num t.num (σ.bx t.box).length },true) w e w':=by
 have HM:Hid _:=h
 have hn:t.num < 26:=ht.n
 have hbt:t.box < 26:=ht.b
 have hz:(σ.bx t.box).length < 1000:=by have:=h.ok.sz t.box;omega
 unfold ptV
 obtain ⟨kind,place,num,box,src,o1,sign,o2,opn⟩:=t
 simp only [] at *
 generalize odB o1 = b1 at *
 generalize odI o1 = x1 at *
 generalize odB o2 = b2 at *
 generalize odI o2 = x2 at *
 have f0:((kind:Int) == 0) = false:=bF (by omega)
 have f1:((kind:Int) == 1) = false:=bF (by omega)
 have f2:((kind:Int) == 2) = false:=bF (by omega)
 have f3:((kind:Int) == 3) = true:=beq_iff_eq.2 (by omega)
 clear hk h ht
 go_enter func130,ntmps130
 go_upto_region 1 with fail
 obtain ⟨hFA,HPA⟩:=box_new w kind place num box src b1 x1 sign b2 x2 opn clo
 generalize w.alloc _ = W1 at hFA HPA ⊢
 generalize w.heap.size = q at *
 have c0:=HPA.out.c0
 have c2:=HPA.out.c2
 have c3:=HPA.out.c3
 go_upto_region 10 with fail
 have HM3:Hid _:=HM.out.no hFA
 have cn:=HM3.out.m.cn num hn
 have cl:=HM3.out.m.cl box hbt
 have fz:=HM3.out.m.fz (4 + num)
 unfold mxOf at cl
 simp only [] at cl
 go_region
 all_goals
  go_wp2
  go_end0
  exact ⟨rfl,⟨_,_,_,(HM3.out.setNum hn hz).no ((Fr.refl _ _).drew)⟩,((frM_no hFA).trans (frM_one ((Fr.refl (OneB mp) W1).setCell (p:=⟨mp,4 + num,none⟩) (fun _=>rfl) _) HM.out.mb)).drew⟩
theorem do_end (h:MM w mp r n base pv st σ nx false B V tv) (t:Pt) (clo:Nat) (ht:PtOk t) (hk:t.kind = 7) :
  Calls prog 130 #[.pointer (some ⟨mp,0,none⟩),ptV t clo] w fun e w'=>MS mp r n base pv st nx ({ σ with bx:=upB σ.bx t.box [] },true) w e w':=by
 have HL:Hid (∀ W,Fr NoB w W → _):=fun W hW=>lose_any W mp r n base nx pv tv st false σ B V (h.no hW) t.box ht.b
 have HM:Hid _:=h
 unfold ptV
 obtain ⟨kind,place,num,box,src,o1,sign,o2,opn⟩:=t
 simp only [] at *
 generalize odB o1 = b1 at *
 generalize odI o1 = x1 at *
 generalize odB o2 = b2 at *
 generalize odI o2 = x2 at *
 have f0:((kind:Int) == 0) = false:=bF (by omega)
 have f1:((kind:Int) == 1) = false:=bF (by omega)
 have f2:((kind:Int) == 2) = false:=bF (by omega)
 have f3:((kind:Int) == 3) = false:=bF (by omega)
 have f4:((kind:Int) == 4) = false:=bF (by omega)
 have f5:((kind:Int) == 5) = false:=bF (by omega)
 have f6:((kind:Int) == 6) = false:=bF (by omega)
 have f7:((kind:Int) == 7) = true:=beq_iff_eq.2 (by omega)
 clear hk h ht
 go_enter func130,ntmps130
 go_upto_region 1 with fail
 obtain ⟨hFA,HPA⟩:=box_new w kind place num box src b1 x1 sign b2 x2 opn clo
 generalize w.alloc _ = W1 at hFA HPA ⊢
 generalize w.heap.size = q at *
 have c0:=HPA.out.c0
 have c3:=HPA.out.c3
 go_upto_region 18 with fail
 go_region_with (go_at_call 144;refine (HL.out _ (hFA.drew)).mono ?_;rintro e w3 ⟨rfl,hh⟩;have HH:Hid _:=hh;clear hh)
 all_goals
  go_wp2
  go_end0
  obtain ⟨⟨B',V',hM'⟩,hF'⟩:=HH.out
  exact ⟨rfl,⟨B',V',tv,hM'⟩,(frM_no (hFA.drew)).trans (frM_two hF' HM.out.mb HM.out.rb)⟩
end
end
end Go.Proofs.YthcjcjfgdgnljabGreatDoor
