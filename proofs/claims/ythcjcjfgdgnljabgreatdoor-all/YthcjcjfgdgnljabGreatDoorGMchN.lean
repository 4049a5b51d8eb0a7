import Derived.Test.YthcjcjfgdgnljabGreatDoorGMchE
set_option linter.unusedVariables false
set_option maxHeartbeats 4000000
set_option maxRecDepth 8000
open Go.Proofs.Tryz
namespace Go.Proofs.YthcjcjfgdgnljabGreatDoor
open Go.RowKit
section
def getB (t:Pt):Bool:=t.kind == 4 || (t.kind == 5 && t.box != t.src)
def stB (t:Pt):Bool:=!(t.kind == 7 || t.kind == 9 || t.kind == 10 || t.kind == 12)
section
variable (w:World) (mp r n base nx:Nat) (pv tv:Value) (st ov:Bool) (σ:St) (B V:Nat → Int)
theorem gets_fn (t:Pt) (clo:Nat):CR 116 #[ptV t clo] w (.bool (getB t)):=by
 unfold ptV getB
 obtain ⟨kind,place,num,box,src,o1,sign,o2,opn⟩:=t
 simp only []
 generalize odB o1 = b1 at *
 generalize odI o1 = x1 at *
 generalize odB o2 = b2 at *
 generalize odI o2 = x2 at *
 by_cases h4:kind = 4
 ·subst h4
  go_enter func116,ntmps116
  go_wp2
  go_ret
  exact ⟨rfl,(Fr.refl _ _).alloc _⟩
 ·have e4:(kind == 4) = false:=beq_eq_false_iff_ne.2 h4
  have f4:((kind:Int) == 4) = false:=bF (by omega)
  rw [e4]
  by_cases h5:kind = 5
  ·subst h5
   have eb:((box:Int) != (src:Int)) = (box != src):=by
    by_cases q:box = src
    ·subst q;rw [bne_self_eq_false,bne_self_eq_false]
    ·rw [bne_iff_ne.2 q,bne_iff_ne.2 (fun e=>q (by omega))]
   generalize (box != src) = bb at *
   clear e4 h4 f4
   go_enter func116,ntmps116
   go_wp2
   go_ret
   exact ⟨by first | rfl | (cases bb <;> rfl),(Fr.refl _ _).alloc _⟩
  ·have e5:(kind == 5) = false:=beq_eq_false_iff_ne.2 h5
   have f5:((kind:Int) == 5) = false:=bF (by omega)
   rw [e5]
   clear e4 e5 h4 h5
   go_enter func116,ntmps116
   go_wp2
   go_ret
   exact ⟨rfl,(Fr.refl _ _).alloc _⟩
theorem isStep_fn (t:Pt) (clo:Nat):CR 127 #[ptV t clo] w (.bool (stB t)):=by
 unfold ptV stB
 obtain ⟨kind,place,num,box,src,o1,sign,o2,opn⟩:=t
 simp only []
 generalize odB o1 = b1 at *
 generalize odI o1 = x1 at *
 generalize odB o2 = b2 at *
 generalize odI o2 = x2 at *
 by_cases h:kind = 7 ∨ kind = 9 ∨ kind = 10 ∨ kind = 12
 ·rcases h with rfl | rfl | rfl | rfl <;>
  ·go_enter func127,ntmps127
   go_wp2
   go_ret
   exact ⟨rfl,(Fr.refl _ _).alloc _⟩
 ·have e7:(kind == 7) = false:=bF (by omega)
  have e9:(kind == 9) = false:=bF (by omega)
  have e10:(kind == 10) = false:=bF (by omega)
  have e12:(kind == 12) = false:=bF (by omega)
  rw [e7,e9,e10,e12]
  have f7:((kind:Int) == 7) = false:=bF (by omega)
  have f9:((kind:Int) == 9) = false:=bF (by omega)
  have f10:((kind:Int) == 10) = false:=bF (by omega)
  have f12:((kind:Int) == 12) = false:=bF (by omega)
  clear h e7 e9 e10 e12
  go_enter func127,ntmps127
  go_wp2
  go_ret
  exact ⟨rfl,(Fr.refl _ _).alloc _⟩
def brkB (t:Pt) (σ:St):Bool:=(useB t && decide (σ.bx (useBx t) = [])) || (getB t && decide (σ.bx t.box ≠ []))
theorem breaks_fn (h:MM w mp r n base pv st σ nx ov B V tv) (t:Pt) (clo:Nat) (ht:PtOk t) :
  CR 129 #[.pointer (some ⟨mp,0,none⟩),ptV t clo] w (.bool (brkB t σ)):=by
 have hub:=useBx_lt ht
 obtain ⟨eu,heu⟩:∃ b,decide (σ.bx (useBx t) = []) = b:=⟨_,rfl⟩
 obtain ⟨fb,hfb⟩:∃ b,decide (σ.bx t.box ≠ []) = b:=⟨_,rfl⟩
 obtain ⟨gb,hgb⟩:∃ b,getB t = b:=⟨_,rfl⟩
 obtain ⟨uB,huB⟩:∃ b,useB t = b:=⟨_,rfl⟩
 obtain ⟨ub,hub2⟩:∃ b,useBx t = b:=⟨_,rfl⟩
 obtain ⟨pl,hpl⟩:∃ b,usePl t = b:=⟨_,rfl⟩
 have HG:Hid (∀ W,CR 116 #[ptV t clo] W (.bool gb)):=fun W=>by
  have:=gets_fn W t clo
  rwa [hgb] at this
 have HFu:Hid (∀ W,Fr NoB w W → CS 136 #[.pointer (some ⟨mp,30,none⟩),.int .i64 ub] W (.bool (!eu))):=fun W hW=>by
  have:=full_fn W mp r n base nx pv tv st ov σ B V (h.no hW) (useBx t) hub
  have e:decide (σ.bx (useBx t) ≠ []) = !eu:=by rw [← heu];simp
  rwa [e,hub2] at this
 have HFb:Hid (∀ W,Fr NoB w W → CS 136 #[.pointer (some ⟨mp,30,none⟩),.int .i64 t.box] W (.bool fb)):=fun W hW=>by
  have:=full_fn W mp r n base nx pv tv st ov σ B V (h.no hW) t.box ht.b
  rwa [hfb] at this
 have HUt:Hid (uB = true → ∀ W,CR 68 #[ptV t clo] W (.tuple #[.int .i64 ub,.int .i64 pl,.bool true])):=fun q W=>by
  have:=(usedPt_fn W t.kind t.place t.num t.box t.src (odI t.o1) t.sign (odI t.o2) t.opn clo (odB t.o1) (odB t.o2) t.o1 t.o2 ht.p).1 (huB.trans q)
  rw [← hub2,← hpl]
  exact this
 have HUf:Hid (uB = false → ∀ W,CR 68 #[ptV t clo] W (.tuple #[.int .i64 0,.int .i64 0,.bool false])):=fun q W=>(usedPt_fn W t.kind t.place t.num t.box t.src (odI t.o1) t.sign (odI t.o2) t.opn clo (odB t.o1) (odB t.o2) t.o1 t.o2 ht.p).2 (huB.trans q)
 unfold brkB
 rw [huB,heu,hgb,hfb]
 clear h heu hfb hgb huB hpl
 unfold ptV at HG HUt HUf ⊢
 have hbt:t.box < 26:=ht.b
 rw [hub2] at hub
 clear hub2 ht
 obtain ⟨kind,place,num,box,src,o1,sign,o2,opn⟩:=t
 simp only [] at *
 generalize odB o1 = b1 at *
 generalize odI o1 = x1 at *
 generalize odB o2 = b2 at *
 generalize odI o2 = x2 at *
 cases uB
 ·have HU:Hid _:=HUf.out rfl
  clear HUt HUf
  cases gb
  ·go_enter func129,ntmps129
   go_upto_region 1 with fail
   obtain ⟨hFA,HPA⟩:=box_new w kind place num box src b1 x1 sign b2 x2 opn clo
   generalize w.alloc _ = W1 at hFA HPA ⊢
   generalize w.heap.size = q at *
   have c0:=HPA.out.c0
   have c1:=HPA.out.c1
   have c2:=HPA.out.c2
   have c3:=HPA.out.c3
   have c4:=HPA.out.c4
   have c5:=HPA.out.c5
   have c6:=HPA.out.c6
   have c7:=HPA.out.c7
   have c8:=HPA.out.c8
   have c9:=HPA.out.c9
   have c10:=HPA.out.c10
   have c11:=HPA.out.c11
   go_upto_region 4 with (go_at_call 68;refine (HU.out _).mono ?_;rintro e w2 ⟨rfl,hF2⟩;have d0:=hF2.cell_some c0 id;have d1:=hF2.cell_some c1 id;have d2:=hF2.cell_some c2 id;have d3:=hF2.cell_some c3 id;have d4:=hF2.cell_some c4 id;have d5:=hF2.cell_some c5 id;have d6:=hF2.cell_some c6 id;have d7:=hF2.cell_some c7 id;have d8:=hF2.cell_some c8 id;have d9:=hF2.cell_some c9 id;have d10:=hF2.cell_some c10 id;have d11:=hF2.cell_some c11 id)
   first | (go_region_with (go_at_call 116;refine (HG.out _).mono ?_;rintro e w3 ⟨rfl,hF3⟩)) | skip
   all_goals
    go_wp2
    go_ret
    exact ⟨rfl,(hFA.trans hF2).trans (((Fr.refl _ _).drew).trans hF3)⟩
  ·go_enter func129,ntmps129
   go_upto_region 1 with fail
   obtain ⟨hFA,HPA⟩:=box_new w kind place num box src b1 x1 sign b2 x2 opn clo
   generalize w.alloc _ = W1 at hFA HPA ⊢
   generalize w.heap.size = q at *
   have c0:=HPA.out.c0
   have c1:=HPA.out.c1
   have c2:=HPA.out.c2
   have c3:=HPA.out.c3
   have c4:=HPA.out.c4
   have c5:=HPA.out.c5
   have c6:=HPA.out.c6
   have c7:=HPA.out.c7
   have c8:=HPA.out.c8
   have c9:=HPA.out.c9
   have c10:=HPA.out.c10
   have c11:=HPA.out.c11
   go_upto_region 4 with (go_at_call 68;refine (HU.out _).mono ?_;rintro e w2 ⟨rfl,hF2⟩;have d0:=hF2.cell_some c0 id;have d1:=hF2.cell_some c1 id;have d2:=hF2.cell_some c2 id;have d3:=hF2.cell_some c3 id;have d4:=hF2.cell_some c4 id;have d5:=hF2.cell_some c5 id;have d6:=hF2.cell_some c6 id;have d7:=hF2.cell_some c7 id;have d8:=hF2.cell_some c8 id;have d9:=hF2.cell_some c9 id;have d10:=hF2.cell_some c10 id;have d11:=hF2.cell_some c11 id)
   go_region_with (first | (go_at_call 116;refine (HG.out _).mono ?_;rintro e w3 ⟨rfl,hF3⟩;have d3:=(((Fr.refl NoB w2).drew).trans hF3).cell_some d3 id) | (go_at_call 136;refine (HFb.out _ ((hFA.trans hF2).trans (((Fr.refl NoB w2).drew).trans hF3))).mono ?_;rintro e w4 ⟨rfl,hw⟩;have hw2:=hw.symm;clear hw;subst hw2))
   all_goals
    go_wp2
    go_ret
    exact ⟨rfl,(hFA.trans hF2).trans (((Fr.refl _ _).drew).trans hF3)⟩
 ·have HU:Hid _:=HUt.out rfl
  clear HUt HUf
  cases eu
  ·cases gb
   ·go_enter func129,ntmps129
    go_upto_region 1 with fail
    obtain ⟨hFA,HPA⟩:=box_new w kind place num box src b1 x1 sign b2 x2 opn clo
    generalize w.alloc _ = W1 at hFA HPA ⊢
    generalize w.heap.size = q at *
    have c0:=HPA.out.c0
    have c1:=HPA.out.c1
    have c2:=HPA.out.c2
    have c3:=HPA.out.c3
    have c4:=HPA.out.c4
    have c5:=HPA.out.c5
    have c6:=HPA.out.c6
    have c7:=HPA.out.c7
    have c8:=HPA.out.c8
    have c9:=HPA.out.c9
    have c10:=HPA.out.c10
    have c11:=HPA.out.c11
    go_upto_region 4 with (first | (go_at_call 68;refine (HU.out _).mono ?_;rintro e w2 ⟨rfl,hF2⟩;have d0:=hF2.cell_some c0 id;have d1:=hF2.cell_some c1 id;have d2:=hF2.cell_some c2 id;have d3:=hF2.cell_some c3 id;have d4:=hF2.cell_some c4 id;have d5:=hF2.cell_some c5 id;have d6:=hF2.cell_some c6 id;have d7:=hF2.cell_some c7 id;have d8:=hF2.cell_some c8 id;have d9:=hF2.cell_some c9 id;have d10:=hF2.cell_some c10 id;have d11:=hF2.cell_some c11 id) | (go_at_call 136;refine sameC (HFu.out _ (hFA.trans hF2)) ?_))
    first | (go_region_with (go_at_call 116;refine (HG.out _).mono ?_;rintro e w3 ⟨rfl,hF3⟩)) | skip
    all_goals
     go_wp2
     go_ret
     exact ⟨rfl,(hFA.trans hF2).trans (((Fr.refl _ _).drew).trans hF3)⟩
   ·go_enter func129,ntmps129
    go_upto_region 1 with fail
    obtain ⟨hFA,HPA⟩:=box_new w kind place num box src b1 x1 sign b2 x2 opn clo
    generalize w.alloc _ = W1 at hFA HPA ⊢
    generalize w.heap.size = q at *
    have c0:=HPA.out.c0
    have c1:=HPA.out.c1
    have c2:=HPA.out.c2
    have c3:=HPA.out.c3
    have c4:=HPA.out.c4
    have c5:=HPA.out.c5
    have c6:=HPA.out.c6
    have c7:=HPA.out.c7
    have c8:=HPA.out.c8
    have c9:=HPA.out.c9
    have c10:=HPA.out.c10
    have c11:=HPA.out.c11
    go_upto_region 4 with (first | (go_at_call 68;refine (HU.out _).mono ?_;rintro e w2 ⟨rfl,hF2⟩;have d0:=hF2.cell_some c0 id;have d1:=hF2.cell_some c1 id;have d2:=hF2.cell_some c2 id;have d3:=hF2.cell_some c3 id;have d4:=hF2.cell_some c4 id;have d5:=hF2.cell_some c5 id;have d6:=hF2.cell_some c6 id;have d7:=hF2.cell_some c7 id;have d8:=hF2.cell_some c8 id;have d9:=hF2.cell_some c9 id;have d10:=hF2.cell_some c10 id;have d11:=hF2.cell_some c11 id) | (go_at_call 136;refine sameC (HFu.out _ (hFA.trans hF2)) ?_))
    go_region_with (first | (go_at_call 116;refine (HG.out _).mono ?_;rintro e w3 ⟨rfl,hF3⟩;have d3:=(((Fr.refl NoB w2).drew).trans hF3).cell_some d3 id) | (go_at_call 136;refine (HFb.out _ ((hFA.trans hF2).trans (((Fr.refl NoB w2).drew).trans hF3))).mono ?_;rintro e w4 ⟨rfl,hw⟩;have hw2:=hw.symm;clear hw;subst hw2))
    all_goals
     go_wp2
     go_ret
     exact ⟨rfl,(hFA.trans hF2).trans (((Fr.refl _ _).drew).trans hF3)⟩
  ·go_enter func129,ntmps129
   go_upto_region 1 with fail
   obtain ⟨hFA,HPA⟩:=box_new w kind place num box src b1 x1 sign b2 x2 opn clo
   generalize w.alloc _ = W1 at hFA HPA ⊢
   generalize w.heap.size = q at *
   have c0:=HPA.out.c0
   have c1:=HPA.out.c1
   have c2:=HPA.out.c2
   have c3:=HPA.out.c3
   have c4:=HPA.out.c4
   have c5:=HPA.out.c5
   have c6:=HPA.out.c6
   have c7:=HPA.out.c7
   have c8:=HPA.out.c8
   have c9:=HPA.out.c9
   have c10:=HPA.out.c10
   have c11:=HPA.out.c11
   go_wp2_with (first | (go_at_call 68;refine (HU.out _).mono ?_;rintro e w2 ⟨rfl,hF2⟩) | (go_at_call 136;refine sameC (HFu.out _ (hFA.trans hF2)) ?_))
   go_ret
   exact ⟨rfl,hFA.trans hF2⟩
end
end
section
section
variable (w:World) (mp r n base nx:Nat) (pv tv:Value) (st ov:Bool) (σ:St) (B V:Nat → Int)
theorem dmake_trap (h:MM w mp r n base pv st σ nx false B V tv) (t:Pt) (clo:Nat) (ht:PtOk t) (hl:valO σ.num t.o1 < 1 ∨ 64 < valO σ.num t.o1) :
  Calls prog 141 #[.pointer (some ⟨mp,0,none⟩),ptV t clo] w fun e w'=>MS mp r n base pv st nx (ends σ 1) w e w':=by
 have HV:Hid (∀ W,Fr NoB w W → _):=fun W hW=>mvalue_fn W mp r n base nx pv tv st false σ B V (h.no hW) t.o1 ht.o1
 have HS:Hid (∀ W,Fr NoB w W → Calls prog 128 #[.pointer (some ⟨mp,0,none⟩),.int .i64 1] W fun e w'=>MS mp r n base pv st nx (ends σ 1) w e w'):=fun W hW=>(stop_fn W mp r n base nx pv tv st false σ B V (h.no hW) 1).mono fun e w' hh=>⟨hh.1,⟨_,_,_,hh.2.1⟩,(frM_no hW).trans hh.2.2⟩
 unfold ptV
 obtain ⟨kind,place,num,box,src,o1,sign,o2,opn⟩:=t
 simp only [] at *
 generalize valO σ.num o1 = v at *
 generalize odB o1 = b1 at *
 generalize odI o1 = x1 at *
 generalize odB o2 = b2 at *
 generalize odI o2 = x2 at *
 clear h ht
 by_cases hv:v < 1
 ·have hd1:decide ((v:Int) < 1) = true:=by simp;omega
  clear hl hv
  go_enter func141,ntmps141
  go_upto_region 1 with fail
  obtain ⟨hFA,HPA⟩:=box_new w kind place num box src b1 x1 sign b2 x2 opn clo
  generalize w.alloc _ = W1 at hFA HPA ⊢
  generalize w.heap.size = q at *
  have c5:=HPA.out.c5
  have c6:=HPA.out.c6
  go_wp2_with (first | (go_at_call 139;refine (HV.out _ hFA).mono ?_;rintro e w2 ⟨rfl,hF2⟩) | (go_at_call 128;refine (HS.out _ (hFA.trans hF2)).mono ?_;rintro e w4 ⟨rfl,hh⟩;have HH:Hid _:=hh;clear hh))
  go_end0
  exact ⟨rfl,HH.out⟩
 ·have hd1:decide ((v:Int) < 1) = false:=by simp;omega
  have hd2:decide ((64:Int) < (v:Int)) = true:=by simp;omega
  clear hl hv
  go_enter func141,ntmps141
  go_upto_region 1 with fail
  obtain ⟨hFA,HPA⟩:=box_new w kind place num box src b1 x1 sign b2 x2 opn clo
  generalize w.alloc _ = W1 at hFA HPA ⊢
  generalize w.heap.size = q at *
  have c5:=HPA.out.c5
  have c6:=HPA.out.c6
  go_wp2_with (first | (go_at_call 139;refine (HV.out _ hFA).mono ?_;rintro e w2 ⟨rfl,hF2⟩) | (go_at_call 128;refine (HS.out _ (hFA.trans hF2)).mono ?_;rintro e w4 ⟨rfl,hh⟩;have HH:Hid _:=hh;clear hh))
  go_end0
  exact ⟨rfl,HH.out⟩
theorem dmake_none (h:MM w mp r n base pv st σ nx false B V tv) (t:Pt) (clo:Nat) (ht:PtOk t) (hv1:1 ≤ valO σ.num t.o1) (hv2:valO σ.num t.o1 ≤ 64) (ha:allocS n { σ with bx:=upB σ.bx t.box [] } (valO σ.num t.o1) = none) :
  Calls prog 141 #[.pointer (some ⟨mp,0,none⟩),ptV t clo] w fun e w'=>MS mp r n base pv st nx (ends { σ with bx:=upB σ.bx t.box [] } 3) w e w':=by
 have HV:Hid (∀ W,Fr NoB w W → _):=fun W hW=>mvalue_fn W mp r n base nx pv tv st false σ B V (h.no hW) t.o1 ht.o1
 have HL:Hid (∀ W,Fr NoB w W → _):=fun W hW=>lose_any W mp r n base nx pv tv st false σ B V (h.no hW) t.box ht.b
 have HG:Hid (∀ W B' V',MM W mp r n base pv st { σ with bx:=upB σ.bx t.box [] } nx false B' V' tv → _):=fun W B' V' hW=>get_no W mp r n base nx pv tv st false { σ with bx:=upB σ.bx t.box [] } B' V' hW t.box (valO σ.num t.o1) hv1 hv2 ha
 have HS:Hid (∀ W B' V',MM W mp r n base pv st { σ with bx:=upB σ.bx t.box [] } nx false B' V' tv → Fr (FrM base) w W → Calls prog 128 #[.pointer (some ⟨mp,0,none⟩),.int .i64 3] W fun e w'=>MS mp r n base pv st nx (ends { σ with bx:=upB σ.bx t.box [] } 3) w e w'):=fun W B' V' hM hW=>(stop_fn W mp r n base nx pv tv st false _ B' V' hM 3).mono fun e w' hh=>⟨hh.1,⟨_,_,_,hh.2.1⟩,hW.trans hh.2.2⟩
 have hqm:w.heap.size ≠ mp:=by have:=h.m.lt;omega
 have hqr:w.heap.size ≠ r:=by have:=h.h.rl;omega
 have HM:Hid _:=h
 unfold ptV
 obtain ⟨kind,place,num,box,src,o1,sign,o2,opn⟩:=t
 simp only [] at *
 generalize valO σ.num o1 = v at *
 generalize odB o1 = b1 at *
 generalize odI o1 = x1 at *
 generalize odB o2 = b2 at *
 generalize odI o2 = x2 at *
 have hd1:decide ((v:Int) < 1) = false:=by simp;omega
 have hd2:decide ((64:Int) < (v:Int)) = false:=by simp;omega
 generalize ({ σ with bx:=upB σ.bx box [] }:St) = τ at *
 clear h ht ha hv1 hv2
 go_enter func141,ntmps141
 go_upto_region 1 with fail
 obtain ⟨hFA,HPA⟩:=box_new w kind place num box src b1 x1 sign b2 x2 opn clo
 generalize w.alloc _ = W1 at hFA HPA ⊢
 generalize w.heap.size = q at *
 have c3:=HPA.out.c3
 have c5:=HPA.out.c5
 have c6:=HPA.out.c6
 go_upto_region 4 with (go_at_call 139;refine (HV.out _ hFA).mono ?_;rintro e w2 ⟨rfl,hF2⟩;have d3:=hF2.cell_some c3 id)
 go_region_with (go_at_call 144;refine (HL.out _ ((hFA.trans hF2).drew)).mono ?_;rintro e w3 ⟨rfl,⟨B',V',hM3⟩,hF3⟩)
 have e3:=((((Fr.refl _ w2).drew).trans hF3)).cell_some d3 (fun q=>by rcases q with q | q;exact hqm q;exact hqr q)
 have HM3:Hid _:=hM3
 have hFX:Fr (FrM base) w w3:=(frM_no ((hFA.trans hF2).drew)).trans (frM_two hF3 HM.out.mb HM.out.rb)
 clear hM3
 go_upto_region 5 with fail
 go_region_with (go_at_call 149;refine (HG.out _ B' V' (HM3.out.no ((Fr.refl _ w3).drew))).mono ?_;rintro e w4 ⟨rfl,hF4⟩)
 go_wp2_with (go_at_call 128;refine (HS.out _ B' V' (HM3.out.no (((Fr.refl _ w3).drew).trans hF4)) (hFX.trans (frM_no (((Fr.refl _ w3).drew).trans hF4)))).mono ?_;rintro e w5 ⟨rfl,hh⟩;have HH:Hid _:=hh;clear hh)
 go_end0
 exact ⟨rfl,HH.out⟩
theorem dmake_yes (h:MM w mp r n base pv st σ nx false B V tv) (t:Pt) (clo a:Nat) (ht:PtOk t) (hv1:1 ≤ valO σ.num t.o1) (hv2:valO σ.num t.o1 ≤ 64) (ha:allocS n { σ with bx:=upB σ.bx t.box [] } (valO σ.num t.o1) = some a) :
  Calls prog 141 #[.pointer (some ⟨mp,0,none⟩),ptV t clo] w fun e w'=>MS mp r n base pv st nx ({ σ with bx:=upB σ.bx t.box (List.replicate (valO σ.num t.o1) 0),at_:=upN σ.at_ t.box a,peak:=max σ.peak (a + valO σ.num t.o1) },true) w e w':=by
 have HV:Hid (∀ W,Fr NoB w W → _):=fun W hW=>mvalue_fn W mp r n base nx pv tv st false σ B V (h.no hW) t.o1 ht.o1
 have HL:Hid (∀ W,Fr NoB w W → _):=fun W hW=>lose_any W mp r n base nx pv tv st false σ B V (h.no hW) t.box ht.b
 have HG:Hid (∀ W B' V',MM W mp r n base pv st { σ with bx:=upB σ.bx t.box [] } nx false B' V' tv → _):=fun W B' V' hW=>get_yes W mp r n base nx pv tv st false { σ with bx:=upB σ.bx t.box [] } B' V' hW t.box (valO σ.num t.o1) a ht.b (upB_at _ _ _) hv1 hv2 ha
 simp only [upB_up] at HG
 have hqm:w.heap.size ≠ mp:=by have:=h.m.lt;omega
 have hqr:w.heap.size ≠ r:=by have:=h.h.rl;omega
 have HM:Hid _:=h
 unfold ptV
 obtain ⟨kind,place,num,box,src,o1,sign,o2,opn⟩:=t
 simp only [] at *
 generalize valO σ.num o1 = v at *
 generalize odB o1 = b1 at *
 generalize odI o1 = x1 at *
 generalize odB o2 = b2 at *
 generalize odI o2 = x2 at *
 have hd1:decide ((v:Int) < 1) = false:=by simp;omega
 have hd2:decide ((64:Int) < (v:Int)) = false:=by simp;omega
 generalize ({ σ with bx:=upB σ.bx box (List.replicate v 0),at_:=upN σ.at_ box a,peak:=max σ.peak (a + v) }:St) = τ2 at *
 generalize ({ σ with bx:=upB σ.bx box [] }:St) = τ at *
 clear h ht ha hv1 hv2
 go_enter func141,ntmps141
 go_upto_region 1 with fail
 obtain ⟨hFA,HPA⟩:=box_new w kind place num box src b1 x1 sign b2 x2 opn clo
 generalize w.alloc _ = W1 at hFA HPA ⊢
 generalize w.heap.size = q at *
 have c3:=HPA.out.c3
 have c5:=HPA.out.c5
 have c6:=HPA.out.c6
 go_upto_region 4 with (go_at_call 139;refine (HV.out _ hFA).mono ?_;rintro e w2 ⟨rfl,hF2⟩;have d3:=hF2.cell_some c3 id)
 go_region_with (go_at_call 144;refine (HL.out _ ((hFA.trans hF2).drew)).mono ?_;rintro e w3 ⟨rfl,⟨B',V',hM3⟩,hF3⟩)
 have e3:=((((Fr.refl _ w2).drew).trans hF3)).cell_some d3 (fun q=>by rcases q with q | q;exact hqm q;exact hqr q)
 have HM3:Hid _:=hM3
 have hFX:Fr (FrM base) w w3:=(frM_no ((hFA.trans hF2).drew)).trans (frM_two hF3 HM.out.mb HM.out.rb)
 clear hM3
 go_upto_region 5 with fail
 go_region_with (go_at_call 149;refine (HG.out _ B' V' (HM3.out.no ((Fr.refl _ w3).drew))).mono ?_;rintro e w4 ⟨rfl,hM4,hF4⟩;have HH:Hid _:=And.intro hM4 hF4;clear hM4 hF4)
 go_wp2
 go_end0
 obtain ⟨⟨B4,V4,hM4⟩,hF4⟩:=HH.out
 exact ⟨rfl,⟨B4,V4,tv,hM4⟩,hFX.trans ((frM_no ((Fr.refl _ w3).drew)).trans (frM_two hF4 HM.out.mb HM.out.rb))⟩
end
end
section
def sgOk (c:Nat):Prop:=c = 43 ∨ c = 45 ∨ c = 42 ∨ c = 47 ∨ c = 60
def recN (c x y:Nat):Option Nat:=if c = 0 then some x else binN c x y
section
variable (w:World) (mp r n base nx:Nat) (pv tv:Value) (st ov:Bool) (σ:St) (B V:Nat → Int)
theorem reckoned_fn (c x y:Nat) (hx:x < 1000) (hy:y < 1000) (hc:c = 0 ∨ sgOk c) :
  CS 146 #[.int .i64 x,.int .u8 c,.int .i64 y] w (.tuple #[.int .i64 ((recN c x y).getD 0:Nat),.bool (recN c x y).isSome]):=by
 rcases hc with rfl | rfl | rfl | rfl | rfl | rfl
 ·rw [show recN 0 x y = some x from rfl]
  go_enter func146,ntmps146
  go_wp2
  go_ret2
  exact ⟨rfl,rfl⟩
 ·rw [show recN 43 x y = some ((x + y) % 1000) from rfl]
  have e:((x:Int) + (y:Int)).tmod 1000 = (((x + y) % 1000:Nat):Int):=by rw [Int.tmod_eq_emod_of_nonneg (by omega)];omega
  show Calls _ _ _ _ fun e w'=>e = .returned (.tuple #[.int .i64 (((x + y) % 1000:Nat):Int),.bool true]) ∧ w' = w
  rw [← e]
  clear e
  go_enter func146,ntmps146
  go_wp2
  go_ret2
  exact ⟨rfl,rfl⟩
 ·rw [show recN 45 x y = some ((x + 1000 - y) % 1000) from rfl]
  have e:((x:Int) - (y:Int) + 1000) % 1000 = (((x + 1000 - y) % 1000:Nat):Int):=by omega
  show Calls _ _ _ _ fun e w'=>e = .returned (.tuple #[.int .i64 (((x + 1000 - y) % 1000:Nat):Int),.bool true]) ∧ w' = w
  rw [← e]
  clear e
  go_enter func146,ntmps146
  go_wp2
  go_ret2
  exact ⟨rfl,rfl⟩
 ·rw [show recN 42 x y = some (x * y % 1000) from rfl]
  have hb:(x:Int) * (y:Int) ≤ 1000000:=by
   have:x * y ≤ 1000 * 1000:=Nat.mul_le_mul (by omega) (by omega)
   have h2:((x * y:Nat):Int) ≤ 1000000:=by omega
   simpa using h2
  have hb0:0 ≤ (x:Int) * (y:Int):=by
   have h2:(0:Int) ≤ ((x * y:Nat):Int):=by omega
   simpa using h2
  have e:((x:Int) * (y:Int)).tmod 1000 = ((x * y % 1000:Nat):Int):=by rw [Int.tmod_eq_emod_of_nonneg hb0];simp
  show Calls _ _ _ _ fun e w'=>e = .returned (.tuple #[.int .i64 ((x * y % 1000:Nat):Int),.bool true]) ∧ w' = w
  rw [← e]
  clear e
  go_enter func146,ntmps146
  go_wp2
  go_ret2
  exact ⟨rfl,rfl⟩
 ·by_cases h0:y = 0
  ·subst h0
   rw [show recN 47 x 0 = none from rfl]
   show Calls _ _ _ _ fun e w'=>e = .returned (.tuple #[.int .i64 0,.bool false]) ∧ w' = w
   go_enter func146,ntmps146
   go_wp2
   go_ret2
   exact ⟨rfl,rfl⟩
  ·rw [show recN 47 x y = some (x / y) by unfold recN binN;simp [h0]]
   have y0:((y:Int) == 0) = false:=bF (by omega)
   have e:wrap64 ((x:Int) / (y:Int)) = ((x / y:Nat):Int):=by
    have h1:((x / y:Nat):Int) = (x:Int) / (y:Int):=by simp
    have h2:x / y ≤ x:=Nat.div_le_self _ _
    rw [← h1]
    generalize x / y = q at *
    simp [wrap64]
    omega
   show Calls _ _ _ _ fun e w'=>e = .returned (.tuple #[.int .i64 ((x / y:Nat):Int),.bool true]) ∧ w' = w
   rw [← e]
   clear e
   go_enter func146,ntmps146
   go_wp2
   go_ret2
   exact ⟨rfl,rfl⟩
 ·by_cases h0:x < y
  ·rw [show recN 60 x y = some 1 by unfold recN binN;simp [h0]]
   have y0:decide (x < y) = true:=by simp;omega
   show Calls _ _ _ _ fun e w'=>e = .returned (.tuple #[.int .i64 1,.bool true]) ∧ w' = w
   clear h0
   go_enter func146,ntmps146
   go_wp2
   go_ret2
   exact ⟨rfl,rfl⟩
  ·rw [show recN 60 x y = some 0 by unfold recN binN;simp [h0]]
   have y0:decide (x < y) = false:=by simp;omega
   show Calls _ _ _ _ fun e w'=>e = .returned (.tuple #[.int .i64 0,.bool true]) ∧ w' = w
   clear h0
   go_enter func146,ntmps146
   go_wp2
   go_ret2
   exact ⟨rfl,rfl⟩
theorem rec_ok {c x y z:Nat} (hx:x < 1000) (h:recN c x y = some z):z < 1000:=by
 unfold recN at h
 split at h
 ·cases h;exact hx
 ·exact bin_ok hx h
theorem reckon_no (h:MM w mp r n base pv st σ nx false B V tv) (t:Pt) (clo:Nat) (ht:PtOk t) (hc:t.sign = 0 ∨ sgOk t.sign) (hl:recN t.sign (valO σ.num t.o1) (valO σ.num t.o2) = none) :
  Calls prog 137 #[.pointer (some ⟨mp,0,none⟩),ptV t clo] w fun e w'=>MS mp r n base pv st nx (ends σ 1) w e w':=by
 have hv1:=val_lt σ h.ok ht.o1
 have hv2:=val_lt σ h.ok ht.o2
 have HV1:Hid (∀ W,Fr NoB w W → _):=fun W hW=>mvalue_fn W mp r n base nx pv tv st false σ B V (h.no hW) t.o1 ht.o1
 have HV2:Hid (∀ W,Fr NoB w W → _):=fun W hW=>mvalue_fn W mp r n base nx pv tv st false σ B V (h.no hW) t.o2 ht.o2
 have HR:Hid (∀ W,CS 146 #[.int .i64 (valO σ.num t.o1:Int),.int .u8 t.sign,.int .i64 (valO σ.num t.o2:Int)] W (.tuple #[.int .i64 0,.bool false])):=fun W=>by
  have:=reckoned_fn W t.sign _ _ hv1 hv2 hc
  rwa [hl] at this
 have HS:Hid (∀ W,Fr NoB w W → Calls prog 128 #[.pointer (some ⟨mp,0,none⟩),.int .i64 1] W fun e w'=>MS mp r n base pv st nx (ends σ 1) w e w'):=fun W hW=>(stop_fn W mp r n base nx pv tv st false σ B V (h.no hW) 1).mono fun e w' hh=>⟨hh.1,⟨_,_,_,hh.2.1⟩,(frM_no hW).trans hh.2.2⟩
 unfold ptV
 obtain ⟨kind,place,num,box,src,o1,sign,o2,opn⟩:=t
 simp only [] at *
 generalize valO σ.num o1 = v at *
 generalize valO σ.num o2 = v2 at *
 generalize odB o1 = b1 at *
 generalize odI o1 = x1 at *
 generalize odB o2 = b2 at *
 generalize odI o2 = x2 at *
 clear h ht hl hc
 go_enter func137,ntmps137
 go_upto_region 1 with fail
 obtain ⟨hFA,HPA⟩:=box_new w kind place num box src b1 x1 sign b2 x2 opn clo
 generalize w.alloc _ = W1 at hFA HPA ⊢
 generalize w.heap.size = q at *
 have c5:=HPA.out.c5
 have c6:=HPA.out.c6
 have c7:=HPA.out.c7
 have c8:=HPA.out.c8
 have c9:=HPA.out.c9
 go_wp2_with (first | ((fail_if_success (have:=hF2));go_at_call 139;refine (HV1.out _ hFA).mono ?_;rintro e w2 ⟨rfl,hF2⟩;have d7:=hF2.cell_some c7 id;have d8:=hF2.cell_some c8 id;have d9:=hF2.cell_some c9 id) | (go_at_call 139;refine (HV2.out _ (hFA.trans hF2)).mono ?_;rintro e w3 ⟨rfl,hF3⟩;have e7:=hF3.cell_some d7 id) | (go_at_call 146;refine sameC (HR.out _) ?_) | (go_at_call 128;refine (HS.out _ ((hFA.trans hF2).trans hF3)).mono ?_;rintro e w4 ⟨rfl,hh⟩;have HH:Hid _:=hh;clear hh))
 go_end0
 exact ⟨rfl,HH.out⟩
theorem reckon_yes (h:MM w mp r n base pv st σ nx false B V tv) (t:Pt) (clo z:Nat) (ht:PtOk t) (hc:t.sign = 0 ∨ sgOk t.sign) (hl:recN t.sign (valO σ.num t.o1) (valO σ.num t.o2) = some z) :
  Calls prog 137 #[.pointer (some ⟨mp,0,none⟩),ptV t clo] w fun e w'=>MS mp r n base pv st nx ({ σ with num:=upN σ.num t.num z },true) w e w':=by
 have hv1:=val_lt σ h.ok ht.o1
 have hv2:=val_lt σ h.ok ht.o2
 have hz:=rec_ok hv1 hl
 have HV1:Hid (∀ W,Fr NoB w W → _):=fun W hW=>mvalue_fn W mp r n base nx pv tv st false σ B V (h.no hW) t.o1 ht.o1
 have HV2:Hid (∀ W,Fr NoB w W → _):=fun W hW=>mvalue_fn W mp r n base nx pv tv st false σ B V (h.no hW) t.o2 ht.o2
 have HR:Hid (∀ W,CS 146 #[.int .i64 (valO σ.num t.o1:Int),.int .u8 t.sign,.int .i64 (valO σ.num t.o2:Int)] W (.tuple #[.int .i64 z,.bool true])):=fun W=>by
  have:=reckoned_fn W t.sign _ _ hv1 hv2 hc
  rwa [hl] at this
 have HM:Hid _:=h
 have hn:t.num < 26:=ht.n
 unfold ptV
 obtain ⟨kind,place,num,box,src,o1,sign,o2,opn⟩:=t
 simp only [] at *
 generalize valO σ.num o1 = v at *
 generalize valO σ.num o2 = v2 at *
 generalize odB o1 = b1 at *
 generalize odI o1 = x1 at *
 generalize odB o2 = b2 at *
 generalize odI o2 = x2 at *
 clear h ht hl hc
 go_enter func137,ntmps137
 go_upto_region 1 with fail
 obtain ⟨hFA,HPA⟩:=box_new w kind place num box src b1 x1 sign b2 x2 opn clo
 generalize w.alloc _ = W1 at hFA HPA ⊢
 generalize w.heap.size = q at *
 have c2:=HPA.out.c2
 have c5:=HPA.out.c5
 have c6:=HPA.out.c6
 have c7:=HPA.out.c7
 have c8:=HPA.out.c8
 have c9:=HPA.out.c9
 go_upto_region 6 with (first | ((fail_if_success (have:=hF2));go_at_call 139;refine (HV1.out _ hFA).mono ?_;rintro e w2 ⟨rfl,hF2⟩;have d2:=hF2.cell_some c2 id;have d7:=hF2.cell_some c7 id;have d8:=hF2.cell_some c8 id;have d9:=hF2.cell_some c9 id) | (go_at_call 139;refine (HV2.out _ (hFA.trans hF2)).mono ?_;rintro e w3 ⟨rfl,hF3⟩;have e7:=hF3.cell_some d7 id;have e2:=hF3.cell_some d2 id) | (go_at_call 146;refine sameC (HR.out _) ?_))
 have hFX:Fr NoB w w3:=(hFA.trans hF2).trans hF3
 have HM3:Hid _:=HM.out.no hFX
 have cn:=HM3.out.m.cn num hn
 have fz:=HM3.out.m.fz (4 + num)
 go_region
 go_wp2
 go_end0
 exact ⟨rfl,⟨_,_,_,(HM3.out.setNum hn hz).no ((Fr.refl _ _).drew)⟩,((frM_no hFX).trans (frM_one ((Fr.refl (OneB mp) w3).setCell (p:=⟨mp,4 + num,none⟩) (fun _=>rfl) _) HM.out.mb)).drew⟩
end
end
end Go.Proofs.YthcjcjfgdgnljabGreatDoor
