import Derived.Test.YthcjcjfgdgnljabGreatDoorGDevZA
set_option linter.unusedVariables false
set_option maxHeartbeats 4000000
set_option maxRecDepth 8000
open Go.Proofs.Tryz
namespace Go.Proofs.YthcjcjfgdgnljabGreatDoor
open Go.RowKit
theorem Wk.growO {w0 w w2:World} {o:Obj} {kp base pb:Nat} {s:ByteArray} {r:Rs} {pv ov v':Value} {C:Nat → Nat} {tt:Pt} {t:Nat} (h:Wk w0 w kp base pb s r pv ov C tt) (hk:AppKind (w.alloc o).drew w2 ov v' r.O.length 1)
  (hown:w2.ownsRow base 3 1 v' (r.O.length + 1) (r.O.map intC ++ [intC t])) :
  w2.cell? ⟨kp,3,none⟩ = some ov ∧ w2.frozen? ⟨kp,3,none⟩ = false ∧ Wk w0 (w2.setCell ⟨kp,3,none⟩ v') kp base pb s ⟨r.z,r.P,r.O ++ [t]⟩ pv v' C tt:=by
 obtain ⟨g1,g2,g3,g4⟩:=h.rp.growO (t:=t) hk hown
 have hF:Fr (fun k=>ov.ownBlock = some k) w w2:=(((Fr.refl _ w).alloc o).drew).trans hk.fr
 have hpt:=(h.pt.fr hF (fun e=>h.n3 pb e rfl)).fr ((Fr.refl (OneB kp) w2).setCell (p:=⟨kp,3,none⟩) (fun _=>rfl) v') (fun e=>h.n1 e)
 refine ⟨g1,g2,⟨g3,hpt,h.fr.trans g4,h.hb,h.hp,h.n1,h.n2,fun g hg e=>?_⟩⟩
 obtain ⟨gx,cap2,rfl,hp⟩:=hk.place
 have e3:gx = g:=by simpa [Value.ownBlock] using hg
 subst e3
 rcases hp with q | q
 ·have:=h.pt.lt
  simp at q
  omega
 ·exact h.n3 _ q e
theorem opening_no (w:World) (kp base:Nat) (s:ByteArray) (r:Rs) (pv ov:Value) (h:RdP w kp base s r pv ov (cloL r.P)) (hC:cloL r.P r.P.length = 0) (hz:Zb s r.z) (hb:base ≤ w.heap.size) (hl:r.P.length ≤ 90001) (hlo:r.O.length ≤ 90001) (c k:Nat) (hc:c ≠ 0) (hkk:closes ⟨k,0,0,0,0,.v 0,0,.v 0,0⟩ = false) (he:pk s (op s (tk s c r.z)) ≠ 123) :
  Calls prog 96 #[.pointer (some ⟨kp,0,none⟩),.int .u8 c,.int .i64 k] w fun x w'=>PartSays kp base s (rOpen s c k r) w x w':=by
 obtain ⟨i0,hi0,hz0,hz1,hz2⟩:=info_parts Tryz.infoPart
 obtain ⟨ao,cap,rfl⟩:=owns_form h.pr
 obtain ⟨z0,P,O⟩:=r
 try simp only [] at h hz hl hC ⊢
 obtain ⟨i1,hi1,hy0,hy1,hy2⟩:=info_parts Tryz.infoInt
 obtain ⟨oo,oc,rfl⟩:=owns_form h.orow
 have HR:Hid (RdP w kp base s ⟨z0,P,O⟩ (.slice ao P.length cap) (.slice oo O.length oc) (cloL P)):=h
 have HC0:Hid (cloL P P.length = 0):=hC
 have Hz0:Hid (Zb s z0):=hz
 have c1:=h.rd.c1
 try simp only [] at c1
 have hkl:=h.rd.lt
 clear h hz hC
 have HE:Hid (rOpen s c k ⟨z0,P,O⟩ = ⟨tk s 123 (op s (tk s c z0)),P ++ [⟨k,z0.1,0,0,0,opV s (tk s c z0),0,.v 0,0⟩],O ++ [P.length]⟩):=by show rOpen s c k ⟨z0,P,O⟩ = _;unfold rOpen;rw [if_neg (fun q=>he q.1)]
 have HQ:Hid (pk s (op s (tk s c z0)) ≠ 123):=he
 clear he
 have HK:Hid (closes ⟨k,z0.1,0,0,0,opV s (tk s c z0),0,.v 0,0⟩ = false):=hkk
 clear hkk
 try simp only [] at hlo
 generalize hCl:cloL P = C at *
 have HCl:Hid (cloL P = C):=hCl
 clear hCl
 have HW:Hid _:=Wk.start HR.out hb ⟨k,z0.1,0,0,0,.v 0,0,.v 0,0⟩
 unfold ptC odB odI at HW
 try simp only [] at HW
 go_enter func96,ntmps96
 go_upto_region 1 with fail
 generalize (w.alloc _) = W0 at *
 generalize hpb:w.heap.size = pb at *
 clear hpb
 go_wp2_with fail
 refine (take_fn _ kp s z0 _ _ HW.out.rp.rd Hz0.out c hc).mono ?_
 rintro x w1 ⟨rfl,hR,hF⟩
 have HW:Hid _:=HW.out.step hF hR
 have Hz1:Hid (Zb s (tk s c z0)):=Hz0.out.tk hc
 try simp only [] at HW
 clear hR hF
 generalize tk s c z0 = z1 at *
 go_wp2_with fail
 refine (operand_fn _ kp s z1 _ _ HW.out.rp.rd Hz1.out).mono ?_
 rintro x w2 ⟨rfl,hR,hF⟩
 have HW:Hid _:=HW.out.step hF hR
 have Hz2:Hid (Zb s (op s z1)):=Hz1.out.op
 try simp only [] at HW
 clear hR hF
 unfold odW
 generalize op s z1 = z2 at *
 have d2:=HW.out.pt.c 5 _ rfl
 have g2:=HW.out.pt.f 5
 have d2':=HW.out.pt.c 6 _ rfl
 have g2':=HW.out.pt.f 6
 try simp only [] at d2 d2'
 have b1:((pk s z2:Int) == 123) = false:=beq_eq_false_iff_ne.2 (by have:=HQ.out;omega)
 have HPk:Hid (∀ X:World,Rd X kp s z2 (.slice ao P.length cap) (.slice oo O.length oc) → CR 89 #[.pointer (some ⟨kp,0,none⟩)] X (.int .u8 ((pk s z2:Nat):Int))):=fun X hX=>by
  have:=peek_fn X kp s z2 _ _ hX Hz2.out
  exact this
 go_wp2_with fail
 have HW:Hid _:=HW.out.set1 (opV s z1)
 clear d2 g2 d2' g2'
 try simp only [] at HW
 refine (HPk.out _ HW.out.rp.rd).mono ?_
 rintro x w3 ⟨rfl,hF⟩
 have HW:Hid _:=HW.out.no hF
 clear hF HPk
 have eO3:=HW.out.rp.rd.c3
 try simp only [] at eO3
 go_wp2_with fail
 refine (take_fn _ kp s z2 _ _ HW.out.rp.rd Hz2.out 123 (by decide)).mono ?_
 rintro x w4 ⟨rfl,hR,hF⟩
 have HW:Hid _:=HW.out.step hF hR
 have Hz4:Hid (Zb s (tk s 123 z2)):=Hz2.out.tk (by decide)
 try simp only [] at HW
 clear hR hF
 generalize tk s 123 z2 = z4 at *
 have hrowO:=HW.out.rp.orow
 have eO:=HW.out.rp.rd.c3
 have eP2:=HW.out.rp.rd.c2
 have hszO:=HW.out.fr.size
 have hbbO:=HW.out.hb
 have hklO:=HW.out.rp.rd.lt
 try simp only [] at hrowO eO eP2
 go_upto_region 6 with fail
 go_cut [45] (fun t wx=>∃ v':Value,t = v' ∧ Wk w wx kp base pb s ⟨z4,P,O ++ [P.length]⟩ (.slice ao P.length cap) v' C ⟨k,z0.1,0,0,0,opV s z1,0,.v 0,0⟩)
 case first =>
  go_region_law ((refine step_append_kind rfl _ _ 58 rfl base 3 i1 (.int .i64 0) 1 8 underlying58 hi1 hy0 hy1 hy2 rfl (by decide) _ _ _ rfl ((hrowO.alloc _).drew) ⟨w4.heap.size,0,none⟩ 1 1 [.int .i64 P.length] (by decide) rfl rfl nwD (by intro u hu;simp at hu;subst hu;rfl) (by unfold maxLen;omega) (by omega) (by simp;omega) ?_;intro v3 wo hown3 hk3;obtain ⟨x1,x2,x3⟩:=HW.out.growO (t:=P.length) hk3 hown3;obtain ⟨gc,cc,hvo,_⟩:=hk3.place;subst hvo;have HX:=show Hid _ from x3;clear x3 hown3 hk3))
  all_goals
   go_wp2_with fail
   go_meet
   case rel=>exact ⟨_,rfl,HX.out⟩
 case rest =>
  obtain ⟨v3,rfl,hWc⟩:=hcut
  clear HW hrowO eO eP2 hszO hbbO hklO
  have HW:Hid _:=hWc
  clear hWc
  have HT:Hid _:=HW.out
  clear HW
  generalize hT:(⟨_,_,_,_,_,_,_,_,_⟩:Pt) = tt at HT
  have HTT:Hid _:=hT
  clear hT
  have hrow:=HT.out.rp.pr
  have e0:=HT.out.pt.c 0 _ rfl
  have e1:=HT.out.pt.c 1 _ rfl
  have e2:=HT.out.pt.c 2 _ rfl
  have e3:=HT.out.pt.c 3 _ rfl
  have e4:=HT.out.pt.c 4 _ rfl
  have e5:=HT.out.pt.c 5 _ rfl
  have e6:=HT.out.pt.c 6 _ rfl
  have e7:=HT.out.pt.c 7 _ rfl
  have e8:=HT.out.pt.c 8 _ rfl
  have e9:=HT.out.pt.c 9 _ rfl
  have e10:=HT.out.pt.c 10 _ rfl
  have e11:=HT.out.pt.c 11 _ rfl
  have eP:=HT.out.rp.rd.c2
  have hsz:=HT.out.fr.size
  have hbb:=HT.out.hb
  have hkl2:=HT.out.rp.rd.lt
  have hpl2:=HT.out.pt.lt
  try simp only [] at hrow eP
  go_upto_region 7 with fail
  go_region_law ((refine step_append_kind rfl _ _ 84 rfl base 121 i0 _ 12 96 underlying84 hi0 hz0 hz1 hz2 rfl (by decide) _ _ _ rfl ((hrow.alloc _).drew) ⟨wc.heap.size,0,none⟩ 1 1 [.int .i64 tt.kind,.int .i64 tt.place,.int .i64 tt.num,.int .i64 tt.box,.int .i64 tt.src,.bool (odB tt.o1),.int .i64 (odI tt.o1:Int),.int .u8 tt.sign,.bool (odB tt.o2),.int .i64 (odI tt.o2:Int),.int .i64 tt.opn,.int .i64 ((0:Nat):Int)] (by decide) rfl rfl nwD (by intro u hu;simp at hu;rcases hu with rfl | rfl | rfl | rfl | rfl | rfl | rfl | rfl | rfl | rfl | rfl | rfl <;> rfl) (by unfold maxLen;omega) (by omega) (by simp;omega) ?_;intro v2 wv hown2 hk2;obtain ⟨y1,y2,y3,y4⟩:=HT.out.rp.growP (t:=tt) HC0.out hk2 hown2;obtain ⟨gb,cb,hve,_⟩:=hk2.place;subst hve;have HG:=show Hid (_ ∧ _) from ⟨y3,y4⟩;clear y3 y4 hown2 hk2))
  all_goals
   go_wp2
   go_end0
   exact PartSays.plain HE.out HK.out (by rw [← HTT.out] at HG;exact HG.out.1) HCl.out (HT.out.fr.trans HG.out.2)
theorem opening_yes (w:World) (kp base:Nat) (s:ByteArray) (r:Rs) (pv ov:Value) (h:RdP w kp base s r pv ov (cloL r.P)) (hC:cloL r.P r.P.length = 0) (hz:Zb s r.z) (hb:base ≤ w.heap.size) (hl:r.P.length ≤ 90001) (hlo:r.O.length ≤ 90001) (c k:Nat) (hc:c ≠ 0) (hkk:closes ⟨k,0,0,0,0,.v 0,0,.v 0,0⟩ = false) (he:pk s (op s (tk s c r.z)) = 123) (h8:r.O.length < 8) :
  Calls prog 96 #[.pointer (some ⟨kp,0,none⟩),.int .u8 c,.int .i64 k] w fun x w'=>PartSays kp base s (rOpen s c k r) w x w':=by
 obtain ⟨i0,hi0,hz0,hz1,hz2⟩:=info_parts Tryz.infoPart
 obtain ⟨ao,cap,rfl⟩:=owns_form h.pr
 obtain ⟨z0,P,O⟩:=r
 try simp only [] at h hz hl hC ⊢
 obtain ⟨i1,hi1,hy0,hy1,hy2⟩:=info_parts Tryz.infoInt
 obtain ⟨oo,oc,rfl⟩:=owns_form h.orow
 have HR:Hid (RdP w kp base s ⟨z0,P,O⟩ (.slice ao P.length cap) (.slice oo O.length oc) (cloL P)):=h
 have HC0:Hid (cloL P P.length = 0):=hC
 have Hz0:Hid (Zb s z0):=hz
 have c1:=h.rd.c1
 try simp only [] at c1
 have hkl:=h.rd.lt
 clear h hz hC
 have HE:Hid (rOpen s c k ⟨z0,P,O⟩ = ⟨tk s 123 (op s (tk s c z0)),P ++ [⟨k,z0.1,0,0,0,opV s (tk s c z0),0,.v 0,0⟩],O ++ [P.length]⟩):=by show rOpen s c k ⟨z0,P,O⟩ = _;unfold rOpen;rw [if_neg (fun q=>by have q2:8 ≤ O.length:=q.2;have q3:O.length < 8:=h8;omega)]
 have HQ:Hid (pk s (op s (tk s c z0)) = 123):=he
 clear he
 try simp only [] at h8
 have HK:Hid (closes ⟨k,z0.1,0,0,0,opV s (tk s c z0),0,.v 0,0⟩ = false):=hkk
 clear hkk
 try simp only [] at hlo
 generalize hCl:cloL P = C at *
 have HCl:Hid (cloL P = C):=hCl
 clear hCl
 have HW:Hid _:=Wk.start HR.out hb ⟨k,z0.1,0,0,0,.v 0,0,.v 0,0⟩
 unfold ptC odB odI at HW
 try simp only [] at HW
 go_enter func96,ntmps96
 go_upto_region 1 with fail
 generalize (w.alloc _) = W0 at *
 generalize hpb:w.heap.size = pb at *
 clear hpb
 go_wp2_with fail
 refine (take_fn _ kp s z0 _ _ HW.out.rp.rd Hz0.out c hc).mono ?_
 rintro x w1 ⟨rfl,hR,hF⟩
 have HW:Hid _:=HW.out.step hF hR
 have Hz1:Hid (Zb s (tk s c z0)):=Hz0.out.tk hc
 try simp only [] at HW
 clear hR hF
 generalize tk s c z0 = z1 at *
 go_wp2_with fail
 refine (operand_fn _ kp s z1 _ _ HW.out.rp.rd Hz1.out).mono ?_
 rintro x w2 ⟨rfl,hR,hF⟩
 have HW:Hid _:=HW.out.step hF hR
 have Hz2:Hid (Zb s (op s z1)):=Hz1.out.op
 try simp only [] at HW
 clear hR hF
 unfold odW
 generalize op s z1 = z2 at *
 have d2:=HW.out.pt.c 5 _ rfl
 have g2:=HW.out.pt.f 5
 have d2':=HW.out.pt.c 6 _ rfl
 have g2':=HW.out.pt.f 6
 try simp only [] at d2 d2'
 have HPk:Hid (∀ X:World,Rd X kp s z2 (.slice ao P.length cap) (.slice oo O.length oc) → CR 89 #[.pointer (some ⟨kp,0,none⟩)] X (.int .u8 ((123:Nat):Int))):=fun X hX=>by
  have:=peek_fn X kp s z2 _ _ hX Hz2.out
  rwa [HQ.out] at this
 go_wp2_with fail
 have HW:Hid _:=HW.out.set1 (opV s z1)
 clear d2 g2 d2' g2'
 try simp only [] at HW
 refine (HPk.out _ HW.out.rp.rd).mono ?_
 rintro x w3 ⟨rfl,hF⟩
 have HW:Hid _:=HW.out.no hF
 clear hF HPk
 have eO3:=HW.out.rp.rd.c3
 try simp only [] at eO3
 go_wp2_with fail
 refine (take_fn _ kp s z2 _ _ HW.out.rp.rd Hz2.out 123 (by decide)).mono ?_
 rintro x w4 ⟨rfl,hR,hF⟩
 have HW:Hid _:=HW.out.step hF hR
 have Hz4:Hid (Zb s (tk s 123 z2)):=Hz2.out.tk (by decide)
 try simp only [] at HW
 clear hR hF
 generalize tk s 123 z2 = z4 at *
 have hrowO:=HW.out.rp.orow
 have eO:=HW.out.rp.rd.c3
 have eP2:=HW.out.rp.rd.c2
 have hszO:=HW.out.fr.size
 have hbbO:=HW.out.hb
 have hklO:=HW.out.rp.rd.lt
 try simp only [] at hrowO eO eP2
 go_upto_region 6 with fail
 go_cut [45] (fun t wx=>∃ v':Value,t = v' ∧ Wk w wx kp base pb s ⟨z4,P,O ++ [P.length]⟩ (.slice ao P.length cap) v' C ⟨k,z0.1,0,0,0,opV s z1,0,.v 0,0⟩)
 case first =>
  go_region_law ((refine step_append_kind rfl _ _ 58 rfl base 3 i1 (.int .i64 0) 1 8 underlying58 hi1 hy0 hy1 hy2 rfl (by decide) _ _ _ rfl ((hrowO.alloc _).drew) ⟨w4.heap.size,0,none⟩ 1 1 [.int .i64 P.length] (by decide) rfl rfl nwD (by intro u hu;simp at hu;subst hu;rfl) (by unfold maxLen;omega) (by omega) (by simp;omega) ?_;intro v3 wo hown3 hk3;obtain ⟨x1,x2,x3⟩:=HW.out.growO (t:=P.length) hk3 hown3;obtain ⟨gc,cc,hvo,_⟩:=hk3.place;subst hvo;have HX:=show Hid _ from x3;clear x3 hown3 hk3))
  all_goals
   go_wp2_with fail
   go_meet
   case rel=>exact ⟨_,rfl,HX.out⟩
 case rest =>
  obtain ⟨v3,rfl,hWc⟩:=hcut
  clear HW hrowO eO eP2 hszO hbbO hklO
  have HW:Hid _:=hWc
  clear hWc
  have HT:Hid _:=HW.out
  clear HW
  generalize hT:(⟨_,_,_,_,_,_,_,_,_⟩:Pt) = tt at HT
  have HTT:Hid _:=hT
  clear hT
  have hrow:=HT.out.rp.pr
  have e0:=HT.out.pt.c 0 _ rfl
  have e1:=HT.out.pt.c 1 _ rfl
  have e2:=HT.out.pt.c 2 _ rfl
  have e3:=HT.out.pt.c 3 _ rfl
  have e4:=HT.out.pt.c 4 _ rfl
  have e5:=HT.out.pt.c 5 _ rfl
  have e6:=HT.out.pt.c 6 _ rfl
  have e7:=HT.out.pt.c 7 _ rfl
  have e8:=HT.out.pt.c 8 _ rfl
  have e9:=HT.out.pt.c 9 _ rfl
  have e10:=HT.out.pt.c 10 _ rfl
  have e11:=HT.out.pt.c 11 _ rfl
  have eP:=HT.out.rp.rd.c2
  have hsz:=HT.out.fr.size
  have hbb:=HT.out.hb
  have hkl2:=HT.out.rp.rd.lt
  have hpl2:=HT.out.pt.lt
  try simp only [] at hrow eP
  go_upto_region 7 with fail
  go_region_law ((refine step_append_kind rfl _ _ 84 rfl base 121 i0 _ 12 96 underlying84 hi0 hz0 hz1 hz2 rfl (by decide) _ _ _ rfl ((hrow.alloc _).drew) ⟨wc.heap.size,0,none⟩ 1 1 [.int .i64 tt.kind,.int .i64 tt.place,.int .i64 tt.num,.int .i64 tt.box,.int .i64 tt.src,.bool (odB tt.o1),.int .i64 (odI tt.o1:Int),.int .u8 tt.sign,.bool (odB tt.o2),.int .i64 (odI tt.o2:Int),.int .i64 tt.opn,.int .i64 ((0:Nat):Int)] (by decide) rfl rfl nwD (by intro u hu;simp at hu;rcases hu with rfl | rfl | rfl | rfl | rfl | rfl | rfl | rfl | rfl | rfl | rfl | rfl <;> rfl) (by unfold maxLen;omega) (by omega) (by simp;omega) ?_;intro v2 wv hown2 hk2;obtain ⟨y1,y2,y3,y4⟩:=HT.out.rp.growP (t:=tt) HC0.out hk2 hown2;obtain ⟨gb,cb,hve,_⟩:=hk2.place;subst hve;have HG:=show Hid (_ ∧ _) from ⟨y3,y4⟩;clear y3 y4 hown2 hk2))
  all_goals
   go_wp2
   go_end0
   exact PartSays.plain HE.out HK.out (by rw [← HTT.out] at HG;exact HG.out.1) HCl.out (HT.out.fr.trans HG.out.2)
theorem opening_deep (w:World) (kp base:Nat) (s:ByteArray) (r:Rs) (pv ov:Value) (h:RdP w kp base s r pv ov (cloL r.P)) (hC:cloL r.P r.P.length = 0) (hz:Zb s r.z) (hb:base ≤ w.heap.size) (hl:r.P.length ≤ 90001) (hlo:r.O.length ≤ 90001) (c k:Nat) (hc:c ≠ 0) (hkk:closes ⟨k,0,0,0,0,.v 0,0,.v 0,0⟩ = false) (he:pk s (op s (tk s c r.z)) = 123) (h8:8 ≤ r.O.length) :
  Calls prog 96 #[.pointer (some ⟨kp,0,none⟩),.int .u8 c,.int .i64 k] w fun x w'=>PartSays kp base s (rOpen s c k r) w x w':=by
 obtain ⟨i0,hi0,hz0,hz1,hz2⟩:=info_parts Tryz.infoPart
 obtain ⟨ao,cap,rfl⟩:=owns_form h.pr
 obtain ⟨z0,P,O⟩:=r
 try simp only [] at h hz hl hC ⊢
 obtain ⟨i1,hi1,hy0,hy1,hy2⟩:=info_parts Tryz.infoInt
 obtain ⟨oo,oc,rfl⟩:=owns_form h.orow
 have HR:Hid (RdP w kp base s ⟨z0,P,O⟩ (.slice ao P.length cap) (.slice oo O.length oc) (cloL P)):=h
 have HC0:Hid (cloL P P.length = 0):=hC
 have Hz0:Hid (Zb s z0):=hz
 have c1:=h.rd.c1
 try simp only [] at c1
 have hkl:=h.rd.lt
 clear h hz hC
 have HE:Hid (rOpen s c k ⟨z0,P,O⟩ = ⟨tk s 123 (rf 3 (op s (tk s c z0))),P ++ [⟨k,z0.1,0,0,0,opV s (tk s c z0),0,.v 0,0⟩],O ++ [P.length]⟩):=by show rOpen s c k ⟨z0,P,O⟩ = _;unfold rOpen;rw [if_pos ⟨he,h8⟩]
 have HQ:Hid (pk s (op s (tk s c z0)) = 123):=he
 clear he
 try simp only [] at h8
 have HK:Hid (closes ⟨k,z0.1,0,0,0,opV s (tk s c z0),0,.v 0,0⟩ = false):=hkk
 clear hkk
 try simp only [] at hlo
 generalize hCl:cloL P = C at *
 have HCl:Hid (cloL P = C):=hCl
 clear hCl
 have HW:Hid _:=Wk.start HR.out hb ⟨k,z0.1,0,0,0,.v 0,0,.v 0,0⟩
 unfold ptC odB odI at HW
 try simp only [] at HW
 go_enter func96,ntmps96
 go_upto_region 1 with fail
 generalize (w.alloc _) = W0 at *
 generalize hpb:w.heap.size = pb at *
 clear hpb
 go_wp2_with fail
 refine (take_fn _ kp s z0 _ _ HW.out.rp.rd Hz0.out c hc).mono ?_
 rintro x w1 ⟨rfl,hR,hF⟩
 have HW:Hid _:=HW.out.step hF hR
 have Hz1:Hid (Zb s (tk s c z0)):=Hz0.out.tk hc
 try simp only [] at HW
 clear hR hF
 generalize tk s c z0 = z1 at *
 go_wp2_with fail
 refine (operand_fn _ kp s z1 _ _ HW.out.rp.rd Hz1.out).mono ?_
 rintro x w2 ⟨rfl,hR,hF⟩
 have HW:Hid _:=HW.out.step hF hR
 have Hz2:Hid (Zb s (op s z1)):=Hz1.out.op
 try simp only [] at HW
 clear hR hF
 unfold odW
 generalize op s z1 = z2 at *
 have d2:=HW.out.pt.c 5 _ rfl
 have g2:=HW.out.pt.f 5
 have d2':=HW.out.pt.c 6 _ rfl
 have g2':=HW.out.pt.f 6
 try simp only [] at d2 d2'
 have HPk:Hid (∀ X:World,Rd X kp s z2 (.slice ao P.length cap) (.slice oo O.length oc) → CR 89 #[.pointer (some ⟨kp,0,none⟩)] X (.int .u8 ((123:Nat):Int))):=fun X hX=>by
  have:=peek_fn X kp s z2 _ _ hX Hz2.out
  rwa [HQ.out] at this
 go_wp2_with fail
 have HW:Hid _:=HW.out.set1 (opV s z1)
 clear d2 g2 d2' g2'
 try simp only [] at HW
 refine (HPk.out _ HW.out.rp.rd).mono ?_
 rintro x w3 ⟨rfl,hF⟩
 have HW:Hid _:=HW.out.no hF
 clear hF HPk
 have eO3:=HW.out.rp.rd.c3
 try simp only [] at eO3
 go_wp2_with fail
 refine (refuse_fn _ kp s z2 _ _ HW.out.rp.rd 3).mono ?_
 rintro x w4 ⟨rfl,hR,hF⟩
 have HW:Hid _:=HW.out.step hF hR
 have Hz4:Hid (Zb s (rf 3 z2)):=Hz2.out.rf (.inr rfl)
 try simp only [] at HW
 clear hR hF
 generalize rf 3 z2 = z4 at *
 go_wp2_with fail
 refine (take_fn _ kp s z4 _ _ HW.out.rp.rd Hz4.out 123 (by decide)).mono ?_
 rintro x w5 ⟨rfl,hR,hF⟩
 have HW:Hid _:=HW.out.step hF hR
 have Hz5:Hid (Zb s (tk s 123 z4)):=Hz4.out.tk (by decide)
 try simp only [] at HW
 clear hR hF
 generalize tk s 123 z4 = z5 at *
 have hrowO:=HW.out.rp.orow
 have eO:=HW.out.rp.rd.c3
 have eP2:=HW.out.rp.rd.c2
 have hszO:=HW.out.fr.size
 have hbbO:=HW.out.hb
 have hklO:=HW.out.rp.rd.lt
 try simp only [] at hrowO eO eP2
 go_upto_region 6 with fail
 go_cut [45] (fun t wx=>∃ v':Value,t = v' ∧ Wk w wx kp base pb s ⟨z5,P,O ++ [P.length]⟩ (.slice ao P.length cap) v' C ⟨k,z0.1,0,0,0,opV s z1,0,.v 0,0⟩)
 case first =>
  go_region_law ((refine step_append_kind rfl _ _ 58 rfl base 3 i1 (.int .i64 0) 1 8 underlying58 hi1 hy0 hy1 hy2 rfl (by decide) _ _ _ rfl ((hrowO.alloc _).drew) ⟨w5.heap.size,0,none⟩ 1 1 [.int .i64 P.length] (by decide) rfl rfl nwD (by intro u hu;simp at hu;subst hu;rfl) (by unfold maxLen;omega) (by omega) (by simp;omega) ?_;intro v3 wo hown3 hk3;obtain ⟨x1,x2,x3⟩:=HW.out.growO (t:=P.length) hk3 hown3;obtain ⟨gc,cc,hvo,_⟩:=hk3.place;subst hvo;have HX:=show Hid _ from x3;clear x3 hown3 hk3))
  all_goals
   go_wp2_with fail
   go_meet
   case rel=>exact ⟨_,rfl,HX.out⟩
 case rest =>
  obtain ⟨v3,rfl,hWc⟩:=hcut
  clear HW hrowO eO eP2 hszO hbbO hklO
  have HW:Hid _:=hWc
  clear hWc
  have HT:Hid _:=HW.out
  clear HW
  generalize hT:(⟨_,_,_,_,_,_,_,_,_⟩:Pt) = tt at HT
  have HTT:Hid _:=hT
  clear hT
  have hrow:=HT.out.rp.pr
  have e0:=HT.out.pt.c 0 _ rfl
  have e1:=HT.out.pt.c 1 _ rfl
  have e2:=HT.out.pt.c 2 _ rfl
  have e3:=HT.out.pt.c 3 _ rfl
  have e4:=HT.out.pt.c 4 _ rfl
  have e5:=HT.out.pt.c 5 _ rfl
  have e6:=HT.out.pt.c 6 _ rfl
  have e7:=HT.out.pt.c 7 _ rfl
  have e8:=HT.out.pt.c 8 _ rfl
  have e9:=HT.out.pt.c 9 _ rfl
  have e10:=HT.out.pt.c 10 _ rfl
  have e11:=HT.out.pt.c 11 _ rfl
  have eP:=HT.out.rp.rd.c2
  have hsz:=HT.out.fr.size
  have hbb:=HT.out.hb
  have hkl2:=HT.out.rp.rd.lt
  have hpl2:=HT.out.pt.lt
  try simp only [] at hrow eP
  go_upto_region 7 with fail
  go_region_law ((refine step_append_kind rfl _ _ 84 rfl base 121 i0 _ 12 96 underlying84 hi0 hz0 hz1 hz2 rfl (by decide) _ _ _ rfl ((hrow.alloc _).drew) ⟨wc.heap.size,0,none⟩ 1 1 [.int .i64 tt.kind,.int .i64 tt.place,.int .i64 tt.num,.int .i64 tt.box,.int .i64 tt.src,.bool (odB tt.o1),.int .i64 (odI tt.o1:Int),.int .u8 tt.sign,.bool (odB tt.o2),.int .i64 (odI tt.o2:Int),.int .i64 tt.opn,.int .i64 ((0:Nat):Int)] (by decide) rfl rfl nwD (by intro u hu;simp at hu;rcases hu with rfl | rfl | rfl | rfl | rfl | rfl | rfl | rfl | rfl | rfl | rfl | rfl <;> rfl) (by unfold maxLen;omega) (by omega) (by simp;omega) ?_;intro v2 wv hown2 hk2;obtain ⟨y1,y2,y3,y4⟩:=HT.out.rp.growP (t:=tt) HC0.out hk2 hown2;obtain ⟨gb,cb,hve,_⟩:=hk2.place;subst hve;have HG:=show Hid (_ ∧ _) from ⟨y3,y4⟩;clear y3 y4 hown2 hk2))
  all_goals
   go_wp2
   go_end0
   exact PartSays.plain HE.out HK.out (by rw [← HTT.out] at HG;exact HG.out.1) HCl.out (HT.out.fr.trans HG.out.2)
theorem opening_fn (w:World) (kp base:Nat) (s:ByteArray) (r:Rs) (pv ov:Value) (h:RdP w kp base s r pv ov (cloL r.P)) (hC:cloL r.P r.P.length = 0) (hz:Zb s r.z) (hb:base ≤ w.heap.size) (hl:r.P.length ≤ 90001) (hlo:r.O.length ≤ 90001) (c k:Nat) (hc:c ≠ 0) (hkk:closes ⟨k,0,0,0,0,.v 0,0,.v 0,0⟩ = false) :
  Calls prog 96 #[.pointer (some ⟨kp,0,none⟩),.int .u8 c,.int .i64 k] w fun x w'=>PartSays kp base s (rOpen s c k r) w x w':=by
 by_cases he:pk s (op s (tk s c r.z)) = 123
 ·by_cases h8:8 ≤ r.O.length
  ·exact opening_deep w kp base s r pv ov h hC hz hb hl hlo c k hc hkk he h8
  ·exact opening_yes w kp base s r pv ov h hC hz hb hl hlo c k hc hkk he (by omega)
 ·exact opening_no w kp base s r pv ov h hC hz hb hl hlo c k hc hkk he
end Go.Proofs.YthcjcjfgdgnljabGreatDoor
