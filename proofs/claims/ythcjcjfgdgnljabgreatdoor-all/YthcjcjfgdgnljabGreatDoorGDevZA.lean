import Derived.Test.YthcjcjfgdgnljabGreatDoorGDevZ
set_option linter.unusedVariables false
set_option maxHeartbeats 4000000
set_option maxRecDepth 8000
open Go.Proofs.Tryz
namespace Go.Proofs.YthcjcjfgdgnljabGreatDoor
open Go.RowKit
theorem PartSays.plain {kp base:Nat} {s:ByteArray} {R:Rs} {z':Nat × Nat} {P:List Pt} {O:List Nat} {t:Pt} {w w':World} {pv ov:Value} {C:Nat → Nat} (hE:R = ⟨z',P ++ [t],O⟩) (hcl:closes t = false) (hG:RdP w' kp base s ⟨z',P ++ [t],O⟩ pv ov C) (hCl:cloL P = C) (hF:Fr (StkS kp base) w w') :
  PartSays kp base s R w (.returned (.tuple #[])) w':=by
 subst hE
 refine ⟨rfl,⟨pv,ov,?_⟩,hF⟩
 have q:=clo_push P t
 rw [if_neg (by rw [hcl];simp)] at q
 show RdP w' kp base s _ pv ov (cloL (P ++ [t]))
 rw [q,hCl]
 exact hG
theorem ending_fn (w:World) (kp base:Nat) (s:ByteArray) (r:Rs) (pv ov:Value) (h:RdP w kp base s r pv ov (cloL r.P)) (hC:cloL r.P r.P.length = 0) (hz:Zb s r.z) (hb:base ≤ w.heap.size) (hl:r.P.length ≤ 90001) :
  Calls prog 94 #[.pointer (some ⟨kp,0,none⟩)] w fun x w'=>PartSays kp base s (rEnd s r) w x w':=by
 obtain ⟨i0,hi0,hz0,hz1,hz2⟩:=info_parts Tryz.infoPart
 obtain ⟨ao,cap,rfl⟩:=owns_form h.pr
 obtain ⟨z0,P,O⟩:=r
 try simp only [] at h hz hl hC ⊢
 have HR:Hid (RdP w kp base s ⟨z0,P,O⟩ (.slice ao P.length cap) ov (cloL P)):=h
 have HC0:Hid (cloL P P.length = 0):=hC
 have Hz0:Hid (Zb s z0):=hz
 have c1:=h.rd.c1
 try simp only [] at c1
 have hkl:=h.rd.lt
 clear h hz hC
 have HE:Hid (rEnd s ⟨z0,P,O⟩ = ⟨tk s 59 (bx s (tk s 126 z0)),P ++ [⟨7,z0.1,0,bxV s (tk s 126 z0),0,.v 0,0,.v 0,0⟩],O⟩):=by rfl
 generalize hCl:cloL P = C at *
 have HCl:Hid (cloL P = C):=hCl
 clear hCl
 have HW:Hid _:=Wk.start HR.out hb ⟨7,z0.1,0,0,0,.v 0,0,.v 0,0⟩
 unfold ptC odB odI at HW
 try simp only [] at HW
 go_enter func94,ntmps94
 go_upto_region 1 with fail
 generalize (w.alloc _) = W0 at *
 generalize hpb:w.heap.size = pb at *
 clear hpb
 go_wp2_with fail
 refine (take_fn _ kp s z0 _ _ HW.out.rp.rd Hz0.out 126 (by decide)).mono ?_
 rintro x w1 ⟨rfl,hR,hF⟩
 have HW:Hid _:=HW.out.step hF hR
 have Hz1:Hid (Zb s (tk s 126 z0)):=Hz0.out.tk (by decide)
 try simp only [] at HW
 clear hR hF
 generalize tk s 126 z0 = z1 at *
 go_wp2_with fail
 refine (box_fn _ kp s z1 _ _ HW.out.rp.rd Hz1.out).mono ?_
 rintro x w2 ⟨rfl,hR,hF⟩
 have HW:Hid _:=HW.out.step hF hR
 have Hz2:Hid (Zb s (bx s z1)):=Hz1.out.bx
 try simp only [] at HW
 clear hR hF
 generalize bx s z1 = z2 at *
 have d2:=HW.out.pt.c 3 _ rfl
 have g2:=HW.out.pt.f 3
 try simp only [] at d2
 go_wp2_with fail
 have HW:Hid _:=HW.out.setB (bxV s z1)
 clear d2 g2
 try simp only [] at HW
 refine (take_fn _ kp s z2 _ _ HW.out.rp.rd Hz2.out 59 (by decide)).mono ?_
 rintro x w3 ⟨rfl,hR,hF⟩
 have HW:Hid _:=HW.out.step hF hR
 have Hz3:Hid (Zb s (tk s 59 z2)):=Hz2.out.tk (by decide)
 try simp only [] at HW
 clear hR hF
 generalize tk s 59 z2 = z3 at *
 have HT:Hid _:=HW.out
 clear HW
 generalize hT:(⟨_,_,_,_,_,_,_,_,_⟩:Pt) = tt at HT
 have HTT:Hid _:=hT
 clear hT
 have hrow:=HT.out.rp.pr
 have e0:=HT.out.pt.c 0 _ rfl
 have e1:=HT.out.pt.c 1 _ rfl
 have e2:=HT.out.pt.c 2 _ rfl
 have e3:=HT.out.pt.c 3 _ rfl
 have e4:=HT.out.pt.c 4 _ rfl
 have e5:=HT.out.pt.c 5 _ rfl
 have e6:=HT.out.pt.c 6 _ rfl
 have e7:=HT.out.pt.c 7 _ rfl
 have e8:=HT.out.pt.c 8 _ rfl
 have e9:=HT.out.pt.c 9 _ rfl
 have e10:=HT.out.pt.c 10 _ rfl
 have e11:=HT.out.pt.c 11 _ rfl
 have eP:=HT.out.rp.rd.c2
 have hsz:=HT.out.fr.size
 have hbb:=HT.out.hb
 have hkl2:=HT.out.rp.rd.lt
 have hpl2:=HT.out.pt.lt
 try simp only [] at hrow eP
 go_upto_region 4 with fail
 go_region_law ((refine step_append_kind rfl _ _ 84 rfl base 121 i0 _ 12 96 underlying84 hi0 hz0 hz1 hz2 rfl (by decide) _ _ _ rfl ((hrow.alloc _).drew) ⟨w3.heap.size,0,none⟩ 1 1 [.int .i64 tt.kind,.int .i64 tt.place,.int .i64 tt.num,.int .i64 tt.box,.int .i64 tt.src,.bool (odB tt.o1),.int .i64 (odI tt.o1:Int),.int .u8 tt.sign,.bool (odB tt.o2),.int .i64 (odI tt.o2:Int),.int .i64 tt.opn,.int .i64 ((0:Nat):Int)] (by decide) rfl rfl nwD (by intro u hu;simp at hu;rcases hu with rfl | rfl | rfl | rfl | rfl | rfl | rfl | rfl | rfl | rfl | rfl | rfl <;> rfl) (by unfold maxLen;omega) (by omega) (by simp;omega) ?_;intro v2 wv hown2 hk2;obtain ⟨y1,y2,y3,y4⟩:=HT.out.rp.growP (t:=tt) HC0.out hk2 hown2;obtain ⟨gb,cb,hve,_⟩:=hk2.place;subst hve;have HG:=show Hid (_ ∧ _) from ⟨y3,y4⟩;clear y3 y4 hown2 hk2))
 all_goals
  go_wp2
  go_end0
  exact PartSays.plain HE.out rfl (by rw [← HTT.out] at HG;exact HG.out.1) HCl.out (HT.out.fr.trans HG.out.2)
theorem printing_fn (w:World) (kp base:Nat) (s:ByteArray) (r:Rs) (pv ov:Value) (h:RdP w kp base s r pv ov (cloL r.P)) (hC:cloL r.P r.P.length = 0) (hz:Zb s r.z) (hb:base ≤ w.heap.size) (hl:r.P.length ≤ 90001) :
  Calls prog 95 #[.pointer (some ⟨kp,0,none⟩)] w fun x w'=>PartSays kp base s (rPrint s r) w x w':=by
 obtain ⟨i0,hi0,hz0,hz1,hz2⟩:=info_parts Tryz.infoPart
 obtain ⟨ao,cap,rfl⟩:=owns_form h.pr
 obtain ⟨z0,P,O⟩:=r
 try simp only [] at h hz hl hC ⊢
 have HR:Hid (RdP w kp base s ⟨z0,P,O⟩ (.slice ao P.length cap) ov (cloL P)):=h
 have HC0:Hid (cloL P P.length = 0):=hC
 have Hz0:Hid (Zb s z0):=hz
 have c1:=h.rd.c1
 try simp only [] at c1
 have hkl:=h.rd.lt
 clear h hz hC
 have HE:Hid (rPrint s ⟨z0,P,O⟩ = ⟨tk s 59 (op s (tk s 33 z0)),P ++ [⟨1,z0.1,0,0,0,opV s (tk s 33 z0),0,.v 0,0⟩],O⟩):=by rfl
 generalize hCl:cloL P = C at *
 have HCl:Hid (cloL P = C):=hCl
 clear hCl
 have HW:Hid _:=Wk.start HR.out hb ⟨1,z0.1,0,0,0,.v 0,0,.v 0,0⟩
 unfold ptC odB odI at HW
 try simp only [] at HW
 go_enter func95,ntmps95
 go_upto_region 1 with fail
 generalize (w.alloc _) = W0 at *
 generalize hpb:w.heap.size = pb at *
 clear hpb
 go_wp2_with fail
 refine (take_fn _ kp s z0 _ _ HW.out.rp.rd Hz0.out 33 (by decide)).mono ?_
 rintro x w1 ⟨rfl,hR,hF⟩
 have HW:Hid _:=HW.out.step hF hR
 have Hz1:Hid (Zb s (tk s 33 z0)):=Hz0.out.tk (by decide)
 try simp only [] at HW
 clear hR hF
 generalize tk s 33 z0 = z1 at *
 go_wp2_with fail
 refine (operand_fn _ kp s z1 _ _ HW.out.rp.rd Hz1.out).mono ?_
 rintro x w2 ⟨rfl,hR,hF⟩
 have HW:Hid _:=HW.out.step hF hR
 have Hz2:Hid (Zb s (op s z1)):=Hz1.out.op
 try simp only [] at HW
 clear hR hF
 unfold odW
 generalize op s z1 = z2 at *
 have d2:=HW.out.pt.c 5 _ rfl
 have g2:=HW.out.pt.f 5
 have d2':=HW.out.pt.c 6 _ rfl
 have g2':=HW.out.pt.f 6
 try simp only [] at d2 d2'
 go_wp2_with fail
 have HW:Hid _:=HW.out.set1 (opV s z1)
 clear d2 g2 d2' g2'
 try simp only [] at HW
 refine (take_fn _ kp s z2 _ _ HW.out.rp.rd Hz2.out 59 (by decide)).mono ?_
 rintro x w3 ⟨rfl,hR,hF⟩
 have HW:Hid _:=HW.out.step hF hR
 have Hz3:Hid (Zb s (tk s 59 z2)):=Hz2.out.tk (by decide)
 try simp only [] at HW
 clear hR hF
 generalize tk s 59 z2 = z3 at *
 have HT:Hid _:=HW.out
 clear HW
 generalize hT:(⟨_,_,_,_,_,_,_,_,_⟩:Pt) = tt at HT
 have HTT:Hid _:=hT
 clear hT
 have hrow:=HT.out.rp.pr
 have e0:=HT.out.pt.c 0 _ rfl
 have e1:=HT.out.pt.c 1 _ rfl
 have e2:=HT.out.pt.c 2 _ rfl
 have e3:=HT.out.pt.c 3 _ rfl
 have e4:=HT.out.pt.c 4 _ rfl
 have e5:=HT.out.pt.c 5 _ rfl
 have e6:=HT.out.pt.c 6 _ rfl
 have e7:=HT.out.pt.c 7 _ rfl
 have e8:=HT.out.pt.c 8 _ rfl
 have e9:=HT.out.pt.c 9 _ rfl
 have e10:=HT.out.pt.c 10 _ rfl
 have e11:=HT.out.pt.c 11 _ rfl
 have eP:=HT.out.rp.rd.c2
 have hsz:=HT.out.fr.size
 have hbb:=HT.out.hb
 have hkl2:=HT.out.rp.rd.lt
 have hpl2:=HT.out.pt.lt
 try simp only [] at hrow eP
 go_upto_region 4 with fail
 go_region_law ((refine step_append_kind rfl _ _ 84 rfl base 121 i0 _ 12 96 underlying84 hi0 hz0 hz1 hz2 rfl (by decide) _ _ _ rfl ((hrow.alloc _).drew) ⟨w3.heap.size,0,none⟩ 1 1 [.int .i64 tt.kind,.int .i64 tt.place,.int .i64 tt.num,.int .i64 tt.box,.int .i64 tt.src,.bool (odB tt.o1),.int .i64 (odI tt.o1:Int),.int .u8 tt.sign,.bool (odB tt.o2),.int .i64 (odI tt.o2:Int),.int .i64 tt.opn,.int .i64 ((0:Nat):Int)] (by decide) rfl rfl nwD (by intro u hu;simp at hu;rcases hu with rfl | rfl | rfl | rfl | rfl | rfl | rfl | rfl | rfl | rfl | rfl | rfl <;> rfl) (by unfold maxLen;omega) (by omega) (by simp;omega) ?_;intro v2 wv hown2 hk2;obtain ⟨y1,y2,y3,y4⟩:=HT.out.rp.growP (t:=tt) HC0.out hk2 hown2;obtain ⟨gb,cb,hve,_⟩:=hk2.place;subst hve;have HG:=show Hid (_ ∧ _) from ⟨y3,y4⟩;clear y3 y4 hown2 hk2))
 all_goals
  go_wp2
  go_end0
  exact PartSays.plain HE.out rfl (by rw [← HTT.out] at HG;exact HG.out.1) HCl.out (HT.out.fr.trans HG.out.2)
theorem block_make (w0 w:World) (kp base pb:Nat) (s:ByteArray) (r:Rs) (pv ov:Value) (C:Nat → Nat) (t:Pt) (h:Wk w0 w kp base pb s r pv ov C t) (hz:Zb s r.z) (he:pk s r.z = 91) :
  Calls prog 122 #[.pointer (some ⟨kp,0,none⟩),.pointer (some ⟨pb,0,none⟩)] w fun x w'=>x = .returned (.tuple #[]) ∧ Wk w0 w' kp base pb s ⟨ix s r.z,r.P,r.O⟩ pv ov C { t with kind:=4,o1:=ixV s r.z }:=by
 have HW:Hid _:=h
 have Hz:Hid (Zb s r.z):=hz
 have HPk:Hid (∀ X:World,Rd X kp s r.z pv ov → CR 89 #[.pointer (some ⟨kp,0,none⟩)] X (.int .u8 ((91:Nat):Int))):=fun X hX=>by
  have:=peek_fn X kp s r.z pv ov hX hz
  rwa [he] at this
 clear h hz he
 go_enter func122,ntmps122
 go_wp2_with fail
 refine (HPk.out _ HW.out.rp.rd).mono ?_
 rintro x w1 ⟨rfl,hF1⟩
 have HW:Hid _:=HW.out.no hF1
 have d0:=HW.out.pt.c 0 _ rfl
 have g0:=HW.out.pt.f 0
 go_wp2_with fail
 have HW:Hid _:=HW.out.setK 4
 clear d0 g0
 refine (index_fn _ kp s _ _ _ HW.out.rp.rd Hz.out).mono ?_
 rintro x w2 ⟨rfl,hR,hF⟩
 have HW:Hid _:=HW.out.step hF hR
 unfold odW
 have d5:=HW.out.pt.c 5 _ rfl
 have g5:=HW.out.pt.f 5
 have d6:=HW.out.pt.c 6 _ rfl
 have g6:=HW.out.pt.f 6
 clear hR hF
 go_wp2
 exact bodyPost_ret (v:=.tuple #[]) (by simp [results,results122,go_sem]) rfl ⟨rfl,HW.out.set1 (ixV s r.z)⟩
theorem block_move (w0 w:World) (kp base pb:Nat) (s:ByteArray) (r:Rs) (pv ov:Value) (C:Nat → Nat) (t:Pt) (h:Wk w0 w kp base pb s r pv ov C t) (hz:Zb s r.z) (he:pk s r.z ≠ 91) :
  Calls prog 122 #[.pointer (some ⟨kp,0,none⟩),.pointer (some ⟨pb,0,none⟩)] w fun x w'=>x = .returned (.tuple #[]) ∧ Wk w0 w' kp base pb s ⟨bx s r.z,r.P,r.O⟩ pv ov C { t with kind:=5,src:=bxV s r.z }:=by
 have HW:Hid _:=h
 have Hz:Hid (Zb s r.z):=hz
 have b1:((pk s r.z:Int) == 91) = false:=bF (by omega)
 clear h hz he
 go_enter func122,ntmps122
 go_wp2_with fail
 refine (peek_fn _ kp s _ _ _ HW.out.rp.rd Hz.out).mono ?_
 rintro x w1 ⟨rfl,hF1⟩
 have HW:Hid _:=HW.out.no hF1
 have d0:=HW.out.pt.c 0 _ rfl
 have g0:=HW.out.pt.f 0
 go_wp2_with fail
 have HW:Hid _:=HW.out.setK 5
 clear d0 g0
 refine (box_fn _ kp s _ _ _ HW.out.rp.rd Hz.out).mono ?_
 rintro x w2 ⟨rfl,hR,hF⟩
 have HW:Hid _:=HW.out.step hF hR
 have d5:=HW.out.pt.c 4 _ rfl
 have g5:=HW.out.pt.f 4
 clear hR hF
 go_wp2
 go_end0
 exact ⟨rfl,HW.out.setS (bxV s r.z)⟩
theorem toBox_store (w:World) (kp base:Nat) (s:ByteArray) (r:Rs) (pv ov:Value) (h:RdP w kp base s r pv ov (cloL r.P)) (hC:cloL r.P r.P.length = 0) (hz:Zb s r.z) (hb:base ≤ w.heap.size) (hl:r.P.length ≤ 90001) (he:pk s (bx s r.z) = 91) :
  Calls prog 93 #[.pointer (some ⟨kp,0,none⟩)] w fun x w'=>PartSays kp base s (rBox s r) w x w':=by
 obtain ⟨i0,hi0,hz0,hz1,hz2⟩:=info_parts Tryz.infoPart
 obtain ⟨ao,cap,rfl⟩:=owns_form h.pr
 obtain ⟨z0,P,O⟩:=r
 try simp only [] at h hz hl hC ⊢
 have HR:Hid (RdP w kp base s ⟨z0,P,O⟩ (.slice ao P.length cap) ov (cloL P)):=h
 have HC0:Hid (cloL P P.length = 0):=hC
 have Hz0:Hid (Zb s z0):=hz
 have c1:=h.rd.c1
 try simp only [] at c1
 have hkl:=h.rd.lt
 clear h hz hC
 have HE:Hid (rBox s ⟨z0,P,O⟩ = ⟨tk s 59 (op s (tk s 61 (ix s (bx s z0)))),P ++ [⟨6,z0.1,0,bxV s z0,0,ixV s (bx s z0),0,opV s (tk s 61 (ix s (bx s z0))),0⟩],O⟩):=by show rBox s ⟨z0,P,O⟩ = _;unfold rBox;rw [if_pos he]
 have HQ:Hid (pk s (bx s z0) = 91):=he
 clear he
 generalize hCl:cloL P = C at *
 have HCl:Hid (cloL P = C):=hCl
 clear hCl
 have HW:Hid _:=Wk.start HR.out hb ⟨6,z0.1,0,0,0,.v 0,0,.v 0,0⟩
 unfold ptC odB odI at HW
 try simp only [] at HW
 go_enter func93,ntmps93
 go_upto_region 1 with fail
 generalize (w.alloc _) = W0 at *
 generalize hpb:w.heap.size = pb at *
 clear hpb
 go_wp2_with fail
 refine (box_fn _ kp s z0 _ _ HW.out.rp.rd Hz0.out).mono ?_
 rintro x w1 ⟨rfl,hR,hF⟩
 have HW:Hid _:=HW.out.step hF hR
 have Hz1:Hid (Zb s (bx s z0)):=Hz0.out.bx
 try simp only [] at HW
 clear hR hF
 generalize bx s z0 = z1 at *
 have d1:=HW.out.pt.c 3 _ rfl
 have g1:=HW.out.pt.f 3
 try simp only [] at d1
 have HPk:Hid (∀ X:World,Rd X kp s z1 (.slice ao P.length cap) ov → CR 89 #[.pointer (some ⟨kp,0,none⟩)] X (.int .u8 ((91:Nat):Int))):=fun X hX=>by
  have:=peek_fn X kp s z1 _ _ hX Hz1.out
  rwa [HQ.out] at this
 go_wp2_with fail
 have HW:Hid _:=HW.out.setB (bxV s z0)
 clear d1 g1
 try simp only [] at HW
 refine (HPk.out _ HW.out.rp.rd).mono ?_
 rintro x w2 ⟨rfl,hF⟩
 have HW:Hid _:=HW.out.no hF
 clear hF HPk
 go_wp2_with fail
 refine (index_fn _ kp s z1 _ _ HW.out.rp.rd Hz1.out).mono ?_
 rintro x w3 ⟨rfl,hR,hF⟩
 have HW:Hid _:=HW.out.step hF hR
 have Hz3:Hid (Zb s (ix s z1)):=Hz1.out.ix
 try simp only [] at HW
 clear hR hF
 unfold odW
 generalize ix s z1 = z3 at *
 have d3:=HW.out.pt.c 5 _ rfl
 have g3:=HW.out.pt.f 5
 have d3':=HW.out.pt.c 6 _ rfl
 have g3':=HW.out.pt.f 6
 try simp only [] at d3 d3'
 go_wp2_with fail
 have HW:Hid _:=HW.out.set1 (ixV s z1)
 clear d3 g3 d3' g3'
 try simp only [] at HW
 refine (take_fn _ kp s z3 _ _ HW.out.rp.rd Hz3.out 61 (by decide)).mono ?_
 rintro x w4 ⟨rfl,hR,hF⟩
 have HW:Hid _:=HW.out.step hF hR
 have Hz4:Hid (Zb s (tk s 61 z3)):=Hz3.out.tk (by decide)
 try simp only [] at HW
 clear hR hF
 generalize tk s 61 z3 = z4 at *
 go_wp2_with fail
 refine (operand_fn _ kp s z4 _ _ HW.out.rp.rd Hz4.out).mono ?_
 rintro x w5 ⟨rfl,hR,hF⟩
 have HW:Hid _:=HW.out.step hF hR
 have Hz5:Hid (Zb s (op s z4)):=Hz4.out.op
 try simp only [] at HW
 clear hR hF
 unfold odW
 generalize op s z4 = z5 at *
 have d5:=HW.out.pt.c 8 _ rfl
 have g5:=HW.out.pt.f 8
 have d5':=HW.out.pt.c 9 _ rfl
 have g5':=HW.out.pt.f 9
 try simp only [] at d5 d5'
 go_wp2_with fail
 have HW:Hid _:=HW.out.setO2 (opV s z4)
 clear d5 g5 d5' g5'
 try simp only [] at HW
 refine (take_fn _ kp s z5 _ _ HW.out.rp.rd Hz5.out 59 (by decide)).mono ?_
 rintro x w6 ⟨rfl,hR,hF⟩
 have HW:Hid _:=HW.out.step hF hR
 have Hz6:Hid (Zb s (tk s 59 z5)):=Hz5.out.tk (by decide)
 try simp only [] at HW
 clear hR hF
 generalize tk s 59 z5 = z6 at *
 have HT:Hid _:=HW.out
 clear HW
 generalize hT:(⟨_,_,_,_,_,_,_,_,_⟩:Pt) = tt at HT
 have HTT:Hid _:=hT
 clear hT
 have hrow:=HT.out.rp.pr
 have e0:=HT.out.pt.c 0 _ rfl
 have e1:=HT.out.pt.c 1 _ rfl
 have e2:=HT.out.pt.c 2 _ rfl
 have e3:=HT.out.pt.c 3 _ rfl
 have e4:=HT.out.pt.c 4 _ rfl
 have e5:=HT.out.pt.c 5 _ rfl
 have e6:=HT.out.pt.c 6 _ rfl
 have e7:=HT.out.pt.c 7 _ rfl
 have e8:=HT.out.pt.c 8 _ rfl
 have e9:=HT.out.pt.c 9 _ rfl
 have e10:=HT.out.pt.c 10 _ rfl
 have e11:=HT.out.pt.c 11 _ rfl
 have eP:=HT.out.rp.rd.c2
 have hsz:=HT.out.fr.size
 have hbb:=HT.out.hb
 have hkl2:=HT.out.rp.rd.lt
 have hpl2:=HT.out.pt.lt
 try simp only [] at hrow eP
 go_upto_region 9 with fail
 go_region_law ((refine step_append_kind rfl _ _ 84 rfl base 121 i0 _ 12 96 underlying84 hi0 hz0 hz1 hz2 rfl (by decide) _ _ _ rfl ((hrow.alloc _).drew) ⟨w6.heap.size,0,none⟩ 1 1 [.int .i64 tt.kind,.int .i64 tt.place,.int .i64 tt.num,.int .i64 tt.box,.int .i64 tt.src,.bool (odB tt.o1),.int .i64 (odI tt.o1:Int),.int .u8 tt.sign,.bool (odB tt.o2),.int .i64 (odI tt.o2:Int),.int .i64 tt.opn,.int .i64 ((0:Nat):Int)] (by decide) rfl rfl nwD (by intro u hu;simp at hu;rcases hu with rfl | rfl | rfl | rfl | rfl | rfl | rfl | rfl | rfl | rfl | rfl | rfl <;> rfl) (by unfold maxLen;omega) (by omega) (by simp;omega) ?_;intro v2 wv hown2 hk2;obtain ⟨y1,y2,y3,y4⟩:=HT.out.rp.growP (t:=tt) HC0.out hk2 hown2;obtain ⟨gb,cb,hve,_⟩:=hk2.place;subst hve;have HG:=show Hid (_ ∧ _) from ⟨y3,y4⟩;clear y3 y4 hown2 hk2))
 all_goals
  go_wp2
  go_end0
  exact PartSays.plain HE.out rfl (by rw [← HTT.out] at HG;exact HG.out.1) HCl.out (HT.out.fr.trans HG.out.2)
theorem toBox_make (w:World) (kp base:Nat) (s:ByteArray) (r:Rs) (pv ov:Value) (h:RdP w kp base s r pv ov (cloL r.P)) (hC:cloL r.P r.P.length = 0) (hz:Zb s r.z) (hb:base ≤ w.heap.size) (hl:r.P.length ≤ 90001) (he:pk s (bx s r.z) ≠ 91) (he2:pk s (tk s 61 (bx s r.z)) = 91) :
  Calls prog 93 #[.pointer (some ⟨kp,0,none⟩)] w fun x w'=>PartSays kp base s (rBox s r) w x w':=by
 obtain ⟨i0,hi0,hz0,hz1,hz2⟩:=info_parts Tryz.infoPart
 obtain ⟨ao,cap,rfl⟩:=owns_form h.pr
 obtain ⟨z0,P,O⟩:=r
 try simp only [] at h hz hl hC ⊢
 have HR:Hid (RdP w kp base s ⟨z0,P,O⟩ (.slice ao P.length cap) ov (cloL P)):=h
 have HC0:Hid (cloL P P.length = 0):=hC
 have Hz0:Hid (Zb s z0):=hz
 have c1:=h.rd.c1
 try simp only [] at c1
 have hkl:=h.rd.lt
 clear h hz hC
 have HE:Hid (rBox s ⟨z0,P,O⟩ = ⟨tk s 59 (ix s (tk s 61 (bx s z0))),P ++ [⟨4,z0.1,0,bxV s z0,0,ixV s (tk s 61 (bx s z0)),0,.v 0,0⟩],O⟩):=by show rBox s ⟨z0,P,O⟩ = _;unfold rBox;rw [if_neg he,if_pos he2]
 have HQ:Hid (pk s (bx s z0) ≠ 91):=he
 have HQ2:Hid (pk s (tk s 61 (bx s z0)) = 91):=he2
 clear he he2
 generalize hCl:cloL P = C at *
 have HCl:Hid (cloL P = C):=hCl
 clear hCl
 have HW:Hid _:=Wk.start HR.out hb ⟨6,z0.1,0,0,0,.v 0,0,.v 0,0⟩
 unfold ptC odB odI at HW
 try simp only [] at HW
 go_enter func93,ntmps93
 go_upto_region 1 with fail
 generalize (w.alloc _) = W0 at *
 generalize hpb:w.heap.size = pb at *
 clear hpb
 go_wp2_with fail
 refine (box_fn _ kp s z0 _ _ HW.out.rp.rd Hz0.out).mono ?_
 rintro x w1 ⟨rfl,hR,hF⟩
 have HW:Hid _:=HW.out.step hF hR
 have Hz1:Hid (Zb s (bx s z0)):=Hz0.out.bx
 try simp only [] at HW
 clear hR hF
 generalize bx s z0 = z1 at *
 have d1:=HW.out.pt.c 3 _ rfl
 have g1:=HW.out.pt.f 3
 try simp only [] at d1
 have b1:((pk s z1:Int) == 91) = false:=beq_eq_false_iff_ne.2 (by have:=HQ.out;omega)
 have HPk:Hid (∀ X:World,Rd X kp s z1 (.slice ao P.length cap) ov → CR 89 #[.pointer (some ⟨kp,0,none⟩)] X (.int .u8 ((pk s z1:Nat):Int))):=fun X hX=>by
  have:=peek_fn X kp s z1 _ _ hX Hz1.out
  exact this
 go_wp2_with fail
 have HW:Hid _:=HW.out.setB (bxV s z0)
 clear d1 g1
 try simp only [] at HW
 refine (HPk.out _ HW.out.rp.rd).mono ?_
 rintro x w2 ⟨rfl,hF⟩
 have HW:Hid _:=HW.out.no hF
 clear hF HPk
 go_wp2_with fail
 refine (take_fn _ kp s z1 _ _ HW.out.rp.rd Hz1.out 61 (by decide)).mono ?_
 rintro x w3 ⟨rfl,hR,hF⟩
 have HW:Hid _:=HW.out.step hF hR
 have Hz3:Hid (Zb s (tk s 61 z1)):=Hz1.out.tk (by decide)
 try simp only [] at HW
 clear hR hF
 generalize tk s 61 z1 = z3 at *
 go_wp2_with fail
 refine (block_make w _ kp base pb s _ _ ov _ _ HW.out Hz3.out HQ2.out).mono ?_
 rintro x w4 ⟨rfl,hW⟩
 have HW:Hid _:=hW
 have Hz4:Hid (Zb s (ix s z3)):=Hz3.out.ix
 try simp only [] at HW
 clear hW
 generalize ix s z3 = z4 at *
 go_wp2_with fail
 refine (take_fn _ kp s z4 _ _ HW.out.rp.rd Hz4.out 59 (by decide)).mono ?_
 rintro x w5 ⟨rfl,hR,hF⟩
 have HW:Hid _:=HW.out.step hF hR
 have Hz5:Hid (Zb s (tk s 59 z4)):=Hz4.out.tk (by decide)
 try simp only [] at HW
 clear hR hF
 generalize tk s 59 z4 = z5 at *
 have HT:Hid _:=HW.out
 clear HW
 generalize hT:(⟨_,_,_,_,_,_,_,_,_⟩:Pt) = tt at HT
 have HTT:Hid _:=hT
 clear hT
 have hrow:=HT.out.rp.pr
 have e0:=HT.out.pt.c 0 _ rfl
 have e1:=HT.out.pt.c 1 _ rfl
 have e2:=HT.out.pt.c 2 _ rfl
 have e3:=HT.out.pt.c 3 _ rfl
 have e4:=HT.out.pt.c 4 _ rfl
 have e5:=HT.out.pt.c 5 _ rfl
 have e6:=HT.out.pt.c 6 _ rfl
 have e7:=HT.out.pt.c 7 _ rfl
 have e8:=HT.out.pt.c 8 _ rfl
 have e9:=HT.out.pt.c 9 _ rfl
 have e10:=HT.out.pt.c 10 _ rfl
 have e11:=HT.out.pt.c 11 _ rfl
 have eP:=HT.out.rp.rd.c2
 have hsz:=HT.out.fr.size
 have hbb:=HT.out.hb
 have hkl2:=HT.out.rp.rd.lt
 have hpl2:=HT.out.pt.lt
 try simp only [] at hrow eP
 go_upto_region 9 with fail
 go_region_law ((refine step_append_kind rfl _ _ 84 rfl base 121 i0 _ 12 96 underlying84 hi0 hz0 hz1 hz2 rfl (by decide) _ _ _ rfl ((hrow.alloc _).drew) ⟨w5.heap.size,0,none⟩ 1 1 [.int .i64 tt.kind,.int .i64 tt.place,.int .i64 tt.num,.int .i64 tt.box,.int .i64 tt.src,.bool (odB tt.o1),.int .i64 (odI tt.o1:Int),.int .u8 tt.sign,.bool (odB tt.o2),.int .i64 (odI tt.o2:Int),.int .i64 tt.opn,.int .i64 ((0:Nat):Int)] (by decide) rfl rfl nwD (by intro u hu;simp at hu;rcases hu with rfl | rfl | rfl | rfl | rfl | rfl | rfl | rfl | rfl | rfl | rfl | rfl <;> rfl) (by unfold maxLen;omega) (by omega) (by simp;omega) ?_;intro v2 wv hown2 hk2;obtain ⟨y1,y2,y3,y4⟩:=HT.out.rp.growP (t:=tt) HC0.out hk2 hown2;obtain ⟨gb,cb,hve,_⟩:=hk2.place;subst hve;have HG:=show Hid (_ ∧ _) from ⟨y3,y4⟩;clear y3 y4 hown2 hk2))
 all_goals
  go_wp2
  go_end0
  exact PartSays.plain HE.out rfl (by rw [← HTT.out] at HG;exact HG.out.1) HCl.out (HT.out.fr.trans HG.out.2)
theorem toBox_move (w:World) (kp base:Nat) (s:ByteArray) (r:Rs) (pv ov:Value) (h:RdP w kp base s r pv ov (cloL r.P)) (hC:cloL r.P r.P.length = 0) (hz:Zb s r.z) (hb:base ≤ w.heap.size) (hl:r.P.length ≤ 90001) (he:pk s (bx s r.z) ≠ 91) (he2:pk s (tk s 61 (bx s r.z)) ≠ 91) :
  Calls prog 93 #[.pointer (some ⟨kp,0,none⟩)] w fun x w'=>PartSays kp base s (rBox s r) w x w':=by
 obtain ⟨i0,hi0,hz0,hz1,hz2⟩:=info_parts Tryz.infoPart
 obtain ⟨ao,cap,rfl⟩:=owns_form h.pr
 obtain ⟨z0,P,O⟩:=r
 try simp only [] at h hz hl hC ⊢
 have HR:Hid (RdP w kp base s ⟨z0,P,O⟩ (.slice ao P.length cap) ov (cloL P)):=h
 have HC0:Hid (cloL P P.length = 0):=hC
 have Hz0:Hid (Zb s z0):=hz
 have c1:=h.rd.c1
 try simp only [] at c1
 have hkl:=h.rd.lt
 clear h hz hC
 have HE:Hid (rBox s ⟨z0,P,O⟩ = ⟨tk s 59 (bx s (tk s 61 (bx s z0))),P ++ [⟨5,z0.1,0,bxV s z0,bxV s (tk s 61 (bx s z0)),.v 0,0,.v 0,0⟩],O⟩):=by show rBox s ⟨z0,P,O⟩ = _;unfold rBox;rw [if_neg he,if_neg he2]
 have HQ:Hid (pk s (bx s z0) ≠ 91):=he
 have HQ2:Hid (pk s (tk s 61 (bx s z0)) ≠ 91):=he2
 clear he he2
 generalize hCl:cloL P = C at *
 have HCl:Hid (cloL P = C):=hCl
 clear hCl
 have HW:Hid _:=Wk.start HR.out hb ⟨6,z0.1,0,0,0,.v 0,0,.v 0,0⟩
 unfold ptC odB odI at HW
 try simp only [] at HW
 go_enter func93,ntmps93
 go_upto_region 1 with fail
 generalize (w.alloc _) = W0 at *
 generalize hpb:w.heap.size = pb at *
 clear hpb
 go_wp2_with fail
 refine (box_fn _ kp s z0 _ _ HW.out.rp.rd Hz0.out).mono ?_
 rintro x w1 ⟨rfl,hR,hF⟩
 have HW:Hid _:=HW.out.step hF hR
 have Hz1:Hid (Zb s (bx s z0)):=Hz0.out.bx
 try simp only [] at HW
 clear hR hF
 generalize bx s z0 = z1 at *
 have d1:=HW.out.pt.c 3 _ rfl
 have g1:=HW.out.pt.f 3
 try simp only [] at d1
 have b1:((pk s z1:Int) == 91) = false:=beq_eq_false_iff_ne.2 (by have:=HQ.out;omega)
 have HPk:Hid (∀ X:World,Rd X kp s z1 (.slice ao P.length cap) ov → CR 89 #[.pointer (some ⟨kp,0,none⟩)] X (.int .u8 ((pk s z1:Nat):Int))):=fun X hX=>by
  have:=peek_fn X kp s z1 _ _ hX Hz1.out
  exact this
 go_wp2_with fail
 have HW:Hid _:=HW.out.setB (bxV s z0)
 clear d1 g1
 try simp only [] at HW
 refine (HPk.out _ HW.out.rp.rd).mono ?_
 rintro x w2 ⟨rfl,hF⟩
 have HW:Hid _:=HW.out.no hF
 clear hF HPk
 go_wp2_with fail
 refine (take_fn _ kp s z1 _ _ HW.out.rp.rd Hz1.out 61 (by decide)).mono ?_
 rintro x w3 ⟨rfl,hR,hF⟩
 have HW:Hid _:=HW.out.step hF hR
 have Hz3:Hid (Zb s (tk s 61 z1)):=Hz1.out.tk (by decide)
 try simp only [] at HW
 clear hR hF
 generalize tk s 61 z1 = z3 at *
 go_wp2_with fail
 refine (block_move w _ kp base pb s _ _ ov _ _ HW.out Hz3.out HQ2.out).mono ?_
 rintro x w4 ⟨rfl,hW⟩
 have HW:Hid _:=hW
 have Hz4:Hid (Zb s (bx s z3)):=Hz3.out.bx
 try simp only [] at HW
 clear hW
 generalize bx s z3 = z4 at *
 go_wp2_with fail
 refine (take_fn _ kp s z4 _ _ HW.out.rp.rd Hz4.out 59 (by decide)).mono ?_
 rintro x w5 ⟨rfl,hR,hF⟩
 have HW:Hid _:=HW.out.step hF hR
 have Hz5:Hid (Zb s (tk s 59 z4)):=Hz4.out.tk (by decide)
 try simp only [] at HW
 clear hR hF
 generalize tk s 59 z4 = z5 at *
 have HT:Hid _:=HW.out
 clear HW
 generalize hT:(⟨_,_,_,_,_,_,_,_,_⟩:Pt) = tt at HT
 have HTT:Hid _:=hT
 clear hT
 have hrow:=HT.out.rp.pr
 have e0:=HT.out.pt.c 0 _ rfl
 have e1:=HT.out.pt.c 1 _ rfl
 have e2:=HT.out.pt.c 2 _ rfl
 have e3:=HT.out.pt.c 3 _ rfl
 have e4:=HT.out.pt.c 4 _ rfl
 have e5:=HT.out.pt.c 5 _ rfl
 have e6:=HT.out.pt.c 6 _ rfl
 have e7:=HT.out.pt.c 7 _ rfl
 have e8:=HT.out.pt.c 8 _ rfl
 have e9:=HT.out.pt.c 9 _ rfl
 have e10:=HT.out.pt.c 10 _ rfl
 have e11:=HT.out.pt.c 11 _ rfl
 have eP:=HT.out.rp.rd.c2
 have hsz:=HT.out.fr.size
 have hbb:=HT.out.hb
 have hkl2:=HT.out.rp.rd.lt
 have hpl2:=HT.out.pt.lt
 try simp only [] at hrow eP
 go_upto_region 9 with fail
 go_region_law ((refine step_append_kind rfl _ _ 84 rfl base 121 i0 _ 12 96 underlying84 hi0 hz0 hz1 hz2 rfl (by decide) _ _ _ rfl ((hrow.alloc _).drew) ⟨w5.heap.size,0,none⟩ 1 1 [.int .i64 tt.kind,.int .i64 tt.place,.int .i64 tt.num,.int .i64 tt.box,.int .i64 tt.src,.bool (odB tt.o1),.int .i64 (odI tt.o1:Int),.int .u8 tt.sign,.bool (odB tt.o2),.int .i64 (odI tt.o2:Int),.int .i64 tt.opn,.int .i64 ((0:Nat):Int)] (by decide) rfl rfl nwD (by intro u hu;simp at hu;rcases hu with rfl | rfl | rfl | rfl | rfl | rfl | rfl | rfl | rfl | rfl | rfl | rfl <;> rfl) (by unfold maxLen;omega) (by omega) (by simp;omega) ?_;intro v2 wv hown2 hk2;obtain ⟨y1,y2,y3,y4⟩:=HT.out.rp.growP (t:=tt) HC0.out hk2 hown2;obtain ⟨gb,cb,hve,_⟩:=hk2.place;subst hve;have HG:=show Hid (_ ∧ _) from ⟨y3,y4⟩;clear y3 y4 hown2 hk2))
 all_goals
  go_wp2
  go_end0
  exact PartSays.plain HE.out rfl (by rw [← HTT.out] at HG;exact HG.out.1) HCl.out (HT.out.fr.trans HG.out.2)
theorem toBox_fn (w:World) (kp base:Nat) (s:ByteArray) (r:Rs) (pv ov:Value) (h:RdP w kp base s r pv ov (cloL r.P)) (hC:cloL r.P r.P.length = 0) (hz:Zb s r.z) (hb:base ≤ w.heap.size) (hl:r.P.length ≤ 90001) :
  Calls prog 93 #[.pointer (some ⟨kp,0,none⟩)] w fun x w'=>PartSays kp base s (rBox s r) w x w':=by
 by_cases he:pk s (bx s r.z) = 91
 ·exact toBox_store w kp base s r pv ov h hC hz hb hl he
 ·by_cases he2:pk s (tk s 61 (bx s r.z)) = 91
  ·exact toBox_make w kp base s r pv ov h hC hz hb hl he he2
  ·exact toBox_move w kp base s r pv ov h hC hz hb hl he he2
end Go.Proofs.YthcjcjfgdgnljabGreatDoor
