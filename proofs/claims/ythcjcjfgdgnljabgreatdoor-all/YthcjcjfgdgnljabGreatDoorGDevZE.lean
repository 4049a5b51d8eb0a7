import Derived.Test.YthcjcjfgdgnljabGreatDoorGDevZC
import Derived.Test.YthcjcjfgdgnljabGreatDoorGDevZG
set_option linter.unusedVariables false
set_option maxHeartbeats 4000000
set_option maxRecDepth 8000
open Go.Proofs.Tryz
namespace Go.Proofs.YthcjcjfgdgnljabGreatDoor
open Go.RowKit
theorem RdP.cellAt {w:World} {kp base gp pc:Nat} {s:ByteArray} {r:Rs} {ov:Value} {C:Nat → Nat} (h:RdP w kp base s r (.slice (some ⟨gp,0,none⟩) r.P.length pc) ov C) {i j:Nat} {u:Value} (hi:i < r.P.length) (hj:j < 12) (hu:(ptC (pOf r.P i) (C i))[j]? = some u):w.cell? ⟨gp,i * 12 + j,none⟩ = some u :=
 owns_cell h.pr (by rw [ptsC_get _ _ _ _ hi hj];exact hu)
theorem RdP.frz {w:World} {kp base gp pc:Nat} {s:ByteArray} {r:Rs} {ov:Value} {C:Nat → Nat} (h:RdP w kp base s r (.slice (some ⟨gp,0,none⟩) r.P.length pc) ov C) (o:Nat):w.frozen? ⟨gp,o,none⟩ = false:=by
 rcases h.pr.2 with ⟨hv,_⟩ | ⟨g,cap,cur,hv,hb,hg,_⟩
 ·cases hv
 ·cases hv
  simp [World.frozen?,hg]
theorem PartSays.closed {kp base:Nat} {s:ByteArray} {R:Rs} {z':Nat × Nat} {P:List Pt} {O:List Nat} {t:Pt} {w w':World} {pv ov:Value} {C:Nat → Nat} {la:Nat} (hE:R = ⟨z',P ++ [t],O⟩) (hcl:closes t = true) (hla:t.opn = la) (hG:RdP w' kp base s ⟨z',P ++ [t],O⟩ pv ov (upN C la P.length)) (hCl:cloL P = C) (hF:Fr (StkS kp base) w w') :
  PartSays kp base s R w (.returned (.tuple #[])) w':=by
 subst hE hla
 refine ⟨rfl,⟨pv,ov,?_⟩,hF⟩
 have q:=clo_push P t
 rw [if_pos hcl] at q
 show RdP w' kp base s _ pv ov (cloL (P ++ [t]))
 rw [q,hCl]
 exact hG
theorem closing_nil (w:World) (kp base:Nat) (s:ByteArray) (r:Rs) (pv ov:Value) (h:RdP w kp base s r pv ov (cloL r.P)) (hO:r.O = []) :
  Calls prog 97 #[.pointer (some ⟨kp,0,none⟩)] w fun x w'=>PartSays kp base s (rClose s r) w x w':=by
 obtain ⟨z0,P,O⟩:=r
 simp only [] at hO
 subst hO
 obtain ⟨oo,oc,rfl⟩:=owns_form h.orow
 have c3:=h.rd.c3
 simp only [List.length_nil] at c3
 have HR:Hid (RdP w kp base s ⟨z0,P,[]⟩ pv (.slice oo 0 oc) (cloL P)):=h
 have HE:Hid (rClose s ⟨z0,P,[]⟩ = ⟨rf 2 z0,P,[]⟩):=by show rClose s ⟨z0,P,[]⟩ = _;unfold rClose;rw [if_pos rfl]
 clear h
 go_enter func97,ntmps97
 go_wp2_with (go_at_call 66;refine (refuse_fn _ kp s z0 pv _ HR.out.rd 2).mono ?_;rintro x w2 ⟨rfl,hR2,hF2⟩)
 exact bodyPost_ret (v:=.tuple #[]) (by simp [results,results97,go_sem]) rfl ⟨rfl,⟨_,_,by rw [HE.out];exact HR.out.step hF2 hR2⟩,hF2.mono (fun k _ e=>.inl e)⟩
theorem closing_join (w:World) (kp base:Nat) (s:ByteArray) (z0:Nat × Nat) (P:List Pt) (O1:List Nat) (la:Nat) (pv ov:Value) (h:RdP w kp base s ⟨z0,P,O1 ++ [la]⟩ pv ov (cloL P)) (hC:cloL P P.length = 0) (hz:Zb s z0) (hb:base ≤ w.heap.size) (hl:P.length ≤ 90001) (hlo:O1.length ≤ 90000) (hla:la < P.length) (hk:(pOf P la).kind = 9) :
  Calls prog 97 #[.pointer (some ⟨kp,0,none⟩)] w fun x w'=>PartSays kp base s (rClose s ⟨z0,P,O1 ++ [la]⟩) w x w':=by
 obtain ⟨i0,hi0,hz0,hz1,hz2⟩:=info_parts Tryz.infoPart
 obtain ⟨i1,hi1,hy0,hy1,hy2⟩:=info_parts Tryz.infoInt
 have hlast:(O1 ++ [la]).getLast?.getD 0 = la:=by simp
 have hdrop:(O1 ++ [la]).dropLast = O1:=by simp
 have hnil:¬ (O1 ++ [la] = []):=by simp
 have HE:Hid (rClose s ⟨z0,P,O1 ++ [la]⟩ = ⟨tk s 125 z0,P ++ [⟨10,z0.1,0,0,0,.v 0,0,.v 0,la⟩],O1⟩):=by show rClose s ⟨z0,P,O1 ++ [la]⟩ = _;unfold rClose;simp only [];rw [if_neg hnil,hlast,hdrop,if_neg (by omega),if_pos hk]
 clear hlast hdrop hnil
 obtain ⟨go,oc,rfl,hoc1,hoc2,hco⟩:=h.openTop
 obtain ⟨gp,cap,rfl,hgp,_,_⟩:=h.part (show 0 < P.length by omega)
 simp only [] at h
 unfold maxLen at hoc2
 generalize hCl:cloL P = C at *
 have HCl:Hid (cloL P = C):=hCl
 clear hCl
 have HC0:Hid (upN C la P.length P.length = 0):=by show upN C la P.length P.length = 0;rw [upN_ne _ _ (by omega)];exact hC
 have HR:Hid (RdP w kp base s ⟨z0,P,O1 ++ [la]⟩ (.slice (some ⟨gp,0,none⟩) P.length cap) (.slice (some ⟨go,0,none⟩) (O1.length + 1) oc) C):=h
 have Hz0:Hid (Zb s z0):=hz
 have c1:=h.rd.c1
 have c3:=h.rd.c3
 simp only [] at c1
 have hkl:=h.rd.lt
 have hgol:go < w.heap.size:=(owns_base h.orow (g:=go) rfl).2
 have hgk:gp ≠ kp:=fun e=>by have:=owns_base h.pr (g:=gp) rfl;have:=h.kb;omega
 clear h hz hC
 have HW:Hid _:=(Wk.start HR.out hb ⟨0,z0.1,0,0,0,.v 0,0,.v 0,la⟩).no ((Fr.refl _ _).drew)
 unfold ptC odB odI at HW
 simp only [] at HW
 go_enter func97,ntmps97
 go_upto_region 3 with fail
 go_region
 have hgp2:gp ≠ w.heap.size:=by omega
 generalize (w.alloc _).drew = W0 at *
 generalize hpb:w.heap.size = pb at *
 clear hpb c1 c3 hco
 have c3:=HW.out.rp.rd.c3
 have f3:=HW.out.rp.rd.f 3
 go_upto_region 5 with fail
 have HW:Hid _:=HW.out.popO
 clear c3 f3
 generalize (World.setCell W0 _ _) = W1 at *
 have c2:=HW.out.rp.rd.c2
 have d10:=HW.out.pt.c 10 _ rfl
 have k11:=HW.out.rp.cellAt (i:=la) (j:=11) hla (by omega) rfl
 have kf:=HW.out.rp.frz (la * 12 + 11)
 have hpl1:=HW.out.pt.lt
 have hgl1:gp < W1.heap.size:=World.block_lt_of_cell? _ _ k11
 try simp only [] at d10 c2 k11
 go_region
 have HW:Hid _:=(HW.out.setC (la:=la) hla P.length).no ((Fr.refl _ _).drew)
 clear c2 d10 k11 kf
 generalize (World.setCell W1 _ _).drew = W2 at *
 go_wp2_with fail
 refine (take_fn _ kp s z0 _ _ HW.out.rp.rd Hz0.out 125 (by decide)).mono ?_
 rintro x w2 ⟨rfl,hR2,hF2⟩
 have HW:Hid _:=HW.out.step hF2 hR2
 have Hz2:Hid (Zb s (tk s 125 z0)):=Hz0.out.tk (by decide)
 try simp only [] at HW
 clear hR2 hF2
 generalize tk s 125 z0 = z2 at *
 have c2:=HW.out.rp.rd.c2
 have d10:=HW.out.pt.c 10 _ rfl
 have ck:w2.cell? ⟨gp,la * 12,none⟩ = _:=HW.out.rp.cellAt (i:=la) (j:=0) hla (by omega) rfl
 try simp only [] at d10 ck c2
 rw [hk] at ck
 go_upto_region 7 with fail
 go_quiet (fail)
 have HW:Hid _:=HW.out.no ((Fr.refl _ w2).drewN nq)
 generalize hw3:w2.drewN nq = w3 at *
 clear hw3 c2 d10 ck
 have d0:=HW.out.pt.c 0 _ rfl
 have g0:=HW.out.pt.f 0
 try simp only [] at d0
 go_upto_region 15 with fail
 have HW:Hid _:=HW.out.setK 10
 clear d0 g0
 try simp only [] at HW
 generalize hw4:(w3.setCell ⟨pb,0,none⟩ _) = w4 at *
 clear hw4
 have HT:Hid _:=HW.out
 clear HW
 generalize hT:(⟨_,_,_,_,_,_,_,_,_⟩:Pt) = tt at HT
 have HTT:Hid _:=hT
 clear hT
 have hrow:=HT.out.rp.pr
 have e0:=HT.out.pt.c 0 _ rfl
 have e1:=HT.out.pt.c 1 _ rfl
 have e2:=HT.out.pt.c 2 _ rfl
 have e3:=HT.out.pt.c 3 _ rfl
 have e4:=HT.out.pt.c 4 _ rfl
 have e5:=HT.out.pt.c 5 _ rfl
 have e6:=HT.out.pt.c 6 _ rfl
 have e7:=HT.out.pt.c 7 _ rfl
 have e8:=HT.out.pt.c 8 _ rfl
 have e9:=HT.out.pt.c 9 _ rfl
 have e10:=HT.out.pt.c 10 _ rfl
 have e11:=HT.out.pt.c 11 _ rfl
 have eP:=HT.out.rp.rd.c2
 have hsz:=HT.out.fr.size
 have hbb:=HT.out.hb
 have hkl2:=HT.out.rp.rd.lt
 have hpl2:=HT.out.pt.lt
 try simp only [] at hrow eP
 go_upto_region 15 with fail
 go_region_law ((refine step_append_kind rfl _ _ 84 rfl base 121 i0 _ 12 96 underlying84 hi0 hz0 hz1 hz2 rfl (by decide) _ _ _ rfl ((hrow.alloc _).drew) ⟨w4.heap.size,0,none⟩ 1 1 [.int .i64 tt.kind,.int .i64 tt.place,.int .i64 tt.num,.int .i64 tt.box,.int .i64 tt.src,.bool (odB tt.o1),.int .i64 (odI tt.o1:Int),.int .u8 tt.sign,.bool (odB tt.o2),.int .i64 (odI tt.o2:Int),.int .i64 tt.opn,.int .i64 ((0:Nat):Int)] (by decide) rfl rfl nwD (by intro u hu;simp at hu;rcases hu with rfl | rfl | rfl | rfl | rfl | rfl | rfl | rfl | rfl | rfl | rfl | rfl <;> rfl) (by unfold maxLen;omega) (by omega) (by simp;omega) ?_;intro v2 wv hown2 hk2;obtain ⟨y1,y2,y3,y4⟩:=HT.out.rp.growP (t:=tt) HC0.out hk2 hown2;obtain ⟨gb,cb,hve,_⟩:=hk2.place;subst hve;have HG:=show Hid (_ ∧ _) from ⟨y3,y4⟩;clear y3 y4 hown2 hk2))
 all_goals
  go_wp2
  go_end0
  exact PartSays.closed (la:=la) HE.out rfl rfl (by rw [← HTT.out] at HG;exact HG.out.1) HCl.out (HT.out.fr.trans HG.out.2)
theorem closing_again (w:World) (kp base:Nat) (s:ByteArray) (z0:Nat × Nat) (P:List Pt) (O1:List Nat) (la:Nat) (pv ov:Value) (h:RdP w kp base s ⟨z0,P,O1 ++ [la]⟩ pv ov (cloL P)) (hC:cloL P P.length = 0) (hz:Zb s z0) (hb:base ≤ w.heap.size) (hl:P.length ≤ 90001) (hlo:O1.length ≤ 90000) (hla:la < P.length) (hk:(pOf P la).kind ≠ 8) (hk8:(pOf P la).kind ≠ 9) :
  Calls prog 97 #[.pointer (some ⟨kp,0,none⟩)] w fun x w'=>PartSays kp base s (rClose s ⟨z0,P,O1 ++ [la]⟩) w x w':=by
 obtain ⟨i0,hi0,hz0,hz1,hz2⟩:=info_parts Tryz.infoPart
 obtain ⟨i1,hi1,hy0,hy1,hy2⟩:=info_parts Tryz.infoInt
 have hlast:(O1 ++ [la]).getLast?.getD 0 = la:=by simp
 have hdrop:(O1 ++ [la]).dropLast = O1:=by simp
 have hnil:¬ (O1 ++ [la] = []):=by simp
 have HE:Hid (rClose s ⟨z0,P,O1 ++ [la]⟩ = ⟨tk s 125 z0,P ++ [⟨12,z0.1,0,0,0,.v 0,0,.v 0,la⟩],O1⟩):=by show rClose s ⟨z0,P,O1 ++ [la]⟩ = _;unfold rClose;simp only [];rw [if_neg hnil,hlast,hdrop,if_neg hk,if_neg hk8]
 have b7:(((pOf P la).kind:Int) == 8) = false:=bF (by omega)
 have b8:(((pOf P la).kind:Int) == 9) = false:=bF (by omega)
 clear hlast hdrop hnil
 obtain ⟨go,oc,rfl,hoc1,hoc2,hco⟩:=h.openTop
 obtain ⟨gp,cap,rfl,hgp,_,_⟩:=h.part (show 0 < P.length by omega)
 simp only [] at h
 unfold maxLen at hoc2
 generalize hCl:cloL P = C at *
 have HCl:Hid (cloL P = C):=hCl
 clear hCl
 have HC0:Hid (upN C la P.length P.length = 0):=by show upN C la P.length P.length = 0;rw [upN_ne _ _ (by omega)];exact hC
 have HR:Hid (RdP w kp base s ⟨z0,P,O1 ++ [la]⟩ (.slice (some ⟨gp,0,none⟩) P.length cap) (.slice (some ⟨go,0,none⟩) (O1.length + 1) oc) C):=h
 have Hz0:Hid (Zb s z0):=hz
 have c1:=h.rd.c1
 have c3:=h.rd.c3
 simp only [] at c1
 have hkl:=h.rd.lt
 have hgol:go < w.heap.size:=(owns_base h.orow (g:=go) rfl).2
 have hgk:gp ≠ kp:=fun e=>by have:=owns_base h.pr (g:=gp) rfl;have:=h.kb;omega
 clear h hz hC
 have HW:Hid _:=(Wk.start HR.out hb ⟨0,z0.1,0,0,0,.v 0,0,.v 0,la⟩).no ((Fr.refl _ _).drew)
 unfold ptC odB odI at HW
 simp only [] at HW
 go_enter func97,ntmps97
 go_upto_region 3 with fail
 go_region
 have hgp2:gp ≠ w.heap.size:=by omega
 generalize (w.alloc _).drew = W0 at *
 generalize hpb:w.heap.size = pb at *
 clear hpb c1 c3 hco
 have c3:=HW.out.rp.rd.c3
 have f3:=HW.out.rp.rd.f 3
 go_upto_region 5 with fail
 have HW:Hid _:=HW.out.popO
 clear c3 f3
 generalize (World.setCell W0 _ _) = W1 at *
 have c2:=HW.out.rp.rd.c2
 have d10:=HW.out.pt.c 10 _ rfl
 have k11:=HW.out.rp.cellAt (i:=la) (j:=11) hla (by omega) rfl
 have kf:=HW.out.rp.frz (la * 12 + 11)
 have hpl1:=HW.out.pt.lt
 have hgl1:gp < W1.heap.size:=World.block_lt_of_cell? _ _ k11
 try simp only [] at d10 c2 k11
 go_region
 have HW:Hid _:=(HW.out.setC (la:=la) hla P.length).no ((Fr.refl _ _).drew)
 clear c2 d10 k11 kf
 generalize (World.setCell W1 _ _).drew = W2 at *
 go_wp2_with fail
 refine (take_fn _ kp s z0 _ _ HW.out.rp.rd Hz0.out 125 (by decide)).mono ?_
 rintro x w2 ⟨rfl,hR2,hF2⟩
 have HW:Hid _:=HW.out.step hF2 hR2
 have Hz2:Hid (Zb s (tk s 125 z0)):=Hz0.out.tk (by decide)
 try simp only [] at HW
 clear hR2 hF2
 generalize tk s 125 z0 = z2 at *
 have c2:=HW.out.rp.rd.c2
 have d10:=HW.out.pt.c 10 _ rfl
 have ck:w2.cell? ⟨gp,la * 12,none⟩ = _:=HW.out.rp.cellAt (i:=la) (j:=0) hla (by omega) rfl
 try simp only [] at d10 ck c2
 go_upto_region 7 with fail
 go_quiet (fail)
 have HW:Hid _:=HW.out.no ((Fr.refl _ w2).drewN nq)
 generalize hw3:w2.drewN nq = w3 at *
 clear hw3 c2 d10 ck
 have d0:=HW.out.pt.c 0 _ rfl
 have g0:=HW.out.pt.f 0
 try simp only [] at d0
 go_upto_region 15 with fail
 have HW:Hid _:=HW.out.setK 12
 clear d0 g0
 try simp only [] at HW
 generalize hw4:(w3.setCell ⟨pb,0,none⟩ _) = w4 at *
 clear hw4
 have HT:Hid _:=HW.out
 clear HW
 generalize hT:(⟨_,_,_,_,_,_,_,_,_⟩:Pt) = tt at HT
 have HTT:Hid _:=hT
 clear hT
 have hrow:=HT.out.rp.pr
 have e0:=HT.out.pt.c 0 _ rfl
 have e1:=HT.out.pt.c 1 _ rfl
 have e2:=HT.out.pt.c 2 _ rfl
 have e3:=HT.out.pt.c 3 _ rfl
 have e4:=HT.out.pt.c 4 _ rfl
 have e5:=HT.out.pt.c 5 _ rfl
 have e6:=HT.out.pt.c 6 _ rfl
 have e7:=HT.out.pt.c 7 _ rfl
 have e8:=HT.out.pt.c 8 _ rfl
 have e9:=HT.out.pt.c 9 _ rfl
 have e10:=HT.out.pt.c 10 _ rfl
 have e11:=HT.out.pt.c 11 _ rfl
 have eP:=HT.out.rp.rd.c2
 have hsz:=HT.out.fr.size
 have hbb:=HT.out.hb
 have hkl2:=HT.out.rp.rd.lt
 have hpl2:=HT.out.pt.lt
 try simp only [] at hrow eP
 go_upto_region 15 with fail
 go_region_law ((refine step_append_kind rfl _ _ 84 rfl base 121 i0 _ 12 96 underlying84 hi0 hz0 hz1 hz2 rfl (by decide) _ _ _ rfl ((hrow.alloc _).drew) ⟨w4.heap.size,0,none⟩ 1 1 [.int .i64 tt.kind,.int .i64 tt.place,.int .i64 tt.num,.int .i64 tt.box,.int .i64 tt.src,.bool (odB tt.o1),.int .i64 (odI tt.o1:Int),.int .u8 tt.sign,.bool (odB tt.o2),.int .i64 (odI tt.o2:Int),.int .i64 tt.opn,.int .i64 ((0:Nat):Int)] (by decide) rfl rfl nwD (by intro u hu;simp at hu;rcases hu with rfl | rfl | rfl | rfl | rfl | rfl | rfl | rfl | rfl | rfl | rfl | rfl <;> rfl) (by unfold maxLen;omega) (by omega) (by simp;omega) ?_;intro v2 wv hown2 hk2;obtain ⟨y1,y2,y3,y4⟩:=HT.out.rp.growP (t:=tt) HC0.out hk2 hown2;obtain ⟨gb,cb,hve,_⟩:=hk2.place;subst hve;have HG:=show Hid (_ ∧ _) from ⟨y3,y4⟩;clear y3 y4 hown2 hk2))
 all_goals
  go_wp2
  go_end0
  exact PartSays.closed (la:=la) HE.out rfl rfl (by rw [← HTT.out] at HG;exact HG.out.1) HCl.out (HT.out.fr.trans HG.out.2)
theorem closing_middle (w:World) (kp base:Nat) (s:ByteArray) (z0:Nat × Nat) (P:List Pt) (O1:List Nat) (la:Nat) (pv ov:Value) (h:RdP w kp base s ⟨z0,P,O1 ++ [la]⟩ pv ov (cloL P)) (hC:cloL P P.length = 0) (hz:Zb s z0) (hb:base ≤ w.heap.size) (hl:P.length ≤ 90001) (hlo:O1.length ≤ 90000) (hla:la < P.length) (hk:(pOf P la).kind = 8) :
  Calls prog 97 #[.pointer (some ⟨kp,0,none⟩)] w fun x w'=>PartSays kp base s (rClose s ⟨z0,P,O1 ++ [la]⟩) w x w':=by
 obtain ⟨i0,hi0,hz0,hz1,hz2⟩:=info_parts Tryz.infoPart
 obtain ⟨i1,hi1,hy0,hy1,hy2⟩:=info_parts Tryz.infoInt
 have hlast:(O1 ++ [la]).getLast?.getD 0 = la:=by simp
 have hdrop:(O1 ++ [la]).dropLast = O1:=by simp
 have hnil:¬ (O1 ++ [la] = []):=by simp
 have HE:Hid (rClose s ⟨z0,P,O1 ++ [la]⟩ = ⟨tk s 123 (tk s 125 z0),P ++ [⟨9,z0.1,0,0,0,.v 0,0,.v 0,la⟩],O1 ++ [P.length]⟩):=by show rClose s ⟨z0,P,O1 ++ [la]⟩ = _;unfold rClose;simp only [];rw [if_neg hnil,hlast,hdrop,if_pos hk]
 clear hlast hdrop hnil
 obtain ⟨go,oc,rfl,hoc1,hoc2,hco⟩:=h.openTop
 obtain ⟨gp,cap,rfl,hgp,_,_⟩:=h.part (show 0 < P.length by omega)
 simp only [] at h
 unfold maxLen at hoc2
 generalize hCl:cloL P = C at *
 have HCl:Hid (cloL P = C):=hCl
 clear hCl
 have HC0:Hid (upN C la P.length P.length = 0):=by show upN C la P.length P.length = 0;rw [upN_ne _ _ (by omega)];exact hC
 have HR:Hid (RdP w kp base s ⟨z0,P,O1 ++ [la]⟩ (.slice (some ⟨gp,0,none⟩) P.length cap) (.slice (some ⟨go,0,none⟩) (O1.length + 1) oc) C):=h
 have Hz0:Hid (Zb s z0):=hz
 have c1:=h.rd.c1
 have c3:=h.rd.c3
 simp only [] at c1
 have hkl:=h.rd.lt
 have hgol:go < w.heap.size:=(owns_base h.orow (g:=go) rfl).2
 have hgk:gp ≠ kp:=fun e=>by have:=owns_base h.pr (g:=gp) rfl;have:=h.kb;omega
 clear h hz hC
 have HW:Hid _:=(Wk.start HR.out hb ⟨0,z0.1,0,0,0,.v 0,0,.v 0,la⟩).no ((Fr.refl _ _).drew)
 unfold ptC odB odI at HW
 simp only [] at HW
 go_enter func97,ntmps97
 go_upto_region 3 with fail
 go_region
 have hgp2:gp ≠ w.heap.size:=by omega
 generalize (w.alloc _).drew = W0 at *
 generalize hpb:w.heap.size = pb at *
 clear hpb c1 c3 hco
 have c3:=HW.out.rp.rd.c3
 have f3:=HW.out.rp.rd.f 3
 go_upto_region 5 with fail
 have HW:Hid _:=HW.out.popO
 clear c3 f3
 generalize (World.setCell W0 _ _) = W1 at *
 have c2:=HW.out.rp.rd.c2
 have d10:=HW.out.pt.c 10 _ rfl
 have k11:=HW.out.rp.cellAt (i:=la) (j:=11) hla (by omega) rfl
 have kf:=HW.out.rp.frz (la * 12 + 11)
 have hpl1:=HW.out.pt.lt
 have hgl1:gp < W1.heap.size:=World.block_lt_of_cell? _ _ k11
 try simp only [] at d10 c2 k11
 go_region
 have HW:Hid _:=(HW.out.setC (la:=la) hla P.length).no ((Fr.refl _ _).drew)
 clear c2 d10 k11 kf
 generalize (World.setCell W1 _ _).drew = W2 at *
 go_wp2_with fail
 refine (take_fn _ kp s z0 _ _ HW.out.rp.rd Hz0.out 125 (by decide)).mono ?_
 rintro x w2 ⟨rfl,hR2,hF2⟩
 have HW:Hid _:=HW.out.step hF2 hR2
 have Hz2:Hid (Zb s (tk s 125 z0)):=Hz0.out.tk (by decide)
 try simp only [] at HW
 clear hR2 hF2
 generalize tk s 125 z0 = z2 at *
 have c2:=HW.out.rp.rd.c2
 have d10:=HW.out.pt.c 10 _ rfl
 have ck:w2.cell? ⟨gp,la * 12,none⟩ = _:=HW.out.rp.cellAt (i:=la) (j:=0) hla (by omega) rfl
 try simp only [] at d10 ck c2
 rw [hk] at ck
 go_upto_region 7 with fail
 go_quiet (fail)
 have HW:Hid _:=HW.out.no ((Fr.refl _ w2).drewN nq)
 generalize hw3:w2.drewN nq = w3 at *
 clear hw3 c2 d10 ck
 have d0:=HW.out.pt.c 0 _ rfl
 have g0:=HW.out.pt.f 0
 try simp only [] at d0
 go_wp2_with fail
 have HW:Hid _:=HW.out.setK 9
 clear d0 g0
 try simp only [] at HW
 refine (take_fn _ kp s z2 _ _ HW.out.rp.rd Hz2.out 123 (by decide)).mono ?_
 rintro x w5 ⟨rfl,hR5,hF5⟩
 have HW:Hid _:=HW.out.step hF5 hR5
 try simp only [] at HW
 clear hR5 hF5
 generalize tk s 123 z2 = z5 at *
 have hrowO:=HW.out.rp.orow
 have eO:=HW.out.rp.rd.c3
 have eP2:=HW.out.rp.rd.c2
 have hszO:=HW.out.fr.size
 have hbbO:=HW.out.hb
 have hklO:=HW.out.rp.rd.lt
 try simp only [] at hrowO eO eP2
 go_upto_region 12 with fail
 go_region_law ((refine step_append_kind rfl _ _ 58 rfl base 3 i1 (.int .i64 0) 1 8 underlying58 hi1 hy0 hy1 hy2 rfl (by decide) _ _ _ rfl ((hrowO.alloc _).drew) ⟨w5.heap.size,0,none⟩ 1 1 [.int .i64 P.length] (by decide) rfl rfl nwD (by intro u hu;simp at hu;subst hu;rfl) (by unfold maxLen;omega) (by omega) (by simp;omega) ?_;intro v3 wo hown3 hk3;obtain ⟨x1,x2,x3⟩:=HW.out.growO (t:=P.length) hk3 hown3;obtain ⟨gc,cc,hvo,_⟩:=hk3.place;subst hvo;have HX:=show Hid _ from x3;clear x3 hown3 hk3))
 all_goals
  clear HW hrowO eO eP2 hszO hbbO hklO x1 x2
  have HW:Hid _:=HX.out
  clear HX
  generalize hWO:(World.setCell _ ⟨kp,3,none⟩ _) = wc at *
  clear hWO
  have HT:Hid _:=HW.out
  clear HW
  generalize hT:(⟨_,_,_,_,_,_,_,_,_⟩:Pt) = tt at HT
  have HTT:Hid _:=hT
  clear hT
  have hrow:=HT.out.rp.pr
  have e0:=HT.out.pt.c 0 _ rfl
  have e1:=HT.out.pt.c 1 _ rfl
  have e2:=HT.out.pt.c 2 _ rfl
  have e3:=HT.out.pt.c 3 _ rfl
  have e4:=HT.out.pt.c 4 _ rfl
  have e5:=HT.out.pt.c 5 _ rfl
  have e6:=HT.out.pt.c 6 _ rfl
  have e7:=HT.out.pt.c 7 _ rfl
  have e8:=HT.out.pt.c 8 _ rfl
  have e9:=HT.out.pt.c 9 _ rfl
  have e10:=HT.out.pt.c 10 _ rfl
  have e11:=HT.out.pt.c 11 _ rfl
  have eP:=HT.out.rp.rd.c2
  have hsz:=HT.out.fr.size
  have hbb:=HT.out.hb
  have hkl2:=HT.out.rp.rd.lt
  have hpl2:=HT.out.pt.lt
  try simp only [] at hrow eP
  go_upto_region 15 with fail
  go_region_law ((refine step_append_kind rfl _ _ 84 rfl base 121 i0 _ 12 96 underlying84 hi0 hz0 hz1 hz2 rfl (by decide) _ _ _ rfl ((hrow.alloc _).drew) ⟨wc.heap.size,0,none⟩ 1 1 [.int .i64 tt.kind,.int .i64 tt.place,.int .i64 tt.num,.int .i64 tt.box,.int .i64 tt.src,.bool (odB tt.o1),.int .i64 (odI tt.o1:Int),.int .u8 tt.sign,.bool (odB tt.o2),.int .i64 (odI tt.o2:Int),.int .i64 tt.opn,.int .i64 ((0:Nat):Int)] (by decide) rfl rfl nwD (by intro u hu;simp at hu;rcases hu with rfl | rfl | rfl | rfl | rfl | rfl | rfl | rfl | rfl | rfl | rfl | rfl <;> rfl) (by unfold maxLen;omega) (by omega) (by simp;omega) ?_;intro v2 wv hown2 hk2;obtain ⟨y1,y2,y3,y4⟩:=HT.out.rp.growP (t:=tt) HC0.out hk2 hown2;obtain ⟨gb,cb,hve,_⟩:=hk2.place;subst hve;have HG:=show Hid (_ ∧ _) from ⟨y3,y4⟩;clear y3 y4 hown2 hk2))
  all_goals
   go_wp2
   go_end0
   exact PartSays.closed (la:=la) HE.out rfl rfl (by rw [← HTT.out] at HG;exact HG.out.1) HCl.out (HT.out.fr.trans HG.out.2)
theorem closing_fn (w:World) (kp base:Nat) (s:ByteArray) (r:Rs) (pv ov:Value) (h:RdP w kp base s r pv ov (cloL r.P)) (hC:cloL r.P r.P.length = 0) (hz:Zb s r.z) (hb:base ≤ w.heap.size) (hl:r.P.length ≤ 90001) (hlo:r.O.length ≤ 90001) (ho:∀ o,o ∈ r.O → o < r.P.length) :
  Calls prog 97 #[.pointer (some ⟨kp,0,none⟩)] w fun x w'=>PartSays kp base s (rClose s r) w x w':=by
 by_cases hO:r.O = []
 ·exact closing_nil w kp base s r pv ov h hO
 ·obtain ⟨z0,P,O⟩:=r
  simp only [] at hO h hz hl hlo ho hC
  have hsp:=last_split hO
  generalize O.getLast?.getD 0 = la at hsp
  generalize O.dropLast = O1 at hsp
  subst hsp
  have hla:=ho la (by simp)
  have hlo2:O1.length ≤ 90000:=by simp at hlo;omega
  by_cases k7:(pOf P la).kind = 8
  ·exact closing_middle w kp base s z0 P O1 la pv ov h hC hz hb hl hlo2 hla k7
  ·by_cases k8:(pOf P la).kind = 9
   ·exact closing_join w kp base s z0 P O1 la pv ov h hC hz hb hl hlo2 hla k8
   ·exact closing_again w kp base s z0 P O1 la pv ov h hC hz hb hl hlo2 hla k7 k8
end Go.Proofs.YthcjcjfgdgnljabGreatDoor
