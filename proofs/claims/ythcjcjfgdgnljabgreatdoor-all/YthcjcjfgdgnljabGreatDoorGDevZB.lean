import Derived.Test.YthcjcjfgdgnljabGreatDoorGDevZA
set_option linter.unusedVariables false
set_option maxHeartbeats 4000000
set_option maxRecDepth 8000
open Go.Proofs.Tryz
namespace Go.Proofs.YthcjcjfgdgnljabGreatDoor
open Go.RowKit
theorem reckon_fn (w0 w:World) (kp base pb:Nat) (s:ByteArray) (r:Rs) (pv ov:Value) (C:Nat → Nat) (t:Pt) (h:Wk w0 w kp base pb s r pv ov C t) (hz:Zb s r.z) (ht1:t.sign = 0) (ht2:t.o2 = .v 0) :
  Calls prog 120 #[.pointer (some ⟨kp,0,none⟩),.pointer (some ⟨pb,0,none⟩)] w fun x w'=>x = .returned (.tuple #[]) ∧ Wk w0 w' kp base pb s ⟨rk s r.z,r.P,r.O⟩ pv ov C { t with o1:=opV s r.z,sign:=rkS s r.z,o2:=rkV s r.z }:=by
 obtain ⟨kind,place,num,box,src,o1,sign,o2,opn⟩:=t
 obtain ⟨z,P,O⟩:=r
 have ht1':sign = 0:=ht1
 have ht2':o2 = .v 0:=ht2
 subst ht1' ht2'
 have HW:Hid _:=h
 have Hz:Hid (Zb s z):=hz
 clear h hz ht1 ht2
 have Hzo:Hid (Zb s (op s z)):=Hz.out.op
 by_cases e:isOp (pk s (op s z))
 ·have HE:Hid (rk s z = op s (tk s (pk s (op s z)) (op s z))):=by show rk s z = _;unfold rk;rw [if_pos e]
  have HS:Hid (rkS s z = pk s (op s z)):=by show rkS s z = _;unfold rkS;rw [if_pos e]
  have HV:Hid (rkV s z = opV s (tk s (pk s (op s z)) (op s z))):=by show rkV s z = _;unfold rkV;rw [if_pos e]
  have hc0:=op0 e
  have hcase:∀ c,pk s (op s z) = c → c ≠ 0 → isOp c → Calls prog 120 #[.pointer (some ⟨kp,0,none⟩),.pointer (some ⟨pb,0,none⟩)] w fun x w'=>x = .returned (.tuple #[]) ∧ Wk w0 w' kp base pb s ⟨rk s z,P,O⟩ pv ov C ⟨kind,place,num,box,src,opV s z,rkS s z,rkV s z,opn⟩:=fun c hc h0 hop=>by
   rw [hc] at HE HS HV
   have HPk:Hid (∀ X:World,Rd X kp s (op s z) pv ov → CR 89 #[.pointer (some ⟨kp,0,none⟩)] X (.int .u8 c)):=fun X hX=>by
    have:=peek_fn X kp s (op s z) pv ov hX Hzo.out
    rwa [hc] at this
   have HTk:Hid (∀ X:World,Rd X kp s (op s z) pv ov → Calls prog 117 #[.pointer (some ⟨kp,0,none⟩),.int .u8 c] X fun x w'=>x = .returned (.tuple #[]) ∧ Rd w' kp s (tk s c (op s z)) pv ov ∧ Fr (OneB kp) X w'):=fun X hX=>take_fn X kp s (op s z) pv ov hX Hzo.out c h0
   have HOp:Hid (∀ X:World,Rd X kp s (tk s c (op s z)) pv ov → Calls prog 121 #[.pointer (some ⟨kp,0,none⟩)] X fun x w'=>x = .returned (odW (opV s (tk s c (op s z)))) ∧ Rd w' kp s (op s (tk s c (op s z))) pv ov ∧ Fr (OneB kp) X w'):=fun X hX=>operand_fn X kp s _ pv ov hX (Hzo.out.tk h0)
   clear hc
   unfold isOp at hop
   rcases hop with rfl | rfl | rfl | rfl | rfl
   ·go_enter func120,ntmps120
    go_wp2_with fail
    refine (operand_fn _ kp s z pv ov HW.out.rp.rd Hz.out).mono ?_
    rintro x w1 ⟨rfl,hR,hF⟩
    have HW:Hid _:=HW.out.step hF hR
    unfold odW
    clear hR hF
    have d5:=HW.out.pt.c 5 _ rfl
    have g5:=HW.out.pt.f 5
    have d6:=HW.out.pt.c 6 _ rfl
    have g6:=HW.out.pt.f 6
    try simp only [] at d5 d6
    go_wp2_with fail
    have HW:Hid _:=HW.out.set1 (opV s z)
    clear d5 d6 g5 g6
    try simp only [] at HW
    refine (HPk.out _ HW.out.rp.rd).mono ?_
    rintro x w2 ⟨rfl,hF2⟩
    have HW:Hid _:=HW.out.no hF2
    clear hF2
    go_wp2_with fail
    refine (HTk.out _ HW.out.rp.rd).mono ?_
    rintro x w3 ⟨rfl,hR,hF⟩
    have HW:Hid _:=HW.out.step hF hR
    clear hR hF
    have d7:=HW.out.pt.c 7 _ rfl
    have g7:=HW.out.pt.f 7
    try simp only [] at d7 HW
    go_wp2_with fail
    have HW:Hid _:=HW.out.setG 43
    clear d7 g7
    try simp only [] at HW
    refine (HOp.out _ HW.out.rp.rd).mono ?_
    rintro x w4 ⟨rfl,hR,hF⟩
    have HW:Hid _:=HW.out.step hF hR
    unfold odW
    clear hR hF
    have d8:=HW.out.pt.c 8 _ rfl
    have g8:=HW.out.pt.f 8
    have d9:=HW.out.pt.c 9 _ rfl
    have g9:=HW.out.pt.f 9
    try simp only [] at d8 d9
    go_wp2
    go_end0
    exact ⟨rfl,by rw [HE.out,HS.out,HV.out];exact HW.out.setO2 _⟩
   ·go_enter func120,ntmps120
    go_wp2_with fail
    refine (operand_fn _ kp s z pv ov HW.out.rp.rd Hz.out).mono ?_
    rintro x w1 ⟨rfl,hR,hF⟩
    have HW:Hid _:=HW.out.step hF hR
    unfold odW
    clear hR hF
    have d5:=HW.out.pt.c 5 _ rfl
    have g5:=HW.out.pt.f 5
    have d6:=HW.out.pt.c 6 _ rfl
    have g6:=HW.out.pt.f 6
    try simp only [] at d5 d6
    go_wp2_with fail
    have HW:Hid _:=HW.out.set1 (opV s z)
    clear d5 d6 g5 g6
    try simp only [] at HW
    refine (HPk.out _ HW.out.rp.rd).mono ?_
    rintro x w2 ⟨rfl,hF2⟩
    have HW:Hid _:=HW.out.no hF2
    clear hF2
    go_wp2_with fail
    refine (HTk.out _ HW.out.rp.rd).mono ?_
    rintro x w3 ⟨rfl,hR,hF⟩
    have HW:Hid _:=HW.out.step hF hR
    clear hR hF
    have d7:=HW.out.pt.c 7 _ rfl
    have g7:=HW.out.pt.f 7
    try simp only [] at d7 HW
    go_wp2_with fail
    have HW:Hid _:=HW.out.setG 45
    clear d7 g7
    try simp only [] at HW
    refine (HOp.out _ HW.out.rp.rd).mono ?_
    rintro x w4 ⟨rfl,hR,hF⟩
    have HW:Hid _:=HW.out.step hF hR
    unfold odW
    clear hR hF
    have d8:=HW.out.pt.c 8 _ rfl
    have g8:=HW.out.pt.f 8
    have d9:=HW.out.pt.c 9 _ rfl
    have g9:=HW.out.pt.f 9
    try simp only [] at d8 d9
    go_wp2
    go_end0
    exact ⟨rfl,by rw [HE.out,HS.out,HV.out];exact HW.out.setO2 _⟩
   ·go_enter func120,ntmps120
    go_wp2_with fail
    refine (operand_fn _ kp s z pv ov HW.out.rp.rd Hz.out).mono ?_
    rintro x w1 ⟨rfl,hR,hF⟩
    have HW:Hid _:=HW.out.step hF hR
    unfold odW
    clear hR hF
    have d5:=HW.out.pt.c 5 _ rfl
    have g5:=HW.out.pt.f 5
    have d6:=HW.out.pt.c 6 _ rfl
    have g6:=HW.out.pt.f 6
    try simp only [] at d5 d6
    go_wp2_with fail
    have HW:Hid _:=HW.out.set1 (opV s z)
    clear d5 d6 g5 g6
    try simp only [] at HW
    refine (HPk.out _ HW.out.rp.rd).mono ?_
    rintro x w2 ⟨rfl,hF2⟩
    have HW:Hid _:=HW.out.no hF2
    clear hF2
    go_wp2_with fail
    refine (HTk.out _ HW.out.rp.rd).mono ?_
    rintro x w3 ⟨rfl,hR,hF⟩
    have HW:Hid _:=HW.out.step hF hR
    clear hR hF
    have d7:=HW.out.pt.c 7 _ rfl
    have g7:=HW.out.pt.f 7
    try simp only [] at d7 HW
    go_wp2_with fail
    have HW:Hid _:=HW.out.setG 42
    clear d7 g7
    try simp only [] at HW
    refine (HOp.out _ HW.out.rp.rd).mono ?_
    rintro x w4 ⟨rfl,hR,hF⟩
    have HW:Hid _:=HW.out.step hF hR
    unfold odW
    clear hR hF
    have d8:=HW.out.pt.c 8 _ rfl
    have g8:=HW.out.pt.f 8
    have d9:=HW.out.pt.c 9 _ rfl
    have g9:=HW.out.pt.f 9
    try simp only [] at d8 d9
    go_wp2
    go_end0
    exact ⟨rfl,by rw [HE.out,HS.out,HV.out];exact HW.out.setO2 _⟩
   ·go_enter func120,ntmps120
    go_wp2_with fail
    refine (operand_fn _ kp s z pv ov HW.out.rp.rd Hz.out).mono ?_
    rintro x w1 ⟨rfl,hR,hF⟩
    have HW:Hid _:=HW.out.step hF hR
    unfold odW
    clear hR hF
    have d5:=HW.out.pt.c 5 _ rfl
    have g5:=HW.out.pt.f 5
    have d6:=HW.out.pt.c 6 _ rfl
    have g6:=HW.out.pt.f 6
    try simp only [] at d5 d6
    go_wp2_with fail
    have HW:Hid _:=HW.out.set1 (opV s z)
    clear d5 d6 g5 g6
    try simp only [] at HW
    refine (HPk.out _ HW.out.rp.rd).mono ?_
    rintro x w2 ⟨rfl,hF2⟩
    have HW:Hid _:=HW.out.no hF2
    clear hF2
    go_wp2_with fail
    refine (HTk.out _ HW.out.rp.rd).mono ?_
    rintro x w3 ⟨rfl,hR,hF⟩
    have HW:Hid _:=HW.out.step hF hR
    clear hR hF
    have d7:=HW.out.pt.c 7 _ rfl
    have g7:=HW.out.pt.f 7
    try simp only [] at d7 HW
    go_wp2_with fail
    have HW:Hid _:=HW.out.setG 47
    clear d7 g7
    try simp only [] at HW
    refine (HOp.out _ HW.out.rp.rd).mono ?_
    rintro x w4 ⟨rfl,hR,hF⟩
    have HW:Hid _:=HW.out.step hF hR
    unfold odW
    clear hR hF
    have d8:=HW.out.pt.c 8 _ rfl
    have g8:=HW.out.pt.f 8
    have d9:=HW.out.pt.c 9 _ rfl
    have g9:=HW.out.pt.f 9
    try simp only [] at d8 d9
    go_wp2
    go_end0
    exact ⟨rfl,by rw [HE.out,HS.out,HV.out];exact HW.out.setO2 _⟩
   ·go_enter func120,ntmps120
    go_wp2_with fail
    refine (operand_fn _ kp s z pv ov HW.out.rp.rd Hz.out).mono ?_
    rintro x w1 ⟨rfl,hR,hF⟩
    have HW:Hid _:=HW.out.step hF hR
    unfold odW
    clear hR hF
    have d5:=HW.out.pt.c 5 _ rfl
    have g5:=HW.out.pt.f 5
    have d6:=HW.out.pt.c 6 _ rfl
    have g6:=HW.out.pt.f 6
    try simp only [] at d5 d6
    go_wp2_with fail
    have HW:Hid _:=HW.out.set1 (opV s z)
    clear d5 d6 g5 g6
    try simp only [] at HW
    refine (HPk.out _ HW.out.rp.rd).mono ?_
    rintro x w2 ⟨rfl,hF2⟩
    have HW:Hid _:=HW.out.no hF2
    clear hF2
    go_wp2_with fail
    refine (HTk.out _ HW.out.rp.rd).mono ?_
    rintro x w3 ⟨rfl,hR,hF⟩
    have HW:Hid _:=HW.out.step hF hR
    clear hR hF
    have d7:=HW.out.pt.c 7 _ rfl
    have g7:=HW.out.pt.f 7
    try simp only [] at d7 HW
    go_wp2_with fail
    have HW:Hid _:=HW.out.setG 60
    clear d7 g7
    try simp only [] at HW
    refine (HOp.out _ HW.out.rp.rd).mono ?_
    rintro x w4 ⟨rfl,hR,hF⟩
    have HW:Hid _:=HW.out.step hF hR
    unfold odW
    clear hR hF
    have d8:=HW.out.pt.c 8 _ rfl
    have g8:=HW.out.pt.f 8
    have d9:=HW.out.pt.c 9 _ rfl
    have g9:=HW.out.pt.f 9
    try simp only [] at d8 d9
    go_wp2
    go_end0
    exact ⟨rfl,by rw [HE.out,HS.out,HV.out];exact HW.out.setO2 _⟩
  exact hcase _ rfl hc0 e
 ·have HE:Hid (rk s z = op s z):=by show rk s z = _;unfold rk;rw [if_neg e]
  have HS:Hid (rkS s z = 0):=by show rkS s z = _;unfold rkS;rw [if_neg e]
  have HV:Hid (rkV s z = .v 0):=by show rkV s z = _;unfold rkV;rw [if_neg e]
  have b1:((pk s (op s z):Int) == 43) = false:=beq_eq_false_iff_ne.2 (fun q=>e (by unfold isOp;omega))
  have b2:((pk s (op s z):Int) == 45) = false:=beq_eq_false_iff_ne.2 (fun q=>e (by unfold isOp;omega))
  have b3:((pk s (op s z):Int) == 42) = false:=beq_eq_false_iff_ne.2 (fun q=>e (by unfold isOp;omega))
  have b4:((pk s (op s z):Int) == 47) = false:=beq_eq_false_iff_ne.2 (fun q=>e (by unfold isOp;omega))
  have b5:((pk s (op s z):Int) == 60) = false:=beq_eq_false_iff_ne.2 (fun q=>e (by unfold isOp;omega))
  clear e
  go_enter func120,ntmps120
  go_wp2_with fail
  refine (operand_fn _ kp s z pv ov HW.out.rp.rd Hz.out).mono ?_
  rintro x w1 ⟨rfl,hR,hF⟩
  have HW:Hid _:=HW.out.step hF hR
  unfold odW
  clear hR hF
  have d5:=HW.out.pt.c 5 _ rfl
  have g5:=HW.out.pt.f 5
  have d6:=HW.out.pt.c 6 _ rfl
  have g6:=HW.out.pt.f 6
  try simp only [] at d5 d6
  go_wp2_with fail
  have HW:Hid _:=HW.out.set1 (opV s z)
  clear d5 d6 g5 g6
  try simp only [] at HW
  refine (peek_fn _ kp s _ _ _ HW.out.rp.rd Hzo.out).mono ?_
  rintro x w2 ⟨rfl,hF2⟩
  have HW:Hid _:=HW.out.no hF2
  clear hF2
  go_wp2
  go_end0
  exact ⟨rfl,by show Wk _ _ _ _ _ _ ⟨rk s z,P,O⟩ _ _ _ ⟨kind,place,num,box,src,opV s z,rkS s z,rkV s z,opn⟩;rw [HE.out,HS.out,HV.out];exact HW.out⟩
theorem toNumber_size (w:World) (kp base:Nat) (s:ByteArray) (r:Rs) (pv ov:Value) (h:RdP w kp base s r pv ov (cloL r.P)) (hC:cloL r.P r.P.length = 0) (hz:Zb s r.z) (hb:base ≤ w.heap.size) (hl:r.P.length ≤ 90001) (hlt:r.z.1 < s.size) (hsm:smallN (pk s r.z) = true) (he:pk s (tk s 61 (r.z.1 + 1,r.z.2)) = 35) :
  Calls prog 91 #[.pointer (some ⟨kp,0,none⟩),.int .u8 (pk s r.z:Int)] w fun x w'=>PartSays kp base s (rNumber s r) w x w':=by
 obtain ⟨i0,hi0,hz0,hz1,hz2⟩:=info_parts Tryz.infoPart
 obtain ⟨ao,cap,rfl⟩:=owns_form h.pr
 obtain ⟨z0,P,O⟩:=r
 try simp only [] at h hz hl hC ⊢
 obtain ⟨k,hk1,hk2⟩:∃ k,k < 26 ∧ pk s z0 = k + 97:=⟨pk s z0 - 97,by simp [smallN] at hsm;omega,by simp [smallN] at hsm;omega⟩
 try simp only [] at he hlt
 rw [hk2]
 have HR:Hid (RdP w kp base s ⟨z0,P,O⟩ (.slice ao P.length cap) ov (cloL P)):=h
 have HC0:Hid (cloL P P.length = 0):=hC
 have Hz0:Hid (Zb s z0):=hz
 have c1:=h.rd.c1
 try simp only [] at c1
 have hkl:=h.rd.lt
 clear h hz hC
 have HE:Hid (rNumber s ⟨z0,P,O⟩ = ⟨tk s 59 (bx s (tk s 35 (tk s 61 (z0.1 + 1,z0.2)))),P ++ [⟨3,z0.1,k,bxV s (tk s 35 (tk s 61 (z0.1 + 1,z0.2))),0,.v 0,0,.v 0,0⟩],O⟩):=by show rNumber s ⟨z0,P,O⟩ = _;unfold rNumber;rw [if_pos he,hk2];rw [show k + 97 - 97 = k by omega]
 have HQ:Hid (pk s (tk s 61 (z0.1 + 1,z0.2)) = 35):=he
 clear he hsm hk2
 generalize hCl:cloL P = C at *
 have HCl:Hid (cloL P = C):=hCl
 clear hCl
 have HW:Hid _:=Wk.start HR.out hb ⟨0,z0.1,k,0,0,.v 0,0,.v 0,0⟩
 unfold ptC odB odI at HW
 try simp only [] at HW
 go_enter func91,ntmps91
 go_upto_region 1 with fail
 generalize (w.alloc _) = W0 at *
 generalize hpb:w.heap.size = pb at *
 clear hpb
 have Hz1:Hid (Zb s (z0.1 + 1,z0.2)):=⟨hlt,Hz0.out.w,Hz0.out.n⟩
 have hn:=Hz0.out.n
 have c1':=HW.out.rp.rd.c1
 have f1':=HW.out.rp.rd.f 1
 try simp only [] at c1'
 have HW:Hid _:=HW.out.step ((Fr.refl (OneB kp) W0).setCell (p:=⟨kp,1,none⟩) (fun _=>rfl) _) (HW.out.rp.rd.set1 (z0.1 + 1))
 try simp only [] at HW
 go_wp2_with fail
 generalize hz1:((z0.1 + 1,z0.2):Nat × Nat) = z1 at *
 clear hz1
 refine (take_fn _ kp s z1 _ _ HW.out.rp.rd Hz1.out 61 (by decide)).mono ?_
 rintro x w2 ⟨rfl,hR,hF⟩
 have HW:Hid _:=HW.out.step hF hR
 have Hz2:Hid (Zb s (tk s 61 z1)):=Hz1.out.tk (by decide)
 try simp only [] at HW
 clear hR hF
 generalize tk s 61 z1 = z2 at *
 have HPk:Hid (∀ X:World,Rd X kp s z2 (.slice ao P.length cap) ov → CR 89 #[.pointer (some ⟨kp,0,none⟩)] X (.int .u8 ((35:Nat):Int))):=fun X hX=>by
  have:=peek_fn X kp s z2 _ _ hX Hz2.out
  rwa [HQ.out] at this
 go_wp2_with fail
 refine (HPk.out _ HW.out.rp.rd).mono ?_
 rintro x w3 ⟨rfl,hF⟩
 have HW:Hid _:=HW.out.no hF
 clear hF HPk
 have d3:=HW.out.pt.c 0 _ rfl
 have g3:=HW.out.pt.f 0
 try simp only [] at d3
 go_wp2_with fail
 have HW:Hid _:=HW.out.setK 3
 clear d3 g3
 try simp only [] at HW
 refine (take_fn _ kp s z2 _ _ HW.out.rp.rd Hz2.out 35 (by decide)).mono ?_
 rintro x w4 ⟨rfl,hR,hF⟩
 have HW:Hid _:=HW.out.step hF hR
 have Hz4:Hid (Zb s (tk s 35 z2)):=Hz2.out.tk (by decide)
 try simp only [] at HW
 clear hR hF
 generalize tk s 35 z2 = z4 at *
 go_wp2_with fail
 refine (box_fn _ kp s z4 _ _ HW.out.rp.rd Hz4.out).mono ?_
 rintro x w5 ⟨rfl,hR,hF⟩
 have HW:Hid _:=HW.out.step hF hR
 have Hz5:Hid (Zb s (bx s z4)):=Hz4.out.bx
 try simp only [] at HW
 clear hR hF
 generalize bx s z4 = z5 at *
 have d5:=HW.out.pt.c 3 _ rfl
 have g5:=HW.out.pt.f 3
 try simp only [] at d5
 go_wp2_with fail
 have HW:Hid _:=HW.out.setB (bxV s z4)
 clear d5 g5
 try simp only [] at HW
 refine (take_fn _ kp s z5 _ _ HW.out.rp.rd Hz5.out 59 (by decide)).mono ?_
 rintro x w6 ⟨rfl,hR,hF⟩
 have HW:Hid _:=HW.out.step hF hR
 have Hz6:Hid (Zb s (tk s 59 z5)):=Hz5.out.tk (by decide)
 try simp only [] at HW
 clear hR hF
 generalize tk s 59 z5 = z6 at *
 have HT:Hid _:=HW.out
 clear HW
 generalize hT:(⟨_,_,_,_,_,_,_,_,_⟩:Pt) = tt at HT
 have HTT:Hid _:=hT
 clear hT
 have hrow:=HT.out.rp.pr
 have e0:=HT.out.pt.c 0 _ rfl
 have e1:=HT.out.pt.c 1 _ rfl
 have e2:=HT.out.pt.c 2 _ rfl
 have e3:=HT.out.pt.c 3 _ rfl
 have e4:=HT.out.pt.c 4 _ rfl
 have e5:=HT.out.pt.c 5 _ rfl
 have e6:=HT.out.pt.c 6 _ rfl
 have e7:=HT.out.pt.c 7 _ rfl
 have e8:=HT.out.pt.c 8 _ rfl
 have e9:=HT.out.pt.c 9 _ rfl
 have e10:=HT.out.pt.c 10 _ rfl
 have e11:=HT.out.pt.c 11 _ rfl
 have eP:=HT.out.rp.rd.c2
 have hsz:=HT.out.fr.size
 have hbb:=HT.out.hb
 have hkl2:=HT.out.rp.rd.lt
 have hpl2:=HT.out.pt.lt
 try simp only [] at hrow eP
 go_upto_region 14 with fail
 go_region_law ((refine step_append_kind rfl _ _ 84 rfl base 121 i0 _ 12 96 underlying84 hi0 hz0 hz1 hz2 rfl (by decide) _ _ _ rfl ((hrow.alloc _).drew) ⟨w6.heap.size,0,none⟩ 1 1 [.int .i64 tt.kind,.int .i64 tt.place,.int .i64 tt.num,.int .i64 tt.box,.int .i64 tt.src,.bool (odB tt.o1),.int .i64 (odI tt.o1:Int),.int .u8 tt.sign,.bool (odB tt.o2),.int .i64 (odI tt.o2:Int),.int .i64 tt.opn,.int .i64 ((0:Nat):Int)] (by decide) rfl rfl nwD (by intro u hu;simp at hu;rcases hu with rfl | rfl | rfl | rfl | rfl | rfl | rfl | rfl | rfl | rfl | rfl | rfl <;> rfl) (by unfold maxLen;omega) (by omega) (by simp;omega) ?_;intro v2 wv hown2 hk2;obtain ⟨y1,y2,y3,y4⟩:=HT.out.rp.growP (t:=tt) HC0.out hk2 hown2;obtain ⟨gb,cb,hve,_⟩:=hk2.place;subst hve;have HG:=show Hid (_ ∧ _) from ⟨y3,y4⟩;clear y3 y4 hown2 hk2))
 all_goals
  go_wp2
  go_end0
  exact PartSays.plain HE.out rfl (by rw [← HTT.out] at HG;exact HG.out.1) HCl.out (HT.out.fr.trans HG.out.2)
theorem toNumber_load (w:World) (kp base:Nat) (s:ByteArray) (r:Rs) (pv ov:Value) (h:RdP w kp base s r pv ov (cloL r.P)) (hC:cloL r.P r.P.length = 0) (hz:Zb s r.z) (hb:base ≤ w.heap.size) (hl:r.P.length ≤ 90001) (hlt:r.z.1 < s.size) (hsm:smallN (pk s r.z) = true) (he:pk s (tk s 61 (r.z.1 + 1,r.z.2)) ≠ 35) (he2:greatN (pk s (tk s 61 (r.z.1 + 1,r.z.2))) = true) :
  Calls prog 91 #[.pointer (some ⟨kp,0,none⟩),.int .u8 (pk s r.z:Int)] w fun x w'=>PartSays kp base s (rNumber s r) w x w':=by
 obtain ⟨i0,hi0,hz0,hz1,hz2⟩:=info_parts Tryz.infoPart
 obtain ⟨ao,cap,rfl⟩:=owns_form h.pr
 obtain ⟨z0,P,O⟩:=r
 try simp only [] at h hz hl hC ⊢
 obtain ⟨k,hk1,hk2⟩:∃ k,k < 26 ∧ pk s z0 = k + 97:=⟨pk s z0 - 97,by simp [smallN] at hsm;omega,by simp [smallN] at hsm;omega⟩
 try simp only [] at he hlt
 rw [hk2]
 have HR:Hid (RdP w kp base s ⟨z0,P,O⟩ (.slice ao P.length cap) ov (cloL P)):=h
 have HC0:Hid (cloL P P.length = 0):=hC
 have Hz0:Hid (Zb s z0):=hz
 have c1:=h.rd.c1
 try simp only [] at c1
 have hkl:=h.rd.lt
 clear h hz hC
 have HE:Hid (rNumber s ⟨z0,P,O⟩ = ⟨tk s 59 (ix s (bx s (tk s 61 (z0.1 + 1,z0.2)))),P ++ [⟨2,z0.1,k,bxV s (tk s 61 (z0.1 + 1,z0.2)),0,ixV s (bx s (tk s 61 (z0.1 + 1,z0.2))),0,.v 0,0⟩],O⟩):=by show rNumber s ⟨z0,P,O⟩ = _;unfold rNumber;rw [if_neg he,if_pos he2,hk2];rw [show k + 97 - 97 = k by omega]
 have HQ:Hid (pk s (tk s 61 (z0.1 + 1,z0.2)) ≠ 35):=he
 have HQ2:Hid (greatN (pk s (tk s 61 (z0.1 + 1,z0.2))) = true):=he2
 clear he he2 hsm hk2
 generalize hCl:cloL P = C at *
 have HCl:Hid (cloL P = C):=hCl
 clear hCl
 have HW:Hid _:=Wk.start HR.out hb ⟨0,z0.1,k,0,0,.v 0,0,.v 0,0⟩
 unfold ptC odB odI at HW
 try simp only [] at HW
 go_enter func91,ntmps91
 go_upto_region 1 with fail
 generalize (w.alloc _) = W0 at *
 generalize hpb:w.heap.size = pb at *
 clear hpb
 have Hz1:Hid (Zb s (z0.1 + 1,z0.2)):=⟨hlt,Hz0.out.w,Hz0.out.n⟩
 have hn:=Hz0.out.n
 have c1':=HW.out.rp.rd.c1
 have f1':=HW.out.rp.rd.f 1
 try simp only [] at c1'
 have HW:Hid _:=HW.out.step ((Fr.refl (OneB kp) W0).setCell (p:=⟨kp,1,none⟩) (fun _=>rfl) _) (HW.out.rp.rd.set1 (z0.1 + 1))
 try simp only [] at HW
 go_wp2_with fail
 generalize hz1:((z0.1 + 1,z0.2):Nat × Nat) = z1 at *
 clear hz1
 refine (take_fn _ kp s z1 _ _ HW.out.rp.rd Hz1.out 61 (by decide)).mono ?_
 rintro x w2 ⟨rfl,hR,hF⟩
 have HW:Hid _:=HW.out.step hF hR
 have Hz2:Hid (Zb s (tk s 61 z1)):=Hz1.out.tk (by decide)
 try simp only [] at HW
 clear hR hF
 generalize tk s 61 z1 = z2 at *
 have HPk:Hid (∀ X:World,Rd X kp s z2 (.slice ao P.length cap) ov → CR 89 #[.pointer (some ⟨kp,0,none⟩)] X (.int .u8 ((pk s z2:Nat):Int))):=fun X hX=>by
  have:=peek_fn X kp s z2 _ _ hX Hz2.out
  exact this
 have b1:((pk s z2:Int) == 35) = false:=beq_eq_false_iff_ne.2 (by have:=HQ.out;omega)
 have HB:Hid _:=fun X=>isBox_fn X (pk s z2)
 rw [HQ2.out] at HB
 go_wp2_with fail
 refine (HPk.out _ HW.out.rp.rd).mono ?_
 rintro x w3 ⟨rfl,hF⟩
 have HW:Hid _:=HW.out.no hF
 clear hF HPk
 go_wp2_with fail
 refine sameC (HB.out _) ?_
 have d3:=HW.out.pt.c 0 _ rfl
 have g3:=HW.out.pt.f 0
 try simp only [] at d3
 go_wp2_with fail
 have HW:Hid _:=HW.out.setK 2
 clear d3 g3
 try simp only [] at HW
 refine (box_fn _ kp s z2 _ _ HW.out.rp.rd Hz2.out).mono ?_
 rintro x w4 ⟨rfl,hR,hF⟩
 have HW:Hid _:=HW.out.step hF hR
 have Hz4:Hid (Zb s (bx s z2)):=Hz2.out.bx
 try simp only [] at HW
 clear hR hF
 generalize bx s z2 = z4 at *
 have d4:=HW.out.pt.c 3 _ rfl
 have g4:=HW.out.pt.f 3
 try simp only [] at d4
 go_wp2_with fail
 have HW:Hid _:=HW.out.setB (bxV s z2)
 clear d4 g4
 try simp only [] at HW
 refine (index_fn _ kp s z4 _ _ HW.out.rp.rd Hz4.out).mono ?_
 rintro x w5 ⟨rfl,hR,hF⟩
 have HW:Hid _:=HW.out.step hF hR
 have Hz5:Hid (Zb s (ix s z4)):=Hz4.out.ix
 try simp only [] at HW
 clear hR hF
 unfold odW
 generalize ix s z4 = z5 at *
 have d5:=HW.out.pt.c 5 _ rfl
 have g5:=HW.out.pt.f 5
 have d5':=HW.out.pt.c 6 _ rfl
 have g5':=HW.out.pt.f 6
 try simp only [] at d5 d5'
 go_wp2_with fail
 have HW:Hid _:=HW.out.set1 (ixV s z4)
 clear d5 g5 d5' g5'
 try simp only [] at HW
 refine (take_fn _ kp s z5 _ _ HW.out.rp.rd Hz5.out 59 (by decide)).mono ?_
 rintro x w6 ⟨rfl,hR,hF⟩
 have HW:Hid _:=HW.out.step hF hR
 have Hz6:Hid (Zb s (tk s 59 z5)):=Hz5.out.tk (by decide)
 try simp only [] at HW
 clear hR hF
 generalize tk s 59 z5 = z6 at *
 have HT:Hid _:=HW.out
 clear HW
 generalize hT:(⟨_,_,_,_,_,_,_,_,_⟩:Pt) = tt at HT
 have HTT:Hid _:=hT
 clear hT
 have hrow:=HT.out.rp.pr
 have e0:=HT.out.pt.c 0 _ rfl
 have e1:=HT.out.pt.c 1 _ rfl
 have e2:=HT.out.pt.c 2 _ rfl
 have e3:=HT.out.pt.c 3 _ rfl
 have e4:=HT.out.pt.c 4 _ rfl
 have e5:=HT.out.pt.c 5 _ rfl
 have e6:=HT.out.pt.c 6 _ rfl
 have e7:=HT.out.pt.c 7 _ rfl
 have e8:=HT.out.pt.c 8 _ rfl
 have e9:=HT.out.pt.c 9 _ rfl
 have e10:=HT.out.pt.c 10 _ rfl
 have e11:=HT.out.pt.c 11 _ rfl
 have eP:=HT.out.rp.rd.c2
 have hsz:=HT.out.fr.size
 have hbb:=HT.out.hb
 have hkl2:=HT.out.rp.rd.lt
 have hpl2:=HT.out.pt.lt
 try simp only [] at hrow eP
 go_upto_region 14 with fail
 go_region_law ((refine step_append_kind rfl _ _ 84 rfl base 121 i0 _ 12 96 underlying84 hi0 hz0 hz1 hz2 rfl (by decide) _ _ _ rfl ((hrow.alloc _).drew) ⟨w6.heap.size,0,none⟩ 1 1 [.int .i64 tt.kind,.int .i64 tt.place,.int .i64 tt.num,.int .i64 tt.box,.int .i64 tt.src,.bool (odB tt.o1),.int .i64 (odI tt.o1:Int),.int .u8 tt.sign,.bool (odB tt.o2),.int .i64 (odI tt.o2:Int),.int .i64 tt.opn,.int .i64 ((0:Nat):Int)] (by decide) rfl rfl nwD (by intro u hu;simp at hu;rcases hu with rfl | rfl | rfl | rfl | rfl | rfl | rfl | rfl | rfl | rfl | rfl | rfl <;> rfl) (by unfold maxLen;omega) (by omega) (by simp;omega) ?_;intro v2 wv hown2 hk2;obtain ⟨y1,y2,y3,y4⟩:=HT.out.rp.growP (t:=tt) HC0.out hk2 hown2;obtain ⟨gb,cb,hve,_⟩:=hk2.place;subst hve;have HG:=show Hid (_ ∧ _) from ⟨y3,y4⟩;clear y3 y4 hown2 hk2))
 all_goals
  go_wp2
  go_end0
  exact PartSays.plain HE.out rfl (by rw [← HTT.out] at HG;exact HG.out.1) HCl.out (HT.out.fr.trans HG.out.2)
theorem toNumber_set (w:World) (kp base:Nat) (s:ByteArray) (r:Rs) (pv ov:Value) (h:RdP w kp base s r pv ov (cloL r.P)) (hC:cloL r.P r.P.length = 0) (hz:Zb s r.z) (hb:base ≤ w.heap.size) (hl:r.P.length ≤ 90001) (hlt:r.z.1 < s.size) (hsm:smallN (pk s r.z) = true) (he:pk s (tk s 61 (r.z.1 + 1,r.z.2)) ≠ 35) (he2:greatN (pk s (tk s 61 (r.z.1 + 1,r.z.2))) = false) :
  Calls prog 91 #[.pointer (some ⟨kp,0,none⟩),.int .u8 (pk s r.z:Int)] w fun x w'=>PartSays kp base s (rNumber s r) w x w':=by
 obtain ⟨i0,hi0,hz0,hz1,hz2⟩:=info_parts Tryz.infoPart
 obtain ⟨ao,cap,rfl⟩:=owns_form h.pr
 obtain ⟨z0,P,O⟩:=r
 try simp only [] at h hz hl hC ⊢
 obtain ⟨k,hk1,hk2⟩:∃ k,k < 26 ∧ pk s z0 = k + 97:=⟨pk s z0 - 97,by simp [smallN] at hsm;omega,by simp [smallN] at hsm;omega⟩
 try simp only [] at he hlt
 rw [hk2]
 have HR:Hid (RdP w kp base s ⟨z0,P,O⟩ (.slice ao P.length cap) ov (cloL P)):=h
 have HC0:Hid (cloL P P.length = 0):=hC
 have Hz0:Hid (Zb s z0):=hz
 have c1:=h.rd.c1
 try simp only [] at c1
 have hkl:=h.rd.lt
 clear h hz hC
 have HE:Hid (rNumber s ⟨z0,P,O⟩ = ⟨tk s 59 (rk s (tk s 61 (z0.1 + 1,z0.2))),P ++ [⟨0,z0.1,k,0,0,opV s (tk s 61 (z0.1 + 1,z0.2)),rkS s (tk s 61 (z0.1 + 1,z0.2)),rkV s (tk s 61 (z0.1 + 1,z0.2)),0⟩],O⟩):=by show rNumber s ⟨z0,P,O⟩ = _;unfold rNumber;rw [if_neg he,if_neg (by rw [he2];simp),hk2];rw [show k + 97 - 97 = k by omega]
 have HQ:Hid (pk s (tk s 61 (z0.1 + 1,z0.2)) ≠ 35):=he
 have HQ2:Hid (greatN (pk s (tk s 61 (z0.1 + 1,z0.2))) = false):=he2
 clear he he2 hsm hk2
 generalize hCl:cloL P = C at *
 have HCl:Hid (cloL P = C):=hCl
 clear hCl
 have HW:Hid _:=Wk.start HR.out hb ⟨0,z0.1,k,0,0,.v 0,0,.v 0,0⟩
 unfold ptC odB odI at HW
 try simp only [] at HW
 go_enter func91,ntmps91
 go_upto_region 1 with fail
 generalize (w.alloc _) = W0 at *
 generalize hpb:w.heap.size = pb at *
 clear hpb
 have Hz1:Hid (Zb s (z0.1 + 1,z0.2)):=⟨hlt,Hz0.out.w,Hz0.out.n⟩
 have hn:=Hz0.out.n
 have c1':=HW.out.rp.rd.c1
 have f1':=HW.out.rp.rd.f 1
 try simp only [] at c1'
 have HW:Hid _:=HW.out.step ((Fr.refl (OneB kp) W0).setCell (p:=⟨kp,1,none⟩) (fun _=>rfl) _) (HW.out.rp.rd.set1 (z0.1 + 1))
 try simp only [] at HW
 go_wp2_with fail
 generalize hz1:((z0.1 + 1,z0.2):Nat × Nat) = z1 at *
 clear hz1
 refine (take_fn _ kp s z1 _ _ HW.out.rp.rd Hz1.out 61 (by decide)).mono ?_
 rintro x w2 ⟨rfl,hR,hF⟩
 have HW:Hid _:=HW.out.step hF hR
 have Hz2:Hid (Zb s (tk s 61 z1)):=Hz1.out.tk (by decide)
 try simp only [] at HW
 clear hR hF
 generalize tk s 61 z1 = z2 at *
 have HPk:Hid (∀ X:World,Rd X kp s z2 (.slice ao P.length cap) ov → CR 89 #[.pointer (some ⟨kp,0,none⟩)] X (.int .u8 ((pk s z2:Nat):Int))):=fun X hX=>by
  have:=peek_fn X kp s z2 _ _ hX Hz2.out
  exact this
 have b1:((pk s z2:Int) == 35) = false:=beq_eq_false_iff_ne.2 (by have:=HQ.out;omega)
 have HB:Hid _:=fun X=>isBox_fn X (pk s z2)
 rw [HQ2.out] at HB
 go_wp2_with fail
 refine (HPk.out _ HW.out.rp.rd).mono ?_
 rintro x w3 ⟨rfl,hF⟩
 have HW:Hid _:=HW.out.no hF
 clear hF HPk
 go_wp2_with fail
 refine sameC (HB.out _) ?_
 go_wp2_with fail
 refine (reckon_fn w _ kp base pb s _ _ ov _ _ HW.out Hz2.out rfl rfl).mono ?_
 rintro x w4 ⟨rfl,hW⟩
 have HW:Hid _:=hW
 have Hz4:Hid (Zb s (rk s z2)):=Hz2.out.rk
 try simp only [] at HW
 clear hW
 generalize rk s z2 = z4 at *
 go_wp2_with fail
 refine (take_fn _ kp s z4 _ _ HW.out.rp.rd Hz4.out 59 (by decide)).mono ?_
 rintro x w5 ⟨rfl,hR,hF⟩
 have HW:Hid _:=HW.out.step hF hR
 have Hz5:Hid (Zb s (tk s 59 z4)):=Hz4.out.tk (by decide)
 try simp only [] at HW
 clear hR hF
 generalize tk s 59 z4 = z5 at *
 have HT:Hid _:=HW.out
 clear HW
 generalize hT:(⟨_,_,_,_,_,_,_,_,_⟩:Pt) = tt at HT
 have HTT:Hid _:=hT
 clear hT
 have hrow:=HT.out.rp.pr
 have e0:=HT.out.pt.c 0 _ rfl
 have e1:=HT.out.pt.c 1 _ rfl
 have e2:=HT.out.pt.c 2 _ rfl
 have e3:=HT.out.pt.c 3 _ rfl
 have e4:=HT.out.pt.c 4 _ rfl
 have e5:=HT.out.pt.c 5 _ rfl
 have e6:=HT.out.pt.c 6 _ rfl
 have e7:=HT.out.pt.c 7 _ rfl
 have e8:=HT.out.pt.c 8 _ rfl
 have e9:=HT.out.pt.c 9 _ rfl
 have e10:=HT.out.pt.c 10 _ rfl
 have e11:=HT.out.pt.c 11 _ rfl
 have eP:=HT.out.rp.rd.c2
 have hsz:=HT.out.fr.size
 have hbb:=HT.out.hb
 have hkl2:=HT.out.rp.rd.lt
 have hpl2:=HT.out.pt.lt
 try simp only [] at hrow eP
 go_upto_region 14 with fail
 go_region_law ((refine step_append_kind rfl _ _ 84 rfl base 121 i0 _ 12 96 underlying84 hi0 hz0 hz1 hz2 rfl (by decide) _ _ _ rfl ((hrow.alloc _).drew) ⟨w5.heap.size,0,none⟩ 1 1 [.int .i64 tt.kind,.int .i64 tt.place,.int .i64 tt.num,.int .i64 tt.box,.int .i64 tt.src,.bool (odB tt.o1),.int .i64 (odI tt.o1:Int),.int .u8 tt.sign,.bool (odB tt.o2),.int .i64 (odI tt.o2:Int),.int .i64 tt.opn,.int .i64 ((0:Nat):Int)] (by decide) rfl rfl nwD (by intro u hu;simp at hu;rcases hu with rfl | rfl | rfl | rfl | rfl | rfl | rfl | rfl | rfl | rfl | rfl | rfl <;> rfl) (by unfold maxLen;omega) (by omega) (by simp;omega) ?_;intro v2 wv hown2 hk2;obtain ⟨y1,y2,y3,y4⟩:=HT.out.rp.growP (t:=tt) HC0.out hk2 hown2;obtain ⟨gb,cb,hve,_⟩:=hk2.place;subst hve;have HG:=show Hid (_ ∧ _) from ⟨y3,y4⟩;clear y3 y4 hown2 hk2))
 all_goals
  go_wp2
  go_end0
  exact PartSays.plain HE.out rfl (by rw [← HTT.out] at HG;exact HG.out.1) HCl.out (HT.out.fr.trans HG.out.2)
theorem toNumber_fn (w:World) (kp base:Nat) (s:ByteArray) (r:Rs) (pv ov:Value) (h:RdP w kp base s r pv ov (cloL r.P)) (hC:cloL r.P r.P.length = 0) (hz:Zb s r.z) (hb:base ≤ w.heap.size) (hl:r.P.length ≤ 90001) (hlt:r.z.1 < s.size) (hsm:smallN (pk s r.z) = true) :
  Calls prog 91 #[.pointer (some ⟨kp,0,none⟩),.int .u8 (pk s r.z:Int)] w fun x w'=>PartSays kp base s (rNumber s r) w x w':=by
 by_cases he:pk s (tk s 61 (r.z.1 + 1,r.z.2)) = 35
 ·exact toNumber_size w kp base s r pv ov h hC hz hb hl hlt hsm he
 ·cases he2:greatN (pk s (tk s 61 (r.z.1 + 1,r.z.2)))
  ·exact toNumber_set w kp base s r pv ov h hC hz hb hl hlt hsm he he2
  ·exact toNumber_load w kp base s r pv ov h hC hz hb hl hlt hsm he he2
end Go.Proofs.YthcjcjfgdgnljabGreatDoor
