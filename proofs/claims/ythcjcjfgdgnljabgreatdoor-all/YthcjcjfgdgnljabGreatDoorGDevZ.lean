import Derived.Test.YthcjcjfgdgnljabGreatDoorGDevX
set_option linter.unusedVariables false
set_option maxHeartbeats 4000000
set_option maxRecDepth 8000
open Go.Proofs.Tryz
namespace Go.Proofs.YthcjcjfgdgnljabGreatDoor
open Go.RowKit
section
section
variable (w:World) (kp:Nat) (s:ByteArray) (z:Nat × Nat) (pv ov:Value)
theorem rvalue_fn (h:Rd w kp s z pv ov) (hz:Zb s z) :
  Calls prog 135 #[.pointer (some ⟨kp,0,none⟩)] w fun x w'=>x = .returned (.int .i64 (dgV s 3 z 0:Int)) ∧ Rd w' kp s (dg s 3 z) pv ov ∧ Fr (OneB kp) w w':=by
 have HR:Hid (Rd w kp s z pv ov):=h
 have Hz:Hid (Zb s z):=hz
 clear h hz
 generalize hG:dgV s 3 z 0 = G
 have HG:Hid _:=hG
 clear hG
 go_enter func135,ntmps135
 go_wp2
 go_loopw [3,4] (fun tv t wr=>∃ (n a:Nat) (y:Nat × Nat),n ≤ 3 ∧ t = .int .i64 n ∧ tv = .int .i64 a ∧ a < 10 ^ n ∧ dg s 3 z = dg s (3 - n) y ∧ G = dgV s (3 - n) y a ∧ Rd wr kp s y pv ov ∧ Zb s y ∧ Fr (OneB kp) w wr) (fun _ t _=>3 - (intOf t).toNat)
 case atStart=>exact ⟨0,0,z,by omega,rfl,rfl,by decide,rfl,HG.out.symm,HR.out,Hz.out,Fr.refl _ _⟩
 case round =>
  obtain ⟨n,a,y,hn,rfl,rfl,ha,hdg,hdv,hR,hzy,hF⟩:=hrel
  have HRy:Hid (Rd wr kp s y pv ov):=hR
  have Hzy:Hid (Zb s y):=hzy
  have HFy:Hid (Fr (OneB kp) w wr):=hF
  have Hdg:Hid _:=hdg
  have Hdv:Hid _:=hdv
  clear hR hzy hF hdg hdv HR HG
  have ha3:a < 1000:=Nat.lt_of_lt_of_le ha (Nat.le_trans (Nat.pow_le_pow_right (by decide) hn) (by decide))
  by_cases hlt:n < 3
  ·have HD:Hid _:=fun X=>isDigit_fn X (pk s y)
   have hstep:dg s (3 - n) y = if digitN (pk s y) = true then dg s (3 - (n + 1)) (y.1 + 1,y.2) else y:=by
    rw [show 3 - n = (3 - (n + 1)) + 1 by omega];rfl
   have hstepV:dgV s (3 - n) y a = if digitN (pk s y) = true then dgV s (3 - (n + 1)) (y.1 + 1,y.2) (a * 10 + (pk s y - 48)) else a:=by
    rw [show 3 - n = (3 - (n + 1)) + 1 by omega];rfl
   cases e:digitN (pk s y)
   ·rw [e] at HD hstep hstepV
    have HX:Hid (dg s 3 z = y):=Hdg.out.trans hstep
    have HXv:Hid (G = a):=Hdv.out.trans hstepV
    clear hstep hstepV e Hdg Hdv ha
    go_wp2_with (first | (go_at_call 89;refine (peek_fn _ kp s y pv ov HRy.out Hzy.out).mono ?_;rintro x w2 ⟨rfl,hF2⟩) | (go_at_call 134;refine sameC (HD.out _) ?_))
    go_ret
    exact ⟨by rw [HXv.out];rfl,by rw [HX.out];exact HRy.out.no hF2,HFy.out.trans hF2.of_no⟩
   ·rw [e] at HD hstep hstepV
    have HX:Hid (dg s 3 z = dg s (3 - (n + 1)) (y.1 + 1,y.2)):=Hdg.out.trans hstep
    have HXv:Hid (G = dgV s (3 - (n + 1)) (y.1 + 1,y.2) (a * 10 + (pk s y - 48))):=Hdv.out.trans hstepV
    have hl:=(pk_in (digit0 e)).1
    have hsn:=Hzy.out.n
    have HZ:Hid (Zb s (y.1 + 1,y.2)):=⟨hl,Hzy.out.w,Hzy.out.n⟩
    obtain ⟨k,hk1,hk2⟩:∃ k,k < 10 ∧ pk s y = k + 48:=⟨pk s y - 48,by simp [digitN] at e;omega,by simp [digitN] at e;omega⟩
    have HPk:Hid (∀ X:World,Rd X kp s y pv ov → CR 89 #[.pointer (some ⟨kp,0,none⟩)] X (.int .u8 ((k + 48:Nat):Int))):=fun X hX=>by
     have:=peek_fn X kp s y pv ov hX Hzy.out
     rwa [hk2] at this
    rw [hk2] at HD HXv
    have HA:Hid (a * 10 + (k + 48 - 48) < 10 ^ (n + 1)):=by
     show _ < _
     rw [Nat.pow_succ]
     omega
    clear hstep hstepV e Hdg Hdv hk2 ha
    go_wp2_with (first | (go_at_call 89;refine (HPk.out _ HRy.out).mono ?_;rintro x w2 ⟨rfl,hF2⟩;have HR2:Hid (Rd w2 kp s y pv ov):=HRy.out.no hF2;have c1:=HR2.out.c1;have f1:=HR2.out.f 1) | (go_at_call 134;refine sameC (HD.out _) ?_))
    go_roundw
    case rel=>exact ⟨n + 1,a * 10 + (k + 48 - 48),(y.1 + 1,y.2),by omega,by go_num,by go_num,HA.out,HX.out,HXv.out,HR2.out.set1 (y.1 + 1),HZ.out,(HFy.out.trans hF2.of_no).setCell (p:=⟨kp,1,none⟩) (fun _=>rfl) _⟩
    case measure=>simp [intOf];omega
  ·have hn3:n = 3:=by omega
   subst hn3
   have HX:Hid (dg s 3 z = y):=Hdg.out
   have HXv:Hid (G = a):=Hdv.out
   clear Hdg Hdv ha
   go_wp2
   go_ret
   exact ⟨by rw [HXv.out];rfl,by rw [HX.out];exact HRy.out,HFy.out⟩
def odW (o:Od):Value:=.agg #[.bool (odB o),.int .i64 (odI o:Int)]
theorem Rd.far {w:World} {kp rb:Nat} {s:ByteArray} {z:Nat × Nat} {pv ov:Value} (h:Rd w kp s z pv ov) (hne:¬ OneB kp rb) (u v:Value):Rd ((w.setCell ⟨rb,0,none⟩ u).setCell ⟨rb,1,none⟩ v) kp s z pv ov :=
 h.fr (((Fr.refl (OneB rb) w).setCell (p:=⟨rb,0,none⟩) (fun _=>rfl) u).setCell (p:=⟨rb,1,none⟩) (fun _=>rfl) v) (fun e=>hne (by unfold OneB at e ⊢;omega))
theorem operand_fn (h:Rd w kp s z pv ov) (hz:Zb s z) :
  Calls prog 121 #[.pointer (some ⟨kp,0,none⟩)] w fun x w'=>x = .returned (odW (opV s z)) ∧ Rd w' kp s (op s z) pv ov ∧ Fr (OneB kp) w w':=by
 have HR:Hid (Rd w kp s z pv ov):=h
 have Hz:Hid (Zb s z):=hz
 have hkl:=h.lt
 clear h hz
 have HN:Hid _:=fun X=>isNumber_fn X (pk s z)
 have HD:Hid _:=fun X=>isDigit_fn X (pk s z)
 cases e:smallN (pk s z)
 ·rw [e] at HN
  cases e2:digitN (pk s z)
  ·rw [e2] at HD
   have HE:Hid (op s z = rf 2 z):=by show op s z = _;unfold op;rw [e,e2];rfl
   have HV:Hid (opV s z = .v 0):=by show opV s z = _;unfold opV;rw [e,e2];rfl
   clear e e2
   go_enter func121,ntmps121
   go_upto_region 1 with fail
   have HW0:Hid (Rd (w.alloc (Obj.cells #[Value.bool false,Value.int .i64 0] 119)) kp s z pv ov ∧ Fr NoB w (w.alloc (Obj.cells #[Value.bool false,Value.int .i64 0] 119))):=⟨HR.out.no ((Fr.refl _ _).alloc _),(Fr.refl _ _).alloc _⟩
   have r0:(w.alloc (Obj.cells #[Value.bool false,Value.int .i64 0] 119)).cell? ⟨w.heap.size,0,none⟩ = some (.bool false):=cell_new _ _ _ rfl rfl
   have r1:(w.alloc (Obj.cells #[Value.bool false,Value.int .i64 0] 119)).cell? ⟨w.heap.size,1,none⟩ = some (.int .i64 0):=cell_new _ _ _ rfl rfl
   have rf0:(w.alloc (Obj.cells #[Value.bool false,Value.int .i64 0] 119)).frozen? ⟨w.heap.size,0,none⟩ = false:=World.frozen?_alloc_at _ _ _ _ rfl
   have rf1:(w.alloc (Obj.cells #[Value.bool false,Value.int .i64 0] 119)).frozen? ⟨w.heap.size,1,none⟩ = false:=World.frozen?_alloc_at _ _ _ _ rfl
   have hrk:¬ OneB kp w.heap.size:=fun e=>by unfold OneB at e;omega
   have hrl:w.heap.size < (w.alloc (Obj.cells #[Value.bool false,Value.int .i64 0] 119)).heap.size:=by simp
   have hfin:Hid (∀ {S:Nat → Prop} {X:World},Fr S (w.alloc (Obj.cells #[Value.bool false,Value.int .i64 0] 119)) X → (∀ k,S k → OneB kp k) → ∀ u v:Value,Fr (OneB kp) w ((X.setCell ⟨w.heap.size,0,none⟩ u).setCell ⟨w.heap.size,1,none⟩ v)):=fun {S X} hX hS u v =>
    (((((Fr.refl _ _).alloc _).trans (hX.mono (fun k _ q=>hS k q))).setCell (p:=⟨w.heap.size,0,none⟩) (fun q=>absurd q (by simp)) u).setCell (p:=⟨w.heap.size,1,none⟩) (fun q=>absurd q (by simp)) v)
   generalize (w.alloc (Obj.cells #[Value.bool false,Value.int .i64 0] 119)) = W0 at *
   generalize w.heap.size = rb at *
   go_wp2_with (first | (go_at_call 89;refine (peek_fn _ kp s z pv ov HW0.out.1 Hz.out).mono ?_;rintro x w1 ⟨rfl,hF1⟩) | (go_at_call 90;refine sameC (HN.out _) ?_) | (go_at_call 134;refine sameC (HD.out _) ?_) | (go_at_call 66;refine (refuse_fn _ kp s z pv ov (HW0.out.1.no hF1) 2).mono ?_;rintro x w2 ⟨rfl,hR2,hF2⟩;have hF3:=(hF1.of_no (T:=OneB kp)).trans hF2;have s0:=hF3.cell_some r0 hrk;have s1:=hF3.cell_some r1 hrk;have sf0:=(hF3.frozen (p:=⟨rb,0,none⟩) hrl hrk).trans rf0;have sf1:=(hF3.frozen (p:=⟨rb,1,none⟩) hrl hrk).trans rf1))
   have h2:=two_set (u0:=Value.bool false) (u1:=Value.int .i64 0) s0 s1
   exact bodyPost_ret (v:=.agg #[.bool false,.int .i64 0]) (by simp [results,results121,go_sem,h2.1,h2.2]) rfl ⟨by rw [HV.out];rfl,by rw [HE.out];exact hR2.far hrk _ _,hfin.out hF3 (fun _ q=>q) _ _⟩
  ·rw [e2] at HD
   have HE:Hid (op s z = dg s 3 z):=by show op s z = _;unfold op;rw [e,e2];rfl
   have HV:Hid (opV s z = .v (dgV s 3 z 0)):=by show opV s z = _;unfold opV;rw [e,e2];rfl
   clear e e2
   go_enter func121,ntmps121
   go_upto_region 1 with fail
   have HW0:Hid (Rd (w.alloc (Obj.cells #[Value.bool false,Value.int .i64 0] 119)) kp s z pv ov ∧ Fr NoB w (w.alloc (Obj.cells #[Value.bool false,Value.int .i64 0] 119))):=⟨HR.out.no ((Fr.refl _ _).alloc _),(Fr.refl _ _).alloc _⟩
   have r0:(w.alloc (Obj.cells #[Value.bool false,Value.int .i64 0] 119)).cell? ⟨w.heap.size,0,none⟩ = some (.bool false):=cell_new _ _ _ rfl rfl
   have r1:(w.alloc (Obj.cells #[Value.bool false,Value.int .i64 0] 119)).cell? ⟨w.heap.size,1,none⟩ = some (.int .i64 0):=cell_new _ _ _ rfl rfl
   have rf0:(w.alloc (Obj.cells #[Value.bool false,Value.int .i64 0] 119)).frozen? ⟨w.heap.size,0,none⟩ = false:=World.frozen?_alloc_at _ _ _ _ rfl
   have rf1:(w.alloc (Obj.cells #[Value.bool false,Value.int .i64 0] 119)).frozen? ⟨w.heap.size,1,none⟩ = false:=World.frozen?_alloc_at _ _ _ _ rfl
   have hrk:¬ OneB kp w.heap.size:=fun e=>by unfold OneB at e;omega
   have hrl:w.heap.size < (w.alloc (Obj.cells #[Value.bool false,Value.int .i64 0] 119)).heap.size:=by simp
   have hfin:Hid (∀ {S:Nat → Prop} {X:World},Fr S (w.alloc (Obj.cells #[Value.bool false,Value.int .i64 0] 119)) X → (∀ k,S k → OneB kp k) → ∀ u v:Value,Fr (OneB kp) w ((X.setCell ⟨w.heap.size,0,none⟩ u).setCell ⟨w.heap.size,1,none⟩ v)):=fun {S X} hX hS u v =>
    (((((Fr.refl _ _).alloc _).trans (hX.mono (fun k _ q=>hS k q))).setCell (p:=⟨w.heap.size,0,none⟩) (fun q=>absurd q (by simp)) u).setCell (p:=⟨w.heap.size,1,none⟩) (fun q=>absurd q (by simp)) v)
   generalize (w.alloc (Obj.cells #[Value.bool false,Value.int .i64 0] 119)) = W0 at *
   generalize w.heap.size = rb at *
   go_wp2_with (first | (go_at_call 89;refine (peek_fn _ kp s z pv ov HW0.out.1 Hz.out).mono ?_;rintro x w1 ⟨rfl,hF1⟩) | (go_at_call 90;refine sameC (HN.out _) ?_) | (go_at_call 134;refine sameC (HD.out _) ?_) | (go_at_call 135;refine (rvalue_fn _ kp s z pv ov (HW0.out.1.no hF1) Hz.out).mono ?_;rintro x w2 ⟨rfl,hR2,hF2⟩;have hF3:=(hF1.of_no (T:=OneB kp)).trans hF2;have s0:=hF3.cell_some r0 hrk;have s1:=hF3.cell_some r1 hrk;have sf0:=(hF3.frozen (p:=⟨rb,0,none⟩) hrl hrk).trans rf0;have sf1:=(hF3.frozen (p:=⟨rb,1,none⟩) hrl hrk).trans rf1))
   have h2:=two_set (u0:=Value.bool false) (u1:=Value.int .i64 (dgV s 3 z 0:Int)) s0 s1
   exact bodyPost_ret (v:=.agg #[.bool false,.int .i64 (dgV s 3 z 0:Int)]) (by simp [results,results121,go_sem,h2.1,h2.2]) rfl ⟨by rw [HV.out];rfl,by rw [HE.out];exact hR2.far hrk _ _,hfin.out hF3 (fun _ q=>q) _ _⟩
 ·rw [e] at HN
  have HE:Hid (op s z = (z.1 + 1,z.2)):=by show op s z = _;unfold op;rw [if_pos e]
  obtain ⟨k,hk1,hk2⟩:∃ k,k < 26 ∧ pk s z = k + 97:=⟨pk s z - 97,by simp [smallN] at e;omega,by simp [smallN] at e;omega⟩
  have HV:Hid (opV s z = .n k):=by show opV s z = _;unfold opV;rw [if_pos e,hk2];rfl
  have hl:=(pk_in (small0 e)).1
  have hn:=Hz.out.n
  have HPk:Hid (∀ X:World,Rd X kp s z pv ov → CR 89 #[.pointer (some ⟨kp,0,none⟩)] X (.int .u8 ((k + 97:Nat):Int))):=fun X hX=>by
   have:=peek_fn X kp s z pv ov hX Hz.out
   rwa [hk2] at this
  rw [hk2] at HN
  clear e hk2 HD
  go_enter func121,ntmps121
  go_upto_region 1 with fail
  have HW0:Hid (Rd (w.alloc (Obj.cells #[Value.bool false,Value.int .i64 0] 119)) kp s z pv ov ∧ Fr NoB w (w.alloc (Obj.cells #[Value.bool false,Value.int .i64 0] 119))):=⟨HR.out.no ((Fr.refl _ _).alloc _),(Fr.refl _ _).alloc _⟩
  have r0:(w.alloc (Obj.cells #[Value.bool false,Value.int .i64 0] 119)).cell? ⟨w.heap.size,0,none⟩ = some (.bool false):=cell_new _ _ _ rfl rfl
  have r1:(w.alloc (Obj.cells #[Value.bool false,Value.int .i64 0] 119)).cell? ⟨w.heap.size,1,none⟩ = some (.int .i64 0):=cell_new _ _ _ rfl rfl
  have rf0:(w.alloc (Obj.cells #[Value.bool false,Value.int .i64 0] 119)).frozen? ⟨w.heap.size,0,none⟩ = false:=World.frozen?_alloc_at _ _ _ _ rfl
  have rf1:(w.alloc (Obj.cells #[Value.bool false,Value.int .i64 0] 119)).frozen? ⟨w.heap.size,1,none⟩ = false:=World.frozen?_alloc_at _ _ _ _ rfl
  have hrk:¬ OneB kp w.heap.size:=fun e=>by unfold OneB at e;omega
  have hrl:w.heap.size < (w.alloc (Obj.cells #[Value.bool false,Value.int .i64 0] 119)).heap.size:=by simp
  have hfin:Hid (∀ {S:Nat → Prop} {X:World},Fr S (w.alloc (Obj.cells #[Value.bool false,Value.int .i64 0] 119)) X → (∀ k,S k → OneB kp k) → ∀ u v:Value,Fr (OneB kp) w ((X.setCell ⟨w.heap.size,0,none⟩ u).setCell ⟨w.heap.size,1,none⟩ v)):=fun {S X} hX hS u v =>
   (((((Fr.refl _ _).alloc _).trans (hX.mono (fun k _ q=>hS k q))).setCell (p:=⟨w.heap.size,0,none⟩) (fun q=>absurd q (by simp)) u).setCell (p:=⟨w.heap.size,1,none⟩) (fun q=>absurd q (by simp)) v)
  generalize (w.alloc (Obj.cells #[Value.bool false,Value.int .i64 0] 119)) = W0 at *
  generalize w.heap.size = rb at *
  go_wp2_with (first | (go_at_call 89;refine (HPk.out _ HW0.out.1).mono ?_;rintro x w1 ⟨rfl,hF1⟩;have HR1:Hid (Rd w1 kp s z pv ov):=HW0.out.1.no hF1;have c1:=HR1.out.c1;have f1:=HR1.out.f 1;have s0:=hF1.cell_some r0 id;have s1:=hF1.cell_some r1 id;have sf0:=(hF1.frozen (p:=⟨rb,0,none⟩) hrl id).trans rf0;have sf1:=(hF1.frozen (p:=⟨rb,1,none⟩) hrl id).trans rf1;have hne2:kp ≠ rb:=(fun q=>hrk (by unfold OneB;omega))) | (go_at_call 90;refine sameC (HN.out _) ?_))
  have s0':(w1.setCell ⟨kp,1,none⟩ (Value.int .i64 ((z.1:Int) + 1))).cell? ⟨rb,0,none⟩ = some (.bool false):=(cell_other (.inl hne2)).trans s0
  have s1':(w1.setCell ⟨kp,1,none⟩ (Value.int .i64 ((z.1:Int) + 1))).cell? ⟨rb,1,none⟩ = some (.int .i64 0):=(cell_other (.inl hne2)).trans s1
  have h2:=two_set (u0:=Value.bool true) (u1:=Value.int .i64 k) s0' s1'
  exact bodyPost_ret (v:=.agg #[.bool true,.int .i64 k]) (by simp [results,results121,go_sem,h2.1,h2.2]) rfl ⟨by rw [HV.out];rfl,by rw [HE.out];exact (HR1.out.set1 (z.1 + 1)).far hrk _ _,hfin.out ((hF1.of_no (T:=OneB kp)).setCell (p:=⟨kp,1,none⟩) (fun _=>rfl) _) (fun _ q=>q) _ _⟩
theorem index_fn (h:Rd w kp s z pv ov) (hz:Zb s z) :
  Calls prog 119 #[.pointer (some ⟨kp,0,none⟩)] w fun x w'=>x = .returned (odW (ixV s z)) ∧ Rd w' kp s (ix s z) pv ov ∧ Fr (OneB kp) w w':=by
 have HR:Hid (Rd w kp s z pv ov):=h
 have Hz:Hid (Zb s z):=hz
 have hkl:=h.lt
 clear h hz
 go_enter func119,ntmps119
 go_upto_region 1 with fail
 have HW0:Hid (Rd (w.alloc (Obj.cells #[Value.bool false,Value.int .i64 0] 119)) kp s z pv ov ∧ Fr NoB w (w.alloc (Obj.cells #[Value.bool false,Value.int .i64 0] 119))):=⟨HR.out.no ((Fr.refl _ _).alloc _),(Fr.refl _ _).alloc _⟩
 have r0:(w.alloc (Obj.cells #[Value.bool false,Value.int .i64 0] 119)).cell? ⟨w.heap.size,0,none⟩ = some (.bool false):=cell_new _ _ _ rfl rfl
 have r1:(w.alloc (Obj.cells #[Value.bool false,Value.int .i64 0] 119)).cell? ⟨w.heap.size,1,none⟩ = some (.int .i64 0):=cell_new _ _ _ rfl rfl
 have rf0:(w.alloc (Obj.cells #[Value.bool false,Value.int .i64 0] 119)).frozen? ⟨w.heap.size,0,none⟩ = false:=World.frozen?_alloc_at _ _ _ _ rfl
 have rf1:(w.alloc (Obj.cells #[Value.bool false,Value.int .i64 0] 119)).frozen? ⟨w.heap.size,1,none⟩ = false:=World.frozen?_alloc_at _ _ _ _ rfl
 have hrk:¬ OneB kp w.heap.size:=fun e=>by unfold OneB at e;omega
 have hrl:w.heap.size < (w.alloc (Obj.cells #[Value.bool false,Value.int .i64 0] 119)).heap.size:=by simp
 have hfin:Hid (∀ {S:Nat → Prop} {X:World},Fr S (w.alloc (Obj.cells #[Value.bool false,Value.int .i64 0] 119)) X → (∀ k,S k → OneB kp k) → ∀ u v:Value,Fr (OneB kp) w ((X.setCell ⟨w.heap.size,0,none⟩ u).setCell ⟨w.heap.size,1,none⟩ v)):=fun {S X} hX hS u v =>
  (((((Fr.refl _ _).alloc _).trans (hX.mono (fun k _ q=>hS k q))).setCell (p:=⟨w.heap.size,0,none⟩) (fun q=>absurd q (by simp)) u).setCell (p:=⟨w.heap.size,1,none⟩) (fun q=>absurd q (by simp)) v)
 generalize (w.alloc (Obj.cells #[Value.bool false,Value.int .i64 0] 119)) = W0 at *
 generalize w.heap.size = rb at *
 go_wp2_with fail
 refine (take_fn _ kp s z pv ov HW0.out.1 Hz.out 91 (by decide)).mono ?_
 rintro x w1 ⟨rfl,hR1,hF1⟩
 have HV:Hid (ixV s z = opV s (tk s 91 z)):=rfl
 have Hz1:Hid (Zb s (tk s 91 z)):=Hz.out.tk (by decide)
 have HX:Hid (ix s z = tk s 93 (op s (tk s 91 z))):=rfl
 generalize tk s 91 z = z1 at *
 go_wp2_with fail
 refine (operand_fn _ kp s _ pv ov hR1 Hz1.out).mono ?_
 rintro x w2 ⟨rfl,hR2,hF2⟩
 unfold odW
 have hF12:=hF1.trans hF2
 have hF3:Fr (OneB kp) W0 (w2.alloc (Obj.cells #[Value.bool (odB (opV s z1)),Value.int .i64 (odI (opV s z1):Int)] 119)):=hF12.alloc _
 have hR3:=hR2.no ((Fr.refl NoB w2).alloc (Obj.cells #[Value.bool (odB (opV s z1)),Value.int .i64 (odI (opV s z1):Int)] 119))
 have p0:(w2.alloc (Obj.cells #[Value.bool (odB (opV s z1)),Value.int .i64 (odI (opV s z1):Int)] 119)).cell? ⟨w2.heap.size,0,none⟩ = some (.bool (odB (opV s z1))):=cell_new _ _ _ rfl rfl
 have p1:(w2.alloc (Obj.cells #[Value.bool (odB (opV s z1)),Value.int .i64 (odI (opV s z1):Int)] 119)).cell? ⟨w2.heap.size,1,none⟩ = some (.int .i64 (odI (opV s z1):Int)):=cell_new _ _ _ rfl rfl
 have hkl2:kp < w2.heap.size:=hR2.lt
 have hrl2:rb < w2.heap.size:=Nat.lt_of_lt_of_le hrl hF12.size
 have Hz2:Hid (Zb s (op s z1)):=Hz1.out.op
 go_upto_region 3 with fail
 generalize (w2.alloc (Obj.cells #[Value.bool (odB (opV s z1)),Value.int .i64 (odI (opV s z1):Int)] 119)) = W3 at *
 generalize hqb:w2.heap.size = qb at *
 have hqk:¬ OneB kp qb:=fun e=>by unfold OneB at e;omega
 have HOW:Hid (odW (ixV s z) = .agg #[.bool (odB (opV s z1)),.int .i64 (odI (opV s z1):Int)]):=by show odW (ixV s z) = _;rw [HV.out];rfl
 generalize odB (opV s z1) = ob at *
 generalize odI (opV s z1) = oi at *
 go_wp2_with fail
 refine (take_fn _ kp s _ pv ov hR3 Hz2.out 93 (by decide)).mono ?_
 rintro x w4 ⟨rfl,hR4,hF4⟩
 have q0:=hF4.cell_some p0 hqk
 have q1:=hF4.cell_some p1 hqk
 have hF5:=hF3.trans hF4
 have s0:=hF5.cell_some r0 hrk
 have s1:=hF5.cell_some r1 hrk
 have sf0:=(hF5.frozen (p:=⟨rb,0,none⟩) hrl hrk).trans rf0
 have sf1:=(hF5.frozen (p:=⟨rb,1,none⟩) hrl hrk).trans rf1
 go_wp2
 have h2:=two_set (u0:=Value.bool ob) (u1:=Value.int .i64 oi) s0 s1
 exact bodyPost_ret (v:=.agg #[.bool ob,.int .i64 oi]) (by simp [results,results119,go_sem,h2.1,h2.2]) rfl ⟨by rw [HOW.out],by rw [HX.out];exact hR4.far hrk _ _,hfin.out hF5 (fun _ q=>q) _ _⟩
end
end
section
def intC (o:Nat):Value:=.int .i64 o
def ptsC (P:List Pt) (C:Nat → Nat):List Value:=(List.range P.length).flatMap (fun i=>ptC (pOf P i) (C i))
theorem ptC_len (t:Pt) (c:Nat):(ptC t c).length = 12:=rfl
theorem flat12 {T:Type} (f:T → List Value) (hf:∀ x,(f x).length = 12):∀ (L:List T) (i j:Nat) (hi:i < L.length),j < 12 → (L.flatMap f)[i * 12 + j]? = (f L[i])[j]?
 | [],i,j,h,_=>absurd h (Nat.not_lt_zero _)
 | t :: L,0,j,_,hj=>by
  rw [List.flatMap_cons,List.getElem?_append_left (by rw [hf];omega),show 0 * 12 + j = j by omega]
  rfl
 | t :: L,i + 1,j,h,hj=>by
  rw [List.flatMap_cons,List.getElem?_append_right (by rw [hf];omega),hf,show (i + 1) * 12 + j - 12 = i * 12 + j by omega]
  exact flat12 f hf L i j (by simpa using h) hj
theorem ptsC_get (P:List Pt) (C:Nat → Nat) (i j:Nat) (hi:i < P.length) (hj:j < 12):(ptsC P C)[i * 12 + j]? = (ptC (pOf P i) (C i))[j]?:=by
 unfold ptsC
 rw [flat12 _ (fun x=>ptC_len _ _) _ i j (by simpa using hi) hj]
 simp
theorem flat_same {f g:Nat → List Value}:∀ (L:List Nat),(∀ x,x ∈ L → f x = g x) → L.flatMap f = L.flatMap g
 | [],_=>rfl
 | x :: L,h=>by
  rw [List.flatMap_cons,List.flatMap_cons,h x (by simp),flat_same L (fun y hy=>h y (by simp [hy]))]
theorem ptsC_push (P:List Pt) (C:Nat → Nat) (t:Pt):ptsC (P ++ [t]) C = ptsC P C ++ ptC t (C P.length):=by
 unfold ptsC
 have hl:(P ++ [t]).length = P.length + 1:=by simp
 rw [hl,List.range_succ,List.flatMap_append,List.flatMap_cons,List.flatMap_nil,List.append_nil,pOf_new]
 congr 1
 refine flat_same _ ?_
 intro i hi
 rw [pOf_app _ (by simpa using hi)]
structure RdP (w:World) (kp base:Nat) (s:ByteArray) (r:Rs) (pv ov:Value) (C:Nat → Nat):Prop where
 rd:Rd w kp s r.z pv ov
 pr:w.ownsRow base 121 12 pv r.P.length (ptsC r.P C)
 orow:w.ownsRow base 3 1 ov r.O.length (r.O.map intC)
 kb:kp < base
 ne:∀ g,pv.ownBlock = some g → ov.ownBlock ≠ some g
theorem owns_base {w:World} {base:Nat} {e:TypeId} {size:Nat} {v:Value} {n:Nat} {xs:List Value} (h:w.ownsRow base e size v n xs) {g:Nat} (hg:v.ownBlock = some g):base ≤ g ∧ g < w.heap.size:=by
 rcases h.2 with ⟨hv,_⟩ | ⟨g',cap,cur,hv,hb,hh,_⟩
 ·rw [hv] at hg;simp [Value.ownBlock] at hg
 ·rw [hv] at hg
  simp [Value.ownBlock] at hg
  subst hg
  exact ⟨hb,(Array.getElem?_eq_some_iff.1 hh).1⟩
theorem RdP.fr {S:Nat → Prop} {w w':World} {kp base:Nat} {s:ByteArray} {r:Rs} {pv ov:Value} {C:Nat → Nat} (h:RdP w kp base s r pv ov C) (hF:Fr S w w') (hk:¬ S kp) (hp:∀ g,pv.ownBlock = some g → ¬ S g) (ho:∀ g,ov.ownBlock = some g → ¬ S g):RdP w' kp base s r pv ov C :=
 ⟨h.rd.fr hF hk,hF.owns h.pr hp,hF.owns h.orow ho,h.kb,h.ne⟩
theorem RdP.no {w w':World} {kp base:Nat} {s:ByteArray} {r:Rs} {pv ov:Value} {C:Nat → Nat} (h:RdP w kp base s r pv ov C) (hF:Fr NoB w w'):RdP w' kp base s r pv ov C:=h.fr hF id (fun _ _=>id) (fun _ _=>id)
theorem RdP.step {w w':World} {kp base:Nat} {s:ByteArray} {r:Rs} {z:Nat × Nat} {pv ov:Value} {C:Nat → Nat} (h:RdP w kp base s r pv ov C) (hF:Fr (OneB kp) w w') (hR:Rd w' kp s z pv ov):RdP w' kp base s ⟨z,r.P,r.O⟩ pv ov C :=
 ⟨hR,hF.owns h.pr (fun g hg e=>by have:=owns_base h.pr hg;have:=h.kb;unfold OneB at e;omega),hF.owns h.orow (fun g hg e=>by have:=owns_base h.orow hg;have:=h.kb;unfold OneB at e;omega),h.kb,h.ne⟩
theorem RdP.set {w:World} {kp base pb:Nat} {s:ByteArray} {r:Rs} {pv ov:Value} {C:Nat → Nat} (h:RdP w kp base s r pv ov C) (h1:pb ≠ kp) (h2:∀ g,pv.ownBlock = some g → g ≠ pb) (h3:∀ g,ov.ownBlock = some g → g ≠ pb) (o:Nat) (u:Value):RdP (w.setCell ⟨pb,o,none⟩ u) kp base s r pv ov C :=
 h.fr ((Fr.refl (OneB pb) w).setCell (p:=⟨pb,o,none⟩) (fun _=>rfl) u) (fun e=>h1 e.symm) (fun g hg e=>h2 g hg e) (fun g hg e=>h3 g hg e)
theorem RdP.growP {w w2:World} {o:Obj} {kp base:Nat} {s:ByteArray} {r:Rs} {pv ov v':Value} {t:Pt} {C:Nat → Nat} (h:RdP w kp base s r pv ov C) (hC:C r.P.length = 0) (hk:AppKind (w.alloc o).drew w2 pv v' r.P.length 1)
  (hown:w2.ownsRow base 121 12 v' (r.P.length + 1) (ptsC r.P C ++ ptC t 0)) :
  w2.cell? ⟨kp,2,none⟩ = some pv ∧ w2.frozen? ⟨kp,2,none⟩ = false ∧ RdP (w2.setCell ⟨kp,2,none⟩ v') kp base s ⟨r.z,r.P ++ [t],r.O⟩ v' ov C ∧ Fr (StkS kp base) w (w2.setCell ⟨kp,2,none⟩ v'):=by
 have hF:Fr (fun k=>pv.ownBlock = some k) w w2:=(((Fr.refl _ w).alloc o).drew).trans hk.fr
 have hkb:=h.kb
 have hnk:¬ pv.ownBlock = some kp:=fun e=>by have:=owns_base h.pr e;omega
 have hR:=h.rd.fr hF hnk
 have hO:=hF.owns h.orow (fun g hg e=>h.ne g e hg)
 have hvk:v'.ownBlock ≠ some kp:=fun e=>by have:=owns_base hown e;omega
 have hok:ov.ownBlock ≠ some kp:=fun e=>by have:=owns_base h.orow e;omega
 refine ⟨hR.c2,hR.f 2,⟨hR.set2 v',?_,?_,hkb,?_⟩,?_⟩
 ·have hx:ptsC (r.P ++ [t]) C = ptsC r.P C ++ ptC t 0:=by rw [ptsC_push,hC]
  show (w2.setCell ⟨kp,2,none⟩ v').ownsRow base 121 12 v' (r.P ++ [t]).length (ptsC (r.P ++ [t]) C)
  rw [hx,List.length_append,List.length_singleton]
  exact ((Fr.refl (OneB kp) w2).setCell (p:=⟨kp,2,none⟩) (fun _=>rfl) _).owns hown (fun g hg e=>hvk (by rw [show g = kp from e] at hg;exact hg))
 ·exact ((Fr.refl (OneB kp) w2).setCell (p:=⟨kp,2,none⟩) (fun _=>rfl) _).owns hO (fun g hg e=>hok (by rw [show g = kp from e] at hg;exact hg))
 ·intro g hg e
  obtain ⟨g2,cap2,rfl,hp⟩:=hk.place
  have e3:g2 = g:=by simpa [Value.ownBlock] using hg
  subst e3
  rcases hp with q | q
  ·have:=owns_base h.orow e
   simp at q
   omega
  ·exact h.ne _ q e
 ·exact (hF.mono (fun k hk2 e=>.inr (owns_base h.pr e).1)).setCell (p:=⟨kp,2,none⟩) (fun _=>.inl rfl) _
theorem RdP.growO {w w2:World} {o:Obj} {kp base:Nat} {s:ByteArray} {r:Rs} {pv ov v':Value} {t:Nat} {C:Nat → Nat} (h:RdP w kp base s r pv ov C) (hk:AppKind (w.alloc o).drew w2 ov v' r.O.length 1)
  (hown:w2.ownsRow base 3 1 v' (r.O.length + 1) (r.O.map intC ++ [intC t])) :
  w2.cell? ⟨kp,3,none⟩ = some ov ∧ w2.frozen? ⟨kp,3,none⟩ = false ∧ RdP (w2.setCell ⟨kp,3,none⟩ v') kp base s ⟨r.z,r.P,r.O ++ [t]⟩ pv v' C ∧ Fr (StkS kp base) w (w2.setCell ⟨kp,3,none⟩ v'):=by
 have hF:Fr (fun k=>ov.ownBlock = some k) w w2:=(((Fr.refl _ w).alloc o).drew).trans hk.fr
 have hkb:=h.kb
 have hnk:¬ ov.ownBlock = some kp:=fun e=>by have:=owns_base h.orow e;omega
 have hR:=h.rd.fr hF hnk
 have hP:=hF.owns h.pr (fun g hg e=>h.ne g hg e)
 have hvk:v'.ownBlock ≠ some kp:=fun e=>by have:=owns_base hown e;omega
 have hpk:pv.ownBlock ≠ some kp:=fun e=>by have:=owns_base h.pr e;omega
 refine ⟨hR.c3,hR.f 3,⟨hR.set3 v',?_,?_,hkb,?_⟩,?_⟩
 ·exact ((Fr.refl (OneB kp) w2).setCell (p:=⟨kp,3,none⟩) (fun _=>rfl) _).owns hP (fun g hg e=>hpk (by rw [show g = kp from e] at hg;exact hg))
 ·show (w2.setCell ⟨kp,3,none⟩ v').ownsRow base 3 1 v' (r.O ++ [t]).length ((r.O ++ [t]).map intC)
  rw [List.map_append,List.length_append,List.length_singleton]
  exact ((Fr.refl (OneB kp) w2).setCell (p:=⟨kp,3,none⟩) (fun _=>rfl) _).owns hown (fun g hg e=>hvk (by rw [show g = kp from e] at hg;exact hg))
 ·intro g hg e
  obtain ⟨g2,cap2,rfl,hp⟩:=hk.place
  have e3:g2 = g:=by simpa [Value.ownBlock] using e
  subst e3
  rcases hp with q | q
  ·have:=owns_base h.pr hg
   simp at q
   omega
  ·exact h.ne _ hg q
 ·exact (hF.mono (fun k hk2 e=>.inr (owns_base h.orow e).1)).setCell (p:=⟨kp,3,none⟩) (fun _=>.inl rfl) _
theorem Tryz.infoPart:(prog.info? 121).map (fun i=>(i.zero,i.size,i.bytes)) = some (some (.agg #[.int .i64 0,.int .i64 0,.int .i64 0,.int .i64 0,.int .i64 0,.bool false,.int .i64 0,.int .u8 0,.bool false,.int .i64 0,.int .i64 0,.int .i64 0]),12,96):=by kernel_rfl
theorem Tryz.infoInt:(prog.info? 3).map (fun i=>(i.zero,i.size,i.bytes)) = some (some (.int .i64 0),1,8):=by kernel_rfl
def PartSays (kp base:Nat) (s:ByteArray) (r:Rs) (w:World) (x:Ending) (w':World):Prop:=x = .returned (.tuple #[]) ∧ (∃ pv ov,RdP w' kp base s r pv ov (cloL r.P)) ∧ Fr (StkS kp base) w w'
structure PtAt (w:World) (pb:Nat) (t:Pt):Prop where
 c:∀ j u,(ptC t 0)[j]? = some u → w.cell? ⟨pb,j,none⟩ = some u
 f:∀ o,w.frozen? ⟨pb,o,none⟩ = false
theorem PtAt.lt {w:World} {pb:Nat} {t:Pt} (h:PtAt w pb t):pb < w.heap.size:=World.block_lt_of_cell? w _ (h.c 0 _ rfl)
theorem PtAt.fr {S:Nat → Prop} {w w':World} {pb:Nat} {t:Pt} (h:PtAt w pb t) (hF:Fr S w w') (hS:¬ S pb):PtAt w' pb t :=
 ⟨fun j u hu=>hF.cell_some (h.c j u hu) hS,fun o=>(hF.frozen (p:=⟨pb,o,none⟩) h.lt hS).trans (h.f o)⟩
theorem PtAt.new (w:World) (t:Pt):PtAt (w.alloc (.cells (ptC t 0).toArray 121)) w.heap.size t :=
 ⟨fun j u hu=>cell_new _ _ _ rfl (by simpa using hu),fun o=>World.frozen?_alloc_at _ _ _ _ rfl⟩
theorem PtAt.set {w:World} {pb:Nat} {t t':Pt} (h:PtAt w pb t) {j:Nat} {u:Value} (hj:(ptC t' 0)[j]? = some u) (ho:∀ i,i ≠ j → (ptC t' 0)[i]? = (ptC t 0)[i]?):PtAt (w.setCell ⟨pb,j,none⟩ u) pb t':=by
 have hlt:j < 12:=by
  have:=(List.getElem?_eq_some_iff.1 hj).1
  rwa [ptC_len] at this
 obtain ⟨v,hv⟩:∃ v,(ptC t 0)[j]? = some v:=⟨_,List.getElem?_eq_getElem (by rw [ptC_len];exact hlt)⟩
 refine ⟨fun i x hx=>?_,fun o=>by rw [World.frozen?_setCell];exact h.f o⟩
 by_cases e:i = j
 ·subst e
  rw [hj] at hx
  rw [← Option.some.inj hx]
  exact cell_same (h.c i v hv)
 ·rw [ho i e] at hx
  exact (cell_other (.inr (Ne.symm e))).trans (h.c i x hx)
structure Wk (w0 w:World) (kp base pb:Nat) (s:ByteArray) (r:Rs) (pv ov:Value) (C:Nat → Nat) (t:Pt):Prop where
 rp:RdP w kp base s r pv ov C
 pt:PtAt w pb t
 fr:Fr (StkS kp base) w0 w
 hb:base ≤ w0.heap.size
 hp:w0.heap.size ≤ pb
 n1:pb ≠ kp
 n2:∀ g,pv.ownBlock = some g → g ≠ pb
 n3:∀ g,ov.ownBlock = some g → g ≠ pb
theorem Wk.start {w:World} {kp base:Nat} {s:ByteArray} {r:Rs} {pv ov:Value} {C:Nat → Nat} (h:RdP w kp base s r pv ov C) (hb:base ≤ w.heap.size) (t:Pt) :
  Wk w (w.alloc (.cells (ptC t 0).toArray 121)) kp base w.heap.size s r pv ov C t :=
 ⟨h.no ((Fr.refl _ _).alloc _),PtAt.new w t,(Fr.refl _ _).alloc _,hb,Nat.le_refl _,fun e=>by have:=h.rd.lt;omega,fun g hg e=>by have:=owns_base h.pr hg;omega,fun g hg e=>by have:=owns_base h.orow hg;omega⟩
section
variable {w0 w w':World} {kp base pb:Nat} {s:ByteArray} {r:Rs} {pv ov:Value} {C:Nat → Nat} {t t':Pt} {z:Nat × Nat}
theorem Wk.step (h:Wk w0 w kp base pb s r pv ov C t) (hF:Fr (OneB kp) w w') (hR:Rd w' kp s z pv ov):Wk w0 w' kp base pb s ⟨z,r.P,r.O⟩ pv ov C t :=
 ⟨h.rp.step hF hR,h.pt.fr hF (fun e=>h.n1 e),h.fr.trans (hF.mono (fun k _ e=>.inl e)),h.hb,h.hp,h.n1,h.n2,h.n3⟩
theorem Wk.no (h:Wk w0 w kp base pb s r pv ov C t) (hF:Fr NoB w w'):Wk w0 w' kp base pb s r pv ov C t :=
 ⟨h.rp.no hF,h.pt.fr hF id,h.fr.trans hF.of_no,h.hb,h.hp,h.n1,h.n2,h.n3⟩
theorem Wk.set (h:Wk w0 w kp base pb s r pv ov C t) {j:Nat} {u:Value} (hj:(ptC t' 0)[j]? = some u) (ho:∀ i,i ≠ j → (ptC t' 0)[i]? = (ptC t 0)[i]?):Wk w0 (w.setCell ⟨pb,j,none⟩ u) kp base pb s r pv ov C t' :=
 ⟨h.rp.set h.n1 h.n2 h.n3 _ _,h.pt.set hj ho,h.fr.setCell (p:=⟨pb,j,none⟩) (fun q=>by have:=h.hp;simp only [] at q;omega) _,h.hb,h.hp,h.n1,h.n2,h.n3⟩
theorem Wk.setK (h:Wk w0 w kp base pb s r pv ov C t) (k:Nat):Wk w0 (w.setCell ⟨pb,0,none⟩ (.int .i64 k)) kp base pb s r pv ov C { t with kind:=k } :=
 h.set rfl (fun i hi=>by rcases i with _ | _ | _ | _ | _ | _ | _ | _ | _ | _ | _ | _ | i <;> first | rfl | exact absurd rfl hi)
theorem Wk.setB (h:Wk w0 w kp base pb s r pv ov C t) (k:Nat):Wk w0 (w.setCell ⟨pb,3,none⟩ (.int .i64 k)) kp base pb s r pv ov C { t with box:=k } :=
 h.set rfl (fun i hi=>by rcases i with _ | _ | _ | _ | _ | _ | _ | _ | _ | _ | _ | _ | i <;> first | rfl | exact absurd rfl hi)
theorem Wk.setS (h:Wk w0 w kp base pb s r pv ov C t) (k:Nat):Wk w0 (w.setCell ⟨pb,4,none⟩ (.int .i64 k)) kp base pb s r pv ov C { t with src:=k } :=
 h.set rfl (fun i hi=>by rcases i with _ | _ | _ | _ | _ | _ | _ | _ | _ | _ | _ | _ | i <;> first | rfl | exact absurd rfl hi)
theorem Wk.setG (h:Wk w0 w kp base pb s r pv ov C t) (k:Nat):Wk w0 (w.setCell ⟨pb,7,none⟩ (.int .u8 k)) kp base pb s r pv ov C { t with sign:=k } :=
 h.set rfl (fun i hi=>by rcases i with _ | _ | _ | _ | _ | _ | _ | _ | _ | _ | _ | _ | i <;> first | rfl | exact absurd rfl hi)
theorem Wk.set2 {t1:Pt} (h:Wk w0 w kp base pb s r pv ov C t) {j:Nat} {u v:Value} (hj:(ptC t' 0)[j]? = some u) (hj1:(ptC t' 0)[j + 1]? = some v) (ho:∀ i,i ≠ j → i ≠ j + 1 → (ptC t' 0)[i]? = (ptC t 0)[i]?):Wk w0 ((w.setCell ⟨pb,j,none⟩ u).setCell ⟨pb,j + 1,none⟩ v) kp base pb s r pv ov C t':=by
 have hl:∀ {i:Nat} {x:Value} {t:Pt},(ptC t 0)[i]? = some x → i < 12:=fun {i x t} q=>by
  have:=(List.getElem?_eq_some_iff.1 q).1
  rwa [ptC_len] at this
 have h0:=hl hj
 have h1:=hl hj1
 obtain ⟨x,hx⟩:∃ x,(ptC t 0)[j]? = some x:=⟨_,List.getElem?_eq_getElem (by rw [ptC_len];exact h0)⟩
 obtain ⟨y,hy⟩:∃ y,(ptC t 0)[j + 1]? = some y:=⟨_,List.getElem?_eq_getElem (by rw [ptC_len];exact h1)⟩
 refine ⟨(h.rp.set h.n1 h.n2 h.n3 _ _).set h.n1 h.n2 h.n3 _ _,⟨fun i q hq=>?_,fun o=>by rw [World.frozen?_setCell,World.frozen?_setCell];exact h.pt.f o⟩,(h.fr.setCell (p:=⟨pb,j,none⟩) (fun q=>by have:=h.hp;simp only [] at q;omega) _).setCell (p:=⟨pb,j + 1,none⟩) (fun q=>by have:=h.hp;simp only [] at q;omega) _,h.hb,h.hp,h.n1,h.n2,h.n3⟩
 by_cases e1:i = j + 1
 ·subst e1
  rw [hj1] at hq
  rw [← Option.some.inj hq]
  exact cell_same ((cell_other (.inr (by omega))).trans (h.pt.c _ _ hy))
 ·rw [cell_other (.inr (Ne.symm e1))]
  by_cases e:i = j
  ·subst e
   rw [hj] at hq
   rw [← Option.some.inj hq]
   exact cell_same (h.pt.c _ _ hx)
  ·rw [ho i e e1] at hq
   exact (cell_other (.inr (Ne.symm e))).trans (h.pt.c _ _ hq)
theorem Wk.set1 (h:Wk w0 w kp base pb s r pv ov C t) (o:Od):Wk w0 ((w.setCell ⟨pb,5,none⟩ (.bool (odB o))).setCell ⟨pb,6,none⟩ (.int .i64 (odI o:Int))) kp base pb s r pv ov C { t with o1:=o } :=
 h.set2 (t1:=t) (j:=5) rfl rfl (fun i h1 h2=>by rcases i with _ | _ | _ | _ | _ | _ | _ | _ | _ | _ | _ | _ | i <;> first | rfl | exact absurd rfl h1 | exact absurd rfl h2)
theorem Wk.setO2 (h:Wk w0 w kp base pb s r pv ov C t) (o:Od):Wk w0 ((w.setCell ⟨pb,8,none⟩ (.bool (odB o))).setCell ⟨pb,9,none⟩ (.int .i64 (odI o:Int))) kp base pb s r pv ov C { t with o2:=o } :=
 h.set2 (t1:=t) (j:=8) rfl rfl (fun i h1 h2=>by rcases i with _ | _ | _ | _ | _ | _ | _ | _ | _ | _ | _ | _ | i <;> first | rfl | exact absurd rfl h1 | exact absurd rfl h2)
end
theorem owns_form {w:World} {base:Nat} {e:TypeId} {size:Nat} {v:Value} {n:Nat} {xs:List Value} (h:w.ownsRow base e size v n xs):∃ ao cap,v = .slice ao n cap:=by
 rcases h.2 with ⟨hv,h0⟩ | ⟨g,cap,cur,hv,_⟩
 ·exact ⟨none,0,by rw [hv,h0]⟩
 ·exact ⟨_,_,hv⟩
end
end Go.Proofs.YthcjcjfgdgnljabGreatDoor
