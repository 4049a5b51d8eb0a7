import Derived.Test.YthcjcjfgdgnljabGreatDoorGDevQ
set_option linter.unusedVariables false
set_option maxHeartbeats 4000000
set_option maxRecDepth 8000
open Go.Proofs.Tryz
namespace Go.Proofs.YthcjcjfgdgnljabGreatDoor
open Go.RowKit
def odB:Od → Bool
 | .n _=>true
 | .v _=>false
def odI:Od → Nat
 | .n k=>k
 | .v x=>x
def ptC (t:Pt) (clo:Nat):List Value:=[.int .i64 t.kind,.int .i64 t.place,.int .i64 t.num,.int .i64 t.box,.int .i64 t.src,.bool (odB t.o1),.int .i64 (odI t.o1:Int),.int .u8 t.sign,.bool (odB t.o2),.int .i64 (odI t.o2:Int),.int .i64 t.opn,.int .i64 clo]
structure PtOk (t:Pt):Prop where
 k:t.kind ≤ 12
 n:t.num < 26
 o1:OdOk t.o1
 o2:OdOk t.o2
 sg:t.sign < 256
 b:t.box < 26
 s:t.src < 26
 p:t.place ≤ 100000
 o:t.opn ≤ 100000
theorem fbehind_fn (w:World) (t:Pt) (clo:Nat) (f:Nat → Bool) (ht:PtOk t) :
  CR 98 #[.agg #[.int .i64 t.kind,.int .i64 t.place,.int .i64 t.num,.int .i64 t.box,.int .i64 t.src,.bool (odB t.o1),.int .i64 (odI t.o1:Int),.int .u8 t.sign,.bool (odB t.o2),.int .i64 (odI t.o2:Int),.int .i64 t.opn,.int .i64 clo],.int .u32 (msk f:Int)] w (.int .u32 (msk (behP t f):Int)):=by
 obtain ⟨kind,place,num,box,src,o1,sign,o2,opn⟩:=t
 have hb:box < 26:=ht.b
 have hs:src < 26:=ht.s
 clear ht
 show CR 98 #[.agg #[.int .i64 kind,.int .i64 place,.int .i64 num,.int .i64 box,.int .i64 src,.bool (odB o1),.int .i64 (odI o1:Int),.int .u8 sign,.bool (odB o2),.int .i64 (odI o2:Int),.int .i64 opn,.int .i64 clo],.int .u32 (msk f:Int)] w (.int .u32 (msk (behP ⟨kind,place,num,box,src,o1,sign,o2,opn⟩ f):Int))
 by_cases h4x:kind = 4
 ·have hE:behP ⟨kind,place,num,box,src,o1,sign,o2,opn⟩ f = updB f box true:=by unfold behP;rw [if_pos h4x]
  rw [hE]
  subst h4x
  clear hE
  go_enter func98,ntmps98
  go_wp2_with (go_at_call 123;refine sameC (with_fn _ f box hb) ?_)
  go_ret
  exact ⟨rfl,(Fr.refl _ _).alloc _⟩
 ·have b4x:((kind:Int) == 4) = false:=bF (by omega)
  by_cases h7x:kind = 7
  ·have hE:behP ⟨kind,place,num,box,src,o1,sign,o2,opn⟩ f = updB f box false:=by unfold behP;rw [if_neg h4x,if_pos h7x]
   rw [hE]
   subst h7x
   clear hE b4x h4x
   go_enter func98,ntmps98
   go_wp2_with (go_at_call 124;refine sameC (without_fn _ f box hb) ?_)
   go_ret
   exact ⟨rfl,(Fr.refl _ _).alloc _⟩
  ·have b7x:((kind:Int) == 7) = false:=bF (by omega)
   by_cases h5x:kind = 5
   ·have hE:behP ⟨kind,place,num,box,src,o1,sign,o2,opn⟩ f = moveF box src f:=by unfold behP;rw [if_neg h4x,if_neg h7x,if_pos h5x]
    rw [hE]
    subst h5x
    clear hE b4x h4x b7x h7x
    go_enter func98,ntmps98
    go_wp2_with (go_at_call 125;refine sameC (move_fn _ f box src hb hs) ?_)
    go_ret
    exact ⟨rfl,(Fr.refl _ _).alloc _⟩
   ·have b5x:((kind:Int) == 5) = false:=bF (by omega)
    have hE:behP ⟨kind,place,num,box,src,o1,sign,o2,opn⟩ f = f:=by unfold behP;rw [if_neg h4x,if_neg h7x,if_neg h5x]
    rw [hE]
    clear hE h4x h7x h5x
    go_enter func98,ntmps98
    go_wp2
    go_ret
    exact ⟨rfl,(Fr.refl _ _).alloc _⟩
structure PartRow (w:World) (ao:Option Addr) (n:Nat) (p:Nat → Pt) (C:Nat → Nat):Prop where
 some_:0 < n → ∃ g,ao = some ⟨g,0,none⟩
 c:∀ g i j u,i < n → ao = some ⟨g,0,none⟩ → (ptC (p i) (C i))[j]? = some u → w.cell? ⟨g,i * 12 + j,none⟩ = some u
theorem PartRow.fr {S:Nat → Prop} {w w':World} {ao:Option Addr} {n:Nat} {p:Nat → Pt} {C:Nat → Nat} (h:PartRow w ao n p C) (hf:Fr S w w') (hs:∀ g,ao = some ⟨g,0,none⟩ → ¬ S g):PartRow w' ao n p C :=
 ⟨h.some_,fun g i j u hi e hu=>hf.cell_some (h.c g i j u hi e hu) (hs g e)⟩
theorem PartRow.no {w w':World} {ao:Option Addr} {n:Nat} {p:Nat → Pt} {C:Nat → Nat} (h:PartRow w ao n p C) (hf:Fr NoB w w'):PartRow w' ao n p C:=h.fr hf (fun _ _ h=>h)
structure Arnd (w:World) (ga n:Nat) (A B:Nat → Nat → Bool):Prop where
 a:∀ i,i < n → w.cell? ⟨ga,i * 2,none⟩ = some (.int .u32 (msk (A i):Int))
 b:∀ i,i < n → w.cell? ⟨ga,i * 2 + 1,none⟩ = some (.int .u32 (msk (B i):Int))
 f:∀ o,w.frozen? ⟨ga,o,none⟩ = false
theorem Arnd.fr {S:Nat → Prop} {w w':World} {ga n:Nat} {A B:Nat → Nat → Bool} (h:Arnd w ga n A B) (hf:Fr S w w') (hs:¬ S ga) (hl:ga < w.heap.size):Arnd w' ga n A B :=
 ⟨fun i hi=>hf.cell_some (h.a i hi) hs,fun i hi=>hf.cell_some (h.b i hi) hs,fun o=>(hf.frozen (p:=⟨ga,o,none⟩) hl hs).trans (h.f o)⟩
theorem Arnd.no {w w':World} {ga n:Nat} {A B:Nat → Nat → Bool} (h:Arnd w ga n A B) (hf:Fr NoB w w') (hl:ga < w.heap.size):Arnd w' ga n A B:=h.fr hf id hl
theorem Arnd.setA {w:World} {ga n:Nat} {A B:Nat → Nat → Bool} (h:Arnd w ga n A B) {k:Nat} (hk:k < n) (f:Nat → Bool):Arnd (w.setCell ⟨ga,k * 2,none⟩ (.int .u32 (msk f:Int))) ga n (updA A k f) B :=
 ⟨fun i hi=>by
   by_cases e:i = k
   ·subst e;rw [updA_at];exact cell_same (h.a i hi)
   ·rw [updA_ne _ _ e];exact (cell_other (.inr (by omega))).trans (h.a i hi),
  fun i hi=>(cell_other (.inr (by omega))).trans (h.b i hi),fun o=>by rw [World.frozen?_setCell];exact h.f o⟩
theorem Arnd.setB {w:World} {ga n:Nat} {A B:Nat → Nat → Bool} (h:Arnd w ga n A B) {k:Nat} (hk:k < n) (f:Nat → Bool):Arnd (w.setCell ⟨ga,k * 2 + 1,none⟩ (.int .u32 (msk f:Int))) ga n A (updA B k f) :=
 ⟨fun i hi=>(cell_other (.inr (by omega))).trans (h.a i hi),
  fun i hi=>by
   by_cases e:i = k
   ·subst e;rw [updA_at];exact cell_same (h.b i hi)
   ·rw [updA_ne _ _ e];exact (cell_other (.inr (by omega))).trans (h.b i hi),fun o=>by rw [World.frozen?_setCell];exact h.f o⟩
theorem mk_ne {f g:Nat → Bool}:((msk (bothF f g):Int) != (msk f:Int)) = !subD f g:=by
 by_cases h:subF f g
 ·have:msk (bothF f g) = msk f:=mk_congr fun i hi=>by
   unfold bothF
   cases hf:f i
   ·rfl
   ·rw [h i hi hf];rfl
  rw [this,subD_true h]
  simp
 ·rw [subD_false h]
  have hne:msk (bothF f g) ≠ msk f:=fun e=>h fun i hi hf=>by
   have h1:=mk_bit (bothF f g) i
   have h2:=mk_bit f i
   rw [e,h2] at h1
   simp [hi,hf] at h1
   unfold bothF at h1
   simp [hf] at h1
   exact h1
  exact bne_iff_ne.2 (by omega)
structure PBx (w:World) (q kind place num box src:Nat) (b1:Bool) (x1 sign:Nat) (b2:Bool) (x2 opn clo:Nat):Prop where
 c0:w.cell? ⟨q,0,none⟩ = some (.int .i64 kind)
 c1:w.cell? ⟨q,1,none⟩ = some (.int .i64 place)
 c2:w.cell? ⟨q,2,none⟩ = some (.int .i64 num)
 c3:w.cell? ⟨q,3,none⟩ = some (.int .i64 box)
 c4:w.cell? ⟨q,4,none⟩ = some (.int .i64 src)
 c5:w.cell? ⟨q,5,none⟩ = some (.bool b1)
 c6:w.cell? ⟨q,6,none⟩ = some (.int .i64 x1)
 c7:w.cell? ⟨q,7,none⟩ = some (.int .u8 sign)
 c8:w.cell? ⟨q,8,none⟩ = some (.bool b2)
 c9:w.cell? ⟨q,9,none⟩ = some (.int .i64 x2)
 c10:w.cell? ⟨q,10,none⟩ = some (.int .i64 opn)
 c11:w.cell? ⟨q,11,none⟩ = some (.int .i64 clo)
theorem PBx.fr {S:Nat → Prop} {w w':World} {q kind place num box src:Nat} {b1:Bool} {x1 sign:Nat} {b2:Bool} {x2 opn clo:Nat} (h:PBx w q kind place num box src b1 x1 sign b2 x2 opn clo) (hF:Fr S w w') (hq:¬ S q):PBx w' q kind place num box src b1 x1 sign b2 x2 opn clo :=
 ⟨hF.cell_some h.c0 hq,hF.cell_some h.c1 hq,hF.cell_some h.c2 hq,hF.cell_some h.c3 hq,hF.cell_some h.c4 hq,hF.cell_some h.c5 hq,hF.cell_some h.c6 hq,hF.cell_some h.c7 hq,hF.cell_some h.c8 hq,hF.cell_some h.c9 hq,hF.cell_some h.c10 hq,hF.cell_some h.c11 hq⟩
theorem box_new (w:World) (kind place num box src:Nat) (b1:Bool) (x1 sign:Nat) (b2:Bool) (x2 opn clo:Nat) :
  Fr NoB w (w.alloc (Obj.cells #[.int .i64 kind,.int .i64 place,.int .i64 num,.int .i64 box,.int .i64 src,.bool b1,.int .i64 x1,.int .u8 sign,.bool b2,.int .i64 x2,.int .i64 opn,.int .i64 clo] 121)) ∧
  Hid (PBx (w.alloc (Obj.cells #[.int .i64 kind,.int .i64 place,.int .i64 num,.int .i64 box,.int .i64 src,.bool b1,.int .i64 x1,.int .u8 sign,.bool b2,.int .i64 x2,.int .i64 opn,.int .i64 clo] 121)) w.heap.size kind place num box src b1 x1 sign b2 x2 opn clo):=by
 refine ⟨(Fr.refl _ _).alloc _,(⟨?_,?_,?_,?_,?_,?_,?_,?_,?_,?_,?_,?_⟩:PBx _ _ _ _ _ _ _ _ _ _ _ _ _ _)⟩ <;> (rw [World.cell?_alloc_at _ _ _ _ rfl];rfl)
structure FlatOk (p:Nat → Pt) (n:Nat):Prop where
 ok:∀ i,i < n → PtOk (p i)
 op:∀ i,i < n → (p i).kind = 9 ∨ (p i).kind = 10 ∨ (p i).kind = 12 → (p i).opn < i
 lp:∀ i,i < n → (p i).kind = 12 → (p (p i).opn).kind = 11
theorem msk_none:msk (fun _=>false) = 0:=Nat.eq_of_testBit_eq fun i=>by rw [mk_bit];simp
theorem pass_next (p:Nat → Pt) (i:Nat) (z:Ps):passM p (i + 1) 0 z = stepM p i (passM p i 0 z):=by
 have:=passM_add p i 1 0 z
 rw [this,Nat.zero_add]
 rfl
theorem step_eq (p:Nat → Pt) (i:Nat) (z:Ps):(stepM p i z).A = updA z.A i z.now ∧ (stepM p i z).now = nowM p i z ∧ ((p i).kind ≠ 12 → (stepM p i z).B = updA z.B i (nowM p i z) ∧ (stepM p i z).st = z.st) ∧
  ((p i).kind = 12 → (stepM p i z).B = updA (updA z.B (p i).opn (nowM p i z)) i (nowM p i z) ∧ (stepM p i z).st = (z.st && subD (z.B (p i).opn) z.now)):=by
 refine ⟨rfl,rfl,fun h=>⟨?_,?_⟩,fun h=>⟨?_,?_⟩⟩
 ·unfold stepM;simp [h]
 ·unfold stepM;simp [h]
 ·unfold stepM;simp [h]
 ·unfold stepM;simp [h]
theorem step_plain {p:Nat → Pt} {i:Nat} {z:Ps} {X:Nat → Bool} (h:(p i).kind ≠ 12) (hX:nowM p i z = X):stepM p i z = ⟨updA z.A i z.now,updA z.B i X,X,z.st⟩:=by
 subst hX;unfold stepM;simp [h]
theorem step_again {p:Nat → Pt} {i:Nat} {z:Ps} (h:(p i).kind = 12):stepM p i z = ⟨updA z.A i z.now,updA (updA z.B (p i).opn (bothF (z.B (p i).opn) z.now)) i (bothF (z.B (p i).opn) z.now),bothF (z.B (p i).opn) z.now,z.st && subD (z.B (p i).opn) z.now⟩:=by
 unfold stepM;rw [now11 h];simp [h]
theorem fpass_fn (w:World) (fb ga n ac pc:Nat) (ao:Option Addr) (p:Nat → Pt) (C:Nat → Nat) (A B:Nat → Nat → Bool) (hn:n ≤ 100000) (hp:FlatOk p n) (hP:PartRow w ao n p C) (hA:Arnd w ga n A B)
  (hb0:w.cell? ⟨fb,0,none⟩ = some (.slice ao n pc)) (hb1:w.cell? ⟨fb,1,none⟩ = some (.slice (some ⟨ga,0,none⟩) n ac)) (hgl:ga < w.heap.size) (hne:fb ≠ ga) (hne2:∀ g,ao = some ⟨g,0,none⟩ → g ≠ ga) :
  Calls prog 67 #[.pointer (some ⟨fb,0,none⟩)] w fun e w'=>e = .returned (.bool (passM p n 0 ⟨A,B,fun _=>false,true⟩).st) ∧ Arnd w' ga n (passM p n 0 ⟨A,B,fun _=>false,true⟩).A (passM p n 0 ⟨A,B,fun _=>false,true⟩).B ∧ Fr (OneB ga) w w':=by
 have Hp:Hid (FlatOk p n):=hp
 have HP:Hid (PartRow w ao n p C):=hP
 have HA:Hid (Arnd w ga n A B):=hA
 have Hb0:Hid _:=hb0
 have Hb1:Hid _:=hb1
 clear hp hP hA hb0 hb1
 generalize hz0:(⟨A,B,fun _=>false,true⟩:Ps) = z0
 have Hz0:Hid _:=hz0
 clear hz0
 go_enter func67,ntmps67
 go_wp2
 go_loopw [3,4,5] (fun ts tn ti wr=>∃ i:Nat,i ≤ n ∧ ti = .int .i64 i ∧ ts = .bool (passM p i 0 z0).st ∧ tn = .int .u32 (msk (passM p i 0 z0).now:Int) ∧ Arnd wr ga n (passM p i 0 z0).A (passM p i 0 z0).B ∧ Fr (OneB ga) w wr) (fun _ _ t _=>n - (intOf t).toNat)
 case atStart =>
  refine ⟨0,Nat.zero_le _,rfl,?_,?_,?_,Fr.refl _ _⟩
  ·rw [← Hz0.out];rfl
  ·rw [← Hz0.out];show _ = Value.int .u32 ((msk (fun _=>false):Nat):Int);rw [msk_none];rfl
  ·rw [← Hz0.out];exact HA.out
 case round =>
  obtain ⟨i,hi,rfl,rfl,rfl,hAr,hF⟩:=hrel
  have hc0:=hF.cell_some Hb0.out (show ¬ OneB ga fb from hne)
  have hc1:=hF.cell_some Hb1.out (show ¬ OneB ga fb from hne)
  have hgl2:ga < wr.heap.size:=Nat.lt_of_lt_of_le hgl hF.size
  have hfl:fb < wr.heap.size:=World.block_lt_of_cell? _ _ hc0
  have HF:Hid _:=hF
  by_cases hlt:i < n
  ·obtain ⟨g,rfl⟩:=HP.out.some_ (by omega)
   have hP2:=HP.out.fr hF (fun g' e=>hne2 g' e)
   have d0:wr.cell? ⟨g,i * 12,none⟩ = _:=hP2.c g i 0 _ hlt rfl rfl
   have d1:=hP2.c g i 1 _ hlt rfl rfl
   have d2:=hP2.c g i 2 _ hlt rfl rfl
   have d3:=hP2.c g i 3 _ hlt rfl rfl
   have d4:=hP2.c g i 4 _ hlt rfl rfl
   have d5:=hP2.c g i 5 _ hlt rfl rfl
   have d6:=hP2.c g i 6 _ hlt rfl rfl
   have d7:=hP2.c g i 7 _ hlt rfl rfl
   have d8:=hP2.c g i 8 _ hlt rfl rfl
   have d9:=hP2.c g i 9 _ hlt rfl rfl
   have d10:=hP2.c g i 10 _ hlt rfl rfl
   have d11:=hP2.c g i 11 _ hlt rfl rfl
   have hgl3:g < wr.heap.size:=World.block_lt_of_cell? _ _ d0
   have hnext:=pass_next p i z0
   generalize passM p i 0 z0 = z at *
   have Hnext:Hid (passM p (i + 1) 0 z0 = stepM p i z):=hnext
   have e1:=hAr.a i hlt
   have e2:=hAr.f (i * 2)
   have HAr:Hid (Arnd wr ga n z.A z.B):=hAr
   have Hok:Hid (PtOk (p i)):=Hp.out.ok i hlt
   have Hop:Hid ((p i).kind = 9 ∨ (p i).kind = 10 ∨ (p i).kind = 12 → (p i).opn < i):=Hp.out.op i hlt
   have Hst:Hid _:=step_eq p i z
   clear hnext hAr hP2 hF
   generalize hpi:p i = t at *
   obtain ⟨kind,place,num,box,src,o1,sign,o2,opn⟩:=t
   simp only [] at d0 d1 d2 d3 d4 d5 d6 d7 d8 d9 d10 d11
   generalize C i = clo at *
   generalize hb1:odB o1 = b1 at *
   generalize hx1:odI o1 = x1 at *
   generalize hb2:odB o2 = b2 at *
   generalize hx2:odI o2 = x2 at *
   have Hpi:Hid _:=hpi
   clear hpi
   have hneg:g ≠ ga:=hne2 g rfl
   go_upto_region 8 with fail
   obtain ⟨K0a,HPA⟩:=box_new (wr.setCell ⟨ga,i * 2,none⟩ (Value.int IntKind.u32 (msk z.now:Int))) kind place num box src b1 x1 sign b2 x2 opn clo
   rw [setCell_size] at HPA
   have K0:=((Fr.refl (OneB ga) wr).setCell (p:=⟨ga,i * 2,none⟩) (fun _=>rfl) (Value.int IntKind.u32 (msk z.now:Int))).trans (K0a.mono (T:=OneB ga) (fun _ _ e=>e.elim))
   have K1:=(HAr.out.setA hlt z.now).no K0a (by rw [setCell_size];exact hgl2)
   obtain ⟨k0,k1,k2,k3,k4,k5,k6,k7,k8,k9,k10,k11⟩:=HPA.out
   clear K0a HPA
   have m1:=K0.cell_some hc1 (show ¬ OneB ga fb from hne)
   generalize ((wr.setCell ⟨ga,i * 2,none⟩ (Value.int IntKind.u32 (msk z.now:Int))).alloc _) = W1 at *
   generalize hpb:wr.heap.size = pb at *
   have HK0:Hid (Fr (OneB ga) w W1):=HF.out.trans K0
   have HK1:Hid (Arnd W1 ga n (updA z.A i z.now) z.B):=K1
   have hgl4:ga < W1.heap.size:=World.block_lt_of_cell? _ _ (K1.a i hlt)
   clear K0 K1 d0 d1 d2 d3 d4 d5 d6 d7 d8 d9 d10 d11 hc0 hc1 e1 e2 HAr HF hpb
   by_cases h8:kind = 9
   ·subst h8
    have ho:opn < i:=Hop.out (.inl rfl)
    have HE:Hid (passM p (i + 1) 0 z0 = ⟨updA z.A i z.now,updA z.B i (updA z.A i z.now opn),updA z.A i z.now opn,z.st⟩):=by
     show _ = _
     rw [Hnext.out]
     exact step_plain (by rw [Hpi.out];show (9:Nat) ≠ 12;decide) (by unfold nowM;rw [Hpi.out];rfl)
    have ca:=HK1.out.a opn (by omega)
    have cb:=HK1.out.b i hlt
    have cf:=HK1.out.f (i * 2 + 1)
    generalize hX:updA z.A i z.now opn = X at *
    clear hX
    go_upto_region 11 with fail
    go_quiet (fail)
    go_wp2
    go_roundw
    case rel =>
     refine ⟨i + 1,by omega,by go_num,?_,?_,?_,?_⟩
     ·rw [HE.out]
     ·rw [HE.out]
     ·rw [HE.out];exact (HK1.out.no ((Fr.refl _ W1).drewN _) hgl4).setB hlt _
     ·exact (HK0.out.trans ((Fr.refl _ W1).drewN _)).setCell (p:=⟨ga,i * 2 + 1,none⟩) (fun _=>rfl) _
    case measure=>simp [intOf];omega
   ·have b8:((kind:Int) == 9) = false:=bF (by omega)
    by_cases h9:kind = 10
    ·subst h9
     have ho:opn < i:=Hop.out (.inr (.inl rfl))
     have HE:Hid (passM p (i + 1) 0 z0 = ⟨updA z.A i z.now,updA z.B i (bothF z.now (updA z.A i z.now opn)),bothF z.now (updA z.A i z.now opn),z.st⟩):=by
      show _ = _
      rw [Hnext.out]
      exact step_plain (by rw [Hpi.out];show (10:Nat) ≠ 12;decide) (by unfold nowM;rw [Hpi.out];rfl)
     have ca:=HK1.out.a opn (by omega)
     have cb:=HK1.out.b i hlt
     have cf:=HK1.out.f (i * 2 + 1)
     generalize hX:updA z.A i z.now opn = X at *
     have hbits:=bits_and z.now X
     clear hX h8
     go_upto_region 13 with fail
     go_quiet (fail)
     go_wp2
     go_roundw
     case rel =>
      refine ⟨i + 1,by omega,by go_num,?_,?_,?_,?_⟩
      ·rw [HE.out]
      ·rw [HE.out]
      ·rw [HE.out];exact (HK1.out.no ((Fr.refl _ W1).drewN _) hgl4).setB hlt _
      ·exact (HK0.out.trans ((Fr.refl _ W1).drewN _)).setCell (p:=⟨ga,i * 2 + 1,none⟩) (fun _=>rfl) _
     case measure=>simp [intOf];omega
    ·have b9:((kind:Int) == 10) = false:=bF (by omega)
     by_cases h10:kind = 11
     ·subst h10
      have HE:Hid (passM p (i + 1) 0 z0 = ⟨updA z.A i z.now,updA z.B i (bothF z.now (z.B i)),bothF z.now (z.B i),z.st⟩):=by
       show _ = _
       rw [Hnext.out]
       exact step_plain (by rw [Hpi.out];show (11:Nat) ≠ 12;decide) (by unfold nowM;rw [Hpi.out];rfl)
      have cb:=HK1.out.b i hlt
      have cf:=HK1.out.f (i * 2 + 1)
      have hbits:=bits_and z.now (z.B i)
      clear h8 h9
      go_wp2
      go_roundw
      case rel =>
       refine ⟨i + 1,by omega,by go_num,?_,?_,?_,?_⟩
       ·rw [HE.out]
       ·rw [HE.out]
       ·rw [HE.out];exact (HK1.out.no (Fr.refl _ W1) hgl4).setB hlt _
       ·exact (HK0.out.trans (Fr.refl _ W1)).setCell (p:=⟨ga,i * 2 + 1,none⟩) (fun _=>rfl) _
      case measure=>simp [intOf];omega
     ·have b10:((kind:Int) == 11) = false:=bF (by omega)
      by_cases h11:kind = 12
      ·subst h11
       have ho:opn < i:=Hop.out (.inr (.inr rfl))
       have HE:Hid (passM p (i + 1) 0 z0 = ⟨updA z.A i z.now,updA (updA z.B opn (bothF (z.B opn) z.now)) i (bothF (z.B opn) z.now),bothF (z.B opn) z.now,z.st && subD (z.B opn) z.now⟩):=by
        show _ = _
        rw [Hnext.out]
        have:=step_again (p:=p) (i:=i) (z:=z) (by rw [Hpi.out])
        rw [Hpi.out] at this
        exact this
       have ca:=HK1.out.b opn (by omega)
       have cg:=HK1.out.f (opn * 2 + 1)
       have hbits:=bits_and (z.B opn) z.now
       have hcmp:=mk_ne (f:=z.B opn) (g:=z.now)
       generalize bothF (z.B opn) z.now = X at *
       generalize z.B opn = Y at *
       cases hD:subD Y z.now
       ·rw [hD] at hcmp HE
        have hc3:((msk X:Int) != (msk Y:Int)) = true:=by rw [hcmp];rfl
        clear hcmp hD h8 h9 h10
        go_upto_region 17 with fail
        go_quiet (fail)
        go_upto_region 21 with fail
        go_region
        have HKo:Hid _:=(HK1.out.no ((Fr.refl _ W1).drewN (nq + 1)) hgl4).setB (k:=opn) (by omega) X
        have HKf:Hid _:=(HK0.out.trans ((Fr.refl _ W1).drewN (nq + 1))).setCell (p:=⟨ga,opn * 2 + 1,none⟩) (fun _=>rfl) (Value.int IntKind.u32 (msk X:Int))
        have m2:((W1.drewN (nq + 1)).setCell ⟨ga,opn * 2 + 1,none⟩ (Value.int IntKind.u32 (msk X:Int))).cell? ⟨fb,1,none⟩ = _:=(cell_other (.inl (Ne.symm hne))).trans m1
        generalize ((W1.drewN (nq + 1)).setCell ⟨ga,opn * 2 + 1,none⟩ (Value.int IntKind.u32 (msk X:Int))) = W2 at *
        have cb:=HKo.out.b i hlt
        have cf:=HKo.out.f (i * 2 + 1)
        go_wp2
        go_roundw
        case rel =>
         refine ⟨i + 1,by omega,by go_num,?_,?_,?_,?_⟩
         ·rw [HE.out];simp
         ·rw [HE.out]
         ·rw [HE.out];exact HKo.out.setB hlt _
         ·exact HKf.out.setCell (p:=⟨ga,i * 2 + 1,none⟩) (fun _=>rfl) _
        case measure=>simp [intOf];omega
       ·rw [hD] at hcmp HE
        have hc3:((msk X:Int) != (msk Y:Int)) = false:=by rw [hcmp];rfl
        clear hcmp hD h8 h9 h10
        go_upto_region 17 with fail
        go_quiet (fail)
        go_upto_region 21 with fail
        go_region
        have HKo:Hid _:=(HK1.out.no ((Fr.refl _ W1).drewN (nq + 1)) hgl4).setB (k:=opn) (by omega) X
        have HKf:Hid _:=(HK0.out.trans ((Fr.refl _ W1).drewN (nq + 1))).setCell (p:=⟨ga,opn * 2 + 1,none⟩) (fun _=>rfl) (Value.int IntKind.u32 (msk X:Int))
        have m2:((W1.drewN (nq + 1)).setCell ⟨ga,opn * 2 + 1,none⟩ (Value.int IntKind.u32 (msk X:Int))).cell? ⟨fb,1,none⟩ = _:=(cell_other (.inl (Ne.symm hne))).trans m1
        generalize ((W1.drewN (nq + 1)).setCell ⟨ga,opn * 2 + 1,none⟩ (Value.int IntKind.u32 (msk X:Int))) = W2 at *
        have cb:=HKo.out.b i hlt
        have cf:=HKo.out.f (i * 2 + 1)
        go_wp2
        go_roundw
        case rel =>
         refine ⟨i + 1,by omega,by go_num,?_,?_,?_,?_⟩
         ·rw [HE.out];simp
         ·rw [HE.out]
         ·rw [HE.out];exact HKo.out.setB hlt _
         ·exact HKf.out.setCell (p:=⟨ga,i * 2 + 1,none⟩) (fun _=>rfl) _
        case measure=>simp [intOf];omega
      ·have b11:((kind:Int) == 12) = false:=bF (by omega)
       have HE:Hid (passM p (i + 1) 0 z0 = ⟨updA z.A i z.now,updA z.B i (behP ⟨kind,place,num,box,src,o1,sign,o2,opn⟩ z.now),behP ⟨kind,place,num,box,src,o1,sign,o2,opn⟩ z.now,z.st⟩):=by
        show _ = _
        rw [Hnext.out]
        exact step_plain (by rw [Hpi.out];exact h11) (by unfold nowM;rw [Hpi.out];simp only [h8,h9,h10,h11,if_false])
       have cb:=HK1.out.b i hlt
       have cf:=HK1.out.f (i * 2 + 1)
       have HBh:Hid _:=fun X=>fbehind_fn X ⟨kind,place,num,box,src,o1,sign,o2,opn⟩ clo z.now Hok.out
       generalize behP ⟨kind,place,num,box,src,o1,sign,o2,opn⟩ z.now = X at *
       clear h8 h9 h10 h11
       simp only [hb1,hx1,hb2,hx2] at HBh
       go_wp2_with (go_at_call 98;refine (HBh.out _).mono ?_;rintro e w2 ⟨rfl,hF2⟩;have cb2:=hF2.cell_some cb id;have cf2:=(hF2.frozen (p:=⟨ga,i * 2 + 1,none⟩) hgl4 id).trans cf;have m2:=hF2.cell_some m1 id)
       go_roundw
       case rel =>
        refine ⟨i + 1,by omega,by go_num,?_,?_,?_,?_⟩
        ·rw [HE.out]
        ·rw [HE.out]
        ·rw [HE.out];exact (HK1.out.no hF2 hgl4).setB hlt _
        ·exact (HK0.out.trans hF2.of_no).setCell (p:=⟨ga,i * 2 + 1,none⟩) (fun _=>rfl) _
       case measure=>simp [intOf];omega
  ·have hie:i = n:=by omega
   subst hie
   have HAr:Hid _:=hAr
   clear hAr hF
   go_wp2
   go_ret
   exact ⟨rfl,HAr.out,HF.out⟩
section
section
variable (p:Nat → Pt) (s:ByteArray) (A B:Nat → Nat → Bool)
def SL (F:Nat) (R:Nat → Nat → Nat → Nat → (Nat → Bool) → Prop) (i m k k':Nat) (f:Nat → Bool):Prop :=
 A k = f ∧
 ((Simple s i m ∧ k' = k + 1 ∧ SimPart s i (p k)) ∨
   (∃ a b c ka kb,IfAt s i a b c ∧ R (a + 1) b (k + 1) ka f ∧ R (b + 2) c (ka + 1) kb f ∧ m = c + 1 ∧ k' = kb + 1 ∧ ((p k).kind = 8 ∧ (p k).o1 = odN s (i + 1) ∧ (p k).place = i ∧ (p ka).place = b ∧ (p kb).place = c) ∧ (p ka).kind = 9 ∧ (p ka).opn = k ∧ (p kb).kind = 10 ∧ (p kb).opn = ka ∧ k + 1 ≤ ka ∧ ka + 1 ≤ kb ∧
   (A ka = alongF s F (a + 1) b f ∧ A kb = alongF s F (b + 2) c f ∧ B kb = afterF (alongF s F) s i f)) ∨
   (∃ a b ka,LoopAt s i a b ∧ R (a + 1) b (k + 1) ka (iterF (alongF s F (a + 1) b) 27 f) ∧ m = b + 1 ∧ k' = ka + 1 ∧ ((p k).kind = 11 ∧ (p k).o1 = odN s (i + 1) ∧ (p k).place = i ∧ (p ka).place = b) ∧ (p ka).kind = 12 ∧ (p ka).opn = k ∧ k + 1 ≤ ka ∧
   (B k = iterF (alongF s F (a + 1) b) 27 f ∧ A ka = alongF s F (a + 1) b (iterF (alongF s F (a + 1) b) 27 f) ∧ B ka = iterF (alongF s F (a + 1) b) 27 f)))
def SegL:Nat → Nat → Nat → Nat → Nat → (Nat → Bool) → Prop
 | 0,i,j,k,l,_=>i = j ∧ k = l
 | F + 1,i,j,k,l,f=>(i = j ∧ k = l) ∨ ∃ m k',SL p s A B F (SegL F) i m k k' f ∧ i < m ∧ m ≤ j ∧ k < k' ∧ k' ≤ l ∧ behN s i = m ∧ SegL F m j k' l (afterF (alongF s F) s i f)
end
section
variable {p:Nat → Pt} {s:ByteArray} {A B:Nat → Nat → Bool}
theorem SegL.le:∀ {F i j k l:Nat} {f:Nat → Bool},SegL p s A B F i j k l f → k ≤ l
 | 0,_,_,_,_,_,h=>Nat.le_of_eq h.2
 | F + 1,i,j,k,l,f,h=>by
  rcases h with h | ⟨m,k',_,_,_,g3,g4,_⟩
  ·exact Nat.le_of_eq h.2
  ·omega
theorem SegL.segQ:∀ {F i j k l:Nat} {f:Nat → Bool},SegL p s A B F i j k l f → SegQ p s TrueC (ExactC A) F i j k l f
 | 0,_,_,_,_,_,h=>h
 | F + 1,i,j,k,l,f,h=>by
  rcases h with h | ⟨m,k',⟨hc,hs⟩,g1,g2,g3,g4,g5,hr⟩
  ·exact .inl h
  ·refine .inr ⟨m,k',⟨hc,?_⟩,g1,g2,g3,g4,g5,hr.segQ⟩
   rcases hs with hs | ⟨a,b,c,ka,kb,q1,q2,q3,q4,q5,q6,q7,q8,q9,q10,q11,q12,_⟩ | ⟨a,b,ka,q1,q3,q4,q5,q6,q7,q8,q9,_⟩
   ·exact .inl hs
   ·exact .inr (.inl ⟨a,b,c,ka,kb,q1,q2.segQ,q3.segQ,q4,q5,q6,q7,q8,q9,q10,q11,q12⟩)
   ·exact .inr (.inr ⟨a,b,ka,q1,trivial,q3.segQ,q4,q5,q6,q7,q8,q9⟩)
theorem SegL.re {A' B':Nat → Nat → Bool}:∀ {F i j k l:Nat} {f:Nat → Bool},SegL p s A B F i j k l f → (∀ q,k ≤ q → q < l → A' q = A q ∧ B' q = B q) → SegL p s A' B' F i j k l f
 | 0,_,_,_,_,_,h,_=>h
 | F + 1,i,j,k,l,f,h,e=>by
  rcases h with h | ⟨m,k',⟨hc,hs⟩,g1,g2,g3,g4,g5,hr⟩
  ·exact .inl h
  ·refine .inr ⟨m,k',⟨(e k (by omega) (by omega)).1.trans hc,?_⟩,g1,g2,g3,g4,g5,hr.re (fun q a b=>e q (by omega) b)⟩
   rcases hs with hs | ⟨a,b,c,ka,kb,q1,q2,q3,q4,q5,q6,q7,q8,q9,q10,q11,q12,q13,q14,q15⟩ | ⟨a,b,ka,q1,q3,q4,q5,q6,q7,q8,q9,q13,q14,q15⟩
   ·exact .inl hs
   ·exact .inr (.inl ⟨a,b,c,ka,kb,q1,q2.re (fun q a b=>e q (by omega) (by omega)),q3.re (fun q a b=>e q (by omega) (by omega)),q4,q5,q6,q7,q8,q9,q10,q11,q12,(e ka (by omega) (by omega)).1.trans q13,(e kb (by omega) (by omega)).1.trans q14,(e kb (by omega) (by omega)).2.trans q15⟩)
   ·exact .inr (.inr ⟨a,b,ka,q1,q3.re (fun q a b=>e q (by omega) (by omega)),q4,q5,q6,q7,q8,q9,(e k (by omega) (by omega)).2.trans q13,(e ka (by omega) (by omega)).1.trans q14,(e ka (by omega) (by omega)).2.trans q15⟩)
theorem SL.re {A' B':Nat → Nat → Bool} {F i m k k':Nat} {f:Nat → Bool} (h:SL p s A B F (SegL p s A B F) i m k k' f) (hk:k < k') (e:∀ q,k ≤ q → q < k' → A' q = A q ∧ B' q = B q):SL p s A' B' F (SegL p s A' B' F) i m k k' f:=by
 refine ⟨(e k (by omega) (by omega)).1.trans h.1,?_⟩
 rcases h.2 with hs | ⟨a,b,c,ka,kb,q1,q2,q3,q4,q5,q6,q7,q8,q9,q10,q11,q12,q13,q14,q15⟩ | ⟨a,b,ka,q1,q3,q4,q5,q6,q7,q8,q9,q13,q14,q15⟩
 ·exact .inl hs
 ·exact .inr (.inl ⟨a,b,c,ka,kb,q1,q2.re (fun q a b=>e q (by omega) (by omega)),q3.re (fun q a b=>e q (by omega) (by omega)),q4,q5,q6,q7,q8,q9,q10,q11,q12,(e ka (by omega) (by omega)).1.trans q13,(e kb (by omega) (by omega)).1.trans q14,(e kb (by omega) (by omega)).2.trans q15⟩)
 ·exact .inr (.inr ⟨a,b,ka,q1,q3.re (fun q a b=>e q (by omega) (by omega)),q4,q5,q6,q7,q8,q9,(e k (by omega) (by omega)).2.trans q13,(e ka (by omega) (by omega)).1.trans q14,(e ka (by omega) (by omega)).2.trans q15⟩)
theorem seg_low:∀ {F i j k l:Nat} (z:Ps),SegQ p s (AboveC z.B) TrueC F i j k l z.now → Clean z.now → (seg p k l z).st = true → (seg p k l z).now = alongF s F i j z.now ∧ SegL p s (seg p k l z).A (seg p k l z).B F i j k l z.now
 | 0,i,j,k,l,z,h,hc,hs=>by
  obtain ⟨e1,e2⟩:=h
  subst e1 e2
  rw [seg_nil]
  exact ⟨rfl,rfl,rfl⟩
 | F + 1,i,j,k,l,z,h,hcf,hst=>by
  rcases h with ⟨e1,e2⟩ | ⟨m,k',⟨hc,hs⟩,g1,g2,g3,g4,g5,hr⟩
  ·subst e1 e2
   rw [seg_nil,alongF_end]
   exact ⟨rfl,.inl ⟨rfl,rfl⟩⟩
  ·rw [seg_app p (m:=k') (by omega) (by omega)] at hst ⊢
   have hst1:=seg_st hst
   have hcA:Clean (afterF (alongF s F) s i z.now):=Clean.after (fun a b g hg=>Clean.along hg) hcf
   have key:(seg p k k' z).now = afterF (alongF s F) s i z.now ∧ SL p s (seg p k k' z).A (seg p k k' z).B F (SegL p s (seg p k k' z).A (seg p k k' z).B F) i m k k' z.now ∧ Same k k' z (seg p k k' z):=by
    rcases hs with ⟨q1,q2,q3⟩ | ⟨a,b,c,ka,kb,q1,q2,q3,q4,q5,q6,q7,q8,q9,q10,q11,q12⟩ | ⟨a,b,ka,q1,q2,q3,q4,q5,q6,q7,q8,q9⟩
    ·rw [q2,seg_one]
     refine ⟨?_,⟨step_A,.inl ⟨q1,rfl,q3⟩⟩,step_same z (Nat.le_refl _) (by omega) (fun e=>by have:=q3.kd;omega)⟩
     have hk:=q3.kd
     rw [step_now,now7 (by omega),afterF_simple q1,q3.eff _ hcf]
    ·have l2:=q2.le
     have l3:=q3.le
     rw [q5,seg_last p (l:=kb) (by omega),seg_app p (m:=ka + 1) (by omega) (by omega),seg_last p (l:=ka) (by omega),seg_head p (l:=ka) (by omega)] at hst1 ⊢
     have n0:(stepM p k z).now = z.now:=by rw [step_now,now7 (by omega),beh7 q6.1]
     have t0:=step_same (p:=p) (i:=k) (k:=k) (l:=kb + 1) z (by omega) (by omega) (fun e=>by omega)
     have t0':=step_same (p:=p) (i:=k) (k:=k) (l:=k + 1) z (by omega) (by omega) (fun e=>by omega)
     have s1:=seg_same q2 (stepM p k z)
     have hA0:(stepM p k z).A k = z.now:=step_A
     have u1:=fun h=>seg_low (F:=F) (i:=a + 1) (j:=b) (k:=k + 1) (l:=ka) (stepM p k z) (by rw [n0];exact q2.reB (fun q h1 h2=>(t0' q (.inr (by omega))).2)) (by rw [n0];exact hcf) h
     generalize hz1:seg p (k + 1) ka (stepM p k z) = z1 at hst1 s1 u1 ⊢
     have nA:z1.A k = z.now:=((s1 k (.inl (by omega))).1).trans hA0
     have n1:(stepM p ka z1).now = z.now:=by rw [step_now,now8 q7 (by omega),q8,nA]
     have t1:=step_same (p:=p) (i:=ka) (k:=k) (l:=kb + 1) z1 (by omega) (by omega) (fun e=>by omega)
     have t1':=step_same (p:=p) (i:=ka) (k:=ka) (l:=ka + 1) z1 (by omega) (by omega) (fun e=>by omega)
     have hA2:(stepM p ka z1).A ka = z1.now:=step_A
     have s2:=seg_same q3 (stepM p ka z1)
     have u2:=fun h=>seg_low (F:=F) (i:=b + 2) (j:=c) (k:=ka + 1) (l:=kb) (stepM p ka z1) (by rw [n1];exact q3.reB (fun q h1 h2=>((t1' q (.inr (by omega))).2).trans (((s1 q (.inr (by omega))).2).trans (t0' q (.inr (by omega))).2))) (by rw [n1];exact hcf) h
     have hstm:=step_st hst1
     generalize hz2:seg p (ka + 1) kb (stepM p ka z1) = z2 at hst1 s2 u2 hstm ⊢
     have nA2:z2.A ka = z1.now:=((s2 ka (.inl (by omega))).1).trans hA2
     have t2:=step_same (p:=p) (i:=kb) (k:=k) (l:=kb + 1) z2 (by omega) (by omega) (fun e=>by omega)
     have t2':=step_same (p:=p) (i:=kb) (k:=kb) (l:=kb + 1) z2 (by omega) (by omega) (fun e=>by omega)
     have e2:=u2 hstm
     have hst3:(stepM p ka z1).st = true:=by rw [← hz2] at hstm;exact seg_st hstm
     have e1:=u1 (step_st hst3)
     rw [n0] at e1
     rw [n1] at e2
     have hAk:∀ q,k ≤ q → q < ka → (stepM p kb z2).A q = z1.A q ∧ (stepM p kb z2).B q = z1.B q:=fun q h1 h2 =>
      ⟨((t2' q (.inl (by omega))).1).trans (((s2 q (.inl (by omega))).1).trans (t1' q (.inl (by omega))).1),((t2' q (.inl (by omega))).2).trans (((s2 q (.inl (by omega))).2).trans (t1' q (.inl (by omega))).2)⟩
     have hnow:nowM p kb z2 = afterF (alongF s F) s i z.now:=by rw [now9 q9 (by omega),q10,nA2,afterF_if q1,both_comm,e1.1,e2.1]
     refine ⟨?_,⟨?_,.inr (.inl ⟨a,b,c,ka,kb,q1,?_,?_,q4,rfl,q6,q7,q8,q9,q10,q11,q12,?_,?_,?_⟩)⟩,?_⟩
     ·rw [step_now];exact hnow
     ·rw [(hAk k (by omega) (by omega)).1,nA]
     ·exact e1.2.re (fun q h1 h2=>hAk q (by omega) h2)
     ·exact e2.2.re (fun q h1 h2=>t2' q (.inl (by omega)))
     ·rw [(t2' ka (.inl (by omega))).1,nA2,e1.1]
     ·rw [step_A,e2.1]
     ·rw [step_B];exact hnow
     ·exact ((((t0.trans (s1.mono (by omega) (by omega))).trans t1).trans (s2.mono (by omega) (by omega))).trans t2)
    ·have l2:=q3.le
     rw [q5,seg_last p (l:=ka) (by omega),seg_head p (l:=ka) (by omega)] at hst1 ⊢
     have hf:=head_facts (s:=s) F a b hcf
     have hgr:=fun G h1 h2=>iter_great (T:=alongF s F (a + 1) b) (fun f g h=>along_mono h) (G:=G) h1 27 z.now h2
     have hcH:Clean (iterF (alongF s F (a + 1) b) 27 z.now):=Clean.iter hcf
     generalize hHe:iterF (alongF s F (a + 1) b) 27 z.now = H at q2 q3 hf hcH hgr
     have n0:(stepM p k z).now = bothF z.now (z.B k):=by rw [step_now,now10 q6.1]
     have hB:(stepM p k z).B k = bothF z.now (z.B k):=by rw [step_B,now10 q6.1]
     have hc0:Clean (bothF z.now (z.B k)):=hcf.both
     have hH0:Sub H (bothF z.now (z.B k)):=hf.1.into q2
     have t0:=step_same (p:=p) (i:=k) (k:=k) (l:=ka + 1) z (by omega) (by omega) (fun e=>by omega)
     have t0':=step_same (p:=p) (i:=k) (k:=k) (l:=k + 1) z (by omega) (by omega) (fun e=>by omega)
     have hA0:(stepM p k z).A k = z.now:=step_A
     have s1:=seg_same q3 (stepM p k z)
     have d1:=seg_down q3 (stepM p k z) (by rw [n0];exact hc0) (step_st hst1)
     have hsub:=step_st11 q7 hst1
     have nB:(seg p (k + 1) ka (stepM p k z)).B k = bothF z.now (z.B k):=((s1 k (.inl (by omega))).2).trans hB
     rw [q8,nB] at hsub
     rw [n0] at d1
     have hpf:Sub (bothF z.now (z.B k)) (alongF s F (a + 1) b (bothF z.now (z.B k))):=(Sub.of hc0 hsub).trans d1.2
     have hEq:bothF z.now (z.B k) = H:=Sub.anti (hgr _ hpf (Sub.left _ _)) hH0
     rw [hEq] at n0 nB
     have u1:=seg_low (F:=F) (i:=a + 1) (j:=b) (k:=k + 1) (l:=ka) (stepM p k z) (by rw [n0];exact q3.reB (fun q h1 h2=>(t0' q (.inr (by omega))).2)) (by rw [n0];exact hcH) (step_st hst1)
     rw [n0] at u1
     generalize seg p (k + 1) ka (stepM p k z) = z1 at hst1 s1 u1 nB ⊢
     have t1:=step_same (p:=p) (i:=ka) (k:=k) (l:=ka + 1) z1 (by omega) (by omega) (fun e=>by omega)
     have hA1:∀ q,q < ka → (stepM p ka z1).A q = z1.A q:=fun q h=>updA_ne _ _ (by omega)
     have hBin:∀ q,k + 1 ≤ q → q < ka → (stepM p ka z1).B q = z1.B q:=fun q h1 h2=>by
      show updA (if (p ka).kind = 12 then updA z1.B (p ka).opn (nowM p ka z1) else z1.B) ka (nowM p ka z1) q = z1.B q
      rw [updA_ne _ _ (by omega),if_pos q7,updA_ne _ _ (by omega)]
     have hnow:nowM p ka z1 = H:=by rw [now11 q7,q8,nB,u1.1,both_sub hf.2]
     have hBk:(stepM p ka z1).B k = nowM p ka z1:=by
      have:=step_B11 (z:=z1) q7 (by omega)
      rwa [q8] at this
     refine ⟨?_,⟨?_,.inr (.inr ⟨a,b,ka,q1,?_,q4,rfl,q6,q7,q8,q9,?_,?_,?_⟩)⟩,?_⟩
     ·rw [step_now,hnow,afterF_loop q1,hHe]
     ·rw [hA1 k (by omega)]
      exact ((s1 k (.inl (by omega))).1).trans hA0
     ·rw [hHe]
      exact u1.2.re (fun q h1 h2=>⟨hA1 q h2,hBin q h1 h2⟩)
     ·rw [hHe,hBk,hnow]
     ·rw [hHe,step_A,u1.1]
     ·rw [hHe,step_B,hnow]
     ·exact (t0.trans (s1.mono (by omega) (by omega))).trans t1
   have hB:∀ q,k' ≤ q → q < l → (seg p k k' z).B q = z.B q:=fun q h1 h2=>(key.2.2 q (.inr h1)).2
   have e:=seg_low (F:=F) (i:=m) (j:=j) (k:=k') (l:=l) (seg p k k' z) (by rw [key.1];exact hr.reB hB) (by rw [key.1];exact hcA) hst
   have s2:=seg_same hr (seg p k k' z)
   rw [along_next g1 g2 g5]
   rw [key.1] at e
   exact ⟨e.1,.inr ⟨m,k',key.2.1.re g3 (fun q h1 h2=>s2 q (.inl h2)),g1,g2,g3,g4,g5,e.2⟩⟩
end
end
end Go.Proofs.YthcjcjfgdgnljabGreatDoor
