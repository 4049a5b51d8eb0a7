import Derived.Test.YthcjcjfgdgnljabGreatDoorGMacA
import Derived.Laws.BitsLemmas
set_option linter.unusedVariables false
set_option maxHeartbeats 4000000
set_option maxRecDepth 8000
open Go.Proofs.Tryz
namespace Go.Proofs.YthcjcjfgdgnljabGreatDoor
open Go.RowKit
section
def odN (s:ByteArray) (i:Nat):Od:=if smallN (bt s i) = true then .n (bt s i - 97) else .v (decN s i (bopN s i - i))
def acN (s:ByteArray) (i:Nat):Ac :=
 if bt s i = 126 then .drop (bt s (i + 1) - 65)
 else if bt s i = 33 then .print (odN s (i + 1))
 else if smallN (bt s i) = true then
  (if bt s (i + 2) = 35 then .size (bt s i - 97) (bt s (i + 3) - 65)
    else if greatN (bt s (i + 2)) = true then .load (bt s i - 97) (bt s (i + 2) - 65) (odN s (i + 4))
    else if bt s (bopN s (i + 2)) = 59 then .set (bt s i - 97) (odN s (i + 2))
    else .bin (bt s i - 97) (odN s (i + 2)) (bt s (bopN s (i + 2))) (odN s (bopN s (i + 2) + 1)))
 else if bt s (i + 1) = 91 then .store (bt s i - 65) (odN s (i + 2)) (odN s (bopN s (i + 2) + 2))
 else if bt s (i + 2) = 91 then .make (bt s i - 65) (odN s (i + 3))
 else .move (bt s i - 65) (bt s (i + 2) - 65)
def pgN (s:ByteArray):Nat → Nat → Nat → Pg
 | 0,_,_=>.nil
 | F + 1,i,j=>if i < j then
   (if bt s i = 63 then .ite (odN s (i + 1)) (pgN s F (bopN s (i + 1) + 1) (bbrN s (bopN s (i + 1)) - 1)) (pgN s F (bbrN s (bopN s (i + 1)) + 1) (bbrN s (bbrN s (bopN s (i + 1))) - 1)) (pgN s F (behN s i) j)
     else if bt s i = 64 then .loop (odN s (i + 1)) (pgN s F (bopN s (i + 1) + 1) (bbrN s (bopN s (i + 1)) - 1)) (pgN s F (behN s i) j)
     else .act (acN s i) (pgN s F (behN s i) j)) else .nil
theorem pgN_end {s:ByteArray} {F i:Nat}:pgN s F i i = .nil:=by
 cases F with
 | zero=>rfl
 | succ F=>show (if i < i then _ else Pg.nil) = .nil;rw [if_neg (Nat.lt_irrefl _)]
theorem pgN_if {s:ByteArray} {F i j a b c:Nat} (h:IfAt s i a b c) (hj:i < j):pgN s (F + 1) i j = .ite (odN s (i + 1)) (pgN s F (a + 1) b) (pgN s F (b + 2) c) (pgN s F (c + 1) j):=by
 show (if i < j then _ else _) = _
 rw [if_pos hj,if_pos h.q,h.beh,h.p1,h.p2,h.p3]
 rfl
theorem pgN_loop {s:ByteArray} {F i j a b:Nat} (h:LoopAt s i a b) (hj:i < j):pgN s (F + 1) i j = .loop (odN s (i + 1)) (pgN s F (a + 1) b) (pgN s F (b + 1) j):=by
 show (if i < j then _ else _) = _
 rw [if_pos hj,if_neg (by rw [h.q];decide),if_pos h.q,h.beh,h.p1,h.p2]
 rfl
theorem pgN_simple {s:ByteArray} {F i j m:Nat} (h:Simple s i m) (hj:i < j):pgN s (F + 1) i j = .act (acN s i) (pgN s F m j):=by
 show (if i < j then _ else _) = _
 rw [if_pos hj,if_neg h.first.1,if_neg h.first.2,h.beh]
theorem odN_val {s:ByteArray} {i j:Nat} (h:Opnd s i j) (hj:j < s.size) (hd:digitN (bt s j) = false) (num:Nat → Nat):valN s (fun k=>(num k:Int)) i j = (valO num (odN s i):Int):=by
 unfold valN odN
 rw [bopN_eq h hj hd]
 split <;> rfl
def OdOk:Od → Prop
 | .n k=>k < 26
 | .v x=>x < 1000
theorem odN_ok {s:ByteArray} {i j:Nat} (h:Opnd s i j) (hj:j < s.size) (hd:digitN (bt s j) = false):OdOk (odN s i):=by
 unfold odN
 rw [bopN_eq h hj hd]
 rcases h with ⟨h,rfl⟩ | ⟨h1,h2,h3⟩
 ·rw [if_pos h]
  show bt s i - 97 < 26
  simp [smallN] at h
  omega
 ·rw [if_neg (by rw [(digit_in (h3 i (Nat.le_refl _) h1)).2.2.2.1];simp)]
  show decN s i (j - i) < 1000
  exact Nat.lt_of_lt_of_le (decN_lt (fun q a b=>h3 q a (by omega))) (Nat.le_trans (Nat.pow_le_pow_right (by decide) (show j - i ≤ 3 by omega)) (by decide))
def aftA:Ac → (Nat → Bool) → Nat → Bool
 | .make b _,f=>updB f b true
 | .drop b,f=>updB f b false
 | .move b c,f=>if b = c then f else updB (updB f b (f c)) c false
 | _,f=>f
def useA:Ac → Option Nat
 | .load _ b _=>some b
 | .size _ b=>some b
 | .store b _ _=>some b
 | .drop b=>some b
 | .move _ c=>some c
 | _=>none
def aftG:Pg → (Nat → Bool) → Nat → Bool
 | .nil,f=>f
 | .act a r,f=>aftG r (aftA a f)
 | .ite _ p q r,f=>aftG r (bothF (aftG p f) (aftG q f))
 | .loop _ p r,f=>aftG r (iterF (aftG p) 27 f)
def okG:Pg → (Nat → Bool) → Prop
 | .nil,_=>True
 | .act a r,f=>(∀ b,useA a = some b → f b = true) ∧ okG r (aftA a f)
 | .ite _ p q r,f=>okG p f ∧ okG q f ∧ okG r (bothF (aftG p f) (aftG q f))
 | .loop _ p r,f=>okG p (iterF (aftG p) 27 f) ∧ okG r (iterF (aftG p) 27 f)
theorem aftG_act (a:Ac) (r:Pg) (f:Nat → Bool):aftG (.act a r) f = aftG r (aftA a f):=by rw [aftG]
theorem aftG_ite (o:Od) (p q r:Pg) (f:Nat → Bool):aftG (.ite o p q r) f = aftG r (bothF (aftG p f) (aftG q f)):=by rw [aftG]
theorem aftG_loop (o:Od) (p r:Pg) (f:Nat → Bool):aftG (.loop o p r) f = aftG r (iterF (aftG p) 27 f):=by rw [aftG]
theorem okG_act (a:Ac) (r:Pg) (f:Nat → Bool):okG (.act a r) f = ((∀ b,useA a = some b → f b = true) ∧ okG r (aftA a f)):=by rw [okG]
theorem okG_ite (o:Od) (p q r:Pg) (f:Nat → Bool):okG (.ite o p q r) f = (okG p f ∧ okG q f ∧ okG r (bothF (aftG p f) (aftG q f))):=by rw [okG]
theorem okG_loop (o:Od) (p r:Pg) (f:Nat → Bool):okG (.loop o p r) f = (okG p (iterF (aftG p) 27 f) ∧ okG r (iterF (aftG p) 27 f)):=by rw [okG]
section
variable {s:ByteArray} {i j:Nat}
theorem sm_ne (h:smallN (bt s i) = true):bt s i ≠ 126 ∧ bt s i ≠ 33 ∧ greatN (bt s i) = false:=⟨fun e=>by rw [e] at h;simp [smallN] at h,fun e=>by rw [e] at h;simp [smallN] at h,(small_in h).2.2.2.2⟩
theorem gr_ne (h:greatN (bt s i) = true):bt s i ≠ 126 ∧ bt s i ≠ 33 ∧ smallN (bt s i) = false:=⟨fun e=>by rw [e] at h;simp [greatN] at h,fun e=>by rw [e] at h;simp [greatN] at h,(great_in h).2.2.2.2⟩
theorem acN_size (h:KSize s i j):acN s i = .size (bt s i - 97) (bt s (i + 3) - 65):=by
 obtain ⟨h1,h2,h3,h4,h5,_⟩:=h
 obtain ⟨a,b,c⟩:=sm_ne h1
 unfold acN
 rw [if_neg a,if_neg b,if_pos h1,if_pos h3]
theorem acN_load (h:KLoad s i j):acN s i = .load (bt s i - 97) (bt s (i + 2) - 65) (odN s (i + 4)):=by
 obtain ⟨h1,h2,h3,h4,_⟩:=h
 obtain ⟨a,b,c⟩:=sm_ne h1
 unfold acN
 rw [if_neg a,if_neg b,if_pos h1,if_neg (fun e=>by rw [e] at h3;simp [greatN] at h3),if_pos h3]
theorem acN_set {k:Nat} (h1:smallN (bt s i) = true) (ho:Opnd s (i + 2) k) (h5:bt s k = 59):acN s i = .set (bt s i - 97) (odN s (i + 2)):=by
 obtain ⟨a,b,c⟩:=sm_ne h1
 obtain ⟨g1,g2,g3⟩:=ho.head
 unfold acN
 rw [if_neg a,if_neg b,if_pos h1,if_neg g2,if_neg (by rw [g1];simp),bopN_eq ho (byte_in h5 (by decide)) (nodigit h5 (.inr (.inl rfl))),if_pos h5]
theorem acN_bin {k:Nat} (h1:smallN (bt s i) = true) (ho:Opnd s (i + 2) k) (h5:isOp (bt s k)) (hk:k < s.size):acN s i = .bin (bt s i - 97) (odN s (i + 2)) (bt s k) (odN s (k + 1)):=by
 obtain ⟨a,b,c⟩:=sm_ne h1
 obtain ⟨g1,g2,g3⟩:=ho.head
 have hd:digitN (bt s k) = false:=by
  unfold isOp at h5
  rcases h5 with h5 | h5 | h5 | h5 | h5 <;> rw [h5] <;> rfl
 unfold acN
 rw [if_neg a,if_neg b,if_pos h1,if_neg g2,if_neg (by rw [g1];simp),bopN_eq ho hk hd,if_neg (fun e=>by rw [e] at h5;unfold isOp at h5;omega)]
theorem acN_store {k:Nat} (h1:greatN (bt s i) = true) (h2:bt s (i + 1) = 91) (ho:Opnd s (i + 2) k) (h5:bt s k = 93):acN s i = .store (bt s i - 65) (odN s (i + 2)) (odN s (k + 2)):=by
 obtain ⟨a,b,c⟩:=gr_ne h1
 unfold acN
 rw [if_neg a,if_neg b,if_neg (by rw [c];simp),if_pos h2,bopN_eq ho (byte_in h5 (by decide)) (nodigit h5 (.inr (.inr rfl)))]
theorem acN_make (h:KMake s i j):acN s i = .make (bt s i - 65) (odN s (i + 3)):=by
 obtain ⟨h1,h2,h3,_⟩:=h
 obtain ⟨a,b,c⟩:=gr_ne h1
 unfold acN
 rw [if_neg a,if_neg b,if_neg (by rw [c];simp),if_neg (by omega),if_pos h3]
theorem acN_move (h:KMove s i j):acN s i = .move (bt s i - 65) (bt s (i + 2) - 65):=by
 obtain ⟨h1,h2,h3,_⟩:=h
 obtain ⟨a,b,c⟩:=gr_ne h1
 unfold acN
 rw [if_neg a,if_neg b,if_neg (by rw [c];simp),if_neg (by omega),if_neg (fun e=>by rw [e] at h3;simp [greatN] at h3)]
theorem acN_print (h:bt s i = 33):acN s i = .print (odN s (i + 1)):=by
 unfold acN
 rw [if_neg (by omega),if_pos h]
theorem acN_drop (h:bt s i = 126):acN s i = .drop (bt s (i + 1) - 65):=by
 unfold acN
 rw [if_pos h]
theorem simple_words (h:Simple s i j):(∀ f,simF s i f = aftA (acN s i) f) ∧ ((useA (acN s i) = none ∧ useN s i = -1) ∨ ∃ b,useA (acN s i) = some b ∧ 0 ≤ useN s i ∧ bt s (useN s i).toNat - 65 = b):=by
 rcases h with h | h | h | h | h | h | h | h | h
 ·rw [acN_size h]
  obtain ⟨hm,e1,e2,hg,e4,rfl⟩:=h
  obtain ⟨n126,n33,ng⟩:=sm_ne hm
  refine ⟨fun f=>simF_other n126 (.inl ng),.inr ⟨_,rfl,?_⟩⟩
  unfold useN
  rw [if_neg n126,if_neg (by simp [ng]),if_neg (by simp [ng]),if_pos ⟨hm,e2⟩]
  exact ⟨by omega,rfl⟩
 ·rw [acN_load h]
  obtain ⟨hm,e1,hg,e3,k,ho,e5,e6,rfl⟩:=h
  obtain ⟨n126,n33,ng⟩:=sm_ne hm
  have h35:bt s (i + 2) ≠ 35:=fun e=>by rw [e] at hg;simp [greatN] at hg
  refine ⟨fun f=>simF_other n126 (.inl ng),.inr ⟨_,rfl,?_⟩⟩
  unfold useN
  rw [if_neg n126,if_neg (by simp [ng]),if_neg (by simp [ng]),if_neg (fun q=>h35 q.2),if_pos ⟨hm,hg⟩]
  exact ⟨by omega,rfl⟩
 ·obtain ⟨hm,e1,k,ho,e5,rfl⟩:=h
  rw [acN_set hm ho e5]
  obtain ⟨n126,n33,ng⟩:=sm_ne hm
  obtain ⟨hg2,h35,hi2⟩:=ho.head
  refine ⟨fun f=>simF_other n126 (.inl ng),.inl ⟨rfl,?_⟩⟩
  unfold useN
  rw [if_neg n126,if_neg (by simp [ng]),if_neg (by simp [ng]),if_neg (fun q=>h35 q.2),if_neg (by simp [hg2])]
 ·obtain ⟨hm,e1,k,l,ho,hop2,ho2,e5,rfl⟩:=h
  rw [acN_bin hm ho hop2 (byte_in rfl (by unfold isOp at hop2;omega))]
  obtain ⟨n126,n33,ng⟩:=sm_ne hm
  obtain ⟨hg2,h35,hi2⟩:=ho.head
  refine ⟨fun f=>simF_other n126 (.inl ng),.inl ⟨rfl,?_⟩⟩
  unfold useN
  rw [if_neg n126,if_neg (by simp [ng]),if_neg (by simp [ng]),if_neg (fun q=>h35 q.2),if_neg (by simp [hg2])]
 ·obtain ⟨hg,e1,k,l,ho,e2,e3,ho2,e5,rfl⟩:=h
  rw [acN_store hg e1 ho e2]
  obtain ⟨n126,n33,nm⟩:=gr_ne hg
  refine ⟨fun f=>simF_other n126 (.inr (by rw [e1];decide)),.inr ⟨_,rfl,?_⟩⟩
  unfold useN
  rw [if_neg n126,if_pos ⟨hg,e1⟩]
  exact ⟨by omega,rfl⟩
 ·rw [acN_make h]
  obtain ⟨hg,e1,e2,k,ho,e3,e5,rfl⟩:=h
  obtain ⟨n126,n33,nm⟩:=gr_ne hg
  have hg2:greatN (bt s (i + 2)) = false:=by rw [e2];rfl
  refine ⟨fun f=>?_,.inl ⟨rfl,?_⟩⟩
  ·unfold simF
   rw [if_neg n126,if_pos ⟨hg,e1,e2⟩]
   rfl
  ·unfold useN
   rw [if_neg n126,if_neg (fun q=>by rw [e1] at q;exact absurd q.2 (by decide)),if_neg (by simp [hg2]),if_neg (by simp [nm]),if_neg (by simp [nm])]
 ·rw [acN_move h]
  obtain ⟨hg,e1,hg2,e5,rfl⟩:=h
  obtain ⟨n126,n33,nm⟩:=gr_ne hg
  have h91:bt s (i + 2) ≠ 91:=fun e=>by rw [e] at hg2;simp [greatN] at hg2
  refine ⟨fun f=>?_,.inr ⟨_,rfl,?_⟩⟩
  ·unfold simF
   rw [if_neg n126,if_neg (fun q=>h91 q.2.2)]
   show _ = if bt s i - 65 = bt s (i + 2) - 65 then f else _
   by_cases e:bt s (i + 2) = bt s i
   ·rw [if_neg (fun q=>q.2.2 e),e,if_pos rfl]
   ·rw [if_pos ⟨hg,e1,e⟩,if_neg]
    simp [greatN] at hg hg2
    omega
  ·unfold useN
   rw [if_neg n126,if_neg (fun q=>by rw [e1] at q;exact absurd q.2 (by decide)),if_pos ⟨hg,hg2⟩]
   exact ⟨by omega,rfl⟩
 ·obtain ⟨e0,k,ho,e5,rfl⟩:=h
  rw [acN_print e0]
  have nm:smallN (bt s i) = false:=by rw [e0];rfl
  have ng:greatN (bt s i) = false:=by rw [e0];rfl
  refine ⟨fun f=>simF_other (by omega) (.inl ng),.inl ⟨rfl,?_⟩⟩
  unfold useN
  rw [if_neg (by omega),if_neg (by simp [ng]),if_neg (by simp [ng]),if_neg (by simp [nm]),if_neg (by simp [nm])]
 ·obtain ⟨e0,hg,e5,rfl⟩:=h
  rw [acN_drop e0]
  refine ⟨fun f=>?_,.inr ⟨_,rfl,?_⟩⟩
  ·unfold simF
   rw [if_pos e0]
   rfl
  ·unfold useN
   rw [if_pos e0]
   exact ⟨by omega,rfl⟩
end
theorem iter_congr {S T:(Nat → Bool) → Nat → Bool} (h:∀ f,S f = T f):∀ (n:Nat) (f:Nat → Bool),iterF S n f = iterF T n f
 | 0,f=>rfl
 | n + 1,f=>by
  show iterF S n (bothF f (S f)) = iterF T n (bothF f (T f))
  rw [h f,iter_congr h n]
theorem along_pg {s:ByteArray}:∀ (F i j:Nat),Prog s F i j → (∀ f,alongF s F i j f = aftG (pgN s F i j) f) ∧ (∀ f,misN s F i j f < 0 → okG (pgN s F i j) f)
 | 0,i,j,h=>⟨fun f=>rfl,fun f _=>trivial⟩
 | F + 1,i,j,h=>by
  rcases h with h | ⟨m,hst,hr⟩
  ·subst h
   rw [pgN_end]
   refine ⟨fun f=>?_,fun f _=>trivial⟩
   show (if i < i then _ else f) = f
   rw [if_neg (Nat.lt_irrefl _)]
  ·have hmj:=hr.le
   have hlt:=hst.lt
   have hbeh:=beh_of hst
   have hij:i < j:=by omega
   obtain ⟨r1,r2⟩:=along_pg F m j hr
   have key:∀ f,misN s (F + 1) i j f < 0 → misP s (alongF s F) (misN s F) i f < 0 ∧ misN s F m j (afterF (alongF s F) s i f) < 0:=fun f hf=>by
    rw [misN_step hst hij] at hf
    split at hf
    ·omega
    ·exact ⟨by omega,hf⟩
   have step:∀ f,alongF s (F + 1) i j f = alongF s F m j (afterF (alongF s F) s i f):=fun f=>by
    show (if i < j then alongF s F (behN s i) j (afterF (alongF s F) s i f) else f) = _
    rw [if_pos hij,hbeh]
   rcases hst with h | ⟨e,a,b,c,ho,ha,hp,hb,hb1,hq,hc,rfl⟩ | ⟨e,a,b,ho,ha,hp,hb,rfl⟩
   ·rw [pgN_simple h hij]
    obtain ⟨w1,w2⟩:=simple_words h
    refine ⟨fun f=>?_,fun f hf=>?_⟩
    ·rw [step,afterF_simple h,r1,w1,aftG_act]
    ·obtain ⟨k1,k2⟩:=key f hf
     rw [afterF_simple h,w1] at k2
     rw [okG_act]
     refine ⟨fun b hb=>?_,r2 _ k2⟩
     rw [misP_simple h] at k1
     rcases w2 with ⟨w3,_⟩ | ⟨b',w3,w4,w5⟩
     ·rw [w3] at hb;cases hb
     ·rw [w3] at hb
      cases hb
      cases hfb:f b
      ·rw [if_pos ⟨w4,by rw [w5];exact hfb⟩] at k1;omega
      ·rfl
   ·have hI:=ifAt_of e ho ha hp hb hb1 hq hc
    rw [pgN_if hI hij]
    obtain ⟨p1,p2⟩:=along_pg F _ _ hp
    obtain ⟨q1,q2⟩:=along_pg F _ _ hq
    refine ⟨fun f=>?_,fun f hf=>?_⟩
    ·rw [step,afterF_if hI,r1,p1,q1,aftG_ite]
    ·obtain ⟨k1,k2⟩:=key f hf
     rw [afterF_if hI,p1,q1] at k2
     rw [misP_if hI] at k1
     rw [okG_ite]
     split at k1
     ·exact ⟨p2 _ (by assumption),q2 _ k1,r2 _ k2⟩
     ·omega
   ·have hL:=loopAt_of e ho ha hp hb
    rw [pgN_loop hL hij]
    obtain ⟨p1,p2⟩:=along_pg F _ _ hp
    have hit:∀ f,iterF (alongF s F (a + 1) b) 27 f = iterF (aftG (pgN s F (a + 1) b)) 27 f:=iter_congr p1 27
    refine ⟨fun f=>?_,fun f hf=>?_⟩
    ·rw [step,afterF_loop hL,r1,hit,aftG_loop]
    ·obtain ⟨k1,k2⟩:=key f hf
     rw [afterF_loop hL,hit] at k2
     rw [misP_loop hL,hit] at k1
     rw [okG_loop]
     exact ⟨p2 _ k1,r2 _ k2⟩
end
def mkN (f:Nat → Bool):Nat → Nat
 | 0=>0
 | n + 1=>mkN f n ||| (if f n then 2 ^ n else 0)
theorem mkN_bit (f:Nat → Bool):∀ n i,(mkN f n).testBit i = (decide (i < n) && f i)
 | 0,i=>by simp [mkN]
 | n + 1,i=>by
  show (mkN f n ||| (if f n then 2 ^ n else 0)).testBit i = _
  rw [Nat.testBit_or,mkN_bit f n i]
  by_cases e:i = n
  ·subst e
   cases hf:f i
   ·simp
   ·simp [Nat.testBit_two_pow_self]
  ·have h1:(decide (i < n + 1)) = decide (i < n):=by
    by_cases q:i < n
    ·simp [q];omega
    ·simp [q];omega
   rw [h1]
   cases hf:f n
   ·simp
   ·have:(2 ^ n).testBit i = false:=Nat.testBit_two_pow_of_ne (Ne.symm e)
    simp [this]
theorem mkN_lt (f:Nat → Bool):∀ n,mkN f n < 2 ^ n
 | 0=>by simp [mkN]
 | n + 1=>by
  refine Nat.or_lt_two_pow (Nat.lt_of_lt_of_le (mkN_lt f n) (Nat.pow_le_pow_right (by decide) (by omega))) ?_
  split
  ·exact Nat.pow_lt_pow_right (by decide) (by omega)
  ·exact Nat.two_pow_pos _
def msk (f:Nat → Bool):Nat:=mkN f 26
theorem mk_bit (f:Nat → Bool) (i:Nat):(msk f).testBit i = (decide (i < 26) && f i):=mkN_bit f 26 i
theorem mk_lt (f:Nat → Bool):msk f < 67108864:=mkN_lt f 26
theorem mk_congr {f g:Nat → Bool} (h:∀ i,i < 26 → f i = g i):msk f = msk g:=by
 apply Nat.eq_of_testBit_eq
 intro i
 rw [mk_bit,mk_bit]
 by_cases q:i < 26
 ·rw [h i q]
 ·simp [q]
theorem mk_and (f g:Nat → Bool):msk f &&& msk g = msk (bothF f g):=by
 apply Nat.eq_of_testBit_eq
 intro i
 rw [Nat.testBit_and,mk_bit,mk_bit,mk_bit]
 unfold bothF
 cases decide (i < 26) <;> simp
theorem one_bit (k i:Nat):(1 <<< k).testBit i = decide (i = k):=by
 rw [Nat.one_shiftLeft]
 by_cases e:i = k
 ·subst e;simp [Nat.testBit_two_pow_self]
 ·rw [Nat.testBit_two_pow_of_ne (Ne.symm e)];simp [e]
theorem one_lt {k:Nat} (hk:k < 26):1 <<< k < 67108864:=by
 rw [Nat.one_shiftLeft]
 exact Nat.lt_of_lt_of_le (Nat.pow_lt_pow_right (by decide) hk) (by decide)
theorem mk_or (f:Nat → Bool) {k:Nat} (hk:k < 26):msk f ||| 1 <<< k = msk (updB f k true):=by
 apply Nat.eq_of_testBit_eq
 intro i
 rw [Nat.testBit_or,mk_bit,mk_bit,one_bit]
 unfold updB
 by_cases e:i = k
 ·subst e;simp [hk]
 ·simp [e]
theorem wraps_u32 (n:Int) (h0:0 ≤ n) (h1:n < 2 ^ 26):IntKind.u32.wrap n = n:=by rw [IntKind.wrap_u32];omega
theorem bits_and (f g:Nat → Bool):bits BinOp.and IntKind.u32 (msk f:Int) (msk g:Int) = (msk (bothF f g):Int):=by
 rw [(bits_nat .u32 26 (by decide) wraps_u32 (msk f) (msk g) (mk_lt f) (mk_lt g)).1,mk_and]
theorem bits_or (f:Nat → Bool) {k:Nat} (hk:k < 26):bits BinOp.or IntKind.u32 (msk f:Int) ((1 <<< k:Nat):Int) = (msk (updB f k true):Int):=by
 rw [(bits_nat .u32 26 (by decide) wraps_u32 (msk f) (1 <<< k) (mk_lt f) (one_lt hk)).2,mk_or f hk]
theorem bits_has (f:Nat → Bool) {k:Nat} (hk:k < 26):(bits BinOp.and IntKind.u32 (msk f:Int) ((1 <<< k:Nat):Int) != 0) = f k:=by
 rw [(bits_nat .u32 26 (by decide) wraps_u32 (msk f) (1 <<< k) (mk_lt f) (one_lt hk)).1]
 have h:∀ i,(msk f &&& 1 <<< k).testBit i = (decide (i = k) && f k):=fun i=>by
  rw [Nat.testBit_and,mk_bit,one_bit]
  by_cases e:i = k
  ·subst e;simp [hk]
  ·simp [e]
 cases hf:f k
 ·have:msk f &&& 1 <<< k = 0:=Nat.eq_of_testBit_eq fun i=>by rw [h i,hf];simp
  rw [this];rfl
 ·have hne:msk f &&& 1 <<< k ≠ 0:=fun e=>by
   have:=h k
   rw [e,hf] at this
   simp at this
  exact bne_iff_ne.2 (by omega)
theorem bits_not (f:Nat → Bool) {k:Nat} (hk:k < 26):bits BinOp.andNot IntKind.u32 (msk f:Int) ((1 <<< k:Nat):Int) = (msk (updB f k false):Int):=by
 have h1:(BitVec.ofInt 32 (msk f:Int)).toNat = msk f:=by
  rw [BitVec.ofInt_natCast,BitVec.toNat_ofNat];exact Nat.mod_eq_of_lt (by have:=mk_lt f;omega)
 have h2:(BitVec.ofInt 32 ((1 <<< k:Nat):Int)).toNat = 1 <<< k:=by
  rw [BitVec.ofInt_natCast,BitVec.toNat_ofNat];exact Nat.mod_eq_of_lt (by have:=one_lt hk;omega)
 have h3:msk f &&& (2 ^ 32 - 1 - 1 <<< k) = msk (updB f k false):=by
  apply Nat.eq_of_testBit_eq
  intro i
  have hlt:1 <<< k < 2 ^ 32:=by have:=one_lt hk;omega
  rw [Nat.testBit_and,mk_bit,mk_bit,show 2 ^ 32 - 1 - 1 <<< k = 2 ^ 32 - (1 <<< k + 1) by omega,Nat.testBit_two_pow_sub_succ hlt,one_bit]
  unfold updB
  by_cases q:i < 26
  ·have:i < 32:=by omega
   by_cases e:i = k
   ·simp [e]
   ·simp [e,this]
  ·simp [q]
 show IntKind.u32.wrap ((BitVec.ofInt 32 (msk f:Int) &&& ~~~ BitVec.ofInt 32 ((1 <<< k:Nat):Int)).toNat:Int) = _
 rw [BitVec.toNat_and,BitVec.toNat_not,h1,h2,h3,IntKind.wrap_u32]
 have:=mk_lt (updB f k false)
 omega
theorem only_in (w:World) (k:Nat) (hk:k < 26):CS 99 #[.int .i64 k] w (.int .u32 ((1 <<< k:Nat):Int)):=by
 have HE:Hid ((2 ^ k % 4294967296:Int) = ((1 <<< k:Nat):Int)):=by
  show (2 ^ k % 4294967296:Int) = ((1 <<< k:Nat):Int)
  have h:=one_lt hk
  rw [Nat.one_shiftLeft] at h ⊢
  have h2:((2:Int) ^ k) = ((2 ^ k:Nat):Int):=by simp
  rw [h2]
  clear h2
  generalize (2 ^ k:Nat) = q at h ⊢
  omega
 generalize ((1 <<< k:Nat):Int) = R at HE ⊢
 go_enter func99,ntmps99
 go_wp2
 go_ret
 exact ⟨retI HE.out,rfl⟩
theorem with_fn (w:World) (f:Nat → Bool) (k:Nat) (hk:k < 26):CS 123 #[.int .u32 (msk f:Int),.int .i64 k] w (.int .u32 (msk (updB f k true):Int)):=by
 have HE:Hid _:=bits_or f hk
 have HO:Hid _:=fun X=>only_in X k hk
 generalize ((1 <<< k:Nat):Int) = Q at HE HO
 go_enter func123,ntmps123
 go_wp2_with (go_at_call 99;refine sameC (HO.out _) ?_)
 go_ret
 exact ⟨retI HE.out,rfl⟩
theorem without_fn (w:World) (f:Nat → Bool) (k:Nat) (hk:k < 26):CS 124 #[.int .u32 (msk f:Int),.int .i64 k] w (.int .u32 (msk (updB f k false):Int)):=by
 have HE:Hid _:=bits_not f hk
 have HO:Hid _:=fun X=>only_in X k hk
 generalize ((1 <<< k:Nat):Int) = Q at HE HO
 go_enter func124,ntmps124
 go_wp2_with (go_at_call 99;refine sameC (HO.out _) ?_)
 go_ret
 exact ⟨retI HE.out,rfl⟩
theorem has_fn (w:World) (f:Nat → Bool) (k:Nat) (hk:k < 26):CS 69 #[.int .u32 (msk f:Int),.int .i64 k] w (.bool (f k)):=by
 have HE:Hid _:=bits_has f hk
 have HO:Hid _:=fun X=>only_in X k hk
 generalize ((1 <<< k:Nat):Int) = Q at HE HO
 go_enter func69,ntmps69
 go_wp2_with (go_at_call 99;refine sameC (HO.out _) ?_)
 go_ret
 exact ⟨retb HE.out,rfl⟩
def moveF (k l:Nat) (f:Nat → Bool):Nat → Bool:=if f l then updB (updB f l false) k true else updB (updB f l false) k false
theorem move_fn (w:World) (f:Nat → Bool) (k l:Nat) (hk:k < 26) (hl:l < 26):CS 125 #[.int .i64 k,.int .i64 l,.int .u32 (msk f:Int)] w (.int .u32 (msk (moveF k l f):Int)):=by
 have H1:Hid _:=fun X=>without_fn X f l hl
 have H2:Hid _:=fun X=>has_fn X f l hl
 cases hf:f l
 ·rw [hf] at H2
  have H3:Hid _:=fun X=>without_fn X (updB f l false) k hk
  have HE:moveF k l f = updB (updB f l false) k false:=by unfold moveF;rw [hf];rfl
  rw [HE]
  clear hf HE
  go_enter func125,ntmps125
  go_wp2_with fail
  refine sameC (H1.out _) ?_
  go_wp2_with fail
  refine sameC (H2.out _) ?_
  go_wp2_with fail
  refine sameC (H3.out _) ?_
  go_wp2
  go_ret
  exact ⟨rfl,rfl⟩
 ·rw [hf] at H2
  have H3:Hid _:=fun X=>with_fn X (updB f l false) k hk
  have HE:moveF k l f = updB (updB f l false) k true:=by unfold moveF;rw [hf];rfl
  rw [HE]
  clear hf HE
  go_enter func125,ntmps125
  go_wp2_with fail
  refine sameC (H1.out _) ?_
  go_wp2_with fail
  refine sameC (H2.out _) ?_
  go_wp2_with fail
  refine sameC (H3.out _) ?_
  go_wp2
  go_ret
  exact ⟨rfl,rfl⟩
end Go.Proofs.YthcjcjfgdgnljabGreatDoor
