import Derived.Test.YthcjcjfgdgnljabGreatDoorGDevU
set_option linter.unusedVariables false
set_option maxHeartbeats 4000000
set_option maxRecDepth 8000
open Go.Proofs.Tryz
namespace Go.Proofs.YthcjcjfgdgnljabGreatDoor
open Go.RowKit
def r0:Rs:=⟨(0,0),[],[]⟩
theorem rj0 (s:ByteArray):RJ s r0 :=
 ⟨⟨Nat.zero_le _,fun o ho=>absurd ho (by simp [r0]),fun _=>Nat.zero_le _⟩,⟨fun i hi=>absurd hi (Nat.not_lt_zero _),fun i hi=>absurd hi (Nat.not_lt_zero _),fun i hi=>absurd hi (Nat.not_lt_zero _)⟩,Nat.zero_le _,fun _=>Nat.le_refl _,Nat.zero_le _,Nat.zero_le _⟩
theorem rj_step {s:ByteArray} {r:Rs} (hs:s.size ≤ 90000) (h:RJ s r):RJ s (rStep s r):=by
 unfold rStep
 split
 ·rename_i q
  exact (rj_part hs h q.1 q.2).1
 ·exact h
theorem rj_iter {s:ByteArray} (hs:s.size ≤ 90000):∀ (n:Nat) {r:Rs},RJ s r → RJ s (rIter s n r)
 | 0,_,h=>h
 | n + 1,_,h=>rj_iter hs n (rj_step hs h)
theorem fin_iter {s:ByteArray} (hs:s.size ≤ 90000):∀ (n:Nat) {r:Rs},RJ s r → fin s r.z ((83,true) :: tl (ks r.P r.O)) (r.O.length:Int) = fin s (rIter s n r).z ((83,true) :: tl (ks (rIter s n r).P (rIter s n r).O)) ((rIter s n r).O.length:Int)
 | 0,_,_=>rfl
 | n + 1,r,h=>by
  refine Eq.trans ?_ (fin_iter hs n (rj_step hs h))
  unfold rStep
  split
  ·rename_i q
   exact part_fin h.toRI q.1 q.2
  ·rfl
def told (r:Rs):Nat × Nat:=if r.z.2 ≠ 0 then (r.z.2,r.z.1) else if r.O = [] then (0,0) else (2,r.z.1)
theorem run_told {s:ByteArray} (hs:s.size ≤ 90000) (n:Nat) (hst:(rIter s n r0).z.2 ≠ 0 ∨ ¬ (rIter s n r0).z.1 < s.size):run s [(83,true)] 0 0 = told (rIter s n r0):=by
 have h1:=fin_iter hs n (rj0 s)
 have hj:=rj_iter hs n (rj0 s)
 have h0:fin s r0.z ((83,true) :: tl (ks r0.P r0.O)) (r0.O.length:Int) = run s [(83,true)] 0 0:=rfl
 rw [h0] at h1
 rw [h1]
 generalize rIter s n r0 = r at hj hst ⊢
 unfold told fin
 by_cases h2:r.z.2 = 0
 ·rw [if_pos h2,if_neg (fun q=>q h2)]
  have hl:¬ r.z.1 < s.size:=by
   rcases hst with q | q
   ·exact absurd h2 q
   ·exact q
  have hin:r.z.1 ≤ s.size:=hj.hin
  have e:r.z.1 = s.size:=by omega
  have hb:bt s r.z.1 = 0:=bt_out hl
  rw [R_S_none _ hin (by rw [hb];unfold noStmt;decide)]
  by_cases hO:r.O = []
  ·rw [if_pos hO,hO]
   show run s [] r.z.1 _ = _
   rw [run_nil hin,if_neg hl]
  ·rw [if_neg hO]
   have hk:ks r.P r.O ≠ []:=fun q=>hO (by have:=ks_len r.P r.O;rw [q] at this;exact List.length_eq_zero_iff.1 this.symm)
   obtain ⟨k,K,hkk⟩:=List.exists_cons_of_ne_nil hk
   rw [hkk,tl_cons]
   split
   ·exact run_miss _ hin (by rw [hb];decide)
   ·exact run_miss _ hin (by rw [hb];decide)
 ·rw [if_neg h2,if_pos h2]
theorem seg_told {s:ByteArray} (hs:s.size ≤ 90000) (n:Nat) (h2:(rIter s n r0).z.2 = 0) (hl:¬ (rIter s n r0).z.1 < s.size) (hO:(rIter s n r0).O = []):Seg0 (pOf (rIter s n r0).P) s (rIter s n r0).P.length:=by
 have hr:=run_told hs n (.inr hl)
 have ht:told (rIter s n r0) = (0,0):=by unfold told;rw [if_neg (fun q=>q h2),if_pos hO]
 rw [ht] at hr
 have hp:=prog_of_ok hr
 obtain ⟨m,hm⟩:=read_all _ _ _ hp [] []
 have still:rStep s (rIter s n r0) = rIter s n r0:=rStep_end hl
 have meet:∀ d,rIter s (n + d) r0 = rIter s n r0:=fun d=>by rw [rIter_add,rIter_still still]
 have hr0:(⟨(0,0),[],[]⟩:Rs) = r0:=rfl
 rw [hr0] at hm
 rcases hm with hm | ⟨X,hm,hseg⟩
 ·exfalso
  by_cases q:m ≤ n
  ·have:=rIter_bad (n:=n - m) hm
   rw [show m + (n - m) = n by omega] at this
   exact this h2
  ·have:=meet (m - n)
   rw [show n + (m - n) = m by omega] at this
   rw [this] at hm
   exact hm h2
 ·have he:rIter s n r0 = rIter s m r0:=by
   by_cases q:m ≤ n
   ·have hst2:rStep s (rIter s m r0) = rIter s m r0:=rStep_end (by rw [hm];exact Nat.lt_irrefl _)
    have:=rIter_add s m (n - m) r0
    rw [show m + (n - m) = n by omega,rIter_still hst2] at this
    exact this
   ·have:=meet (m - n)
    rw [show n + (m - n) = m by omega] at this
    exact this.symm
  rw [he,hm]
  have:=hseg (fun _=>false) clean_none
  simpa [ACond,Seg0] using this
theorem list_last {P:List Pt} (h:P ≠ []):∃ P' t,P = P' ++ [t]:=⟨P.dropLast,P.getLast h,(List.dropLast_concat_getLast h).symm⟩
theorem clo_zero:∀ (n:Nat) (P:List Pt),P.length = n → (∀ i,i < P.length → closes (pOf P i) = true → (pOf P i).opn < i) → ∀ q,P.length ≤ q → cloL P q = 0
 | 0,P,hn,_,q,_=>by
  have e:P = []:=List.eq_nil_of_length_eq_zero hn
  subst e
  rfl
 | n + 1,P,hn,h,q,hq=>by
  obtain ⟨P',t,rfl⟩:=list_last (P:=P) (fun e=>by rw [e] at hn;simp at hn)
  have hl:(P' ++ [t]).length = P'.length + 1:=by simp
  rw [hl] at hq hn
  have ih:=clo_zero n P' (by omega) (fun i hi hc=>by
   have:=h i (by rw [hl];omega)
   rw [pOf_app _ hi] at this
   exact this hc) q (by omega)
  rw [clo_push]
  split
  ·rename_i hc
   have:=h P'.length (by rw [hl];omega) (by rw [pOf_new];exact hc)
   rw [pOf_new] at this
   rw [upN_ne _ _ (by omega)]
   exact ih
  ·exact ih
theorem rj_zero {s:ByteArray} {r:Rs} (h:RJ s r):cloL r.P r.P.length = 0:=clo_zero _ r.P rfl (fun i hi hc=>h.fl.op i hi (by unfold closes at hc;simp at hc;omega)) _ (Nat.le_refl _)
theorem clo_at:∀ (n:Nat) (P:List Pt),P.length = n → ∀ k,k < P.length → closes (pOf P k) = true → (∀ q,q < P.length → closes (pOf P q) = true → (pOf P q).opn = (pOf P k).opn → q = k) → cloL P (pOf P k).opn = k
 | 0,P,hn,k,hk,_,_=>by omega
 | n + 1,P,hn,k,hk,hc,hu=>by
  obtain ⟨P',t,rfl⟩:=list_last (P:=P) (fun e=>by rw [e] at hn;simp at hn)
  have hl:(P' ++ [t]).length = P'.length + 1:=by simp
  rw [hl] at hn hk hu
  rw [clo_push]
  by_cases e:k = P'.length
  ·subst e
   rw [pOf_new] at hc ⊢
   rw [if_pos hc,upN_at]
  ·have hk':k < P'.length:=by omega
   rw [pOf_app _ hk'] at hc hu ⊢
   have ih:=clo_at n P' (by omega) k hk' hc (fun q hq hqc hqo=>hu q (by omega) (by rw [pOf_app _ hq];exact hqc) (by rw [pOf_app _ hq];exact hqo))
   split
   ·rename_i hct
    have hne:(pOf P' k).opn ≠ t.opn:=fun q=>e (hu P'.length (by omega) (by rw [pOf_new];exact hct) (by rw [pOf_new];exact q.symm)).symm
    rw [upN_ne _ _ hne]
    exact ih
   ·exact ih
structure RU (r:Rs):Prop where
 nd:r.O.Nodup
 un:∀ o,o ∈ r.O → ∀ q,q < r.P.length → closes (pOf r.P q) = true → (pOf r.P q).opn ≠ o
 uq:∀ q q',q < r.P.length → q' < r.P.length → closes (pOf r.P q) = true → closes (pOf r.P q') = true → (pOf r.P q).opn = (pOf r.P q').opn → q = q'
theorem ru_plain {s:ByteArray} {r:Rs} (h:RU r) (hJ:RJ s r) {z':Nat × Nat} {t:Pt} {O':List Nat} (ht:closes t = false) (hO:O' = r.O ∨ O' = r.O ++ [r.P.length]):RU ⟨z',r.P ++ [t],O'⟩:=by
 have hl:(r.P ++ [t]).length = r.P.length + 1:=by simp
 have key:∀ q,q < (r.P ++ [t]).length → closes (pOf (r.P ++ [t]) q) = true → q < r.P.length ∧ pOf (r.P ++ [t]) q = pOf r.P q:=fun q hq hc=>by
  by_cases e:q = r.P.length
  ·subst e;rw [pOf_new,ht] at hc;cases hc
  ·have:q < r.P.length:=by omega
   exact ⟨this,pOf_app _ this⟩
 refine ⟨?_,fun o ho q hq hc=>?_,fun q q' hq hq' hc hc' he=>?_⟩
 ·rcases hO with rfl | rfl
  ·exact h.nd
  ·show (r.O ++ [r.P.length]).Nodup
   rw [List.nodup_append]
   refine ⟨h.nd,by simp,fun a ha b hb=>?_⟩
   have e:b = r.P.length:=by simpa using hb
   have:=(hJ.ho a ha).1
   omega
 ·obtain ⟨h1,h2⟩:=key q hq hc
  show (pOf (r.P ++ [t]) q).opn ≠ o
  have hc2:closes (pOf (r.P ++ [t]) q) = true:=hc
  rw [h2] at hc2 ⊢
  have ho':o ∈ r.O ∨ o = r.P.length:=by
   rcases hO with rfl | rfl
   ·exact .inl ho
   ·have ho2:o ∈ r.O ++ [r.P.length]:=ho
    simpa using ho2
  rcases ho' with ho' | ho'
  ·exact h.un o ho' q h1 hc2
  ·have:=hJ.fl.op q h1 (by unfold closes at hc2;simp at hc2;omega)
   omega
 ·obtain ⟨h1,h2⟩:=key q hq hc
  obtain ⟨h3,h4⟩:=key q' hq' hc'
  have hc1:closes (pOf (r.P ++ [t]) q) = true:=hc
  have hc2:closes (pOf (r.P ++ [t]) q') = true:=hc'
  have he2:(pOf (r.P ++ [t]) q).opn = (pOf (r.P ++ [t]) q').opn:=he
  rw [h2] at hc1 he2
  rw [h4] at hc2 he2
  exact h.uq q q' h1 h3 hc1 hc2 he2
theorem ru_close {s:ByteArray} {z z':Nat × Nat} {P:List Pt} {O1 O':List Nat} {la:Nat} {t:Pt} (h:RU ⟨z,P,O1 ++ [la]⟩) (hJ:RJ s ⟨z,P,O1 ++ [la]⟩) (ht:t.opn = la) (hO:O' = O1 ∨ O' = O1 ++ [P.length]):RU ⟨z',P ++ [t],O'⟩:=by
 have hl:(P ++ [t]).length = P.length + 1:=by simp
 have hnd:=h.nd
 simp only [] at hnd
 rw [List.nodup_append] at hnd
 have hla:∀ q,q < P.length → closes (pOf P q) = true → (pOf P q).opn ≠ la:=fun q hq hc=>h.un la (by simp) q hq hc
 have hnot:∀ o,o ∈ O1 → o ≠ la:=fun o ho e=>hnd.2.2 o ho la (by simp) e
 have hlt:la < P.length:=(hJ.ho la (by simp)).1
 refine ⟨?_,fun o ho q hq hc=>?_,fun q q' hq hq' hc hc' he=>?_⟩
 ·rcases hO with rfl | rfl
  ·exact hnd.1
  ·show (O1 ++ [P.length]).Nodup
   rw [List.nodup_append]
   refine ⟨hnd.1,by simp,fun a ha b hb=>?_⟩
   have e:b = P.length:=by simpa using hb
   have:=(hJ.ho a (by simp [ha])).1
   simp only [] at this
   omega
 ·show (pOf (P ++ [t]) q).opn ≠ o
  have hq':q < (P ++ [t]).length:=hq
  have hc2:closes (pOf (P ++ [t]) q) = true:=hc
  have ho':o ∈ O1 ∨ o = P.length:=by
   rcases hO with rfl | rfl
   ·exact .inl ho
   ·have ho2:o ∈ O1 ++ [P.length]:=ho
    simpa using ho2
  by_cases e:q = P.length
  ·subst e
   rw [pOf_new,ht]
   rcases ho' with ho' | ho'
   ·exact fun e=>hnot o ho' e.symm
   ·omega
  ·have h1:q < P.length:=by omega
   rw [pOf_app _ h1] at hc2 ⊢
   rcases ho' with ho' | ho'
   ·exact h.un o (by simp [ho']) q h1 hc2
   ·have:=hJ.fl.op q h1 (by unfold closes at hc2;simp at hc2;simp only [];omega)
    simp only [] at this
    omega
 ·have hq1:q < (P ++ [t]).length:=hq
  have hq2:q' < (P ++ [t]).length:=hq'
  have hc1:closes (pOf (P ++ [t]) q) = true:=hc
  have hc2:closes (pOf (P ++ [t]) q') = true:=hc'
  have he2:(pOf (P ++ [t]) q).opn = (pOf (P ++ [t]) q').opn:=he
  by_cases e:q = P.length
  ·by_cases e':q' = P.length
   ·omega
   ·have h1:q' < P.length:=by omega
    subst e
    rw [pOf_app _ h1] at hc2 he2
    rw [pOf_new,ht] at he2
    exact absurd he2.symm (hla q' h1 hc2)
  ·have h1:q < P.length:=by omega
   rw [pOf_app _ h1] at hc1 he2
   by_cases e':q' = P.length
   ·subst e'
    rw [pOf_new,ht] at he2
    exact absurd he2 (hla q h1 hc1)
   ·have h2:q' < P.length:=by omega
    rw [pOf_app _ h2] at hc2 he2
    exact h.uq q q' h1 h2 hc1 hc2 he2
theorem ru_part {s:ByteArray} {r:Rs} (h:RU r) (hJ:RJ s r):RU (rPart s r):=by
 have bad:RU ⟨rf 2 r.z,r.P,r.O⟩:=⟨h.nd,h.un,h.uq⟩
 unfold rPart
 split
 ·unfold rNumber
  split
  ·exact ru_plain h hJ rfl (.inl rfl)
  ·split
   ·exact ru_plain h hJ rfl (.inl rfl)
   ·exact ru_plain h hJ rfl (.inl rfl)
 ·split
  ·unfold rBox
   split
   ·exact ru_plain h hJ rfl (.inl rfl)
   ·split
    ·exact ru_plain h hJ rfl (.inl rfl)
    ·exact ru_plain h hJ rfl (.inl rfl)
  ·split
   ·exact ru_plain h hJ rfl (.inl rfl)
   ·split
    ·exact ru_plain h hJ rfl (.inl rfl)
    ·split
     ·exact ru_plain h hJ rfl (.inr rfl)
     ·split
      ·exact ru_plain h hJ rfl (.inr rfl)
      ·split
       ·unfold rClose
        split
        ·exact bad
        ·rename_i hO
         obtain ⟨z,P,O⟩:=r
         simp only [] at hO ⊢
         have hsp:=last_split hO
         generalize O.getLast?.getD 0 = la at hsp ⊢
         generalize O.dropLast = O1 at hsp ⊢
         subst hsp
         split
         ·exact ru_close h hJ rfl (.inr rfl)
         ·split
          ·exact ru_close h hJ rfl (.inl rfl)
          ·exact ru_close h hJ rfl (.inl rfl)
       ·exact bad
theorem ru0:RU r0:=⟨List.nodup_nil,fun o ho=>absurd ho (by simp [r0]),fun q q' hq=>absurd hq (Nat.not_lt_zero _)⟩
theorem ru_iter {s:ByteArray} (hs:s.size ≤ 90000):∀ (n:Nat) {r:Rs},RU r → RJ s r → RU (rIter s n r)
 | 0,_,h,_=>h
 | n + 1,r,h,hJ=>by
  refine ru_iter hs n ?_ (rj_step hs hJ)
  unfold rStep
  split
  ·exact ru_part h hJ
  ·exact h
theorem clo_le:∀ (n:Nat) (P:List Pt),P.length = n → ∀ i,cloL P i ≤ P.length
 | 0,P,hn,i=>by
  have e:P = []:=List.eq_nil_of_length_eq_zero hn
  subst e
  exact Nat.le_refl _
 | n + 1,P,hn,i=>by
  obtain ⟨P',t,rfl⟩:=list_last (P:=P) (fun e=>by rw [e] at hn;simp at hn)
  have hl:(P' ++ [t]).length = P'.length + 1:=by simp
  have ih:=clo_le n P' (by omega) i
  rw [clo_push,hl]
  split
  ·by_cases e:i = t.opn
   ·subst e;rw [upN_at];omega
   ·rw [upN_ne _ _ e];omega
  ·omega
def Prt (p:Nat → Pt) (C:Nat → Nat):Pg → Nat → Nat → Prop
 | .nil,k,l=>k = l
 | .act a r,k,l=>(p k).kind < 8 ∧ acP (p k) = a ∧ Prt p C r (k + 1) l
 | .ite o P1 P2 r,k,l=>∃ ka kb,(p k).kind = 8 ∧ (p k).o1 = o ∧ C k = ka ∧ Prt p C P1 (k + 1) ka ∧ (p ka).kind = 9 ∧ C ka = kb ∧ Prt p C P2 (ka + 1) kb ∧ (p kb).kind = 10 ∧ Prt p C r (kb + 1) l
 | .loop o P1 r,k,l=>∃ ka,(p k).kind = 11 ∧ (p k).o1 = o ∧ C k = ka ∧ Prt p C P1 (k + 1) ka ∧ (p ka).kind = 12 ∧ (p ka).opn = k ∧ Prt p C r (ka + 1) l
theorem Prt.le {p:Nat → Pt} {C:Nat → Nat}:∀ {P:Pg} {k l:Nat},Prt p C P k l → k ≤ l
 | .nil,_,_,h=>Nat.le_of_eq h
 | .act a r,_,_,h=>Nat.le_trans (Nat.le_succ _) (Prt.le h.2.2)
 | .ite o P1 P2 r,_,_,h=>by
  obtain ⟨ka,kb,_,_,_,h1,_,_,h2,_,h3⟩:=h
  have:=Prt.le h1
  have:=Prt.le h2
  have:=Prt.le h3
  omega
 | .loop o P1 r,_,_,h=>by
  obtain ⟨ka,_,_,_,h1,_,_,h3⟩:=h
  have:=Prt.le h1
  have:=Prt.le h3
  omega
theorem prt_of_seg {p:Nat → Pt} {C:Nat → Nat} {s:ByteArray} {cl cs:Nat → (Nat → Bool) → Prop}:∀ {F i j k l:Nat} {f:Nat → Bool},(∀ q,k ≤ q → q < l → closes (p q) = true → C (p q).opn = q) → SegQ p s cl cs F i j k l f → Prt p C (pgN s F i j) k l
 | 0,i,j,k,l,f,_,h=>h.2
 | F + 1,i,j,k,l,f,hC,h=>by
  rcases h with ⟨rfl,rfl⟩ | ⟨m,k',⟨hc,hs⟩,g1,g2,g3,g4,g5,hr⟩
  ·rw [pgN_end];exact rfl
  ·have hij:i < j:=by omega
   have hr2:=prt_of_seg (C:=C) (fun q a b=>hC q (by omega) b) hr
   rcases hs with ⟨q1,q2,q3⟩ | ⟨a,b,c,ka,kb,q1,q2,q3,q4,q5,q6,q7,q8,q9,q10,q11,q12⟩ | ⟨a,b,ka,q1,q2,q3,q4,q5,q6,q7,q8,q9⟩
   ·rw [pgN_simple q1 hij]
    subst q2
    exact ⟨q3.kd,q3.ac,hr2⟩
   ·rw [pgN_if q1 hij]
    subst q4 q5
    have l3:=q3.le
    refine ⟨ka,kb,q6.1,q6.2.1,?_,prt_of_seg (fun q a b=>hC q (by omega) (by omega)) q2,q7,?_,prt_of_seg (fun q a b=>hC q (by omega) (by omega)) q3,q9,hr2⟩
    ·have:=hC ka (by omega) (by omega) (by unfold closes;rw [q7];rfl)
     rwa [q8] at this
    ·have:=hC kb (by omega) (by omega) (by unfold closes;rw [q9];rfl)
     rwa [q10] at this
   ·rw [pgN_loop q1 hij]
    subst q4 q5
    have l3:=q3.le
    refine ⟨ka,q6.1,q6.2.1,?_,prt_of_seg (fun q a b=>hC q (by omega) (by omega)) q3,q7,q8,hr2⟩
    have:=hC ka (by omega) (by omega) (by unfold closes;rw [q7];rfl)
    rwa [q8] at this
def dstep (c:Cf) (p:Nat → Pt) (C:Nat → Nat) (nx:Nat) (σ:St):Nat × St × Bool :=
 if (p nx).kind < 8 then (nx + 1,(stp c (acP (p nx)) σ).1,!(stp c (acP (p nx)) σ).2)
 else if (p nx).kind = 8 ∨ (p nx).kind = 11 then (if σ.left = 0 then (nx + 1,tire σ,true) else if valO σ.num (p nx).o1 = 0 then (C nx + 1,due σ,false) else (nx + 1,due σ,false))
 else if (p nx).kind = 9 then (C nx,σ,false)
 else if (p nx).kind = 12 then ((p nx).opn,σ,false)
 else (nx + 1,σ,false)
inductive RunsIn (c:Cf) (p:Nat → Pt) (C:Nat → Nat) (np:Nat):Nat → Nat × St × Bool → St → Prop where
 | over {nx:Nat} {σ:St}:RunsIn c p C np 0 (nx,σ,true) σ
 | fin {nx:Nat} {σ:St} (h:np ≤ nx):RunsIn c p C np 0 (nx,σ,false) σ
 | step {m nx:Nat} {σ σf:St} (h:nx < np) (hr:RunsIn c p C np m (dstep c p C nx σ) σf):RunsIn c p C np (m + 1) (nx,σ,false) σf
theorem Ex.runs {c:Cf} {p:Nat → Pt} {C:Nat → Nat} {np:Nat} {P:Pg} {σ σ':St} {b:Bool} (h:Ex c P σ σ' b):∀ {k l:Nat},l ≤ np → Prt p C P k l →
  (b = true → ∀ m σf,RunsIn c p C np m (l,σ',false) σf → ∃ m',RunsIn c p C np m' (k,σ,false) σf) ∧ (b = false → ∃ m',RunsIn c p C np m' (k,σ,false) σ'):=by
 induction h with
 | nil σ =>
  intro k l hl hP
  have e:k = l:=hP
  subst e
  exact ⟨fun _ m σf hr=>⟨m,hr⟩,fun q=>absurd q (by simp)⟩
 | @stop a r σ σ' h =>
  intro k l hl hP
  obtain ⟨h1,h2,h3⟩:=hP
  have:=h3.le
  refine ⟨fun q=>absurd q (by simp),fun _=>⟨1,.step (by omega) ?_⟩⟩
  have e:dstep c p C k σ = (k + 1,σ',true):=by unfold dstep;rw [if_pos h1,h2,h];rfl
  rw [e]
  exact .over
 | @go a r σ σ1 σ2 b h hr ih =>
  intro k l hl hP
  obtain ⟨h1,h2,h3⟩:=hP
  have hle:=h3.le
  have e:dstep c p C k σ = (k + 1,σ1,false):=by unfold dstep;rw [if_pos h1,h2,h];rfl
  have lift:∀ {σf},(∃ m',RunsIn c p C np m' (k + 1,σ1,false) σf) → ∃ m',RunsIn c p C np m' (k,σ,false) σf:=fun {σf} ⟨m',q⟩=>⟨m' + 1,.step (by omega) (by rw [e];exact q)⟩
  exact ⟨fun q m σf hr2=>lift ((ih hl h3).1 q m σf hr2),fun q=>lift ((ih hl h3).2 q)⟩
 | @iteTired o P1 P2 r σ h =>
  intro k l hl hP
  obtain ⟨ka,kb,a1,a2,a3,a4,a5,a6,a7,a8,a9⟩:=hP
  have:=a4.le;have:=a7.le;have:=a9.le
  refine ⟨fun q=>absurd q (by simp),fun _=>⟨1,.step (by omega) ?_⟩⟩
  have e:dstep c p C k σ = (k + 1,tire σ,true):=by unfold dstep;rw [if_neg (by omega),if_pos (.inl a1),if_pos h]
  rw [e]
  exact .over
 | @iteStop o P1 P2 r σ σ1 h hp ih =>
  intro k l hl hP
  obtain ⟨ka,kb,a1,a2,a3,a4,a5,a6,a7,a8,a9⟩:=hP
  have:=a4.le;have:=a7.le;have:=a9.le
  refine ⟨fun q=>absurd q (by simp),fun _=>?_⟩
  by_cases hv:valO σ.num o = 0
  ·have e:dstep c p C k σ = (ka + 1,due σ,false):=by unfold dstep;rw [if_neg (by omega),if_pos (.inl a1),if_neg h,a2,if_pos hv,a3]
   rw [if_neg (by omega)] at ih
   obtain ⟨m',q⟩:=(ih (l:=kb) (by omega) a7).2 rfl
   exact ⟨m' + 1,.step (by omega) (by rw [e];exact q)⟩
  ·have e:dstep c p C k σ = (k + 1,due σ,false):=by unfold dstep;rw [if_neg (by omega),if_pos (.inl a1),if_neg h,a2,if_neg hv]
   rw [if_pos hv] at ih
   obtain ⟨m',q⟩:=(ih (l:=ka) (by omega) a4).2 rfl
   exact ⟨m' + 1,.step (by omega) (by rw [e];exact q)⟩
 | @iteGo o P1 P2 r σ σ1 σ2 b h hp hr ih1 ih2 =>
  intro k l hl hP
  obtain ⟨ka,kb,a1,a2,a3,a4,a5,a6,a7,a8,a9⟩:=hP
  have l1:=a4.le;have l2:=a7.le;have l3:=a9.le
  have atKb:∀ {σf},(∃ m',RunsIn c p C np m' (kb + 1,σ1,false) σf) → ∃ m',RunsIn c p C np m' (kb,σ1,false) σf:=fun {σf} ⟨m',q⟩=>⟨m' + 1,.step (by omega) (by
   have e:dstep c p C kb σ1 = (kb + 1,σ1,false):=by unfold dstep;rw [if_neg (by omega),if_neg (by omega),if_neg (by omega),if_neg (by omega)]
   rw [e];exact q)⟩
  have lift:∀ {σf},(∃ m',RunsIn c p C np m' (kb + 1,σ1,false) σf) → ∃ m',RunsIn c p C np m' (k,σ,false) σf:=fun {σf} hx=>by
   obtain ⟨m1,q1⟩:=atKb hx
   by_cases hv:valO σ.num o = 0
   ·have e:dstep c p C k σ = (ka + 1,due σ,false):=by unfold dstep;rw [if_neg (by omega),if_pos (.inl a1),if_neg h,a2,if_pos hv,a3]
    rw [if_neg (by omega)] at ih1
    obtain ⟨m',q⟩:=(ih1 (l:=kb) (by omega) a7).1 rfl m1 σf q1
    exact ⟨m' + 1,.step (by omega) (by rw [e];exact q)⟩
   ·have e:dstep c p C k σ = (k + 1,due σ,false):=by unfold dstep;rw [if_neg (by omega),if_pos (.inl a1),if_neg h,a2,if_neg hv]
    rw [if_pos hv] at ih1
    have e2:dstep c p C ka σ1 = (kb,σ1,false):=by unfold dstep;rw [if_neg (by omega),if_neg (by omega),if_pos a5,a6]
    obtain ⟨m',q⟩:=(ih1 (l:=ka) (by omega) a4).1 rfl (m1 + 1) σf (.step (by omega) (by rw [e2];exact q1))
    exact ⟨m' + 1,.step (by omega) (by rw [e];exact q)⟩
  exact ⟨fun q m σf hr2=>lift ((ih2 hl a9).1 q m σf hr2),fun q=>lift ((ih2 hl a9).2 q)⟩
 | @loopTired o P1 r σ h =>
  intro k l hl hP
  obtain ⟨ka,a1,a2,a3,a4,a5,a6,a7⟩:=hP
  have:=a4.le;have:=a7.le
  refine ⟨fun q=>absurd q (by simp),fun _=>⟨1,.step (by omega) ?_⟩⟩
  have e:dstep c p C k σ = (k + 1,tire σ,true):=by unfold dstep;rw [if_neg (by omega),if_pos (.inr a1),if_pos h]
  rw [e]
  exact .over
 | @loopEnd o P1 r σ σ2 b h h0 hr ih =>
  intro k l hl hP
  obtain ⟨ka,a1,a2,a3,a4,a5,a6,a7⟩:=hP
  have:=a4.le;have:=a7.le
  have e:dstep c p C k σ = (ka + 1,due σ,false):=by unfold dstep;rw [if_neg (by omega),if_pos (.inr a1),if_neg h,a2,if_pos h0,a3]
  have lift:∀ {σf},(∃ m',RunsIn c p C np m' (ka + 1,due σ,false) σf) → ∃ m',RunsIn c p C np m' (k,σ,false) σf:=fun {σf} ⟨m',q⟩=>⟨m' + 1,.step (by omega) (by rw [e];exact q)⟩
  exact ⟨fun q m σf hr2=>lift ((ih hl a7).1 q m σf hr2),fun q=>lift ((ih hl a7).2 q)⟩
 | @loopStop o P1 r σ σ1 h h0 hp ih =>
  intro k l hl hP
  obtain ⟨ka,a1,a2,a3,a4,a5,a6,a7⟩:=hP
  have:=a4.le;have:=a7.le
  have e:dstep c p C k σ = (k + 1,due σ,false):=by unfold dstep;rw [if_neg (by omega),if_pos (.inr a1),if_neg h,a2,if_neg h0]
  refine ⟨fun q=>absurd q (by simp),fun _=>?_⟩
  obtain ⟨m',q⟩:=(ih (l:=ka) (by omega) a4).2 rfl
  exact ⟨m' + 1,.step (by omega) (by rw [e];exact q)⟩
 | @loopGo o P1 r σ σ1 σ2 b h h0 hp hr ih1 ih2 =>
  intro k l hl hP
  have hP':=hP
  obtain ⟨ka,a1,a2,a3,a4,a5,a6,a7⟩:=hP
  have:=a4.le;have:=a7.le
  have e:dstep c p C k σ = (k + 1,due σ,false):=by unfold dstep;rw [if_neg (by omega),if_pos (.inr a1),if_neg h,a2,if_neg h0]
  have e2:dstep c p C ka σ1 = (k,σ1,false):=by unfold dstep;rw [if_neg (by omega),if_neg (by omega),if_neg (by omega),if_pos a5,a6]
  have lift:∀ {σf},(∃ m',RunsIn c p C np m' (k,σ1,false) σf) → ∃ m',RunsIn c p C np m' (k,σ,false) σf:=fun {σf} ⟨m1,q1⟩=>by
   obtain ⟨m',q⟩:=(ih1 (l:=ka) (by omega) a4).1 rfl (m1 + 1) σf (.step (by omega) (by rw [e2];exact q1))
   exact ⟨m' + 1,.step (by omega) (by rw [e];exact q)⟩
  exact ⟨fun q m σf hr2=>lift ((ih2 hl hP').1 q m σf hr2),fun q=>lift ((ih2 hl hP').2 q)⟩
theorem Ex.runs_all {c:Cf} {p:Nat → Pt} {C:Nat → Nat} {np:Nat} {P:Pg} {σ σ':St} {b:Bool} (h:Ex c P σ σ' b) (hP:Prt p C P 0 np):∃ m,RunsIn c p C np m (0,σ,false) σ':=by
 have:=h.runs (Nat.le_refl _) hP
 cases b
 ·exact this.2 rfl
 ·exact this.1 rfl 0 σ' (.fin (Nat.le_refl _))
section
structure Rd (w:World) (kp:Nat) (s:ByteArray) (z:Nat × Nat) (pv ov:Value):Prop where
 c0:w.cell? ⟨kp,0,none⟩ = some (.string s)
 c1:w.cell? ⟨kp,1,none⟩ = some (.int .i64 z.1)
 c2:w.cell? ⟨kp,2,none⟩ = some pv
 c3:w.cell? ⟨kp,3,none⟩ = some ov
 c4:w.cell? ⟨kp,4,none⟩ = some (.int .i64 z.2)
 f:∀ o,w.frozen? ⟨kp,o,none⟩ = false
theorem Rd.lt {w:World} {kp:Nat} {s:ByteArray} {z:Nat × Nat} {pv ov:Value} (h:Rd w kp s z pv ov):kp < w.heap.size:=World.block_lt_of_cell? w _ h.c0
theorem Rd.fr {S:Nat → Prop} {w w':World} {kp:Nat} {s:ByteArray} {z:Nat × Nat} {pv ov:Value} (h:Rd w kp s z pv ov) (hF:Fr S w w') (hS:¬ S kp):Rd w' kp s z pv ov :=
 ⟨hF.cell_some h.c0 hS,hF.cell_some h.c1 hS,hF.cell_some h.c2 hS,hF.cell_some h.c3 hS,hF.cell_some h.c4 hS,fun o=>(hF.frozen (p:=⟨kp,o,none⟩) h.lt hS).trans (h.f o)⟩
theorem Rd.no {w w':World} {kp:Nat} {s:ByteArray} {z:Nat × Nat} {pv ov:Value} (h:Rd w kp s z pv ov) (hF:Fr NoB w w'):Rd w' kp s z pv ov:=h.fr hF id
theorem Rd.set1 {w:World} {kp:Nat} {s:ByteArray} {z:Nat × Nat} {pv ov:Value} (h:Rd w kp s z pv ov) (a:Nat):Rd (w.setCell ⟨kp,1,none⟩ (.int .i64 a)) kp s (a,z.2) pv ov :=
 ⟨(cell_other (.inr (by omega))).trans h.c0,cell_same h.c1,(cell_other (.inr (by omega))).trans h.c2,(cell_other (.inr (by omega))).trans h.c3,(cell_other (.inr (by omega))).trans h.c4,fun o=>by rw [World.frozen?_setCell];exact h.f o⟩
theorem Rd.set4 {w:World} {kp:Nat} {s:ByteArray} {z:Nat × Nat} {pv ov:Value} (h:Rd w kp s z pv ov) (a:Nat):Rd (w.setCell ⟨kp,4,none⟩ (.int .i64 a)) kp s (z.1,a) pv ov :=
 ⟨(cell_other (.inr (by omega))).trans h.c0,(cell_other (.inr (by omega))).trans h.c1,(cell_other (.inr (by omega))).trans h.c2,(cell_other (.inr (by omega))).trans h.c3,cell_same h.c4,fun o=>by rw [World.frozen?_setCell];exact h.f o⟩
theorem Rd.set2 {w:World} {kp:Nat} {s:ByteArray} {z:Nat × Nat} {pv ov:Value} (h:Rd w kp s z pv ov) (v:Value):Rd (w.setCell ⟨kp,2,none⟩ v) kp s z v ov :=
 ⟨(cell_other (.inr (by omega))).trans h.c0,(cell_other (.inr (by omega))).trans h.c1,cell_same h.c2,(cell_other (.inr (by omega))).trans h.c3,(cell_other (.inr (by omega))).trans h.c4,fun o=>by rw [World.frozen?_setCell];exact h.f o⟩
theorem Rd.set3 {w:World} {kp:Nat} {s:ByteArray} {z:Nat × Nat} {pv ov:Value} (h:Rd w kp s z pv ov) (v:Value):Rd (w.setCell ⟨kp,3,none⟩ v) kp s z pv v :=
 ⟨(cell_other (.inr (by omega))).trans h.c0,(cell_other (.inr (by omega))).trans h.c1,(cell_other (.inr (by omega))).trans h.c2,cell_same h.c3,(cell_other (.inr (by omega))).trans h.c4,fun o=>by rw [World.frozen?_setCell];exact h.f o⟩
structure Zb (s:ByteArray) (z:Nat × Nat):Prop where
 i:In s z
 w:z.2 ≤ 3
 n:s.size ≤ 90000
section
variable (w:World) (kp:Nat) (s:ByteArray) (z:Nat × Nat) (pv ov:Value)
theorem peek_fn (h:Rd w kp s z pv ov) (hz:Zb s z) :
  CR 89 #[.pointer (some ⟨kp,0,none⟩)] w (.int .u8 (pk s z:Int)):=by
 obtain ⟨c0,c1,_,_,c4,_⟩:=h
 have hi:z.1 ≤ s.size:=hz.i
 have hn:=hz.n
 by_cases h2:z.2 = 0
 ·have b1:((z.2:Int) != 0) = false:=by rw [h2];rfl
  by_cases hl:z.1 < s.size
  ·have hE:(pk s z:Int) = (s[z.1].toNat:Int):=by rw [pk_ok h2,bt_in hl]
   have b2:decide ((s.size:Int) ≤ (z.1:Int)) = false:=decide_eq_false (by omega)
   rw [hE]
   clear hE h2
   go_enter func89,ntmps89
   go_wp2_with fail
   go_quiet (fail)
   go_wp2_with fail
   go_quiet (fail)
   go_wp2
   go_ret
   exact ⟨rfl,((Fr.refl _ _).drewN _).drewN _⟩
  ·have hE:(pk s z:Int) = 0:=by rw [pk_ok h2,bt_out hl];rfl
   have b2:decide ((s.size:Int) ≤ (z.1:Int)) = true:=decide_eq_true (by omega)
   rw [hE]
   clear hE h2
   go_enter func89,ntmps89
   go_wp2_with fail
   go_quiet (fail)
   go_wp2
   go_ret
   exact ⟨rfl,(Fr.refl _ _).drewN _⟩
 ·have b1:((z.2:Int) != 0) = true:=bne_iff_ne.2 (by omega)
  have hE:(pk s z:Int) = 0:=by rw [pk_bad h2];rfl
  rw [hE]
  clear hE h2
  go_enter func89,ntmps89
  go_wp2_with fail
  go_quiet (fail)
  go_wp2
  go_ret
  exact ⟨rfl,(Fr.refl _ _).drewN _⟩
end
end
section
theorem Zb.rf {s:ByteArray} {z:Nat × Nat} (h:Zb s z) {e:Nat} (he:e = 2 ∨ e = 3):Zb s (rf e z):=⟨h.i.rf e,(mo_rf he z).w h.w,h.n⟩
theorem Zb.tk {s:ByteArray} {z:Nat × Nat} (h:Zb s z) {c:Nat} (hc:c ≠ 0):Zb s (tk s c z):=⟨h.i.tk hc,(mo_tk s c z).w h.w,h.n⟩
theorem Zb.bx {s:ByteArray} {z:Nat × Nat} (h:Zb s z):Zb s (bx s z):=⟨h.i.bx,(mo_bx s z).w h.w,h.n⟩
theorem Zb.op {s:ByteArray} {z:Nat × Nat} (h:Zb s z):Zb s (op s z):=⟨h.i.op,(mo_op s z).w h.w,h.n⟩
theorem Zb.ix {s:ByteArray} {z:Nat × Nat} (h:Zb s z):Zb s (ix s z):=⟨h.i.ix,(mo_ix s z).w h.w,h.n⟩
theorem Zb.rk {s:ByteArray} {z:Nat × Nat} (h:Zb s z):Zb s (rk s z):=⟨h.i.rk,(mo_rk s z).w h.w,h.n⟩
theorem isNumber_fn (w:World) (c:Nat):CS 90 #[.int .u8 c] w (.bool (smallN c)):=by
 by_cases h1:97 ≤ c
 ·have hd:smallN c = decide ((c:Int) ≤ 122):=by
   have:decide ((c:Int) ≤ 122) = decide (c ≤ 122):=by simp;omega
   rw [this];simp [smallN,h1]
  rw [hd]
  clear hd
  go_enter func90,ntmps90
  go_wp2
  go_ret
  exact ⟨rfl,rfl⟩
 ·have hd:smallN c = false:=by simp [smallN];omega
  rw [hd]
  clear hd
  go_enter func90,ntmps90
  go_wp2
  go_ret
  exact ⟨rfl,rfl⟩
theorem isBox_fn (w:World) (c:Nat):CS 92 #[.int .u8 c] w (.bool (greatN c)):=by
 by_cases h1:65 ≤ c
 ·have hd:greatN c = decide ((c:Int) ≤ 90):=by
   have:decide ((c:Int) ≤ 90) = decide (c ≤ 90):=by simp;omega
   rw [this];simp [greatN,h1]
  rw [hd]
  clear hd
  go_enter func92,ntmps92
  go_wp2
  go_ret
  exact ⟨rfl,rfl⟩
 ·have hd:greatN c = false:=by simp [greatN];omega
  rw [hd]
  clear hd
  go_enter func92,ntmps92
  go_wp2
  go_ret
  exact ⟨rfl,rfl⟩
theorem isDigit_fn (w:World) (c:Nat):CS 134 #[.int .u8 c] w (.bool (digitN c)):=by
 by_cases h1:48 ≤ c
 ·have hd:digitN c = decide ((c:Int) ≤ 57):=by
   have:decide ((c:Int) ≤ 57) = decide (c ≤ 57):=by simp;omega
   rw [this];simp [digitN,h1]
  rw [hd]
  clear hd
  go_enter func134,ntmps134
  go_wp2
  go_ret
  exact ⟨rfl,rfl⟩
 ·have hd:digitN c = false:=by simp [digitN];omega
  rw [hd]
  clear hd
  go_enter func134,ntmps134
  go_wp2
  go_ret
  exact ⟨rfl,rfl⟩
section
variable (w:World) (kp:Nat) (s:ByteArray) (z:Nat × Nat) (pv ov:Value)
theorem refuse_fn (h:Rd w kp s z pv ov) (e:Nat) :
  Calls prog 66 #[.pointer (some ⟨kp,0,none⟩),.int .i64 e] w fun x w'=>x = .returned (.tuple #[]) ∧ Rd w' kp s (rf e z) pv ov ∧ Fr (OneB kp) w w':=by
 have c4:=h.c4
 have f4:=h.f 4
 have HR:Hid (Rd w kp s z pv ov):=h
 clear h
 by_cases h2:z.2 = 0
 ·have b1:((z.2:Int) == 0) = true:=by rw [h2];rfl
  have HE:Hid (rf e z = (z.1,e)):=rf_ok e h2
  clear h2
  go_enter func66,ntmps66
  go_wp2
  go_end0
  exact ⟨rfl,by rw [HE.out];exact HR.out.set4 e,(Fr.refl (OneB kp) _).setCell (p:=⟨kp,4,none⟩) (fun _=>rfl) _⟩
 ·have b1:((z.2:Int) == 0) = false:=bF (by omega)
  have HE:Hid (rf e z = z):=rf_bad e h2
  clear h2
  go_enter func66,ntmps66
  go_wp2
  go_end0
  exact ⟨rfl,by rw [HE.out];exact HR.out,Fr.refl _ _⟩
theorem take_fn (h:Rd w kp s z pv ov) (hz:Zb s z) (c:Nat) (hc:c ≠ 0) :
  Calls prog 117 #[.pointer (some ⟨kp,0,none⟩),.int .u8 c] w fun x w'=>x = .returned (.tuple #[]) ∧ Rd w' kp s (tk s c z) pv ov ∧ Fr (OneB kp) w w':=by
 have HR:Hid (Rd w kp s z pv ov):=h
 have Hz:Hid (Zb s z):=hz
 clear h hz
 by_cases e:pk s z = c
 ·have b1:((pk s z:Int) != (c:Int)) = false:=by rw [e];simp
  obtain ⟨hl,_,_⟩:=pk_in (s:=s) (z:=z) (by rw [e];exact hc)
  have HE:Hid (tk s c z = (z.1 + 1,z.2)):=by show tk s c z = _;unfold tk;rw [if_pos e]
  have hn:=Hz.out.n
  clear e
  go_enter func117,ntmps117
  go_wp2_with (go_at_call 89;refine (peek_fn _ kp s _ pv ov HR.out Hz.out).mono ?_;rintro e w1 ⟨rfl,hF1⟩;have HR1:Hid _:=HR.out.no hF1;have c1:=HR1.out.c1;have f1:=HR1.out.f 1)
  go_end0
  exact ⟨rfl,by rw [HE.out];exact HR1.out.set1 (z.1 + 1),(hF1.of_no (T:=OneB kp)).setCell (p:=⟨kp,1,none⟩) (fun _=>rfl) _⟩
 ·have b1:((pk s z:Int) != (c:Int)) = true:=bne_iff_ne.2 (by omega)
  have HE:Hid (tk s c z = rf 2 z):=by show tk s c z = _;unfold tk;rw [if_neg e]
  clear e
  go_enter func117,ntmps117
  go_wp2_with (first | (go_at_call 89;refine (peek_fn _ kp s _ pv ov HR.out Hz.out).mono ?_;rintro e w1 ⟨rfl,hF1⟩) | (go_at_call 66;refine (refuse_fn _ kp s z pv ov (HR.out.no hF1) 2).mono ?_;rintro x w2 ⟨rfl,hR2,hF2⟩))
  exact bodyPost_ret (v:=.tuple #[]) (by simp [results,results117,go_sem]) rfl ⟨rfl,by rw [HE.out];exact hR2,hF1.of_no.trans hF2⟩
theorem box_fn (h:Rd w kp s z pv ov) (hz:Zb s z) :
  Calls prog 118 #[.pointer (some ⟨kp,0,none⟩)] w fun x w'=>x = .returned (.int .i64 (bxV s z:Int)) ∧ Rd w' kp s (bx s z) pv ov ∧ Fr (OneB kp) w w':=by
 have HR:Hid (Rd w kp s z pv ov):=h
 have Hz:Hid (Zb s z):=hz
 clear h hz
 cases e:greatN (pk s z)
 ·have HE:Hid (bx s z = rf 2 z):=by show bx s z = _;unfold bx;rw [e];rfl
  have HV:Hid (bxV s z = 0):=by show bxV s z = _;unfold bxV;rw [e];rfl
  have HG:Hid _:=fun X=>isBox_fn X (pk s z)
  rw [e] at HG
  clear e
  go_enter func118,ntmps118
  go_wp2_with (first | (go_at_call 89;refine (peek_fn _ kp s _ pv ov HR.out Hz.out).mono ?_;rintro e w1 ⟨rfl,hF1⟩) | (go_at_call 92;refine sameC (HG.out _) ?_) | (go_at_call 66;refine (refuse_fn _ kp s z pv ov (HR.out.no hF1) 2).mono ?_;rintro x w2 ⟨rfl,hR2,hF2⟩))
  go_ret
  exact ⟨by rw [HV.out];rfl,by rw [HE.out];exact hR2,hF1.of_no.trans hF2⟩
 ·have HE:Hid (bx s z = (z.1 + 1,z.2)):=by show bx s z = _;unfold bx;rw [if_pos e]
  have HV:Hid (bxV s z = pk s z - 65):=by show bxV s z = _;unfold bxV;rw [if_pos e]
  have HG:Hid _:=fun X=>isBox_fn X (pk s z)
  rw [e] at HG
  obtain ⟨hl,_,_⟩:=pk_in (great0 e)
  have hn:=Hz.out.n
  obtain ⟨k1,k2⟩:=great_k e
  rw [← HV.out] at k1 k2
  generalize bxV s z = k at *
  have HPk:Hid (∀ X:World,Fr NoB w X → CR 89 #[.pointer (some ⟨kp,0,none⟩)] X (.int .u8 ((k + 65:Nat):Int))):=fun X hX=>by
   have:=peek_fn X kp s z pv ov (HR.out.no hX) Hz.out
   rwa [k2] at this
  rw [k2] at HG
  clear e k2 HV
  go_enter func118,ntmps118
  go_wp2_with (first | (go_at_call 89;refine (HPk.out _ (Fr.refl _ _)).mono ?_;rintro e w1 ⟨rfl,hF1⟩;have HR1:Hid _:=HR.out.no hF1;have c1:=HR1.out.c1;have f1:=HR1.out.f 1) | (go_at_call 92;refine sameC (HG.out _) ?_))
  go_ret
  exact ⟨rfl,by rw [HE.out];exact HR1.out.set1 (z.1 + 1),(hF1.of_no (T:=OneB kp)).setCell (p:=⟨kp,1,none⟩) (fun _=>rfl) _⟩
end
end
end Go.Proofs.YthcjcjfgdgnljabGreatDoor
