import Derived.Test.YthcjcjfgdgnljabGreatDoorGTxtE
import Derived.Lib.AppendStr
set_option linter.unusedVariables false
set_option maxHeartbeats 4000000
set_option maxRecDepth 8000
open Go.Proofs.Tryz
namespace Go.Proofs.YthcjcjfgdgnljabGreatDoor
open Go.RowKit
section
def minusF (f g:Nat → Bool):Nat → Bool:=fun i=>f i && !g i
def oneF (k:Nat):Nat → Bool:=fun i=>decide (i = k)
def getsB (t:Pt):Bool:=decide (t.kind = 4) || (decide (t.kind = 5) && decide (t.box ≠ t.src))
def surN (p:Nat → Pt) (C:Nat → Nat) (A B:Nat → Nat → Bool) (q:Nat):Nat → Bool :=
 if getsB (p q) = true then bothF (A q) (oneF (p q).box)
 else if (p q).kind = 9 then minusF (A q) (B (C q))
 else if (p q).kind = 10 ∨ (p q).kind = 11 ∨ (p q).kind = 12 then minusF (A q) (B q)
 else noF
def endB (f:Nat → Bool):ByteArray:=drsB (minL f noF)
theorem end_minus (f g:Nat → Bool):endB (minusF f g) = drsB (minL f g):=by
 unfold endB minL minusF noF
 simp
theorem end_none:endB noF = ⟨#[]⟩:=by
 unfold endB
 rw [show minL noF noF = [] from by unfold minL noF;simp]
 rfl
theorem filt_none {l:List Nat} {g:Nat → Bool} (h:∀ i,i ∈ l → g i = false):l.filter g = []:=by
 rw [List.filter_eq_nil_iff]
 intro a ha
 rw [h a ha]
 simp
theorem minL_one {f:Nat → Bool} {k:Nat} (hk:k < 26):minL (bothF f (oneF k)) noF = if f k = true then [k] else []:=by
 have hsp:List.range 26 = List.range k ++ [k] ++ (List.range (26 - (k + 1))).map (fun x=>k + 1 + x):=by
  have h1:List.range (k + 1 + (26 - (k + 1))) = List.range (k + 1) ++ (List.range (26 - (k + 1))).map (fun x=>k + 1 + x):=List.range_add
  rw [← List.range_succ,← h1]
  congr 1
  omega
 unfold minL
 rw [hsp,List.filter_append,List.filter_append,filt_none (l:=List.range k) (fun i hi=>by
  have:i < k:=List.mem_range.1 hi
  unfold bothF oneF noF
  simp
  omega),filt_none (l:=(List.range (26 - (k + 1))).map (fun x=>k + 1 + x)) (fun i hi=>by
  obtain ⟨x,_,rfl⟩:=List.mem_map.1 hi
  unfold bothF oneF noF
  simp
  omega)]
 unfold bothF oneF noF
 cases h:f k
 ·simp [h]
 ·simp [h]
theorem end_one {f:Nat → Bool} {k:Nat} (hk:k < 26):endB (bothF f (oneF k)) = if f k = true then drB k else ⟨#[]⟩:=by
 unfold endB
 rw [minL_one hk]
 split
 ·show drB k ++ (⟨#[]⟩:ByteArray) = drB k
  exact ByteArray.append_empty
 ·rfl
theorem sur_simple {p:Nat → Pt} {C:Nat → Nat} {A B:Nat → Nat → Bool} {q:Nat} {s:ByteArray} {i m:Nat} (hS:Simple s i m) (hP:SimPart s i (p q)) (hb:(p q).box < 26):endB (surN p C A B q) = if ownT s i (A q) = true then drB (bt s i - 65) else ⟨#[]⟩:=by
 have ho:=own_text hS (A q)
 rw [← hP.ac] at ho
 have hk:=hP.kd
 unfold surN
 by_cases h4:(p q).kind = 4
 ·rw [if_pos (by unfold getsB;rw [h4];rfl),end_one hb]
  have e:acP (p q) = .make (p q).box (p q).o1:=by unfold acP;rw [h4];rfl
  rw [e] at ho
  have ho2:(if A q (p q).box = true then some (p q).box else none) = (if ownT s i (A q) = true then some (bt s i - 65) else none):=ho
  by_cases h:A q (p q).box = true
  ·rw [if_pos h] at ho2 ⊢
   by_cases h2:ownT s i (A q) = true
   ·rw [if_pos h2] at ho2 ⊢
    injection ho2 with ho2
    rw [ho2]
   ·rw [if_neg h2] at ho2
    cases ho2
  ·rw [if_neg h] at ho2 ⊢
   by_cases h2:ownT s i (A q) = true
   ·rw [if_pos h2] at ho2
    cases ho2
   ·rw [if_neg h2]
 ·by_cases h5:(p q).kind = 5
  ·have e:acP (p q) = .move (p q).box (p q).src:=by unfold acP;rw [h5];rfl
   rw [e] at ho
   have ho2:(if (p q).box ≠ (p q).src ∧ A q (p q).box = true then some (p q).box else none) = (if ownT s i (A q) = true then some (bt s i - 65) else none):=ho
   by_cases hne:(p q).box = (p q).src
   ·rw [if_neg (by unfold getsB;rw [h5];simp [hne]),if_neg (by omega),if_neg (by omega),end_none]
    rw [if_neg (fun q=>q.1 hne)] at ho2
    by_cases h2:ownT s i (A q) = true
    ·rw [if_pos h2] at ho2
     cases ho2
    ·rw [if_neg h2]
   ·rw [if_pos (by unfold getsB;rw [h5];simp [hne]),end_one hb]
    by_cases h:A q (p q).box = true
    ·rw [if_pos ⟨hne,h⟩] at ho2
     rw [if_pos h]
     by_cases h2:ownT s i (A q) = true
     ·rw [if_pos h2] at ho2 ⊢
      injection ho2 with ho2
      rw [ho2]
     ·rw [if_neg h2] at ho2
      cases ho2
    ·rw [if_neg (fun q=>h q.2)] at ho2
     rw [if_neg h]
     by_cases h2:ownT s i (A q) = true
     ·rw [if_pos h2] at ho2
      cases ho2
     ·rw [if_neg h2]
  ·rw [if_neg (by unfold getsB;simp [h4,h5]),if_neg (by omega),if_neg (by omega),end_none]
   have hn:ownA (acP (p q)) (A q) = none:=by
    have h8:=hP.kd
    unfold acP
    by_cases c0:(p q).kind = 0
    ·rw [if_pos c0];split <;> rfl
    ·rw [if_neg c0]
     by_cases c1:(p q).kind = 1
     ·rw [if_pos c1];rfl
     ·rw [if_neg c1]
      by_cases c2:(p q).kind = 2
      ·rw [if_pos c2];rfl
      ·rw [if_neg c2]
       by_cases c3:(p q).kind = 3
       ·rw [if_pos c3];rfl
       ·rw [if_neg c3,if_neg h4,if_neg h5]
        split <;> rfl
   rw [hn] at ho
   by_cases h2:ownT s i (A q) = true
   ·rw [if_pos h2] at ho
    cases ho
   ·rw [if_neg h2]
section
variable {p:Nat → Pt} {C:Nat → Nat} {s:ByteArray} {A B:Nat → Nat → Bool} {n:Nat}
def txN (s:ByteArray) (p:Nat → Pt) (n:Nat) (E:Nat → ByteArray):Nat → Nat × ByteArray
 | 0=>(0,⟨#[]⟩)
 | q + 1=>if (txN s p n E q).1 < n ∧ (p (txN s p n E q).1).place = q then ((txN s p n E q).1 + 1,(txN s p n E q).2 ++ E (txN s p n E q).1 ++ s.extract q (q + 1)) else ((txN s p n E q).1,(txN s p n E q).2 ++ s.extract q (q + 1))
theorem tx_part {E:Nat → ByteArray} {q k:Nat} {t:ByteArray} (h:txN s p n E q = (k,t)) (hk:k < n) (hp:(p k).place = q):txN s p n E (q + 1) = (k + 1,t ++ E k ++ s.extract q (q + 1)):=by
 rw [txN,h,if_pos ⟨hk,hp⟩]
theorem tx_skip {E:Nat → ByteArray} {q k:Nat} {t:ByteArray} (h:txN s p n E q = (k,t)):∀ d,(k < n → q + d ≤ (p k).place) → txN s p n E (q + d) = (k,t ++ s.extract q (q + d))
 | 0,_=>by
  rw [Nat.add_zero,h]
  congr 1
  rw [ByteArray.extract_same]
  exact ByteArray.append_empty.symm
 | d + 1,hp=>by
  have ih:=tx_skip h d (fun q=>by have:=hp q;omega)
  rw [show q + (d + 1) = q + d + 1 by omega,txN,ih,if_neg (fun e=>by have:=hp e.1;have:=e.2;simp only [] at *;omega)]
  show (k,t ++ s.extract q (q + d) ++ s.extract (q + d) (q + d + 1)) = _
  rw [ByteArray.append_assoc,ext_app s (by omega) (by omega)]
theorem SegL.place:∀ {F i j k l:Nat} {f:Nat → Bool},SegL p s A B F i j k l f → (k < l → (p k).place = i) ∧ (k = l → i = j)
 | 0,i,j,k,l,f,h=>⟨fun q=>absurd h.2 (by omega),fun _=>h.1⟩
 | F + 1,i,j,k,l,f,h=>by
  rcases h with ⟨h1,h2⟩ | ⟨m,k',⟨hc,hs⟩,g1,g2,g3,g4,g5,hr⟩
  ·exact ⟨fun q=>by omega,fun _=>h1⟩
  ·refine ⟨fun _=>?_,fun q=>by omega⟩
   rcases hs with ⟨q1,q2,q3⟩ | ⟨a,b,c,ka,kb,q1,q2,q3,q4,q5,q6,_⟩ | ⟨a,b,ka,q1,q3,q4,q5,q6,_⟩
   ·exact q3.pl
   ·exact q6.2.2.1
   ·exact q6.2.2.1
theorem SegL.next {F i j k l:Nat} {f:Nat → Bool} (h:SegL p s A B F i j k l f) (hl:l < n → j ≤ (p l).place) (hi:i ≤ j):k < n → i ≤ (p k).place:=fun hk=>by
 by_cases e:k = l
 ·subst e
  have:=h.place.2 rfl
  have:=hl hk
  omega
 ·have:=h.le
  rw [h.place.1 (by omega)]
  exact Nat.le_refl _
theorem SegL.ij:∀ {F i j k l:Nat} {f:Nat → Bool},SegL p s A B F i j k l f → i ≤ j
 | 0,_,_,_,_,_,h=>Nat.le_of_eq h.1
 | F + 1,i,j,k,l,f,h=>by
  rcases h with h | ⟨m,k',_,g1,g2,_⟩
  ·exact Nat.le_of_eq h.1
  ·omega
theorem text_dev (hC:∀ q,q < n → closes (p q) = true → C (p q).opn = q) (hb:∀ q,q < n → (p q).box < 26):∀ {F i j k l:Nat} {f:Nat → Bool},SegL p s A B F i j k l f → l ≤ n → (l < n → j ≤ (p l).place) →
  ∀ t,txN s p n (fun q=>endB (surN p C A B q)) i = (k,t) → txN s p n (fun q=>endB (surN p C A B q)) j = (l,t ++ lowT s F i j f)
 | 0,i,j,k,l,f,h,hl,hj,t,ht=>by
  obtain ⟨rfl,rfl⟩:=h
  rw [ht,lowT]
  congr 1
  exact ByteArray.append_empty.symm
 | F + 1,i,j,k,l,f,h,hl,hj,t,ht=>by
  have ih:=fun {i j k l:Nat} {f:Nat → Bool} (h:SegL p s A B F i j k l f)=>text_dev hC hb h
  rcases h with ⟨rfl,rfl⟩ | ⟨m,k',⟨hc,hs⟩,g1,g2,g3,g4,g5,hr⟩
  ·rw [ht,lowT,if_neg (Nat.lt_irrefl _)]
   congr 1
   exact ByteArray.append_empty.symm
  ·have hnx:=hr.next hj g2
   rw [lowT,if_pos (by omega),g5]
   rcases hs with ⟨q1,q2,q3⟩ | ⟨a,b,c,ka,kb,q1,q2,q3,q4,q5,q6,q7,q8,q9,q10,q11,q12,q13,q14,q15⟩ | ⟨a,b,ka,q1,q3,q4,q5,q6,q7,q8,q9,q13,q14,q15⟩
   ·subst q2
    have hf:=q1.first
    rw [if_neg hf.1,if_neg hf.2]
    have e1:=tx_part ht (by omega) q3.pl
    have e2:=tx_skip e1 (m - (i + 1)) (fun q=>by have:=hnx q;omega)
    rw [show i + 1 + (m - (i + 1)) = m by omega,ByteArray.append_assoc,ext_app s (by omega) (by omega)] at e2
    have e3:=ih hr hl hj _ e2
    rw [e3]
    congr 1
    show t ++ endB (surN p C A B k) ++ s.extract i m ++ _ = _
    rw [sur_simple q1 q3 (hb k (by omega)),hc]
    simp only [ByteArray.append_assoc]
   ·subst q4 q5
    have l2:=q2.le
    have l3:=q3.le
    have i2:=q2.ij
    have i3:=q3.ij
    rw [if_pos q1.q,q1.p1,q1.p2,q1.p3,show b + 1 - 1 = b by omega,show b + 1 + 1 = b + 2 by omega,show c + 1 - 1 = c by omega]
    have k1:C ka = kb:=by
     have:=hC kb (by omega) (by unfold closes;rw [q9];rfl)
     rwa [q10] at this
    have s0:endB (surN p C A B k) = ⟨#[]⟩:=by
     unfold surN
     rw [if_neg (by unfold getsB;rw [q6.1];simp),if_neg (by omega),if_neg (by omega),end_none]
    have s1:endB (surN p C A B ka) = drsB (minL (alongF s F (a + 1) b f) (afterF (alongF s F) s i f)):=by
     unfold surN
     rw [if_neg (by unfold getsB;rw [q7];simp),if_pos q7,end_minus,q13,k1,q15]
    have s2:endB (surN p C A B kb) = drsB (minL (alongF s F (b + 2) c f) (afterF (alongF s F) s i f)):=by
     unfold surN
     rw [if_neg (by unfold getsB;rw [q9];simp),if_neg (by omega),if_pos (.inl q9),end_minus,q14,q15]
    have hi:=q1.o.lt
    have e1:=tx_part ht (by omega) q6.2.2.1
    have n2:=q2.next (n:=n) (fun _=>by rw [q6.2.2.2.1];exact Nat.le_refl _) i2
    have e2:=tx_skip e1 (a + 1 - (i + 1)) (fun q=>by have:=n2 q;omega)
    rw [show i + 1 + (a + 1 - (i + 1)) = a + 1 by omega,ByteArray.append_assoc,ext_app s (by omega) (by omega)] at e2
    have e3:=ih q2 (by omega) (fun _=>by rw [q6.2.2.2.1];exact Nat.le_refl _) _ e2
    have e4:=tx_part e3 (by omega) q6.2.2.2.1
    have n3:=q3.next (n:=n) (fun _=>by rw [q6.2.2.2.2];exact Nat.le_refl _) i3
    have e5:=tx_skip e4 1 (fun q=>by have:=n3 q;omega)
    rw [show b + 1 + 1 = b + 2 by omega,ByteArray.append_assoc,ext_app s (by omega) (by omega)] at e5
    have e6:=ih q3 (by omega) (fun _=>by rw [q6.2.2.2.2];exact Nat.le_refl _) _ e5
    have e7:=tx_part e6 (by omega) q6.2.2.2.2
    have e8:=ih hr hl hj _ e7
    rw [e8]
    congr 1
    try simp only []
    rw [s0,s1,s2]
    simp only [ByteArray.append_assoc]
    congr 1
   ·subst q4 q5
    have l3:=q3.le
    have i3:=q3.ij
    have hi:=q1.o.lt
    rw [if_neg (by rw [q1.q];decide),if_pos q1.q,q1.p1,q1.p2,show b + 1 - 1 = b by omega,afterF_loop q1]
    rw [afterF_loop q1] at hr
    generalize iterF (alongF s F (a + 1) b) 27 f = H at *
    have s0:endB (surN p C A B k) = drsB (minL f H):=by
     unfold surN
     rw [if_neg (by unfold getsB;rw [q6.1];simp),if_neg (by omega),if_pos (.inr (.inl q6.1)),end_minus,hc,q13]
    have s1:endB (surN p C A B ka) = drsB (minL (alongF s F (a + 1) b H) H):=by
     unfold surN
     rw [if_neg (by unfold getsB;rw [q7];simp),if_neg (by omega),if_pos (.inr (.inr q7)),end_minus,q14,q15]
    have e1:=tx_part ht (by omega) q6.2.2.1
    have n2:=q3.next (n:=n) (fun _=>by rw [q6.2.2.2];exact Nat.le_refl _) i3
    have e2:=tx_skip e1 (a + 1 - (i + 1)) (fun q=>by have:=n2 q;omega)
    rw [show i + 1 + (a + 1 - (i + 1)) = a + 1 by omega,ByteArray.append_assoc,ext_app s (by omega) (by omega)] at e2
    have e3:=ih q3 (by omega) (fun _=>by rw [q6.2.2.2];exact Nat.le_refl _) _ e2
    have e4:=tx_part e3 (by omega) q6.2.2.2
    have e8:=ih hr hl hj _ e4
    rw [e8]
    congr 1
    try simp only []
    rw [s0,s1]
    simp only [ByteArray.append_assoc]
theorem text_dev_top (hC:∀ q,q < n → closes (p q) = true → C (p q).opn = q) (hb:∀ q,q < n → (p q).box < 26) (h:SegL p s A B (s.size + 1) 0 s.size 0 n noF) (he:0 < n → B (n - 1) = alongF s (s.size + 1) 0 s.size noF) :
  (txN s p n (fun q=>endB (surN p C A B q)) s.size).2 ++ endB (if n = 0 then noF else B (n - 1)) = lowTT s:=by
 have h1:=text_dev hC hb h (Nat.le_refl _) (fun q=>absurd q (Nat.lt_irrefl _)) ⟨#[]⟩ rfl
 rw [h1]
 unfold lowTT endB
 congr 1
 by_cases e:n = 0
 ·rw [if_pos e]
  have e2:=h.place.2 e.symm
  have:alongF s (s.size + 1) 0 s.size noF = noF:=by
   rw [← e2,alongF_end]
  rw [this]
 ·rw [if_neg e,he (by omega)]
end
end
theorem partIs3 (s:ByteArray) (hs:s.size ≤ 400):PartIs s:=fun w kp base r pv ov h hz hb hJ hlt=>part_fn w kp base s r pv ov h hz hb hJ hlt
theorem SegL.mid {p:Nat → Pt} {s:ByteArray} {A B:Nat → Nat → Bool} {C:Nat → Nat} {n:Nat} (hC:∀ q,q < n → closes (p q) = true → C (p q).opn = q):∀ {F i j k l:Nat} {f:Nat → Bool},SegL p s A B F i j k l f → l ≤ n → ∀ q,k ≤ q → q < l → (p q).kind = 9 → C q < n
 | 0,i,j,k,l,f,h,hl,q,h1,h2,h3=>absurd h.2 (by omega)
 | F + 1,i,j,k,l,f,h,hl,q,h1,h2,h3=>by
  rcases h with ⟨rfl,rfl⟩ | ⟨m,k',⟨hc,hs⟩,g1,g2,g3,g4,g5,hr⟩
  ·omega
  ·by_cases hq:k' ≤ q
   ·exact SegL.mid hC hr hl q hq h2 h3
   ·rcases hs with ⟨q1,q2,q3⟩ | ⟨a,b,c,ka,kb,q1,q2,q3,q4,q5,q6,q7,q8,q9,q10,q11,q12,_⟩ | ⟨a,b,ka,q1,q3,q4,q5,q6,q7,q8,q9,_⟩
    ·have e:q = k:=by omega
     subst e
     have:=q3.kd
     omega
    ·subst q4 q5
     by_cases e0:q = k
     ·subst e0;rw [q6.1] at h3;omega
     ·by_cases e1:q = ka
      ·subst e1
       have:=hC kb (by omega) (by unfold closes;rw [q9];rfl)
       rw [q10] at this
       omega
      ·by_cases e2:q = kb
       ·subst e2;rw [q9] at h3;omega
       ·by_cases e3:q < ka
        ·exact SegL.mid hC q2 (by omega) q (by omega) e3 h3
        ·exact SegL.mid hC q3 (by omega) q (by omega) (by omega) h3
    ·subst q4 q5
     by_cases e0:q = k
     ·subst e0;rw [q6.1] at h3;omega
     ·by_cases e1:q = ka
      ·subst e1;rw [q7] at h3;omega
      ·exact SegL.mid hC q3 (by omega) q (by omega) (by omega) h3
structure ToldL (s:ByteArray) (p:Nat → Pt) (C:Nat → Nat) (np:Nat):Prop where
 seg:Seg0 p s np
 fl:FlatOk p np
 cq:∀ q,q < np → closes (p q) = true → C (p q).opn = q
 cl:∀ i,C i < 99999
 nl:np < 99999
theorem toldL_of {s:ByteArray} (hs:s.size ≤ 400) (n:Nat) (h2:(rIter s n r0).z.2 = 0) (hl:¬ (rIter s n r0).z.1 < s.size) (hO:(rIter s n r0).O = []):ToldL s (pOf (rIter s n r0).P) (cloL (rIter s n r0).P) (rIter s n r0).P.length:=by
 have h9:s.size ≤ 90000:=by omega
 have hseg:=seg_told h9 n h2 hl hO
 have hJ:=rj_iter h9 n (rj0 s)
 have hU:=ru_iter h9 n ru0 (rj0 s)
 have hn:(rIter s n r0).P.length < 99999:=by have:=hJ.pl;have h5:(rIter s n r0).z.1 ≤ s.size:=hJ.hin;omega
 refine ⟨hseg,hJ.fl,fun q hq hc=>clo_at _ _ rfl q hq hc (fun q' hq' hc' e=>hU.uq q' q hq' hq hc' hc e),fun i=>?_,hn⟩
 have:=clo_le _ (rIter s n r0).P rfl i
 omega
theorem read_okL (w:World) (s:ByteArray) (hc:checkN s = (0,0)) :
  Calls prog 49 #[.string s] w fun e w'=>∃ ao np cap,e = .returned (.tuple #[.slice ao np cap,.int .i64 0,.int .i64 0]) ∧ Hid (Fr NoB w w' ∧ ∃ p C,ToldL s p C np ∧ PartRow w' ao np p C ∧ ∀ g,ao = some ⟨g,0,none⟩ → g < w'.heap.size):=by
 have hc1:s.size ≤ 400 ∧ (run s [(83,true)] 0 0).1 = 0:=by
  unfold checkN at hc
  by_cases h4:400 < s.size
  ·rw [if_pos h4] at hc
   exact absurd (congrArg Prod.fst hc) (by decide)
  ·rw [if_neg h4] at hc
   by_cases q:(run s [(83,true)] 0 0).1 ≠ 0
   ·rw [if_pos q] at hc
    exact absurd (congrArg Prod.fst hc) q
   ·exact ⟨by omega,by omega⟩
 obtain ⟨h4,h00⟩:=hc1
 refine (read_fn w s (by omega) (partIs3 s h4)).mono ?_
 rintro e w1 ⟨n,hst,hF1,hor⟩
 have hrun:=run_told (by omega) n hst
 rcases hor with ⟨hne,rfl⟩ | ⟨ht,hz,hO,ao,cap,rfl,hrow,hgl⟩
 ·rw [hrun] at h00
  exact absurd h00 hne
 ·have hl:¬ (rIter s n r0).z.1 < s.size:=by
   rcases hst with q | q
   ·exact absurd hz q
   ·exact q
  exact ⟨ao,_,cap,rfl,⟨hF1,_,_,toldL_of h4 n hz hl hO,hrow,hgl⟩⟩
section
open Go.RowKit Go.Lib
theorem str_app (x y:ByteArray):strCells (x ++ y) = strCells x ++ strCells y:=by
 unfold strCells
 simp
theorem str_len (x:ByteArray):(strCells x).length = x.size:=by
 unfold strCells
 rw [List.length_map,Array.length_toList]
 rfl
theorem str_one (s:ByteArray) {q:Nat} (hq:q < s.size):strCells (s.extract q (q + 1)) = [Value.int .u8 (bt s q:Int)]:=by
 have h1:(s.extract q (q + 1)).size = 1:=by rw [ByteArray.size_extract];omega
 have h2:=str_len (s.extract q (q + 1))
 rw [h1] at h2
 obtain ⟨v,hv⟩:=List.length_eq_one_iff.1 h2
 have h3:(strCells (s.extract q (q + 1)))[0]? = some (Value.int .u8 (bt s q:Int)):=by
  unfold strCells
  rw [List.getElem?_map]
  have h4:(s.extract q (q + 1)).data.toList[0]? = some s[q]:=by
   have h5:(s.extract q (q + 1))[0] = s[q]:=by
    rw [ByteArray.getElem_extract]
    simp
   rw [← h5]
   simp [ByteArray.getElem_eq_getElem_data]
  rw [h4,bt_in hq]
  rfl
 rw [hv] at h3 ⊢
 simpa using h3
theorem str_drop {k:Nat} (hk:k < 26):strCells (drB k) = [Value.int .u8 126,Value.int .u8 ((65:Int) + k),Value.int .u8 59]:=by
 unfold strCells drB
 simp
 omega
def WS (base:Nat):Nat → Prop:=fun k=>base ≤ k
structure WT (w:World) (wp base:Nat) (tv:Value) (T:ByteArray):Prop where
 ct:w.cell? ⟨wp,0,none⟩ = some tv
 fz:∀ o,w.frozen? ⟨wp,o,none⟩ = false
 own:w.ownsRow base 5 1 tv T.size (strCells T)
 mb:base ≤ wp
 lt:wp < w.heap.size
 nm:∀ g,tv.ownBlock = some g → g ≠ wp
theorem owns_block {w:World} {base n:Nat} {tv:Value} {e:TypeId} {sz:Nat} {xs:List Value} (h:w.ownsRow base e sz tv n xs) {g:Nat} (hg:tv.ownBlock = some g):base ≤ g ∧ g < w.heap.size:=by
 rcases h.2 with ⟨rfl,_⟩ | ⟨g1,c1,cur,rfl,hb,hh,_⟩
 ·cases hg
 ·have:g1 = g:=by simpa [Value.ownBlock] using hg
  subst this
  exact ⟨hb,(Array.getElem?_eq_some_iff.1 hh).1⟩
theorem WT.no {w w':World} {wp base:Nat} {tv:Value} {T:ByteArray} (h:WT w wp base tv T) (hf:Fr NoB w w'):WT w' wp base tv T :=
 ⟨hf.cell_some h.ct id,fun o=>(hf.frozen (p:=⟨wp,o,none⟩) h.lt id).trans (h.fz o),hf.owns h.own (fun _ _=>id),h.mb,Nat.lt_of_lt_of_le h.lt hf.size,h.nm⟩
theorem WT.app {w w':World} {wp base:Nat} {tv tv':Value} {T X:ByteArray} {m:Nat} (h:WT w wp base tv T) (hk:AppKind w w' tv tv' T.size m) (ho:w'.ownsRow base 5 1 tv' (T.size + m) (strCells T ++ strCells X)) (hm:X.size = m) :
  WT (w'.setCell ⟨wp,0,none⟩ tv') wp base tv' (T ++ X) ∧ Fr (WS base) w (w'.setCell ⟨wp,0,none⟩ tv'):=by
 have hF:=hk.fr
 have hm1:¬ tv.ownBlock = some wp:=fun e=>h.nm _ e rfl
 have hpl:∀ g,tv'.ownBlock = some g → g ≠ wp:=fun g hg=>by
  obtain ⟨g0,cap,hv,hp⟩:=hk.place
  rw [hv] at hg
  have:g0 = g:=by simpa [Value.ownBlock] using hg
  subst this
  rcases hp with rfl | hp
  ·have:=h.lt
   omega
  ·exact h.nm _ hp
 have hF2:Fr (OneB wp) w' (w'.setCell ⟨wp,0,none⟩ tv'):=(Fr.refl (OneB wp) w').setCell (p:=⟨wp,0,none⟩) (fun _=>rfl) _
 have hl2:wp < w'.heap.size:=Nat.lt_of_lt_of_le h.lt hF.size
 refine ⟨⟨cell_same (hF.cell_some h.ct hm1),fun o=>?_,?_,h.mb,Nat.lt_of_lt_of_le hl2 hF2.size,hpl⟩,?_⟩
 ·rw [World.frozen?_setCell]
  exact (hF.frozen (p:=⟨wp,o,none⟩) h.lt hm1).trans (h.fz o)
 ·have:=hF2.owns ho (fun g hg e=>hpl g hg (by unfold OneB at e;exact e))
  rw [str_app,ByteArray.size_append,hm]
  exact this
 ·refine (hF.mono (fun k _ e=>?_)).trans (hF2.mono (fun k _ e=>?_))
  ·exact (owns_block h.own e).1
  ·unfold OneB at e
   unfold WS
   rw [e]
   exact h.mb
theorem Tryz.infoU8b:(prog.info? 5).map (fun i=>(i.zero,i.size,i.bytes)) = some (some (.int .u8 0),1,1):=by kernel_rfl
theorem conv_wt {w:World} {base:Nat} {tv:Value} {T:ByteArray} (h:w.ownsRow base 5 1 tv T.size (strCells T)):(convert 128 9 tv).run prog w = .ok (.string T) w:=by
 rcases h.2 with ⟨rfl,h0⟩ | ⟨g,cap,cur,rfl,hg,_⟩
 ·have e:T = ⟨#[]⟩:=by
   apply ByteArray.ext
   exact Array.eq_empty_of_size_eq_zero h0
  subst e
  rw [run_convert_bytes_string w _ _ 5 none 0 0 underlying128 underlying5 underlying9]
  simp [Conv.bytesToString]
  rfl
 ·have hc:=h.cells (g:=g) rfl
  have:=run_convert_bytes_back (P:=prog) w 128 9 5 ⟨g,0,none⟩ cap T.data.toList underlying128 underlying5 underlying9 (fun j hj=>by
   exact hc j _ (by unfold strCells;rw [List.getElem?_map,List.getElem?_eq_getElem hj];rfl))
  rw [Array.length_toList,Array.toArray_toList] at this
  exact this
theorem wends_fn (w:World) (wp base:Nat) (tv:Value) (T:ByteArray) (f:Nat → Bool) (h:WT w wp base tv T) (hT:T.size ≤ 90000) :
  Calls prog 85 #[.pointer (some ⟨wp,0,none⟩),.int .u32 (msk f:Int)] w fun e w'=>e = .returned (.tuple #[]) ∧ (∃ tv',WT w' wp base tv' (T ++ endB f)) ∧ Fr (WS base) w w':=by
 obtain ⟨i0,hi0,hz0,hz1,hz2⟩:=info_parts Tryz.infoU8b
 have HW:Hid _:=h
 clear h
 have HE:Hid (endB f = drsB (minT f noF 26)):=rfl
 generalize endB f = Z at *
 go_enter func85,ntmps85
 go_wp2
 go_loopg [4] 26 (fun q t wr=>∃ (i:Nat) (tv':Value),q + i = 26 ∧ t = .int .i64 i ∧ WT wr wp base tv' (T ++ drsB (minT f noF i)) ∧ Fr (WS base) w wr)
 case atStart=>exact ⟨0,tv,rfl,rfl,by rw [show T ++ drsB (minT f noF 0) = T from ByteArray.append_empty];exact HW.out,Fr.refl _ _⟩
 case round =>
  obtain ⟨i,tv',hi,rfl,hW,hF⟩:=hrel
  have HF:Hid _:=hF
  have HW2:Hid _:=hW
  have hsz:=drsT_size f noF i
  clear hW hF HW
  by_cases hlt:i < 26
  ·have HH:Hid _:=fun X=>has_fn X f i hlt
   have HY:Hid ((f i && !noF i) = true → drsB (minT f noF (i + 1)) = drsB (minT f noF i) ++ drB i):=fun h=>by rw [minT_yes h,drsB_snoc]
   have HN:Hid ((f i && !noF i) = false → drsB (minT f noF (i + 1)) = drsB (minT f noF i)):=fun h=>by rw [minT_no h]
   cases hfi:f i
   ·rw [hfi] at HH HN
    go_wp2_with (go_at_call 69;refine sameC (HH.out _) ?_)
    go_roundg (25 - i)
    case measure=>omega
    case rel=>exact ⟨i + 1,tv',by omega,by go_num,by rw [HN.out rfl];exact HW2.out,HF.out⟩
   ·rw [hfi] at HH HY
    have Hd:Hid _:=str_drop hlt
    have ct:=HW2.out.ct
    have fz:=HW2.out.fz 0
    have hl:=HW2.out.lt
    have hmb:=HW2.out.mb
    have hown:=HW2.out.own
    generalize hD:T ++ drsB (minT f noF i) = D at *
    have hDs:D.size ≤ 90078:=by rw [← hD,ByteArray.size_append];omega
    have HD:Hid _:=hD
    clear hD hfi
    go_wp2_with (first | (go_at_call 69;refine sameC (HH.out _) ?_) | (at_builtin;refine wpList_append_kind _ rfl _ _ 128 rfl base 5 i0 (.int .u8 0) 1 1 underlying128 hi0 hz0 hz1 hz2 rfl (by decide) _ _ _ rfl (hown.alloc _) ⟨wr.heap.size,0,none⟩ 3 3 [.int .u8 126,.int .u8 ((65:Int) + i),.int .u8 59] (by decide) rfl rfl ?c1 ?c2 ?c3 ?c4 ?c5 ?_))
    case c1 =>
     intro j u hj
     match j,hj with
     | 0,hj=>simp at hj;subst hj;simp [Addr.add]
     | 1,hj=>simp at hj;subst hj;simp [Addr.add]
     | 2,hj=>simp at hj;subst hj;simp [Addr.add]
    case c2=>intro u hu;simp at hu;rcases hu with rfl | rfl | rfl <;> rfl
    case c3=>unfold maxLen;omega
    case c4=>omega
    case c5=>simp;omega
    intro v5 w5 hown5 hk5
    have hfa:Fr NoB wr (wr.alloc (Obj.cells #[.int .u8 126,.int .u8 ((65:Int) + i),.int .u8 59] 5)):=(Fr.refl _ _).alloc _
    have hWa:=HW2.out.no hfa
    obtain ⟨hW6,hF6⟩:=hWa.app (X:=drB i) hk5 (by rw [Hd.out];exact hown5) rfl
    have hfr:=hk5.fr
    have cw5:=hfr.cell_some hWa.ct (fun e=>hWa.nm _ e rfl)
    have fw5:=(hfr.frozen (p:=⟨wp,0,none⟩) hWa.lt (fun e=>hWa.nm _ e rfl)).trans (hWa.fz 0)
    have H6:Hid _:=And.intro hW6 ((HF.out.trans (hfa.mono (fun k _ e=>e.elim))).trans hF6)
    obtain ⟨g5,c5,hve,_⟩:=hk5.place
    clear hown5 hk5 hfr hW6 hF6 hWa
    subst hve
    go_wp2
    go_roundg (25 - i)
    case measure=>omega
    case rel=>exact ⟨i + 1,_,by omega,by go_num,by rw [HY.out rfl,← ByteArray.append_assoc,HD.out];exact H6.out.1,H6.out.2⟩
  ·have hie:i = 26:=by omega
   subst hie
   go_wp2
   go_end0
   exact ⟨rfl,⟨tv',by rw [HE.out];exact HW2.out⟩,HF.out⟩
end
section
open Go.RowKit Go.Lib
theorem mk_minus (f g:Nat → Bool):msk f &&& (2 ^ 32 - 1 - msk g) = msk (minusF f g):=by
 apply Nat.eq_of_testBit_eq
 intro i
 have hlt:msk g < 2 ^ 32:=by have:=mk_lt g;omega
 rw [Nat.testBit_and,mk_bit,mk_bit,show 2 ^ 32 - 1 - msk g = 2 ^ 32 - (msk g + 1) by omega,Nat.testBit_two_pow_sub_succ hlt,mk_bit]
 unfold minusF
 by_cases q:i < 26
 ·have:i < 32:=by omega
  simp [q,this]
 ·simp [q]
theorem bits_minus (f g:Nat → Bool):bits BinOp.andNot IntKind.u32 (msk f:Int) (msk g:Int) = (msk (minusF f g):Int):=by
 have h1:∀ f:Nat → Bool,(BitVec.ofInt 32 (msk f:Int)).toNat = msk f:=fun f=>by
  rw [BitVec.ofInt_natCast,BitVec.toNat_ofNat];exact Nat.mod_eq_of_lt (by have:=mk_lt f;omega)
 show IntKind.u32.wrap ((BitVec.ofInt 32 (msk f:Int) &&& ~~~ BitVec.ofInt 32 (msk g:Int)).toNat:Int) = _
 rw [BitVec.toNat_and,BitVec.toNat_not,h1,h1,mk_minus,IntKind.wrap_u32]
 have:=mk_lt (minusF f g)
 omega
theorem retM {x y:Nat → Bool} (h:x = y):Ending.returned (.int .u32 (msk y:Int)) = .returned (.int .u32 (msk x:Int)):=by rw [h]
theorem msk_one {k:Nat} (hk:k < 26):msk (oneF k) = 1 <<< k:=Nat.eq_of_testBit_eq fun i=>by
 rw [mk_bit,one_bit]
 unfold oneF
 by_cases e:i = k
 ·subst e;simp [hk]
 ·simp [e]
theorem pgets_fn (w:World) (kind place num box src x1 sign x2 opn clo:Nat) (b1 b2:Bool) (o1 o2:Od) :
  CR 116 #[.agg #[.int .i64 kind,.int .i64 place,.int .i64 num,.int .i64 box,.int .i64 src,.bool b1,.int .i64 x1,.int .u8 sign,.bool b2,.int .i64 x2,.int .i64 opn,.int .i64 clo]] w (.bool (getsB ⟨kind,place,num,box,src,o1,sign,o2,opn⟩)):=by
 have hG:getsB ⟨kind,place,num,box,src,o1,sign,o2,opn⟩ = (decide (kind = 4) || (decide (kind = 5) && decide (box ≠ src))):=rfl
 rw [hG]
 clear hG
 by_cases h4:kind = 4
 ·subst h4
  go_enter func116,ntmps116
  go_wp2
  go_ret
  exact ⟨by simp,by repeat (first | exact Fr.refl _ _ | refine Fr.drewN ?_ _ | refine Fr.drew ?_ | refine Fr.alloc ?_ _)⟩
 ·have c4:((kind:Int) == 4) = false:=bF (by omega)
  by_cases h5:kind = 5
  ·subst h5
   by_cases hne:box = src
   ·subst hne
    have cn:((box:Int) != (box:Int)) = false:=by simp
    go_enter func116,ntmps116
    go_wp2
    go_ret
    exact ⟨by simp,by repeat (first | exact Fr.refl _ _ | refine Fr.drewN ?_ _ | refine Fr.drew ?_ | refine Fr.alloc ?_ _)⟩
   ·have cn:((box:Int) != (src:Int)) = true:=bne_iff_ne.2 (by omega)
    have HN:Hid (box ≠ src):=hne
    clear hne
    go_enter func116,ntmps116
    go_wp2
    go_ret
    exact ⟨by simp [HN.out],by repeat (first | exact Fr.refl _ _ | refine Fr.drewN ?_ _ | refine Fr.drew ?_ | refine Fr.alloc ?_ _)⟩
  ·have c5:((kind:Int) == 5) = false:=bF (by omega)
   have HN:Hid (¬ kind = 4 ∧ ¬ kind = 5):=⟨h4,h5⟩
   clear h4 h5
   go_enter func116,ntmps116
   go_wp2
   go_ret
   exact ⟨by simp [HN.out.1,HN.out.2],by repeat (first | exact Fr.refl _ _ | refine Fr.drewN ?_ _ | refine Fr.drew ?_ | refine Fr.alloc ?_ _)⟩
theorem surplus_fn (w:World) (ao:Option Addr) (ga n pc ac i:Nat) (p:Nat → Pt) (C:Nat → Nat) (A B:Nat → Nat → Bool) (hn:n ≤ 100000) (hlt:i < n) (hok:PtOk (p i)) (hmid:(p i).kind = 9 → C i < n) (hP:PartRow w ao n p C) (hA:Arnd w ga n A B) :
  CR 86 #[.slice ao n pc,.slice (some ⟨ga,0,none⟩) n ac,.int .i64 i] w (.int .u32 (msk (surN p C A B i):Int)):=by
 obtain ⟨g,rfl⟩:=hP.some_ (by omega)
 have d0:w.cell? ⟨g,i * 12,none⟩ = _:=hP.c g i 0 _ hlt rfl rfl
 have d1:=hP.c g i 1 _ hlt rfl rfl
 have d2:=hP.c g i 2 _ hlt rfl rfl
 have d3:=hP.c g i 3 _ hlt rfl rfl
 have d4:=hP.c g i 4 _ hlt rfl rfl
 have d5:=hP.c g i 5 _ hlt rfl rfl
 have d6:=hP.c g i 6 _ hlt rfl rfl
 have d7:=hP.c g i 7 _ hlt rfl rfl
 have d8:=hP.c g i 8 _ hlt rfl rfl
 have d9:=hP.c g i 9 _ hlt rfl rfl
 have d10:=hP.c g i 10 _ hlt rfl rfl
 have d11:=hP.c g i 11 _ hlt rfl rfl
 have hgl3:g < w.heap.size:=World.block_lt_of_cell? _ _ d0
 have e1:=hA.a i hlt
 have HA:Hid (Arnd w ga n A B):=hA
 have hbx:(p i).box < 26:=hok.b
 have hsur:surN p C A B i = if getsB (p i) = true then bothF (A i) (oneF (p i).box) else if (p i).kind = 9 then minusF (A i) (B (C i)) else if (p i).kind = 10 ∨ (p i).kind = 11 ∨ (p i).kind = 12 then minusF (A i) (B i) else noF:=rfl
 have Hsur:Hid _:=hsur
 clear hsur hP hA hok
 generalize surN p C A B i = S at *
 generalize hpi:p i = t at *
 clear hpi
 obtain ⟨kind,place,num,box,src,o1,sign,o2,opn⟩:=t
 simp only [] at d0 d1 d2 d3 d4 d5 d6 d7 d8 d9 d10 d11 hmid hbx
 generalize C i = clo at *
 generalize hb1:odB o1 = b1 at *
 generalize hx1:odI o1 = x1 at *
 generalize hb2:odB o2 = b2 at *
 generalize hx2:odI o2 = x2 at *
 clear hb1 hx1 hb2 hx2
 have HG:Hid _:=fun X=>pgets_fn X kind place num box src x1 sign x2 opn clo b1 b2 o1 o2
 have HO:Hid _:=fun X=>only_in X box hbx
 have HM:Hid _:=msk_one hbx
 go_enter func86,ntmps86
 go_upto_region 2 with fail
 obtain ⟨K0,HPA⟩:=box_new w kind place num box src b1 x1 sign b2 x2 opn clo
 obtain ⟨k0,k1,k2,k3,k4,k5,k6,k7,k8,k9,k10,k11⟩:=HPA.out
 clear HPA
 have m1:=K0.cell_some e1 id
 have HAk:Hid _:=fun (hl:ga < w.heap.size)=>HA.out.no K0 hl
 have hgl:ga < w.heap.size:=World.block_lt_of_cell? _ _ e1
 have HA1:Hid _:=HAk.out hgl
 generalize (w.alloc _) = W1 at *
 generalize hpb:w.heap.size = pb at *
 have HK0:Hid (Fr NoB w W1):=K0
 clear K0 d0 d1 d2 d3 d4 d5 d6 d7 d8 d9 d10 d11 e1 HA hpb HAk
 cases hg:getsB ⟨kind,place,num,box,src,o1,sign,o2,opn⟩
 ·rw [hg] at HG Hsur
  clear hg HO HM
  by_cases h9:kind = 9
  ·subst h9
   have hcl:clo < n:=hmid rfl
   have HE:Hid (S = minusF (A i) (B clo)):=by show S = _;rw [Hsur.out];rfl
   have hbits:=bits_minus (A i) (B clo)
   have c2:=HA1.out.b clo hcl
   clear Hsur hmid
   go_wp2_with (go_at_call 116;refine (HG.out _).mono ?_;rintro e w2 ⟨rfl,hF2⟩;have k0':=hF2.cell_some k0 id;have k11':=hF2.cell_some k11 id;have c2':=hF2.cell_some c2 id)
   go_ret
   exact ⟨retM HE.out,HK0.out.trans hF2⟩
  ·have b9:((kind:Int) == 9) = false:=bF (by omega)
   have c2:=HA1.out.b i hlt
   have hbits:=bits_minus (A i) (B i)
   by_cases h10:kind = 10
   ·have HE:Hid (S = minusF (A i) (B i)):=by show S = _;rw [Hsur.out,if_neg (by simp),if_neg h9,if_pos (.inl h10)]
    have b10:((kind:Int) == 10) = true:=beq_iff_eq.2 (by omega)
    clear Hsur hmid h9 h10
    go_wp2_with (go_at_call 116;refine (HG.out _).mono ?_;rintro e w2 ⟨rfl,hF2⟩;have k0':=hF2.cell_some k0 id;have c2':=hF2.cell_some c2 id)
    go_ret
    exact ⟨retM HE.out,HK0.out.trans hF2⟩
   ·have b10:((kind:Int) == 10) = false:=bF (by omega)
    by_cases h11:kind = 11
    ·have HE:Hid (S = minusF (A i) (B i)):=by show S = _;rw [Hsur.out,if_neg (by simp),if_neg h9,if_pos (.inr (.inl h11))]
     have b11:((kind:Int) == 11) = true:=beq_iff_eq.2 (by omega)
     clear Hsur hmid h9 h10 h11
     go_wp2_with (go_at_call 116;refine (HG.out _).mono ?_;rintro e w2 ⟨rfl,hF2⟩;have k0':=hF2.cell_some k0 id;have c2':=hF2.cell_some c2 id)
     go_ret
     exact ⟨retM HE.out,HK0.out.trans hF2⟩
    ·have b11:((kind:Int) == 11) = false:=bF (by omega)
     by_cases h12:kind = 12
     ·have HE:Hid (S = minusF (A i) (B i)):=by show S = _;rw [Hsur.out,if_neg (by simp),if_neg h9,if_pos (.inr (.inr h12))]
      have b12:((kind:Int) == 12) = true:=beq_iff_eq.2 (by omega)
      clear Hsur hmid h9 h10 h11 h12
      go_wp2_with (go_at_call 116;refine (HG.out _).mono ?_;rintro e w2 ⟨rfl,hF2⟩;have k0':=hF2.cell_some k0 id;have c2':=hF2.cell_some c2 id)
      go_ret
      exact ⟨retM HE.out,HK0.out.trans hF2⟩
     ·have b12:((kind:Int) == 12) = false:=bF (by omega)
      have HE:Hid (S = noF):=by show S = _;rw [Hsur.out,if_neg (by simp),if_neg h9,if_neg (by simp only [];omega)]
      have HZ:Hid (msk noF = 0):=msk_none
      clear Hsur hmid h9 h10 h11 h12 hbits
      go_wp2_with (go_at_call 116;refine (HG.out _).mono ?_;rintro e w2 ⟨rfl,hF2⟩;have k0':=hF2.cell_some k0 id)
      go_ret
      exact ⟨by rw [HE.out,HZ.out];rfl,HK0.out.trans hF2⟩
 ·rw [hg] at HG Hsur
  have HE:Hid (S = bothF (A i) (oneF box)):=by show S = _;rw [Hsur.out];rfl
  have hbits:=bits_and (A i) (oneF box)
  rw [HM.out] at hbits
  generalize ((1 <<< box:Nat):Int) = Q at *
  clear Hsur hmid hg HM
  go_wp2_with (first | (go_at_call 116;refine (HG.out _).mono ?_;rintro e w2 ⟨rfl,hF2⟩;have k3':=hF2.cell_some k3 id) | (go_at_call 99;refine sameC (HO.out _) ?_))
  go_ret
  exact ⟨retM HE.out,HK0.out.trans hF2⟩
theorem atEnd_fn (w:World) (ga n ac:Nat) (A B:Nat → Nat → Bool) (hn:n ≤ 100000) (hA:Arnd w ga n A B) :
  CR 87 #[.slice (some ⟨ga,0,none⟩) n ac] w (.int .u32 (msk (if n = 0 then noF else B (n - 1)):Int)):=by
 by_cases h0:n = 0
 ·subst h0
  have HZ:Hid (msk noF = 0):=msk_none
  rw [if_pos rfl,HZ.out]
  go_enter func87,ntmps87
  go_wp2
  go_ret
  exact ⟨rfl,Fr.refl _ _⟩
 ·rw [if_neg h0]
  have c1:=hA.b (n - 1) (by omega)
  obtain ⟨m,rfl⟩:∃ m,n = m + 1:=⟨n - 1,by omega⟩
  rw [Nat.add_sub_cancel] at c1 ⊢
  clear hA h0
  generalize msk (B m) = K at *
  go_enter func87,ntmps87
  go_wp2
  go_ret
  exact ⟨rfl,Fr.refl _ _⟩
end
end Go.Proofs.YthcjcjfgdgnljabGreatDoor
