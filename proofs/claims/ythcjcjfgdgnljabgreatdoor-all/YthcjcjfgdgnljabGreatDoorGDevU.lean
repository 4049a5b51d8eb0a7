import Derived.Test.YthcjcjfgdgnljabGreatDoorGDevT
set_option linter.unusedVariables false
set_option maxHeartbeats 4000000
set_option maxRecDepth 8000
open Go.Proofs.Tryz
namespace Go.Proofs.YthcjcjfgdgnljabGreatDoor
open Go.RowKit
section
section
variable {s:ByteArray} {i j:Nat}
theorem tk_hit {c:Nat} (h:bt s i = c):tk s c (i,0) = (i + 1,0):=by unfold tk;rw [pk_ok rfl,if_pos h]
theorem bx_hit (h:greatN (bt s i) = true):bx s (i,0) = (i + 1,0):=by unfold bx;rw [pk_ok rfl,if_pos h]
theorem bxV_hit (h:greatN (bt s i) = true):bxV s (i,0) = bt s i - 65:=by unfold bxV;rw [pk_ok rfl,if_pos h]
theorem dg_run:∀ (m n i:Nat),(∀ k,i ≤ k → k < i + m → digitN (bt s k) = true) → m ≤ n → (m = n ∨ digitN (bt s (i + m)) = false) → dg s n (i,0) = (i + m,0)
 | 0,n,i,_,_,h=>by
  cases n with
  | zero=>rfl
  | succ n =>
   rw [dg_step,pk_ok rfl]
   have:digitN (bt s i) = false:=by
    rcases h with h | h
    ·omega
    ·exact h
   rw [this]
   rfl
 | m + 1,n,i,hd,hn,h=>by
  obtain ⟨n,rfl⟩:∃ n',n = n' + 1:=⟨n - 1,by omega⟩
  rw [dg_step,pk_ok rfl,if_pos (hd i (Nat.le_refl _) (by omega))]
  have:=dg_run m n (i + 1) (fun k a b=>hd k (by omega) (by omega)) (by omega) (by
   rcases h with h | h
   ·exact .inl (by omega)
   ·exact .inr (by rw [show i + 1 + m = i + (m + 1) by omega];exact h))
  rw [show i + (m + 1) = i + 1 + m by omega]
  exact this
theorem op_hit (h:Opnd s i j) (hd:digitN (bt s j) = false):op s (i,0) = (j,0):=by
 unfold op
 rw [pk_ok rfl]
 rcases h with ⟨h,rfl⟩ | ⟨h1,h2,h3⟩
 ·rw [if_pos h]
 ·have h4:=h3 i (Nat.le_refl _) h1
  rw [if_neg (by rw [show smallN (bt s ((i,0):Nat × Nat).1) = false from (digit_in h4).2.2.2.1];simp),if_pos h4]
  have:=dg_run (s:=s) (j - i) 3 i (fun k a b=>h3 k a (by omega)) (by omega) (.inr (by rw [show i + (j - i) = j by omega];exact hd))
  rwa [show i + (j - i) = j by omega] at this
theorem dgV_run:∀ (m n i k:Nat),(∀ q,i + k ≤ q → q < i + k + m → digitN (bt s q) = true) → m ≤ n → (m = n ∨ digitN (bt s (i + k + m)) = false) → dgV s n (i + k,0) (decN s i k) = decN s i (k + m)
 | 0,n,i,k,_,_,h=>by
  cases n with
  | zero=>rfl
  | succ n =>
   show (if digitN (pk s (i + k,0)) = true then _ else decN s i k) = _
   rw [pk_ok rfl]
   have:digitN (bt s (i + k)) = false:=by
    rcases h with h | h
    ·omega
    ·exact h
   simp only [this]
   rfl
 | m + 1,n,i,k,hd,hn,h=>by
  obtain ⟨n,rfl⟩:∃ n',n = n' + 1:=⟨n - 1,by omega⟩
  show (if digitN (pk s (i + k,0)) = true then dgV s n (i + k + 1,0) (decN s i k * 10 + (pk s (i + k,0) - 48)) else decN s i k) = _
  rw [show pk s (i + k,0) = bt s (i + k) from pk_ok rfl,if_pos (hd (i + k) (Nat.le_refl _) (by omega))]
  have e:decN s i k * 10 + (bt s (i + k) - 48) = decN s i (k + 1):=by
   show _ = 10 * decN s i k + (bt s (i + k) - 48)
   omega
  rw [e,show i + k + 1 = i + (k + 1) by omega,show k + (m + 1) = k + 1 + m by omega]
  exact dgV_run m n i (k + 1) (fun q a b=>hd q (by omega) (by omega)) (by omega) (by
   rcases h with h | h
   ·exact .inl (by omega)
   ·exact .inr (by rw [show i + (k + 1) + m = i + k + (m + 1) by omega];exact h))
theorem opV_hit (h:Opnd s i j) (hj:j < s.size) (hd:digitN (bt s j) = false):opV s (i,0) = odN s i:=by
 unfold opV odN
 rw [bopN_eq h hj hd,show pk s (i,0) = bt s i from pk_ok rfl]
 rcases h with ⟨h,rfl⟩ | ⟨h1,h2,h3⟩
 ·rw [if_pos h,if_pos h]
 ·have h4:=h3 i (Nat.le_refl _) h1
  have h5:¬ smallN (bt s i) = true:=by rw [(digit_in h4).2.2.2.1];simp
  rw [if_neg h5,if_neg h5,if_pos h4]
  have:=dgV_run (s:=s) (j - i) 3 i 0 (fun q a b=>h3 q (by omega) (by omega)) (by omega) (.inr (by rw [show i + 0 + (j - i) = j by omega];exact hd))
  rw [Nat.add_zero,Nat.zero_add] at this
  rw [show dgV s 3 (i,0) 0 = decN s i (j - i) from this]
theorem ixV_hit {a k:Nat} (h1:bt s a = 91) (h2:Opnd s (a + 1) k) (h3:bt s k = 93):ixV s (a,0) = odN s (a + 1):=by
 unfold ixV
 rw [tk_hit h1,opV_hit h2 (byte_in h3 (by decide)) (nodigit h3 (.inr (.inr rfl)))]
theorem ix_hit {a k:Nat} (h1:bt s a = 91) (h2:Opnd s (a + 1) k) (h3:bt s k = 93):ix s (a,0) = (k + 1,0):=by
 unfold ix
 rw [tk_hit h1,op_hit h2 (nodigit h3 (.inr (.inr rfl))),tk_hit h3]
theorem digit_op {c:Nat} (h:isOp c):digitN c = false:=by
 unfold isOp at h
 rcases h with rfl | rfl | rfl | rfl | rfl <;> rfl
end
theorem move_self (k:Nat) (f:Nat → Bool):moveF k k f = f:=by
 funext i
 unfold moveF
 cases h:f k
 ·by_cases e:i = k
  ·subst e;simp [updB,h]
  ·simp [updB,e]
 ·by_cases e:i = k
  ·subst e;simp [updB,h]
  ·simp [updB,e]
theorem move_ne {k l:Nat} (h:k ≠ l) (f:Nat → Bool):moveF k l f = updB (updB f k (f l)) l false:=by
 funext i
 unfold moveF
 cases hl:f l
 ·simp [updB]
  by_cases e1:i = k
  ·simp [e1,h]
  ·by_cases e2:i = l
   ·simp [e2]
   ·simp [e1,e2]
 ·simp [updB]
  by_cases e1:i = k
  ·simp [e1,h]
  ·by_cases e2:i = l
   ·simp [e2,Ne.symm h]
   ·simp [e1,e2]
theorem SegQ.reP {p p':Nat → Pt} {s:ByteArray} {cl cs:Nat → (Nat → Bool) → Prop}:∀ {F i j k l:Nat} {f:Nat → Bool},SegQ p s cl cs F i j k l f → (∀ q,k ≤ q → q < l → p' q = p q) → SegQ p' s cl cs F i j k l f
 | 0,_,_,_,_,_,h,_=>h
 | F + 1,i,j,k,l,f,h,e=>by
  rcases h with h | ⟨m,k',⟨hc,hs⟩,g1,g2,g3,g4,g5,hr⟩
  ·exact .inl h
  ·refine .inr ⟨m,k',⟨hc,?_⟩,g1,g2,g3,g4,g5,hr.reP (fun q a b=>e q (by omega) b)⟩
   rcases hs with ⟨q1,q2,q3⟩ | ⟨a,b,c,ka,kb,q1,q2,q3,q4,q5,q6,q7,q8,q9,q10,q11,q12⟩ | ⟨a,b,ka,q1,q2,q3,q4,q5,q6,q7,q8,q9⟩
   ·exact .inl ⟨q1,q2,by rw [e k (by omega) (by omega)];exact q3⟩
   ·have:=q3.le
    refine .inr (.inl ⟨a,b,c,ka,kb,q1,q2.reP (fun q a b=>e q (by omega) (by omega)),q3.reP (fun q a b=>e q (by omega) (by omega)),q4,q5,?_,?_,?_,?_,?_,q11,q12⟩)
    ·rw [e k (by omega) (by omega),e ka (by omega) (by omega),e kb (by omega) (by omega)];exact q6
    ·rw [e ka (by omega) (by omega)];exact q7
    ·rw [e ka (by omega) (by omega)];exact q8
    ·rw [e kb (by omega) (by omega)];exact q9
    ·rw [e kb (by omega) (by omega)];exact q10
   ·refine .inr (.inr ⟨a,b,ka,q1,q2,q3.reP (fun q a b=>e q (by omega) (by omega)),q4,q5,?_,?_,?_,q9⟩)
    ·rw [e k (by omega) (by omega),e ka (by omega) (by omega)];exact q6
    ·rw [e ka (by omega) (by omega)];exact q7
    ·rw [e ka (by omega) (by omega)];exact q8
theorem rStep_in {s:ByteArray} {i:Nat} {P:List Pt} {O:List Nat} (hl:i < s.size):rStep s ⟨(i,0),P,O⟩ = rPart s ⟨(i,0),P,O⟩:=by
 unfold rStep
 rw [if_pos ⟨rfl,hl⟩]
theorem read_simple {s:ByteArray} {i m:Nat} (h:Simple s i m) (P:List Pt) (O:List Nat):∃ t,rStep s ⟨(i,0),P,O⟩ = ⟨(m,0),P ++ [t],O⟩ ∧ SimPart s i t:=by
 have hl:=h.line
 rw [rStep_in (by omega)]
 unfold rPart
 simp only []
 rw [pk_ok rfl]
 simp only []
 have sm0:smallN (bt s i) = true → bt s i ≠ 126 ∧ greatN (bt s i) = false:=fun h=>⟨fun e=>by rw [e] at h;simp [smallN] at h,(small_in h).2.2.2.2⟩
 have gr0:greatN (bt s i) = true → bt s i ≠ 126 ∧ smallN (bt s i) = false:=fun h=>⟨fun e=>by rw [e] at h;simp [greatN] at h,(great_in h).2.2.2.2⟩
 rcases h with h | h | h | h | h | h | h | h | h
 ·obtain ⟨hm,e1,e2,hg,e4,rfl⟩:=h
  obtain ⟨n126,ng⟩:=sm0 hm
  rw [if_pos hm]
  unfold rNumber
  simp only []
  rw [show pk s (i,0) = bt s i from pk_ok rfl]
  rw [tk_hit (i:=i + 1) e1,pk_ok rfl,if_pos e2,tk_hit (i:=i + 1 + 1) e2,bxV_hit (i:=i + 1 + 1 + 1) hg,bx_hit (i:=i + 1 + 1 + 1) hg,tk_hit (i:=i + 1 + 1 + 1 + 1) e4]
  refine ⟨_,rfl,⟨rfl,by show 3 < 8;omega,fun f _=>?_,?_,.inr ⟨rfl,?_,?_⟩⟩⟩
  ·rw [simF_other n126 (.inl ng)];rfl
  ·rw [acN_size ⟨hm,e1,e2,hg,e4,rfl⟩];rfl
  ·unfold useN
   rw [if_neg n126,if_neg (by simp [ng]),if_neg (by simp [ng]),if_pos ⟨hm,e2⟩]
   rfl
  ·rfl
 ·obtain ⟨hm,e1,hg,e3,k,ho,e5,e6,rfl⟩:=h
  obtain ⟨n126,ng⟩:=sm0 hm
  have h35:bt s (i + 2) ≠ 35:=fun e=>by rw [e] at hg;simp [greatN] at hg
  rw [if_pos hm]
  unfold rNumber
  simp only []
  rw [show pk s (i,0) = bt s i from pk_ok rfl]
  rw [tk_hit (i:=i + 1) e1,pk_ok rfl,if_neg h35,if_pos hg,bxV_hit (i:=i + 1 + 1) hg,bx_hit (i:=i + 1 + 1) hg,ix_hit (a:=i + 1 + 1 + 1) e3 ho e5,ixV_hit (a:=i + 1 + 1 + 1) e3 ho e5,tk_hit (i:=k + 1) e6]
  refine ⟨_,rfl,⟨rfl,by show 2 < 8;omega,fun f _=>?_,?_,.inr ⟨rfl,?_,?_⟩⟩⟩
  ·rw [simF_other n126 (.inl ng)];rfl
  ·rw [acN_load ⟨hm,e1,hg,e3,k,ho,e5,e6,rfl⟩];rfl
  ·unfold useN
   rw [if_neg n126,if_neg (by simp [ng]),if_neg (by simp [ng]),if_neg (fun q=>h35 q.2),if_pos ⟨hm,hg⟩]
   rfl
  ·rfl
 ·obtain ⟨hm,e1,k,ho,e5,rfl⟩:=h
  obtain ⟨n126,ng⟩:=sm0 hm
  obtain ⟨hg2,h35,hi2⟩:=ho.head
  rw [if_pos hm]
  unfold rNumber
  simp only []
  rw [show pk s (i,0) = bt s i from pk_ok rfl]
  have hop:op s (i + 1 + 1,0) = (k,0):=op_hit ho (nodigit e5 (.inr (.inl rfl)))
  have hrk:rk s (i + 1 + 1,0) = (k,0):=by
   unfold rk
   rw [hop,pk_ok rfl,if_neg (by show ¬ isOp (bt s k);rw [e5];unfold isOp;omega)]
  have hrS:rkS s (i + 1 + 1,0) = 0:=by
   unfold rkS
   rw [hop,pk_ok rfl,if_neg (by show ¬ isOp (bt s k);rw [e5];unfold isOp;omega)]
  have hoV:opV s (i + 1 + 1,0) = odN s (i + 2):=opV_hit ho (byte_in e5 (by decide)) (nodigit e5 (.inr (.inl rfl)))
  rw [tk_hit (i:=i + 1) e1,pk_ok rfl,if_neg h35,if_neg (by show ¬ greatN (bt s (i + 1 + 1)) = true;rw [hg2];simp),hrk,hrS,hoV,tk_hit (i:=k) e5]
  refine ⟨_,rfl,⟨rfl,by show 0 < 8;omega,fun f _=>?_,?_,.inl ⟨rfl,?_⟩⟩⟩
  ·rw [simF_other n126 (.inl ng)];rfl
  ·rw [acN_set hm ho e5];rfl
  ·unfold useN
   rw [if_neg n126,if_neg (by simp [ng]),if_neg (by simp [ng]),if_neg (fun q=>h35 q.2),if_neg (by simp [hg2])]
 ·obtain ⟨hm,e1,k,l,ho,hop2,ho2,e5,rfl⟩:=h
  obtain ⟨n126,ng⟩:=sm0 hm
  obtain ⟨hg2,h35,hi2⟩:=ho.head
  rw [if_pos hm]
  unfold rNumber
  simp only []
  rw [show pk s (i,0) = bt s i from pk_ok rfl]
  have hop:op s (i + 1 + 1,0) = (k,0):=op_hit ho (digit_op hop2)
  have hrk:rk s (i + 1 + 1,0) = (l,0):=by
   unfold rk
   rw [hop,pk_ok rfl,if_pos hop2,tk_hit (i:=k) rfl,op_hit ho2 (nodigit e5 (.inr (.inl rfl)))]
  have hrS:rkS s (i + 1 + 1,0) = bt s k:=by
   unfold rkS
   rw [hop,pk_ok rfl,if_pos hop2]
  have hrV:rkV s (i + 1 + 1,0) = odN s (k + 1):=by
   unfold rkV
   rw [hop,pk_ok rfl,if_pos hop2,tk_hit (i:=k) rfl,opV_hit ho2 (byte_in e5 (by decide)) (nodigit e5 (.inr (.inl rfl)))]
  have hks:k < s.size:=byte_in rfl (by unfold isOp at hop2;omega)
  have hoV:opV s (i + 1 + 1,0) = odN s (i + 2):=opV_hit ho hks (digit_op hop2)
  rw [tk_hit (i:=i + 1) e1,pk_ok rfl,if_neg h35,if_neg (by show ¬ greatN (bt s (i + 1 + 1)) = true;rw [hg2];simp),hrk,hrS,hrV,hoV,tk_hit (i:=l) e5]
  refine ⟨_,rfl,⟨rfl,by show 0 < 8;omega,fun f _=>?_,?_,.inl ⟨rfl,?_⟩⟩⟩
  ·rw [simF_other n126 (.inl ng)];rfl
  ·rw [acN_bin hm ho hop2 hks]
   show (if bt s k = 0 then Ac.set _ _ else _) = _
   rw [if_neg (by unfold isOp at hop2;omega)]
  ·unfold useN
   rw [if_neg n126,if_neg (by simp [ng]),if_neg (by simp [ng]),if_neg (fun q=>h35 q.2),if_neg (by simp [hg2])]
 ·obtain ⟨hg,e1,k,l,ho,e2,e3,ho2,e5,rfl⟩:=h
  obtain ⟨n126,nm⟩:=gr0 hg
  rw [if_neg (by rw [nm];simp),if_pos hg]
  unfold rBox
  simp only []
  rw [bx_hit hg,bxV_hit hg,pk_ok rfl,if_pos e1,ix_hit (a:=i + 1) e1 ho e2,ixV_hit (a:=i + 1) e1 ho e2,tk_hit (i:=k + 1) e3,op_hit ho2 (nodigit e5 (.inr (.inl rfl))),opV_hit ho2 (byte_in e5 (by decide)) (nodigit e5 (.inr (.inl rfl))),tk_hit (i:=l) e5]
  refine ⟨_,rfl,⟨rfl,by show 6 < 8;omega,fun f _=>?_,?_,.inr ⟨rfl,?_,?_⟩⟩⟩
  ·rw [simF_other n126 (.inr (by rw [e1];decide))];rfl
  ·rw [acN_store hg e1 ho e2];rfl
  ·unfold useN
   rw [if_neg n126,if_pos ⟨hg,e1⟩]
   rfl
  ·rfl
 ·obtain ⟨hg,e1,e2,k,ho,e3,e5,rfl⟩:=h
  obtain ⟨n126,nm⟩:=gr0 hg
  have hg2:greatN (bt s (i + 2)) = false:=by rw [e2];rfl
  rw [if_neg (by rw [nm];simp),if_pos hg]
  unfold rBox
  simp only []
  rw [bx_hit hg,bxV_hit hg,pk_ok rfl,if_neg (by show bt s (i + 1) ≠ 91;rw [e1];decide),tk_hit (i:=i + 1) e1,pk_ok rfl,if_pos e2,ix_hit (a:=i + 1 + 1) e2 ho e3,ixV_hit (a:=i + 1 + 1) e2 ho e3,tk_hit (i:=k + 1) e5]
  refine ⟨_,rfl,⟨rfl,by show 4 < 8;omega,fun f _=>?_,?_,.inl ⟨rfl,?_⟩⟩⟩
  ·unfold simF
   rw [if_neg n126,if_pos ⟨hg,e1,e2⟩]
   rfl
  ·rw [acN_make ⟨hg,e1,e2,k,ho,e3,e5,rfl⟩];rfl
  ·unfold useN
   rw [if_neg n126,if_neg (fun q=>by rw [e1] at q;exact absurd q.2 (by decide)),if_neg (by simp [hg2]),if_neg (by simp [nm]),if_neg (by simp [nm])]
 ·obtain ⟨hg,e1,hg2,e5,rfl⟩:=h
  obtain ⟨n126,nm⟩:=gr0 hg
  have h91:bt s (i + 2) ≠ 91:=fun e=>by rw [e] at hg2;simp [greatN] at hg2
  rw [if_neg (by rw [nm];simp),if_pos hg]
  unfold rBox
  simp only []
  rw [bx_hit hg,bxV_hit hg,pk_ok rfl,if_neg (by show bt s (i + 1) ≠ 91;rw [e1];decide),tk_hit (i:=i + 1) e1,pk_ok rfl,if_neg h91,bx_hit (i:=i + 1 + 1) hg2,bxV_hit (i:=i + 1 + 1) hg2,tk_hit (i:=i + 1 + 1 + 1) e5]
  refine ⟨_,rfl,⟨rfl,by show 5 < 8;omega,fun f _=>?_,?_,.inr ⟨rfl,?_,?_⟩⟩⟩
  ·show moveF (bt s i - 65) (bt s (i + 2) - 65) f = _
   unfold simF
   rw [if_neg n126,if_neg (fun q=>h91 q.2.2)]
   by_cases e:bt s (i + 2) = bt s i
   ·rw [if_neg (fun q=>q.2.2 e),e,move_self]
   ·rw [if_pos ⟨hg,e1,e⟩,move_ne]
    simp [greatN] at hg hg2
    omega
  ·rw [acN_move ⟨hg,e1,hg2,e5,rfl⟩];rfl
  ·unfold useN
   rw [if_neg n126,if_neg (fun q=>by rw [e1] at q;exact absurd q.2 (by decide)),if_pos ⟨hg,hg2⟩]
   rfl
  ·rfl
 ·obtain ⟨e0,k,ho,e5,rfl⟩:=h
  have nm:smallN (bt s i) = false:=by rw [e0];rfl
  have ng:greatN (bt s i) = false:=by rw [e0];rfl
  rw [if_neg (by rw [nm];simp),if_neg (by rw [ng];simp),if_neg (by omega),if_pos e0]
  unfold rPrint
  simp only []
  rw [tk_hit e0,op_hit ho (nodigit e5 (.inr (.inl rfl))),opV_hit ho (byte_in e5 (by decide)) (nodigit e5 (.inr (.inl rfl))),tk_hit (i:=k) e5]
  refine ⟨_,rfl,⟨rfl,by show 1 < 8;omega,fun f _=>?_,?_,.inl ⟨rfl,?_⟩⟩⟩
  ·rw [simF_other (by omega) (.inl ng)];rfl
  ·rw [acN_print e0];rfl
  ·unfold useN
   rw [if_neg (by omega),if_neg (by simp [ng]),if_neg (by simp [ng]),if_neg (by simp [nm]),if_neg (by simp [nm])]
 ·obtain ⟨e0,hg,e5,rfl⟩:=h
  have nm:smallN (bt s i) = false:=by rw [e0];rfl
  have ng:greatN (bt s i) = false:=by rw [e0];rfl
  rw [if_neg (by rw [nm];simp),if_neg (by rw [ng];simp),if_pos e0]
  unfold rEnd
  simp only []
  rw [tk_hit e0,bx_hit (i:=i + 1) hg,bxV_hit (i:=i + 1) hg,tk_hit (i:=i + 1 + 1) e5]
  refine ⟨_,rfl,⟨rfl,by show 7 < 8;omega,fun f _=>?_,?_,.inr ⟨rfl,?_,?_⟩⟩⟩
  ·unfold simF
   rw [if_pos e0]
   rfl
  ·rw [acN_drop e0];rfl
  ·unfold useN
   rw [if_pos e0]
   rfl
  ·rfl
theorem rStep_bad {s:ByteArray} {r:Rs} (h:r.z.2 ≠ 0):rStep s r = r:=by unfold rStep;rw [if_neg (fun q=>h q.1)]
theorem rStep_end {s:ByteArray} {r:Rs} (h:¬ r.z.1 < s.size):rStep s r = r:=by unfold rStep;rw [if_neg (fun q=>h q.2)]
theorem rIter_still {s:ByteArray} {r:Rs} (h:rStep s r = r):∀ n,rIter s n r = r
 | 0=>rfl
 | n + 1=>by show rIter s n (rStep s r) = r;rw [h];exact rIter_still h n
theorem rIter_add (s:ByteArray):∀ (m n:Nat) (r:Rs),rIter s (m + n) r = rIter s n (rIter s m r)
 | 0,n,r=>by rw [Nat.zero_add];rfl
 | m + 1,n,r=>by
  rw [show m + 1 + n = (m + n) + 1 by omega]
  exact rIter_add s m n (rStep s r)
theorem rIter_bad {s:ByteArray} {m n:Nat} {r:Rs} (h:(rIter s m r).z.2 ≠ 0):(rIter s (m + n) r).z.2 ≠ 0:=by
 rw [rIter_add,rIter_still (rStep_bad h)]
 exact h
def ACond:Nat → (Nat → Bool) → Prop:=AboveC (fun _=>allF)
def Reads (s:ByteArray) (F i j:Nat):Prop:=∀ (P:List Pt) (O:List Nat),∃ n,(rIter s n ⟨(i,0),P,O⟩).z.2 ≠ 0 ∨
 ∃ X,rIter s n ⟨(i,0),P,O⟩ = ⟨(j,0),P ++ X,O⟩ ∧ ∀ f,Clean f → SegQ (pOf (P ++ X)) s ACond TrueC F i j P.length (P.length + X.length) f
theorem read_close {s:ByteArray} {b la:Nat} {P:List Pt} {O:List Nat} (hb:bt s b = 125):rStep s ⟨(b,0),P,O ++ [la]⟩ =
  if (pOf P la).kind = 8 then ⟨tk s 123 (b + 1,0),P ++ [⟨9,b,0,0,0,.v 0,0,.v 0,la⟩],O ++ [P.length]⟩
  else if (pOf P la).kind = 9 then ⟨(b + 1,0),P ++ [⟨10,b,0,0,0,.v 0,0,.v 0,la⟩],O⟩
  else ⟨(b + 1,0),P ++ [⟨12,b,0,0,0,.v 0,0,.v 0,la⟩],O⟩:=by
 have hl:=byte_in hb (by decide)
 rw [rStep_in hl]
 unfold rPart
 simp only []
 rw [pk_ok rfl]
 simp only []
 rw [hb,if_neg (by decide),if_neg (by decide),if_neg (by decide),if_neg (by decide),if_neg (by decide),if_neg (by decide),if_pos rfl]
 unfold rClose
 simp only []
 have h1:(O ++ [la]).getLast?.getD 0 = la:=by simp
 have h2:(O ++ [la]).dropLast = O:=by simp
 rw [if_neg (by simp),h1,h2,tk_hit hb]
theorem read_open {s:ByteArray} {i a c k:Nat} (hc:(c = 63 ∧ k = 8) ∨ (c = 64 ∧ k = 11)) (hi:bt s i = c) (ho:Opnd s (i + 1) a) (ha:bt s a = 123) (P:List Pt) (O:List Nat) :
  (rStep s ⟨(i,0),P,O⟩).z.2 ≠ 0 ∨ rStep s ⟨(i,0),P,O⟩ = ⟨(a + 1,0),P ++ [⟨k,i,0,0,0,odN s (i + 1),0,.v 0,0⟩],O ++ [P.length]⟩:=by
 have hl:i < s.size:=byte_in hi (by omega)
 have hop:op s (i + 1,0) = (a,0):=op_hit ho (nodigit ha (.inl rfl))
 have hov:opV s (i + 1,0) = odN s (i + 1):=opV_hit ho (byte_in ha (by decide)) (nodigit ha (.inl rfl))
 have key:rStep s ⟨(i,0),P,O⟩ = rOpen s c k ⟨(i,0),P,O⟩:=by
  rw [rStep_in hl]
  unfold rPart
  simp only []
  rw [pk_ok rfl]
  simp only []
  rw [hi]
  rcases hc with ⟨rfl,rfl⟩ | ⟨rfl,rfl⟩
  ·rw [if_neg (by decide),if_neg (by decide),if_neg (by decide),if_neg (by decide),if_pos rfl]
  ·rw [if_neg (by decide),if_neg (by decide),if_neg (by decide),if_neg (by decide),if_neg (by decide),if_pos rfl]
 rw [key]
 unfold rOpen
 simp only []
 rw [tk_hit hi,hop,hov,show pk s (a,0) = bt s a from pk_ok rfl]
 by_cases h8:8 ≤ O.length
 ·left
  rw [if_pos ⟨ha,h8⟩,rf_ok 3 rfl,tk_bad (by decide) (by simp)]
  simp
 ·right
  rw [if_neg (fun q=>h8 q.2),tk_hit ha]
theorem read_all {s:ByteArray}:∀ (F i j:Nat),Prog s F i j → Reads s F i j
 | 0,i,j,h,P,O=>by
  have e:i = j:=h
  subst e
  exact ⟨0,.inr ⟨[],by simp [rIter],fun f _=>⟨rfl,by simp⟩⟩⟩
 | F + 1,i,j,h,P,O=>by
  rcases h with h | ⟨m,hst,hr⟩
  ·subst h
   exact ⟨0,.inr ⟨[],by simp [rIter],fun f _=>.inl ⟨rfl,by simp⟩⟩⟩
  ·have hmj:=hr.le
   have hlt:=hst.lt
   have hbeh:=beh_of hst
   have first:∃ n,(rIter s n ⟨(i,0),P,O⟩).z.2 ≠ 0 ∨ ∃ X,0 < X.length ∧ rIter s n ⟨(i,0),P,O⟩ = ⟨(m,0),P ++ X,O⟩ ∧
     ∀ f,Clean f → ∀ Y,SQ (pOf (P ++ X ++ Y)) s ACond TrueC F (SegQ (pOf (P ++ X ++ Y)) s ACond TrueC F) i m P.length (P.length + X.length) f:=by
    rcases hst with h | ⟨e,a,b,c,ho,ha,hp,hb,hb1,hq,hc,rfl⟩ | ⟨e,a,b,ho,ha,hp,hb,rfl⟩
    ·obtain ⟨t,h1,h2⟩:=read_simple h P O
     refine ⟨1,.inr ⟨[t],by simp,h1,fun f hf Y=>⟨trivial,.inl ⟨h,by simp,?_⟩⟩⟩⟩
     rw [pOf_app _ (by simp),pOf_new]
     exact h2
    ·have hI:=ifAt_of e ho ha hp hb hb1 hq hc
     rcases read_open (.inl ⟨rfl,rfl⟩) e ho ha P O with hbad | h0
     ·exact ⟨1,.inl hbad⟩
     ·obtain ⟨n1,h1⟩:=read_all F _ _ hp (P ++ [(⟨8,i,0,0,0,odN s (i + 1),0,.v 0,0⟩:Pt)]) (O ++ [P.length])
      rcases h1 with h1 | ⟨X1,h1,s1⟩
      ·exact ⟨1 + n1,.inl (by rw [rIter_add];show (rIter s n1 (rStep s ⟨(i,0),P,O⟩)).z.2 ≠ 0;rw [h0];exact h1)⟩
      ·have hcl:=read_close (s:=s) (b:=b) (la:=P.length) (P:=P ++ [(⟨8,i,0,0,0,odN s (i + 1),0,.v 0,0⟩:Pt)] ++ X1) (O:=O) hb
       rw [pOf_app _ (by simp),pOf_new,if_pos rfl,tk_hit hb1] at hcl
       obtain ⟨n2,h2⟩:=read_all F _ _ hq (P ++ [(⟨8,i,0,0,0,odN s (i + 1),0,.v 0,0⟩:Pt)] ++ X1 ++ [(⟨9,b,0,0,0,.v 0,0,.v 0,P.length⟩:Pt)]) (O ++ [(P ++ [(⟨8,i,0,0,0,odN s (i + 1),0,.v 0,0⟩:Pt)] ++ X1).length])
       have st1:rIter s (1 + (n1 + 1)) ⟨(i,0),P,O⟩ = ⟨(b + 2,0),P ++ [(⟨8,i,0,0,0,odN s (i + 1),0,.v 0,0⟩:Pt)] ++ X1 ++ [(⟨9,b,0,0,0,.v 0,0,.v 0,P.length⟩:Pt)],O ++ [(P ++ [(⟨8,i,0,0,0,odN s (i + 1),0,.v 0,0⟩:Pt)] ++ X1).length]⟩:=by
        rw [rIter_add]
        show rIter s (n1 + 1) (rStep s ⟨(i,0),P,O⟩) = _
        rw [h0,rIter_add,h1]
        exact hcl
       rcases h2 with h2 | ⟨X2,h2,s2⟩
       ·exact ⟨1 + (n1 + 1) + n2,.inl (by rw [rIter_add,st1];exact h2)⟩
       ·have hcl2:=read_close (s:=s) (b:=c) (la:=(P ++ [(⟨8,i,0,0,0,odN s (i + 1),0,.v 0,0⟩:Pt)] ++ X1).length) (P:=P ++ [(⟨8,i,0,0,0,odN s (i + 1),0,.v 0,0⟩:Pt)] ++ X1 ++ [(⟨9,b,0,0,0,.v 0,0,.v 0,P.length⟩:Pt)] ++ X2) (O:=O) hc
        rw [pOf_app _ (by simp),pOf_new,if_neg (by simp),if_pos rfl] at hcl2
        have eqX:∀ t2:Pt,P ++ [(⟨8,i,0,0,0,odN s (i + 1),0,.v 0,0⟩:Pt)] ++ X1 ++ [(⟨9,b,0,0,0,.v 0,0,.v 0,P.length⟩:Pt)] ++ X2 ++ [t2] = P ++ ([(⟨8,i,0,0,0,odN s (i + 1),0,.v 0,0⟩:Pt)] ++ X1 ++ [(⟨9,b,0,0,0,.v 0,0,.v 0,P.length⟩:Pt)] ++ X2 ++ [t2]):=fun t2=>by simp
        refine ⟨1 + (n1 + 1) + (n2 + 1),.inr ⟨[(⟨8,i,0,0,0,odN s (i + 1),0,.v 0,0⟩:Pt)] ++ X1 ++ [(⟨9,b,0,0,0,.v 0,0,.v 0,P.length⟩:Pt)] ++ X2 ++ [(⟨10,c,0,0,0,.v 0,0,.v 0,(P ++ [(⟨8,i,0,0,0,odN s (i + 1),0,.v 0,0⟩:Pt)] ++ X1).length⟩:Pt)],by simp,?_,fun f hf Y=>?_⟩⟩
        ·rw [rIter_add,st1,rIter_add,h2,← eqX]
         exact hcl2
        ·rw [← eqX]
         have hla:(P ++ [(⟨8,i,0,0,0,odN s (i + 1),0,.v 0,0⟩:Pt)] ++ X1).length = P.length + 1 + X1.length:=by simp <;> omega
         generalize hlx:(P ++ [(⟨8,i,0,0,0,odN s (i + 1),0,.v 0,0⟩:Pt)] ++ X1).length = lx at hla ⊢
         have p1:∀ q,P.length + 1 ≤ q → q < P.length + 1 + X1.length → pOf (P ++ [(⟨8,i,0,0,0,odN s (i + 1),0,.v 0,0⟩:Pt)] ++ X1 ++ [(⟨9,b,0,0,0,.v 0,0,.v 0,P.length⟩:Pt)] ++ X2 ++ [(⟨10,c,0,0,0,.v 0,0,.v 0,lx⟩:Pt)] ++ Y) q = pOf (P ++ [(⟨8,i,0,0,0,odN s (i + 1),0,.v 0,0⟩:Pt)] ++ X1) q:=fun q a b=>by
          rw [pOf_app _ (by simp <;> omega),pOf_app _ (by simp <;> omega),pOf_app _ (by simp <;> omega),pOf_app _ (by simp <;> omega)]
         have p2:∀ q,q < P.length + 1 + X1.length + 1 + X2.length → pOf (P ++ [(⟨8,i,0,0,0,odN s (i + 1),0,.v 0,0⟩:Pt)] ++ X1 ++ [(⟨9,b,0,0,0,.v 0,0,.v 0,P.length⟩:Pt)] ++ X2 ++ [(⟨10,c,0,0,0,.v 0,0,.v 0,lx⟩:Pt)] ++ Y) q = pOf (P ++ [(⟨8,i,0,0,0,odN s (i + 1),0,.v 0,0⟩:Pt)] ++ X1 ++ [(⟨9,b,0,0,0,.v 0,0,.v 0,P.length⟩:Pt)] ++ X2) q:=fun q b=>by
          rw [pOf_app _ (by simp <;> omega),pOf_app _ (by simp <;> omega)]
         have q0:pOf (P ++ [(⟨8,i,0,0,0,odN s (i + 1),0,.v 0,0⟩:Pt)] ++ X1 ++ [(⟨9,b,0,0,0,.v 0,0,.v 0,P.length⟩:Pt)] ++ X2) P.length = (⟨8,i,0,0,0,odN s (i + 1),0,.v 0,0⟩:Pt):=by
          rw [pOf_app _ (by simp <;> omega),pOf_app _ (by simp <;> omega),pOf_app _ (by simp),pOf_new]
         have q1:pOf (P ++ [(⟨8,i,0,0,0,odN s (i + 1),0,.v 0,0⟩:Pt)] ++ X1 ++ [(⟨9,b,0,0,0,.v 0,0,.v 0,P.length⟩:Pt)] ++ X2) (P.length + 1 + X1.length) = (⟨9,b,0,0,0,.v 0,0,.v 0,P.length⟩:Pt):=by
          rw [← hla,← hlx,pOf_app _ (by simp),pOf_new]
         have hlb:(P ++ [(⟨8,i,0,0,0,odN s (i + 1),0,.v 0,0⟩:Pt)] ++ X1 ++ [(⟨9,b,0,0,0,.v 0,0,.v 0,P.length⟩:Pt)] ++ X2).length = P.length + 1 + X1.length + 1 + X2.length:=by simp <;> omega
         have q2:pOf (P ++ [(⟨8,i,0,0,0,odN s (i + 1),0,.v 0,0⟩:Pt)] ++ X1 ++ [(⟨9,b,0,0,0,.v 0,0,.v 0,P.length⟩:Pt)] ++ X2 ++ [(⟨10,c,0,0,0,.v 0,0,.v 0,lx⟩:Pt)] ++ Y) (P.length + 1 + X1.length + 1 + X2.length) = (⟨10,c,0,0,0,.v 0,0,.v 0,P.length + 1 + X1.length⟩:Pt):=by
          rw [← hlb,pOf_app _ (by simp),pOf_new,hla]
         have t1:=(s1 f hf).reP (p':=pOf (P ++ [(⟨8,i,0,0,0,odN s (i + 1),0,.v 0,0⟩:Pt)] ++ X1 ++ [(⟨9,b,0,0,0,.v 0,0,.v 0,P.length⟩:Pt)] ++ X2 ++ [(⟨10,c,0,0,0,.v 0,0,.v 0,lx⟩:Pt)] ++ Y)) (fun q a b=>p1 q (by simp at a;omega) (by simp at b;omega))
         have t2:=(s2 f hf).reP (p':=pOf (P ++ [(⟨8,i,0,0,0,odN s (i + 1),0,.v 0,0⟩:Pt)] ++ X1 ++ [(⟨9,b,0,0,0,.v 0,0,.v 0,P.length⟩:Pt)] ++ X2 ++ [(⟨10,c,0,0,0,.v 0,0,.v 0,lx⟩:Pt)] ++ Y)) (fun q a b=>p2 q (by simp at b;omega))
         simp only [List.length_append,List.length_singleton] at t1 t2
         refine ⟨trivial,.inr (.inl ⟨a,b,c,P.length + 1 + X1.length,P.length + 1 + X1.length + 1 + X2.length,hI,t1,t2,rfl,by simp <;> omega,?_,?_,?_,?_,?_,by omega,by omega⟩)⟩
         ·rw [q2,p2 _ (by omega),p2 _ (by omega),q0,q1];exact ⟨rfl,rfl,rfl,rfl,rfl⟩
         ·rw [p2 _ (by omega),q1]
         ·rw [p2 _ (by omega),q1]
         ·rw [q2]
         ·rw [q2]
    ·have hL:=loopAt_of e ho ha hp hb
     rcases read_open (.inr ⟨rfl,rfl⟩) e ho ha P O with hbad | h0
     ·exact ⟨1,.inl hbad⟩
     ·obtain ⟨n1,h1⟩:=read_all F _ _ hp (P ++ [(⟨11,i,0,0,0,odN s (i + 1),0,.v 0,0⟩:Pt)]) (O ++ [P.length])
      rcases h1 with h1 | ⟨X1,h1,s1⟩
      ·exact ⟨1 + n1,.inl (by rw [rIter_add];show (rIter s n1 (rStep s ⟨(i,0),P,O⟩)).z.2 ≠ 0;rw [h0];exact h1)⟩
      ·have hcl:=read_close (s:=s) (b:=b) (la:=P.length) (P:=P ++ [(⟨11,i,0,0,0,odN s (i + 1),0,.v 0,0⟩:Pt)] ++ X1) (O:=O) hb
       rw [pOf_app _ (by simp),pOf_new,if_neg (by simp),if_neg (by simp)] at hcl
       have eqX:∀ t2:Pt,P ++ [(⟨11,i,0,0,0,odN s (i + 1),0,.v 0,0⟩:Pt)] ++ X1 ++ [t2] = P ++ ([(⟨11,i,0,0,0,odN s (i + 1),0,.v 0,0⟩:Pt)] ++ X1 ++ [t2]):=fun t2=>by simp
       refine ⟨1 + (n1 + 1),.inr ⟨[(⟨11,i,0,0,0,odN s (i + 1),0,.v 0,0⟩:Pt)] ++ X1 ++ [(⟨12,b,0,0,0,.v 0,0,.v 0,P.length⟩:Pt)],by simp,?_,fun f hf Y=>?_⟩⟩
       ·rw [rIter_add]
        show rIter s (n1 + 1) (rStep s ⟨(i,0),P,O⟩) = _
        rw [h0,rIter_add,h1,← eqX]
        exact hcl
       ·rw [← eqX]
        have hcH:Clean (iterF (alongF s F (a + 1) b) 27 f):=Clean.iter hf
        have p1:∀ q,q < P.length + 1 + X1.length → pOf (P ++ [(⟨11,i,0,0,0,odN s (i + 1),0,.v 0,0⟩:Pt)] ++ X1 ++ [(⟨12,b,0,0,0,.v 0,0,.v 0,P.length⟩:Pt)] ++ Y) q = pOf (P ++ [(⟨11,i,0,0,0,odN s (i + 1),0,.v 0,0⟩:Pt)] ++ X1) q:=fun q b=>by
         rw [pOf_app _ (by simp <;> omega),pOf_app _ (by simp <;> omega)]
        have hla:(P ++ [(⟨11,i,0,0,0,odN s (i + 1),0,.v 0,0⟩:Pt)] ++ X1).length = P.length + 1 + X1.length:=by simp <;> omega
        have q0:pOf (P ++ [(⟨11,i,0,0,0,odN s (i + 1),0,.v 0,0⟩:Pt)] ++ X1) P.length = (⟨11,i,0,0,0,odN s (i + 1),0,.v 0,0⟩:Pt):=by
         rw [pOf_app _ (by simp),pOf_new]
        have q1:pOf (P ++ [(⟨11,i,0,0,0,odN s (i + 1),0,.v 0,0⟩:Pt)] ++ X1 ++ [(⟨12,b,0,0,0,.v 0,0,.v 0,P.length⟩:Pt)] ++ Y) (P.length + 1 + X1.length) = (⟨12,b,0,0,0,.v 0,0,.v 0,P.length⟩:Pt):=by
         rw [← hla,pOf_app _ (by simp),pOf_new]
        have t1:=(s1 _ hcH).reP (p':=pOf (P ++ [(⟨11,i,0,0,0,odN s (i + 1),0,.v 0,0⟩:Pt)] ++ X1 ++ [(⟨12,b,0,0,0,.v 0,0,.v 0,P.length⟩:Pt)] ++ Y)) (fun q a b=>p1 q (by simp at b;omega))
        simp only [List.length_append,List.length_singleton] at t1
        refine ⟨trivial,.inr (.inr ⟨a,b,P.length + 1 + X1.length,hL,sub_all hcH,t1,rfl,by simp <;> omega,?_,?_,?_,by omega⟩)⟩
        ·rw [q1,p1 _ (by omega),q0];exact ⟨rfl,rfl,rfl,rfl⟩
        ·rw [q1]
        ·rw [q1]
   obtain ⟨n1,h1⟩:=first
   rcases h1 with h1 | ⟨X1,hx,h1,s1⟩
   ·exact ⟨n1,.inl h1⟩
   ·obtain ⟨n2,h2⟩:=read_all F _ _ hr (P ++ X1) O
    rcases h2 with h2 | ⟨X2,h2,s2⟩
    ·exact ⟨n1 + n2,.inl (by rw [rIter_add,h1];exact h2)⟩
    ·refine ⟨n1 + n2,.inr ⟨X1 ++ X2,by rw [rIter_add,h1,h2,List.append_assoc],fun f hf=>.inr ⟨m,P.length + X1.length,?_,hlt.1,hmj,by omega,by simp,hbeh,?_⟩⟩⟩
     ·rw [← List.append_assoc];exact s1 f hf X2
     ·have:=s2 (afterF (alongF s F) s i f) (Clean.after (fun a b g hg=>Clean.along hg) hf)
      rw [← List.append_assoc]
      simp only [List.length_append] at this ⊢
      rw [show P.length + (X1.length + X2.length) = P.length + X1.length + X2.length by omega]
      exact this
end
end Go.Proofs.YthcjcjfgdgnljabGreatDoor
