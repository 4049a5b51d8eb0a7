import Derived.Test.YthcjcjfgdgnljabGreatDoorGSynR
set_option linter.unusedVariables false
set_option maxHeartbeats 4000000
set_option maxRecDepth 8000
open Go.Proofs.Tryz
namespace Go.Proofs.YthcjcjfgdgnljabGreatDoor
open Go.RowKit
def Opnd (s:ByteArray) (i j:Nat):Prop:=(smallN (bt s i) = true ∧ j = i + 1) ∨ (i < j ∧ j ≤ i + 3 ∧ ∀ k,i ≤ k → k < j → digitN (bt s k) = true)
theorem Opnd.lt {s:ByteArray} {i j:Nat} (h:Opnd s i j):i < j:=by rcases h with ⟨_,h⟩ | ⟨h,_⟩ <;> omega
theorem inv_o {s:ByteArray} {i:Nat} {d:Int} {t:List (Nat × Bool)} (hi:i ≤ s.size) (h:run s ((111,true) :: t) i d = (0,0)):∃ j,Opnd s i j ∧ j ≤ s.size ∧ run s t j d = (0,0):=by
 cases h1:smallN (bt s i)
 ·cases h2:digitN (bt s i)
  ·rw [R_o_bad t hi h1 h2] at h;simp at h
  ·have hi1:=(digit_in h2).1
   rw [R_o_digit t h2] at h
   cases h3:digitN (bt s (i + 1))
   ·rw [R_d_no t hi1 h3] at h
    exact ⟨i + 1,.inr ⟨by omega,by omega,fun k a b=>by rw [show k = i by omega];exact h2⟩,hi1,h⟩
   ·have hi2:=(digit_in h3).1
    rw [R_d_digit t h3] at h
    cases h4:digitN (bt s (i + 1 + 1))
    ·rw [R_e_no t hi2 h4] at h
     refine ⟨i + 1 + 1,.inr ⟨by omega,by omega,fun k a b=>?_⟩,hi2,h⟩
     by_cases e:k = i
     ·rw [e];exact h2
     ·rw [show k = i + 1 by omega];exact h3
    ·have hi3:=(digit_in h4).1
     rw [R_e_digit t h4] at h
     refine ⟨i + 1 + 1 + 1,.inr ⟨by omega,by omega,fun k a b=>?_⟩,hi3,h⟩
     by_cases e:k = i
     ·rw [e];exact h2
     ·by_cases e2:k = i + 1
      ·rw [e2];exact h3
      ·rw [show k = i + 1 + 1 by omega];exact h4
 ·have hi1:=(small_in h1).1
  rw [R_o_small t h1] at h
  exact ⟨i + 1,.inl ⟨h1,rfl⟩,hi1,h⟩
theorem inv_V {s:ByteArray} {i:Nat} {d:Int} {t:List (Nat × Bool)} (hi:i ≤ s.size) (h:run s ((86,true) :: t) i d = (0,0)):greatN (bt s i) = true ∧ i < s.size ∧ run s t (i + 1) d = (0,0):=by
 cases h1:greatN (bt s i)
 ·rw [R_V_bad t hi h1] at h;simp at h
 ·rw [R_V_great t h1] at h
  exact ⟨rfl,(great_in h1).1,h⟩
def KSize (s:ByteArray) (i j:Nat):Prop:=smallN (bt s i) = true ∧ bt s (i + 1) = 61 ∧ bt s (i + 2) = 35 ∧ greatN (bt s (i + 3)) = true ∧ bt s (i + 4) = 59 ∧ j = i + 5
def KLoad (s:ByteArray) (i j:Nat):Prop:=smallN (bt s i) = true ∧ bt s (i + 1) = 61 ∧ greatN (bt s (i + 2)) = true ∧ bt s (i + 3) = 91 ∧ ∃ k,Opnd s (i + 4) k ∧ bt s k = 93 ∧ bt s (k + 1) = 59 ∧ j = k + 2
def KSet (s:ByteArray) (i j:Nat):Prop:=smallN (bt s i) = true ∧ bt s (i + 1) = 61 ∧ ∃ k,Opnd s (i + 2) k ∧ bt s k = 59 ∧ j = k + 1
def KCalc (s:ByteArray) (i j:Nat):Prop:=smallN (bt s i) = true ∧ bt s (i + 1) = 61 ∧ ∃ k l,Opnd s (i + 2) k ∧ isOp (bt s k) ∧ Opnd s (k + 1) l ∧ bt s l = 59 ∧ j = l + 1
def KStore (s:ByteArray) (i j:Nat):Prop:=greatN (bt s i) = true ∧ bt s (i + 1) = 91 ∧ ∃ k l,Opnd s (i + 2) k ∧ bt s k = 93 ∧ bt s (k + 1) = 61 ∧ Opnd s (k + 2) l ∧ bt s l = 59 ∧ j = l + 1
def KMake (s:ByteArray) (i j:Nat):Prop:=greatN (bt s i) = true ∧ bt s (i + 1) = 61 ∧ bt s (i + 2) = 91 ∧ ∃ k,Opnd s (i + 3) k ∧ bt s k = 93 ∧ bt s (k + 1) = 59 ∧ j = k + 2
def KMove (s:ByteArray) (i j:Nat):Prop:=greatN (bt s i) = true ∧ bt s (i + 1) = 61 ∧ greatN (bt s (i + 2)) = true ∧ bt s (i + 3) = 59 ∧ j = i + 4
def KPrint (s:ByteArray) (i j:Nat):Prop:=bt s i = 33 ∧ ∃ k,Opnd s (i + 1) k ∧ bt s k = 59 ∧ j = k + 1
def KDrop (s:ByteArray) (i j:Nat):Prop:=bt s i = 126 ∧ greatN (bt s (i + 1)) = true ∧ bt s (i + 2) = 59 ∧ j = i + 3
def Simple (s:ByteArray) (i j:Nat):Prop:=KSize s i j ∨ KLoad s i j ∨ KSet s i j ∨ KCalc s i j ∨ KStore s i j ∨ KMake s i j ∨ KMove s i j ∨ KPrint s i j ∨ KDrop s i j
def Mid (c:Nat):Prop:=c ≠ 59 ∧ c ≠ 123 ∧ c ≠ 125
def Span (s:ByteArray) (a b:Nat):Prop:=∀ k,a ≤ k → k < b → Mid (bt s k)
theorem Span.app {s:ByteArray} {a b c:Nat} (h:Span s a b) (g:Span s b c):Span s a c:=fun k h1 h2=>by
 by_cases e:k < b
 ·exact h k h1 e
 ·exact g k (by omega) h2
theorem Span.one {s:ByteArray} {a:Nat} (h:Mid (bt s a)):Span s a (a + 1):=fun k h1 h2=>by rw [show k = a by omega];exact h
theorem Span.eq {s:ByteArray} {a x:Nat} (h:bt s a = x) (hx:Mid x):Span s a (a + 1):=Span.one (by rw [h];exact hx)
theorem Span.small {s:ByteArray} {a:Nat} (h:smallN (bt s a) = true):Span s a (a + 1):=Span.one (by simp [smallN] at h;unfold Mid;omega)
theorem Span.great {s:ByteArray} {a:Nat} (h:greatN (bt s a) = true):Span s a (a + 1):=Span.one (by simp [greatN] at h;unfold Mid;omega)
theorem Opnd.span {s:ByteArray} {i j:Nat} (h:Opnd s i j):Span s i j:=fun k a b=>by
 rcases h with ⟨h,e⟩ | ⟨_,_,h⟩
 ·exact Span.small h k a (by omega)
 ·have:=h k a b;simp [digitN] at this;unfold Mid;omega
theorem mid_op {c:Nat} (h:isOp c):Mid c:=by unfold isOp at h;unfold Mid;omega
theorem Simple.line {s:ByteArray} {i j:Nat} (h:Simple s i j):i < j ∧ j ≤ s.size ∧ bt s (j - 1) = 59 ∧ Span s i (j - 1):=by
 have fin:∀ q,bt s q = 59 → i < q → Span s i q → i < q + 1 ∧ q + 1 ≤ s.size ∧ bt s (q + 1 - 1) = 59 ∧ Span s i (q + 1 - 1):=fun q h1 h2 h3=>⟨by omega,byte_in h1 (by decide),h1,h3⟩
 have m61:Mid 61:=by unfold Mid;omega
 have m91:Mid 91:=by unfold Mid;omega
 have m93:Mid 93:=by unfold Mid;omega
 have m35:Mid 35:=by unfold Mid;omega
 have m33:Mid 33:=by unfold Mid;omega
 have m126:Mid 126:=by unfold Mid;omega
 rcases h with h | h | h | h | h | h | h | h | h
 ·obtain ⟨h1,h2,h3,h4,h5,rfl⟩:=h
  exact fin _ h5 (by omega) ((((Span.small h1).app (Span.eq h2 m61)).app (Span.eq h3 m35)).app (Span.great h4))
 ·obtain ⟨h1,h2,h3,h4,k,h5,h6,h7,rfl⟩:=h
  have:=h5.lt
  exact fin _ h7 (by omega) ((((((Span.small h1).app (Span.eq h2 m61)).app (Span.great h3)).app (Span.eq h4 m91)).app h5.span).app (Span.eq h6 m93))
 ·obtain ⟨h1,h2,k,h5,h6,rfl⟩:=h
  have:=h5.lt
  exact fin _ h6 (by omega) (((Span.small h1).app (Span.eq h2 m61)).app h5.span)
 ·obtain ⟨h1,h2,k,l,h5,h6,h7,h8,rfl⟩:=h
  have:=h5.lt
  have:=h7.lt
  exact fin _ h8 (by omega) (((((Span.small h1).app (Span.eq h2 m61)).app h5.span).app (Span.one (mid_op h6))).app h7.span)
 ·obtain ⟨h1,h2,k,l,h5,h6,h6',h7,h8,rfl⟩:=h
  have:=h5.lt
  have:=h7.lt
  exact fin _ h8 (by omega) ((((((Span.great h1).app (Span.eq h2 m91)).app h5.span).app (Span.eq h6 m93)).app (Span.eq h6' m61)).app h7.span)
 ·obtain ⟨h1,h2,h3,k,h5,h6,h7,rfl⟩:=h
  have:=h5.lt
  exact fin _ h7 (by omega) (((((Span.great h1).app (Span.eq h2 m61)).app (Span.eq h3 m91)).app h5.span).app (Span.eq h6 m93))
 ·obtain ⟨h1,h2,h3,h4,rfl⟩:=h
  exact fin _ h4 (by omega) (((Span.great h1).app (Span.eq h2 m61)).app (Span.great h3))
 ·obtain ⟨h1,k,h5,h6,rfl⟩:=h
  have:=h5.lt
  exact fin _ h6 (by omega) ((Span.eq h1 m33).app h5.span)
 ·obtain ⟨h1,h2,h3,rfl⟩:=h
  exact fin _ h3 (by omega) ((Span.eq h1 m126).app (Span.great h2))
def StmtF (P:Nat → Nat → Prop) (s:ByteArray) (i j:Nat):Prop :=
 Simple s i j ∨
 (bt s i = 63 ∧ ∃ a b c,Opnd s (i + 1) a ∧ bt s a = 123 ∧ P (a + 1) b ∧ bt s b = 125 ∧ bt s (b + 1) = 123 ∧ P (b + 2) c ∧ bt s c = 125 ∧ j = c + 1) ∨
 (bt s i = 64 ∧ ∃ a b,Opnd s (i + 1) a ∧ bt s a = 123 ∧ P (a + 1) b ∧ bt s b = 125 ∧ j = b + 1)
def Prog (s:ByteArray):Nat → Nat → Nat → Prop
 | 0,i,j=>i = j
 | F + 1,i,j=>i = j ∨ ∃ m,StmtF (Prog s F) s i m ∧ Prog s F m j
theorem Prog.le {s:ByteArray}:∀ {F i j:Nat},Prog s F i j → i ≤ j
 | 0,_,_,h=>Nat.le_of_eq h
 | F + 1,i,j,h=>by
  rcases h with h | ⟨m,h1,h2⟩
  ·exact Nat.le_of_eq h
  ·have h3:=h2.le
   rcases h1 with h | ⟨_,a,b,c,ho,_,hp,_,_,hq,_,e⟩ | ⟨_,a,b,ho,_,hp,_,e⟩
   ·have:=h.line.1;omega
   ·have:=ho.lt;have:=hp.le;have:=hq.le;omega
   ·have:=ho.lt;have:=hp.le;omega
theorem StmtF.lt {s:ByteArray} {F i j:Nat} (h:StmtF (Prog s F) s i j):i < j ∧ j ≤ s.size:=by
 rcases h with h | ⟨_,a,b,c,ho,_,hp,_,_,hq,hc,e⟩ | ⟨_,a,b,ho,_,hp,hb,e⟩
 ·exact ⟨h.line.1,h.line.2.1⟩
 ·have:=ho.lt;have:=hp.le;have:=hq.le;have:=byte_in hc (by decide);omega
 ·have:=ho.lt;have:=hp.le;have:=byte_in hb (by decide);omega
theorem run_simple {s:ByteArray} {i:Nat} {d:Int} {t:List (Nat × Bool)} (h:run s ((83,true) :: t) i d = (0,0)) (hb:smallN (bt s i) = true ∨ greatN (bt s i) = true ∨ bt s i = 33 ∨ bt s i = 126) :
  ∃ m,Simple s i m ∧ run s ((83,true) :: t) m d = (0,0):=by
 have semi:∀ k,k ≤ s.size → run s ((59,false) :: (83,true) :: t) k d = (0,0) → bt s k = 59 ∧ run s ((83,true) :: t) (k + 1) d = (0,0):=fun k hk h =>
  have g:=run_take_ok hk (by decide) (by decide) (by decide) h
  ⟨g.1,g.2.2⟩
 rcases hb with hb | hb | hb | hb
 ·have hi:=(small_in hb).1
  rw [R_S_small t hb] at h
  obtain ⟨e1,hi1,h⟩:=run_take_ok hi (by decide) (by decide) (by decide) h
  by_cases e2:bt s (i + 1 + 1) = 35
  ·rw [R_g_hash _ e2] at h
   have hi2:=byte_in e2 (by decide)
   obtain ⟨e3,hi3,h⟩:=inv_V hi2 h
   obtain ⟨e4,h⟩:=semi _ hi3 h
   exact ⟨_,.inl ⟨hb,e1,e2,e3,e4,rfl⟩,h⟩
  ·cases e3:greatN (bt s (i + 1 + 1))
   ·rw [R_g_else _ hi1 e3 e2] at h
    obtain ⟨k,ho,hk,h⟩:=inv_o hi1 h
    by_cases e4:isOp (bt s k)
    ·have hk1:k < s.size:=byte_in rfl (by unfold isOp at e4;omega)
     rw [R_t_op _ e4] at h
     obtain ⟨l,ho2,hl,h⟩:=inv_o hk1 h
     obtain ⟨e5,h⟩:=semi _ hl h
     exact ⟨_,.inr (.inr (.inr (.inl ⟨hb,e1,k,l,ho,e4,ho2,e5,rfl⟩))),h⟩
    ·rw [R_t_no _ hk e4] at h
     obtain ⟨e5,h⟩:=semi _ hk h
     exact ⟨_,.inr (.inr (.inl ⟨hb,e1,k,ho,e5,rfl⟩)),h⟩
   ·have hi2:=(great_in e3).1
    rw [R_g_great _ e3] at h
    obtain ⟨e4,hi3,h⟩:=run_take_ok hi2 (by decide) (by decide) (by decide) h
    obtain ⟨k,ho,hk,h⟩:=inv_o hi3 h
    obtain ⟨e5,hk1,h⟩:=run_take_ok hk (by decide) (by decide) (by decide) h
    obtain ⟨e6,h⟩:=semi _ hk1 h
    exact ⟨_,.inr (.inl ⟨hb,e1,e3,e4,k,ho,e5,e6,rfl⟩),h⟩
 ·have hi:=(great_in hb).1
  rw [R_S_great t hb] at h
  by_cases e1:bt s (i + 1) = 91
  ·rw [R_p_br _ e1] at h
   have hi1:=byte_in e1 (by decide)
   obtain ⟨k,ho,hk,h⟩:=inv_o hi1 h
   obtain ⟨e2,hk1,h⟩:=run_take_ok hk (by decide) (by decide) (by decide) h
   obtain ⟨e3,hk2,h⟩:=run_take_ok hk1 (by decide) (by decide) (by decide) h
   obtain ⟨l,ho2,hl,h⟩:=inv_o hk2 h
   obtain ⟨e4,h⟩:=semi _ hl h
   exact ⟨_,.inr (.inr (.inr (.inr (.inl ⟨hb,e1,k,l,ho,e2,e3,ho2,e4,rfl⟩)))),h⟩
  ·rw [R_p_else _ hi e1] at h
   obtain ⟨e2,hi1,h⟩:=run_take_ok hi (by decide) (by decide) (by decide) h
   by_cases e3:bt s (i + 1 + 1) = 91
   ·have hi2:=byte_in e3 (by decide)
    rw [R_G_br _ e3] at h
    obtain ⟨k,ho,hk,h⟩:=inv_o hi2 h
    obtain ⟨e4,hk1,h⟩:=run_take_ok hk (by decide) (by decide) (by decide) h
    obtain ⟨e5,h⟩:=semi _ hk1 h
    exact ⟨_,.inr (.inr (.inr (.inr (.inr (.inl ⟨hb,e2,e3,k,ho,e4,e5,rfl⟩))))),h⟩
   ·rw [R_G_else _ hi1 e3] at h
    obtain ⟨e4,hi2,h⟩:=inv_V hi1 h
    obtain ⟨e5,h⟩:=semi _ hi2 h
    exact ⟨_,.inr (.inr (.inr (.inr (.inr (.inr (.inl ⟨hb,e2,e4,e5,rfl⟩)))))),h⟩
 ·have hi:=byte_in hb (by decide)
  rw [R_S_print t hb] at h
  obtain ⟨k,ho,hk,h⟩:=inv_o hi h
  obtain ⟨e5,h⟩:=semi _ hk h
  exact ⟨_,.inr (.inr (.inr (.inr (.inr (.inr (.inr (.inl ⟨hb,k,ho,e5,rfl⟩))))))),h⟩
 ·have hi:=byte_in hb (by decide)
  rw [R_S_drop t hb] at h
  obtain ⟨e4,hi2,h⟩:=inv_V hi h
  obtain ⟨e5,h⟩:=semi _ hi2 h
  exact ⟨_,.inr (.inr (.inr (.inr (.inr (.inr (.inr (.inr ⟨hb,e4,e5,rfl⟩))))))),h⟩
theorem run_prog {s:ByteArray}:∀ (m i:Nat) (d:Int) (t:List (Nat × Bool)),i ≤ s.size → s.size - i < m → run s ((83,true) :: t) i d = (0,0) → ∃ j,Prog s m i j ∧ j ≤ s.size ∧ run s t j d = (0,0)
 | 0,_,_,_,_,h,_=>absurd h (Nat.not_lt_zero _)
 | m + 1,i,d,t,hi,hm,h=>by
  by_cases hb:smallN (bt s i) = true ∨ greatN (bt s i) = true ∨ bt s i = 33 ∨ bt s i = 126
  ·obtain ⟨k,hs,h⟩:=run_simple h hb
   have hl:=hs.line
   obtain ⟨j,hp,hj,h⟩:=run_prog m k d t hl.2.1 (by omega) h
   exact ⟨j,.inr ⟨k,.inl hs,hp⟩,hj,h⟩
  ·by_cases h63:bt s i = 63
   ·have hi1:=byte_in h63 (by decide)
    rw [R_S_if t h63] at h
    obtain ⟨a,ho,ha,h⟩:=inv_o hi1 h
    have ho':=ho.lt
    obtain ⟨e1,ha1,_,h⟩:=run_open_ok ha h
    obtain ⟨b,hp,hb',h⟩:=run_prog m (a + 1) _ _ ha1 (by omega) h
    have hp':=hp.le
    obtain ⟨e2,hb1,h⟩:=run_close_ok hb' h
    obtain ⟨e3,hb2,_,h⟩:=run_open_ok hb1 h
    obtain ⟨c,hq,hc,h⟩:=run_prog m (b + 1 + 1) _ _ hb2 (by omega) h
    have hq':=hq.le
    obtain ⟨e4,hc1,h⟩:=run_close_ok hc h
    rw [show d + 1 - 1 + 1 - 1 = d by omega] at h
    obtain ⟨j,hr,hj,h⟩:=run_prog m (c + 1) d t hc1 (by omega) h
    exact ⟨j,.inr ⟨c + 1,.inr (.inl ⟨h63,a,b,c,ho,e1,hp,e2,e3,hq,e4,rfl⟩),hr⟩,hj,h⟩
   ·by_cases h64:bt s i = 64
    ·have hi1:=byte_in h64 (by decide)
     rw [R_S_loop t h64] at h
     obtain ⟨a,ho,ha,h⟩:=inv_o hi1 h
     have ho':=ho.lt
     obtain ⟨e1,ha1,_,h⟩:=run_open_ok ha h
     obtain ⟨b,hp,hb',h⟩:=run_prog m (a + 1) _ _ ha1 (by omega) h
     have hp':=hp.le
     obtain ⟨e2,hb1,h⟩:=run_close_ok hb' h
     rw [show d + 1 - 1 = d by omega] at h
     obtain ⟨j,hr,hj,h⟩:=run_prog m (b + 1) d t hb1 (by omega) h
     exact ⟨j,.inr ⟨b + 1,.inr (.inr ⟨h64,a,b,ho,e1,hp,e2,rfl⟩),hr⟩,hj,h⟩
    ·have hno:noStmt (bt s i):=by
      refine ⟨?_,?_,?_,?_,h63,h64⟩
      ·exact Bool.eq_false_iff.2 fun e=>hb (.inl e)
      ·exact Bool.eq_false_iff.2 fun e=>hb (.inr (.inl e))
      ·exact fun e=>hb (.inr (.inr (.inl e)))
      ·exact fun e=>hb (.inr (.inr (.inr e)))
     rw [R_S_none t hi hno] at h
     exact ⟨i,.inl rfl,hi,h⟩
theorem prog_of_ok {s:ByteArray} (h:run s [(83,true)] 0 0 = (0,0)):Prog s (s.size + 1) 0 s.size:=by
 obtain ⟨j,hp,hj,h⟩:=run_prog (s.size + 1) 0 0 [] (Nat.zero_le _) (by omega) h
 rw [run_nil hj] at h
 split at h
 ·simp at h
 ·rw [show s.size = j by omega] at hp ⊢
  exact hp
theorem owns_cell {w:World} {base:Nat} {e:TypeId} {size g n cap:Nat} {xs:List Value} (h:w.ownsRow base e size (.slice (some ⟨g,0,none⟩) n cap) n xs) {k:Nat} {u:Value} (hk:xs[k]? = some u):w.cell? ⟨g,k,none⟩ = some u:=by
 rcases h.2 with ⟨h0,_⟩ | ⟨g',cap',cur,hv,hb,hg,hn,hc,hs,ht⟩
 ·cases h0
 ·cases hv
  have hkl:k < xs.length:=(List.getElem?_eq_some_iff.1 hk).1
  rw [h.1] at hkl
  rw [← ht,List.getElem?_take_of_lt hkl] at hk
  have:cur[k]? = some u:=by simpa using hk
  simp [World.cell?,hg,this]
theorem StkAt.top {w:World} {kp base:Nat} {v:Value} {stk:List (Nat × Bool)} {e:Nat × Bool} (h:StkAt w kp base v (stk ++ [e])) :
  ∃ g cap,v = .slice (some ⟨g,0,none⟩) (stk.length + 1) cap ∧ g ≠ kp ∧ base ≤ g ∧ g < w.heap.size ∧ stk.length + 1 ≤ cap ∧ cap ≤ maxLen ∧
   w.cell? ⟨g,stk.length * 2,none⟩ = some (.int .u8 e.1) ∧ w.cell? ⟨g,stk.length * 2 + 1,none⟩ = some (.bool e.2):=by
 have hr:=h.row
 have hl:(stk ++ [e]).length = stk.length + 1:=by simp
 rw [hl] at hr
 have hlen:(stk.flatMap entC).length = stk.length * 2:=by
  have:=hr.1
  simp [entC] at this ⊢
  omega
 have hx:(stk ++ [e]).flatMap entC = stk.flatMap entC ++ [.int .u8 e.1,.bool e.2]:=by simp [entC]
 rw [hx] at hr
 have hr0:=hr
 rcases hr.2 with ⟨_,h0⟩ | ⟨g,cap,cur,rfl,hb,hg,hn,hc,hs,ht⟩
 ·omega
 ·refine ⟨g,cap,rfl,fun e2=>h.ne (by rw [e2];rfl),hb,(Array.getElem?_eq_some_iff.1 hg).1,hn,hc,owns_cell hr0 ?_,owns_cell hr0 ?_⟩
  ·rw [List.getElem?_append_right (by omega),hlen,Nat.sub_self];rfl
  ·rw [List.getElem?_append_right (by omega),hlen,show stk.length * 2 + 1 - stk.length * 2 = 1 by omega];rfl
theorem StkAt.pop {w w2:World} {kp base g cap:Nat} {stk:List (Nat × Bool)} {e:Nat × Bool} (h:StkAt w kp base (.slice (some ⟨g,0,none⟩) (stk.length + 1) cap) (stk ++ [e])) (hF:Fr NoB w w2) :
  StkAt (w2.setCell ⟨kp,0,none⟩ (.slice (some ⟨g,0,none⟩) stk.length cap)) kp base (.slice (some ⟨g,0,none⟩) stk.length cap) stk:=by
 have hkl:kp < w.heap.size:=World.block_lt_of_cell? _ _ h.c
 have hne:g ≠ kp:=fun e2=>h.ne (by rw [e2];rfl)
 refine ⟨cell_same (hF.cell_some h.c id),fun o=>by rw [World.frozen?_setCell];exact (hF.frozen (p:=⟨kp,o,none⟩) hkl id).trans (h.f o),?_,fun e2=>hne (by simpa [Value.ownBlock] using e2)⟩
 have hr:=h.row
 have hl:(stk ++ [e]).length = stk.length + 1:=by simp
 rw [hl] at hr
 have hx:(stk ++ [e]).flatMap entC = stk.flatMap entC ++ entC e:=by simp
 rw [hx] at hr
 have hlen:(stk.flatMap entC).length = stk.length * 2:=by
  have:=hr.1
  simp [entC] at this ⊢
  omega
 have h2:=ownsRow_pop hlen hr
 exact ((Fr.refl (OneB kp) w2).setCell (p:=⟨kp,0,none⟩) (fun _=>rfl) _).owns (hF.owns h2 (fun k _=>id)) (fun k hk2 e2=>by have e3:k = kp:=e2;subst e3;exact hne (by simpa [Value.ownBlock] using hk2))
theorem StkAt.no {w w2:World} {kp base:Nat} {v:Value} {stk:List (Nat × Bool)} (h:StkAt w kp base v stk) (hF:Fr NoB w w2):StkAt w2 kp base v stk :=
 ⟨hF.cell_some h.c id,fun o=>(hF.frozen (p:=⟨kp,o,none⟩) (show kp < w.heap.size from World.block_lt_of_cell? w ⟨kp,0,none⟩ h.c) id).trans (h.f o),hF.owns h.row (fun k _=>id),h.ne⟩
theorem StkAt.form {w:World} {kp base:Nat} {v:Value} {stk:List (Nat × Bool)} (h:StkAt w kp base v stk):∃ ao cap,v = .slice ao stk.length cap:=by
 rcases h.row.2 with ⟨hv,h0⟩ | ⟨g,cap,cur,hv,_⟩
 ·exact ⟨none,0,by rw [hv,h0]⟩
 ·exact ⟨_,_,hv⟩
def StkS (kp base:Nat):Nat → Prop:=fun k=>k = kp ∨ base ≤ k
theorem cell_new (w:World) (cs:Array Value) (ty:TypeId) {k n:Nat} {u:Value} (hn:n = w.heap.size) (h:cs[k]? = some u):(w.alloc (.cells cs ty)).cell? ⟨n,k,none⟩ = some u:=by
 subst hn
 rw [World.cell?_alloc_at _ _ _ _ rfl]
 exact h
theorem setCell_size (w:World) (p:Addr) (u:Value):(w.setCell p u).heap.size = w.heap.size:=by simp [World.setCell]
theorem StkS.sub {w:World} {kp base:Nat} {v:Value} {stk:List (Nat × Bool)} (h:StkAt w kp base v stk) {k:Nat} (e:k = kp ∨ v.ownBlock = some k):StkS kp base k:=by
 rcases e with e | e
 ·exact .inl e
 ·rcases h.row.2 with ⟨hv,_⟩ | ⟨g,cap,cur,hv,hb,_⟩
  ·rw [hv] at e;simp [Value.ownBlock] at e
  ·rw [hv] at e;simp [Value.ownBlock] at e;exact .inr (by omega)
theorem bt_str {b c:Nat} {s:ByteArray} (hs:s = ⟨((chosenN b c).1.map UInt8.ofNat).toArray⟩) (hc:c < 256) {j:Nat} (hj:j < s.size):bt s j = (chosenN b c).1.getD j 0:=by
 have hz:s.size = (chosenN b c).1.length:=by rw [hs];simp [ByteArray.size]
 rw [bt_in hj]
 have hl:j < (chosenN b c).1.length:=by omega
 have hm:=chosenN_lt (b:=b) hc _ (List.getElem_mem hl)
 simp [hl]
 subst hs
 show (((chosenN b c).1.map UInt8.ofNat).toArray[j]).toNat = _
 simp
 omega
theorem bytes_some {s:ByteArray} {n:Nat} (hn:s.size = n + 1):s.toList.isEmpty = false:=by
 rw [ByteArray.toList_eq]
 cases s
 simp [ByteArray.size] at hn ⊢
 intro e
 rw [e] at hn
 simp at hn
theorem stmtN_len (c:Nat):(stmtN c).length ≤ 9:=by
 unfold stmtN
 repeat' split
 all_goals simp
theorem chosenN_len (b c:Nat):(chosenN b c).1.length ≤ 9:=by
 unfold chosenN
 repeat' split
 ·exact stmtN_len c
 all_goals simp
theorem push_exp {b c:Nat} {es:List (Nat × Bool)} (h:expand b c = some es) (s:ByteArray) (hs:s = ⟨((chosenN b c).1.map UInt8.ofNat).toArray⟩) (hc:c < 256):pushS s (ownL (chosenN b c).1 c) s.size = es.reverse:=by
 have hz:s.size = (chosenN b c).1.length:=by rw [hs];simp [ByteArray.size]
 have hbt:∀ j,j < s.size → bt s j = (chosenN b c).1.getD j 0:=fun j hj=>by
  rw [bt_in hj]
  have hl:j < (chosenN b c).1.length:=by omega
  have hm:=chosenN_lt (b:=b) hc _ (List.getElem_mem hl)
  simp [hl]
  subst hs
  show (((chosenN b c).1.map UInt8.ofNat).toArray[j]).toNat = _
  simp
  omega
 unfold expand at h
 split at h
 ·injection h with h
  rw [← h,List.reverse_reverse]
  unfold pushS pushL
  rw [hz]
  apply List.map_congr_left
  intro j hj
  rw [List.mem_range] at hj
  unfold entS entL
  rw [hbt j (by omega),hz]
 ·cases h
structure OpInv (S0 S:List (Nat × Bool)) (c:Nat):Prop where
 ok:OkS S
 same:opened S0 c = opened S c
 w:wt S ≤ wt S0 ∨ (mu S = 0 ∧ wt S ≤ wt S0 + 11)
theorem opened_any (w:World) (kp base:Nat) (v:Value) (S0:List (Nat × Bool)) (c:Nat) (hc:c < 256) (h:StkAt w kp base v S0.reverse) (hb:base ≤ w.heap.size) (hl:wt S0 ≤ 900000) (ho:OkS S0) :
  Calls prog 71 #[.pointer (some ⟨kp,0,none⟩),.int .u8 c] w fun e w'=>e = .returned (.tuple #[.bool (opened S0 c).2.1,.bool (opened S0 c).2.2]) ∧
   (∃ v',StkAt w' kp base v' (opened S0 c).1.reverse) ∧ Fr (StkS kp base) w w':=by
 go_enter func71,ntmps71
 go_wp2
 go_loopg [6] (mu S0) (fun k _ wr=>∃ (S:List (Nat × Bool)) (v':Value),mu S ≤ k ∧ OpInv S0 S c ∧ StkAt wr kp base v' S.reverse ∧ Fr (StkS kp base) w wr)
 case atStart=>exact ⟨S0,v,Nat.le_refl _,⟨ho,rfl,.inl (Nat.le_refl _)⟩,h,Fr.refl _ _⟩
 case round =>
  obtain ⟨S,v1,hmu,hI,hS,hF⟩:=hrel
  rcases S with _ | ⟨⟨b,q⟩,t⟩
  ·obtain ⟨ao,cap,rfl⟩:=hS.form
   have hcell:=hS.c
   simp only [List.reverse_nil,List.length_nil] at hcell
   have HI:Hid _:=hI
   have HS:Hid _:=hS
   clear hI hS
   go_wp2
   go_ret2
   rw [HI.out.same,opened_nil]
   exact ⟨rfl,⟨_,HS.out⟩,hF⟩
  ·simp only [List.reverse_cons] at hS
   obtain ⟨g,cap,rfl,hgk,hbg,hgl,hc1,hc2,hc3,hc4⟩:=hS.top
   have hcell:=hS.c
   have hfrz:=hS.f 0
   have hlen:t.reverse.length = t.length:=by simp
   rw [hlen] at hcell hc3 hc4 hc1
   unfold maxLen at hc2
   have hkl:kp < wr.heap.size:=World.block_lt_of_cell? _ _ hcell
   have HI:Hid _:=hI
   have HS:Hid _:=hS
   clear hI hS hlen h
   go_upto_region 2 with fail
   go_region
   cases q
   ·go_wp2
    go_ret2
    rw [HI.out.same,opened_byte]
    exact ⟨rfl,⟨_,(by simpa using HS.out.no (((Fr.refl _ wr).alloc _).drew))⟩,(hF.alloc _).drew⟩
   ·have HF:Hid _:=hF
    clear hF
    go_upto_region 5 with fail
    go_region
    have hS2:StkAt (((wr.setCell ⟨kp,0,none⟩ (Value.slice (some ⟨g,0,none⟩) t.length cap)).alloc (Obj.cells #[.int .u8 b,Value.bool true] 132)).drew.drew) kp base (Value.slice (some ⟨g,0,none⟩) t.length cap) t.reverse:=by
     have:=HS.out
     have hlen:t.reverse.length = t.length:=by simp
     rw [← hlen]
     exact (this.pop (Fr.refl _ wr)).no (((Fr.refl _ _).alloc _).drew.drew)
    have hF2:Fr (StkS kp base) w (((wr.setCell ⟨kp,0,none⟩ (Value.slice (some ⟨g,0,none⟩) t.length cap)).alloc (Obj.cells #[.int .u8 b,Value.bool true] 132)).drew.drew) :=
     ((HF.out.setCell (p:=⟨kp,0,none⟩) (fun _=>.inl rfl) _).alloc _).drew.drew
    have hx:(((wr.setCell ⟨kp,0,none⟩ (Value.slice (some ⟨g,0,none⟩) t.length cap)).alloc (Obj.cells #[.int .u8 b,Value.bool true] 132)).drew.drew).cell? ⟨wr.heap.size,0,none⟩ = some (.int .u8 b):=cell_new _ _ _ (setCell_size _ _ _).symm rfl
    generalize (((wr.setCell ⟨kp,0,none⟩ (Value.slice (some ⟨g,0,none⟩) t.length cap)).alloc (Obj.cells #[.int .u8 b,Value.bool true] 132)).drew.drew) = W at *
    have hb2:=Nat.le_trans hb hF2.size
    have HS2:Hid _:=hS2
    have HF2:Hid _:=hF2
    clear hS2 hF2 HF HS hc3 hc4 hcell hfrz
    have hpart:isPart b:=(HI.out.ok (b,true) (by simp)).2 rfl
    have HC:Hid (∀ X:World,CR 101 #[.int .u8 b,.int .u8 c] X (.tuple #[strN (chosenN b c).1,.bool (chosenN b c).2])):=fun X=>chosen_fn X b c hc hpart
    cases hex:expand b c with
    | none =>
     have hch:(chosenN b c).2 = false:=by
      unfold expand at hex
      split at hex
      ·cases hex
      ·exact Bool.eq_false_iff.2 (by assumption)
     have Hop:Hid (opened S0 c = (t,false,true)):=by show opened S0 c = _;rw [HI.out.same,opened_none t hex]
     rw [hch] at HC
     clear hex hch
     unfold strN at HC
     generalize (⟨((chosenN b c).1.map UInt8.ofNat).toArray⟩:ByteArray) = str at HC
     go_wp2_with (go_at_call 101;refine (HC.out _).mono ?_;rintro e w1 ⟨rfl,hF1⟩)
     go_ret2
     rw [Hop.out]
     exact ⟨rfl,⟨_,HS2.out.no hF1⟩,HF2.out.trans hF1.of_no⟩
    | some es =>
     have hch:(chosenN b c).2 = true:=by
      unfold expand at hex
      split at hex
      ·assumption
      ·cases hex
     rw [hch] at HC
     have Hrel:Hid (mu (es ++ t) < gk ∧ OpInv S0 (es ++ t) c):=by
      have h1:=expand_mu hex t
      have h2:rank b + mu t ≤ gk:=hmu
      have h3:=HI.out
      have h4:=expand_step hpart hex
      refine ⟨by omega,⟨fun e he=>?_,h3.same.trans (opened_some t hex),?_⟩⟩
      ·rcases List.mem_append.1 he with q | q
       ·exact expand_ok hc hex e q
       ·exact h3.ok e (List.mem_cons_of_mem _ q)
      ·have h5:=h3.w
       have h6:=rank_pos b
       have h7:wt ((b,true) :: t) = wtE (b,true) + wt t:=rfl
       have h8:mu ((b,true) :: t) = rank b + mu t:=rfl
       rw [wt_append]
       rcases h4.hw with q | ⟨q1,q2⟩
       ·left;omega
       ·right;exact ⟨q1 t,by omega⟩
     have hwt:t.length ≤ 1000000:=by
      have h5:=HI.out.w
      have h6:=len_le_wt t
      have h7:wt ((b,true) :: t) = wtE (b,true) + wt t:=rfl
      omega
     obtain ⟨str,hstr⟩:∃ str:ByteArray,str = ⟨((chosenN b c).1.map UInt8.ofNat).toArray⟩:=⟨_,rfl⟩
     have Hpush:Hid (pushS str (ownL (chosenN b c).1 c) str.size = es.reverse):=push_exp hex str hstr hc
     unfold strN at HC
     rw [← hstr] at HC
     clear hch hex
     have hb1:∀ w1:World,Fr NoB W w1 → base ≤ w1.heap.size:=fun w1 q=>Nat.le_trans hb2 q.size
     by_cases hl0:(chosenN b c).1 = []
     ·rw [hl0] at hstr Hpush
      have hstr2:str = ⟨#[]⟩:=hstr
      subst hstr2
      have hown:ownL [] c = false:=rfl
      rw [hown] at Hpush
      clear hl0 hown hstr
      go_wp2_with (first | (go_at_call 101;refine (HC.out _).mono ?_;rintro e w1 ⟨rfl,hF1⟩) | (go_at_call 70;refine (push_any _ kp base _ _ _ _ (HS2.out.no hF1) (hb1 _ hF1) (by decide) (by simpa using hwt)).mono ?_;rintro e w2 ⟨rfl,v3,hS3,hF3⟩))
      go_roundg (mu (es ++ t))
      case measure=>exact Hrel.out.1
      case rel=>exact ⟨es ++ t,v3,Nat.le_refl _,Hrel.out.2,by rw [List.reverse_append,← Hpush.out];exact hS3,(HF2.out.trans hF1.of_no).then hF3 (fun k _ e=>StkS.sub (HS2.out.no hF1) e)⟩
     ·have hlast:∃ n,str.size = n + 1 ∧ bt str n = (chosenN b c).1.getLast?.getD 0:=by
       have h0:0 < (chosenN b c).1.length:=List.length_pos_iff.2 hl0
       refine ⟨(chosenN b c).1.length - 1,by rw [hstr];simp [ByteArray.size];omega,?_⟩
       have hj:(chosenN b c).1.length - 1 < str.size:=by rw [hstr];simp [ByteArray.size];omega
       rw [bt_str hstr hc hj]
       simp [List.getLast?_eq_getElem?]
      obtain ⟨n,hn,hbt⟩:=hlast
      have hn9:n ≤ 9:=by
       have:=chosenN_len b c
       have h2:str.size = (chosenN b c).1.length:=by rw [hstr];simp [ByteArray.size]
       omega
      have hnl:n < str.size:=by omega
      have hne2:str.toList.isEmpty = false:=bytes_some hn
      have hemp:(chosenN b c).1.isEmpty = false:=by simpa using hl0
      have hown:ownL (chosenN b c).1 c = ((bt str n == c) && !(c == 0)):=by unfold ownL;rw [hbt,hemp];rfl
      rw [bt_in hnl] at hown
      rw [hown] at Hpush
      clear hown hemp hbt hstr hl0
      by_cases q1:str[n].toNat = c
      ·have q1b:((str[n].toNat:Int) == (c:Int)) = true:=beq_iff_eq.2 (by omega)
       have q1c:(str[n].toNat == c) = true:=beq_iff_eq.2 q1
       by_cases q2:c = 0
       ·have q2b:((c:Int) != 0) = false:=by rw [q2];rfl
        rw [q1c,show (c == 0) = true from beq_iff_eq.2 q2] at Hpush
        clear q1 q2 q1c
        go_wp2_with (first | (go_at_call 101;refine (HC.out _).mono ?_;rintro e w1 ⟨rfl,hF1⟩) | (go_at_call 70;refine (push_any _ kp base _ _ _ _ (HS2.out.no hF1) (hb1 _ hF1) (by omega) (by simpa using hwt)).mono ?_;rintro e w2 ⟨rfl,v3,hS3,hF3⟩))
        go_roundg (mu (es ++ t))
        case measure=>exact Hrel.out.1
        case rel=>exact ⟨es ++ t,v3,Nat.le_refl _,Hrel.out.2,by rw [List.reverse_append,← Hpush.out];exact hS3,(HF2.out.trans hF1.of_no).then hF3 (fun k _ e=>StkS.sub (HS2.out.no hF1) e)⟩
       ·have q2b:((c:Int) != 0) = true:=bne_iff_ne.2 (by omega)
        rw [q1c,show (c == 0) = false from beq_eq_false_iff_ne.2 q2] at Hpush
        clear q1 q2 q1c
        go_wp2_with (first | (go_at_call 101;refine (HC.out _).mono ?_;rintro e w1 ⟨rfl,hF1⟩) | (go_at_call 70;refine (push_any _ kp base _ _ _ _ (HS2.out.no hF1) (hb1 _ hF1) (by omega) (by simpa using hwt)).mono ?_;rintro e w2 ⟨rfl,v3,hS3,hF3⟩))
        go_roundg (mu (es ++ t))
        case measure=>exact Hrel.out.1
        case rel=>exact ⟨es ++ t,v3,Nat.le_refl _,Hrel.out.2,by rw [List.reverse_append,← Hpush.out];exact hS3,(HF2.out.trans hF1.of_no).then hF3 (fun k _ e=>StkS.sub (HS2.out.no hF1) e)⟩
      ·have q1b:((str[n].toNat:Int) == (c:Int)) = false:=bF (by omega)
       have q1c:(str[n].toNat == c) = false:=beq_eq_false_iff_ne.2 q1
       rw [q1c] at Hpush
       clear q1 q1c
       go_wp2_with (first | (go_at_call 101;refine (HC.out _).mono ?_;rintro e w1 ⟨rfl,hF1⟩) | (go_at_call 70;refine (push_any _ kp base _ _ _ _ (HS2.out.no hF1) (hb1 _ hF1) (by omega) (by simpa using hwt)).mono ?_;rintro e w2 ⟨rfl,v3,hS3,hF3⟩))
       go_roundg (mu (es ++ t))
       case measure=>exact Hrel.out.1
       case rel=>exact ⟨es ++ t,v3,Nat.le_refl _,Hrel.out.2,by rw [List.reverse_append,← Hpush.out];exact hS3,(HF2.out.trans hF1.of_no).then hF3 (fun k _ e=>StkS.sub (HS2.out.no hF1) e)⟩
end Go.Proofs.YthcjcjfgdgnljabGreatDoor
