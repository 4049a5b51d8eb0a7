import Derived.Test.YthcjcjfgdgnljabGreatDoorGDevA
set_option linter.unusedVariables false
set_option maxHeartbeats 4000000
set_option maxRecDepth 8000
open Go.Proofs.Tryz
namespace Go.Proofs.YthcjcjfgdgnljabGreatDoor
open Go.RowKit
section
def Sub (f g:Nat → Bool):Prop:=∀ i,f i = true → g i = true
theorem Sub.refl (f:Nat → Bool):Sub f f:=fun _ h=>h
theorem Sub.trans {f g h:Nat → Bool} (a:Sub f g) (b:Sub g h):Sub f h:=fun i q=>b i (a i q)
theorem Sub.anti {f g:Nat → Bool} (a:Sub f g) (b:Sub g f):f = g:=by
 funext i
 cases hf:f i
 ·cases hg:g i
  ·rfl
  ·rw [b i hg] at hf;cases hf
 ·exact (a i hf).symm
theorem both_iff {f g:Nat → Bool} {i:Nat}:bothF f g i = true ↔ f i = true ∧ g i = true:=by unfold bothF;simp
theorem Sub.both {f g f' g':Nat → Bool} (a:Sub f f') (b:Sub g g'):Sub (bothF f g) (bothF f' g'):=fun i h=>by
 rw [both_iff] at h ⊢
 exact ⟨a i h.1,b i h.2⟩
theorem Sub.left (f g:Nat → Bool):Sub (bothF f g) f:=fun i h=>(both_iff.1 h).1
theorem Sub.right (f g:Nat → Bool):Sub (bothF f g) g:=fun i h=>(both_iff.1 h).2
theorem Sub.into {f g h:Nat → Bool} (a:Sub f g) (b:Sub f h):Sub f (bothF g h):=fun i q=>both_iff.2 ⟨a i q,b i q⟩
theorem Sub.upd {f g:Nat → Bool} (h:Sub f g) (k:Nat) {u v:Bool} (huv:u = true → v = true):Sub (updB f k u) (updB g k v):=fun i q=>by
 unfold updB at q ⊢
 split
 ·rw [if_pos (by assumption)] at q;exact huv q
 ·rw [if_neg (by assumption)] at q;exact h i q
theorem Sub.of {f g:Nat → Bool} (hc:Clean f) (h:subF f g):Sub f g:=fun i q=>by
 by_cases hi:i < 26
 ·exact h i hi q
 ·rw [hc i (by omega)] at q;cases q
theorem both_comm (f g:Nat → Bool):bothF f g = bothF g f:=by funext i;unfold bothF;exact Bool.and_comm _ _
theorem both_sub {f g:Nat → Bool} (h:Sub f g):bothF f g = f:=Sub.anti (Sub.left _ _) (Sub.into (Sub.refl _) h)
theorem sim_mono {s:ByteArray} {i:Nat} {f g:Nat → Bool} (h:Sub f g):Sub (simF s i f) (simF s i g):=by
 unfold simF
 split
 ·exact h.upd _ id
 ·split
  ·exact h.upd _ id
  ·split
   ·exact (h.upd _ (h _)).upd _ id
   ·exact h
theorem iter_mono {T:(Nat → Bool) → Nat → Bool} (hT:∀ f g,Sub f g → Sub (T f) (T g)):∀ (n:Nat) {f g:Nat → Bool},Sub f g → Sub (iterF T n f) (iterF T n g)
 | 0,_,_,h=>h
 | n + 1,_,_,h=>iter_mono hT n (h.both (hT _ _ h))
theorem after_mono {al:Nat → Nat → (Nat → Bool) → Nat → Bool} (hal:∀ i j f g,Sub f g → Sub (al i j f) (al i j g)) {s:ByteArray} {i:Nat} {f g:Nat → Bool} (h:Sub f g):Sub (afterF al s i f) (afterF al s i g):=by
 unfold afterF
 split
 ·exact (hal _ _ _ _ h).both (hal _ _ _ _ h)
 ·split
  ·exact iter_mono (hal _ _) _ h
  ·exact sim_mono h
theorem along_mono {s:ByteArray}:∀ {F i j:Nat} {f g:Nat → Bool},Sub f g → Sub (alongF s F i j f) (alongF s F i j g)
 | 0,_,_,_,_,h=>h
 | F + 1,i,j,f,g,h=>by
  show Sub (if i < j then alongF s F (behN s i) j (afterF (alongF s F) s i f) else f) (if i < j then alongF s F (behN s i) j (afterF (alongF s F) s i g) else g)
  split
  ·exact along_mono (F:=F) (after_mono (al:=alongF s F) (fun a b f g hh=>along_mono hh) h)
  ·exact h
theorem iter_sub {T:(Nat → Bool) → Nat → Bool}:∀ (n:Nat) (f:Nat → Bool),Sub (iterF T n f) f
 | 0,f=>Sub.refl f
 | n + 1,f=>(iter_sub n _).trans (Sub.left _ _)
theorem iter_fix {T:(Nat → Bool) → Nat → Bool}:∀ (n:Nat) (f:Nat → Bool),Clean f → card f 26 < n → Sub (iterF T n f) (T (iterF T n f))
 | 0,f,_,h=>absurd h (Nat.not_lt_zero _)
 | n + 1,f,hc,h=>by
  by_cases hs:subF f (T f)
  ·rw [iterF_stop (both_eq hc hs)]
   exact Sub.of hc hs
  ·have:=card_both hs
   exact iter_fix n (bothF f (T f)) hc.both (by omega)
theorem iter_great {T:(Nat → Bool) → Nat → Bool} (hT:∀ f g,Sub f g → Sub (T f) (T g)) {G:Nat → Bool} (hG:Sub G (T G)):∀ (n:Nat) (f:Nat → Bool),Sub G f → Sub G (iterF T n f)
 | 0,_,h=>h
 | n + 1,f,h=>iter_great hT hG n _ (h.into (hG.trans (hT _ _ h)))
structure Pt where
 kind:Nat
 place:Nat
 num:Nat
 box:Nat
 src:Nat
 o1:Od
 sign:Nat
 o2:Od
 opn:Nat
def acP (t:Pt):Ac :=
 if t.kind = 0 then (if t.sign = 0 then .set t.num t.o1 else .bin t.num t.o1 t.sign t.o2) else if t.kind = 1 then .print t.o1 else if t.kind = 2 then .load t.num t.box t.o1
 else if t.kind = 3 then .size t.num t.box else if t.kind = 4 then .make t.box t.o1 else if t.kind = 5 then .move t.box t.src else if t.kind = 6 then .store t.box t.o1 t.o2 else .drop t.box
def behP (t:Pt) (f:Nat → Bool):Nat → Bool :=
 if t.kind = 4 then updB f t.box true else if t.kind = 7 then updB f t.box false else if t.kind = 5 then moveF t.box t.src f else f
def useB (t:Pt):Bool:=t.kind == 2 || t.kind == 3 || t.kind == 6 || t.kind == 7 || t.kind == 5
def usePl (t:Pt):Nat:=if t.kind = 2 then t.place + 2 else if t.kind = 3 then t.place + 3 else if t.kind = 6 then t.place else if t.kind = 7 then t.place + 1 else t.place + 2
def useBx (t:Pt):Nat:=if t.kind = 5 then t.src else t.box
structure SimPart (s:ByteArray) (i:Nat) (t:Pt):Prop where
 pl:t.place = i
 kd:t.kind < 8
 eff:∀ f,Clean f → behP t f = simF s i f
 ac:acP t = acN s i
 use:(useB t = false ∧ useN s i = -1) ∨ (useB t = true ∧ useN s i = (usePl t:Int) ∧ bt s (usePl t) - 65 = useBx t)
def updA (A:Nat → Nat → Bool) (i:Nat) (f:Nat → Bool):Nat → Nat → Bool:=fun j=>if j = i then f else A j
theorem updA_at (A:Nat → Nat → Bool) (i:Nat) (f:Nat → Bool):updA A i f i = f:=by simp [updA]
theorem updA_ne (A:Nat → Nat → Bool) {i j:Nat} (f:Nat → Bool) (h:j ≠ i):updA A i f j = A j:=by simp [updA,h]
structure Ps where
 A:Nat → Nat → Bool
 B:Nat → Nat → Bool
 now:Nat → Bool
 st:Bool
def nowM (p:Nat → Pt) (i:Nat) (z:Ps):Nat → Bool :=
 if (p i).kind = 9 then updA z.A i z.now (p i).opn
 else if (p i).kind = 10 then bothF z.now (updA z.A i z.now (p i).opn)
 else if (p i).kind = 11 then bothF z.now (z.B i)
 else if (p i).kind = 12 then bothF (z.B (p i).opn) z.now
 else behP (p i) z.now
def stepM (p:Nat → Pt) (i:Nat) (z:Ps):Ps :=
 { A:=updA z.A i z.now,B:=updA (if (p i).kind = 12 then updA z.B (p i).opn (nowM p i z) else z.B) i (nowM p i z),now:=nowM p i z,st:=z.st && (if (p i).kind = 12 then subD (z.B (p i).opn) z.now else true) }
def passM (p:Nat → Pt):Nat → Nat → Ps → Ps
 | 0,_,z=>z
 | n + 1,i,z=>passM p n (i + 1) (stepM p i z)
theorem passM_add (p:Nat → Pt):∀ (m n i:Nat) (z:Ps),passM p (m + n) i z = passM p n (i + m) (passM p m i z)
 | 0,n,i,z=>by rw [Nat.zero_add];rfl
 | m + 1,n,i,z=>by
  rw [show m + 1 + n = (m + n) + 1 by omega]
  show passM p (m + n) (i + 1) (stepM p i z) = passM p n (i + (m + 1)) (passM p m (i + 1) (stepM p i z))
  rw [passM_add p m n (i + 1),show i + 1 + m = i + (m + 1) by omega]
def seg (p:Nat → Pt) (k l:Nat) (z:Ps):Ps:=passM p (l - k) k z
theorem seg_app (p:Nat → Pt) {k m l:Nat} (h1:k ≤ m) (h2:m ≤ l) (z:Ps):seg p k l z = seg p m l (seg p k m z):=by
 unfold seg
 rw [show l - k = (m - k) + (l - m) by omega,passM_add,show k + (m - k) = m by omega]
theorem seg_one (p:Nat → Pt) (k:Nat) (z:Ps):seg p k (k + 1) z = stepM p k z:=by
 unfold seg
 rw [show k + 1 - k = 1 by omega];rfl
theorem seg_nil (p:Nat → Pt) (k:Nat) (z:Ps):seg p k k z = z:=by unfold seg;rw [Nat.sub_self];rfl
theorem seg_head (p:Nat → Pt) {k l:Nat} (h:k < l) (z:Ps):seg p k l z = seg p (k + 1) l (stepM p k z):=by
 rw [seg_app p (m:=k + 1) (by omega) (by omega),seg_one]
theorem seg_last (p:Nat → Pt) {k l:Nat} (h:k ≤ l) (z:Ps):seg p k (l + 1) z = stepM p l (seg p k l z):=by
 rw [seg_app p h (by omega),seg_one]
theorem step_st {p:Nat → Pt} {i:Nat} {z:Ps} (h:(stepM p i z).st = true):z.st = true:=by
 unfold stepM at h;simp at h;exact h.1
theorem pass_st {p:Nat → Pt}:∀ {n i:Nat} {z:Ps},(passM p n i z).st = true → z.st = true
 | 0,_,_,h=>h
 | _ + 1,_,_,h=>step_st (pass_st h)
theorem seg_st {p:Nat → Pt} {k l:Nat} {z:Ps} (h:(seg p k l z).st = true):z.st = true:=pass_st h
section
variable (p:Nat → Pt) (s:ByteArray) (cl cs:Nat → (Nat → Bool) → Prop)
def SQ (F:Nat) (R:Nat → Nat → Nat → Nat → (Nat → Bool) → Prop) (i m k k':Nat) (f:Nat → Bool):Prop :=
 cs k f ∧
 ((Simple s i m ∧ k' = k + 1 ∧ SimPart s i (p k)) ∨
   (∃ a b c ka kb,IfAt s i a b c ∧ R (a + 1) b (k + 1) ka f ∧ R (b + 2) c (ka + 1) kb f ∧ m = c + 1 ∧ k' = kb + 1 ∧ ((p k).kind = 8 ∧ (p k).o1 = odN s (i + 1) ∧ (p k).place = i ∧ (p ka).place = b ∧ (p kb).place = c) ∧ (p ka).kind = 9 ∧ (p ka).opn = k ∧ (p kb).kind = 10 ∧ (p kb).opn = ka ∧ k + 1 ≤ ka ∧ ka + 1 ≤ kb) ∨
   (∃ a b ka,LoopAt s i a b ∧ cl k (iterF (alongF s F (a + 1) b) 27 f) ∧ R (a + 1) b (k + 1) ka (iterF (alongF s F (a + 1) b) 27 f) ∧ m = b + 1 ∧ k' = ka + 1 ∧ ((p k).kind = 11 ∧ (p k).o1 = odN s (i + 1) ∧ (p k).place = i ∧ (p ka).place = b) ∧ (p ka).kind = 12 ∧ (p ka).opn = k ∧ k + 1 ≤ ka))
def SegQ:Nat → Nat → Nat → Nat → Nat → (Nat → Bool) → Prop
 | 0,i,j,k,l,_=>i = j ∧ k = l
 | F + 1,i,j,k,l,f=>(i = j ∧ k = l) ∨ ∃ m k',SQ p s cl cs F (SegQ F) i m k k' f ∧ i < m ∧ m ≤ j ∧ k < k' ∧ k' ≤ l ∧ behN s i = m ∧ SegQ F m j k' l (afterF (alongF s F) s i f)
end
theorem SegQ.imp {p:Nat → Pt} {s:ByteArray} {cl cs cl' cs':Nat → (Nat → Bool) → Prop}:∀ {F i j k l:Nat} {f:Nat → Bool},(∀ q f,k ≤ q → q < l → cl q f → cl' q f) → (∀ q f,k ≤ q → q < l → cs q f → cs' q f) → SegQ p s cl cs F i j k l f → SegQ p s cl' cs' F i j k l f
 | 0,_,_,_,_,_,_,_,h=>h
 | F + 1,i,j,k,l,f,h1,h2,h=>by
  rcases h with h | ⟨m,k',⟨hc,hs⟩,g1,g2,g3,g4,g5,hr⟩
  ·exact .inl h
  ·refine .inr ⟨m,k',⟨h2 k f (by omega) (by omega) hc,?_⟩,g1,g2,g3,g4,g5,SegQ.imp (fun q f a b=>h1 q f (by omega) b) (fun q f a b=>h2 q f (by omega) b) hr⟩
   rcases hs with hs | ⟨a,b,c,ka,kb,q1,q2,q3,q4,q5,q6,q7,q8,q9,q10,q11,q12⟩ | ⟨a,b,ka,q1,q2,q3,q4,q5,q6,q7,q8,q9⟩
   ·exact .inl hs
   ·exact .inr (.inl ⟨a,b,c,ka,kb,q1,SegQ.imp (fun q f a b=>h1 q f (by omega) (by omega)) (fun q f a b=>h2 q f (by omega) (by omega)) q2,SegQ.imp (fun q f a b=>h1 q f (by omega) (by omega)) (fun q f a b=>h2 q f (by omega) (by omega)) q3,q4,q5,q6,q7,q8,q9,q10,q11,q12⟩)
   ·exact .inr (.inr ⟨a,b,ka,q1,h1 k _ (by omega) (by omega) q2,SegQ.imp (fun q f a b=>h1 q f (by omega) (by omega)) (fun q f a b=>h2 q f (by omega) (by omega)) q3,q4,q5,q6,q7,q8,q9⟩)
theorem SegQ.le {p:Nat → Pt} {s:ByteArray} {cl cs:Nat → (Nat → Bool) → Prop}:∀ {F i j k l:Nat} {f:Nat → Bool},SegQ p s cl cs F i j k l f → k ≤ l
 | 0,_,_,_,_,_,h=>Nat.le_of_eq h.2
 | F + 1,i,j,k,l,f,h=>by
  rcases h with h | ⟨m,k',_,_,_,g3,g4,_⟩
  ·exact Nat.le_of_eq h.2
  ·omega
theorem along_next {s:ByteArray} {F i j m:Nat} {f:Nat → Bool} (h1:i < m) (h2:m ≤ j) (h3:behN s i = m):alongF s (F + 1) i j f = alongF s F m j (afterF (alongF s F) s i f):=by
 show (if i < j then alongF s F (behN s i) j (afterF (alongF s F) s i f) else f) = _
 rw [if_pos (by omega),h3]
def Same (k l:Nat) (z z':Ps):Prop:=∀ q,q < k ∨ l ≤ q → z'.A q = z.A q ∧ z'.B q = z.B q
theorem Same.refl (k l:Nat) (z:Ps):Same k l z z:=fun _ _=>⟨rfl,rfl⟩
theorem Same.trans {k l:Nat} {a b c:Ps} (h:Same k l a b) (g:Same k l b c):Same k l a c:=fun q hq=>⟨(g q hq).1.trans (h q hq).1,(g q hq).2.trans (h q hq).2⟩
theorem Same.mono {k l k' l':Nat} {a b:Ps} (h:Same k l a b) (h1:k' ≤ k) (h2:l ≤ l'):Same k' l' a b:=fun q hq=>h q (by omega)
theorem step_same {p:Nat → Pt} {i k l:Nat} (z:Ps) (hi:k ≤ i) (hl:i < l) (ho:(p i).kind = 12 → k ≤ (p i).opn ∧ (p i).opn < l):Same k l z (stepM p i z):=fun q hq=>by
 refine ⟨updA_ne _ _ (by omega),?_⟩
 show updA (if (p i).kind = 12 then updA z.B (p i).opn (nowM p i z) else z.B) i (nowM p i z) q = z.B q
 rw [updA_ne _ _ (by omega)]
 split
 ·rename_i h
  have:=ho h
  exact updA_ne _ _ (by omega)
 ·rfl
theorem now7 {p:Nat → Pt} {i:Nat} {z:Ps} (h:(p i).kind < 9):nowM p i z = behP (p i) z.now:=by
 unfold nowM
 rw [if_neg (by omega),if_neg (by omega),if_neg (by omega),if_neg (by omega)]
theorem beh7 {t:Pt} (h:t.kind = 8) (f:Nat → Bool):behP t f = f:=by
 unfold behP
 rw [if_neg (by omega),if_neg (by omega),if_neg (by omega)]
theorem now8 {p:Nat → Pt} {i:Nat} {z:Ps} (h:(p i).kind = 9) (ho:(p i).opn ≠ i):nowM p i z = z.A (p i).opn:=by
 unfold nowM
 rw [if_pos h,updA_ne _ _ ho]
theorem now9 {p:Nat → Pt} {i:Nat} {z:Ps} (h:(p i).kind = 10) (ho:(p i).opn ≠ i):nowM p i z = bothF z.now (z.A (p i).opn):=by
 unfold nowM
 rw [if_neg (by omega),if_pos h,updA_ne _ _ ho]
theorem now10 {p:Nat → Pt} {i:Nat} {z:Ps} (h:(p i).kind = 11):nowM p i z = bothF z.now (z.B i):=by
 unfold nowM
 rw [if_neg (by omega),if_neg (by omega),if_pos h]
theorem now11 {p:Nat → Pt} {i:Nat} {z:Ps} (h:(p i).kind = 12):nowM p i z = bothF (z.B (p i).opn) z.now:=by
 unfold nowM
 rw [if_neg (by omega),if_neg (by omega),if_neg (by omega),if_pos h]
theorem step_now {p:Nat → Pt} {i:Nat} {z:Ps}:(stepM p i z).now = nowM p i z:=rfl
theorem step_A {p:Nat → Pt} {i:Nat} {z:Ps}:(stepM p i z).A i = z.now:=updA_at _ _ _
theorem step_B {p:Nat → Pt} {i:Nat} {z:Ps}:(stepM p i z).B i = nowM p i z:=updA_at _ _ _
theorem step_B11 {p:Nat → Pt} {i:Nat} {z:Ps} (h:(p i).kind = 12) (ho:(p i).opn ≠ i):(stepM p i z).B (p i).opn = nowM p i z:=by
 show updA (if (p i).kind = 12 then updA z.B (p i).opn (nowM p i z) else z.B) i (nowM p i z) (p i).opn = _
 rw [updA_ne _ _ ho,if_pos h,updA_at]
theorem step_st11 {p:Nat → Pt} {i:Nat} {z:Ps} (h:(p i).kind = 12) (hs:(stepM p i z).st = true):subF (z.B (p i).opn) z.now:=by
 unfold stepM at hs
 simp [h] at hs
 exact subD_of hs.2
section
variable {p:Nat → Pt} {s:ByteArray}
theorem seg_same {cl cs:Nat → (Nat → Bool) → Prop}:∀ {F i j k l:Nat} {f:Nat → Bool},SegQ p s cl cs F i j k l f → ∀ z,Same k l z (seg p k l z)
 | 0,_,_,k,l,_,h,z=>by
  have e:=h.2
  subst e
  rw [seg_nil]
  exact Same.refl _ _ _
 | F + 1,i,j,k,l,f,h,z=>by
  rcases h with h | ⟨m,k',⟨hc,hs⟩,g1,g2,g3,g4,g5,hr⟩
  ·have e:=h.2
   subst e
   rw [seg_nil]
   exact Same.refl _ _ _
  ·rw [seg_app p (m:=k') (by omega) (by omega)]
   refine Same.trans ?_ ((seg_same hr _).mono (by omega) (Nat.le_refl _))
   rcases hs with ⟨q1,q2,q3⟩ | ⟨a,b,c,ka,kb,q1,q2,q3,q4,q5,q6,q7,q8,q9,q10,q11,q12⟩ | ⟨a,b,ka,q1,q2,q3,q4,q5,q6,q7,q8,q9⟩
   ·rw [q2,seg_one]
    exact step_same z (Nat.le_refl _) (by omega) (fun e=>by have:=q3.kd;omega)
   ·have l2:=q2.le
    have l3:=q3.le
    rw [q5,seg_last p (l:=kb) (by omega),seg_app p (m:=ka + 1) (by omega) (by omega),seg_last p (l:=ka) (by omega),seg_head p (l:=ka) (by omega)]
    refine Same.trans ?_ (step_same _ (by omega) (by omega) (fun e=>by omega))
    refine Same.trans ?_ ((seg_same q3 _).mono (by omega) (by omega))
    refine Same.trans ?_ (step_same _ (by omega) (by omega) (fun e=>by omega))
    refine Same.trans ?_ ((seg_same q2 _).mono (by omega) (by omega))
    exact step_same _ (by omega) (by omega) (fun e=>by omega)
   ·have l2:=q3.le
    rw [q5,seg_last p (l:=ka) (by omega),seg_head p (l:=ka) (by omega)]
    refine Same.trans ?_ (step_same _ (by omega) (by omega) (fun e=>by rw [q8];omega))
    refine Same.trans ?_ ((seg_same q3 _).mono (by omega) (by omega))
    exact step_same _ (by omega) (by omega) (fun e=>by omega)
theorem seg_down {cl cs:Nat → (Nat → Bool) → Prop}:∀ {F i j k l:Nat} {f:Nat → Bool},SegQ p s cl cs F i j k l f → ∀ z,Clean z.now → (seg p k l z).st = true → Clean (seg p k l z).now ∧ Sub (seg p k l z).now (alongF s F i j z.now)
 | 0,i,j,k,l,_,h,z,hc,hst=>by
  obtain ⟨e1,e2⟩:=h
  subst e1 e2
  rw [seg_nil]
  exact ⟨hc,Sub.refl _⟩
 | F + 1,i,j,k,l,f,h,z,hcz,hst=>by
  rcases h with ⟨e1,e2⟩ | ⟨m,k',⟨hc,hs⟩,g1,g2,g3,g4,g5,hr⟩
  ·subst e1 e2
   rw [seg_nil,alongF_end]
   exact ⟨hcz,Sub.refl _⟩
  ·rw [seg_app p (m:=k') (by omega) (by omega)] at hst ⊢
   have hst1:=seg_st hst
   have key:Clean (seg p k k' z).now ∧ Sub (seg p k k' z).now (afterF (alongF s F) s i z.now):=by
    rcases hs with ⟨q1,q2,q3⟩ | ⟨a,b,c,ka,kb,q1,q2,q3,q4,q5,q6,q7,q8,q9,q10,q11,q12⟩ | ⟨a,b,ka,q1,q2,q3,q4,q5,q6,q7,q8,q9⟩
    ·rw [q2,seg_one,step_now,now7 (by have:=q3.kd;omega),q3.eff _ hcz,afterF_simple q1]
     exact ⟨hcz.sim,Sub.refl _⟩
    ·have l2:=q2.le
     have l3:=q3.le
     rw [q5,seg_last p (l:=kb) (by omega),seg_app p (m:=ka + 1) (by omega) (by omega),seg_last p (l:=ka) (by omega),seg_head p (l:=ka) (by omega)] at hst1 ⊢
     have n0:(stepM p k z).now = z.now:=by rw [step_now,now7 (by omega),beh7 q6.1]
     have s1:=seg_same q2 (stepM p k z)
     have d1:=fun h=>seg_down q2 (stepM p k z) (by rw [n0];exact hcz) h
     generalize hz1:seg p (k + 1) ka (stepM p k z) = z1 at hst1 s1 d1 ⊢
     have nA:z1.A k = z.now:=((s1 k (.inl (by omega))).1).trans step_A
     have n1:(stepM p ka z1).now = z.now:=by rw [step_now,now8 q7 (by omega),q8,nA]
     have s2:=seg_same q3 (stepM p ka z1)
     have d2:=fun h=>seg_down q3 (stepM p ka z1) (by rw [n1];exact hcz) h
     have hA2:(stepM p ka z1).A ka = z1.now:=step_A
     have hstm:=step_st hst1
     generalize hz2:seg p (ka + 1) kb (stepM p ka z1) = z2 at hst1 s2 d2 hstm ⊢
     have nA2:z2.A ka = z1.now:=((s2 ka (.inl (by omega))).1).trans hA2
     have e2:=d2 hstm
     have hst3:(stepM p ka z1).st = true:=by rw [← hz2] at hstm;exact seg_st hstm
     have e1:=d1 (step_st hst3)
     rw [step_now,now9 q9 (by omega),q10,nA2,afterF_if q1,both_comm]
     rw [n0] at e1
     rw [n1] at e2
     exact ⟨e1.1.both,e1.2.both e2.2⟩
    ·have l2:=q3.le
     rw [q5,seg_last p (l:=ka) (by omega),seg_head p (l:=ka) (by omega)] at hst1 ⊢
     have n0:(stepM p k z).now = bothF z.now (z.B k):=by rw [step_now,now10 q6.1]
     have hB:(stepM p k z).B k = bothF z.now (z.B k):=by rw [step_B,now10 q6.1]
     have hc0:Clean (bothF z.now (z.B k)):=hcz.both
     have s1:=seg_same q3 (stepM p k z)
     have d1:=seg_down q3 (stepM p k z) (by rw [n0];exact hc0) (step_st hst1)
     generalize seg p (k + 1) ka (stepM p k z) = z1 at hst1 s1 d1 ⊢
     have nB:z1.B k = bothF z.now (z.B k):=((s1 k (.inl (by omega))).2).trans hB
     have hsub:=step_st11 q7 hst1
     rw [q8,nB] at hsub
     rw [n0] at d1
     have hp:Sub (bothF z.now (z.B k)) z1.now:=Sub.of hc0 hsub
     have hpf:Sub (bothF z.now (z.B k)) (alongF s F (a + 1) b (bothF z.now (z.B k))):=hp.trans d1.2
     rw [step_now,now11 q7,q8,nB,both_sub hp,afterF_loop q1]
     exact ⟨hc0,iter_great (fun f g h=>along_mono h) hpf 27 z.now (Sub.left _ _)⟩
   have e:=seg_down hr (seg p k k' z) key.1 hst
   rw [along_next g1 g2 g5]
   exact ⟨e.1,e.2.trans (along_mono key.2)⟩
end
end
section
def Holds (f:Nat → Bool) (bx:Nat → List Nat):Prop:=∀ i,f i = true → bx i ≠ []
theorem Holds.sub {f g:Nat → Bool} {bx:Nat → List Nat} (h:Holds g bx) (hs:Sub f g):Holds f bx:=fun i q=>h i (hs i q)
theorem iter_self {T:(Nat → Bool) → Nat → Bool} {H:Nat → Bool} (h:Sub H (T H)):∀ n,iterF T n H = H
 | 0=>rfl
 | n + 1=>by
  show iterF T n (bothF H (T H)) = H
  rw [both_sub h]
  exact iter_self h n
def AcOk:Ac → Prop
 | .set v o=>v < 26 ∧ OdOk o
 | .bin v o _ p=>v < 26 ∧ OdOk o ∧ OdOk p
 | .load v b o=>v < 26 ∧ b < 26 ∧ OdOk o
 | .size v b=>v < 26 ∧ b < 26
 | .make b o=>b < 26 ∧ OdOk o
 | .move b c=>b < 26 ∧ c < 26
 | .store b o p=>b < 26 ∧ OdOk o ∧ OdOk p
 | .drop b=>b < 26
 | .print o=>OdOk o
def PgOk:Pg → Prop
 | .nil=>True
 | .act a r=>AcOk a ∧ PgOk r
 | .ite o p q r=>OdOk o ∧ PgOk p ∧ PgOk q ∧ PgOk r
 | .loop o p r=>OdOk o ∧ PgOk p ∧ PgOk r
theorem clean_aftA {a:Ac} (h:AcOk a) {f:Nat → Bool} (hf:Clean f):Clean (aftA a f):=by
 cases a <;> try exact hf
 ·exact hf.upd h.1 _
 ·show Clean (if _ then _ else _)
  split
  ·exact hf
  ·exact (hf.upd h.1 _).off _
 ·exact hf.off _
theorem clean_iter {T:(Nat → Bool) → Nat → Bool}:∀ (n:Nat) {f:Nat → Bool},Clean f → Clean (iterF T n f)
 | 0,_,h=>h
 | n + 1,_,h=>clean_iter n h.both
theorem clean_aftG:∀ {P:Pg},PgOk P → ∀ {f:Nat → Bool},Clean f → Clean (aftG P f)
 | .nil,_,_,hf=>hf
 | .act a r,h,_,hf=>clean_aftG h.2 (clean_aftA h.1 hf)
 | .ite o p q r,h,_,hf=>clean_aftG h.2.2.2 (clean_aftG h.2.1 hf).both
 | .loop o p r,h,_,hf=>clean_aftG h.2.2 (clean_iter 27 hf)
theorem act_holds {c:Cf} (hc:c.strict = false) {a:Ac} {f:Nat → Bool} {σ:St} (hu:∀ b,useA a = some b → f b = true) (hf:Holds f σ.bx) (h4:σ.status ≠ 4) :
  (act c a σ).1.status ≠ 4 ∧ ((act c a σ).2 = true → Holds (aftA a f) (act c a σ).1.bx):=by
 cases a with
 | set v o=>exact ⟨h4,fun _=>hf⟩
 | bin v o k p =>
  simp only [act]
  split
  ·exact ⟨by simp [ends],fun q=>by simp [ends] at q⟩
  ·exact ⟨h4,fun _=>hf⟩
 | load v b o =>
  simp only [act]
  rw [if_neg (hf b (hu b rfl))]
  split
  ·exact ⟨by simp [ends],fun q=>by simp [ends] at q⟩
  ·exact ⟨h4,fun _=>hf⟩
 | size v b =>
  simp only [act]
  rw [if_neg (hf b (hu b rfl))]
  exact ⟨h4,fun _=>hf⟩
 | make b o =>
  simp only [act,hc]
  rw [if_neg (by simp)]
  split
  ·exact ⟨by simp [ends],fun q=>by simp [ends] at q⟩
  ·rename_i hv
   split
   ·exact ⟨by simp [ends],fun q=>by simp [ends] at q⟩
   ·refine ⟨h4,fun _ i q=>?_⟩
    show upB σ.bx b _ i ≠ []
    by_cases e:i = b
    ·subst e
     rw [upB_at]
     intro q2
     have:=congrArg List.length q2
     simp at this
     omega
    ·rw [upB_ne _ _ e]
     have:updB f b true i = true:=q
     unfold updB at this
     rw [if_neg e] at this
     exact hf i this
 | move b d =>
  simp only [act,hc]
  have hd:=hf d (hu d rfl)
  rw [if_neg hd]
  split
  ·rename_i e
   refine ⟨h4,fun _=>?_⟩
   show Holds (if b = d then f else _) _
   rw [if_pos e]
   exact hf
  ·rename_i e
   rw [if_neg (by simp)]
   refine ⟨h4,fun _ i q=>?_⟩
   show upB (upB σ.bx b (σ.bx d)) d [] i ≠ []
   have q2:(if b = d then f else updB (updB f b (f d)) d false) i = true:=q
   rw [if_neg e] at q2
   unfold updB at q2
   split at q2
   ·cases q2
   ·rename_i e2
    rw [upB_ne _ _ e2]
    split at q2
    ·rename_i e3
     subst e3
     rw [upB_at]
     exact hd
    ·rename_i e3
     rw [upB_ne _ _ e3]
     exact hf i q2
 | store b o p =>
  simp only [act]
  have hb:=hf b (hu b rfl)
  rw [if_neg hb]
  split
  ·exact ⟨by simp [ends],fun q=>by simp [ends] at q⟩
  ·refine ⟨h4,fun _ i q=>?_⟩
   show upB σ.bx b _ i ≠ []
   by_cases e:i = b
   ·subst e
    rw [upB_at]
    intro q2
    have:=congrArg List.length q2
    simp at this
    exact hb this
   ·rw [upB_ne _ _ e]
    exact hf i q
 | drop b =>
  simp only [act]
  rw [if_neg (hf b (hu b rfl))]
  refine ⟨h4,fun _ i q=>?_⟩
  show upB σ.bx b [] i ≠ []
  have q2:updB f b false i = true:=q
  unfold updB at q2
  split at q2
  ·cases q2
  ·rename_i e
   rw [upB_ne _ _ e]
   exact hf i q2
 | print o=>exact ⟨h4,fun _=>hf⟩
theorem stp_holds {c:Cf} (hc:c.strict = false) {a:Ac} {f:Nat → Bool} {σ:St} (hu:∀ b,useA a = some b → f b = true) (hf:Holds f σ.bx) (h4:σ.status ≠ 4) :
  (stp c a σ).1.status ≠ 4 ∧ ((stp c a σ).2 = true → Holds (aftA a f) (stp c a σ).1.bx):=by
 unfold stp
 split
 ·split
  ·exact ⟨by simp [tire],fun q=>by simp at q⟩
  ·exact act_holds hc hu hf h4
 ·exact act_holds hc hu hf h4
theorem Ex.sound {c:Cf} (hc:c.strict = false) {P:Pg} {σ σ':St} {b:Bool} (h:Ex c P σ σ' b):∀ {f:Nat → Bool},PgOk P → Clean f → okG P f → Holds f σ.bx → σ.status ≠ 4 → σ'.status ≠ 4 ∧ (b = true → Holds (aftG P f) σ'.bx):=by
 induction h with
 | nil σ=>exact fun hp hf ho hh h4=>⟨h4,fun _=>hh⟩
 | @stop a r σ σ' h =>
  intro f hp hf ho hh h4
  rw [okG_act] at ho
  have:=stp_holds hc ho.1 hh h4
  rw [h] at this
  exact ⟨this.1,fun q=>by cases q⟩
 | @go a r σ σ1 σ2 b h hr ih =>
  intro f hp hf ho hh h4
  rw [okG_act] at ho
  rw [aftG_act]
  have:=stp_holds hc ho.1 hh h4
  rw [h] at this
  exact ih hp.2 (clean_aftA hp.1 hf) ho.2 (this.2 rfl) this.1
 | iteTired h=>exact fun hp hf ho hh h4=>⟨by simp [tire],fun q=>by cases q⟩
 | @iteStop o p q r σ σ1 h hp ih =>
  intro f hpo hf ho hh h4
  rw [okG_ite] at ho
  refine ⟨?_,fun q=>by cases q⟩
  by_cases e:valO σ.num o ≠ 0
  ·rw [if_pos e] at ih
   exact (ih hpo.2.1 hf ho.1 hh h4).1
  ·rw [if_neg e] at ih
   exact (ih hpo.2.2.1 hf ho.2.1 hh h4).1
 | @iteGo o p q r σ σ1 σ2 b h hp hr ih1 ih2 =>
  intro f hpo hf ho hh h4
  rw [okG_ite] at ho
  rw [aftG_ite]
  by_cases e:valO σ.num o ≠ 0
  ·rw [if_pos e] at ih1
   obtain ⟨g1,g2⟩:=ih1 hpo.2.1 hf ho.1 hh h4
   exact ih2 hpo.2.2.2 (clean_aftG hpo.2.1 hf).both ho.2.2 ((g2 rfl).sub (Sub.left _ _)) g1
  ·rw [if_neg e] at ih1
   obtain ⟨g1,g2⟩:=ih1 hpo.2.2.1 hf ho.2.1 hh h4
   exact ih2 hpo.2.2.2 (clean_aftG hpo.2.1 hf).both ho.2.2 ((g2 rfl).sub (Sub.right _ _)) g1
 | loopTired h=>exact fun hp hf ho hh h4=>⟨by simp [tire],fun q=>by cases q⟩
 | @loopEnd o p r σ σ2 b h h0 hr ih =>
  intro f hpo hf ho hh h4
  rw [okG_loop] at ho
  rw [aftG_loop]
  have hsub:=iter_sub (T:=aftG p) 27 f
  have hcl:=clean_iter (T:=aftG p) 27 hf
  generalize iterF (aftG p) 27 f = H at *
  exact ih hpo.2.2 hcl ho.2 (Holds.sub hh hsub) h4
 | @loopStop o p r σ σ1 h h0 hp ih =>
  intro f hpo hf ho hh h4
  rw [okG_loop] at ho
  have hsub:=iter_sub (T:=aftG p) 27 f
  have hcl:=clean_iter (T:=aftG p) 27 hf
  generalize iterF (aftG p) 27 f = H at *
  exact ⟨(ih hpo.2.1 hcl ho.1 (Holds.sub hh hsub) h4).1,fun q=>by cases q⟩
 | @loopGo o p r σ σ1 σ2 b h h0 hp hr ih1 ih2 =>
  intro f hpo hf ho hh h4
  rw [okG_loop] at ho
  rw [aftG_loop]
  have hsub:=iter_sub (T:=aftG p) 27 f
  have hcl:=clean_iter (T:=aftG p) 27 hf
  have hfix:Sub (iterF (aftG p) 27 f) (aftG p (iterF (aftG p) 27 f)):=iter_fix 27 f hf (by have:=card_le f 26;omega)
  generalize iterF (aftG p) 27 f = H at *
  have hself:=iter_self hfix 27
  obtain ⟨g1,g2⟩:=ih1 hpo.2.1 hcl ho.1 (Holds.sub hh hsub) h4
  have:=ih2 (f:=H) hpo hcl (by rw [okG_loop,hself];exact ho) ((g2 rfl).sub hfix) g1
  rw [aftG_loop,hself] at this
  exact this
end
end Go.Proofs.YthcjcjfgdgnljabGreatDoor
