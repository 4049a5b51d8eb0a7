import Derived.Test.YthcjcjfgdgnljabGreatDoorGMacC
set_option linter.unusedVariables false
set_option maxHeartbeats 4000000
set_option maxRecDepth 8000
open Go.Proofs.Tryz
namespace Go.Proofs.YthcjcjfgdgnljabGreatDoor
def FreeS (n:Nat) (σ:St) (k a:Nat):Prop:=a + k ≤ n ∧ ∀ b,b < 26 → σ.bx b ≠ [] → a + k ≤ σ.at_ b ∨ σ.at_ b + (σ.bx b).length ≤ a
instance (n:Nat) (σ:St) (k a:Nat):Decidable (FreeS n σ k a):=by unfold FreeS;infer_instance
def allocS (n:Nat) (σ:St) (k:Nat):Option Nat:=(List.range (n + 1)).find? (fun a=>decide (FreeS n σ k a))
theorem alloc_is {n:Nat} {σ:St} {k a:Nat} (h:allocS n σ k = some a):FreeS n σ k a ∧ ∀ b,b < a → ¬ FreeS n σ k b:=by
 unfold allocS at h
 rw [List.find?_range_eq_some] at h
 exact ⟨by simpa using h.1,fun b hb=>by simpa using h.2.2 b hb⟩
theorem alloc_no {n:Nat} {σ:St} {k:Nat} (h:allocS n σ k = none):∀ a,¬ FreeS n σ k a:=fun a ha=>by
 unfold allocS at h
 rw [List.find?_eq_none] at h
 have:=h a (by have:=ha.1;simp;omega)
 exact this (by simpa using ha)
theorem alloc_cases (n:Nat) (σ:St) (k:Nat):(∃ a,allocS n σ k = some a) ∨ allocS n σ k = none:=by
 cases h:allocS n σ k with
 | none=>exact .inr rfl
 | some a=>exact .inl ⟨a,rfl⟩
def cP:Cf:=⟨false,fun _ _=>some 0⟩
def cE (strict:Bool) (n:Nat):Cf:=⟨strict,allocS n⟩
structure Ap (n:Nat) (σ:St):Prop where
 inn:∀ b,b < 26 → σ.bx b ≠ [] → σ.at_ b + (σ.bx b).length ≤ n
 sz:∀ b,b < 26 → (σ.bx b).length ≤ 64
 ap:∀ b c,b < 26 → c < 26 → b ≠ c → σ.bx b ≠ [] → σ.bx c ≠ [] → σ.at_ b + (σ.bx b).length ≤ σ.at_ c ∨ σ.at_ c + (σ.bx c).length ≤ σ.at_ b
theorem left_out:∀ (m:Nat) (L:List Nat),L.length ≤ m → ∃ j,j ≤ m ∧ j ∉ L
 | 0,L,h=>⟨0,Nat.le_refl _,by have e:L = []:=List.eq_nil_of_length_eq_zero (by omega);rw [e];simp⟩
 | m + 1,L,h=>by
  by_cases hm:(m + 1) ∈ L
  ·have hl:(L.erase (m + 1)).length ≤ m:=by rw [List.length_erase_of_mem hm];omega
   obtain ⟨j,h1,h2⟩:=left_out m (L.erase (m + 1)) hl
   exact ⟨j,by omega,fun q=>h2 ((List.mem_erase_of_ne (by omega)).2 q)⟩
  ·exact ⟨m + 1,Nat.le_refl _,hm⟩
def fieldsOf (σ:St) (b:Nat):List Nat:=if σ.bx b = [] then [] else [σ.at_ b / 64,(σ.at_ b + (σ.bx b).length - 1) / 64]
theorem fields_len (σ:St):∀ (L:List Nat),(L.flatMap (fieldsOf σ)).length ≤ 2 * L.length
 | []=>Nat.le_refl _
 | b :: L=>by
  have:=fields_len σ L
  have h:(fieldsOf σ b).length ≤ 2:=by unfold fieldsOf;split <;> simp
  simp only [List.flatMap_cons,List.length_append,List.length_cons]
  omega
theorem fields_len0 (σ:St) {v:Nat} (hv:σ.bx v = []):∀ (L:List Nat),v ∈ L → (L.flatMap (fieldsOf σ)).length + 2 ≤ 2 * L.length
 | [],h=>by cases h
 | b :: L,h=>by
  simp only [List.flatMap_cons,List.length_append,List.length_cons]
  by_cases e:v = b
  ·subst e
   have:=fields_len σ L
   have h0:(fieldsOf σ v).length = 0:=by unfold fieldsOf;rw [if_pos hv];rfl
   omega
  ·have hm:v ∈ L:=by
    rcases List.mem_cons.1 h with q | q
    ·exact absurd q e
    ·exact q
   have:=fields_len0 σ hv L hm
   have h:(fieldsOf σ b).length ≤ 2:=by unfold fieldsOf;split <;> simp
   omega
theorem room {n:Nat} {σ:St} (hn:3264 ≤ n) (h:Ap n σ) {v k:Nat} (hv:v < 26) (he:σ.bx v = []) (hk:k ≤ 64):∃ a,FreeS n σ k a:=by
 have hlen:=fields_len0 σ he (List.range 26) (by simpa using hv)
 obtain ⟨j,h1,h2⟩:=left_out 50 ((List.range 26).flatMap (fieldsOf σ)) (by simp at hlen ⊢;omega)
 refine ⟨64 * j,by omega,fun b hb hbx=>?_⟩
 have hf:j ∉ fieldsOf σ b:=fun q=>h2 (List.mem_flatMap.2 ⟨b,by simpa using hb,q⟩)
 unfold fieldsOf at hf
 rw [if_neg hbx] at hf
 have h0:0 < (σ.bx b).length:=List.length_pos_iff.2 hbx
 have h64:=h.sz b hb
 have f1:j ≠ σ.at_ b / 64:=fun q=>hf (by simp [q])
 have f2:j ≠ (σ.at_ b + (σ.bx b).length - 1) / 64:=fun q=>hf (by simp [q])
 omega
theorem Ap.keep {n:Nat} {σ τ:St} (h:Ap n σ) (hb:τ.bx = σ.bx) (ha:τ.at_ = σ.at_):Ap n τ:=⟨by rw [hb,ha];exact h.inn,by rw [hb];exact h.sz,by rw [hb,ha];exact h.ap⟩
theorem Ap.less {n:Nat} {σ τ:St} (h:Ap n σ) (hb:∀ b,τ.bx b ≠ [] → σ.bx b ≠ [] ∧ (τ.bx b).length = (σ.bx b).length) (ha:τ.at_ = σ.at_):Ap n τ:=by
 refine ⟨fun b h1 h2=>?_,fun b h1=>?_,fun b c h1 h2 h3 h4 h5=>?_⟩
 ·rw [ha,(hb b h2).2];exact h.inn b h1 (hb b h2).1
 ·by_cases e:τ.bx b = []
  ·rw [e];simp
  ·rw [(hb b e).2];exact h.sz b h1
 ·rw [ha,(hb b h4).2,(hb c h5).2];exact h.ap b c h1 h2 h3 (hb b h4).1 (hb c h5).1
theorem Ap.drop {n:Nat} {σ:St} (h:Ap n σ) (v:Nat):Ap n { σ with bx:=upB σ.bx v [] }:=h.less (fun b hb=>by
 have hb':upB σ.bx v [] b ≠ []:=hb
 by_cases e:b = v
 ·subst e;rw [upB_at] at hb';exact absurd rfl hb'
 ·rw [upB_ne _ _ e] at hb'
  exact ⟨hb',by show (upB σ.bx v [] b).length = _;rw [upB_ne _ _ e]⟩) rfl
theorem Ap.fill {n:Nat} {σ:St} {v k a p:Nat} {l:List Nat} (h:Ap n { σ with bx:=upB σ.bx v [] }) (hl:l.length = k) (hk:k ≤ 64) (hf:FreeS n { σ with bx:=upB σ.bx v [] } k a):Ap n { σ with bx:=upB σ.bx v l,at_:=upN σ.at_ v a,peak:=p }:=by
 have hoff:∀ b,b ≠ v → upB σ.bx v l b = upB σ.bx v [] b:=fun b e=>by rw [upB_ne _ _ e,upB_ne _ _ e]
 refine ⟨fun b h1 h2=>?_,fun b h1=>?_,fun b c h1 h2 h3 h4 h5=>?_⟩
 ·show upN σ.at_ v a b + (upB σ.bx v l b).length ≤ n
  by_cases e:b = v
  ·subst e;rw [upN_at,upB_at,hl];exact hf.1
  ·have h2':upB σ.bx v l b ≠ []:=h2
   rw [upN_ne _ _ e,hoff b e];rw [hoff b e] at h2'
   exact h.inn b h1 h2'
 ·show (upB σ.bx v l b).length ≤ 64
  by_cases e:b = v
  ·subst e;rw [upB_at,hl];exact hk
  ·rw [hoff b e];exact h.sz b h1
 ·show upN σ.at_ v a b + (upB σ.bx v l b).length ≤ upN σ.at_ v a c ∨ upN σ.at_ v a c + (upB σ.bx v l c).length ≤ upN σ.at_ v a b
  have h4':upB σ.bx v l b ≠ []:=h4
  have h5':upB σ.bx v l c ≠ []:=h5
  by_cases e:b = v
  ·have e2:c ≠ v:=fun q=>h3 (by omega)
   subst e
   rw [upN_at,upB_at,hl,upN_ne _ _ e2,hoff c e2]
   rw [hoff c e2] at h5'
   exact hf.2 c h2 h5'
  ·rw [upN_ne _ _ e,hoff b e]
   rw [hoff b e] at h4'
   by_cases e2:c = v
   ·subst e2
    rw [upN_at,upB_at,hl]
    exact (hf.2 b h1 h4').symm
   ·rw [upN_ne _ _ e2,hoff c e2]
    rw [hoff c e2] at h5'
    exact h.ap b c h1 h2 h3 h4' h5'
theorem Ap.move {n:Nat} {σ:St} {b d:Nat} (h:Ap n σ) (hb:b < 26) (hd:d < 26) (hne:b ≠ d):Ap n { σ with bx:=upB (upB σ.bx b (σ.bx d)) d [],at_:=upN σ.at_ b (σ.at_ d) }:=by
 have e0:∀ i,upB (upB σ.bx b (σ.bx d)) d [] i ≠ [] → i ≠ d ∧ ((i = b ∧ upB (upB σ.bx b (σ.bx d)) d [] i = σ.bx d ∧ upN σ.at_ b (σ.at_ d) i = σ.at_ d) ∨ (i ≠ b ∧ upB (upB σ.bx b (σ.bx d)) d [] i = σ.bx i ∧ upN σ.at_ b (σ.at_ d) i = σ.at_ i)):=fun i hi=>by
  by_cases e:i = d
  ·subst e;rw [upB_at] at hi;exact absurd rfl hi
  ·refine ⟨e,?_⟩
   by_cases e2:i = b
   ·subst e2;exact .inl ⟨rfl,by rw [upB_ne _ _ e,upB_at],upN_at _ _ _⟩
   ·exact .inr ⟨e2,by rw [upB_ne _ _ e,upB_ne _ _ e2],upN_ne _ _ e2⟩
 refine ⟨fun i h1 h2=>?_,fun i h1=>?_,fun i j h1 h2 h3 h4 h5=>?_⟩
 ·have h2':upB (upB σ.bx b (σ.bx d)) d [] i ≠ []:=h2
  show upN σ.at_ b (σ.at_ d) i + (upB (upB σ.bx b (σ.bx d)) d [] i).length ≤ n
  obtain ⟨_,⟨_,q1,q2⟩ | ⟨_,q1,q2⟩⟩:=e0 i h2'
  ·rw [q1] at h2';rw [q1,q2];exact h.inn d hd h2'
  ·rw [q1] at h2';rw [q1,q2];exact h.inn i h1 h2'
 ·show (upB (upB σ.bx b (σ.bx d)) d [] i).length ≤ 64
  by_cases e:upB (upB σ.bx b (σ.bx d)) d [] i = []
  ·rw [e];simp
  ·obtain ⟨_,⟨_,q1,q2⟩ | ⟨_,q1,q2⟩⟩:=e0 i e
   ·rw [q1];exact h.sz d hd
   ·rw [q1];exact h.sz i h1
 ·have h4':upB (upB σ.bx b (σ.bx d)) d [] i ≠ []:=h4
  have h5':upB (upB σ.bx b (σ.bx d)) d [] j ≠ []:=h5
  show upN σ.at_ b (σ.at_ d) i + (upB (upB σ.bx b (σ.bx d)) d [] i).length ≤ upN σ.at_ b (σ.at_ d) j ∨ upN σ.at_ b (σ.at_ d) j + (upB (upB σ.bx b (σ.bx d)) d [] j).length ≤ upN σ.at_ b (σ.at_ d) i
  obtain ⟨n1,⟨p0,p1,p2⟩ | ⟨p0,p1,p2⟩⟩:=e0 i h4'
  ·obtain ⟨n2,⟨q0,q1,q2⟩ | ⟨q0,q1,q2⟩⟩:=e0 j h5'
   ·exact absurd (p0.trans q0.symm) h3
   ·rw [p1] at h4';rw [q1] at h5'
    rw [p1,p2,q1,q2];exact h.ap d j hd h2 (Ne.symm n2) h4' h5'
  ·obtain ⟨n2,⟨q0,q1,q2⟩ | ⟨q0,q1,q2⟩⟩:=e0 j h5'
   ·rw [p1] at h4';rw [q1] at h5'
    rw [p1,p2,q1,q2];exact h.ap i d h1 hd n1 h4' h5'
   ·rw [p1] at h4';rw [q1] at h5'
    rw [p1,p2,q1,q2];exact h.ap i j h1 h2 h3 h4' h5'
structure Sim (σ τ:St):Prop where
 num:τ.num = σ.num
 bx:τ.bx = σ.bx
 left:τ.left = σ.left
 status:τ.status = σ.status
 tr:τ.tr = σ.tr
theorem act_sim {n:Nat} (hn:3264 ≤ n) {a:Ac} (ha:AcOk a) {σ τ:St} (h:Sim σ τ) (hp:Ap n τ):Sim (act cP a σ).1 (act (cE false n) a τ).1 ∧ (act (cE false n) a τ).2 = (act cP a σ).2 ∧ Ap n (act (cE false n) a τ).1:=by
 obtain ⟨num,bx,at_,left,status,tr,peak⟩:=σ
 obtain ⟨num',bx',at_',left',status',tr',peak'⟩:=τ
 obtain ⟨h1,h2,h3,h4,h5⟩:=h
 simp only [] at h1 h2 h3 h4 h5
 subst h1 h2 h3 h4 h5
 have K:∀ (num2:Nat → Nat) (left2 status2:Nat) (tr2:List Nat) (pk2:Nat),Ap n ⟨num2,bx',at_',left2,status2,tr2,pk2⟩:=fun _ _ _ _ _=>hp.keep rfl rfl
 cases a with
 | set v o=>exact ⟨⟨rfl,rfl,rfl,rfl,rfl⟩,rfl,K _ _ _ _ _⟩
 | bin v o k p =>
  simp only [act]
  cases hb:binN k (valO num' o) (valO num' p) with
  | none=>exact ⟨⟨rfl,rfl,rfl,rfl,rfl⟩,rfl,K _ _ _ _ _⟩
  | some x=>exact ⟨⟨rfl,rfl,rfl,rfl,rfl⟩,rfl,K _ _ _ _ _⟩
 | load v b o =>
  simp only [act]
  split
  ·exact ⟨⟨rfl,rfl,rfl,rfl,rfl⟩,rfl,K _ _ _ _ _⟩
  ·split
   ·exact ⟨⟨rfl,rfl,rfl,rfl,rfl⟩,rfl,K _ _ _ _ _⟩
   ·exact ⟨⟨rfl,rfl,rfl,rfl,rfl⟩,rfl,K _ _ _ _ _⟩
 | size v b =>
  simp only [act]
  split
  ·exact ⟨⟨rfl,rfl,rfl,rfl,rfl⟩,rfl,K _ _ _ _ _⟩
  ·exact ⟨⟨rfl,rfl,rfl,rfl,rfl⟩,rfl,K _ _ _ _ _⟩
 | make b o =>
  simp only [act,show (cE false n).strict = false from rfl,show cP.strict = false from rfl,Bool.false_eq_true,false_and,if_false]
  split
  ·exact ⟨⟨rfl,rfl,rfl,rfl,rfl⟩,rfl,K _ _ _ _ _⟩
  ·rename_i hv
   have hd:=hp.drop b
   obtain ⟨a,ha2⟩:=room hn hd ha.1 (by show upB bx' b [] b = [];rw [upB_at]) (k:=valO num' o) (by omega)
   rcases alloc_cases n { num:=num',bx:=upB bx' b [],at_:=at_',left:=left',status:=status',tr:=tr',peak:=peak' } (valO num' o) with ⟨a1,h1⟩ | h1
   ·have e1:(cE false n).al { num:=num',bx:=upB bx' b [],at_:=at_',left:=left',status:=status',tr:=tr',peak:=peak' } (valO num' o) = some a1:=h1
    rw [e1]
    refine ⟨⟨rfl,rfl,rfl,rfl,rfl⟩,rfl,?_⟩
    exact Ap.fill (σ:={ num:=num',bx:=bx',at_:=at_',left:=left',status:=status',tr:=tr',peak:=peak' }) (k:=valO num' o) hd (by simp) (by omega) (alloc_is h1).1
   ·exact absurd ha2 (alloc_no h1 a)
 | move b d =>
  simp only [act,show (cE false n).strict = false from rfl,show cP.strict = false from rfl,Bool.false_eq_true,false_and,if_false]
  split
  ·exact ⟨⟨rfl,rfl,rfl,rfl,rfl⟩,rfl,K _ _ _ _ _⟩
  ·split
   ·exact ⟨⟨rfl,rfl,rfl,rfl,rfl⟩,rfl,K _ _ _ _ _⟩
   ·rename_i hne
    exact ⟨⟨rfl,rfl,rfl,rfl,rfl⟩,rfl,Ap.move (σ:={ num:=num',bx:=bx',at_:=at_',left:=left',status:=status',tr:=tr',peak:=peak' }) hp ha.1 ha.2 hne⟩
 | store b o p =>
  simp only [act]
  split
  ·exact ⟨⟨rfl,rfl,rfl,rfl,rfl⟩,rfl,K _ _ _ _ _⟩
  ·split
   ·exact ⟨⟨rfl,rfl,rfl,rfl,rfl⟩,rfl,K _ _ _ _ _⟩
   ·refine ⟨⟨rfl,rfl,rfl,rfl,rfl⟩,rfl,hp.less (fun i hi=>?_) rfl⟩
    have hi':upB bx' b ((bx' b).set (valO num' o) (valO num' p)) i ≠ []:=hi
    show bx' i ≠ [] ∧ (upB bx' b ((bx' b).set (valO num' o) (valO num' p)) i).length = (bx' i).length
    by_cases e:i = b
    ·subst e;rw [upB_at] at hi' ⊢;refine ⟨fun q=>hi' (by rw [q];rfl),by simp⟩
    ·rw [upB_ne _ _ e] at hi' ⊢;exact ⟨hi',rfl⟩
 | drop b =>
  simp only [act]
  split
  ·exact ⟨⟨rfl,rfl,rfl,rfl,rfl⟩,rfl,K _ _ _ _ _⟩
  ·exact ⟨⟨rfl,rfl,rfl,rfl,rfl⟩,rfl,hp.drop b⟩
 | print o=>exact ⟨⟨rfl,rfl,rfl,rfl,rfl⟩,rfl,K _ _ _ _ _⟩
theorem Sim.due {σ τ:St} (h:Sim σ τ):Sim (due σ) (due τ):=⟨h.num,h.bx,by show τ.left - 1 = σ.left - 1;rw [h.left],h.status,h.tr⟩
theorem stp_sim {n:Nat} (hn:3264 ≤ n) {a:Ac} (ha:AcOk a) {σ τ:St} (h:Sim σ τ) (hp:Ap n τ):Sim (stp cP a σ).1 (stp (cE false n) a τ).1 ∧ (stp (cE false n) a τ).2 = (stp cP a σ).2 ∧ Ap n (stp (cE false n) a τ).1:=by
 unfold stp
 rw [h.left]
 split
 ·split
  ·exact ⟨⟨h.num,h.bx,h.left,rfl,h.tr⟩,rfl,hp.keep rfl rfl⟩
  ·exact act_sim hn ha h.due (hp.keep rfl rfl)
 ·exact act_sim hn ha h hp
theorem Ex.heap {n:Nat} (hn:3264 ≤ n) {P:Pg} {σ σ':St} {b:Bool} (h:Ex cP P σ σ' b):∀ {τ:St},PgOk P → Sim σ τ → Ap n τ → ∃ τ',Ex (cE false n) P τ τ' b ∧ Sim σ' τ' ∧ Ap n τ':=by
 induction h with
 | nil σ=>exact fun hp hs ha=>⟨_,.nil _,hs,ha⟩
 | @stop a r σ σ' h =>
  intro τ hp hs ha
  obtain ⟨s1,s2,s3⟩:=stp_sim hn hp.1 hs ha
  rw [h] at s1 s2
  exact ⟨_,.stop (Prod.ext rfl s2),s1,s3⟩
 | @go a r σ σ1 σ2 b h hr ih =>
  intro τ hp hs ha
  obtain ⟨s1,s2,s3⟩:=stp_sim hn hp.1 hs ha
  rw [h] at s1 s2
  obtain ⟨τ2,e,g1,g2⟩:=ih hp.2 s1 s3
  exact ⟨τ2,.go (Prod.ext rfl s2) e,g1,g2⟩
 | @iteTired o p q r σ h=>exact fun {τ} hp hs ha=>⟨tire τ,.iteTired (by rw [hs.left];exact h),⟨hs.num,hs.bx,hs.left,rfl,hs.tr⟩,ha.keep rfl rfl⟩
 | @iteStop o p q r σ σ1 h hp ih =>
  intro τ hpo hs ha
  have hok:PgOk (if valO σ.num o ≠ 0 then p else q):=by split;exact hpo.2.1;exact hpo.2.2.1
  obtain ⟨τ1,e,g1,g2⟩:=ih hok hs.due (ha.keep rfl rfl)
  exact ⟨τ1,.iteStop (by rw [hs.left];exact h) (by rw [hs.num];exact e),g1,g2⟩
 | @iteGo o p q r σ σ1 σ2 b h hp hr ih1 ih2 =>
  intro τ hpo hs ha
  have hok:PgOk (if valO σ.num o ≠ 0 then p else q):=by split;exact hpo.2.1;exact hpo.2.2.1
  obtain ⟨τ1,e,g1,g2⟩:=ih1 hok hs.due (ha.keep rfl rfl)
  obtain ⟨τ2,e2,k1,k2⟩:=ih2 hpo.2.2.2 g1 g2
  exact ⟨τ2,.iteGo (by rw [hs.left];exact h) (by rw [hs.num];exact e) e2,k1,k2⟩
 | @loopTired o p r σ h=>exact fun {τ} hp hs ha=>⟨tire τ,.loopTired (by rw [hs.left];exact h),⟨hs.num,hs.bx,hs.left,rfl,hs.tr⟩,ha.keep rfl rfl⟩
 | @loopEnd o p r σ σ2 b h h0 hr ih =>
  intro τ hpo hs ha
  obtain ⟨τ1,e,g1,g2⟩:=ih hpo.2.2 hs.due (ha.keep rfl rfl)
  exact ⟨τ1,.loopEnd (by rw [hs.left];exact h) (by rw [hs.num];exact h0) e,g1,g2⟩
 | @loopStop o p r σ σ1 h h0 hp ih =>
  intro τ hpo hs ha
  obtain ⟨τ1,e,g1,g2⟩:=ih hpo.2.1 hs.due (ha.keep rfl rfl)
  exact ⟨τ1,.loopStop (by rw [hs.left];exact h) (by rw [hs.num];exact h0) e,g1,g2⟩
 | @loopGo o p r σ σ1 σ2 b h h0 hp hr ih1 ih2 =>
  intro τ hpo hs ha
  obtain ⟨τ1,e,g1,g2⟩:=ih1 hpo.2.1 hs.due (ha.keep rfl rfl)
  obtain ⟨τ2,e2,k1,k2⟩:=ih2 hpo g1 g2
  exact ⟨τ2,.loopGo (by rw [hs.left];exact h) (by rw [hs.num];exact h0) e e2,k1,k2⟩
section
open Go.RowKit
def toI (l:List Nat):List Int:=l.map (fun n:Nat=>(n:Int))
def trB (l:List Nat):ByteArray:=⟨(l.map UInt8.ofNat).toArray⟩
def rnOf (σ:St) (wv:Nat → Value) (a l:Nat → Int):Rn:=⟨fun k=>(σ.num k:Int),wv,.pointer none,a,l,(σ.left:Int),(σ.status:Int),trB σ.tr,0,0⟩
structure NumOk (σ:St):Prop where
 num:∀ k,σ.num k < 1000
 wd:∀ k v,v ∈ σ.bx k → v < 1000
 sz:∀ k,(σ.bx k).length ≤ 64
theorem val_ok {num:Nat → Nat} (h:∀ k,num k < 1000) {o:Od} (ho:OdOk o):valO num o < 1000:=by
 cases o with
 | n k=>exact h k
 | v x=>exact ho
theorem bin_ok {c x y r:Nat} (hx:x < 1000) (h:binN c x y = some r):r < 1000:=by
 unfold binN at h
 repeat' split at h
 all_goals first | (cases h;done) | (injection h with h;subst h;first | omega | exact Nat.mod_lt _ (by decide) | exact Nat.lt_of_le_of_lt (Nat.div_le_self _ _) hx)
theorem upN_lt {f:Nat → Nat} {k v:Nat} (h:∀ i,f i < 1000) (hv:v < 1000):∀ i,upN f k v i < 1000:=fun i=>by
 unfold upN
 split
 ·exact hv
 ·exact h i
theorem upB_all {f:Nat → List Nat} {k:Nat} {l:List Nat} {p:List Nat → Prop} (h:∀ i,p (f i)) (hl:p l):∀ i,p (upB f k l i):=fun i=>by
 unfold upB
 split
 ·exact hl
 ·exact h i
theorem NumOk.set {σ:St} (h:NumOk σ) {k v:Nat} (hv:v < 1000):NumOk { σ with num:=upN σ.num k v }:=⟨upN_lt h.num hv,h.wd,h.sz⟩
theorem NumOk.box {σ:St} (h:NumOk σ) {k:Nat} {l:List Nat} (hl:∀ v,v ∈ l → v < 1000) (hs:l.length ≤ 64):NumOk { σ with bx:=upB σ.bx k l } :=
 ⟨h.num,fun i=>upB_all (p:=fun l=>∀ v,v ∈ l → v < 1000) h.wd hl i,fun i=>upB_all (p:=fun l=>l.length ≤ 64) h.sz hs i⟩
theorem NumOk.like {σ τ:St} (h:NumOk σ) (h1:τ.num = σ.num) (h2:τ.bx = σ.bx):NumOk τ:=⟨by rw [h1];exact h.num,by rw [h2];exact h.wd,by rw [h2];exact h.sz⟩
theorem act_ok {c:Cf} {a:Ac} {σ:St} (h:NumOk σ) (ha:AcOk a):NumOk (act c a σ).1:=by
 cases a with
 | set v o=>exact h.set (val_ok h.num ha.2)
 | bin v o k p =>
  simp only [act]
  cases hb:binN k (valO σ.num o) (valO σ.num p) with
  | none=>exact h.like rfl rfl
  | some x=>exact h.set (bin_ok (val_ok h.num ha.2.1) hb)
 | load v b o =>
  simp only [act]
  split
  ·exact h.like rfl rfl
  ·split
   ·exact h.like rfl rfl
   ·rename_i h1 h2
    refine h.set ?_
    have hlt:valO σ.num o < (σ.bx b).length:=by omega
    rw [List.getD_eq_getElem?_getD,List.getElem?_eq_getElem hlt]
    exact h.wd b _ (List.getElem_mem hlt)
 | size v b =>
  simp only [act]
  split
  ·exact h.like rfl rfl
  ·exact h.set (Nat.lt_of_le_of_lt (h.sz b) (by decide))
 | make b o =>
  simp only [act]
  split
  ·exact h.like rfl rfl
  ·split
   ·exact h.like rfl rfl
   ·rename_i h1 h2
    split
    ·exact (h.box (k:=b) (l:=[]) (fun v hv=>by cases hv) (by simp)).like rfl rfl
    ·exact (h.box (k:=b) (l:=List.replicate (valO σ.num o) 0) (fun v hv=>by rw [List.mem_replicate] at hv;omega) (by simp;omega)).like rfl rfl
 | move b d =>
  simp only [act]
  split
  ·exact h.like rfl rfl
  ·split
   ·exact h
   ·split
    ·exact h.like rfl rfl
    ·exact ((h.box (k:=b) (l:=σ.bx d) (h.wd d) (h.sz d)).box (k:=d) (l:=[]) (fun v hv=>by cases hv) (by simp)).like rfl rfl
 | store b o p =>
  simp only [act]
  split
  ·exact h.like rfl rfl
  ·split
   ·exact h.like rfl rfl
   ·refine h.box (fun v hv=>?_) (by rw [List.length_set];exact h.sz b)
    rcases List.mem_or_eq_of_mem_set hv with q | q
    ·exact h.wd b v q
    ·rw [q];exact val_ok h.num ha.2.2
 | drop b =>
  simp only [act]
  split
  ·exact h.like rfl rfl
  ·exact h.box (fun v hv=>by cases hv) (by simp)
 | print o=>exact h.like rfl rfl
def PlayR (w:World) (rp base:Nat) (s:ByteArray) (σ:St):Prop:=NumOk σ ∧ ∃ blk wv a l,PlayAt w rp base s (rnOf σ wv a l) (fun k=>toI (σ.bx k)) blk
def FrP (rp base:Nat):Nat → Prop:=fun k=>k = rp ∨ base ≤ k
def PlayS (rp base:Nat) (s:ByteArray) (b:Bool) (σ:St) (w:World) (e:Ending) (w':World):Prop:=e = .returned (.bool b) ∧ PlayR w' rp base s σ ∧ Fr (FrP rp base) w w'
theorem toS {rp base:Nat} {s:ByteArray} {b:Bool} {x':Rn} {bx':Nat → List Int} {σ':St} {w:World} {e:Ending} {w':World} (h:PlaySays rp base s b x' bx' w e w') (hok:NumOk σ') (hx:∀ wv a l,{ x' with wv:=wv,at_:=a,len:=l } = rnOf σ' wv a l) (hb:bx' = fun k=>toI (σ'.bx k)):PlayS rp base s b σ' w e w':=by
 obtain ⟨h1,⟨blk,wv,a,l,h2⟩,h3⟩:=h
 rw [hx,hb] at h2
 exact ⟨h1,⟨hok,blk,wv,a,l,h2⟩,h3⟩
theorem updI_cast (f:Nat → Nat) (k v:Nat):updI (fun k=>(f k:Int)) k (v:Int) = fun i=>(upN f k v i:Int):=by
 funext i
 unfold updI upN
 split <;> rfl
theorem updL_cast (f:Nat → List Nat) (k:Nat) (l:List Nat):updL (fun k=>toI (f k)) k (toI l) = fun i=>toI (upB f k l i):=by
 funext i
 unfold updL upB
 split <;> rfl
theorem toI_nil {l:List Nat}:toI l = [] ↔ l = []:=by unfold toI;simp
theorem toI_len (l:List Nat):(toI l).length = l.length:=by unfold toI;simp
theorem toI_rep (n:Nat):List.replicate n (0:Int) = toI (List.replicate n 0):=by unfold toI;simp
theorem toI_set (l:List Nat) (q v:Nat):(toI l).set q (v:Int) = toI (l.set q v):=by unfold toI;rw [List.map_set]
theorem toI_get {l:List Nat} {q:Nat} (h:q < l.length):(toI l)[q]? = some ((l.getD q 0:Nat):Int):=by
 unfold toI
 rw [List.getElem?_map,List.getElem?_eq_getElem h,List.getD_eq_getElem?_getD,List.getElem?_eq_getElem h]
 rfl
theorem PlayR.no {w w':World} {rp base:Nat} {s:ByteArray} {σ:St} (h:PlayR w rp base s σ) (hF:Fr NoB w w'):PlayR w' rp base s σ:=by
 obtain ⟨h1,blk,wv,a,l,h2⟩:=h
 exact ⟨h1,blk,wv,a,l,h2.no hF⟩
end
section
open Go.RowKit
def AboveC (B:Nat → Nat → Bool):Nat → (Nat → Bool) → Prop:=fun q H=>Sub H (B q)
def TrueC:Nat → (Nat → Bool) → Prop:=fun _ _=>True
def ExactC (A:Nat → Nat → Bool):Nat → (Nat → Bool) → Prop:=fun q f=>A q = f
section
variable {p:Nat → Pt} {s:ByteArray}
theorem SegQ.reB {B B':Nat → Nat → Bool} {F i j k l:Nat} {f:Nat → Bool} (h:SegQ p s (AboveC B) TrueC F i j k l f) (e:∀ q,k ≤ q → q < l → B' q = B q):SegQ p s (AboveC B') TrueC F i j k l f :=
 h.imp (fun q f a b c=>by unfold AboveC at c ⊢;rw [e q a b];exact c) (fun _ _ _ _ _=>trivial)
theorem SQ.reB {B B':Nat → Nat → Bool} {F i m k k':Nat} {f:Nat → Bool} (h:SQ p s (AboveC B) TrueC F (SegQ p s (AboveC B) TrueC F) i m k k' f) (hk:k < k') (e:∀ q,k ≤ q → q < k' → B' q = B q):SQ p s (AboveC B') TrueC F (SegQ p s (AboveC B') TrueC F) i m k k' f:=by
 refine ⟨trivial,?_⟩
 rcases h.2 with q | ⟨a,b,c,ka,kb,q1,q2,q3,q4,q5,q6,q7,q8,q9,q10,q11,q12⟩ | ⟨a,b,ka,q1,q2,q3,q4,q5,q6,q7,q8,q9⟩
 ·exact .inl q
 ·have:=q3.le
  exact .inr (.inl ⟨a,b,c,ka,kb,q1,q2.reB (fun q h1 h2=>e q (by omega) (by omega)),q3.reB (fun q h1 h2=>e q (by omega) (by omega)),q4,q5,q6,q7,q8,q9,q10,q11,q12⟩)
 ·exact .inr (.inr ⟨a,b,ka,q1,by unfold AboveC at q2 ⊢;rw [e k (by omega) (by omega)];exact q2,q3.reB (fun q h1 h2=>e q (by omega) (by omega)),q4,q5,q6,q7,q8,q9⟩)
theorem behP_mono {t:Pt} {f g:Nat → Bool} (h:Sub f g):Sub (behP t f) (behP t g):=by
 unfold behP
 split
 ·exact h.upd _ id
 ·split
  ·exact h.upd _ id
  ·split
   ·unfold moveF
    cases hf:f t.src
    ·cases hg:g t.src
     ·exact (h.upd _ id).upd _ id
     ·exact (h.upd _ id).upd _ (fun e=>absurd e (by simp))
    ·rw [h _ hf]
     exact (h.upd _ id).upd _ id
   ·exact h
theorem head_facts (F a b:Nat) {f:Nat → Bool} (hc:Clean f):Sub (iterF (alongF s F (a + 1) b) 27 f) f ∧ Sub (iterF (alongF s F (a + 1) b) 27 f) (alongF s F (a + 1) b (iterF (alongF s F (a + 1) b) 27 f)) :=
 ⟨iter_sub _ _,iter_fix _ _ hc (by have:=card_le f 26;omega)⟩
theorem seg_up:∀ {F i j k l:Nat} {f:Nat → Bool} (z:Ps),SegQ p s (AboveC z.B) TrueC F i j k l f → Clean f → Sub f z.now → Sub (alongF s F i j f) (seg p k l z).now ∧ SegQ p s (AboveC (seg p k l z).B) TrueC F i j k l f
 | 0,i,j,k,l,f,z,h,hc,hs=>by
  obtain ⟨e1,e2⟩:=h
  subst e1 e2
  rw [seg_nil]
  exact ⟨hs,rfl,rfl⟩
 | F + 1,i,j,k,l,f,z,h,hcf,hsub=>by
  rcases h with ⟨e1,e2⟩ | ⟨m,k',⟨hc,hs⟩,g1,g2,g3,g4,g5,hr⟩
  ·subst e1 e2
   rw [seg_nil,alongF_end]
   exact ⟨hsub,.inl ⟨rfl,rfl⟩⟩
  ·rw [seg_app p (m:=k') (by omega) (by omega)]
   have hcA:Clean (afterF (alongF s F) s i f):=Clean.after (fun a b g hg=>Clean.along hg) hcf
   have key:Sub (afterF (alongF s F) s i f) (seg p k k' z).now ∧ SQ p s (AboveC (seg p k k' z).B) TrueC F (SegQ p s (AboveC (seg p k k' z).B) TrueC F) i m k k' f ∧ Same k k' z (seg p k k' z):=by
    rcases hs with ⟨q1,q2,q3⟩ | ⟨a,b,c,ka,kb,q1,q2,q3,q4,q5,q6,q7,q8,q9,q10,q11,q12⟩ | ⟨a,b,ka,q1,q2,q3,q4,q5,q6,q7,q8,q9⟩
    ·rw [q2,seg_one]
     refine ⟨?_,⟨trivial,.inl ⟨q1,rfl,q3⟩⟩,step_same z (Nat.le_refl _) (by omega) (fun e=>by have:=q3.kd;omega)⟩
     have hk:=q3.kd
     rw [step_now,now7 (by omega),afterF_simple q1,← q3.eff f hcf]
     exact behP_mono hsub
    ·have l2:=q2.le
     have l3:=q3.le
     rw [q5,seg_last p (l:=kb) (by omega),seg_app p (m:=ka + 1) (by omega) (by omega),seg_last p (l:=ka) (by omega),seg_head p (l:=ka) (by omega)]
     have n0:(stepM p k z).now = z.now:=by rw [step_now,now7 (by omega),beh7 q6.1]
     have t0:=step_same (p:=p) (i:=k) (k:=k) (l:=kb + 1) z (by omega) (by omega) (fun e=>by omega)
     have t0':=step_same (p:=p) (i:=k) (k:=k) (l:=k + 1) z (by omega) (by omega) (fun e=>by omega)
     have s1:=seg_same q2 (stepM p k z)
     have u1:=seg_up (stepM p k z) (q2.reB (B':=(stepM p k z).B) (fun q h1 h2=>(t0' q (.inr (by omega))).2)) hcf (by rw [n0];exact hsub)
     generalize seg p (k + 1) ka (stepM p k z) = z1 at s1 u1 ⊢
     have nA:z1.A k = z.now:=((s1 k (.inl (by omega))).1).trans step_A
     have n1:(stepM p ka z1).now = z.now:=by rw [step_now,now8 q7 (by omega),q8,nA]
     have t1:=step_same (p:=p) (i:=ka) (k:=k) (l:=kb + 1) z1 (by omega) (by omega) (fun e=>by omega)
     have t1':=step_same (p:=p) (i:=ka) (k:=ka) (l:=ka + 1) z1 (by omega) (by omega) (fun e=>by omega)
     have hA2:(stepM p ka z1).A ka = z1.now:=step_A
     have s2:=seg_same q3 (stepM p ka z1)
     have u2:=seg_up (stepM p ka z1) (q3.reB (B':=(stepM p ka z1).B) (fun q h1 h2=>((t1' q (.inr (by omega))).2).trans (((s1 q (.inr (by omega))).2).trans (t0' q (.inr (by omega))).2))) hcf (by rw [n1];exact hsub)
     generalize seg p (ka + 1) kb (stepM p ka z1) = z2 at s2 u2 ⊢
     have nA2:z2.A ka = z1.now:=((s2 ka (.inl (by omega))).1).trans hA2
     have t2:=step_same (p:=p) (i:=kb) (k:=k) (l:=kb + 1) z2 (by omega) (by omega) (fun e=>by omega)
     have t2':=step_same (p:=p) (i:=kb) (k:=kb) (l:=kb + 1) z2 (by omega) (by omega) (fun e=>by omega)
     refine ⟨?_,⟨trivial,.inr (.inl ⟨a,b,c,ka,kb,q1,?_,?_,q4,rfl,q6,q7,q8,q9,q10,q11,q12⟩)⟩,?_⟩
     ·rw [step_now,now9 q9 (by omega),q10,nA2,afterF_if q1,both_comm]
      exact u2.1.both u1.1
     ·exact u1.2.reB (fun q h1 h2=>((t2' q (.inl (by omega))).2).trans (((s2 q (.inl (by omega))).2).trans (t1' q (.inl (by omega))).2))
     ·exact u2.2.reB (fun q h1 h2=>(t2' q (.inl (by omega))).2)
     ·exact ((((t0.trans (s1.mono (by omega) (by omega))).trans t1).trans (s2.mono (by omega) (by omega))).trans t2)
    ·have l2:=q3.le
     rw [q5,seg_last p (l:=ka) (by omega),seg_head p (l:=ka) (by omega)]
     have hf:=head_facts (s:=s) F a b hcf
     have hcH:Clean (iterF (alongF s F (a + 1) b) 27 f):=Clean.iter hcf
     generalize hHe:iterF (alongF s F (a + 1) b) 27 f = H at q2 q3 hf hcH
     have n0:(stepM p k z).now = bothF z.now (z.B k):=by rw [step_now,now10 q6.1]
     have hB:(stepM p k z).B k = bothF z.now (z.B k):=by rw [step_B,now10 q6.1]
     have hH0:Sub H (bothF z.now (z.B k)):=(hf.1.trans hsub).into q2
     have t0:=step_same (p:=p) (i:=k) (k:=k) (l:=ka + 1) z (by omega) (by omega) (fun e=>by omega)
     have t0':=step_same (p:=p) (i:=k) (k:=k) (l:=k + 1) z (by omega) (by omega) (fun e=>by omega)
     have s1:=seg_same q3 (stepM p k z)
     have u1:=seg_up (stepM p k z) (q3.reB (B':=(stepM p k z).B) (fun q h1 h2=>(t0' q (.inr (by omega))).2)) hcH (by rw [n0];exact hH0)
     generalize seg p (k + 1) ka (stepM p k z) = z1 at s1 u1 ⊢
     have nB:z1.B k = bothF z.now (z.B k):=((s1 k (.inl (by omega))).2).trans hB
     have hH1:Sub H z1.now:=hf.2.trans u1.1
     have hnow:nowM p ka z1 = bothF (bothF z.now (z.B k)) z1.now:=by rw [now11 q7,q8,nB]
     have hH2:Sub H (nowM p ka z1):=by rw [hnow];exact hH0.into hH1
     have t1:=step_same (p:=p) (i:=ka) (k:=k) (l:=ka + 1) z1 (by omega) (by omega) (fun e=>by omega)
     have hBk:(stepM p ka z1).B k = nowM p ka z1:=by
      have:=step_B11 (z:=z1) q7 (by omega)
      rwa [q8] at this
     have hBin:∀ q,k + 1 ≤ q → q < ka → (stepM p ka z1).B q = z1.B q:=fun q h1 h2=>by
      show updA (if (p ka).kind = 12 then updA z1.B (p ka).opn (nowM p ka z1) else z1.B) ka (nowM p ka z1) q = z1.B q
      rw [updA_ne _ _ (by omega),if_pos q7,updA_ne _ _ (by omega)]
     refine ⟨?_,⟨trivial,.inr (.inr ⟨a,b,ka,q1,?_,?_,q4,rfl,q6,q7,q8,q9⟩)⟩,?_⟩
     ·rw [step_now,afterF_loop q1,hHe]
      exact hH2
     ·rw [hHe]
      unfold AboveC
      rw [hBk]
      exact hH2
     ·rw [hHe]
      exact u1.2.reB hBin
     ·exact (t0.trans (s1.mono (by omega) (by omega))).trans t1
   have hB:∀ q,k' ≤ q → q < l → (seg p k k' z).B q = z.B q:=fun q h1 h2=>(key.2.2 q (.inr h1)).2
   have e:=seg_up (seg p k k' z) (hr.reB hB) hcA key.1
   have s2:=seg_same hr (seg p k k' z)
   rw [along_next g1 g2 g5]
   refine ⟨e.1,.inr ⟨m,k',key.2.1.reB g3 (fun q h1 h2=>(s2 q (.inl h2)).2),g1,g2,g3,g4,g5,e.2⟩⟩
def scanM (p:Nat → Pt) (A:Nat → Nat → Bool):Nat → Nat → Int
 | 0,_=>-1
 | n + 1,k=>if useB (p k) = true ∧ A k (useBx (p k)) = false then (usePl (p k):Int) else scanM p A n (k + 1)
theorem scanM_neg (p:Nat → Pt) (A:Nat → Nat → Bool):∀ n k,scanM p A n k < 0 → scanM p A n k = -1
 | 0,_,_=>rfl
 | n + 1,k,h=>by
  unfold scanM at h ⊢
  split at h
  ·omega
  ·rename_i q
   rw [if_neg q]
   exact scanM_neg p A n (k + 1) h
theorem scanM_add (p:Nat → Pt) (A:Nat → Nat → Bool):∀ (m n k:Nat),scanM p A (m + n) k = if 0 ≤ scanM p A m k then scanM p A m k else scanM p A n (k + m)
 | 0,n,k=>by rw [Nat.zero_add];rfl
 | m + 1,n,k=>by
  rw [show m + 1 + n = (m + n) + 1 by omega]
  show (if useB (p k) = true ∧ A k (useBx (p k)) = false then (usePl (p k):Int) else scanM p A (m + n) (k + 1)) = (if 0 ≤ (if useB (p k) = true ∧ A k (useBx (p k)) = false then (usePl (p k):Int) else scanM p A m (k + 1)) then (if useB (p k) = true ∧ A k (useBx (p k)) = false then (usePl (p k):Int) else scanM p A m (k + 1)) else scanM p A n (k + (m + 1)))
  split
  ·rw [if_pos (by omega)]
  ·rw [scanM_add p A m n (k + 1),show k + 1 + m = k + (m + 1) by omega]
def scan (p:Nat → Pt) (A:Nat → Nat → Bool) (k l:Nat):Int:=scanM p A (l - k) k
theorem scan_app (p:Nat → Pt) (A:Nat → Nat → Bool) {k m l:Nat} (h1:k ≤ m) (h2:m ≤ l):scan p A k l = if 0 ≤ scan p A k m then scan p A k m else scan p A m l:=by
 unfold scan
 rw [show l - k = (m - k) + (l - m) by omega,scanM_add,show k + (m - k) = m by omega]
theorem scan_nil (p:Nat → Pt) (A:Nat → Nat → Bool) (k:Nat):scan p A k k = -1:=by unfold scan;rw [Nat.sub_self];rfl
theorem scan_one (p:Nat → Pt) (A:Nat → Nat → Bool) (k:Nat):scan p A k (k + 1) = if useB (p k) = true ∧ A k (useBx (p k)) = false then (usePl (p k):Int) else -1:=by
 unfold scan
 rw [show k + 1 - k = 1 by omega]
 rfl
theorem scan_brace {p:Nat → Pt} (A:Nat → Nat → Bool) {k:Nat} (h:8 ≤ (p k).kind):scan p A k (k + 1) = -1:=by
 rw [scan_one,if_neg]
 intro q
 have:=q.1
 unfold useB at this
 simp at this
 omega
theorem scan_neg {p:Nat → Pt} {A:Nat → Nat → Bool} {k l:Nat} (h:¬ 0 ≤ scan p A k l):scan p A k l = -1:=scanM_neg p A _ _ (by unfold scan at h;omega)
theorem scan_skip {p:Nat → Pt} (A:Nat → Nat → Bool) {k l:Nat} (hk:8 ≤ (p k).kind) (h:k < l):scan p A k l = scan p A (k + 1) l:=by
 rw [scan_app p A (m:=k + 1) (by omega) (by omega),scan_brace A hk]
 rfl
theorem scan_cut {p:Nat → Pt} (A:Nat → Nat → Bool) {k l:Nat} (hk:8 ≤ (p l).kind) (h:k ≤ l):scan p A k (l + 1) = scan p A k l:=by
 rw [scan_app p A (m:=l) h (by omega),scan_brace A hk]
 split
 ·rfl
 ·rename_i q
  exact (scan_neg q).symm
theorem scan_mis {A:Nat → Nat → Bool}:∀ {F i j k l:Nat} {f:Nat → Bool},SegQ p s TrueC (ExactC A) F i j k l f → misN s F i j f = scan p A k l
 | 0,i,j,k,l,f,h=>by
  obtain ⟨e1,e2⟩:=h
  subst e1 e2
  rw [scan_nil]
  rfl
 | F + 1,i,j,k,l,f,h=>by
  rcases h with ⟨e1,e2⟩ | ⟨m,k',⟨hc,hs⟩,g1,g2,g3,g4,g5,hr⟩
  ·subst e1 e2
   rw [scan_nil,misN_end]
  ·have key:misP s (alongF s F) (misN s F) i f = scan p A k k':=by
    rcases hs with ⟨q1,q2,q3⟩ | ⟨a,b,c,ka,kb,q1,q2,q3,q4,q5,q6,q7,q8,q9,q10,q11,q12⟩ | ⟨a,b,ka,q1,q2,q3,q4,q5,q6,q7,q8,q9⟩
    ·rw [misP_simple q1,q2,scan_one,hc]
     rcases q3.use with ⟨u1,u2⟩ | ⟨u1,u2,u3⟩
     ·rw [if_neg (by rw [u2];omega),if_neg (by rw [u1];simp)]
     ·rw [u2,show ((usePl (p k):Nat):Int).toNat = usePl (p k) from rfl,u3]
      by_cases q:f (useBx (p k)) = false
      ·rw [if_pos ⟨by omega,q⟩,if_pos ⟨u1,q⟩]
      ·rw [if_neg (fun e=>q e.2),if_neg (fun e=>q e.2)]
    ·rw [misP_if q1,scan_mis q2,scan_mis q3,q5,scan_cut A (by omega) (by omega),scan_skip A (k:=k) (by omega) (by omega),scan_app p A (k:=k + 1) (m:=ka) (l:=kb) (by omega) (by omega),scan_skip A (k:=ka) (l:=kb) (by omega) (by omega)]
     by_cases q:scan p A (k + 1) ka < 0
     ·rw [if_pos q,if_neg (by omega)]
     ·rw [if_neg q,if_pos (by omega)]
    ·have:=q3.le
     rw [misP_loop q1,scan_mis q3,q5,scan_cut A (by omega) (by omega),scan_skip A (k:=k) (by omega) (by omega)]
   show (if i < j then (if 0 ≤ misP s (alongF s F) (misN s F) i f then misP s (alongF s F) (misN s F) i f else misN s F (behN s i) j (afterF (alongF s F) s i f)) else -1) = _
   rw [if_pos (by omega),g5,key,scan_mis hr,scan_app p A (k:=k) (m:=k') (l:=l) (by omega) (by omega)]
end
end
end Go.Proofs.YthcjcjfgdgnljabGreatDoor
