import Derived.Test.YthcjcjfgdgnljabGreatDoorGSynC
set_option linter.unusedVariables false
set_option maxHeartbeats 4000000
set_option maxRecDepth 8000
open Go.Proofs.Tryz
namespace Go.Proofs.YthcjcjfgdgnljabGreatDoor
open Go.RowKit
def entS (s:ByteArray) (own:Bool) (j:Nat):Nat × Bool:=(bt s j,partB (bt s j) && !(own && (j + 1 == s.size)))
def pushS (s:ByteArray) (own:Bool) (i:Nat):List (Nat × Bool):=(List.range i).map (entS s own)
theorem pushS_succ (s:ByteArray) (own:Bool) (i:Nat):pushS s own (i + 1) = pushS s own i ++ [entS s own i]:=by simp [pushS,List.range_succ]
theorem StkAt.grow {w wr w2:World} {o:Obj} {kp base:Nat} {v v':Value} {stk:List (Nat × Bool)} {e:Nat × Bool} (h:StkAt wr kp base v stk) (hk:AppKind (wr.alloc o).drew w2 v v' stk.length 1)
  (hown:w2.ownsRow base 132 2 v' (stk.length + 1) (stk.flatMap entC ++ [.int .u8 e.1,.bool e.2])) :
  w2.cell? ⟨kp,0,none⟩ = some v ∧ w2.frozen? ⟨kp,0,none⟩ = false ∧ StkAt (w2.setCell ⟨kp,0,none⟩ v') kp base v' (stk ++ [e]) ∧ (∀ S:Nat → Prop,Fr S w wr → (∀ k,k < w.heap.size → (k = kp ∨ v.ownBlock = some k) → S k) → Fr S w (w2.setCell ⟨kp,0,none⟩ v')) ∧
   (∀ k,v'.ownBlock = some k → wr.heap.size ≤ k ∨ v.ownBlock = some k):=by
 have hF:Fr (fun k=>v.ownBlock = some k) wr w2:=(((Fr.refl _ wr).alloc o).drew).trans hk.fr
 have hkl:kp < wr.heap.size:=World.block_lt_of_cell? _ _ h.c
 have c2:=hF.cell_some h.c h.ne
 have f2:∀ x,w2.frozen? ⟨kp,x,none⟩ = false:=fun x=>(hF.frozen (p:=⟨kp,x,none⟩) hkl h.ne).trans (h.f x)
 have hpl:∀ k,v'.ownBlock = some k → wr.heap.size ≤ k ∨ v.ownBlock = some k:=fun k hk2=>by
  obtain ⟨g2,cap2,rfl,hp⟩:=hk.place
  have e3:g2 = k:=by simpa [Value.ownBlock] using hk2
  subst e3
  rcases hp with q | q
  ·exact .inl (by simp at q;omega)
  ·exact .inr q
 have hne:v'.ownBlock ≠ some kp:=fun e=>by
  rcases hpl kp e with q | q
  ·omega
  ·exact h.ne q
 refine ⟨c2,f2 0,⟨cell_same c2,fun x=>by rw [World.frozen?_setCell];exact f2 x,?_,hne⟩,fun S hS hsub=>?_,hpl⟩
 ·have hx:(stk ++ [e]).flatMap entC = stk.flatMap entC ++ [.int .u8 e.1,.bool e.2]:=by simp [entC]
  rw [hx,List.length_append]
  exact ((Fr.refl (OneB kp) w2).setCell (p:=⟨kp,0,none⟩) (fun _=>rfl) _).owns hown (fun k hk2 e=>by have e':k = kp:=e;subst e';exact hne hk2)
 ·exact (hS.then hF (fun k hk2 e=>hsub k hk2 (.inr e))).setCell (p:=⟨kp,0,none⟩) (fun hlt=>hsub _ hlt (.inl rfl)) _
theorem push_any (w:World) (kp base:Nat) (v:Value) (stk:List (Nat × Bool)) (s:ByteArray) (own:Bool) (h:StkAt w kp base v stk) (hb:base ≤ w.heap.size) (hs:s.size ≤ 1000) (hl:stk.length ≤ 1000000) :
  Calls prog 70 #[.pointer (some ⟨kp,0,none⟩),.string s,.bool own] w fun e w'=>e = .returned (.tuple #[]) ∧ ∃ v',StkAt w' kp base v' (stk ++ pushS s own s.size) ∧ Fr (fun k=>k = kp ∨ v.ownBlock = some k) w w':=by
 obtain ⟨i0,hi0,hz0,hz1,hz2⟩:=info_parts Tryz.infoExp
 go_enter func70,ntmps70
 go_wp2
 go_loopw [6] (fun t wr=>∃ (i:Nat) (v':Value),i ≤ s.size ∧ t = .int .i64 i ∧ StkAt wr kp base v' (stk ++ pushS s own i) ∧ Fr (fun k=>k = kp ∨ v.ownBlock = some k) w wr ∧ (∀ k,v'.ownBlock = some k → w.heap.size ≤ k ∨ v.ownBlock = some k)) (fun t _=>s.size - (intOf t).toNat)
 case atStart=>exact ⟨0,v,Nat.zero_le _,rfl,by simpa [pushS] using h,Fr.refl _ _,fun k hk=>.inr hk⟩
 case round =>
  obtain ⟨i,v1,hi,rfl,hS,hF,hv⟩:=hrel
  by_cases hlt:i < s.size
  ·have Hbt:Hid (bt s i = s[i].toNat):=bt_in hlt
   have HP:Hid (∀ W:World,CS 100 #[.int .u8 (s[i].toNat:Int),.string ⟨#[83,111,100,101,86,103,116,71,112]⟩] W (.bool (partB (bt s i)))):=fun W=>by
    rw [Hbt.out];exact among_part W _
   obtain ⟨pb,hpb⟩:∃ pb,pb = partB (bt s i):=⟨_,rfl⟩
   rw [← hpb] at HP
   have HE:Hid (entS s own i = (s[i].toNat,pb && !(own && (i + 1 == s.size)))):=by show entS s own i = _;unfold entS;rw [Hbt.out,← Hbt.out,← hpb]
   clear hpb
   go_upto_region 3 with fail
   go_cut [7] (fun t wx=>t = .bool (entS s own i).2 ∧ wx = wr)
   case first =>
    go_wp2_with fail
    refine sameC (HP.out _) ?_
    cases pb
    ·go_wp2_with fail
     go_meet
     case rel=>exact ⟨by rw [HE.out];rfl,rfl⟩
    ·cases own
     ·go_wp2_with fail
      go_meet
      case rel=>exact ⟨by rw [HE.out];rfl,rfl⟩
     ·by_cases hlast:i + 1 = s.size
      ·have hb1:((i:Int) == (s.size:Int) - 1) = true:=beq_iff_eq.2 (by omega)
       have hb2:(i + 1 == s.size) = true:=beq_iff_eq.2 hlast
       have Hb2:Hid _:=hb2
       clear hb2
       clear hlast
       go_wp2_with fail
       go_meet
       case rel=>exact ⟨by rw [HE.out,Hb2.out];rfl,rfl⟩
      ·have hb1:((i:Int) == (s.size:Int) - 1) = false:=bF (by omega)
       have hb2:(i + 1 == s.size) = false:=beq_eq_false_iff_ne.2 hlast
       have Hb2:Hid _:=hb2
       clear hb2
       clear hlast
       go_wp2_with fail
       go_meet
       case rel=>exact ⟨by rw [HE.out,Hb2.out];rfl,rfl⟩
   case rest =>
    obtain ⟨rfl,rfl⟩:=hcut
    have hc:=hS.c
    have hrow:=hS.row
    have hkl:kp < wc.heap.size:=World.block_lt_of_cell? _ _ hc
    have hlen:(stk ++ pushS s own i).length = stk.length + i:=by simp [pushS]
    have hsz:=hF.size
    obtain ⟨q,hq⟩:∃ q,q = (entS s own i).2:=⟨_,rfl⟩
    have HEE:Hid (entS s own i = (s[i].toNat,q)):=by show _ = _;rw [hq,HE.out]
    have HSt:Hid (StkAt wc kp base v1 (stk ++ pushS s own i)):=hS
    have HPS:Hid (stk ++ pushS s own (i + 1) = (stk ++ pushS s own i) ++ [(s[i].toNat,q)]):=by show _ = _;rw [pushS_succ,HEE.out,List.append_assoc]
    generalize hst:stk ++ pushS s own i = st at *
    rw [← hq]
    clear hq HE HP hS hst HEE
    have Hv:Hid (∀ k,v1.ownBlock = some k → w.heap.size ≤ k ∨ v.ownBlock = some k):=hv
    clear hv
    have hln:st.length ≤ 1001000:=by omega
    clear hlen
    go_upto_region 4 with fail
    go_region_law ((refine step_append_kind rfl _ _ 124 rfl base 132 i0 _ 2 2 underlying124 hi0 hz0 hz1 hz2 rfl (by decide) _ _ _ rfl ((hrow.alloc _).drew) ⟨wc.heap.size,0,none⟩ 1 1 [.int .u8 (s[i].toNat:Int),.bool q] (by decide) rfl rfl nwD (by intro u hu;simp at hu;rcases hu with rfl | rfl <;> rfl) (by unfold maxLen;omega) (by omega) (by simp;omega) ?_;intro v2 w2 hown2 hk2;obtain ⟨g1,g2,g3,g4,g5⟩:=HSt.out.grow (w:=w) (e:=(s[i].toNat,q)) hk2 hown2;obtain ⟨gb,cb,hve,_⟩:=hk2.place;subst hve;have HG:=show Hid (_ ∧ _ ∧ _) from ⟨g3,g4,g5⟩;clear g3 g4 g5 hown2 hk2))
    all_goals
     go_wp2
     go_roundw
     case rel =>
      refine ⟨i + 1,_,by omega,by go_num,by rw [HPS.out];exact HG.out.1,HG.out.2.1 _ hF (fun k hk e=>?_),fun k hk=>?_⟩
      ·rcases e with e | e
       ·exact .inl e
       ·rcases Hv.out k e with e2 | e2
        ·omega
        ·exact .inr e2
      ·rcases HG.out.2.2 k hk with e | e
       ·exact .inl (by omega)
       ·exact Hv.out k e
     case measure=>simp [intOf];omega
  ·have hie:i = s.size:=by omega
   subst hie
   go_wp2
   go_end0
   exact ⟨rfl,v1,hS,hF⟩
def ownL (l:List Nat) (c:Nat):Bool:=!l.isEmpty && (l.getLast?.getD 0 == c) && !(c == 0)
def entL (l:List Nat) (own:Bool) (j:Nat):Nat × Bool:=(l.getD j 0,partB (l.getD j 0) && !(own && (j + 1 == l.length)))
def pushL (l:List Nat) (own:Bool):List (Nat × Bool):=(List.range l.length).map (entL l own)
def expand (b c:Nat):Option (List (Nat × Bool)):=if (chosenN b c).2 then some (pushL (chosenN b c).1 (ownL (chosenN b c).1 c)).reverse else none
def rank (b:Nat):Nat:=if b = 103 then 3 else if b = 71 then 2 else 1
def mu:List (Nat × Bool) → Nat
 | []=>0
 | (_,false) :: _=>0
 | (b,true) :: t=>rank b + mu t
def wtE (e:Nat × Bool):Nat :=
 if e.2 then (if e.1 = 100 then 2 else if e.1 = 111 then 3 else if e.1 = 116 then 4 else if e.1 = 103 then 7 else if e.1 = 71 then 5 else if e.1 = 112 then 9 else 1) else 1
def wt:List (Nat × Bool) → Nat
 | []=>0
 | e :: t=>wtE e + wt t
theorem wtE_pos (e:Nat × Bool):1 ≤ wtE e:=by
 unfold wtE
 repeat' split
 all_goals omega
theorem len_le_wt (S:List (Nat × Bool)):S.length ≤ wt S:=by
 induction S with
 | nil=>simp [wt]
 | cons e t ih=>have:=wtE_pos e;simp only [List.length_cons,wt];omega
theorem wt_append (A B:List (Nat × Bool)):wt (A ++ B) = wt A + wt B:=by
 induction A with
 | nil=>simp [wt]
 | cons e t ih=>simp only [List.cons_append,wt,ih];omega
def OkS (S:List (Nat × Bool)):Prop:=∀ e,e ∈ S → e.1 < 256 ∧ (e.2 = true → isPart e.1)
theorem pushL_ok {l:List Nat} (hl:∀ b,b ∈ l → b < 256) (own:Bool):OkS (pushL l own):=fun e he=>by
 simp only [pushL,List.mem_map,List.mem_range] at he
 obtain ⟨j,hj,rfl⟩:=he
 refine ⟨?_,fun h=>?_⟩
 ·have:l.getD j 0 = l[j]:=by simp [hj]
  show l.getD j 0 < 256
  rw [this];exact hl _ (List.getElem_mem hj)
 ·simp only [entL,Bool.and_eq_true] at h
  exact (partB_iff _).1 h.1
theorem stmtN_lt {c:Nat} (hc:c < 256):∀ b,b ∈ stmtN c → b < 256:=fun b hb=>by
 unfold stmtN at hb
 repeat' split at hb
 all_goals (simp at hb <;> omega)
theorem chosenN_lt {b c:Nat} (hc:c < 256):∀ x,x ∈ (chosenN b c).1 → x < 256:=fun x hx=>by
 unfold chosenN at hx
 repeat' split at hx
 ·exact stmtN_lt hc x hx
 all_goals (simp at hx <;> omega)
def prt (b:Nat):Nat × Bool:=(b,partB b)
theorem pushL_plain (l:List Nat):pushL l false = l.map prt:=by
 apply List.ext_getElem?
 intro i
 by_cases hi:i < l.length
 ·simp [pushL,entL,prt,hi]
 ·simp [pushL,hi]
theorem pushL_own (l:List Nat) (x:Nat):pushL (l ++ [x]) true = l.map prt ++ [(x,false)]:=by
 apply List.ext_getElem?
 intro i
 by_cases hi:i < l.length
 ·have h1:(i + 1 == l.length + 1) = false:=bF (by omega)
  rw [List.getElem?_append_left (by simpa using hi)]
  simp [pushL,entL,prt,hi,h1,show i < l.length + 1 by omega]
 ·by_cases he:i = l.length
  ·subst he
   rw [List.getElem?_append_right (by simp)]
   simp [pushL,entL]
  ·rw [List.getElem?_append_right (by simp;omega)]
   simp [pushL]
   rw [List.getElem?_eq_none (by simp;omega)]
   simp
   omega
theorem pushL_last (l:List Nat) (c:Nat):pushL (l ++ [c]) (ownL (l ++ [c]) c) = l.map prt ++ [(c,false)]:=by
 by_cases h:c = 0
 ·subst h
  have e:ownL (l ++ [0]) 0 = false:=by simp [ownL]
  rw [e,pushL_plain]
  simp [prt,partB]
 ·have e:ownL (l ++ [c]) c = true:=by simp [ownL,h]
  rw [e,pushL_own]
theorem expand_last {b c:Nat} {l:List Nat} (h:chosenN b c = (l ++ [c],true)):expand b c = some ((c,false) :: (l.map prt).reverse):=by
 unfold expand
 rw [h]
 simp [pushL_last]
theorem expand_none {b c:Nat} {l:List Nat} (h:chosenN b c = (l,false)):expand b c = none:=by
 unfold expand;rw [h];simp
theorem expand_nil {b c:Nat} (h:chosenN b c = ([],true)):expand b c = some []:=by
 unfold expand;rw [h];simp [pushL]
theorem rank_pos (b:Nat):1 ≤ rank b:=by
 unfold rank
 repeat' split
 all_goals omega
structure ExpStep (b:Nat) (es:List (Nat × Bool)):Prop where
 hm:∀ t,mu (es ++ t) < rank b + mu t
 hw:wt es ≤ wtE (b,true) ∨ ((∀ t,mu (es ++ t) = 0) ∧ wt es ≤ wtE (b,true) + 11)
theorem step_top {b c:Nat} {l:List (Nat × Bool)} (h:wt l + 1 ≤ wtE (b,true) + 11):ExpStep b ((c,false) :: l) :=
 ⟨fun t=>by have:=rank_pos b;simp only [List.cons_append,mu];omega,.inr ⟨fun t=>by simp [mu],by show 1 + wt l ≤ wtE (b,true) + 11;omega⟩⟩
theorem step_pop (b:Nat):ExpStep b []:=⟨fun t=>by have:=rank_pos b;simp;omega,.inl (Nat.zero_le _)⟩
theorem wt_stmt (c:Nat):wt ((stmtN c).dropLast.map prt).reverse ≤ 11:=by
 unfold stmtN
 repeat' split
 all_goals simp [prt,partB,wt,wtE]
theorem stmt_cases (c:Nat):stmtN c = [] ∨ ∃ l,stmtN c = l ++ [c] ∧ wt (l.map prt).reverse ≤ 11:=by
 have hw:=wt_stmt c
 by_cases h:stmtN c = []
 ·exact .inl h
 ·refine .inr ⟨(stmtN c).dropLast,?_,hw⟩
  have hl:(stmtN c).getLast h = c:=by
   have:∀ l,stmtN c = l → ∀ hh:l ≠ [],l.getLast hh = c:=by
    intro l hl hh
    unfold stmtN at hl
    repeat' split at hl
    all_goals first | (subst hl;rfl) | (exact absurd hl.symm hh)
   exact this _ rfl h
  exact (List.dropLast_concat_getLast h).symm.trans (by rw [hl])
theorem expand_step {b c:Nat} {es:List (Nat × Bool)} (hb:isPart b) (h:expand b c = some es):ExpStep b es:=by
 have last:∀ l:List Nat,chosenN b c = (l ++ [c],true) → wt (l.map prt).reverse + 1 ≤ wtE (b,true) + 11 → ExpStep b es:=fun l hl hw=>by
  rw [expand_last hl] at h;injection h with h;subst h;exact step_top hw
 have pop:chosenN b c = ([],true) → ExpStep b es:=fun hl=>by
  rw [expand_nil hl] at h;injection h with h;subst h;exact step_pop b
 have bad:∀ l:List Nat,chosenN b c = (l,false) → ExpStep b es:=fun l hl=>by
  rw [expand_none hl] at h;cases h
 rcases hb with rfl | rfl | rfl | rfl | rfl | rfl | rfl | rfl | rfl
 ·rcases stmt_cases c with hs | ⟨l,hs,hw⟩
  ·exact pop (by show (stmtN c,true) = _;rw [hs])
  ·exact last l (by show (stmtN c,true) = _;rw [hs]) (by show _ ≤ 1 + 11;omega)
 ·cases hd:digitN c
  ·cases hs:smallN c
   ·exact bad [c] (by simp [chosenN,hd,hs])
   ·exact last [] (by simp [chosenN,hd,hs]) (by decide)
  ·exact last [100] (by simp [chosenN,hd]) (by decide)
 ·cases hd:digitN c
  ·exact pop (by simp [chosenN,hd])
  ·exact last [101] (by simp [chosenN,hd]) (by decide)
 ·cases hd:digitN c
  ·exact pop (by simp [chosenN,hd])
  ·exact last [] (by simp [chosenN,hd]) (by decide)
 ·cases hg:greatN c
  ·exact bad [c] (by simp [chosenN,hg])
  ·exact last [] (by simp [chosenN,hg]) (by decide)
 ·by_cases h1:c = 35
  ·exact last [86] (by simp [chosenN,h1]) (by decide)
  ·cases hg:greatN c
   ·have hc:chosenN 103 c = ([116,111],true):=by simp [chosenN,h1,hg]
    unfold expand at h
    rw [hc] at h
    simp only [if_true] at h
    injection h with h
    subst h
    cases ho:ownL [116,111] c
    ·rw [pushL_plain]
     exact ⟨fun t=>by simp [prt,partB,mu,rank];omega,.inl (by decide)⟩
    ·rw [show ([116,111]:List Nat) = [116] ++ [111] from rfl,pushL_own]
     exact ⟨fun t=>by simp [prt,partB,mu,rank];omega,.inl (by decide)⟩
   ·exact last [93,111,91] (by simp [chosenN,h1,hg]) (by decide)
 ·by_cases h1:c = 43 ∨ c = 45 ∨ c = 42 ∨ c = 47 ∨ c = 60
  ·exact last [111] (by simp [chosenN,h1]) (by decide)
  ·exact pop (by simp only [chosenN];simp [h1])
 ·by_cases h1:c = 91
  ·exact last [93,111] (by simp [chosenN,h1]) (by decide)
  ·have hc:chosenN 71 c = ([86],true):=by simp [chosenN,h1]
   unfold expand at h
   rw [hc] at h
   simp only [if_true] at h
   injection h with h
   subst h
   cases ho:ownL [86] c
   ·rw [pushL_plain]
    exact ⟨fun t=>by simp [prt,partB,mu,rank],.inl (by decide)⟩
   ·rw [show ([86]:List Nat) = [] ++ [86] from rfl,pushL_own]
    exact ⟨fun t=>by simp [mu,rank];omega,.inl (by decide)⟩
 ·by_cases h1:c = 91
  ·exact last [111,61,93,111] (by simp [chosenN,h1]) (by decide)
  ·have hc:chosenN 112 c = ([71,61],true):=by simp [chosenN,h1]
   unfold expand at h
   rw [hc] at h
   simp only [if_true] at h
   injection h with h
   subst h
   cases ho:ownL [71,61] c
   ·rw [pushL_plain]
    exact ⟨fun t=>by simp [prt,partB,mu,rank];omega,.inl (by decide)⟩
   ·rw [show ([71,61]:List Nat) = [71] ++ [61] from rfl,pushL_own]
    exact ⟨fun t=>by simp [prt,partB,mu,rank];omega,.inl (by decide)⟩
theorem expand_ok {b c:Nat} {es:List (Nat × Bool)} (hc:c < 256) (h:expand b c = some es):OkS es:=by
 unfold expand at h
 split at h
 ·injection h with h
  subst h
  intro e he
  exact pushL_ok (chosenN_lt hc) _ e (List.mem_reverse.1 he)
 ·cases h
def openN:Nat → List (Nat × Bool) → Nat → List (Nat × Bool) × Bool × Bool
 | 0,S,_=>(S,false,false)
 | _ + 1,[],_=>([],false,false)
 | _ + 1,(b,false) :: t,_=>((b,false) :: t,true,false)
 | f + 1,(b,true) :: t,c=>match expand b c with
  | none=>(t,false,true)
  | some es=>openN f (es ++ t) c
def opened (S:List (Nat × Bool)) (c:Nat):List (Nat × Bool) × Bool × Bool:=openN (mu S + 1) S c
theorem expand_mu {b c:Nat} {es:List (Nat × Bool)} (h:expand b c = some es):∀ t,mu (es ++ t) < rank b + mu t:=by
 by_cases hb:isPart b
 ·exact (expand_step hb h).hm
 ·have hr:=rank_pos b
  have e:chosenN b c = if c = 91 then ([111,61,93,111,c],true) else ([71,61],true):=by
   unfold chosenN
   unfold isPart at hb
   simp only [show ¬ b = 83 from fun e=>hb (by simp [e]),show ¬ b = 111 from fun e=>hb (by simp [e]),show ¬ b = 100 from fun e=>hb (by simp [e]),show ¬ b = 101 from fun e=>hb (by simp [e]),show ¬ b = 86 from fun e=>hb (by simp [e]),show ¬ b = 103 from fun e=>hb (by simp [e]),show ¬ b = 116 from fun e=>hb (by simp [e]),show ¬ b = 71 from fun e=>hb (by simp [e]),if_false]
  intro t
  by_cases h1:c = 91
  ·rw [if_pos h1] at e
   rw [expand_last (l:=[111,61,93,111]) e] at h
   injection h with h
   subst h
   simp only [List.cons_append,mu];omega
  ·rw [if_neg h1] at e
   unfold expand at h
   rw [e] at h
   simp only [if_true] at h
   injection h with h
   subst h
   cases ho:ownL [71,61] c
   ·rw [pushL_plain];simp [prt,partB,mu];omega
   ·rw [show ([71,61]:List Nat) = [71] ++ [61] from rfl,pushL_own];simp [prt,partB,mu];omega
theorem openN_le (c:Nat) (d:Nat) (S:List (Nat × Bool)):openN (mu S + 1 + d) S c = openN (mu S + 1) S c:=by
 have key:∀ (m:Nat) (S:List (Nat × Bool)),mu S ≤ m → ∀ f g,mu S < f → mu S < g → openN f S c = openN g S c:=by
  intro m
  induction m with
  | zero =>
   intro S hS f g hf hg
   obtain ⟨f,rfl⟩:∃ f',f = f' + 1:=⟨f - 1,by omega⟩
   obtain ⟨g,rfl⟩:∃ g',g = g' + 1:=⟨g - 1,by omega⟩
   match S,hS with
   | [],_=>rfl
   | (b,false) :: t,_=>rfl
   | (b,true) :: t,hS=>exact absurd (show rank b + mu t ≤ 0 from hS) (by have:=rank_pos b;omega)
  | succ m ih =>
   intro S hS f g hf hg
   obtain ⟨f,rfl⟩:∃ f',f = f' + 1:=⟨f - 1,by omega⟩
   obtain ⟨g,rfl⟩:∃ g',g = g' + 1:=⟨g - 1,by omega⟩
   match S,hS,hf,hg with
   | [],_,_,_=>rfl
   | (b,false) :: t,_,_,_=>rfl
   | (b,true) :: t,hS,hf,hg =>
    have e0:mu ((b,true) :: t) = rank b + mu t:=rfl
    rw [e0] at hS hf hg
    show (match expand b c with | none=>(t,false,true) | some es=>openN f (es ++ t) c) = (match expand b c with | none=>(t,false,true) | some es=>openN g (es ++ t) c)
    cases he:expand b c with
    | none=>rfl
    | some es =>
     have h1:=expand_mu he t
     exact ih (es ++ t) (by omega) f g (by omega) (by omega)
 exact key _ S (Nat.le_refl _) _ _ (by omega) (by omega)
theorem openN_more (c:Nat):∀ (f:Nat) (S:List (Nat × Bool)),mu S < f → openN f S c = openN (mu S + 1) S c
 | 0,_,h=>absurd h (Nat.not_lt_zero _)
 | f + 1,[],_=>rfl
 | f + 1,(b,false) :: t,_=>rfl
 | f + 1,(b,true) :: t,h=>by
  have hm:mu ((b,true) :: t) = rank b + mu t:=rfl
  rw [hm] at h ⊢
  show (match expand b c with | none=>(t,false,true) | some es=>openN f (es ++ t) c) = (match expand b c with | none=>(t,false,true) | some es=>openN (rank b + mu t) (es ++ t) c)
  cases he:expand b c with
  | none=>rfl
  | some es =>
   have h1:=expand_mu he t
   show openN f (es ++ t) c = openN (rank b + mu t) (es ++ t) c
   rw [openN_more c f (es ++ t) (by omega)]
   have hr:∃ g,rank b + mu t = g ∧ mu (es ++ t) < g:=⟨_,rfl,h1⟩
   obtain ⟨g,hg,hl⟩:=hr
   rw [hg]
   have hgf:g ≤ f:=by omega
   clear hg
   obtain ⟨d,rfl⟩:∃ d,g = mu (es ++ t) + 1 + d:=⟨g - (mu (es ++ t) + 1),by omega⟩
   exact (openN_le c d (es ++ t)).symm
theorem opened_nil (c:Nat):opened [] c = ([],false,false):=rfl
theorem opened_byte (x:Nat) (t:List (Nat × Bool)) (c:Nat):opened ((x,false) :: t) c = ((x,false) :: t,true,false):=rfl
theorem opened_none {b c:Nat} (t:List (Nat × Bool)) (h:expand b c = none):opened ((b,true) :: t) c = (t,false,true):=by
 unfold opened
 show (match expand b c with | none=>(t,false,true) | some es=>openN (mu ((b,true) :: t)) (es ++ t) c) = _
 rw [h]
theorem opened_some {b c:Nat} {es:List (Nat × Bool)} (t:List (Nat × Bool)) (h:expand b c = some es):opened ((b,true) :: t) c = opened (es ++ t) c:=by
 have h1:=expand_mu h t
 unfold opened
 show (match expand b c with | none=>(t,false,true) | some es=>openN (mu ((b,true) :: t)) (es ++ t) c) = _
 rw [h]
 exact openN_more c _ _ h1
def runN (s:ByteArray):Nat → List (Nat × Bool) → Nat → Int → Nat × Nat
 | 0,S,_,_=>if (opened S 0).2.1 || (opened S 0).2.2 then (2,s.size) else (0,0)
 | m + 1,S,i,d =>
  if (opened S (bt s i)).2.2 || !(opened S (bt s i)).2.1 || !(((opened S (bt s i)).1.headD (0,false)).1 == bt s i) then (2,i)
  else if bt s i = 123 then (if 8 < d + 1 then (3,i) else runN s m (opened S (bt s i)).1.tail (i + 1) (d + 1))
  else runN s m (opened S (bt s i)).1.tail (i + 1) (if bt s i = 125 then d - 1 else d)
def run (s:ByteArray) (S:List (Nat × Bool)) (i:Nat) (d:Int):Nat × Nat:=runN s (s.size - i) S i d
theorem bt_out {s:ByteArray} {i:Nat} (h:¬ i < s.size):bt s i = 0:=by simp [bt,h]
theorem run_end (s:ByteArray) (S:List (Nat × Bool)) (d:Int):run s S s.size d = if (opened S 0).2.1 || (opened S 0).2.2 then (2,s.size) else (0,0):=by
 unfold run;rw [Nat.sub_self];rfl
theorem run_in {s:ByteArray} (S:List (Nat × Bool)) {i:Nat} (d:Int) (hi:i < s.size):run s S i d =
  if (opened S (bt s i)).2.2 || !(opened S (bt s i)).2.1 || !(((opened S (bt s i)).1.headD (0,false)).1 == bt s i) then (2,i)
  else if bt s i = 123 then (if 8 < d + 1 then (3,i) else run s (opened S (bt s i)).1.tail (i + 1) (d + 1))
  else run s (opened S (bt s i)).1.tail (i + 1) (if bt s i = 125 then d - 1 else d):=by
 unfold run
 rw [show s.size - i = (s.size - (i + 1)) + 1 by omega]
 rfl
theorem run_congr {s:ByteArray} {S T:List (Nat × Bool)} {i:Nat} {d:Int} (hi:i ≤ s.size) (h:opened S (bt s i) = opened T (bt s i)):run s S i d = run s T i d:=by
 by_cases hl:i < s.size
 ·rw [run_in S d hl,run_in T d hl,h]
 ·have e:i = s.size:=by omega
  subst e
  rw [bt_out (by omega)] at h
  rw [run_end,run_end,h]
theorem run_bad {s:ByteArray} {b i:Nat} {d:Int} (t:List (Nat × Bool)) (hi:i ≤ s.size) (h:expand b (bt s i) = none):run s ((b,true) :: t) i d = (2,i):=by
 by_cases hl:i < s.size
 ·rw [run_in _ d hl,opened_none t h];rfl
 ·have e:i = s.size:=by omega
  subst e
  rw [bt_out (by omega)] at h
  rw [run_end,opened_none t h];rfl
theorem run_exp {s:ByteArray} {b i:Nat} {d:Int} {es:List (Nat × Bool)} (t:List (Nat × Bool)) (hi:i ≤ s.size) (h:expand b (bt s i) = some es):run s ((b,true) :: t) i d = run s (es ++ t) i d :=
 run_congr hi (opened_some t h)
theorem run_nil {s:ByteArray} {i:Nat} {d:Int} (hi:i ≤ s.size):run s [] i d = if i < s.size then (2,i) else (0,0):=by
 by_cases hl:i < s.size
 ·rw [run_in _ d hl,opened_nil,if_pos hl];rfl
 ·have e:i = s.size:=by omega
  subst e
  rw [run_end,opened_nil,if_neg hl];rfl
theorem run_miss {s:ByteArray} {x i:Nat} {d:Int} (t:List (Nat × Bool)) (hi:i ≤ s.size) (h:bt s i ≠ x):run s ((x,false) :: t) i d = (2,i):=by
 by_cases hl:i < s.size
 ·rw [run_in _ d hl,opened_byte]
  have:(x == bt s i) = false:=beq_eq_false_iff_ne.2 (Ne.symm h)
  simp [this]
 ·have e:i = s.size:=by omega
  subst e
  rw [run_end,opened_byte];rfl
theorem run_hit {s:ByteArray} {x i:Nat} {d:Int} (t:List (Nat × Bool)) (hi:i < s.size) (h:bt s i = x):run s ((x,false) :: t) i d =
  if x = 123 then (if 8 < d + 1 then (3,i) else run s t (i + 1) (d + 1)) else run s t (i + 1) (if x = 125 then d - 1 else d):=by
 rw [run_in _ d hi,opened_byte,h]
 simp
section
theorem small_in {s:ByteArray} {i:Nat} (h:smallN (bt s i) = true):i < s.size ∧ bt s i ≠ 123 ∧ bt s i ≠ 125 ∧ digitN (bt s i) = false ∧ greatN (bt s i) = false:=by
 simp [smallN] at h
 refine ⟨?_,by omega,by omega,by simp [digitN];omega,by simp [greatN];omega⟩
 by_cases hl:i < s.size
 ·exact hl
 ·rw [bt_out hl] at h;omega
theorem great_in {s:ByteArray} {i:Nat} (h:greatN (bt s i) = true):i < s.size ∧ bt s i ≠ 123 ∧ bt s i ≠ 125 ∧ digitN (bt s i) = false ∧ smallN (bt s i) = false:=by
 simp [greatN] at h
 refine ⟨?_,by omega,by omega,by simp [digitN];omega,by simp [smallN];omega⟩
 by_cases hl:i < s.size
 ·exact hl
 ·rw [bt_out hl] at h;omega
theorem digit_in {s:ByteArray} {i:Nat} (h:digitN (bt s i) = true):i < s.size ∧ bt s i ≠ 123 ∧ bt s i ≠ 125 ∧ smallN (bt s i) = false ∧ greatN (bt s i) = false:=by
 simp [digitN] at h
 refine ⟨?_,by omega,by omega,by simp [smallN];omega,by simp [greatN];omega⟩
 by_cases hl:i < s.size
 ·exact hl
 ·rw [bt_out hl] at h;omega
theorem byte_in {s:ByteArray} {i x:Nat} (h:bt s i = x) (hx:x ≠ 0):i < s.size:=by
 by_cases hl:i < s.size
 ·exact hl
 ·rw [bt_out hl] at h;omega
theorem run_own {s:ByteArray} {b i:Nat} {d:Int} {l:List Nat} (t:List (Nat × Bool)) (hi:i < s.size) (h1:bt s i ≠ 123) (h2:bt s i ≠ 125) (h:chosenN b (bt s i) = (l ++ [bt s i],true)) :
  run s ((b,true) :: t) i d = run s ((l.map prt).reverse ++ t) (i + 1) d:=by
 rw [run_exp t (by omega) (expand_last h),List.cons_append,run_hit _ hi rfl,if_neg h1,if_neg h2]
theorem run_take {s:ByteArray} {x i:Nat} {d:Int} (t:List (Nat × Bool)) (hx:x ≠ 0) (h1:x ≠ 123) (h2:x ≠ 125) (h:bt s i = x):run s ((x,false) :: t) i d = run s t (i + 1) d:=by
 rw [run_hit _ (byte_in h hx) h,if_neg h1,if_neg h2]
section
variable {s:ByteArray} {i:Nat} {d:Int} (t:List (Nat × Bool))
theorem R_o_small (h:smallN (bt s i) = true):run s ((111,true) :: t) i d = run s t (i + 1) d:=by
 obtain ⟨hi,h1,h2,h3,_⟩:=small_in h
 exact run_own (l:=[]) t hi h1 h2 (by simp [chosenN,h,h3])
theorem R_o_digit (h:digitN (bt s i) = true):run s ((111,true) :: t) i d = run s ((100,true) :: t) (i + 1) d:=by
 obtain ⟨hi,h1,h2,h3,_⟩:=digit_in h
 exact run_own (l:=[100]) t hi h1 h2 (by simp [chosenN,h])
theorem R_o_bad (hi:i ≤ s.size) (h:smallN (bt s i) = false) (h':digitN (bt s i) = false):run s ((111,true) :: t) i d = (2,i) :=
 run_bad t hi (expand_none (l:=[bt s i]) (by simp [chosenN,h,h']))
theorem R_d_digit (h:digitN (bt s i) = true):run s ((100,true) :: t) i d = run s ((101,true) :: t) (i + 1) d:=by
 obtain ⟨hi,h1,h2,h3,_⟩:=digit_in h
 exact run_own (l:=[101]) t hi h1 h2 (by simp [chosenN,h])
theorem R_d_no (hi:i ≤ s.size) (h:digitN (bt s i) = false):run s ((100,true) :: t) i d = run s t i d :=
 run_exp t hi (expand_nil (by simp [chosenN,h]))
theorem R_e_digit (h:digitN (bt s i) = true):run s ((101,true) :: t) i d = run s t (i + 1) d:=by
 obtain ⟨hi,h1,h2,h3,_⟩:=digit_in h
 exact run_own (l:=[]) t hi h1 h2 (by simp [chosenN,h])
theorem R_e_no (hi:i ≤ s.size) (h:digitN (bt s i) = false):run s ((101,true) :: t) i d = run s t i d :=
 run_exp t hi (expand_nil (by simp [chosenN,h]))
theorem R_V_great (h:greatN (bt s i) = true):run s ((86,true) :: t) i d = run s t (i + 1) d:=by
 obtain ⟨hi,h1,h2,h3,_⟩:=great_in h
 exact run_own (l:=[]) t hi h1 h2 (by simp [chosenN,h])
theorem R_V_bad (hi:i ≤ s.size) (h:greatN (bt s i) = false):run s ((86,true) :: t) i d = (2,i) :=
 run_bad t hi (expand_none (l:=[bt s i]) (by simp [chosenN,h]))
theorem R_g_hash (h:bt s i = 35):run s ((103,true) :: t) i d = run s ((86,true) :: t) (i + 1) d :=
 run_own (l:=[86]) t (byte_in h (by omega)) (by omega) (by omega) (by simp [chosenN,h])
theorem R_g_great (h:greatN (bt s i) = true):run s ((103,true) :: t) i d = run s ((91,false) :: (111,true) :: (93,false) :: t) (i + 1) d:=by
 obtain ⟨hi,h1,h2,h3,_⟩:=great_in h
 have h35:¬ bt s i = 35:=fun e=>by rw [e] at h;simp [greatN] at h
 exact run_own (l:=[93,111,91]) t hi h1 h2 (by simp [chosenN,h,h35])
theorem R_g_else (hi:i ≤ s.size) (h:greatN (bt s i) = false) (h':bt s i ≠ 35):run s ((103,true) :: t) i d = run s ((111,true) :: (116,true) :: t) i d:=by
 have hc:chosenN 103 (bt s i) = ([116,111],true):=by simp [chosenN,h,h']
 have he:expand 103 (bt s i) = some (pushL [116,111] (ownL [116,111] (bt s i))).reverse:=by unfold expand;rw [hc];rfl
 rw [run_exp t hi he]
 cases ho:ownL [116,111] (bt s i)
 ·rw [pushL_plain];rfl
 ·have e:bt s i = 111:=by simp [ownL] at ho;exact ho.1.symm
  rw [show ([116,111]:List Nat) = [116] ++ [111] from rfl,pushL_own,R_o_small _ (by rw [e];rfl)]
  exact run_take _ (by decide) (by decide) (by decide) e
def isOp (c:Nat):Prop:=c = 43 ∨ c = 45 ∨ c = 42 ∨ c = 47 ∨ c = 60
theorem R_t_op (h:isOp (bt s i)):run s ((116,true) :: t) i d = run s ((111,true) :: t) (i + 1) d:=by
 unfold isOp at h
 exact run_own (l:=[111]) t (byte_in rfl (by omega)) (by omega) (by omega) (by simp [chosenN,h])
theorem R_t_no (hi:i ≤ s.size) (h:¬ isOp (bt s i)):run s ((116,true) :: t) i d = run s t i d:=by
 unfold isOp at h
 exact run_exp t hi (expand_nil (by simp only [chosenN];simp [h]))
theorem R_G_br (h:bt s i = 91):run s ((71,true) :: t) i d = run s ((111,true) :: (93,false) :: t) (i + 1) d :=
 run_own (l:=[93,111]) t (byte_in h (by omega)) (by omega) (by omega) (by simp [chosenN,h])
theorem R_G_else (hi:i ≤ s.size) (h:bt s i ≠ 91):run s ((71,true) :: t) i d = run s ((86,true) :: t) i d:=by
 have hc:chosenN 71 (bt s i) = ([86],true):=by simp [chosenN,h]
 have he:expand 71 (bt s i) = some (pushL [86] (ownL [86] (bt s i))).reverse:=by unfold expand;rw [hc];rfl
 rw [run_exp t hi he]
 cases ho:ownL [86] (bt s i)
 ·rw [pushL_plain];rfl
 ·have e:bt s i = 86:=by simp [ownL] at ho;exact ho.1.symm
  rw [show ([86]:List Nat) = [] ++ [86] from rfl,pushL_own,R_V_great _ (by rw [e];rfl)]
  exact run_take _ (by decide) (by decide) (by decide) e
theorem R_p_br (h:bt s i = 91):run s ((112,true) :: t) i d = run s ((111,true) :: (93,false) :: (61,false) :: (111,true) :: t) (i + 1) d :=
 run_own (l:=[111,61,93,111]) t (byte_in h (by omega)) (by omega) (by omega) (by simp [chosenN,h])
theorem R_p_else (hi:i ≤ s.size) (h:bt s i ≠ 91):run s ((112,true) :: t) i d = run s ((61,false) :: (71,true) :: t) i d:=by
 have hc:chosenN 112 (bt s i) = ([71,61],true):=by simp [chosenN,h]
 have he:expand 112 (bt s i) = some (pushL [71,61] (ownL [71,61] (bt s i))).reverse:=by unfold expand;rw [hc];rfl
 rw [run_exp t hi he]
 cases ho:ownL [71,61] (bt s i)
 ·rw [pushL_plain];rfl
 ·rw [show ([71,61]:List Nat) = [71] ++ [61] from rfl,pushL_own];rfl
theorem R_S_small (h:smallN (bt s i) = true):run s ((83,true) :: t) i d = run s ((61,false) :: (103,true) :: (59,false) :: (83,true) :: t) (i + 1) d:=by
 obtain ⟨hi,h1,h2,_⟩:=small_in h
 exact run_own (l:=[83,59,103,61]) t hi h1 h2 (by simp [chosenN,stmtN,h])
theorem R_S_great (h:greatN (bt s i) = true):run s ((83,true) :: t) i d = run s ((112,true) :: (59,false) :: (83,true) :: t) (i + 1) d:=by
 obtain ⟨hi,h1,h2,h3,h4⟩:=great_in h
 exact run_own (l:=[83,59,112]) t hi h1 h2 (by simp [chosenN,stmtN,h,h4])
theorem R_S_print (h:bt s i = 33):run s ((83,true) :: t) i d = run s ((111,true) :: (59,false) :: (83,true) :: t) (i + 1) d :=
 run_own (l:=[83,59,111]) t (byte_in h (by omega)) (by omega) (by omega) (by rw [h];rfl)
theorem R_S_drop (h:bt s i = 126):run s ((83,true) :: t) i d = run s ((86,true) :: (59,false) :: (83,true) :: t) (i + 1) d :=
 run_own (l:=[83,59,86]) t (byte_in h (by omega)) (by omega) (by omega) (by rw [h];rfl)
theorem R_S_if (h:bt s i = 63):run s ((83,true) :: t) i d = run s ((111,true) :: (123,false) :: (83,true) :: (125,false) :: (123,false) :: (83,true) :: (125,false) :: (83,true) :: t) (i + 1) d :=
 run_own (l:=[83,125,83,123,125,83,123,111]) t (byte_in h (by omega)) (by omega) (by omega) (by rw [h];rfl)
theorem R_S_loop (h:bt s i = 64):run s ((83,true) :: t) i d = run s ((111,true) :: (123,false) :: (83,true) :: (125,false) :: (83,true) :: t) (i + 1) d :=
 run_own (l:=[83,125,83,123,111]) t (byte_in h (by omega)) (by omega) (by omega) (by rw [h];rfl)
def noStmt (c:Nat):Prop:=smallN c = false ∧ greatN c = false ∧ c ≠ 33 ∧ c ≠ 126 ∧ c ≠ 63 ∧ c ≠ 64
theorem R_S_none (hi:i ≤ s.size) (h:noStmt (bt s i)):run s ((83,true) :: t) i d = run s t i d:=by
 obtain ⟨h1,h2,h3,h4,h5,h6⟩:=h
 exact run_exp t hi (expand_nil (by simp [chosenN,stmtN,h1,h2,h3,h4,h5,h6]))
end
theorem run_take_ok {s:ByteArray} {x i:Nat} {d:Int} {t:List (Nat × Bool)} (hi:i ≤ s.size) (hx:x ≠ 0) (h1:x ≠ 123) (h2:x ≠ 125) (h:run s ((x,false) :: t) i d = (0,0)):bt s i = x ∧ i < s.size ∧ run s t (i + 1) d = (0,0):=by
 by_cases e:bt s i = x
 ·refine ⟨e,byte_in e hx,?_⟩
  rwa [run_take t hx h1 h2 e] at h
 ·rw [run_miss t hi e] at h;simp at h
theorem run_open_ok {s:ByteArray} {i:Nat} {d:Int} {t:List (Nat × Bool)} (hi:i ≤ s.size) (h:run s ((123,false) :: t) i d = (0,0)):bt s i = 123 ∧ i < s.size ∧ d + 1 ≤ 8 ∧ run s t (i + 1) (d + 1) = (0,0):=by
 by_cases e:bt s i = 123
 ·have hl:=byte_in e (by decide)
  rw [run_hit _ hl e,if_pos rfl] at h
  split at h
  ·simp at h
  ·exact ⟨e,hl,by omega,h⟩
 ·rw [run_miss t hi e] at h;simp at h
theorem run_close_ok {s:ByteArray} {i:Nat} {d:Int} {t:List (Nat × Bool)} (hi:i ≤ s.size) (h:run s ((125,false) :: t) i d = (0,0)):bt s i = 125 ∧ i < s.size ∧ run s t (i + 1) (d - 1) = (0,0):=by
 by_cases e:bt s i = 125
 ·have hl:=byte_in e (by decide)
  rw [run_hit _ hl e,if_neg (by decide),if_pos rfl] at h
  exact ⟨e,hl,h⟩
 ·rw [run_miss t hi e] at h;simp at h
end
end Go.Proofs.YthcjcjfgdgnljabGreatDoor
