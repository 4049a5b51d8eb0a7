import Derived.Test.YthcjcjfgdgnljabGreatDoorGSynU
set_option linter.unusedVariables false
set_option maxHeartbeats 4000000
set_option maxRecDepth 8000
open Go.Proofs.Tryz
namespace Go.Proofs.YthcjcjfgdgnljabGreatDoor
open Go.RowKit
theorem opened_zero {S:List (Nat × Bool)} (c:Nat) (h:mu S = 0):(opened S c).1 = S:=by
 rcases S with _ | ⟨⟨b,q⟩,t⟩
 ·rfl
 ·cases q
  ·rfl
  ·have:rank b + mu t = 0:=h
   have:=rank_pos b
   omega
theorem opened_facts {c:Nat} (hc:c < 256):∀ (n:Nat) (S:List (Nat × Bool)),mu S ≤ n → OkS S → OkS (opened S c).1 ∧ wt (opened S c).1 ≤ wt S + 11 ∧ ((opened S c).2.1 = true → ∃ x t,(opened S c).1 = (x,false) :: t):=by
 intro n
 induction n with
 | zero =>
  intro S hS hO
  rw [opened_zero c (by omega)]
  refine ⟨hO,by omega,fun h=>?_⟩
  rcases S with _ | ⟨⟨b,q⟩,t⟩
  ·rw [opened_nil] at h;simp at h
  ·cases q
   ·exact ⟨b,t,rfl⟩
   ·have:rank b + mu t ≤ 0:=hS
    have:=rank_pos b
    omega
 | succ n ih =>
  intro S hS hO
  rcases S with _ | ⟨⟨b,q⟩,t⟩
  ·refine ⟨hO,by rw [opened_nil];exact Nat.le_add_right _ _,fun h=>?_⟩
   rw [opened_nil] at h;simp at h
  ·cases q
   ·rw [opened_byte]
    exact ⟨hO,Nat.le_add_right _ _,fun _=>⟨b,t,rfl⟩⟩
   ·have hOt:OkS t:=fun e he=>hO e (List.mem_cons_of_mem _ he)
    have hw:wt ((b,true) :: t) = wtE (b,true) + wt t:=rfl
    have hm:rank b + mu t ≤ n + 1:=hS
    cases he:expand b c with
    | none =>
     rw [opened_none t he]
     exact ⟨hOt,show wt t ≤ _ by omega,fun h=>absurd h (by simp)⟩
    | some es =>
     rw [opened_some t he]
     have hp:isPart b:=(hO (b,true) (by simp)).2 rfl
     have h1:=expand_step hp he
     have h2:=h1.hm t
     have hO2:OkS (es ++ t):=fun e q=>by
      rcases List.mem_append.1 q with q | q
      ·exact expand_ok hc he e q
      ·exact hOt e q
     have h3:=ih (es ++ t) (by omega) hO2
     refine ⟨h3.1,?_,h3.2.2⟩
     rcases h1.hw with q | ⟨q1,q2⟩
     ·have:=h3.2.1
      rw [wt_append] at this
      omega
     ·rw [opened_zero c (q1 t),wt_append]
      omega
theorem wrong_fn (w:World) (s:ByteArray) (hs:s.size ≤ 20000) :
  CR 52 #[.string s] w (.tuple #[.int .i64 ((run s [(83,true)] 0 0).1:Nat),.int .i64 ((run s [(83,true)] 0 0).2:Nat)]):=by
 have hv:(convert 128 9 (.slice (some ⟨w.heap.size + 1,0,none⟩) 1 1)).run prog ((w.alloc (.cells #[.slice none 0 0] 126)).alloc (.cells #[.int .u8 83] 5)) = .ok (.string ⟨#[83]⟩) ((w.alloc (.cells #[.slice none 0 0] 126)).alloc (.cells #[.int .u8 83] 5)) :=
  bytes_strW _ (w.heap.size + 1) [83] (fun j v hj=>by match j,hj with | 0,hj=>(simp at hj;subst hj;exact cell_new _ _ _ (by simp) rfl))
 have hpu:pushS ⟨#[83]⟩ false 1 = [(83,true)]:=by decide
 have hS0:StkAt ((w.alloc (.cells #[.slice none 0 0] 126)).alloc (.cells #[.int .u8 83] 5)) w.heap.size (w.heap.size + 1) (.slice none 0 0) []:=by
  refine StkAt.no (w:=w.alloc (.cells #[.slice none 0 0] 126)) ⟨cell_new _ _ _ rfl rfl,fun o=>?_,⟨rfl,.inl ⟨rfl,rfl⟩⟩,by simp [Value.ownBlock]⟩ ((Fr.refl _ _).alloc _)
  exact World.frozen?_alloc_at _ _ _ _ rfl
 have HS0:Hid _:=hS0
 clear hS0
 generalize hR0:run s [(83,true)] 0 0 = R
 have HR0:Hid _:=hR0
 clear hR0
 go_enter func52,ntmps52
 go_wp2_with (go_at_call 70;refine (push_any _ w.heap.size (w.heap.size + 1) (.slice none 0 0) [] ⟨#[83]⟩ false HS0.out (by simp) (by decide) (by simp)).mono ?_;rintro e w1 ⟨rfl,v1,hS1,hF1⟩)
 have hS1':StkAt w1 w.heap.size (w.heap.size + 1) v1 [(83,true)]:=by rw [← hpu];exact hS1
 have hF1':Fr NoB w w1:=((((Fr.refl NoB w).alloc _).alloc _).then hF1 (fun k hk e=>by
  rcases e with e | e
  ·omega
  ·simp [Value.ownBlock] at e))
 clear hS1 hF1 hpu hv HS0
 have hO1:OkS [(83,true)]:=fun e he=>by simp at he;subst he;exact ⟨by decide,fun _=>.inl rfl⟩
 go_loopw [5,6] (fun td ti wr=>∃ (i:Nat) (d:Int) (S:List (Nat × Bool)) (v:Value),i ≤ s.size ∧ ti = .int .i64 i ∧ td = .int .i64 d ∧ -(i:Int) ≤ d ∧ d ≤ 8 ∧ StkAt wr w.heap.size (w.heap.size + 1) v S.reverse ∧ Fr NoB w wr ∧ w1.heap.size ≤ wr.heap.size ∧ OkS S ∧ wt S ≤ 1 + 11 * i ∧ R = run s S i d) (fun _ t _=>s.size - (intOf t).toNat)
 case atStart=>exact ⟨0,0,[(83,true)],v1,Nat.zero_le _,rfl,rfl,by omega,by omega,hS1',hF1',Nat.le_refl _,hO1,by decide,HR0.out.symm⟩
 case round =>
  obtain ⟨i,d,S,v,hi,rfl,rfl,hd1,hd2,hS,hF,hsz,hO,hwS,hrun⟩:=hrel
  have hw1:w.heap.size + 1 ≤ w1.heap.size:=World.block_lt_of_cell? _ _ hS1'.c
  have HS:Hid _:=hS
  have HF:Hid _:=hF
  have HO:Hid _:=hO
  have HR:Hid (R = run s S i d):=hrun
  clear hS hF hO hrun
  by_cases hlt:i < s.size
  ·have Hbt:Hid (bt s i = s[i].toNat):=bt_in hlt
   have Hfacts:Hid _:=opened_facts (bt_lt s i) _ S (Nat.le_refl _) HO.out
   have HC:Hid (Calls prog 71 #[.pointer (some ⟨w.heap.size,0,none⟩),.int .u8 (s[i].toNat:Int)] wr fun e w'=>e = .returned (.tuple #[.bool (opened S (bt s i)).2.1,.bool (opened S (bt s i)).2.2]) ∧
     (∃ v',StkAt w' w.heap.size (w.heap.size + 1) v' (opened S (bt s i)).1.reverse) ∧ Fr (StkS w.heap.size (w.heap.size + 1)) wr w'):=by
    have:=opened_any wr w.heap.size (w.heap.size + 1) v S (bt s i) (bt_lt s i) HS.out (by omega) (by omega) HO.out
    rw [Hbt.out] at this ⊢
    exact this
   have HRin:Hid _:=run_in S d hlt
   generalize opened S (bt s i) = P at HC HRin Hfacts
   obtain ⟨S2,th,bd⟩:=P
   have HF0:Hid (∀ w2:World,Fr (StkS w.heap.size (w.heap.size + 1)) wr w2 → Fr NoB w w2 ∧ w1.heap.size ≤ w2.heap.size):=fun w2 q =>
    ⟨HF.out.then q (fun k hk e=>by unfold StkS at e;omega),Nat.le_trans hsz q.size⟩
   go_upto_region 8 with (go_at_call 71;refine HC.out.mono ?_;rintro e w2 ⟨rfl,⟨v2,hS2⟩,hF2⟩)
   have hF3:=HF0.out w2 hF2
   have HF3:Hid _:=hF3.1
   have hsz2:=hF3.2
   clear hF3 hF2 HC HF0 HF HS hsz
   cases bd
   ·cases th
    ·have HRR:Hid (R = (2,i)):=by show R = _;rw [HR.out,HRin.out];rfl
     clear HRin HR
     go_quiet (fail)
     go_wp2
     go_ret2
     rw [HRR.out]
     exact ⟨rfl,HF3.out.drewN _⟩
    ·obtain ⟨x,t,hxt⟩:=Hfacts.out.2.2 rfl
     have hxt2:S2 = (x,false) :: t:=hxt
     subst hxt2
     clear hxt
     have hO2:=Hfacts.out.1
     have hw2:wt ((x,false) :: t) ≤ wt S + 11:=Hfacts.out.2.1
     clear Hfacts
     simp only [List.reverse_cons] at hS2
     obtain ⟨g,cap,rfl,hgk,hbg,hgl,hc1,hc2,hc3,hc4⟩:=hS2.top
     have hcell:=hS2.c
     have hfrz:=hS2.f 0
     have hlen:t.reverse.length = t.length:=by simp
     rw [hlen] at hcell hc3 hc4 hc1
     unfold maxLen at hc2
     have hkl:w.heap.size < w2.heap.size:=World.block_lt_of_cell? _ _ hcell
     have HS2:Hid _:=hS2
     clear hS2 hlen hc4
     by_cases hx:x = s[i].toNat
     ·have hxb:decide ((x:Int) = (s[i].toNat:Int)) = true:=decide_eq_true (by omega)
      have HRR:Hid (R = if s[i].toNat = 123 then (if 8 < d + 1 then (3,i) else run s t (i + 1) (d + 1)) else run s t (i + 1) (if s[i].toNat = 125 then d - 1 else d)):=by
       show R = _
       rw [HR.out,HRin.out,Hbt.out]
       have:(x == s[i].toNat) = true:=beq_iff_eq.2 hx
       simp [this]
      have HO2:Hid (OkS t ∧ wt t ≤ 1 + 11 * (i + 1)):=⟨fun e he=>hO2 e (List.mem_cons_of_mem _ he),by
       have:wt ((x,false) :: t) = wtE (x,false) + wt t:=rfl
       omega⟩
      clear HRin HR hO2 hw2 hwS
      go_quiet (fail)
      go_upto_region 10 with fail
      go_region
      have HS3:Hid (StkAt ((w2.drewN (nq + 1)).setCell ⟨w.heap.size,0,none⟩ (Value.slice (some ⟨g,0,none⟩) t.length cap)) w.heap.size (w.heap.size + 1) (Value.slice (some ⟨g,0,none⟩) t.length cap) t.reverse):=by
       have:=HS2.out
       have hlen:t.reverse.length = t.length:=by simp
       show StkAt _ _ _ _ _
       rw [← hlen]
       exact this.pop ((Fr.refl _ w2).drewN _)
      have HF4:Hid (Fr NoB w ((w2.drewN (nq + 1)).setCell ⟨w.heap.size,0,none⟩ (Value.slice (some ⟨g,0,none⟩) t.length cap))) :=
       (HF3.out.drewN _).setCell (p:=⟨w.heap.size,0,none⟩) (fun q=>absurd q (by simp)) _
      have hsz4:w1.heap.size ≤ ((w2.drewN (nq + 1)).setCell ⟨w.heap.size,0,none⟩ (Value.slice (some ⟨g,0,none⟩) t.length cap)).heap.size:=by
       rw [setCell_size];exact hsz2
      generalize ((w2.drewN (nq + 1)).setCell ⟨w.heap.size,0,none⟩ (Value.slice (some ⟨g,0,none⟩) t.length cap)) = W3 at *
      clear HS2 hcell hfrz hc3 HF3
      by_cases h123:s[i].toNat = 123
      ·have b1:((s[i].toNat:Int) == 123) = true:=beq_iff_eq.2 (by omega)
       have b2:((s[i].toNat:Int) == 125) = false:=bF (by omega)
       by_cases h8:8 < d + 1
       ·have HE:Hid (R = (3,i)):=by show R = _;rw [HRR.out,if_pos h123,if_pos h8]
        clear HRR h123 hx hxb
        go_wp2
        go_ret2
        rw [HE.out]
        exact ⟨rfl,HF4.out⟩
       ·have HE:Hid (R = run s t (i + 1) (d + 1)):=by show R = _;rw [HRR.out,if_pos h123,if_neg h8]
        clear HRR h123 hx hxb
        go_wp2
        go_roundw
        case rel=>exact ⟨i + 1,d + 1,t,_,by omega,by go_num,by go_num,by omega,by omega,HS3.out,HF4.out,hsz4,HO2.out.1,HO2.out.2,HE.out⟩
        case measure=>simp [intOf];omega
      ·have b1:((s[i].toNat:Int) == 123) = false:=bF (by omega)
       by_cases h125:s[i].toNat = 125
       ·have b2:((s[i].toNat:Int) == 125) = true:=beq_iff_eq.2 (by omega)
        have HE:Hid (R = run s t (i + 1) (d - 1)):=by show R = _;rw [HRR.out,if_neg h123,if_pos h125]
        clear HRR h123 h125 hx hxb
        go_wp2
        go_roundw
        case rel=>exact ⟨i + 1,d - 1,t,_,by omega,by go_num,by go_num,by omega,by omega,HS3.out,HF4.out,hsz4,HO2.out.1,HO2.out.2,HE.out⟩
        case measure=>simp [intOf];omega
       ·have b2:((s[i].toNat:Int) == 125) = false:=bF (by omega)
        have HE:Hid (R = run s t (i + 1) d):=by show R = _;rw [HRR.out,if_neg h123,if_neg h125]
        clear HRR h123 h125 hx hxb
        go_wp2
        go_roundw
        case rel=>exact ⟨i + 1,d,t,_,by omega,by go_num,rfl,by omega,by omega,HS3.out,HF4.out,hsz4,HO2.out.1,HO2.out.2,HE.out⟩
        case measure=>simp [intOf];omega
     ·have hxb:decide ((x:Int) = (s[i].toNat:Int)) = false:=decide_eq_false (by omega)
      have HRR:Hid (R = (2,i)):=by
       show R = _
       rw [HR.out,HRin.out,Hbt.out]
       have:(x == s[i].toNat) = false:=beq_eq_false_iff_ne.2 hx
       simp [this]
      clear HRin HR
      go_quiet (fail)
      go_wp2
      go_ret2
      rw [HRR.out]
      exact ⟨rfl,HF3.out.drewN _⟩
   ·have HRR:Hid (R = (2,i)):=by show R = _;rw [HR.out,HRin.out];rfl
    clear HRin HR
    go_quiet (fail)
    go_wp2
    go_ret2
    rw [HRR.out]
    exact ⟨rfl,HF3.out.drewN _⟩
  ·have hie:i = s.size:=by omega
   subst hie
   have HC:Hid (Calls prog 71 #[.pointer (some ⟨w.heap.size,0,none⟩),.int .u8 0] wr fun e w'=>e = .returned (.tuple #[.bool (opened S 0).2.1,.bool (opened S 0).2.2]) ∧
     (∃ v',StkAt w' w.heap.size (w.heap.size + 1) v' (opened S 0).1.reverse) ∧ Fr (StkS w.heap.size (w.heap.size + 1)) wr w') :=
    opened_any wr w.heap.size (w.heap.size + 1) v S 0 (by omega) HS.out (by omega) (by omega) HO.out
   have HRin:Hid _:=run_end s S d
   generalize opened S 0 = P at HC HRin
   obtain ⟨S2,th,bd⟩:=P
   have HF0:Hid (∀ w2:World,Fr (StkS w.heap.size (w.heap.size + 1)) wr w2 → Fr NoB w w2):=fun w2 q =>
    HF.out.then q (fun k hk e=>by unfold StkS at e;omega)
   have HRR:Hid (R = if th || bd then (2,s.size) else (0,0)):=by show R = _;rw [HR.out,HRin.out]
   clear HRin HR HF HS
   cases th
   ·cases bd
    ·go_wp2_with (go_at_call 71;refine HC.out.mono ?_;rintro e w2 ⟨rfl,⟨v2,hS2⟩,hF2⟩)
     go_ret2
     rw [HRR.out]
     exact ⟨rfl,HF0.out _ hF2⟩
    ·go_wp2_with (go_at_call 71;refine HC.out.mono ?_;rintro e w2 ⟨rfl,⟨v2,hS2⟩,hF2⟩)
     go_ret2
     rw [HRR.out]
     exact ⟨rfl,HF0.out _ hF2⟩
   ·go_wp2_with (go_at_call 71;refine HC.out.mono ?_;rintro e w2 ⟨rfl,⟨v2,hS2⟩,hF2⟩)
    go_ret2
    rw [HRR.out]
    exact ⟨rfl,HF0.out _ hF2⟩
theorem retI {k:IntKind} {a b:Int} (h:a = b):Ending.returned (.int k a) = .returned (.int k b):=by rw [h]
def br (c:Nat):Int:=if c = 123 then 1 else if c = 125 then -1 else 0
def cum (s:ByteArray):Nat → Int
 | 0=>0
 | k + 1=>cum s k + br (bt s k)
theorem cum_near (s:ByteArray) (a:Nat):∀ n,cum s (a + n) ≤ cum s a + n ∧ cum s a - n ≤ cum s (a + n)
 | 0=>by simp
 | n + 1=>by
  have h:=cum_near s a n
  show cum s (a + n) + br (bt s (a + n)) ≤ _ ∧ _ ≤ cum s (a + n) + br (bt s (a + n))
  have:br (bt s (a + n)) ≤ 1 ∧ -1 ≤ br (bt s (a + n)):=by
   unfold br
   repeat' split
   all_goals omega
  omega
theorem cum_bound (s:ByteArray) {a k:Nat} (h:a ≤ k):cum s k ≤ cum s a + (k - a:Nat) ∧ cum s a - (k - a:Nat) ≤ cum s k:=by
 have:=cum_near s a (k - a)
 rwa [show a + (k - a) = k by omega] at this
structure Nn (s:ByteArray) (a b:Nat):Prop where
 le:a ≤ b
 eq:cum s b = cum s a
 ge:∀ k,a ≤ k → k ≤ b → cum s a ≤ cum s k
theorem Nn.refl (s:ByteArray) (a:Nat):Nn s a a:=⟨Nat.le_refl _,rfl,fun k h1 h2=>by rw [show k = a by omega];omega⟩
theorem Nn.app {s:ByteArray} {a b c:Nat} (h:Nn s a b) (g:Nn s b c):Nn s a c :=
 ⟨Nat.le_trans h.le g.le,g.eq.trans h.eq,fun k h1 h2=>by
  by_cases e:k ≤ b
  ·exact h.ge k h1 e
  ·rw [← h.eq];exact g.ge k (by omega) h2⟩
theorem Nn.one {s:ByteArray} {a:Nat} (h1:bt s a ≠ 123) (h2:bt s a ≠ 125):Nn s a (a + 1):=by
 have e:cum s (a + 1) = cum s a:=by
  show cum s a + br (bt s a) = _
  unfold br
  rw [if_neg h1,if_neg h2]
  omega
 refine ⟨by omega,e,fun k g1 g2=>?_⟩
 by_cases q:k = a
 ·rw [q];omega
 ·rw [show k = a + 1 by omega,e];omega
theorem Nn.span {s:ByteArray} {a:Nat}:∀ {n:Nat},(∀ k,a ≤ k → k < a + n → bt s k ≠ 123 ∧ bt s k ≠ 125) → Nn s a (a + n)
 | 0,_=>Nn.refl s a
 | n + 1,h=>(Nn.span (n:=n) (fun k h1 h2=>h k h1 (by omega))).app (Nn.one (h (a + n) (by omega) (by omega)).1 (h (a + n) (by omega) (by omega)).2)
theorem Nn.plain {s:ByteArray} {a b:Nat} (hab:a ≤ b) (h:∀ k,a ≤ k → k < b → bt s k ≠ 123 ∧ bt s k ≠ 125):Nn s a b:=by
 have:=Nn.span (s:=s) (a:=a) (n:=b - a) (fun k h1 h2=>h k h1 (by omega))
 rwa [show a + (b - a) = b by omega] at this
theorem cum_open {s:ByteArray} {q:Nat} (h:bt s q = 123):cum s (q + 1) = cum s q + 1:=by
 show cum s q + br (bt s q) = _
 rw [h];rfl
theorem cum_close {s:ByteArray} {q:Nat} (h:bt s q = 125):cum s (q + 1) = cum s q - 1:=by
 show cum s q + br (bt s q) = _
 rw [h];rfl
theorem brace {s:ByteArray} {q b:Nat} (h1:bt s q = 123) (h:Nn s (q + 1) b) (h2:bt s b = 125):cum s (b + 1) = cum s q ∧ ∀ k,q < k → k < b + 1 → cum s k ≠ cum s q:=by
 have e1:=cum_open h1
 have e2:=cum_close h2
 have e3:=h.eq
 refine ⟨by omega,fun k g1 g2=>?_⟩
 have:=h.ge k (by omega) (by omega)
 omega
theorem Nn.brace {s:ByteArray} {q b:Nat} (h1:bt s q = 123) (h:Nn s (q + 1) b) (h2:bt s b = 125):Nn s q (b + 1):=by
 have e1:=cum_open h1
 have e2:=cum_close h2
 have e3:=h.eq
 have:=h.le
 refine ⟨by omega,by omega,fun k g1 g2=>?_⟩
 by_cases e:k = q
 ·rw [e];omega
 ·by_cases e':k = b + 1
  ·rw [e'];omega
  ·have:=h.ge k (by omega) (by omega)
   omega
theorem Opnd.nn {s:ByteArray} {i j:Nat} (h:Opnd s i j):Nn s i j:=Nn.plain (Nat.le_of_lt h.lt) (fun k h1 h2=>(h.span k h1 h2).2)
theorem Simple.nn {s:ByteArray} {i j:Nat} (h:Simple s i j):Nn s i j:=by
 obtain ⟨h1,_,h2,h3⟩:=h.line
 refine Nn.plain (Nat.le_of_lt h1) (fun k g1 g2=>?_)
 by_cases e:k = j - 1
 ·rw [e,h2];omega
 ·exact (h3 k g1 (by omega)).2
theorem nn_of {s:ByteArray} {i x:Nat} (h:bt s i = x) (h1:x ≠ 123) (h2:x ≠ 125):Nn s i (i + 1):=Nn.one (by rw [h];exact h1) (by rw [h];exact h2)
theorem Prog.nn {s:ByteArray}:∀ {F i j:Nat},Prog s F i j → Nn s i j
 | 0,i,j,h=>by have e:i = j:=h;subst e;exact Nn.refl s i
 | F + 1,i,j,h=>by
  rcases h with h | ⟨m,h1,h2⟩
  ·subst h;exact Nn.refl s i
  ·refine Nn.app ?_ h2.nn
   rcases h1 with h | ⟨e,a,b,c,ho,ha,hp,hb,hb1,hq,hc,rfl⟩ | ⟨e,a,b,ho,ha,hp,hb,rfl⟩
   ·exact h.nn
   ·exact (((nn_of e (by decide) (by decide)).app ho.nn).app (Nn.brace ha hp.nn hb)).app (Nn.brace hb1 hq.nn hc)
   ·exact ((nn_of e (by decide) (by decide)).app ho.nn).app (Nn.brace ha hp.nn hb)
theorem bop_small (w:World) (s:ByteArray) (i:Nat) (hi:i < s.size) (hs:s.size ≤ 100000) (h:smallN s[i].toNat = true) :
  CS 102 #[.string s,.int .i64 i] w (.int .i64 ((i:Int) + 1)):=by
 go_enter func102,ntmps102
 go_wp2_with (go_at_call 106;refine sameC (small_fn _ s[i].toNat (UInt8.toNat_lt _)) ?_;rw [h])
 go_ret
 exact ⟨rfl,rfl⟩
theorem bop_digit (w:World) (s:ByteArray) (i j:Nat) (hij:i < j) (hj:j < s.size) (hs:s.size ≤ 100000) (h:∀ k,i ≤ k → k < j → digitN (bt s k) = true) (hd:digitN (bt s j) = false) :
  CS 102 #[.string s,.int .i64 i] w (.int .i64 j):=by
 have hi:i < s.size:=by omega
 have hsm:smallN s[i].toNat = false:=by
  have:=(digit_in (h i (Nat.le_refl _) hij)).2.2.2.1
  rwa [bt_in hi] at this
 have H:Hid _:=h
 have HD:Hid _:=hd
 clear h hd
 go_enter func102,ntmps102
 go_wp2_with (go_at_call 106;refine sameC (small_fn _ s[i].toNat (UInt8.toNat_lt _)) ?_;rw [hsm])
 go_loop [1] (fun t=>∃ k:Nat,i ≤ k ∧ k ≤ j ∧ t = .int .i64 k) (fun t=>j - (intOf t).toNat)
 case atStart=>exact ⟨i,Nat.le_refl _,by omega,rfl⟩
 case round =>
  obtain ⟨k,hk1,hk2,rfl⟩:=hrel
  have hkl:k < s.size:=by omega
  by_cases hlt:k < j
  ·have hdk:digitN s[k].toNat = true:=by rw [← bt_in hkl];exact H.out k hk1 hlt
   go_wp2_with (go_at_call 109;refine sameC (digit_fn _ s[k].toNat (UInt8.toNat_lt _)) ?_;rw [hdk])
   go_round
   case rel=>exact ⟨k + 1,by omega,by omega,by go_num⟩
   case measure=>simp [intOf];omega
  ·have hkj:k = j:=by omega
   subst hkj
   have hdk:digitN s[k].toNat = false:=by rw [← bt_in hkl];exact HD.out
   go_wp2_with (go_at_call 109;refine sameC (digit_fn _ s[k].toNat (UInt8.toNat_lt _)) ?_;rw [hdk])
   go_ret
   exact ⟨rfl,rfl⟩
theorem bop_fn (w:World) (s:ByteArray) (i j:Nat) (h:Opnd s i j) (hj:j < s.size) (hs:s.size ≤ 100000) (hd:digitN (bt s j) = false) :
  CS 102 #[.string s,.int .i64 i] w (.int .i64 j):=by
 rcases h with ⟨h,rfl⟩ | ⟨h1,_,h2⟩
 ·have hi:i < s.size:=by omega
  rw [bt_in hi] at h
  exact bop_small w s i hi hs h
 ·exact bop_digit w s i j h1 hj hs h2 hd
theorem bbr_fn (w:World) (s:ByteArray) (i j:Nat) (hij:i < j) (hj:j ≤ s.size) (hs:s.size ≤ 100000) (h0:cum s j = cum s i) (h:∀ k,i < k → k < j → cum s k ≠ cum s i) :
  CS 103 #[.string s,.int .i64 i] w (.int .i64 j):=by
 have H:Hid _:=h
 have H0:Hid _:=h0
 clear h h0
 go_enter func103,ntmps103
 go_wp2
 go_loop [1,5] (fun t u=>∃ k:Nat,i ≤ k ∧ k < j ∧ t = .int .i64 k ∧ u = .int .i64 (cum s k - cum s i)) (fun t _=>j - (intOf t).toNat)
 case atStart=>exact ⟨i,Nat.le_refl _,hij,rfl,by simp⟩
 case round =>
  obtain ⟨k,hk1,hk2,rfl,rfl⟩:=hrel
  have hkl:k < s.size:=by omega
  have hb:=cum_bound s hk1
  have Hbt:Hid (bt s k = s[k].toNat):=bt_in hkl
  have Hnext:Hid (cum s (k + 1) - cum s i = cum s k - cum s i + br (s[k].toNat)):=by
   show cum s k + br (bt s k) - cum s i = _
   rw [Hbt.out];omega
  generalize hD:cum s k - cum s i = D at *
  have hD1:-100000 ≤ D ∧ D ≤ 100000:=by omega
  clear hD hb
  have Hend:Hid (k + 1 = j ↔ D + br (s[k].toNat) = 0):=by
   constructor
   ·intro e
    have:=H0.out
    have h2:=Hnext.out
    rw [e] at h2
    omega
   ·intro e
    have h2:=Hnext.out
    by_cases q:k + 1 = j
    ·exact q
    ·exact absurd (show cum s (k + 1) = cum s i by omega) (H.out (k + 1) (by omega) (by omega))
  obtain ⟨hD2,hD3⟩:=hD1
  by_cases h123:s[k].toNat = 123
  ·have b1:((s[k].toNat:Int) == 123) = true:=beq_iff_eq.2 (by omega)
   have b2:((s[k].toNat:Int) == 125) = false:=bF (by omega)
   have hbr:br (s[k].toNat) = 1:=by rw [h123];rfl
   rw [hbr] at Hend Hnext
   clear hbr h123
   by_cases hz:D + 1 = 0
   ·have hkj:=Hend.out.2 hz
    have b3:(D + 1 == 0) = true:=beq_iff_eq.2 hz
    clear hz
    go_wp2
    go_ret
    exact ⟨retI (by omega),rfl⟩
   ·have hkj:k + 1 ≠ j:=fun e=>hz (Hend.out.1 e)
    have b3:(D + 1 == 0) = false:=beq_eq_false_iff_ne.2 hz
    clear hz
    go_wp2
    go_round
    case rel=>exact ⟨k + 1,by omega,by omega,by go_num,by simp only [Hnext.out];first | done | rfl | go_num⟩
    case measure=>simp [intOf];omega
  ·have b1:((s[k].toNat:Int) == 123) = false:=bF (by omega)
   by_cases h125:s[k].toNat = 125
   ·have b2:((s[k].toNat:Int) == 125) = true:=beq_iff_eq.2 (by omega)
    have hbr:br (s[k].toNat) = -1:=by rw [h125];rfl
    rw [hbr] at Hend Hnext
    clear hbr h123 h125
    by_cases hz:D - 1 = 0
    ·have hkj:=Hend.out.2 (by omega)
     have b3:(D - 1 == 0) = true:=beq_iff_eq.2 hz
     clear hz
     go_wp2
     go_ret
     exact ⟨retI (by omega),rfl⟩
    ·have hkj:k + 1 ≠ j:=fun e=>hz (by have:=Hend.out.1 e;omega)
     have b3:(D - 1 == 0) = false:=beq_eq_false_iff_ne.2 hz
     clear hz
     go_wp2
     go_round
     case rel=>exact ⟨k + 1,by omega,by omega,by go_num,by simp only [Hnext.out];first | done | rfl | go_num⟩
     case measure=>simp [intOf];omega
   ·have b2:((s[k].toNat:Int) == 125) = false:=bF (by omega)
    have hbr:br (s[k].toNat) = 0:=by unfold br;rw [if_neg h123,if_neg h125]
    rw [hbr] at Hend Hnext
    clear hbr h123 h125
    by_cases hz:D = 0
    ·have hkj:=Hend.out.2 (by omega)
     have b3:(D == 0) = true:=beq_iff_eq.2 hz
     clear hz
     go_wp2
     go_ret
     exact ⟨retI (by omega),rfl⟩
    ·have hkj:k + 1 ≠ j:=fun e=>hz (by have:=Hend.out.1 e;omega)
     have b3:(D == 0) = false:=beq_eq_false_iff_ne.2 hz
     clear hz
     go_wp2
     go_round
     case rel=>exact ⟨k + 1,by omega,by omega,by go_num,by simp only [Hnext.out];first | done | rfl | go_num⟩
     case measure=>simp [intOf];omega
section
structure IfAt (s:ByteArray) (i a b c:Nat):Prop where
 q:bt s i = 63
 o:Opnd s (i + 1) a
 ha:bt s a = 123
 n1:Nn s (a + 1) b
 hb:bt s b = 125
 hb1:bt s (b + 1) = 123
 n2:Nn s (b + 2) c
 hc:bt s c = 125
structure LoopAt (s:ByteArray) (i a b:Nat):Prop where
 q:bt s i = 64
 o:Opnd s (i + 1) a
 ha:bt s a = 123
 n1:Nn s (a + 1) b
 hb:bt s b = 125
theorem nodigit {s:ByteArray} {j x:Nat} (h:bt s j = x) (hx:x = 123 ∨ x = 59 ∨ x = 93):digitN (bt s j) = false:=by
 rw [h];rcases hx with rfl | rfl | rfl <;> rfl
section
variable {s:ByteArray} {i a b c:Nat}
theorem IfAt.bnd (h:IfAt s i a b c):i + 1 < a ∧ a < b ∧ b + 1 < c ∧ c < s.size:=by
 have:=h.o.lt;have:=h.n1.le;have:=h.n2.le;have:=byte_in h.hc (by decide);omega
theorem LoopAt.bnd (h:LoopAt s i a b):i + 1 < a ∧ a < b ∧ b < s.size:=by
 have:=h.o.lt;have:=h.n1.le;have:=byte_in h.hb (by decide);omega
theorem IfAt.op (h:IfAt s i a b c) (hs:s.size ≤ 100000) (w:World):CS 102 #[.string s,.int .i64 ((i:Int) + 1)] w (.int .i64 a):=by
 have:=h.bnd
 exact bop_fn w s (i + 1) a h.o (by omega) hs (nodigit h.ha (.inl rfl))
theorem IfAt.br1 (h:IfAt s i a b c) (hs:s.size ≤ 100000) (w:World):CS 103 #[.string s,.int .i64 a] w (.int .i64 ((b:Int) + 1)):=by
 have:=h.bnd
 have g:=brace h.ha h.n1 h.hb
 exact bbr_fn w s a (b + 1) (by omega) (by omega) hs g.1 g.2
theorem IfAt.br2 (h:IfAt s i a b c) (hs:s.size ≤ 100000) (w:World):CS 103 #[.string s,.int .i64 ((b:Int) + 1)] w (.int .i64 ((c:Int) + 1)):=by
 have:=h.bnd
 have g:=brace h.hb1 h.n2 h.hc
 exact bbr_fn w s (b + 1) (c + 1) (by omega) (by omega) hs g.1 g.2
theorem LoopAt.op (h:LoopAt s i a b) (hs:s.size ≤ 100000) (w:World):CS 102 #[.string s,.int .i64 ((i:Int) + 1)] w (.int .i64 a):=by
 have:=h.bnd
 exact bop_fn w s (i + 1) a h.o (by omega) hs (nodigit h.ha (.inl rfl))
theorem LoopAt.br1 (h:LoopAt s i a b) (hs:s.size ≤ 100000) (w:World):CS 103 #[.string s,.int .i64 a] w (.int .i64 ((b:Int) + 1)):=by
 have:=h.bnd
 have g:=brace h.ha h.n1 h.hb
 exact bbr_fn w s a (b + 1) (by omega) (by omega) hs g.1 g.2
end
theorem beh_if (w:World) (s:ByteArray) (i a b c:Nat) (h:IfAt s i a b c) (hs:s.size ≤ 100000) :
  CS 77 #[.string s,.int .i64 i] w (.int .i64 ((c:Int) + 1)):=by
 have hbd:=h.bnd
 have hi:i < s.size:=by omega
 have hq:s[i].toNat = 63:=by rw [← bt_in hi];exact h.q
 have b1:((s[i].toNat:Int) == 63) = true:=beq_iff_eq.2 (by omega)
 have H1:Hid _:=h.op hs
 have H2:Hid _:=h.br1 hs
 have H3:Hid _:=h.br2 hs
 clear h hq
 go_enter func77,ntmps77
 go_wp2_with fail
 refine sameC (H1.out _) ?_
 go_wp2_with fail
 refine sameC (H2.out _) ?_
 go_wp2_with fail
 refine sameC (H3.out _) ?_
 go_wp2
 go_ret
 exact ⟨rfl,rfl⟩
theorem beh_loop (w:World) (s:ByteArray) (i a b:Nat) (h:LoopAt s i a b) (hs:s.size ≤ 100000) :
  CS 77 #[.string s,.int .i64 i] w (.int .i64 ((b:Int) + 1)):=by
 have hbd:=h.bnd
 have hi:i < s.size:=by omega
 have hq:s[i].toNat = 64:=by rw [← bt_in hi];exact h.q
 have b1:((s[i].toNat:Int) == 63) = false:=bF (by omega)
 have b2:((s[i].toNat:Int) == 64) = true:=beq_iff_eq.2 (by omega)
 have H1:Hid _:=h.op hs
 have H2:Hid _:=h.br1 hs
 clear h hq
 go_enter func77,ntmps77
 go_wp2_with (first | (go_at_call 102;refine sameC (H1.out _) ?_) | (go_at_call 103;refine sameC (H2.out _) ?_))
 go_ret
 exact ⟨rfl,rfl⟩
theorem Simple.first {s:ByteArray} {i j:Nat} (h:Simple s i j):bt s i ≠ 63 ∧ bt s i ≠ 64:=by
 have sm:smallN (bt s i) = true → bt s i ≠ 63 ∧ bt s i ≠ 64:=fun h=>by simp [smallN] at h;omega
 have gr:greatN (bt s i) = true → bt s i ≠ 63 ∧ bt s i ≠ 64:=fun h=>by simp [greatN] at h;omega
 rcases h with h | h | h | h | h | h | h | h | h
 ·exact sm h.1
 ·exact sm h.1
 ·exact sm h.1
 ·exact sm h.1
 ·exact gr h.1
 ·exact gr h.1
 ·exact gr h.1
 ·have:=h.1;omega
 ·have:=h.1;omega
theorem beh_simple (w:World) (s:ByteArray) (i j:Nat) (h:Simple s i j) (hs:s.size ≤ 100000) :
  CS 77 #[.string s,.int .i64 i] w (.int .i64 j):=by
 obtain ⟨hij,hj,h59,hsp⟩:=h.line
 have hi:i < s.size:=by omega
 have hf:=h.first
 rw [bt_in hi] at hf
 have b1:((s[i].toNat:Int) == 63) = false:=bF (by omega)
 have b2:((s[i].toNat:Int) == 64) = false:=bF (by omega)
 have H59:Hid _:=h59
 have HSp:Hid _:=hsp
 clear h h59 hsp hf
 go_enter func77,ntmps77
 go_wp2
 go_loop [1] (fun t=>∃ k:Nat,i ≤ k ∧ k < j ∧ t = .int .i64 k) (fun t=>j - (intOf t).toNat)
 case atStart=>exact ⟨i,Nat.le_refl _,hij,rfl⟩
 case round =>
  obtain ⟨k,hk1,hk2,rfl⟩:=hrel
  have hkl:k < s.size:=by omega
  by_cases hlt:k + 1 < j
  ·have b3:((s[k].toNat:Int) != 59) = true:=bne_iff_ne.2 (by
    have:=(HSp.out k hk1 (by omega)).1
    rw [bt_in hkl] at this
    omega)
   go_wp2
   go_round
   case rel=>exact ⟨k + 1,by omega,by omega,by go_num⟩
   case measure=>simp [intOf];omega
  ·have hkj:k + 1 = j:=by omega
   have b3:((s[k].toNat:Int) != 59) = false:=by
    have:=H59.out
    rw [show j - 1 = k by omega,bt_in hkl] at this
    rw [this];rfl
   go_wp2
   go_ret
   exact ⟨retI (by omega),rfl⟩
theorem halves_fn (w:World) (s:ByteArray) (i a b c:Nat) (h:IfAt s i a b c) (hs:s.size ≤ 100000) :
  CS 72 #[.string s,.int .i64 i] w (.tuple #[.int .i64 ((a:Int) + 1),.int .i64 b,.int .i64 ((b:Int) + 2),.int .i64 c]):=by
 have hbd:=h.bnd
 have H1:Hid _:=h.op hs
 have H2:Hid _:=h.br1 hs
 have H3:Hid _:=h.br2 hs
 clear h
 go_enter func72,ntmps72
 go_wp2_with fail
 refine sameC (H1.out _) ?_
 go_wp2_with fail
 refine sameC (H2.out _) ?_
 go_wp2_with fail
 refine sameC (H3.out _) ?_
 go_wp2
 exact bodyPost_ret (v:=.tuple #[.int .i64 ((a:Int) + 1),.int .i64 b,.int .i64 ((b:Int) + 2),.int .i64 c]) (by simp [results,results72,go_sem];omega) rfl ⟨rfl,rfl⟩
theorem body_fn (w:World) (s:ByteArray) (i a b:Nat) (h:LoopAt s i a b) (hs:s.size ≤ 100000) :
  CS 73 #[.string s,.int .i64 i] w (.tuple #[.int .i64 ((a:Int) + 1),.int .i64 b]):=by
 have hbd:=h.bnd
 have H1:Hid _:=h.op hs
 have H2:Hid _:=h.br1 hs
 clear h
 go_enter func73,ntmps73
 go_wp2_with (first | (go_at_call 102;refine sameC (H1.out _) ?_) | (go_at_call 103;refine sameC (H2.out _) ?_))
 go_ret2
 exact ⟨rfl,rfl⟩
end
end Go.Proofs.YthcjcjfgdgnljabGreatDoor
