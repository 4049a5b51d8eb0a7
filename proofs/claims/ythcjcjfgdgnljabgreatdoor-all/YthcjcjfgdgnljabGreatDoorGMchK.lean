import Derived.Test.YthcjcjfgdgnljabGreatDoorGMchN
import Derived.Shelf.Strconv.Itoa3
import Derived.Shelf.Lay
import Derived.Lib.AppendStr
set_option linter.unusedVariables false
set_option maxHeartbeats 4000000
set_option maxRecDepth 8000
open Go.Proofs.Tryz
namespace Go.Proofs.YthcjcjfgdgnljabGreatDoor
open Go.RowKit
def Fit (c:Cf):Ac → St → Prop
 | .load _ b _,σ=>σ.bx b ≠ []
 | .size _ b,σ=>σ.bx b ≠ []
 | .make b _,σ=>¬ (c.strict = true ∧ σ.bx b ≠ [])
 | .move b d,σ=>σ.bx d ≠ [] ∧ (b = d ∨ ¬ (c.strict = true ∧ σ.bx b ≠ []))
 | .store b _ _,σ=>σ.bx b ≠ []
 | .drop b,σ=>σ.bx b ≠ []
 | _,_=>True
theorem act_unfit {c:Cf} {a:Ac} {σ:St} (h:¬ Fit c a σ):act c a σ = ends σ 4:=by
 cases a <;> simp only [Fit,not_true_eq_false,ne_eq,Classical.not_not] at h
 case load v b o=>simp only [act];rw [if_pos h]
 case size v b=>simp only [act];rw [if_pos h]
 case make b o=>simp only [act];rw [if_pos h]
 case move b d =>
  simp only [act]
  by_cases h1:σ.bx d = []
  ·rw [if_pos h1]
  ·rw [if_neg h1]
   have h2:¬ (b = d ∨ ¬ (c.strict = true ∧ ¬ σ.bx b = [])):=fun q=>h ⟨h1,q⟩
   have h3:b ≠ d:=fun q=>h2 (.inl q)
   have h4:c.strict = true ∧ σ.bx b ≠ []:=Classical.not_not.1 (fun q=>h2 (.inr q))
   rw [if_neg h3,if_pos h4]
 case store b o p=>simp only [act];rw [if_pos h]
 case drop b=>simp only [act];rw [if_pos h]
theorem fit_of {c:Cf} {a:Ac} {σ:St} (h:(act c a σ).1.status ≠ 4):Fit c a σ:=Classical.byContradiction fun q=>h (by rw [act_unfit q];rfl)
theorem brk_fit {c:Cf} (hc:c.strict = true) {t:Pt} (ht:t.kind < 8) {σ:St}:brkB t σ = false ↔ Fit c (acP t) σ:=by
 obtain ⟨kind,place,num,box,src,o1,sign,o2,opn⟩:=t
 simp only [] at ht
 have hk:kind = 0 ∨ kind = 1 ∨ kind = 2 ∨ kind = 3 ∨ kind = 4 ∨ kind = 5 ∨ kind = 6 ∨ kind = 7:=by omega
 unfold brkB useB getB useBx acP
 rcases hk with rfl | hk
 ·by_cases hs:sign = 0
  ·subst hs;exact ⟨fun _=>trivial,fun _=>rfl⟩
  ·simp only [if_pos trivial,if_neg hs]
   exact ⟨fun _=>trivial,fun _=>rfl⟩
 rcases hk with rfl | rfl | rfl | rfl | rfl | rfl | rfl <;> simp only [] <;> simp [Fit,hc]
 ·by_cases q:box = src
  ·subst q;simp
  ·simp [q]
def sgA:Ac → Prop
 | .bin _ _ c _=>sgOk c
 | _=>True
theorem sg_of {s:ByteArray} {i m:Nat} (h:Simple s i m):sgA (acN s i):=by
 rcases h with h | h | h | h | h | h | h | h | h
 ·rw [acN_size h];trivial
 ·rw [acN_load h];trivial
 ·obtain ⟨hm,e1,k,ho,e5,rfl⟩:=h
  rw [acN_set hm ho e5];trivial
 ·obtain ⟨hm,e1,k,l,ho,hop2,ho2,e5,rfl⟩:=h
  have hks:k < s.size:=byte_in rfl (by unfold isOp at hop2;omega)
  rw [acN_bin hm ho hop2 hks]
  unfold sgA sgOk
  unfold isOp at hop2
  omega
 ·obtain ⟨hg,e1,k,l,ho,e2,e3,ho2,e5,rfl⟩:=h
  rw [acN_store hg e1 ho e2];trivial
 ·rw [acN_make h];trivial
 ·rw [acN_move h];trivial
 ·obtain ⟨e0,k,ho,e5,rfl⟩:=h
  rw [acN_print e0];trivial
 ·rw [acN_drop h.1];trivial
theorem seg_fit {p:Nat → Pt} {s:ByteArray} {cl cs:Nat → (Nat → Bool) → Prop}:∀ {F i j k l:Nat} {f:Nat → Bool},SegQ p s cl cs F i j k l f → ∀ q,k ≤ q → q < l → (p q).kind < 8 → AcOk (acP (p q)) ∧ sgA (acP (p q))
 | 0,i,j,k,l,f,h,q,h1,h2,h3=>absurd h.2 (by omega)
 | F + 1,i,j,k,l,f,h,q,h1,h2,h3=>by
  rcases h with ⟨rfl,rfl⟩ | ⟨m,k',⟨hc,hs⟩,g1,g2,g3,g4,g5,hr⟩
  ·omega
  ·by_cases hq:k' ≤ q
   ·exact seg_fit hr q hq h2 h3
   ·rcases hs with ⟨q1,q2,q3⟩ | ⟨a,b,c,ka,kb,q1,q2,q3,q4,q5,q6,q7,q8,q9,q10,q11,q12⟩ | ⟨a,b,ka,q1,q2,q3,q4,q5,q6,q7,q8,q9⟩
    ·have e:q = k:=by omega
     subst e
     rw [q3.ac]
     exact ⟨acOk_of q1,sg_of q1⟩
    ·subst q4 q5
     by_cases e0:q = k
     ·subst e0;rw [q6.1] at h3;omega
     ·by_cases e1:q = ka
      ·subst e1;rw [q7] at h3;omega
      ·by_cases e2:q = kb
       ·subst e2;rw [q9] at h3;omega
       ·by_cases e3:q < ka
        ·exact seg_fit q2 q (by omega) e3 h3
        ·exact seg_fit q3 q (by omega) (by omega) h3
    ·subst q4 q5
     by_cases e0:q = k
     ·subst e0;rw [q6.1] at h3;omega
     ·by_cases e1:q = ka
      ·subst e1;rw [q7] at h3;omega
      ·exact seg_fit q3 q (by omega) (by omega) h3
section
section
variable (w:World) (mp r n base nx:Nat) (pv tv:Value) (st ov:Bool) (σ:St) (B V:Nat → Int)
theorem dstore_no (h:MM w mp r n base pv st σ nx false B V tv) (t:Pt) (clo:Nat) (ht:PtOk t) (hl:(σ.bx t.box).length ≤ valO σ.num t.o1) :
  Calls prog 143 #[.pointer (some ⟨mp,0,none⟩),ptV t clo] w fun e w'=>MS mp r n base pv st nx (ends σ 1) w e w':=by
 have hv:=val_lt σ h.ok ht.o1
 have HV:Hid (∀ W,Fr NoB w W → _):=fun W hW=>mvalue_fn W mp r n base nx pv tv st false σ B V (h.no hW) t.o1 ht.o1
 have HW:Hid (∀ W,Fr NoB w W → CR 148 #[.pointer (some ⟨mp,30,none⟩),.int .i64 t.box,.int .i64 (valO σ.num t.o1:Int)] W (.tuple #[.int .i64 (((if σ.bx t.box = [] then 0 else σ.at_ t.box) + valO σ.num t.o1:Nat):Int),.bool false])):=fun W hW=>by
  have:=word_fn W mp r n base nx pv tv st false σ B V (h.no hW) t.box (valO σ.num t.o1) ht.b hv
  rwa [show decide (valO σ.num t.o1 < (σ.bx t.box).length) = false by simp;exact hl] at this
 have HS:Hid (∀ W,Fr NoB w W → Calls prog 128 #[.pointer (some ⟨mp,0,none⟩),.int .i64 1] W fun e w'=>MS mp r n base pv st nx (ends σ 1) w e w'):=fun W hW=>(stop_fn W mp r n base nx pv tv st false σ B V (h.no hW) 1).mono fun e w' hh=>⟨hh.1,⟨_,_,_,hh.2.1⟩,(frM_no hW).trans hh.2.2⟩
 unfold ptV
 obtain ⟨kind,place,num,box,src,o1,sign,o2,opn⟩:=t
 simp only [] at *
 generalize valO σ.num o1 = v at *
 generalize odB o1 = b1 at *
 generalize odI o1 = x1 at *
 generalize odB o2 = b2 at *
 generalize odI o2 = x2 at *
 generalize (if σ.bx box = [] then 0 else σ.at_ box) + v = at0 at *
 clear h ht hl
 go_enter func143,ntmps143
 go_upto_region 1 with fail
 obtain ⟨hFA,HPA⟩:=box_new w kind place num box src b1 x1 sign b2 x2 opn clo
 generalize w.alloc _ = W1 at hFA HPA ⊢
 generalize w.heap.size = q at HPA ⊢
 have c3:=HPA.out.c3
 have c5:=HPA.out.c5
 have c6:=HPA.out.c6
 go_region_with (first | (go_at_call 139;refine (HV.out _ (hFA.drew)).mono ?_;rintro e w2 ⟨rfl,hF2⟩;have d3:=(((Fr.refl NoB W1).drew).trans hF2).cell_some c3 id) | (go_at_call 148;refine (HW.out _ ((hFA.drew).trans hF2)).mono ?_;rintro e w3 ⟨rfl,hF3⟩))
 all_goals
  go_wp2_with (go_at_call 128;refine (HS.out _ (((hFA.drew).trans hF2).trans hF3)).mono ?_;rintro e w4 ⟨rfl,hh⟩;have HH:Hid _:=hh;clear hh)
  go_end0
  exact ⟨rfl,HH.out⟩
theorem dstore_yes (h:MM w mp r n base pv st σ nx false B V tv) (t:Pt) (clo:Nat) (ht:PtOk t) (hl:valO σ.num t.o1 < (σ.bx t.box).length) :
  Calls prog 143 #[.pointer (some ⟨mp,0,none⟩),ptV t clo] w fun e w'=>MS mp r n base pv st nx ({ σ with bx:=upB σ.bx t.box ((σ.bx t.box).set (valO σ.num t.o1) (valO σ.num t.o2)) },true) w e w':=by
 have hv:=val_lt σ h.ok ht.o1
 have HV:Hid (∀ W,Fr NoB w W → _):=fun W hW=>mvalue_fn W mp r n base nx pv tv st false σ B V (h.no hW) t.o1 ht.o1
 have HW:Hid (∀ W,Fr NoB w W → CR 148 #[.pointer (some ⟨mp,30,none⟩),.int .i64 t.box,.int .i64 (valO σ.num t.o1:Int)] W (.tuple #[.int .i64 (((if σ.bx t.box = [] then 0 else σ.at_ t.box) + valO σ.num t.o1:Nat):Int),.bool true])):=fun W hW=>by
  have:=word_fn W mp r n base nx pv tv st false σ B V (h.no hW) t.box (valO σ.num t.o1) ht.b hv
  rwa [show decide (valO σ.num t.o1 < (σ.bx t.box).length) = true by simp;exact hl] at this
 have hne:σ.bx t.box ≠ []:=fun e=>by rw [e] at hl;simp at hl
 have hon:=h.b.on t.box ht.b _ hl
 have hin:=h.ap.inn t.box ht.b hne
 have hx:=val_lt σ h.ok ht.o2
 rw [if_neg hne] at HW
 have HV2:Hid (∀ W,Fr NoB w W → _):=fun W hW=>mvalue_fn W mp r n base nx pv tv st false σ B V (h.no hW) t.o2 ht.o2
 have HL:Hid (∀ W,Fr NoB w W → Calls prog 45 #[.pointer (some ⟨mp,30,none⟩),.int .i64 ((σ.at_ t.box + valO σ.num t.o1:Nat):Int),.int .i64 (valO σ.num t.o2:Int)] W fun e w'=>e = .returned (.int .i64 0) ∧ (∃ B V tv,MM w' mp r n base pv st { σ with bx:=upB σ.bx t.box ((σ.bx t.box).set (valO σ.num t.o1) (valO σ.num t.o2)) } nx (!true) B V tv) ∧ Fr (FrM base) w w'):=fun W hW=>by
  refine (mstore_yes W mp r n B V (σ.at_ t.box + valO σ.num t.o1) (valO σ.num t.o2) (h.h.no hW) (by omega) (by rw [hon.1];omega) (by omega) (by omega)).mono ?_
  rintro e w' ⟨rfl,rfl⟩
  have hM:=h.no hW
  have hF:Fr (OneB r) W (W.setCell ⟨r,(σ.at_ t.box + valO σ.num t.o1) * 2 + 1,none⟩ (.int .i64 (valO σ.num t.o2:Int))):=(Fr.refl (OneB r) W).setCell (p:=⟨r,(σ.at_ t.box + valO σ.num t.o1) * 2 + 1,none⟩) (fun _=>rfl) _
  have hm2:=hM.m.fr hF (fun e=>h.h.ne (by unfold OneB at e;exact e))
  refine ⟨rfl,⟨_,_,tv,⟨?_,hM.h.setVal (by omega) _,hM.b.store hM.ap ht.b hl,hM.ap.less (fun i hi=>?_) rfl,?_,hF.owns hM.tr (fun g hg e=>h.nr g hg (by unfold OneB at e;exact e)),h.tk,h.mb,h.rb,h.nm,h.nr,h.nxb⟩⟩,(frM_no hW).trans (hF.mono (fun q _ e=>by unfold OneB at e;unfold FrM;have:=h.rb;omega))⟩
  ·have e1:mxOf { σ with bx:=upB σ.bx t.box ((σ.bx t.box).set (valO σ.num t.o1) (valO σ.num t.o2)) } nx (!true) tv = mxOf σ nx false tv:=by
    unfold mxOf
    simp only [Mx.mk.injEq,true_and,and_true]
    refine ⟨?_,?_,rfl⟩
    ·funext i
     by_cases e:i = t.box
     ·subst e;rw [upB_at,if_neg hne,if_neg (fun q=>hne ((List.set_eq_nil_iff _ _).1 q))]
     ·rw [upB_ne _ _ e]
    ·funext i
     by_cases e:i = t.box
     ·subst e;rw [upB_at,List.length_set]
     ·rw [upB_ne _ _ e]
   rw [e1]
   exact hm2
  ·have hi':upB σ.bx t.box ((σ.bx t.box).set (valO σ.num t.o1) (valO σ.num t.o2)) i ≠ []:=hi
   show σ.bx i ≠ [] ∧ (upB σ.bx t.box ((σ.bx t.box).set (valO σ.num t.o1) (valO σ.num t.o2)) i).length = (σ.bx i).length
   by_cases e:i = t.box
   ·subst e;rw [upB_at];exact ⟨hne,by simp⟩
   ·rw [upB_ne _ _ e] at hi' ⊢;exact ⟨hi',rfl⟩
  ·exact h.ok.box (fun u hu=>by
    rcases List.mem_or_eq_of_mem_set hu with q | q
    ·exact h.ok.wd _ _ q
    ·rw [q];exact hx) (by rw [List.length_set];exact h.ok.sz _)
 unfold ptV
 obtain ⟨kind,place,num,box,src,o1,sign,o2,opn⟩:=t
 simp only [] at *
 generalize valO σ.num o1 = v at *
 generalize valO σ.num o2 = v2 at *
 generalize odB o1 = b1 at *
 generalize odI o1 = x1 at *
 generalize odB o2 = b2 at *
 generalize odI o2 = x2 at *
 generalize σ.at_ box + v = at0 at *
 generalize ({ σ with bx:=upB σ.bx box ((σ.bx box).set v v2) }:St) = τ at *
 clear h ht hl hne hon hin
 go_enter func143,ntmps143
 go_upto_region 1 with fail
 obtain ⟨hFA,HPA⟩:=box_new w kind place num box src b1 x1 sign b2 x2 opn clo
 generalize w.alloc _ = W1 at hFA HPA ⊢
 generalize w.heap.size = q at HPA ⊢
 have c3:=HPA.out.c3
 have c5:=HPA.out.c5
 have c6:=HPA.out.c6
 have c8:=HPA.out.c8
 have c9:=HPA.out.c9
 go_region_with (first | (go_at_call 139;refine (HV.out _ (hFA.drew)).mono ?_;rintro e w2 ⟨rfl,hF2⟩;have d3:=(((Fr.refl NoB W1).drew).trans hF2).cell_some c3 id) | (go_at_call 148;refine (HW.out _ ((hFA.drew).trans hF2)).mono ?_;rintro e w3 ⟨rfl,hF3⟩))
 all_goals
  have hFX:Fr NoB w w3:=((hFA.drew).trans hF2).trans hF3
  have d8:=((((Fr.refl NoB W1).drew).trans hF2).trans hF3).cell_some c8 id
  have d9:=((((Fr.refl NoB W1).drew).trans hF2).trans hF3).cell_some c9 id
  go_wp2
  go_region_with (first | (go_at_call 139;refine (HV2.out _ (hFX.drew)).mono ?_;rintro e w4 ⟨rfl,hF4⟩) | (go_at_call 45;refine (HL.out _ ((hFX.drew).trans hF4)).mono ?_;rintro e w5 ⟨rfl,hh⟩;have HH:Hid _:=hh;clear hh))
  all_goals
   go_wp2
   go_end0
   exact ⟨rfl,HH.out⟩
end
end
shelf_lay LaysM.n243 Nm 243 at Tryz as lays243
def TabOk (w:World):Prop:=Lib.TabIs prog w "internal/strconv.uint64pow10" .u64 Lib.pow10Tab
theorem itoa_raw (v:Nat) (hv:v < 1000) (w:World) (h:TabOk w):Calls prog 151 #[.int .i64 v] w fun e w'=>e = .returned (.string ⟨(Lib.itoa (v:Int)).toArray⟩) ∧ ∃ k os,w' = Sort.grow (w.drewN k) os:=Any.internal_strconv_Itoa lays243 (v:Int) (by omega) (by omega) w h
theorem dec_dig:∀ (f u:Nat),u < 10 ^ (f + 1) → Lib.decDigits u = (digF f u).map UInt8.ofNat
 | 0,u,h=>by
  rw [Lib.decDigits,dif_pos (by omega)]
  show _ = [UInt8.ofNat (48 + u % 10)]
  rw [Nat.mod_eq_of_lt (by omega)]
 | f + 1,u,h=>by
  rw [Lib.decDigits]
  unfold digF
  by_cases hu:u < 10
  ·rw [dif_pos hu,if_pos hu,Nat.mod_eq_of_lt hu];rfl
  ·rw [dif_neg hu,if_neg hu,dec_dig f (u / 10) (by rw [Nat.pow_succ] at h;omega)]
   simp
theorem fr_grow {w:World} (k:Nat) (os:Array Obj):Fr NoB w (Sort.grow (w.drewN k) os) :=
 ((Fr.refl NoB w).drewN k).trans ⟨rfl,rfl,rfl,by simp [Sort.grow],fun i hi _=>by
  unfold Sort.grow
  exact Array.getElem?_append_left hi⟩
theorem itoa_fn (v:Nat) (hv:v < 1000) (w:World) (h:TabOk w):CR 147 #[.int .i64 v] w (.string (trB (digF 3 v))):=by
 have HI:Hid _:=itoa_raw v hv w h
 have hd:(⟨(Lib.itoa (v:Int)).toArray⟩:ByteArray) = trB (digF 3 v):=by
  unfold Lib.itoa trB
  rw [if_neg (by omega),show ((v:Int)).toNat = v from rfl,dec_dig 3 v (by omega)]
 rw [hd] at HI
 generalize trB (digF 3 v) = D at *
 clear h hd
 go_enter func147,ntmps147
 go_wp2_with (go_at_call 151;refine Calls.mono HI.out ?_;rintro e w1 ⟨rfl,k,os,hw⟩;have hF:Fr NoB w w1:=(hw ▸ fr_grow k os);clear hw)
 go_ret
 exact ⟨rfl,hF⟩
section
open Go.RowKit Go.Lib
section
variable {P:Program} (w:World)
theorem run_append_str (base:Nat) (t u ty e:TypeId) (i:TypeInfo) (ht:P.underlying t = some (.slice e)) (hu:P.underlying u = some .string) (hi:P.info? e = some i) (hz:i.zero = some (.int .u8 0))
  (hsize:i.size = 1) (hby:i.bytes = 1) (v:Value) (n:Nat) (xs:List Value) (hown:w.ownsRow base e 1 v n xs) (s:ByteArray) (hm:0 < s.size)
  (h63:n + s.size ≤ maxLen) (hbytes:n + s.size ≤ 140737488355328) (hbase:base ≤ w.heap.size) :
  ∃ v' w',(Builtin.append_ #[t,u] ty #[v,.string s]).run P w = .ok v' w' ∧ w'.ownsRow base e 1 v' (n + s.size) (xs ++ strCells s) ∧ AppKind w w' v v' n s.size:=by
 obtain ⟨v',w',hr,h2,h3,_⟩:=run_append_own_string (P:=P) w base t u ty e i ht hu hi hz hsize hby v n xs hown s h63 hbytes hbase
 refine ⟨v',w',hr,h2,?_⟩
 have hsmall:n + s.size ≤ 9223372036854775807:=by simp only [maxLen] at h63;omega
 have hxl:xs.length = n:=by simpa using hown.1
 rcases hown.2 with ⟨rfl,rfl⟩ | ⟨g,cap,cur,rfl,hbg,hg,hnc,hcm,hcs,htake⟩
 ·have hr2:=run_append_nil_string (P:=P) w t u ty e i (.int .u8 0) ht hu hi hz s (by omega) (by omega) (by rw [hby];omega)
  have he:=hr.symm.trans hr2
  injection he with e1 e2
  refine .inl ⟨grownCap w s.size 0 e,by rw [e1];simp,?_⟩
  rw [e2]
  exact ⟨rfl,rfl,rfl,by simp,fun k hk _=>Below.heap_alloc w.drew _ k hk⟩
 ·by_cases hroom:n + s.size ≤ cap
  ·have hcs':cur.size = cap:=by simpa using hcs
   have hr2:=run_append_room_string (P:=P) w t u ty e i ht hu hi hsize g n cap cur hg s hroom (by omega)
   have he:=hr.symm.trans hr2
   injection he with e1 e2
   exact .inr ⟨g,cap,rfl,e1,h3⟩
  ·have holds:∀ j u,xs[j]? = some u → w.cell? ((⟨g,0,none⟩:Addr).add j) = some u:=hown.cells (g:=g) rfl
   have hr2:=run_append_grow_string (P:=P) w t u ty e i (.int .u8 0) ht hu hi hz ⟨g,0,none⟩ n cap xs (by rw [hsize];simpa using hxl) holds s (by omega) (by omega) (by rw [hby];exact growslice_fits (by omega) (by omega))
   have he:=hr.symm.trans hr2
   injection he with e1 e2
   refine .inl ⟨grownCap w (n + s.size) cap e,e1,?_⟩
   rw [e2]
   exact ⟨rfl,rfl,rfl,by simp,fun k hk _=>Below.heap_alloc w.drew _ k hk⟩
end
theorem step_append_str {P:Program} {ops:Array Oper} {o:Oper} {a:Act} {w:World} {K:Act → World → Prop} {Q:Exit → Act → World → Prop} {E:Prop}
  (hg:o.guard = none) (sl x:Operand) (t u:TypeId) (hop:o.op = Op.call { callee:=Callee.builtin Builtin.append,args:=#[sl,x],argTypes:=#[t,u] })
  (base:Nat) (e:TypeId) (i:TypeInfo) (ht:P.underlying t = some (.slice e)) (hu:P.underlying u = some .string) (hi:P.info? e = some i) (hz:i.zero = some (.int .u8 0))
  (hsize:i.size = 1) (hby:i.bytes = 1) (v:Value) (n:Nat) (xs:List Value) (hs:a.eval sl = v) (hown:w.ownsRow base e 1 v n xs) (s:ByteArray) (hx:a.eval x = .string s) (hm:0 < s.size)
  (h63:n + s.size ≤ maxLen) (hbytes:n + s.size ≤ 140737488355328) (hbase:base ≤ w.heap.size)
  (hK:∀ v' w',w'.ownsRow base e 1 v' (n + s.size) (xs ++ strCells s) → AppKind w w' v v' n s.size → K (a.put o.dst v') w') :
  if Region.wanted o (yielded ops a.tmps) = true then Oper.wp P o a w K Q else E:=by
 have hw:Region.wanted o (yielded ops a.tmps) = true:=by simp [Region.wanted,hg]
 rw [if_pos hw]
 obtain ⟨v',w',hr,h2,h3⟩:=run_append_str (P:=P) w base t u o.type e i ht hu hi hz hsize hby v n xs hown s hm h63 hbytes hbase
 unfold Oper.wp execOp
 simp only [hop,resolve,invoke,builtin,Sem.run_bind,Sem.run_pure,Result.andThen_ok,List.map_toArray,List.map_cons,List.map_nil,hs,hx,hr]
 exact hK v' w' h2 h3
theorem dig_len2:∀ (f n:Nat),0 < (digF f n).length ∧ (digF f n).length ≤ f + 1
 | 0,n=>by simp [digF]
 | f + 1,n=>by
  unfold digF
  split
  ·simp
  ·have:=dig_len2 f (n / 10)
   simp
   omega
theorem dig_lt:∀ (f n:Nat) (c:Nat),c ∈ digF f n → c < 256
 | 0,n,c,h=>by simp [digF] at h;omega
 | f + 1,n,c,h=>by
  unfold digF at h
  split at h
  ·simp at h;omega
  ·rcases List.mem_append.1 h with q | q
   ·exact dig_lt f _ c q
   ·simp at q;omega
theorem str_cells {l:List Nat} (h:∀ c,c ∈ l → c < 256):strCells (trB l) = l.map u8C:=by
 unfold strCells trB u8C
 simp only [List.map_map]
 refine List.map_congr_left (fun c hc=>?_)
 have:=h c hc
 simp [Function.comp]
 omega
theorem trB_size2 (l:List Nat):(trB l).size = l.length:=by simp [trB,ByteArray.size]
section
variable {w w':World} {mp r n base nx:Nat} {pv tv tv':Value} {st ov:Bool} {σ:St} {B V:Nat → Int}
theorem MM.app (h:MM w mp r n base pv st σ nx ov B V tv) {m:Nat} {news:List Nat} (hk:AppKind w w' tv tv' σ.tr.length m) (hown:w'.ownsRow base 5 1 tv' (σ.tr.length + m) (σ.tr.map u8C ++ news.map u8C)) (hm:news.length = m) (htk:TrOk { σ with tr:=σ.tr ++ news }) :
  MM (w'.setCell ⟨mp,84,none⟩ tv') mp r n base pv st { σ with tr:=σ.tr ++ news } nx ov B V tv' ∧ Fr (FrM base) w (w'.setCell ⟨mp,84,none⟩ tv'):=by
 have hF:=hk.fr
 have hm1:¬ tv.ownBlock = some mp:=fun e=>h.nm _ e rfl
 have hr1:¬ tv.ownBlock = some r:=fun e=>h.nr _ e rfl
 have hM:=(h.m.fr hF hm1).setTv tv'
 have hH:=h.h.fr hF hm1 hr1
 have hpl:∀ g,tv'.ownBlock = some g → g ≠ mp ∧ g ≠ r ∧ base ≤ g:=fun g hg=>by
  obtain ⟨g0,cap,hv,hp⟩:=hk.place
  rw [hv] at hg
  have:g0 = g:=by simpa [Value.ownBlock] using hg
  subst this
  rcases hp with rfl | hp
  ·have:=h.m.lt
   have:=h.h.rl
   have:=h.mb
   omega
  ·refine ⟨h.nm _ hp,h.nr _ hp,?_⟩
   rcases h.tr.2 with ⟨rfl,_⟩ | ⟨g1,c1,cur,rfl,hb,_⟩
   ·cases hp
   ·have:g1 = g0:=by simpa [Value.ownBlock] using hp
    omega
 have hF2:Fr (OneB mp) w' (w'.setCell ⟨mp,84,none⟩ tv'):=(Fr.refl (OneB mp) w').setCell (p:=⟨mp,84,none⟩) (fun _=>rfl) _
 refine ⟨⟨hM,hH.own hF2 (cell_other (.inr (by omega))),h.b.like rfl rfl,h.ap.keep rfl rfl,h.ok.like rfl rfl,?_,htk,h.mb,h.rb,fun g hg=>(hpl g hg).1,fun g hg=>(hpl g hg).2.1,h.nxb⟩,?_⟩
 ·have:=hF2.owns hown (fun g hg e=>(hpl g hg).1 (by unfold OneB at e;exact e))
  show World.ownsRow _ _ _ _ _ (σ.tr ++ news).length ((σ.tr ++ news).map u8C)
  rw [List.length_append,List.map_append,hm]
  exact this
 ·refine (hF.mono (fun k _ e=>?_)).trans (frM_one hF2 h.mb)
  rcases h.tr.2 with ⟨rfl,_⟩ | ⟨g1,c1,cur,rfl,hb,_⟩
  ·cases e
  ·have:g1 = k:=by simpa [Value.ownBlock] using e
   unfold FrM
   omega
end
theorem Tryz.infoU8:(prog.info? 5).map (fun i=>(i.zero,i.size,i.bytes)) = some (some (.int .u8 0),1,1):=by kernel_rfl
end
section
open Go.RowKit Go.Lib
section
variable (w:World) (mp r n base nx:Nat) (pv tv:Value) (st ov:Bool) (σ:St) (B V:Nat → Int)
theorem dprint_fn (h:MM w mp r n base pv st σ nx ov B V tv) (v:Nat) (hv:v < 1000) (hsl:σ.tr.length + 5 * σ.left + 5 ≤ 25000) (htab:∀ W,Fr NoB w W → TabOk W) :
  Calls prog 138 #[.pointer (some ⟨mp,0,none⟩),.int .i64 v] w fun e w'=>e = .returned (.tuple #[]) ∧ (∃ tv',MM w' mp r n base pv st { σ with tr:=σ.tr ++ digF 3 v ++ [59] } nx ov B V tv') ∧ Fr (FrM base) w w':=by
 obtain ⟨i0,hi0,hz0,hz1,hz2⟩:=info_parts Tryz.infoU8
 have HI:Hid (∀ W,Fr NoB w W → _):=fun W hW=>itoa_fn v hv W (htab W hW)
 have HM:Hid _:=h
 have hml:=h.m.lt
 have hmb:=h.mb
 have ct:w.cell? ⟨mp,84,none⟩ = some tv:=h.m.ct
 have fz:=h.m.fz 84
 have hd1:=(dig_len2 3 v).1
 have hd2:=(dig_len2 3 v).2
 have hds:(trB (digF 3 v)).size = (digF 3 v).length:=trB_size2 _
 have hdc:strCells (trB (digF 3 v)) = (digF 3 v).map u8C:=str_cells (dig_lt 3 v)
 clear h htab
 have HDc:Hid _:=hdc
 have HDs:Hid _:=hds
 clear hdc hds
 generalize trB (digF 3 v) = D at *
 generalize digF 3 v = dl at *
 go_enter func138,ntmps138
 go_upto_region 0 with fail
 go_region_law (first | (go_simp;go_at_call 147;refine (HI.out _ ((Fr.refl _ _).drew)).mono ?_;rintro e w1 ⟨rfl,hF1a⟩;have hF1:Fr NoB w w1:=((Fr.refl NoB w).drew).trans hF1a;have ct1:=hF1.cell_some ct id) | (refine step_append_str rfl _ _ 128 9 rfl base 5 i0 underlying128 underlying9 hi0 hz0 hz1 hz2 tv σ.tr.length (σ.tr.map u8C) rfl (HM.out.no hF1).tr D rfl (by rw [HDs.out];exact hd1) (by rw [HDs.out];unfold maxLen;omega) (by rw [HDs.out];omega) (by have:=hF1.size;omega) ?_;intro v2 wv hown2 hk2;have hfr:=hk2.fr;have cw:=hfr.cell_some (hF1.cell_some ct id) (fun e=>HM.out.nm _ e rfl);have fw:=(hfr.frozen (p:=⟨mp,84,none⟩) (Nat.lt_of_lt_of_le hml hF1.size) (fun e=>HM.out.nm _ e rfl)).trans ((hF1.frozen (p:=⟨mp,84,none⟩) hml id).trans fz);have HK:Hid _:=And.intro hown2 hk2;obtain ⟨gb,cb,hve,_⟩:=hk2.place;clear hown2 hk2 hfr;subst hve))
 all_goals
  obtain ⟨hown2,hk2⟩:=HK.out
  rw [HDc.out] at hown2
  obtain ⟨hM3,hF3⟩:=(HM.out.no hF1).app hk2 hown2 HDs.out.symm (by unfold TrOk;simp;omega)
  clear hown2 hk2 HK cw fw ct fz
  have hF4:Fr (FrM base) w _:=(frM_no hF1).trans hF3
  clear hF3
  generalize (wv.setCell ⟨mp,84,none⟩ (Value.slice (some ⟨gb,0,none⟩) (σ.tr.length + D.size) cb)) = W3 at *
  generalize (Value.slice (some ⟨gb,0,none⟩) (σ.tr.length + D.size) cb) = tv3 at *
  have ct3:W3.cell? ⟨mp,84,none⟩ = some tv3:=hM3.m.ct
  have fz3:=hM3.m.fz 84
  have hml3:=hM3.m.lt
  have hll:(σ.tr ++ dl).length ≤ σ.tr.length + dl.length:=by simp
  have hown3:=hM3.tr
  have HM3:Hid _:=hM3
  clear hM3
  simp only [] at hown3
  generalize hL:σ.tr ++ dl = L at *
  have HL:Hid _:=hL
  clear hL
  go_wp2_with (at_builtin;refine wpList_append_kind _ rfl _ _ 128 rfl base 5 i0 (.int .u8 0) 1 1 underlying128 hi0 hz0 hz1 hz2 rfl (by decide) _ _ _ rfl (hown3.alloc _) ⟨W3.heap.size,0,none⟩ 1 1 [.int .u8 59] (by decide) rfl rfl ?c1 ?c2 ?c3 ?c4 ?c5 ?_)
  case c1 =>
   intro j u hj
   match j,hj with
   | 0,hj=>simp at hj;subst hj;simp [Addr.add]
  case c2=>intro u hu;simp at hu;subst hu;rfl
  case c3=>unfold maxLen;omega
  case c4=>omega
  case c5=>simp;omega
  intro v5 w5 hown5 hk5
  have hfa:Fr NoB W3 (W3.alloc (Obj.cells #[.int .u8 59] 5)):=(Fr.refl _ _).alloc _
  have HMa:Hid _:=HM3.out.no hfa
  have hfr:=hk5.fr
  have cw5:=hfr.cell_some (hfa.cell_some ct3 id) (fun e=>HM3.out.nm _ e rfl)
  have fw5:=(hfr.frozen (p:=⟨mp,84,none⟩) (Nat.lt_of_lt_of_le hml3 hfa.size) (fun e=>HM3.out.nm _ e rfl)).trans ((hfa.frozen (p:=⟨mp,84,none⟩) hml3 id).trans fz3)
  have HK5:Hid _:=And.intro hown5 hk5
  obtain ⟨g5,c5,hve,_⟩:=hk5.place
  clear hown5 hk5 hfr
  subst hve
  go_wp2
  go_end0
  obtain ⟨hown5,hk5⟩:=HK5.out
  obtain ⟨hM6,hF6⟩:=HMa.out.app (news:=[59]) hk5 (by exact hown5) rfl (by unfold TrOk;simp only [List.length_append,List.length_singleton];omega)
  rw [HL.out]
  exact ⟨rfl,⟨_,hM6⟩,(hF4.trans (frM_no hfa)).trans hF6⟩
end
end
end Go.Proofs.YthcjcjfgdgnljabGreatDoor
