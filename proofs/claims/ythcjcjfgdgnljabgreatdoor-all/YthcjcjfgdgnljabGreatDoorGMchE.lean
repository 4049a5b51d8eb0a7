import Derived.Test.YthcjcjfgdgnljabGreatDoorGRunT
set_option linter.unusedVariables false
set_option maxHeartbeats 4000000
set_option maxRecDepth 8000
open Go.Proofs.Tryz
namespace Go.Proofs.YthcjcjfgdgnljabGreatDoor
open Go.RowKit
section
def mxOf (σ:St) (nx:Nat) (ov:Bool) (tv:Value):Mx:=⟨nx,σ.left,σ.num,fun k=>if σ.bx k = [] then 0 else σ.at_ k,fun k=>(σ.bx k).length,σ.peak,tv,ov,σ.status⟩
def u8C (c:Nat):Value:=.int .u8 c
structure MM (w:World) (mp r n base:Nat) (pv:Value) (st:Bool) (σ:St) (nx:Nat) (ov:Bool) (B V:Nat → Int) (tv:Value):Prop where
 m:MacAt w mp pv st (mxOf σ nx ov tv)
 h:HeapM w mp r n B V
 b:HB n B V σ
 ap:Ap n σ
 ok:NumOk σ
 tr:w.ownsRow base 5 1 tv σ.tr.length (σ.tr.map u8C)
 tk:TrOk σ
 mb:base ≤ mp
 rb:base ≤ r
 nm:∀ g,tv.ownBlock = some g → g ≠ mp
 nr:∀ g,tv.ownBlock = some g → g ≠ r
 nxb:nx ≤ 100000
def FrM (base:Nat):Nat → Prop:=fun k=>base ≤ k
section
variable {w w':World} {mp r n base nx:Nat} {pv tv:Value} {st ov:Bool} {σ τ:St} {B V:Nat → Int}
theorem MM.no (h:MM w mp r n base pv st σ nx ov B V tv) (hF:Fr NoB w w'):MM w' mp r n base pv st σ nx ov B V tv :=
 ⟨h.m.no hF,h.h.no hF,h.b,h.ap,h.ok,hF.owns h.tr (fun _ _=>id),h.tk,h.mb,h.rb,h.nm,h.nr,h.nxb⟩
theorem MM.own (h:MM w mp r n base pv st σ nx ov B V tv) {nx':Nat} {ov':Bool} (hF:Fr (OneB mp) w w') (hm:MacAt w' mp pv st (mxOf τ nx' ov' tv)) (hp:w'.cell? ⟨mp,30,none⟩ = w.cell? ⟨mp,30,none⟩) (hb:τ.bx = σ.bx) (ha:τ.at_ = σ.at_) (hok:NumOk τ) (ht:τ.tr = σ.tr) (htk:TrOk τ) (hnx:nx' ≤ 100000):MM w' mp r n base pv st τ nx' ov' B V tv:=by
 have hr:¬ OneB mp r:=fun e=>h.h.ne (by unfold OneB at e;exact e.symm)
 refine ⟨hm,⟨h.h.lo,h.h.hi,h.h.ne,by rw [hp];exact h.h.ptr,fun i hi=>hF.cell_some (h.h.blk i hi) hr,fun i hi=>hF.cell_some (h.h.val i hi) hr,fun o=>(hF.frozen (p:=⟨r,o,none⟩) h.h.rl hr).trans (h.h.frz o),h.h.b0,h.h.b1⟩,h.b.like hb ha,h.ap.keep hb ha,hok,?_,htk,h.mb,h.rb,h.nm,h.nr,hnx⟩
 rw [ht]
 exact hF.owns h.tr (fun g hg e=>h.nm g hg e)
end
theorem frM_one {w w':World} {mp base:Nat} (h:Fr (OneB mp) w w') (hb:base ≤ mp):Fr (FrM base) w w':=h.mono (fun k _ e=>by unfold OneB at e;unfold FrM;omega)
section
variable (w:World) (mp r n base nx:Nat) (pv tv:Value) (st ov:Bool) (σ:St) (B V:Nat → Int)
theorem full_fn (h:MM w mp r n base pv st σ nx ov B V tv) (k:Nat) (hk:k < 26) :
  CS 136 #[.pointer (some ⟨mp,30,none⟩),.int .i64 k] w (.bool (decide (σ.bx k ≠ []))):=by
 have cl:=h.m.cl k hk
 have e:decide (σ.bx k ≠ []) = decide (0 < (σ.bx k).length):=decide_eq_decide.2 (by rw [List.length_pos_iff])
 rw [e]
 unfold mxOf at cl
 simp only [] at cl
 clear h e
 generalize (σ.bx k).length = m at *
 go_enter func136,ntmps136
 go_wp2
 go_ret
 exact ⟨rfl,rfl⟩
theorem stop_fn (h:MM w mp r n base pv st σ nx ov B V tv) (v:Nat) :
  Calls prog 128 #[.pointer (some ⟨mp,0,none⟩),.int .i64 v] w fun e w'=>e = .returned (.tuple #[]) ∧ MM w' mp r n base pv st { σ with status:=v } nx true B V tv ∧ Fr (FrM base) w w':=by
 have co:=h.m.co
 have cu:=h.m.cu
 have f1:=h.m.fz 85
 have f2:=h.m.fz 86
 have HM:Hid _:=h
 clear h
 go_enter func128,ntmps128
 go_wp2
 go_end0
 have hF:=((Fr.refl (OneB mp) w).setCell (p:=⟨mp,85,none⟩) (fun _=>rfl) (.bool true)).setCell (p:=⟨mp,86,none⟩) (fun _=>rfl) (.int .i64 v)
 refine ⟨rfl,HM.out.own hF ((HM.out.m.setOv true).setStatus v) ((cell_other (.inr (by omega))).trans (cell_other (.inr (by omega)))) rfl rfl (HM.out.ok.like rfl rfl) rfl HM.out.tk HM.out.nxb,frM_one hF HM.out.mb⟩
theorem mvalue_fn (h:MM w mp r n base pv st σ nx ov B V tv) (o:Od) (ho:OdOk o) :
  CR 139 #[.pointer (some ⟨mp,0,none⟩),.agg #[.bool (odB o),.int .i64 (odI o:Int)]] w (.int .i64 (valO σ.num o:Int)):=by
 have hml:=h.m.lt
 cases o with
 | n k =>
  have hk:k < 26:=ho
  have cn:=h.m.cn k hk
  unfold mxOf at cn
  simp only [] at cn
  show CR 139 #[.pointer (some ⟨mp,0,none⟩),.agg #[.bool true,.int .i64 k]] w (.int .i64 (σ.num k:Int))
  clear h ho
  go_enter func139,ntmps139
  go_upto_region 2 with fail
  go_quiet (fail)
  go_wp2
  go_ret
  exact ⟨rfl,((Fr.refl _ _).alloc _).drewN _⟩
 | v x =>
  show CR 139 #[.pointer (some ⟨mp,0,none⟩),.agg #[.bool false,.int .i64 x]] w (.int .i64 x)
  clear h ho
  go_enter func139,ntmps139
  go_wp2
  go_ret
  exact ⟨rfl,(Fr.refl _ _).alloc _⟩
theorem word_fn (h:MM w mp r n base pv st σ nx ov B V tv) (k q:Nat) (hk:k < 26) (hq:q < 1000) :
  CR 148 #[.pointer (some ⟨mp,30,none⟩),.int .i64 k,.int .i64 q] w (.tuple #[.int .i64 (((if σ.bx k = [] then 0 else σ.at_ k) + q:Nat):Int),.bool (decide (q < (σ.bx k).length))]):=by
 have cl:=h.m.cl k hk
 have ca:=h.m.ca k hk
 have hml:=h.m.lt
 have hat:(if σ.bx k = [] then 0 else σ.at_ k) ≤ 4096:=by
  split
  ·omega
  ·rename_i hb
   have:=h.ap.inn k hk hb
   have:=h.h.hi
   omega
 have hln:=h.ok.sz k
 unfold mxOf at cl ca
 simp only [] at cl ca
 clear h
 generalize (σ.bx k).length = m at *
 generalize (if σ.bx k = [] then 0 else σ.at_ k) = a at *
 rw [Int.natCast_add]
 go_enter func148,ntmps148
 go_upto_region 2 with fail
 go_quiet (fail)
 go_wp2
 go_ret2
 exact ⟨rfl,((Fr.refl _ _).alloc _).drewN _⟩
end
end
section
theorem mx_lose {σ:St} {nx:Nat} {ov:Bool} {tv:Value} (k:Nat):({ { mxOf σ nx ov tv with at_:=upN (mxOf σ nx ov tv).at_ k 0 } with len:=upN (mxOf σ nx ov tv).len k 0 }:Mx) = mxOf { σ with bx:=upB σ.bx k [] } nx ov tv:=by
 unfold mxOf
 simp only [Mx.mk.injEq,true_and,and_true]
 refine ⟨?_,?_⟩
 ·funext i
  by_cases e:i = k
  ·subst e;rw [upN_at,upB_at,if_pos rfl]
  ·rw [upN_ne _ _ e,upB_ne _ _ e]
 ·funext i
  by_cases e:i = k
  ·subst e;rw [upN_at,upB_at];rfl
  ·rw [upN_ne _ _ e,upB_ne _ _ e]
theorem mx_make {σ:St} {nx:Nat} {ov:Bool} {tv:Value} (k a v p:Nat) (hv:1 ≤ v):({ { { mxOf σ nx ov tv with at_:=upN (mxOf σ nx ov tv).at_ k a } with len:=upN (mxOf σ nx ov tv).len k v } with peak:=p }:Mx) = mxOf { σ with bx:=upB σ.bx k (List.replicate v 0),at_:=upN σ.at_ k a,peak:=p } nx ov tv:=by
 unfold mxOf
 simp only [Mx.mk.injEq,true_and,and_true]
 refine ⟨?_,?_⟩
 ·funext i
  by_cases e:i = k
  ·subst e
   rw [upN_at,upN_at,upB_at,if_neg (fun q=>by have:=congrArg List.length q;simp at this;omega)]
  ·rw [upN_ne _ _ e,upB_ne _ _ e,upN_ne _ _ e]
 ·funext i
  by_cases e:i = k
  ·subst e;rw [upN_at,upB_at];simp
  ·rw [upN_ne _ _ e,upB_ne _ _ e]
theorem mx_move {σ:St} {nx:Nat} {ov:Bool} {tv:Value} {k d:Nat} (hne:k ≠ d) (hd:σ.bx d ≠ []):({ { { { mxOf σ nx ov tv with at_:=upN (mxOf σ nx ov tv).at_ k (σ.at_ d) } with len:=upN (mxOf σ nx ov tv).len k (σ.bx d).length } with at_:=upN (upN (mxOf σ nx ov tv).at_ k (σ.at_ d)) d 0 } with len:=upN (upN (mxOf σ nx ov tv).len k (σ.bx d).length) d 0 }:Mx) = mxOf { σ with bx:=upB (upB σ.bx k (σ.bx d)) d [],at_:=upN σ.at_ k (σ.at_ d) } nx ov tv:=by
 unfold mxOf
 simp only [Mx.mk.injEq,true_and,and_true]
 refine ⟨?_,?_⟩
 ·funext i
  by_cases e:i = d
  ·subst e;rw [upN_at,upB_at,if_pos rfl]
  ·rw [upN_ne _ _ e,upB_ne _ _ e]
   by_cases e2:i = k
   ·subst e2;rw [upN_at,upN_at,upB_at,if_neg hd]
   ·rw [upN_ne _ _ e2,upB_ne _ _ e2,upN_ne _ _ e2]
 ·funext i
  by_cases e:i = d
  ·subst e;rw [upN_at,upB_at];rfl
  ·rw [upN_ne _ _ e,upB_ne _ _ e]
   by_cases e2:i = k
   ·subst e2;rw [upN_at,upB_at]
   ·rw [upN_ne _ _ e2,upB_ne _ _ e2]
theorem HeapM.own {w w':World} {p r n:Nat} {B V:Nat → Int} (h:HeapM w p r n B V) (hF:Fr (OneB p) w w') (hp:w'.cell? ⟨p,30,none⟩ = w.cell? ⟨p,30,none⟩):HeapM w' p r n B V:=by
 have hr:¬ OneB p r:=fun e=>h.ne (by unfold OneB at e;exact e.symm)
 exact ⟨h.lo,h.hi,h.ne,by rw [hp];exact h.ptr,fun i hi=>hF.cell_some (h.blk i hi) hr,fun i hi=>hF.cell_some (h.val i hi) hr,fun o=>(hF.frozen (p:=⟨r,o,none⟩) h.rl hr).trans (h.frz o),h.b0,h.b1⟩
def TwoB (mp r:Nat):Nat → Prop:=fun k=>k = mp ∨ k = r
theorem two_one {w w':World} {mp:Nat} (r:Nat) (h:Fr (OneB mp) w w'):Fr (TwoB mp r) w w':=h.mono (fun k _ e=>.inl e)
theorem two_snd {w w':World} {r:Nat} (mp:Nat) (h:Fr (OneB r) w w'):Fr (TwoB mp r) w w':=h.mono (fun k _ e=>.inr e)
theorem frM_two {w w':World} {mp r base:Nat} (h:Fr (TwoB mp r) w w') (h1:base ≤ mp) (h2:base ≤ r):Fr (FrM base) w w':=h.mono (fun k _ e=>by rcases e with e | e <;> (unfold FrM;omega))
section
variable (w:World) (mp r n base nx:Nat) (pv tv:Value) (st ov:Bool) (σ:St) (B V:Nat → Int)
theorem lose_no (h:MM w mp r n base pv st σ nx ov B V tv) (k:Nat) (hk:k < 26) (he:σ.bx k = []) :
  CS 144 #[.pointer (some ⟨mp,30,none⟩),.int .i64 k] w (.tuple #[]):=by
 have HF:Hid (∀ _:Unit,CS 136 #[.pointer (some ⟨mp,30,none⟩),.int .i64 k] w (.bool false)):=fun _=>by
  have:=full_fn w mp r n base nx pv tv st ov σ B V h k hk
  rwa [show decide (σ.bx k ≠ []) = false by simp [he]] at this
 clear h
 go_enter func144,ntmps144
 go_wp2_with (go_at_call 136;refine sameC (HF.out ()) ?_)
 go_end0
 exact ⟨rfl,rfl⟩
theorem lose_yes (h:MM w mp r n base pv st σ nx ov B V tv) (k:Nat) (hk:k < 26) (he:σ.bx k ≠ []) :
  Calls prog 144 #[.pointer (some ⟨mp,30,none⟩),.int .i64 k] w fun e w'=>e = .returned (.tuple #[]) ∧ (∃ B' V',MM w' mp r n base pv st { σ with bx:=upB σ.bx k [] } nx ov B' V' tv) ∧ Fr (TwoB mp r) w w':=by
 have HF:Hid (∀ _:Unit,CS 136 #[.pointer (some ⟨mp,30,none⟩),.int .i64 k] w (.bool true)):=fun _=>by
  have:=full_fn w mp r n base nx pv tv st ov σ B V h k hk
  rwa [show decide (σ.bx k ≠ []) = true by simp [he]] at this
 have ca:=h.m.ca k hk
 unfold mxOf at ca
 simp only [] at ca
 rw [if_neg he] at ca
 have hl:0 < (σ.bx k).length:=List.length_pos_iff.2 he
 have hin:=h.ap.inn k hk he
 have hon:=(h.b.on k hk 0 hl).1
 rw [Nat.add_zero] at hon
 have HFr:Hid (∀ w1,Fr NoB w w1 → _):=fun w1 hF=>mfree_yes w1 mp r n B V (σ.at_ k) (h.h.no hF) (by omega) hon
 have hml:=h.m.lt
 have HM:Hid _:=h
 have HE:Hid _:=he
 clear h he hl hin hon
 go_enter func144,ntmps144
 go_wp2_with (go_at_call 136;refine sameC (HF.out ()) ?_)
 go_region_with (go_at_call 42;refine (HFr.out _ ((Fr.refl _ _).drew)).mono ?_;rintro e w2 ⟨rfl,z,hz1,hz2,hz3,hz4,hH,hF2⟩;have HX:Hid _:=And.intro hz1 (And.intro hz2 (And.intro hz3 (And.intro hz4 (And.intro hH hF2))));clear hz1 hz2 hz3 hz4;have hmr:¬ OneB r mp:=(fun e=>HM.out.h.ne (by unfold OneB at e;exact e));have HMa:Hid _:=(HM.out.m.no ((Fr.refl _ _).drew)).fr hF2 hmr;have ca2:=HMa.out.ca k hk;have cl2:=HMa.out.cl k hk;have f1:=HMa.out.fz (31 + k * 2);have f2:=HMa.out.fz (31 + k * 2 + 1);clear hH hF2)
 go_wp2
 go_end0
 obtain ⟨hz1,hz2,hz3,hz4,hH,hF2⟩:=HX.out
 have hz:=HM.out.b.stop HM.out.ap hk HE.out hz1 hz2 hz3 hz4
 subst hz
 have hF3:=((Fr.refl (OneB mp) w2).setCell (p:=⟨mp,31 + k * 2,none⟩) (fun _=>rfl) (.int .i64 0)).setCell (p:=⟨mp,31 + k * 2 + 1,none⟩) (fun _=>rfl) (.int .i64 0)
 have hm3:=(HMa.out.setAt hk 0).setLen hk 0
 rw [mx_lose] at hm3
 have hmr:¬ OneB r mp:=fun e=>HM.out.h.ne (by unfold OneB at e;exact e)
 refine ⟨rfl,⟨_,_,⟨hm3,hH.own hF3 ((cell_other (.inr (by omega))).trans (cell_other (.inr (by omega)))),HM.out.b.lose HM.out.ap hk HE.out,HM.out.ap.drop k,HM.out.ok.box (fun v hv=>by cases hv) (by simp),hF3.owns (hF2.owns HM.out.tr (fun g hg e=>HM.out.nr g hg (by unfold OneB at e;exact e))) (fun g hg e=>HM.out.nm g hg (by unfold OneB at e;exact e)),HM.out.tk,HM.out.mb,HM.out.rb,HM.out.nm,HM.out.nr,HM.out.nxb⟩⟩,(((Fr.refl _ w).drew).trans (two_snd mp hF2)).trans (two_one r hF3)⟩
theorem lose_any (h:MM w mp r n base pv st σ nx ov B V tv) (k:Nat) (hk:k < 26) :
  Calls prog 144 #[.pointer (some ⟨mp,30,none⟩),.int .i64 k] w fun e w'=>e = .returned (.tuple #[]) ∧ (∃ B' V',MM w' mp r n base pv st { σ with bx:=upB σ.bx k [] } nx ov B' V' tv) ∧ Fr (TwoB mp r) w w':=by
 by_cases he:σ.bx k = []
 ·refine (lose_no w mp r n base nx pv tv st ov σ B V h k hk he).mono ?_
  rintro e w' ⟨rfl,rfl⟩
  exact ⟨rfl,⟨B,V,by rw [upB_self he];exact h⟩,Fr.refl _ _⟩
 ·exact lose_yes w mp r n base nx pv tv st ov σ B V h k hk he
end
end
section
theorem upB_up (f:Nat → List Nat) (k:Nat) (a b:List Nat):upB (upB f k a) k b = upB f k b:=by
 funext i
 by_cases e:i = k
 ·subst e;rw [upB_at,upB_at]
 ·rw [upB_ne _ _ e,upB_ne _ _ e,upB_ne _ _ e]
section
variable (w:World) (mp r n base nx:Nat) (pv tv:Value) (st ov:Bool) (σ:St) (B V:Nat → Int)
theorem get_no (h:MM w mp r n base pv st σ nx ov B V tv) (k v:Nat) (hv1:1 ≤ v) (hv2:v ≤ 64) (ha:allocS n σ v = none) :
  CR 149 #[.pointer (some ⟨mp,30,none⟩),.int .i64 k,.int .i64 v] w (.bool false):=by
 have HA:Hid (CR 40 #[.pointer (some ⟨mp,30,none⟩),.int .i64 v] w (.tuple #[.int .i64 0,.int .i64 6])):=by
  refine (malloc_any w mp r n B V v h.h hv1 hv2).mono ?_
  rintro e w' (⟨a,h1,h2,h3⟩ | ⟨h1,h2,h3⟩)
  ·exact absurd ((h.b.free h.ap hv1).1 h1) (alloc_no ha a)
  ·exact ⟨h2,h3⟩
 clear h ha
 go_enter func149,ntmps149
 go_wp2_with (go_at_call 40;refine Calls.mono HA.out ?_;rintro e w1 ⟨rfl,hF⟩)
 go_ret
 exact ⟨rfl,hF⟩
theorem get_yes (h:MM w mp r n base pv st σ nx ov B V tv) (k v a:Nat) (hk:k < 26) (he:σ.bx k = []) (hv1:1 ≤ v) (hv2:v ≤ 64) (ha:allocS n σ v = some a) :
  Calls prog 149 #[.pointer (some ⟨mp,30,none⟩),.int .i64 k,.int .i64 v] w fun e w'=>e = .returned (.bool true) ∧ (∃ B' V',MM w' mp r n base pv st { σ with bx:=upB σ.bx k (List.replicate v 0),at_:=upN σ.at_ k a,peak:=max σ.peak (a + v) } nx ov B' V' tv) ∧ Fr (TwoB mp r) w w':=by
 obtain ⟨hf,hl⟩:=alloc_is ha
 have HA:Hid (Calls prog 40 #[.pointer (some ⟨mp,30,none⟩),.int .i64 v] w fun e w'=>e = .returned (.tuple #[.int .i64 a,.int .i64 0]) ∧ HeapM w' mp r n (markTo B a (a + v)) V ∧ Fr (OneB r) w w'):=by
  refine (malloc_any w mp r n B V v h.h hv1 hv2).mono ?_
  rintro e w' (⟨a',h1,h2,h3,h4,h5⟩ | ⟨h1,h2,h3⟩)
  ·have e1:=h2 a ((h.b.free h.ap hv1).2 hf)
   have e2:a ≤ a':=by
    by_cases q:a ≤ a'
    ·exact q
    ·exact absurd ((h.b.free h.ap hv1).1 h1) (hl a' (by omega))
   have e3:a' = a:=by omega
   subst e3
   exact ⟨h3,h4,h5⟩
  ·exact absurd ((h.b.free h.ap hv1).2 hf) (h1 a)
 have hn:=h.h.hi
 have han:a + v ≤ n:=hf.1
 have hml:=h.m.lt
 have e0:({ σ with bx:=upB σ.bx k [] }:St) = σ:=by rw [upB_self he]
 have HB2:Hid _:=HB.make (p:=max σ.peak (a + v)) (b:=k) (by rw [e0];exact h.b) hk (by rw [e0];exact hf) hv1
 have HP2:Hid _:=Ap.fill (v:=k) (p:=max σ.peak (a + v)) (by rw [e0];exact h.ap) (List.length_replicate (n:=v) (a:=0)) hv2 (by rw [e0];exact hf)
 have HM:Hid _:=h
 have hmr:¬ OneB r mp:=fun e=>h.h.ne (by unfold OneB at e;exact e)
 clear h hf hl ha e0
 have fin:∀ (w2:World),HeapM w2 mp r n (markTo B a (a + v)) V → Fr (OneB r) w w2 → ∀ (w3:World),Fr (OneB mp) w2 w3 → MacAt w3 mp pv st (mxOf { σ with bx:=upB σ.bx k (List.replicate v 0),at_:=upN σ.at_ k a,peak:=max σ.peak (a + v) } nx ov tv) → w3.cell? ⟨mp,30,none⟩ = w2.cell? ⟨mp,30,none⟩ →
   (∃ B' V',MM w3 mp r n base pv st { σ with bx:=upB σ.bx k (List.replicate v 0),at_:=upN σ.at_ k a,peak:=max σ.peak (a + v) } nx ov B' V' tv) ∧ Fr (TwoB mp r) w w3:=fun w2 hH hF2 w3 hF3 hm3 hp3 =>
  ⟨⟨_,_,⟨hm3,hH.own hF3 hp3,HB2.out,HP2.out,(HM.out.ok.box (fun x hx=>by rw [List.eq_of_mem_replicate hx];omega) (by simpa using hv2)).like rfl rfl,hF3.owns (hF2.owns HM.out.tr (fun g hg e=>HM.out.nr g hg (by unfold OneB at e;exact e))) (fun g hg e=>HM.out.nm g hg (by unfold OneB at e;exact e)),HM.out.tk,HM.out.mb,HM.out.rb,HM.out.nm,HM.out.nr,HM.out.nxb⟩⟩,(two_snd mp hF2).trans (two_one r hF3)⟩
 have HFin:Hid _:=fin
 clear fin
 by_cases hpk:σ.peak < a + v
 ·have hd:decide ((σ.peak:Int) < (a:Int) + (v:Int)) = true:=by simp;omega
  go_enter func149,ntmps149
  go_wp2_with (go_at_call 40;refine Calls.mono HA.out ?_;rintro e w2 ⟨rfl,hH,hF2⟩;have HX:Hid _:=And.intro hH hF2;have HMa:Hid _:=HM.out.m.fr hF2 hmr;have ca2:=HMa.out.ca k hk;have cl2:=HMa.out.cl k hk;have ck2:w2.cell? ⟨mp,83,none⟩ = some (.int .i64 σ.peak):=HMa.out.ck;have f1:=HMa.out.fz (31 + k * 2);have f2:=HMa.out.fz (31 + k * 2 + 1);have f3:=HMa.out.fz 83;clear hH hF2)
  go_ret
  have hm3:=((HMa.out.setAt hk a).setLen hk v).setPeak (a + v)
  rw [mx_make _ _ _ _ hv1,show a + v = max σ.peak (a + v) by omega,show ((max σ.peak (a + v):Nat):Int) = (a:Int) + (v:Int) by omega] at hm3
  exact ⟨rfl,HFin.out _ HX.out.1 HX.out.2 _ ((((Fr.refl (OneB mp) w2).setCell (p:=⟨mp,31 + k * 2,none⟩) (fun _=>rfl) _).setCell (p:=⟨mp,31 + k * 2 + 1,none⟩) (fun _=>rfl) _).setCell (p:=⟨mp,83,none⟩) (fun _=>rfl) _) hm3 ((cell_other (.inr (by omega))).trans ((cell_other (.inr (by omega))).trans (cell_other (.inr (by omega)))))⟩
 ·have hd:decide ((σ.peak:Int) < (a:Int) + (v:Int)) = false:=by simp;omega
  go_enter func149,ntmps149
  go_wp2_with (go_at_call 40;refine Calls.mono HA.out ?_;rintro e w2 ⟨rfl,hH,hF2⟩;have HX:Hid _:=And.intro hH hF2;have HMa:Hid _:=HM.out.m.fr hF2 hmr;have ca2:=HMa.out.ca k hk;have cl2:=HMa.out.cl k hk;have ck2:w2.cell? ⟨mp,83,none⟩ = some (.int .i64 σ.peak):=HMa.out.ck;have f1:=HMa.out.fz (31 + k * 2);have f2:=HMa.out.fz (31 + k * 2 + 1);have f3:=HMa.out.fz 83;clear hH hF2)
  go_ret
  have hm3:=((HMa.out.setAt hk a).setLen hk v)
  have hm4:MacAt ((w2.setCell ⟨mp,31 + k * 2,none⟩ (.int .i64 a)).setCell ⟨mp,31 + k * 2 + 1,none⟩ (.int .i64 v)) mp pv st ({ { { mxOf σ nx ov tv with at_:=upN (mxOf σ nx ov tv).at_ k a } with len:=upN (mxOf σ nx ov tv).len k v } with peak:=max σ.peak (a + v) }:Mx):=by
   have e:max σ.peak (a + v) = σ.peak:=by omega
   rw [e]
   exact hm3
  rw [mx_make _ _ _ _ hv1] at hm4
  exact ⟨rfl,HFin.out _ HX.out.1 HX.out.2 _ (((Fr.refl (OneB mp) w2).setCell (p:=⟨mp,31 + k * 2,none⟩) (fun _=>rfl) _).setCell (p:=⟨mp,31 + k * 2 + 1,none⟩) (fun _=>rfl) _) hm4 ((cell_other (.inr (by omega))).trans (cell_other (.inr (by omega))))⟩
theorem bmove_fn (h:MM w mp r n base pv st σ nx ov B V tv) (k d:Nat) (hk:k < 26) (hd:d < 26) (hne:k ≠ d) (he:σ.bx k = []) (hde:σ.bx d ≠ []) :
  Calls prog 150 #[.pointer (some ⟨mp,30,none⟩),.int .i64 k,.int .i64 d] w fun e w'=>e = .returned (.tuple #[]) ∧ MM w' mp r n base pv st { σ with bx:=upB (upB σ.bx k (σ.bx d)) d [],at_:=upN σ.at_ k (σ.at_ d) } nx ov B V tv ∧ Fr (TwoB mp r) w w':=by
 have HM:Hid _:=h
 have hml:=h.m.lt
 have ca:=h.m.ca k hk
 have cl:=h.m.cl k hk
 have da:=h.m.ca d hd
 have dl:=h.m.cl d hd
 have f1:=h.m.fz (31 + k * 2)
 have f2:=h.m.fz (31 + k * 2 + 1)
 have f3:=h.m.fz (31 + d * 2)
 have f4:=h.m.fz (31 + d * 2 + 1)
 unfold mxOf at da dl
 simp only [] at da dl
 rw [if_neg hde] at da
 have hkd:31 + k * 2 ≠ 31 + d * 2:=by omega
 clear h
 go_enter func150,ntmps150
 go_wp2
 go_region
 go_wp2
 go_end0
 have hm:=(((HM.out.m.setAt hk (σ.at_ d)).setLen hk (σ.bx d).length).setAt hd 0).setLen hd 0
 have hm2:MacAt ((((w.setCell ⟨mp,31 + k * 2,none⟩ (.int .i64 (σ.at_ d:Int))).setCell ⟨mp,31 + k * 2 + 1,none⟩ (.int .i64 ((σ.bx d).length:Int))).setCell ⟨mp,31 + d * 2,none⟩ (.int .i64 0)).setCell ⟨mp,31 + d * 2 + 1,none⟩ (.int .i64 0)) mp pv st (mxOf { σ with bx:=upB (upB σ.bx k (σ.bx d)) d [],at_:=upN σ.at_ k (σ.at_ d) } nx ov tv):=by
  rw [← mx_move hne hde]
  exact hm
 have hF:=((((Fr.refl (OneB mp) w).setCell (p:=⟨mp,31 + k * 2,none⟩) (fun _=>rfl) (.int .i64 (σ.at_ d:Int))).setCell (p:=⟨mp,31 + k * 2 + 1,none⟩) (fun _=>rfl) (.int .i64 ((σ.bx d).length:Int))).setCell (p:=⟨mp,31 + d * 2,none⟩) (fun _=>rfl) (.int .i64 0)).setCell (p:=⟨mp,31 + d * 2 + 1,none⟩) (fun _=>rfl) (.int .i64 0)
 have hc:(((((w.setCell ⟨mp,31 + k * 2,none⟩ (.int .i64 (σ.at_ d:Int))).setCell ⟨mp,31 + k * 2 + 1,none⟩ (.int .i64 ((σ.bx d).length:Int))).setCell ⟨mp,31 + d * 2,none⟩ (.int .i64 0)).setCell ⟨mp,31 + d * 2 + 1,none⟩ (.int .i64 0))).cell? ⟨mp,30,none⟩ = w.cell? ⟨mp,30,none⟩ :=
  (cell_other (.inr (by omega))).trans ((cell_other (.inr (by omega))).trans ((cell_other (.inr (by omega))).trans (cell_other (.inr (by omega)))))
 have hok:NumOk { σ with bx:=upB (upB σ.bx k (σ.bx d)) d [],at_:=upN σ.at_ k (σ.at_ d) }:=((HM.out.ok.box (k:=k) (HM.out.ok.wd d) (HM.out.ok.sz d)).box (k:=d) (l:=[]) (fun v hv=>by cases hv) (by simp)).like rfl rfl
 have hMM:MM _ mp r n base pv st { σ with bx:=upB (upB σ.bx k (σ.bx d)) d [],at_:=upN σ.at_ k (σ.at_ d) } nx ov B V tv:=⟨hm2,HM.out.h.own hF hc,HM.out.b.move hk hd hne he,HM.out.ap.move hk hd hne,hok,hF.owns HM.out.tr (fun g hg e=>HM.out.nm g hg (by unfold OneB at e;exact e)),HM.out.tk,HM.out.mb,HM.out.rb,HM.out.nm,HM.out.nr,HM.out.nxb⟩
 exact ⟨rfl,hMM.no ((Fr.refl _ _).drew),(two_one r hF).drew⟩
end
end
section
def ptV (t:Pt) (clo:Nat):Value:=.agg #[.int .i64 t.kind,.int .i64 t.place,.int .i64 t.num,.int .i64 t.box,.int .i64 t.src,.bool (odB t.o1),.int .i64 (odI t.o1:Int),.int .u8 t.sign,.bool (odB t.o2),.int .i64 (odI t.o2:Int),.int .i64 t.opn,.int .i64 clo]
def MS (mp r n base:Nat) (pv:Value) (st:Bool) (nx:Nat) (x:St × Bool) (w:World) (e:Ending) (w':World):Prop:=e = .returned (.tuple #[]) ∧ (∃ B V tv,MM w' mp r n base pv st x.1 nx (!x.2) B V tv) ∧ Fr (FrM base) w w'
theorem frM_no {w w':World} {base:Nat} (h:Fr NoB w w'):Fr (FrM base) w w':=h.mono (fun _ _ e=>e.elim)
section
variable (w:World) (mp r n base nx:Nat) (pv tv:Value) (st ov:Bool) (σ:St) (B V:Nat → Int)
theorem val_lt (h:NumOk σ) {o:Od} (ho:OdOk o):valO σ.num o < 1000:=by
 cases o with
 | n k=>exact h.num k
 | v x=>exact ho
theorem MM.setNum {w:World} {mp r n base nx:Nat} {pv tv:Value} {st ov:Bool} {σ:St} {B V:Nat → Int} (h:MM w mp r n base pv st σ nx ov B V tv) {k v:Nat} (hk:k < 26) (hv:v < 1000):MM (w.setCell ⟨mp,4 + k,none⟩ (.int .i64 v)) mp r n base pv st { σ with num:=upN σ.num k v } nx ov B V tv :=
 h.own ((Fr.refl (OneB mp) w).setCell (p:=⟨mp,4 + k,none⟩) (fun _=>rfl) _) (h.m.setNum hk v) (cell_other (.inr (by omega))) rfl rfl (h.ok.set hv) rfl h.tk h.nxb
theorem dload_no (h:MM w mp r n base pv st σ nx false B V tv) (t:Pt) (clo:Nat) (ht:PtOk t) (hl:(σ.bx t.box).length ≤ valO σ.num t.o1) :
  Calls prog 140 #[.pointer (some ⟨mp,0,none⟩),ptV t clo] w fun e w'=>MS mp r n base pv st nx (ends σ 1) w e w':=by
 have hv:=val_lt σ h.ok ht.o1
 have HV:Hid (∀ W,Fr NoB w W → _):=fun W hW=>mvalue_fn W mp r n base nx pv tv st false σ B V (h.no hW) t.o1 ht.o1
 have HW:Hid (∀ W,Fr NoB w W → CR 148 #[.pointer (some ⟨mp,30,none⟩),.int .i64 t.box,.int .i64 (valO σ.num t.o1:Int)] W (.tuple #[.int .i64 (((if σ.bx t.box = [] then 0 else σ.at_ t.box) + valO σ.num t.o1:Nat):Int),.bool false])):=fun W hW=>by
  have:=word_fn W mp r n base nx pv tv st false σ B V (h.no hW) t.box (valO σ.num t.o1) ht.b hv
  rwa [show decide (valO σ.num t.o1 < (σ.bx t.box).length) = false by simp;exact hl] at this
 have HS:Hid (∀ W,Fr NoB w W → Calls prog 128 #[.pointer (some ⟨mp,0,none⟩),.int .i64 1] W fun e w'=>MS mp r n base pv st nx (ends σ 1) w e w'):=fun W hW=>(stop_fn W mp r n base nx pv tv st false σ B V (h.no hW) 1).mono fun e w' hh=>⟨hh.1,⟨_,_,_,hh.2.1⟩,(frM_no hW).trans hh.2.2⟩
 unfold ptV
 obtain ⟨kind,place,num,box,src,o1,sign,o2,opn⟩:=t
 simp only [] at *
 generalize valO σ.num o1 = v at *
 generalize odB o1 = b1 at *
 generalize odI o1 = x1 at *
 generalize odB o2 = b2 at *
 generalize odI o2 = x2 at *
 generalize (if σ.bx box = [] then 0 else σ.at_ box) + v = at0 at *
 clear h ht hl
 go_enter func140,ntmps140
 go_upto_region 1 with fail
 obtain ⟨hFA,HPA⟩:=box_new w kind place num box src b1 x1 sign b2 x2 opn clo
 generalize w.alloc _ = W1 at hFA HPA ⊢
 generalize w.heap.size = q at HPA ⊢
 have c3:=HPA.out.c3
 have c5:=HPA.out.c5
 have c6:=HPA.out.c6
 go_region_with (first | (go_at_call 139;refine (HV.out _ (hFA.drew)).mono ?_;rintro e w2 ⟨rfl,hF2⟩;have d3:=(((Fr.refl NoB W1).drew).trans hF2).cell_some c3 id) | (go_at_call 148;refine (HW.out _ ((hFA.drew).trans hF2)).mono ?_;rintro e w3 ⟨rfl,hF3⟩))
 all_goals
  go_wp2_with (go_at_call 128;refine (HS.out _ (((hFA.drew).trans hF2).trans hF3)).mono ?_;rintro e w4 ⟨rfl,hh⟩;have HH:Hid _:=hh;clear hh)
  go_end0
  exact ⟨rfl,HH.out⟩
theorem dload_yes (h:MM w mp r n base pv st σ nx false B V tv) (t:Pt) (clo:Nat) (ht:PtOk t) (hl:valO σ.num t.o1 < (σ.bx t.box).length) :
  Calls prog 140 #[.pointer (some ⟨mp,0,none⟩),ptV t clo] w fun e w'=>MS mp r n base pv st nx ({ σ with num:=upN σ.num t.num ((σ.bx t.box).getD (valO σ.num t.o1) 0) },true) w e w':=by
 have hv:=val_lt σ h.ok ht.o1
 have HV:Hid (∀ W,Fr NoB w W → _):=fun W hW=>mvalue_fn W mp r n base nx pv tv st false σ B V (h.no hW) t.o1 ht.o1
 have HW:Hid (∀ W,Fr NoB w W → CR 148 #[.pointer (some ⟨mp,30,none⟩),.int .i64 t.box,.int .i64 (valO σ.num t.o1:Int)] W (.tuple #[.int .i64 (((if σ.bx t.box = [] then 0 else σ.at_ t.box) + valO σ.num t.o1:Nat):Int),.bool true])):=fun W hW=>by
  have:=word_fn W mp r n base nx pv tv st false σ B V (h.no hW) t.box (valO σ.num t.o1) ht.b hv
  rwa [show decide (valO σ.num t.o1 < (σ.bx t.box).length) = true by simp;exact hl] at this
 have hne:σ.bx t.box ≠ []:=fun e=>by rw [e] at hl;simp at hl
 have hon:=h.b.on t.box ht.b _ hl
 have hin:=h.ap.inn t.box ht.b hne
 have hx:(σ.bx t.box).getD (valO σ.num t.o1) 0 < 1000:=by
  rw [List.getD_eq_getElem?_getD,List.getElem?_eq_getElem hl]
  exact h.ok.wd _ _ (List.getElem_mem hl)
 rw [if_neg hne] at HW
 have HL:Hid (∀ W,Fr NoB w W → CS 44 #[.pointer (some ⟨mp,30,none⟩),.int .i64 ((σ.at_ t.box + valO σ.num t.o1:Nat):Int)] W (.tuple #[.int .i64 (((σ.bx t.box).getD (valO σ.num t.o1) 0:Nat):Int),.int .i64 0])):=fun W hW=>by
  have:=mload_yes W mp r n B V (σ.at_ t.box + valO σ.num t.o1) (h.h.no hW) (by omega) (by rw [hon.1];omega)
  rwa [hon.2] at this
 have HM:Hid _:=h
 have hn:t.num < 26:=ht.n
 unfold ptV
 obtain ⟨kind,place,num,box,src,o1,sign,o2,opn⟩:=t
 simp only [] at *
 generalize valO σ.num o1 = v at *
 generalize odB o1 = b1 at *
 generalize odI o1 = x1 at *
 generalize odB o2 = b2 at *
 generalize odI o2 = x2 at *
 generalize σ.at_ box + v = at0 at *
 generalize (σ.bx box).getD v 0 = X at *
 clear h ht hl hne hon hin
 go_enter func140,ntmps140
 go_upto_region 1 with fail
 obtain ⟨hFA,HPA⟩:=box_new w kind place num box src b1 x1 sign b2 x2 opn clo
 generalize w.alloc _ = W1 at hFA HPA ⊢
 generalize w.heap.size = q at HPA ⊢
 have c2:=HPA.out.c2
 have c3:=HPA.out.c3
 have c5:=HPA.out.c5
 have c6:=HPA.out.c6
 go_region_with (first | (go_at_call 139;refine (HV.out _ (hFA.drew)).mono ?_;rintro e w2 ⟨rfl,hF2⟩;have d3:=(((Fr.refl NoB W1).drew).trans hF2).cell_some c3 id) | (go_at_call 148;refine (HW.out _ ((hFA.drew).trans hF2)).mono ?_;rintro e w3 ⟨rfl,hF3⟩))
 all_goals
  have hFX:Fr NoB w w3:=((hFA.drew).trans hF2).trans hF3
  have d2:=((((Fr.refl NoB W1).drew).trans hF2).trans hF3).cell_some c2 id
  have HM3:Hid _:=HM.out.no hFX
  have cn:=HM3.out.m.cn num hn
  have fz:=HM3.out.m.fz (4 + num)
  go_wp2_with (go_at_call 44;refine sameC (HL.out _ hFX) ?_)
  go_region
  go_end0
  exact ⟨rfl,⟨_,_,_,(HM3.out.setNum hn hx).no ((Fr.refl _ _).drew)⟩,((frM_no hFX).trans (frM_one ((Fr.refl (OneB mp) w3).setCell (p:=⟨mp,4 + num,none⟩) (fun _=>rfl) _) HM.out.mb)).drew⟩
end
end
end Go.Proofs.YthcjcjfgdgnljabGreatDoor
