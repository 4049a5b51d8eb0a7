import Derived.Test.YthcjcjfgdgnljabGreatDoorGExeI
import Derived.Deep.RegionHeld3
import Derived.Test.YthcjcjfgdgnljabGreatDoorGMchZ
set_option linter.unusedVariables false
set_option maxHeartbeats 4000000
set_option maxRecDepth 8000
open Go.Proofs.Tryz
namespace Go.Proofs.YthcjcjfgdgnljabGreatDoor
open Go.RowKit
theorem RunAt.setUsed {w:World} {rp:Nat} {s:ByteArray} {x:Rn} (h:RunAt w rp s x) (v:Int):RunAt (w.setCell ⟨rp,109,none⟩ (.int .i64 v)) rp s { x with used:=v } :=
 ⟨cell_at h.cs (by omega),fun k hk=>cell_at (h.cn k hk) (by omega),fun k hk=>cell_at (h.cw k hk) (by omega),cell_at h.ch (by omega),fun k hk=>cell_at (h.ca k hk) (by omega),fun k hk=>cell_at (h.cl k hk) (by omega),
  cell_at h.cf (by omega),cell_at h.co (by omega),cell_at h.ct (by omega),cell_same h.cu,cell_at h.cp (by omega),fun o=>by rw [World.frozen?_setCell];exact h.fz o⟩
def usedN (σ:St):Nat → Nat
 | 0=>0
 | k + 1=>usedN σ k + (σ.bx k).length
theorem used_le {σ:St} (h:NumOk σ):∀ k,usedN σ k ≤ 64 * k
 | 0=>Nat.le_refl _
 | k + 1=>by
  have:=used_le h k
  have:=h.sz k
  show usedN σ k + (σ.bx k).length ≤ 64 * (k + 1)
  omega
def outE (σ:St):Value:=.agg #[.int .i64 σ.status,.string (trB σ.tr),.int .i64 (usedN σ 26:Int),.int .i64 σ.peak]
theorem refExec_long (w:World) (s:ByteArray) (nw n:Int) (hs:20000 < s.size) (hs2:s.size ≤ 9223372036854775807) :
  CR 36 #[.string s,.int .i64 nw,.int .i64 n] w (.tuple #[out0,.int .i64 1]):=by
 have HO:Hid _:=OutAt.new w 71 (.int .i64 0) (.string ⟨#[]⟩) (.int .i64 0) (.int .i64 0)
 have HF0:Hid (Fr NoB w (w.alloc (.cells #[.int .i64 0,.string ⟨#[]⟩,.int .i64 0,.int .i64 0] 71))):=(Fr.refl _ _).alloc _
 go_enter func36,ntmps36
 go_upto_region 1 with fail
 generalize (w.alloc _) = W0 at *
 obtain ⟨c0,c1,c2,c3,hf⟩:=HO.out
 have f0:=hf 0
 have f1:=hf 1
 have f2:=hf 2
 have f3:=hf 3
 clear hf
 go_wp2
 obtain ⟨k0,k1,k2,k3,kf⟩:=HO.out.put (u0:=.int .i64 0) (u1:=.string ⟨#[]⟩) (u2:=.int .i64 0) (u3:=.int .i64 0)
 exact bodyPost_ret (v:=.tuple #[out0,.int .i64 1]) (by simp [results,results36,go_sem,k0,k1,k2,k3,out0]) rfl ⟨rfl,HF0.out.put4 (fun q=>absurd q (by omega)) _ _ _ _⟩
theorem refExec_bad (w:World) (s:ByteArray) (nw n:Int) (hs:s.size ≤ 20000) (hc:(run s [(83,true)] 0 0).1 ≠ 0) :
  CR 36 #[.string s,.int .i64 nw,.int .i64 n] w (.tuple #[out0,.int .i64 ((run s [(83,true)] 0 0).1:Int)]):=by
 have HC:Hid _:=fun X=>wrong_fn X s hs
 have b1:(((run s [(83,true)] 0 0).1:Int) != 0) = true:=bne_iff_ne.2 (by omega)
 generalize (run s [(83,true)] 0 0).1 = k at *
 generalize (run s [(83,true)] 0 0).2 = p at *
 clear hc
 have HO:Hid _:=OutAt.new w 71 (.int .i64 0) (.string ⟨#[]⟩) (.int .i64 0) (.int .i64 0)
 have HF0:Hid (Fr NoB w (w.alloc (.cells #[.int .i64 0,.string ⟨#[]⟩,.int .i64 0,.int .i64 0] 71))):=(Fr.refl _ _).alloc _
 go_enter func36,ntmps36
 go_upto_region 1 with fail
 generalize (w.alloc _) = W0 at *
 go_wp2_with (go_at_call 52;refine (HC.out _).mono ?_;rintro e w1 ⟨rfl,hF1⟩;have HO1:Hid _:=HO.out.fr hF1 id;obtain ⟨c0,c1,c2,c3,hf⟩:=HO1.out;have f0:=hf 0;have f1:=hf 1;have f2:=hf 2;have f3:=hf 3;clear hf)
 obtain ⟨k0,k1,k2,k3,kf⟩:=HO1.out.put (u0:=.int .i64 0) (u1:=.string ⟨#[]⟩) (u2:=.int .i64 0) (u3:=.int .i64 0)
 exact bodyPost_ret (v:=.tuple #[out0,.int .i64 k]) (by simp [results,results36,go_sem,k0,k1,k2,k3,out0]) rfl ⟨rfl,(HF0.out.trans hF1).put4 (fun q=>absurd q (by omega)) _ _ _ _⟩
theorem refExec_words (w:World) (s:ByteArray) (nw n:Int) (hs:s.size ≤ 20000) (hc:run s [(83,true)] 0 0 = (0,0)) (hw:nw < 1 ∨ 4096 < nw) :
  CR 36 #[.string s,.int .i64 nw,.int .i64 n] w (.tuple #[out0,.int .i64 5]):=by
 have HC:Hid _:=fun X=>wrong_fn X s hs
 rw [hc] at HC
 have HN:Hid _:=fun X=>rnew_no X nw hw
 have HU:Hid _:=fun X=>fuel_fn X n
 have HO:Hid _:=OutAt.new w 71 (.int .i64 0) (.string ⟨#[]⟩) (.int .i64 0) (.int .i64 0)
 have HF0:Hid (Fr NoB w (w.alloc (.cells #[.int .i64 0,.string ⟨#[]⟩,.int .i64 0,.int .i64 0] 71))):=(Fr.refl _ _).alloc _
 generalize (decide (0 ≤ n) && decide (n ≤ 5000)) = fb at *
 clear hc hw
 go_enter func36,ntmps36
 go_upto_region 1 with fail
 generalize (w.alloc _) = W0 at *
 go_wp2_with (first | (go_at_call 52;refine (HC.out _).mono ?_;rintro e w1 ⟨rfl,hF1⟩;have HO1:Hid _:=HO.out.fr hF1 id;obtain ⟨c0,c1,c2,c3,hf⟩:=HO1.out;have f0:=hf 0;have f1:=hf 1;have f2:=hf 2;have f3:=hf 3;clear hf) | (go_at_call 9;refine sameC (HN.out _) ?_) | (go_at_call 55;refine sameC (HU.out _) ?_))
 obtain ⟨k0,k1,k2,k3,kf⟩:=HO1.out.put (u0:=.int .i64 0) (u1:=.string ⟨#[]⟩) (u2:=.int .i64 0) (u3:=.int .i64 0)
 exact bodyPost_ret (v:=.tuple #[out0,.int .i64 5]) (by simp [results,results36,go_sem,k0,k1,k2,k3,out0]) rfl ⟨rfl,(HF0.out.trans hF1).put4 (fun q=>absurd q (by omega)) _ _ _ _⟩
theorem refExec_fuel (w:World) (s:ByteArray) (nw:Nat) (n:Int) (hs:s.size ≤ 20000) (hc:run s [(83,true)] 0 0 = (0,0)) (hw1:1 ≤ nw) (hw2:nw ≤ 4096) (hn:n < 0 ∨ 5000 < n) :
  CR 36 #[.string s,.int .i64 nw,.int .i64 n] w (.tuple #[out0,.int .i64 5]):=by
 have HC:Hid _:=fun X=>wrong_fn X s hs
 rw [hc] at HC
 have HN:Hid _:=fun X=>rnew_yes X nw hw1 hw2
 have HU:Hid (∀ X:World,CS 55 #[.int .i64 n] X (.bool false)):=fun X=>by
  have:=fuel_fn X n
  rwa [show (decide (0 ≤ n) && decide (n ≤ 5000)) = false by simp;omega] at this
 have HO:Hid _:=OutAt.new w 71 (.int .i64 0) (.string ⟨#[]⟩) (.int .i64 0) (.int .i64 0)
 have HF0:Hid (Fr NoB w (w.alloc (.cells #[.int .i64 0,.string ⟨#[]⟩,.int .i64 0,.int .i64 0] 71))):=(Fr.refl _ _).alloc _
 clear hc hn
 go_enter func36,ntmps36
 go_upto_region 1 with fail
 generalize (w.alloc _) = W0 at *
 go_wp2_with (first | (go_at_call 52;refine (HC.out _).mono ?_;rintro e w1 ⟨rfl,hF1⟩) | (go_at_call 9;refine (HN.out _).mono ?_;rintro e w2 ⟨q,ri,rh,rfl,hF2,_⟩;have HO1:Hid _:=(HO.out.fr hF1 id).fr hF2 id;obtain ⟨c0,c1,c2,c3,hf⟩:=HO1.out;have f0:=hf 0;have f1:=hf 1;have f2:=hf 2;have f3:=hf 3;clear hf) | (go_at_call 55;refine sameC (HU.out _) ?_))
 obtain ⟨k0,k1,k2,k3,kf⟩:=HO1.out.put (u0:=.int .i64 0) (u1:=.string ⟨#[]⟩) (u2:=.int .i64 0) (u3:=.int .i64 0)
 exact bodyPost_ret (v:=.tuple #[out0,.int .i64 5]) (by simp [results,results36,go_sem,k0,k1,k2,k3,out0]) rfl ⟨rfl,((HF0.out.trans hF1).trans hF2).put4 (fun q=>absurd q (by omega)) _ _ _ _⟩
theorem exec_new (w:World) (s:ByteArray) (nw n q ri rh:Nat) (hn:n ≤ 5000) (hR:RefAt w q ri rh nw (fun _=>0) (fun _=>0) 0) :
  ExM w.heap.size q ri rh nw s (w.alloc (.cells (((zeroCells99.setIfInBounds 0 (.string s)).setIfInBounds 53 (.pointer (some ⟨q,0,none⟩))).setIfInBounds 106 (.int .i64 n)) 99)) (st0 n):=by
 rw [zRun_is]
 have hsz:=zRun_size
 have hr:=run_new w s n (.pointer (some ⟨q,0,none⟩)) (((zRun.setIfInBounds 0 (.string s)).setIfInBounds 53 (.pointer (some ⟨q,0,none⟩))).setIfInBounds 106 (.int .i64 n)) (by rw [Array.getElem?_setIfInBounds,if_neg (by omega),Array.getElem?_setIfInBounds,if_neg (by omega),Array.getElem?_setIfInBounds,if_pos rfl,if_pos (by omega)]) (by rw [Array.getElem?_setIfInBounds,if_neg (by omega),Array.getElem?_setIfInBounds,if_pos rfl,if_pos (by rw [Array.size_setIfInBounds];omega)])
  (by rw [Array.getElem?_setIfInBounds,if_pos rfl,if_pos (by rw [Array.size_setIfInBounds,Array.size_setIfInBounds];omega)]) (fun k h0 h53 h106=>by rw [Array.getElem?_setIfInBounds,if_neg (by omega),Array.getElem?_setIfInBounds,if_neg (by omega),Array.getElem?_setIfInBounds,if_neg (by omega)])
 have q1:=hR.ql
 have q2:=hR.il
 have q3:=hR.hl
 refine ⟨⟨0,⟨fun _=>0,fun _=>0,fun _=>0,fun _=>0,0,⟨hr,hR.no ((Fr.refl _ _).alloc _),Rel.start nw,⟨fun k _ i hi=>absurd hi (by simp [st0]),fun i _ _=>⟨rfl,rfl⟩⟩,⟨fun j hj q=>absurd rfl q,fun j hj=>by simp [st0],fun i j _ _ _ q=>absurd rfl q⟩,num_st0 n,by omega,by omega,by omega,Int.le_refl _⟩,Int.le_refl _⟩,by show (0:Int) + (n:Int) ≤ 5000;omega⟩,by unfold TrOk st0;show 0 + 5 * n ≤ 25000;omega⟩
theorem refExec_ok (w:World) (s:ByteArray) (nw n:Nat) (hs:s.size ≤ 20000) (hc:run s [(83,true)] 0 0 = (0,0)) (hw1:1 ≤ nw) (hw2:nw ≤ 4096) (hn:n ≤ 5000) (σ:St) (hE:Ends (cE true nw) s n σ) :
  CR 36 #[.string s,.int .i64 nw,.int .i64 n] w (.tuple #[outE σ,.int .i64 0]):=by
 have HC:Hid _:=fun X=>wrong_fn X s hs
 have Hpr:Hid _:=prog_of_ok hc
 rw [hc] at HC
 have HN:Hid _:=fun X=>rnew_yes X nw hw1 hw2
 have HU:Hid (∀ X:World,CS 55 #[.int .i64 n] X (.bool true)):=fun X=>by
  have:=fuel_fn X (n:Int)
  rwa [show (decide (0 ≤ (n:Int)) && decide ((n:Int) ≤ 5000)) = true by simp;omega] at this
 have HO:Hid _:=OutAt.new w 71 (.int .i64 0) (.string ⟨#[]⟩) (.int .i64 0) (.int .i64 0)
 have HF0:Hid (Fr NoB w (w.alloc (.cells #[.int .i64 0,.string ⟨#[]⟩,.int .i64 0,.int .i64 0] 71))):=(Fr.refl _ _).alloc _
 clear hc
 go_enter func36,ntmps36
 go_upto_region 1 with fail
 generalize (w.alloc _) = W0 at *
 go_upto_region 11 with (first | (go_at_call 52;refine (HC.out _).mono ?_;rintro e w1 ⟨rfl,hF1⟩) | (go_at_call 9;refine (HN.out _).mono ?_;rintro e w2 ⟨q,ri,rh,rfl,hF2,hq1,hq2,hq3,hRef⟩) | (go_at_call 55;refine sameC (HU.out _) ?_))
 have hq0:w.heap.size < w1.heap.size:=(HO.out.fr hF1 id).lt
 have HO2:Hid _:=(HO.out.fr hF1 id).fr hF2 id
 have HFa:Hid (Fr NoB w w2):=(HF0.out.trans hF1).trans hF2
 have hwl:w.heap.size < w2.heap.size:=HO2.out.lt
 have HP:Hid _:=exec_new w2 s nw n q ri rh hn hRef
 have HF3:Hid (Fr NoB w2 (w2.alloc (.cells (((zeroCells99.setIfInBounds 0 (.string s)).setIfInBounds 53 (.pointer (some ⟨q,0,none⟩))).setIfInBounds 106 (.int .i64 n)) 99))):=(Fr.refl _ _).alloc _
 generalize (w2.alloc _) = W3 at *
 generalize w2.heap.size = rp at *
 have HA:Hid _:=run_is (exec_model rp q ri rh nw s (by omega)) (by omega) n (s.size + 1) 0 s.size Hpr.out W3 (st0 n) σ
 obtain ⟨b,hEx⟩:=hE
 have HA2:Hid _:=HA.out b (Nat.le_refl _) HP.out hEx
 clear HA hEx hRef hF1 hF2 HC HN HU
 go_upto_region 12 with (go_at_call 56;refine Calls.mono HA2.out ?_;rintro e w3 ⟨rfl,hP3,hF3⟩)
 obtain ⟨⟨m,hR,hm⟩,_⟩:=hP3
 have Hok:Hid _:=hR.ok
 have HRun:Hid (RunAt w3 rp s (rnE σ q)):=hR.run
 have HF4:Hid _:=hF3
 clear hR hF3 HA2
 have hno:¬ ExF rp q ri rh w.heap.size:=fun e=>by unfold ExF at e;omega
 have Hno:Hid _:=hno
 clear hno
 go_upto_region 13 with fail
 go_loopg [13] 26 (fun g t wr=>∃ k:Nat,g + k = 26 ∧ t = .int .i64 k ∧ RunAt wr rp s { rnE σ q with used:=(usedN σ k:Int) } ∧ Fr (ExF rp q ri rh) w3 wr)
 case atStart=>exact ⟨0,rfl,rfl,HRun.out,Fr.refl _ _⟩
 case round =>
  obtain ⟨k,hgk,rfl,hRt,hFt⟩:=hrel
  have HRt:Hid _:=hRt
  have HFt:Hid _:=hFt
  have ub:=used_le Hok.out k
  have lb:=Hok.out.sz k
  by_cases hlt:k < 26
  ·have cu:=hRt.cu
   have cl:=hRt.cl k hlt
   have fz:=hRt.fz 109
   unfold rnE at cu cl
   simp only [] at cu cl
   have HX:Hid (usedN σ (k + 1) = usedN σ k + (σ.bx k).length):=rfl
   generalize usedN σ k = U at *
   generalize (σ.bx k).length = L at *
   clear hRt hFt
   go_wp2
   go_region
   go_wp2
   go_roundg (25 - k)
   case measure=>omega
   case rel =>
    refine ⟨k + 1,by omega,by go_num,?_,(HFt.out.setCell (p:=⟨rp,109,none⟩) (fun _=>.inl rfl) _).drew⟩
    have:=(HRt.out.setUsed ((U:Int) + (L:Int))).no (Fr.refl _ _).drew
    rw [show ((U:Int) + (L:Int)) = (usedN σ (k + 1):Int) by rw [HX.out];omega] at this ⊢
    exact this
  ·have hk26:k = 26:=by omega
   subst hk26
   have o0:=hRt.co
   have o1:=hRt.ct
   have o2:=hRt.cu
   have o3:=hRt.cp
   unfold rnE at o0 o1 o2 o3
   simp only [] at o0 o1 o2 o3
   have HO3:Hid _:=((HO2.out.fr HF3.out id).fr HF4.out Hno.out).fr hFt Hno.out
   obtain ⟨c0,c1,c2,c3,hf⟩:=HO3.out
   have f0:=hf 0
   have f1:=hf 1
   have f2:=hf 2
   have f3:=hf 3
   have HF5:Hid (Fr NoB w wr):=((HFa.out.trans HF3.out).then HF4.out (fun k hk q=>by unfold ExF at q;omega)).then hFt (fun k hk q=>by unfold ExF at q;omega)
   generalize hU:usedN σ 26 = U at *
   clear hf hRt hFt
   go_wp2
   obtain ⟨k0,k1,k2,k3,kf⟩:=HO3.out.put (u0:=.int .i64 σ.status) (u1:=.string (trB σ.tr)) (u2:=.int .i64 U) (u3:=.int .i64 σ.peak)
   exact bodyPost_ret (v:=.tuple #[outE σ,.int .i64 0]) (by simp [results,results36,go_sem,k0,k1,k2,k3,outE,hU]) rfl ⟨rfl,HF5.out.put4 (fun q=>absurd q (by omega)) _ _ _ _⟩
section
theorem MacAt.setStrict {w:World} {mp:Nat} {pv:Value} {st:Bool} {x:Mx} (h:MacAt w mp pv st x) (v:Bool):MacAt (w.setCell ⟨mp,2,none⟩ (.bool v)) mp pv v x :=
 ⟨cell_at h.cp (by omega),cell_at h.cx (by omega),cell_same h.cs,cell_at h.cf (by omega),fun k hk=>cell_at (h.cn k hk) (by omega),fun k hk=>cell_at (h.ca k hk) (by omega),fun k hk=>cell_at (h.cl k hk) (by omega),cell_at h.ck (by omega),cell_at h.ct (by omega),cell_at h.co (by omega),cell_at h.cu (by omega),fun o=>by rw [World.frozen?_setCell];exact h.fz o⟩
theorem MM.strict {w:World} {mp r n base nx:Nat} {pv tv:Value} {st ov:Bool} {σ:St} {B V:Nat → Int} (h:MM w mp r n base pv st σ nx ov B V tv) (v:Bool):MM (w.setCell ⟨mp,2,none⟩ (.bool v)) mp r n base pv v σ nx ov B V tv:=by
 have hF:=(Fr.refl (OneB mp) w).setCell (p:=⟨mp,2,none⟩) (fun _=>rfl) (.bool v)
 have hr:¬ OneB mp r:=fun e=>h.h.ne (by unfold OneB at e;exact e.symm)
 exact ⟨h.m.setStrict v,⟨h.h.lo,h.h.hi,h.h.ne,cell_at h.h.ptr (by omega),fun i hi=>hF.cell_some (h.h.blk i hi) hr,fun i hi=>hF.cell_some (h.h.val i hi) hr,fun o=>(hF.frozen (p:=⟨r,o,none⟩) h.h.rl hr).trans (h.h.frz o),h.h.b0,h.h.b1⟩,h.b,h.ap,h.ok,hF.owns h.tr (fun g hg e=>h.nm g hg e),h.tk,h.mb,h.rb,h.nm,h.nr,h.nxb⟩
section
variable (w:World) (mp r n base nx:Nat) (pv tv:Value) (st ov:Bool) (σ:St) (B V:Nat → Int)
theorem bused_fn (h:MM w mp r n base pv st σ nx ov B V tv) :
  CS 84 #[.pointer (some ⟨mp,30,none⟩)] w (.int .i64 (usedN σ 26:Int)):=by
 have HM:Hid _:=h
 clear h
 go_enter func84,ntmps84
 go_wp2
 go_loop [3,4] (fun t u=>∃ k:Nat,k ≤ 26 ∧ t = .int .i64 (usedN σ k:Int) ∧ u = .int .i64 k) (fun _ u=>26 - (intOf u).toNat)
 case atStart=>exact ⟨0,by omega,rfl,rfl⟩
 case round =>
  obtain ⟨k,hk,rfl,rfl⟩:=hrel
  have ub:=used_le HM.out.ok k
  have lb:=HM.out.ok.sz k
  by_cases hlt:k < 26
  ·have cl:=HM.out.m.cl k hlt
   unfold mxOf at cl
   simp only [] at cl
   have HX:Hid (usedN σ (k + 1) = usedN σ k + (σ.bx k).length):=rfl
   generalize usedN σ k = U at *
   generalize (σ.bx k).length = L at *
   go_wp2
   go_round
   case rel=>exact ⟨k + 1,by omega,by rw [HX.out];go_num,by go_num⟩
   case measure=>simp [intOf];omega
  ·have hk26:k = 26:=by omega
   subst hk26
   go_wp2
   go_ret
   exact ⟨rfl,rfl⟩
end
set_option maxRecDepth 100000 in
theorem rexec_arg (w:World) (ao:Option Addr) (np cap:Nat) (a f:Int) (hf:(a < 1 ∨ 4096 < a) ∨ (f < 0 ∨ 5000 < f)) :
  CR 57 #[.slice ao np cap,.int .i64 a,.int .i64 f] w (.tuple #[out0,.int .i64 5]):=by
 have HB:Hid (∀ W,∃ A:Array Value,A.size = 87 ∧ (∀ v ∈ A.toList,v.oneCell' = true) ∧ CR 78 #[.slice ao np cap,.int .i64 a,.int .i64 f] W (.tuple #[.agg A,.int .i64 5])):=fun W=>⟨zMac,zMac_size,zMac_one,by
  by_cases ha:a < 1 ∨ 4096 < a
  ·exact begin_no W (.slice ao np cap) a f ha
  ·obtain ⟨k,rfl⟩:∃ k:Nat,a = (k:Int):=⟨a.toNat,by omega⟩
   exact begin_arg W (.slice ao np cap) k f (by omega) (by omega) (by omega)⟩
 have HO:Hid _:=OutAt.new w 71 (.int .i64 0) (.string ⟨#[]⟩) (.int .i64 0) (.int .i64 0)
 have HF0:Hid (Fr NoB w (w.alloc (.cells #[.int .i64 0,.string ⟨#[]⟩,.int .i64 0,.int .i64 0] 71))):=(Fr.refl _ _).alloc _
 clear hf
 go_enter func57,ntmps57
 go_upto_region 1 with fail
 generalize (w.alloc _) = W0 at *
 obtain ⟨A,hA1,hA2,hB⟩:=HB.out W0
 have HB0:Hid _:=hB
 clear hB HB
 go_upto_region 2 with (go_at_call 78;refine Calls.mono HB0.out ?_;rintro e w1 ⟨rfl,hF1⟩;have HRm:Hid _:=Room.new w1 zeroCells143 143 87 (by rw [zMac_is,zMac_size];omega);have hst:=room_store HRm.out hA1 hA2)
 have hF2:Fr NoB W0 ((w1.alloc (.cells zeroCells143 143)).setCells w1.heap.size 0 A.toList):=Fr.setCells (fun q=>by have:=hF1.size;omega) _ _ (hF1.alloc _)
 generalize ((w1.alloc (.cells zeroCells143 143)).setCells w1.heap.size 0 A.toList) = W2 at *
 have HO1:Hid _:=HO.out.fr hF2 id
 obtain ⟨c0,c1,c2,c3,hf⟩:=HO1.out
 have f0:=hf 0
 have f1:=hf 1
 have f2:=hf 2
 have f3:=hf 3
 clear hf hst
 go_wp2
 obtain ⟨k0,k1,k2,k3,kf⟩:=HO1.out.put (u0:=.int .i64 0) (u1:=.string ⟨#[]⟩) (u2:=.int .i64 0) (u3:=.int .i64 0)
 exact bodyPost_ret (v:=.tuple #[out0,.int .i64 5]) (by simp [results,results57,go_sem,k0,k1,k2,k3,out0]) rfl ⟨rfl,(HF0.out.trans hF2).put4 (fun q=>absurd q (by omega)) _ _ _ _⟩
set_option maxRecDepth 100000 in
theorem rexec_ok (w:World) (ao:Option Addr) (np cap nw k m:Nat) (p:Nat → Pt) (C:Nat → Nat) (σf:St) (hw1:1 ≤ nw) (hw2:nw ≤ 4096) (hk:k ≤ 5000) (hrow:PartRow w ao np p C) (hg:∀ g,ao = some ⟨g,0,none⟩ → g < w.heap.size) (hfl:FlatOk p np) (hC:∀ i,i < np → C i < 99999) (hnp:np < 100000)
  (hsg:∀ i,i < np → (p i).kind = 0 → (p i).sign = 0 ∨ sgOk (p i).sign) (hR:RunsIn (cE true nw) p C np m (0,st0 k,false) σf) (htab:∀ W,Fr NoB w W → TabOk W) :
  CR 57 #[.slice ao np cap,.int .i64 nw,.int .i64 k] w (.tuple #[outE σf,.int .i64 0]):=by
 have HB:Hid (∀ W,Calls prog 78 #[.slice ao np cap,.int .i64 nw,.int .i64 k] W fun e w'=>∃ r A,e = .returned (.tuple #[.agg A,.int .i64 0]) ∧ Hid (A = mac0 (.slice ao np cap) (.slice (some ⟨r,0,none⟩) nw nw) k ∧ Fr NoB W w' ∧
   W.heap.size ≤ r ∧ r < w'.heap.size ∧ (∀ j,j < nw * 2 → w'.cell? ⟨r,j,none⟩ = some (.int .i64 0)) ∧ (∀ o,w'.frozen? ⟨r,o,none⟩ = false))):=fun W=>(begin_ok W ao np cap nw k hw1 hw2 hk).mono fun e w' ⟨r,h1,h2⟩=>⟨r,_,h1,⟨rfl,h2⟩⟩
 have HO:Hid _:=OutAt.new w 71 (.int .i64 0) (.string ⟨#[]⟩) (.int .i64 0) (.int .i64 0)
 have HF0:Hid (Fr NoB w (w.alloc (.cells #[.int .i64 0,.string ⟨#[]⟩,.int .i64 0,.int .i64 0] 71))):=(Fr.refl _ _).alloc _
 have hl0:(w.alloc (.cells #[.int .i64 0,.string ⟨#[]⟩,.int .i64 0,.int .i64 0] 71)).heap.size = w.heap.size + 1:=by simp
 have HRf:Hid _:=And.intro hrow (And.intro hg (And.intro hfl (And.intro hC (And.intro hsg (And.intro hR htab)))))
 have Hby:Hid _:=ri_byte hR (fun y hy=>by simp [st0] at hy)
 have HL0:Hid _:=hl0
 clear hrow hg hfl hC hsg hR htab hl0
 go_enter func57,ntmps57
 go_upto_region 1 with fail
 generalize (w.alloc _) = W0 at *
 go_upto_region 2 with (go_at_call 78;refine (HB.out _).mono ?_;rintro e w1 ⟨r,A,rfl,HX⟩;have HRm:Hid _:=Room.new w1 zeroCells143 143 87 (by rw [zMac_is,zMac_size];omega);have hA1:A.size = 87:=(by rw [HX.out.1];exact mac0_size _ _ _);have hst:=room_store HRm.out (A:=A) hA1 (by rw [HX.out.1];exact mac0_one rfl rfl))
 obtain ⟨hA,hF1,hr1,hr2,hr3,hr4⟩:=HX.out
 have hl1:W0.heap.size ≤ w1.heap.size:=hF1.size
 have hFa:Fr NoB w1 (w1.alloc (.cells zeroCells143 143)):=(Fr.refl _ _).alloc _
 have hM:=mm_new (ao:=ao) (np:=np) (cap:=cap) (n:=nw) (k:=k) (base:=W0.heap.size) (r:=r) HRm.out hl1 hr1 (by omega) (by omega) (by omega) hk (Nat.lt_of_lt_of_le hr2 hFa.size) (fun j hj=>hFa.cell_some (hr3 j hj) id) (fun o=>(hFa.frozen (p:=⟨r,o,none⟩) hr2 id).trans (hr4 o))
 rw [← hA] at hM
 have hF2:Fr NoB W0 ((w1.alloc (.cells zeroCells143 143)).setCells w1.heap.size 0 A.toList):=Fr.setCells (fun q=>by omega) _ _ (hF1.trans hFa)
 have HM:Hid _:=hM
 clear hM hA hr1 hr2 hr3 hr4 hFa hst HX HRm HB
 generalize ((w1.alloc (.cells zeroCells143 143)).setCells w1.heap.size 0 A.toList) = W2 at *
 generalize w1.heap.size = mp at *
 have cst:=HM.out.m.cs
 have fst:=HM.out.m.fz 2
 go_upto_region 5 with fail
 have HM2:Hid _:=HM.out.strict true
 have hF2b:Fr NoB W0 (W2.setCell ⟨mp,2,none⟩ (.bool true)):=hF2.setCell (p:=⟨mp,2,none⟩) (fun (q:mp < W0.heap.size)=>by omega) _
 clear HM hF2 cst fst
 generalize W2.setCell ⟨mp,2,none⟩ (.bool true) = W3 at *
 have HF2:Hid _:=HF0.out.trans hF2b
 have HO2:Hid _:=HO.out.fr hF2b id
 have HRn:Hid (Calls prog 79 #[.pointer (some ⟨mp,0,none⟩)] W3 fun e w'=>e = .returned (.tuple #[]) ∧ RunE mp r nw W0.heap.size (.slice ao np cap) true σf W3 w'):=by
  obtain ⟨q1,q2,q3,q4,q5,q6,q8⟩:=HRf.out
  exact run_fn W3 mp r nw W0.heap.size np cap ao p C true _ _ _ (st0 k) σf m HM2.out (q1.no HF2.out) (fun g e=>by have:=q2 g e;have:=HL0.out;omega) q3 q4 hnp q5 q6 (by simp [st0]) (fun q=>by cases q) (fun W hW=>q8 W (HF2.out.then hW (fun j hj q=>by unfold FrM at q;have:=HL0.out;omega)))
 clear hF1 hF2b
 go_upto_region 6 with (go_at_call 79;refine Calls.mono HRn.out ?_;rintro e w3 ⟨rfl,hE⟩;have HE:Hid _:=hE;clear hE)
 obtain ⟨⟨nx,ov,B,V,tv,hM3⟩,hF3⟩:=HE.out
 have cu:=hM3.m.cu
 have ct:=hM3.m.ct
 have ck:=hM3.m.ck
 unfold mxOf at cu ct ck
 simp only [] at cu ct ck
 have hob:w.heap.size < W0.heap.size:=by have:=HL0.out;omega
 have hom:w.heap.size < mp:=Nat.lt_of_lt_of_le hob hM3.mb
 have HUs:Hid (∀ W,Fr NoB w3 W → CS 84 #[.pointer (some ⟨mp,30,none⟩)] W (.int .i64 (usedN σf 26:Int))):=fun W hW=>bused_fn W mp r nw W0.heap.size nx _ tv true ov σf B V (hM3.no hW)
 have HK:Hid (∀ W,Fr (OneB w.heap.size) w3 W → W.cell? ⟨mp,86,none⟩ = some (.int .i64 σf.status) ∧ W.cell? ⟨mp,84,none⟩ = some tv ∧ W.cell? ⟨mp,83,none⟩ = some (.int .i64 σf.peak) ∧ (convert 128 9 tv).run prog W = .ok (.string (trB σf.tr)) W):=fun W hW=>by
  have hnm:¬ OneB w.heap.size mp:=fun e=>by unfold OneB at e;omega
  refine ⟨hW.cell_some cu hnm,hW.cell_some ct hnm,hW.cell_some ck hnm,conv_tr (hW.owns hM3.tr (fun g hg e=>?_)) Hby.out⟩
  unfold OneB at e
  rcases hM3.tr.2 with ⟨rfl,h0⟩ | ⟨g',cap',cur,rfl,hg',_⟩
  ·simp [Value.ownBlock] at hg
  ·simp [Value.ownBlock] at hg
   omega
 have HO3:Hid _:=HO2.out.fr hF3 (fun q=>by unfold FrM at q;omega)
 have HF4:Hid (Fr NoB w w3):=HF2.out.then hF3 (fun j hj q=>by unfold FrM at q;have:=HL0.out;omega)
 obtain ⟨c0,c1,c2,c3,hf⟩:=HO3.out
 have f0:=hf 0
 have f1:=hf 1
 have f2:=hf 2
 have f3:=hf 3
 clear hf hF3 hM3 cu ct ck
 generalize hTR:trB σf.tr = TR at *
 generalize hUU:usedN σf 26 = U at *
 have HTR:Hid _:=hTR
 have HUU:Hid _:=hUU
 clear hTR hUU
 have HP4:Hid (∀ u0 u1 u2 u3:Value,Fr (OneB w.heap.size) w3 ((((w3.setCell ⟨w.heap.size,0,none⟩ u0).setCell ⟨w.heap.size,1,none⟩ u1).setCell ⟨w.heap.size,2,none⟩ u2).setCell ⟨w.heap.size,3,none⟩ u3)):=fun u0 u1 u2 u3=>Fr.put4 (S:=OneB w.heap.size) (Fr.refl _ _) (fun _=>rfl) u0 u1 u2 u3
 go_region_held3 (fun W=>W.cell? ⟨mp,86,none⟩ = some (.int .i64 σf.status) ∧ W.cell? ⟨mp,84,none⟩ = some tv ∧ W.cell? ⟨mp,83,none⟩ = some (.int .i64 σf.peak) ∧ (convert 128 9 tv).run prog W = .ok (.string TR) W) (exact HK.out _ (by repeat (first | exact Fr.refl _ _ | refine Fr.drew ?_ | exact HP4.out _ _ _ _))) ((go_at_call 84;refine (HUs.out _ ((Fr.refl _ _).drew)).mono ?_;rintro e w5 ⟨rfl,hw⟩;have hw2:=hw.symm;clear hw;subst hw2))
 all_goals
  obtain ⟨k0,k1,k2,k3,kf⟩:=HO3.out.put (u0:=.int .i64 σf.status) (u1:=.string TR) (u2:=.int .i64 U) (u3:=.int .i64 σf.peak)
  go_wp2
  exact bodyPost_ret (v:=.tuple #[outE σf,.int .i64 0]) (by simp [results,results57,go_sem,k0,k1,k2,k3,outE,HTR.out,HUU.out]) rfl ⟨rfl,(HF4.out.put4 (fun q=>absurd q (by omega)) _ _ _ _).drew⟩
end
theorem partIsE (s:ByteArray):PartIs s:=fun w kp base r pv ov h hz hb hJ hlt=>part_fn w kp base s r pv ov h hz hb hJ hlt
theorem told_big {s:ByteArray} (h9:s.size ≤ 20000) (n:Nat) (h2:(rIter s n r0).z.2 = 0) (hl:¬ (rIter s n r0).z.1 < s.size) (hO:(rIter s n r0).O = []):Told s (pOf (rIter s n r0).P) (cloL (rIter s n r0).P) (rIter s n r0).P.length:=by
 have h9:s.size ≤ 90000:=by omega
 have hseg:=seg_told h9 n h2 hl hO
 have hJ:=rj_iter h9 n (rj0 s)
 have hU:=ru_iter h9 n ru0 (rj0 s)
 have hn:(rIter s n r0).P.length < 99999:=by have:=hJ.pl;have h5:(rIter s n r0).z.1 ≤ s.size:=hJ.hin;omega
 refine ⟨prt_of_seg (fun q _ hq hc=>clo_at _ _ rfl q hq hc (fun q' hq' hc' e=>hU.uq q' q hq' hq hc' hc e)) hseg,hJ.fl,fun q hq hk=>seg_fit hseg q (Nat.zero_le _) hq hk,fun i=>?_,hn⟩
 have:=clo_le _ (rIter s n r0).P rfl i
 omega
theorem read_bad (w:World) (s:ByteArray) (hs:s.size ≤ 20000) (hc:(run s [(83,true)] 0 0).1 ≠ 0) :
  CR 49 #[.string s] w (.tuple #[.slice none 0 0,.int .i64 ((run s [(83,true)] 0 0).1:Int),.int .i64 ((run s [(83,true)] 0 0).2:Int)]):=by
 refine (read_fn w s (by omega) (partIsE s)).mono ?_
 rintro e w1 ⟨n,hst,hF1,hor⟩
 have hrun:=run_told (by omega) n hst
 rcases hor with ⟨hne,rfl⟩ | ⟨ht,hz,hO,ao,cap,rfl,hrow,hgl⟩
 ·rw [hrun]
  exact ⟨rfl,hF1⟩
 ·rw [hrun,ht] at hc
  exact absurd rfl hc
theorem read_right (w:World) (s:ByteArray) (hs:s.size ≤ 20000) (hc:run s [(83,true)] 0 0 = (0,0)) :
  Calls prog 49 #[.string s] w fun e w'=>∃ ao np cap,e = .returned (.tuple #[.slice ao np cap,.int .i64 0,.int .i64 0]) ∧ Hid (Fr NoB w w' ∧ ∃ p C,Told s p C np ∧ PartRow w' ao np p C ∧ ∀ g,ao = some ⟨g,0,none⟩ → g < w'.heap.size):=by
 refine (read_fn w s (by omega) (partIsE s)).mono ?_
 rintro e w1 ⟨n,hst,hF1,hor⟩
 have hrun:=run_told (by omega) n hst
 rcases hor with ⟨hne,rfl⟩ | ⟨ht,hz,hO,ao,cap,rfl,hrow,hgl⟩
 ·rw [← hrun,hc] at hne
  exact absurd rfl hne
 ·have hl:¬ (rIter s n r0).z.1 < s.size:=by
   rcases hst with q | q
   ·exact absurd hz q
   ·exact q
  exact ⟨ao,_,cap,rfl,⟨hF1,_,_,told_big hs n hz hl hO,hrow,hgl⟩⟩
theorem dexec_long (w:World) (s:ByteArray) (nw n:Int) (hs:20000 < s.size) (hs2:s.size ≤ 9223372036854775807) :
  CR 35 #[.string s,.int .i64 nw,.int .i64 n] w (.tuple #[out0,.int .i64 1]):=by
 have HO:Hid _:=OutAt.new w 71 (.int .i64 0) (.string ⟨#[]⟩) (.int .i64 0) (.int .i64 0)
 have HF0:Hid (Fr NoB w (w.alloc (.cells #[.int .i64 0,.string ⟨#[]⟩,.int .i64 0,.int .i64 0] 71))):=(Fr.refl _ _).alloc _
 go_enter func35,ntmps35
 go_upto_region 1 with fail
 generalize (w.alloc _) = W0 at *
 obtain ⟨c0,c1,c2,c3,hf⟩:=HO.out
 have f0:=hf 0
 have f1:=hf 1
 have f2:=hf 2
 have f3:=hf 3
 clear hf
 go_wp2
 obtain ⟨k0,k1,k2,k3,kf⟩:=HO.out.put (u0:=.int .i64 0) (u1:=.string ⟨#[]⟩) (u2:=.int .i64 0) (u3:=.int .i64 0)
 exact bodyPost_ret (v:=.tuple #[out0,.int .i64 1]) (by simp [results,results35,go_sem,k0,k1,k2,k3,out0]) rfl ⟨rfl,HF0.out.put4 (fun q=>absurd q (by omega)) _ _ _ _⟩
theorem dexec_bad (w:World) (s:ByteArray) (nw n:Int) (hs:s.size ≤ 20000) (hc:(run s [(83,true)] 0 0).1 ≠ 0) :
  CR 35 #[.string s,.int .i64 nw,.int .i64 n] w (.tuple #[out0,.int .i64 ((run s [(83,true)] 0 0).1:Int)]):=by
 have HC:Hid _:=fun X=>read_bad X s hs hc
 have b1:(((run s [(83,true)] 0 0).1:Int) != 0) = true:=bne_iff_ne.2 (by omega)
 generalize (run s [(83,true)] 0 0).1 = k at *
 generalize (run s [(83,true)] 0 0).2 = p at *
 clear hc
 have HO:Hid _:=OutAt.new w 71 (.int .i64 0) (.string ⟨#[]⟩) (.int .i64 0) (.int .i64 0)
 have HF0:Hid (Fr NoB w (w.alloc (.cells #[.int .i64 0,.string ⟨#[]⟩,.int .i64 0,.int .i64 0] 71))):=(Fr.refl _ _).alloc _
 go_enter func35,ntmps35
 go_upto_region 1 with fail
 generalize (w.alloc _) = W0 at *
 go_wp2_with (go_at_call 49;refine (HC.out _).mono ?_;rintro e w1 ⟨rfl,hF1⟩;have HO1:Hid _:=HO.out.fr hF1 id;obtain ⟨c0,c1,c2,c3,hf⟩:=HO1.out;have f0:=hf 0;have f1:=hf 1;have f2:=hf 2;have f3:=hf 3;clear hf)
 obtain ⟨k0,k1,k2,k3,kf⟩:=HO1.out.put (u0:=.int .i64 0) (u1:=.string ⟨#[]⟩) (u2:=.int .i64 0) (u3:=.int .i64 0)
 exact bodyPost_ret (v:=.tuple #[out0,.int .i64 k]) (by simp [results,results35,go_sem,k0,k1,k2,k3,out0]) rfl ⟨rfl,(HF0.out.trans hF1).put4 (fun q=>absurd q (by omega)) _ _ _ _⟩
theorem dexec_any (w:World) (s:ByteArray) (nw n:Int) (v:Value) (ev:Int) (hs:s.size ≤ 20000) (hc:run s [(83,true)] 0 0 = (0,0))
  (HP:∀ (W:World) (ao:Option Addr) (np cap:Nat) (p:Nat → Pt) (C:Nat → Nat),Fr NoB w W → Told s p C np → PartRow W ao np p C → (∀ g,ao = some ⟨g,0,none⟩ → g < W.heap.size) → CR 57 #[.slice ao np cap,.int .i64 nw,.int .i64 n] W (.tuple #[v,.int .i64 ev]))
  (hv:∃ a b c d,v = .agg #[.int .i64 a,.string b,.int .i64 c,.int .i64 d]) :
  CR 35 #[.string s,.int .i64 nw,.int .i64 n] w (.tuple #[v,.int .i64 ev]):=by
 have HRd:Hid (∀ X,_):=fun X=>read_right X s hs hc
 have HPl:Hid _:=HP
 have HO:Hid _:=OutAt.new w 71 (.int .i64 0) (.string ⟨#[]⟩) (.int .i64 0) (.int .i64 0)
 have HF0:Hid (Fr NoB w (w.alloc (.cells #[.int .i64 0,.string ⟨#[]⟩,.int .i64 0,.int .i64 0] 71))):=(Fr.refl _ _).alloc _
 obtain ⟨a,b,c,d,rfl⟩:=hv
 clear hc HP
 go_enter func35,ntmps35
 go_upto_region 1 with fail
 generalize (w.alloc _) = W0 at *
 go_upto_region 6 with (first | (go_at_call 49;refine (HRd.out _).mono ?_;rintro e w2 ⟨ao,np,cap,rfl,HX⟩))
 obtain ⟨hF2,p,C,hT,hrow,hgl⟩:=HX.out
 have HPw:Hid _:=HPl.out w2 ao np cap p C (HF0.out.trans hF2) hT hrow hgl
 have HO2:Hid _:=HO.out.fr hF2 id
 have HF2:Hid (Fr NoB w w2):=HF0.out.trans hF2
 clear HX hT hrow hgl HPl hF2
 go_wp2_with (go_at_call 57;refine Calls.mono HPw.out ?_;rintro e w3 ⟨rfl,hF3⟩;have HO3:Hid _:=HO2.out.fr hF3 id;obtain ⟨c0,c1,c2,c3,hf⟩:=HO3.out;have f0:=hf 0;have f1:=hf 1;have f2:=hf 2;have f3:=hf 3;clear hf)
 obtain ⟨k0,k1,k2,k3,kf⟩:=HO3.out.put (u0:=.int .i64 a) (u1:=.string b) (u2:=.int .i64 c) (u3:=.int .i64 d)
 exact bodyPost_ret (v:=.tuple #[.agg #[.int .i64 a,.string b,.int .i64 c,.int .i64 d],.int .i64 ev]) (by simp [results,results35,go_sem,k0,k1,k2,k3]) rfl ⟨rfl,(HF2.out.trans hF3).put4 (fun q=>absurd q (by omega)) _ _ _ _⟩
theorem alikeE_fn (w:World) (a c d:Int) (b:ByteArray):CR 34 #[.agg #[.int .i64 a,.string b,.int .i64 c,.int .i64 d],.agg #[.int .i64 a,.string b,.int .i64 c,.int .i64 d]] w (.bool true):=by
 go_enter func34,ntmps34
 go_wp2
 go_ret
 exact ⟨by simp,by repeat (first | exact Fr.refl _ _ | refine Fr.drewN ?_ _ | refine Fr.drew ?_ | refine Fr.alloc ?_ _)⟩
theorem execs_walk (w:World) (s:ByteArray) (nw n a c d ev:Int) (b:ByteArray)
  (H1:∀ W,Fr NoB w W → CR 35 #[.string s,.int .i64 nw,.int .i64 n] W (.tuple #[.agg #[.int .i64 a,.string b,.int .i64 c,.int .i64 d],.int .i64 ev]))
  (H2:∀ W,Fr NoB w W → CR 36 #[.string s,.int .i64 nw,.int .i64 n] W (.tuple #[.agg #[.int .i64 a,.string b,.int .i64 c,.int .i64 d],.int .i64 ev])) :
  CR 13 #[.string s,.int .i64 nw,.int .i64 n] w (.bool true):=by
 have HA:Hid _:=H1
 have HB:Hid _:=H2
 have HK:Hid (∀ W,_):=fun W=>alikeE_fn W a c d b
 clear H1 H2
 go_enter func13,ntmps13
 go_upto_region 2 with (go_at_call 35;refine (HA.out _ (Fr.refl _ _)).mono ?_;rintro e w1 ⟨rfl,hF1⟩)
 have hO:=OutAt.new w1 71 (.int .i64 a) (.string b) (.int .i64 c) (.int .i64 d)
 have HO:Hid _:=hO
 have hFa:Fr NoB w (w1.alloc (.cells #[.int .i64 a,.string b,.int .i64 c,.int .i64 d] 71)):=hF1.alloc _
 clear hO hF1
 generalize (w1.alloc _) = W1 at *
 generalize w1.heap.size = o1 at *
 go_upto_region 3 with (go_at_call 36;refine (HB.out _ hFa).mono ?_;rintro e w2 ⟨rfl,hF2⟩)
 have hO2:=OutAt.new w2 71 (.int .i64 a) (.string b) (.int .i64 c) (.int .i64 d)
 have HO2:Hid _:=hO2
 have hFb:Fr NoB w2 (w2.alloc (.cells #[.int .i64 a,.string b,.int .i64 c,.int .i64 d] 71)):=(Fr.refl _ _).alloc _
 have HO1:Hid _:=(HO.out.fr hF2 id).fr hFb id
 have hFc:=(hFa.trans hF2).trans hFb
 clear hO2 hF2 hFa hFb
 generalize (w2.alloc _) = W2 at *
 generalize w2.heap.size = o2 at *
 obtain ⟨c0,c1,c2,c3,_⟩:=HO1.out
 obtain ⟨d0,d1,d2,d3,_⟩:=HO2.out
 go_wp2_with (go_at_call 34;refine (HK.out _).mono ?_;rintro e w3 ⟨rfl,hF3⟩)
 go_ret
 exact ⟨by simp,hFc.trans hF3⟩
theorem execs_any (w:World) (s:ByteArray) (nw n:Int) (hs:s.size ≤ 9223372036854775807) (htab:∀ W,Fr NoB w W → TabOk W) :
  CR 13 #[.string s,.int .i64 nw,.int .i64 n] w (.bool true):=by
 by_cases hl:20000 < s.size
 ·exact execs_walk w s nw n 0 0 0 _ ⟨#[]⟩ (fun W _=>dexec_long W s nw n hl hs) (fun W _=>refExec_long W s nw n hl hs)
 ·have h2:s.size ≤ 20000:=by omega
  by_cases hc:(run s [(83,true)] 0 0).1 ≠ 0
  ·exact execs_walk w s nw n 0 0 0 _ ⟨#[]⟩ (fun W _=>dexec_bad W s nw n h2 hc) (fun W _=>refExec_bad W s nw n h2 hc)
  ·have hc0:run s [(83,true)] 0 0 = (0,0):=run_zero (by omega)
   by_cases hw:nw < 1 ∨ 4096 < nw
   ·exact execs_walk w s nw n 0 0 0 5 ⟨#[]⟩ (fun W hW=>dexec_any W s nw n out0 5 h2 hc0 (fun W2 ao np cap p C _ _ _ _=>rexec_arg W2 ao np cap nw n (.inl hw)) ⟨_,_,_,_,rfl⟩) (fun W _=>refExec_words W s nw n h2 hc0 hw)
   ·obtain ⟨m,rfl⟩:∃ k:Nat,nw = (k:Int):=⟨nw.toNat,by omega⟩
    have hm1:1 ≤ m:=by omega
    have hm2:m ≤ 4096:=by omega
    by_cases hn:n < 0 ∨ 5000 < n
    ·exact execs_walk w s m n 0 0 0 5 ⟨#[]⟩ (fun W hW=>dexec_any W s m n out0 5 h2 hc0 (fun W2 ao np cap p C _ _ _ _=>rexec_arg W2 ao np cap m n (.inr hn)) ⟨_,_,_,_,rfl⟩) (fun W _=>refExec_fuel W s m n h2 hc0 hm1 hm2 hn)
    ·obtain ⟨k,rfl⟩:∃ k:Nat,n = (k:Int):=⟨n.toNat,by omega⟩
     have hk:k ≤ 5000:=by omega
     obtain ⟨σ,b,hE⟩:=Ex.total (cE true m) k (pgN s (s.size + 1) 0 s.size) (st0 k) (Nat.le_refl _)
     refine execs_walk w s m k _ _ _ 0 _ (fun W hW=>dexec_any W s m k (outE σ) 0 h2 hc0 (fun W2 ao np cap p C hW2 hT hrow hgl=>?_) ⟨_,_,_,_,rfl⟩) (fun W _=>refExec_ok W s m k h2 hc0 hm1 hm2 hk σ ⟨b,hE⟩)
     obtain ⟨j,hR⟩:=hE.runs_all hT.prt
     exact rexec_ok W2 ao np cap m k j p C σ hm1 hm2 hk hrow hgl hT.fl (fun i _=>hT.cl i) (by have:=hT.nl;omega) hT.sg hR (fun W3 hW3=>htab W3 ((hW.trans hW2).trans hW3))
end Go.Proofs.YthcjcjfgdgnljabGreatDoor
