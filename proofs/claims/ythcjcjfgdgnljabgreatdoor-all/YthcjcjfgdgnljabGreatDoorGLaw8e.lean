import Derived.Test.YthcjcjfgdgnljabGreatDoorGLaw7
import Derived.Deep.RegionHeld3
set_option linter.unusedVariables false
set_option maxHeartbeats 4000000
set_option maxRecDepth 8000
open Go.Proofs.Tryz
namespace Go.Proofs.YthcjcjfgdgnljabGreatDoor
open Go.RowKit
theorem WSt.okH {w0 w w':World} {wp:Nat} {own:Nat → Nat} {bd:Nat} {hv lv:Value} {hs:List HEnt} {ls:List LEnt} (h:WSt w0 w wp own bd hv lv hs ls) (hf:Fr NoB w w') (hpos:0 < hs.length):WOkH w0 w' wp (bd + 1) :=
 ⟨own,hv,lv,hs,ls,(h.no hf).mono (by omega),hpos⟩
theorem turn {w0 w w1 w2 w3:World} {wp:Nat} {own:Nat → Nat} {bd:Nat} {hv lv:Value} {hs:List HEnt} {ls:List LEnt} (h:WSt w0 w wp own bd hv lv hs ls) {j:Nat} {x:HEnt} (hj:hs[j]? = some x) (hF:Fr NoB w w1)
  {B V I H:Nat → Int} {md:Int} (hH:HeapAt w2 x.p x.r x.n B V) (hF1:Fr (OneB x.r) w1 w2) (hR:RefAt w3 x.q x.ri x.rh x.n I H md) (hF2:Fr (RefS x.q x.ri x.rh) w2 w3) (hrel:Rel x.n B V I H md) (hmd:md ≤ bd + 1):WOkH w0 w3 wp (bd + 1):=by
 have hx:=h.hok j x hj
 have hjl:j < hs.length:=(List.getElem?_eq_some_iff.1 hj).1
 have hp:¬ RefS x.q x.ri x.rh x.p:=fun e=>by
  have q1:=hx.op;have q2:=hx.oq;have q3:=hx.oi;have q4:=hx.oh
  rcases e with e | e | e <;> (rw [e] at q1;omega)
 have hr:¬ RefS x.q x.ri x.rh x.r:=fun e=>by
  have q1:=hx.or_;have q2:=hx.oq;have q3:=hx.oi;have q4:=hx.oh
  rcases e with e | e | e <;> (rw [e] at q1;omega)
 have hW1:=(h.no hF).mono (show bd ≤ bd + 1 by omega)
 have hrs:∀ k,RefS x.q x.ri x.rh k → own k = 5 + 3 * j:=fun k e=>by
  rcases e with e | e | e
  ·rw [e];exact hx.oq
  ·rw [e];exact hx.oi
  ·rw [e];exact hx.oh
 have hfr:Fr (fun k=>own k = 4 + 3 * j ∨ own k = 5 + 3 * j) w1 w3 :=
  (hF1.mono (T:=fun k=>own k = 4 + 3 * j ∨ own k = 5 + 3 * j) (fun k _ e=>.inl (by have e':k = x.r:=e;rw [e'];exact hx.or_))).trans
   (hF2.mono (T:=fun k=>own k = 4 + 3 * j ∨ own k = 5 + 3 * j) (fun k _ e=>.inr (hrs k e)))
 obtain ⟨hs',hW,hl⟩:=hW1.heapTurn (e':=⟨x.p,x.r,x.q,x.ri,x.rh,x.n,B,V,I,H,md⟩) hj hfr ⟨hH.fr hF2 hp hr,hR,hrel,by show md ≤ ((bd + 1:Nat):Int);omega,hx.op,hx.or_,hx.oq,hx.oi,hx.oh⟩ rfl rfl
 exact ⟨own,hv,lv,hs',ls,hW,by omega⟩
set_option maxRecDepth 20000 in
theorem lheap2 (w0 w:World) (wp:Nat) (own:Nat → Nat) (bd:Nat) (hv lv:Value) (hs:List HEnt) (ls:List LEnt) (hI a b:Int) (s:ByteArray) (h:WSt w0 w wp own bd hv lv hs ls) (hpos:0 < hs.length) (hbd:bd ≤ 2932031007402) (h1:-9223372036854775808 ≤ hI) (h2:hI ≤ 9223372036854775807) :
  Calls prog 10 #[.pointer (some ⟨wp,0,none⟩),.agg #[.int .i64 2,.int .i64 hI,.int .i64 a,.int .i64 b,.string s]] w fun e w'=>e = .returned (.bool true) ∧ WOkH w0 w' wp (bd + 1):=by
 have hhl:=h.hl
 have c0:=h.c0
 obtain ⟨ao,cap,rfl,hrow⟩:=hrow_of h.hrow
 obtain ⟨g,rfl⟩:=hrow.some_ hpos
 obtain ⟨j,hj⟩:∃ j,j = pickZ hI hs.length:=⟨_,rfl⟩
 have hjl:j < hs.length:=by rw [hj];exact pickZ_lt _ (by omega)
 have hlz:((hs.length:Int) == 0) = false:=bF (by omega)
 have b0:=hrow.c0 g j hjl rfl
 have b1:=hrow.c1 g j hjl rfl
 obtain ⟨x,hx⟩:∃ x,x = hs[j]:=⟨_,rfl⟩
 rw [← hx] at b0 b1
 have Hx:Hid (hs[j]? = some x):=by show hs[j]? = some x;rw [hx];exact List.getElem?_eq_getElem hjl
 have HK:Hid (∀ W:World,CS 20 #[.int .i64 hI,.int .i64 hs.length] W (.int .i64 j)):=fun W=>by
  rw [hj];exact lpick_fn W hI hs.length (by omega) (by omega) h1 h2
 clear hx hj hrow
 have hwl:=h.wl
 have hgl:g < w.heap.size:=World.block_lt_of_cell? _ _ b0
 go_enter func10,ntmps10
 go_upto_region 8 with fail
 go_cut [5] (fun t wx=>t = .pointer (some ⟨w.heap.size + 1,0,none⟩) ∧ Fr NoB w wx ∧ wx.cell? ⟨w.heap.size + 1,0,none⟩ = some (.pointer (some ⟨x.p,0,none⟩)) ∧ wx.cell? ⟨w.heap.size + 1,1,none⟩ = some (.pointer (some ⟨x.q,0,none⟩)) ∧ wx.cell? ⟨w.heap.size,0,none⟩ = some (.int .i64 2) ∧ wx.cell? ⟨w.heap.size,2,none⟩ = some (.int .i64 a) ∧ wx.cell? ⟨w.heap.size,3,none⟩ = some (.int .i64 b))
 case first =>
  go_region_held3 (fun W=>W.cell? ⟨wp,0,none⟩ = some (Value.slice (some ⟨g,0,none⟩) hs.length cap) ∧ W.cell? ⟨w.heap.size,1,none⟩ = some (Value.int .i64 hI) ∧ W.cell? ⟨g,j * 2,none⟩ = some (.pointer (some ⟨x.p,0,none⟩)) ∧ W.cell? ⟨g,j * 2 + 1,none⟩ = some (.pointer (some ⟨x.q,0,none⟩))) (go_keep) ((go_at_call 20;refine (HK.out _).mono ?_;rintro e w' ⟨rfl,rfl⟩))
  all_goals
   go_wp2_with fail
   go_meet
   case rel=>exact ⟨rfl,by repeat (first | exact Fr.refl _ _ | refine Fr.drew ?_ | refine Fr.alloc ?_ _),by simp,by simp,by simp,by simp,by simp⟩
 case rest =>
  obtain ⟨rfl,hF,e0,e1,o0,o2,o3⟩:=hcut
  have hxo:=h.hok j x Hx.out
  have hH:=hxo.heap.no hF
  have hR:=hxo.ref.no hF
  have hrel:=hxo.rel
  have hmd:=hxo.md
  have hmd0:=hrel.md0
  clear b0 b1 c0 hxo
  have hol:w.heap.size + 1 < wc.heap.size:=World.block_lt_of_cell? _ _ e0
  have HH:Hid (WSt w0 w wp own bd _ lv hs ls):=h
  clear h
  have hkr:∀ (W:World),Fr (OneB x.r) wc W → ∀ o v,wc.cell? ⟨w.heap.size + 1,o,none⟩ = some v → W.cell? ⟨w.heap.size + 1,o,none⟩ = some v:=fun W hf o v hc =>
   hf.cell_some hc (fun e=>by have e':w.heap.size + 1 = x.r:=e;have:=(HH.out.hok j x Hx.out).heap.rl;omega)
  have hkr2:∀ (W:World),Fr (OneB x.r) wc W → ∀ o v,wc.cell? ⟨w.heap.size,o,none⟩ = some v → W.cell? ⟨w.heap.size,o,none⟩ = some v:=fun W hf o v hc =>
   hf.cell_some hc (fun e=>by have e':w.heap.size = x.r:=e;have:=(HH.out.hok j x Hx.out).heap.rl;omega)
  have HKR:Hid ((∀ (W:World),Fr (OneB x.r) wc W → ∀ o v,wc.cell? ⟨w.heap.size + 1,o,none⟩ = some v → W.cell? ⟨w.heap.size + 1,o,none⟩ = some v) ∧ (∀ (W:World),Fr (OneB x.r) wc W → ∀ o v,wc.cell? ⟨w.heap.size,o,none⟩ = some v → W.cell? ⟨w.heap.size,o,none⟩ = some v)):=⟨hkr,hkr2⟩
  clear hkr hkr2
  have hnr:∀ (W:World),Fr (OneB x.r) wc W → RefAt W x.q x.ri x.rh x.n x.I x.H x.md:=fun W hf=>hR.fr hf
   (fun e=>by have e':x.q = x.r:=e;have q:=(HH.out.hok j x Hx.out);have q1:=q.or_;have q2:=q.oq;rw [e'] at q2;omega)
   (fun e=>by have e':x.ri = x.r:=e;have q:=(HH.out.hok j x Hx.out);have q1:=q.or_;have q2:=q.oi;rw [e'] at q2;omega)
   (fun e=>by have e':x.rh = x.r:=e;have q:=(HH.out.hok j x Hx.out);have q1:=q.or_;have q2:=q.oh;rw [e'] at q2;omega)
  have HNR:Hid (∀ (W:World),Fr (OneB x.r) wc W → RefAt W x.q x.ri x.rh x.n x.I x.H x.md):=hnr
  clear hnr
  have HT:=show Hid (∀ (w2 w3:World) (B V I H:Nat → Int) (md:Int),HeapAt w2 x.p x.r x.n B V → Fr (OneB x.r) wc w2 → RefAt w3 x.q x.ri x.rh x.n I H md → Fr (RefS x.q x.ri x.rh) w2 w3 → Rel x.n B V I H md → md ≤ bd + 1 → WOkH w0 w3 wp (bd + 1)) from
   fun w2 w3 B V I H md q1 q2 q3 q4 q5 q6=>turn HH.out Hx.out hF q1 q2 q3 q4 q5 q6
  have HT2:=show Hid (∀ W:World,Fr NoB wc W → WOkH w0 W wp (bd + 1)) from fun W hf=>HH.out.okH (hF.trans hf) hpos
  by_cases hk:a < 1 ∨ 64 < a
  ·go_wp2_with fail
   refine (salloc_arg _ x.p x.r x.n x.B x.V a hH hk).mono ?_
   rintro e w1 ⟨rfl,hw1⟩
   have hw1':=hw1.symm
   clear hw1
   subst hw1'
   go_wp2_with fail
   refine (ralloc_arg _ x.q a hk).mono ?_
   rintro e w1 ⟨rfl,hw1⟩
   have hw1':=hw1.symm
   clear hw1
   subst hw1'
   go_wp2
   go_ret
   exact ⟨rfl,HT2.out _ (Fr.refl _ _)⟩
  ·obtain ⟨k,rfl⟩:=Int.eq_ofNat_of_zero_le (show 0 ≤ a by omega)
   have hk1:1 ≤ k:=by omega
   have hk2:k ≤ 64:=by omega
   clear hk
   go_wp2_with fail
   refine (salloc_any _ x.p x.r x.n x.B x.V k hH hk1 hk2).mono ?_
   intro e w1 hq
   rcases hq with ⟨at_,hfa,hmin,rfl,hH1,hF1⟩ | ⟨hno,rfl,hF1⟩
   ·have e1':=HKR.out.1 w1 hF1 _ _ e1
    have o2':=HKR.out.2 w1 hF1 _ _ o2
    have hR1:=HNR.out w1 hF1
    have HA:=show Hid (_ ∧ _ ∧ _ ∧ _) from ⟨hH1,hF1,hfa,hmin⟩
    clear hH1 hF1 hfa hmin
    go_wp2_with fail
    refine (ralloc_any _ x.q x.ri x.rh x.n x.I x.H x.md k hR1 hk1 hk2 hmd0 (by omega)).mono ?_
    intro e w2 hq
    rcases hq with ⟨to_,hfa2,hmin2,rfl,hR2,hF2⟩ | ⟨hno2,_⟩
    ·have hto:to_ = at_:=by
      have q1:=HA.out.2.2.2 to_ ((hrel.freeAt k to_).2 hfa2)
      have q2:=hmin2 at_ ((hrel.freeAt k at_).1 HA.out.2.2.1)
      omega
     subst hto
     have HE:Hid (WOkH w0 w2 wp (bd + 1)):=HT.out w1 w2 _ _ _ _ _ HA.out.1 HA.out.2.1 hR2 hF2 (hrel.alloc hk1 HA.out.2.2.1) (by omega)
     clear hR2 hF2 hfa2 hmin2
     go_wp2
     go_ret
     exact ⟨rfl,HE.out⟩
    ·exact absurd ((hrel.freeAt k at_).1 HA.out.2.2.1) (hno2 at_)
   ·have e1':=hF1.cell_some e1 id
    have o2':=hF1.cell_some o2 id
    have hR1:=hR.no hF1
    have HA:=show Hid (_ ∧ _) from ⟨hno,hF1⟩
    clear hno hF1
    go_wp2_with fail
    refine (ralloc_any _ x.q x.ri x.rh x.n x.I x.H x.md k hR1 hk1 hk2 hmd0 (by omega)).mono ?_
    intro e w2 hq
    rcases hq with ⟨to_,hfa2,_⟩ | ⟨hno2,rfl,hw2⟩
    ·exact absurd ((hrel.freeAt k to_).2 hfa2) (HA.out.1 to_)
    ·have hw2':=hw2.symm
     clear hw2 hno2
     subst hw2'
     go_wp2
     go_ret
     exact ⟨rfl,HT2.out _ HA.out.2⟩
set_option maxRecDepth 20000 in
theorem lheap3 (w0 w:World) (wp:Nat) (own:Nat → Nat) (bd:Nat) (hv lv:Value) (hs:List HEnt) (ls:List LEnt) (hI a b:Int) (s:ByteArray) (h:WSt w0 w wp own bd hv lv hs ls) (hpos:0 < hs.length) (hbd:bd ≤ 2932031007402) (h1:-9223372036854775808 ≤ hI) (h2:hI ≤ 9223372036854775807) :
  Calls prog 10 #[.pointer (some ⟨wp,0,none⟩),.agg #[.int .i64 3,.int .i64 hI,.int .i64 a,.int .i64 b,.string s]] w fun e w'=>e = .returned (.bool true) ∧ WOkH w0 w' wp (bd + 1):=by
 have hhl:=h.hl
 have c0:=h.c0
 obtain ⟨ao,cap,rfl,hrow⟩:=hrow_of h.hrow
 obtain ⟨g,rfl⟩:=hrow.some_ hpos
 obtain ⟨j,hj⟩:∃ j,j = pickZ hI hs.length:=⟨_,rfl⟩
 have hjl:j < hs.length:=by rw [hj];exact pickZ_lt _ (by omega)
 have hlz:((hs.length:Int) == 0) = false:=bF (by omega)
 have b0:=hrow.c0 g j hjl rfl
 have b1:=hrow.c1 g j hjl rfl
 obtain ⟨x,hx⟩:∃ x,x = hs[j]:=⟨_,rfl⟩
 rw [← hx] at b0 b1
 have Hx:Hid (hs[j]? = some x):=by show hs[j]? = some x;rw [hx];exact List.getElem?_eq_getElem hjl
 have HK:Hid (∀ W:World,CS 20 #[.int .i64 hI,.int .i64 hs.length] W (.int .i64 j)):=fun W=>by
  rw [hj];exact lpick_fn W hI hs.length (by omega) (by omega) h1 h2
 clear hx hj hrow
 have hwl:=h.wl
 have hgl:g < w.heap.size:=World.block_lt_of_cell? _ _ b0
 go_enter func10,ntmps10
 go_upto_region 8 with fail
 go_cut [5] (fun t wx=>t = .pointer (some ⟨w.heap.size + 1,0,none⟩) ∧ Fr NoB w wx ∧ wx.cell? ⟨w.heap.size + 1,0,none⟩ = some (.pointer (some ⟨x.p,0,none⟩)) ∧ wx.cell? ⟨w.heap.size + 1,1,none⟩ = some (.pointer (some ⟨x.q,0,none⟩)) ∧ wx.cell? ⟨w.heap.size,0,none⟩ = some (.int .i64 3) ∧ wx.cell? ⟨w.heap.size,2,none⟩ = some (.int .i64 a) ∧ wx.cell? ⟨w.heap.size,3,none⟩ = some (.int .i64 b))
 case first =>
  go_region_held3 (fun W=>W.cell? ⟨wp,0,none⟩ = some (Value.slice (some ⟨g,0,none⟩) hs.length cap) ∧ W.cell? ⟨w.heap.size,1,none⟩ = some (Value.int .i64 hI) ∧ W.cell? ⟨g,j * 2,none⟩ = some (.pointer (some ⟨x.p,0,none⟩)) ∧ W.cell? ⟨g,j * 2 + 1,none⟩ = some (.pointer (some ⟨x.q,0,none⟩))) (go_keep) ((go_at_call 20;refine (HK.out _).mono ?_;rintro e w' ⟨rfl,rfl⟩))
  all_goals
   go_wp2_with fail
   go_meet
   case rel=>exact ⟨rfl,by repeat (first | exact Fr.refl _ _ | refine Fr.drew ?_ | refine Fr.alloc ?_ _),by simp,by simp,by simp,by simp,by simp⟩
 case rest =>
  obtain ⟨rfl,hF,e0,e1,o0,o2,o3⟩:=hcut
  have hxo:=h.hok j x Hx.out
  have hH:=hxo.heap.no hF
  have hR:=hxo.ref.no hF
  have hrel:=hxo.rel
  have hmd:=hxo.md
  have hmd0:=hrel.md0
  clear b0 b1 c0 hxo
  have hol:w.heap.size + 1 < wc.heap.size:=World.block_lt_of_cell? _ _ e0
  have HH:Hid (WSt w0 w wp own bd _ lv hs ls):=h
  clear h
  have hkr:∀ (W:World),Fr (OneB x.r) wc W → ∀ o v,wc.cell? ⟨w.heap.size + 1,o,none⟩ = some v → W.cell? ⟨w.heap.size + 1,o,none⟩ = some v:=fun W hf o v hc =>
   hf.cell_some hc (fun e=>by have e':w.heap.size + 1 = x.r:=e;have:=(HH.out.hok j x Hx.out).heap.rl;omega)
  have hkr2:∀ (W:World),Fr (OneB x.r) wc W → ∀ o v,wc.cell? ⟨w.heap.size,o,none⟩ = some v → W.cell? ⟨w.heap.size,o,none⟩ = some v:=fun W hf o v hc =>
   hf.cell_some hc (fun e=>by have e':w.heap.size = x.r:=e;have:=(HH.out.hok j x Hx.out).heap.rl;omega)
  have HKR:Hid ((∀ (W:World),Fr (OneB x.r) wc W → ∀ o v,wc.cell? ⟨w.heap.size + 1,o,none⟩ = some v → W.cell? ⟨w.heap.size + 1,o,none⟩ = some v) ∧ (∀ (W:World),Fr (OneB x.r) wc W → ∀ o v,wc.cell? ⟨w.heap.size,o,none⟩ = some v → W.cell? ⟨w.heap.size,o,none⟩ = some v)):=⟨hkr,hkr2⟩
  clear hkr hkr2
  have hnr:∀ (W:World),Fr (OneB x.r) wc W → RefAt W x.q x.ri x.rh x.n x.I x.H x.md:=fun W hf=>hR.fr hf
   (fun e=>by have e':x.q = x.r:=e;have q:=(HH.out.hok j x Hx.out);have q1:=q.or_;have q2:=q.oq;rw [e'] at q2;omega)
   (fun e=>by have e':x.ri = x.r:=e;have q:=(HH.out.hok j x Hx.out);have q1:=q.or_;have q2:=q.oi;rw [e'] at q2;omega)
   (fun e=>by have e':x.rh = x.r:=e;have q:=(HH.out.hok j x Hx.out);have q1:=q.or_;have q2:=q.oh;rw [e'] at q2;omega)
  have HNR:Hid (∀ (W:World),Fr (OneB x.r) wc W → RefAt W x.q x.ri x.rh x.n x.I x.H x.md):=hnr
  clear hnr
  have HT:=show Hid (∀ (w2 w3:World) (B V I H:Nat → Int) (md:Int),HeapAt w2 x.p x.r x.n B V → Fr (OneB x.r) wc w2 → RefAt w3 x.q x.ri x.rh x.n I H md → Fr (RefS x.q x.ri x.rh) w2 w3 → Rel x.n B V I H md → md ≤ bd + 1 → WOkH w0 w3 wp (bd + 1)) from
   fun w2 w3 B V I H md q1 q2 q3 q4 q5 q6=>turn HH.out Hx.out hF q1 q2 q3 q4 q5 q6
  have HT2:=show Hid (∀ W:World,Fr NoB wc W → WOkH w0 W wp (bd + 1)) from fun W hf=>HH.out.okH (hF.trans hf) hpos
  by_cases ht:takenB x.B x.n a = true
  ·obtain ⟨k,rfl,hk,hb⟩:=takenB_true ht
   clear ht
   have hik:x.I k ≠ 0:=fun hz=>hb ((hrel.zz k hk).2 hz)
   have Hb:Hid (x.B k ≠ 0 ∧ x.I k ≠ 0):=⟨hb,hik⟩
   clear hb hik
   by_cases hst:x.B k = (k:Int) + 1
   ·have Hst:Hid (x.B k = (k:Int) + 1):=hst
    clear hst
    go_wp2_with fail
    refine (sfree_yes _ x.p x.r x.n x.B x.V k hH hk Hst.out).mono ?_
    rintro e w1 ⟨rfl,z,hz1,hz2,hz3,hz4,hH1,hF1⟩
    have e1':=HKR.out.1 w1 hF1 _ _ e1
    have o2':=HKR.out.2 w1 hF1 _ _ o2
    have hR1:=HNR.out w1 hF1
    have HA:=show Hid (_ ∧ _) from ⟨hH1,hF1⟩
    have HRel:=show Hid _ from hrel.free hk Hst.out hz1 hz3 hz4
    clear hH1 hF1 hz3 hz4
    go_wp2_with fail
    refine (rfr_yes _ x.q x.ri x.rh x.n x.I x.H x.md k hR1 hk Hb.out.2 (hrel.starts hk Hst.out)).mono ?_
    rintro e w2 ⟨rfl,hR2,hF2⟩
    have HE:Hid (WOkH w0 w2 wp (bd + 1)):=HT.out w1 w2 _ _ _ _ _ HA.out.1 HA.out.2 hR2 hF2 HRel.out (by omega)
    clear hR2 hF2
    go_wp2
    go_ret
    exact ⟨rfl,HE.out⟩
   ·have Hst:Hid (x.B k ≠ (k:Int) + 1):=hst
    have Hin:Hid (0 < k ∧ x.I (k - 1) = x.I k):=hrel.inside hk Hb.out.1 hst
    clear hst
    go_wp2_with fail
    refine (sfree_mid _ x.p x.r x.n x.B x.V k hH hk Hb.out.1 Hst.out).mono ?_
    rintro e w1 ⟨rfl,hw1⟩
    have hw1':=hw1.symm
    clear hw1
    subst hw1'
    go_wp2_with fail
    refine (rfr_mid _ x.q x.ri x.rh x.n x.I x.H x.md k hR hk Hb.out.2 Hin.out.1 Hin.out.2).mono ?_
    rintro e w1 ⟨rfl,hF1⟩
    have HE:Hid (WOkH w0 w1 wp (bd + 1)):=HT2.out _ hF1
    clear hF1
    go_wp2
    go_ret
    exact ⟨rfl,HE.out⟩
  ·have htf:takenB x.B x.n a = false:=by simpa using ht
   have htr:takenB x.I x.n a = false:=(hrel.taken a).symm.trans htf
   have Htf:Hid (takenB x.B x.n a = false ∧ takenB x.I x.n a = false):=⟨htf,htr⟩
   clear ht htf htr
   go_wp2_with fail
   refine (sfree_no _ x.p x.r x.n x.B x.V a hH Htf.out.1).mono ?_
   rintro e w1 ⟨rfl,hw1⟩
   have hw1':=hw1.symm
   clear hw1
   subst hw1'
   go_wp2_with fail
   refine (rfr_no _ x.q x.ri x.rh x.n x.I x.H x.md a hR Htf.out.2).mono ?_
   rintro e w1 ⟨rfl,hF1⟩
   have HE:Hid (WOkH w0 w1 wp (bd + 1)):=HT2.out _ hF1
   clear hF1
   go_wp2
   go_ret
   exact ⟨rfl,HE.out⟩
set_option maxRecDepth 20000 in
theorem lheap4 (w0 w:World) (wp:Nat) (own:Nat → Nat) (bd:Nat) (hv lv:Value) (hs:List HEnt) (ls:List LEnt) (hI a b:Int) (s:ByteArray) (h:WSt w0 w wp own bd hv lv hs ls) (hpos:0 < hs.length) (hbd:bd ≤ 2932031007402) (h1:-9223372036854775808 ≤ hI) (h2:hI ≤ 9223372036854775807) :
  Calls prog 10 #[.pointer (some ⟨wp,0,none⟩),.agg #[.int .i64 4,.int .i64 hI,.int .i64 a,.int .i64 b,.string s]] w fun e w'=>e = .returned (.bool true) ∧ WOkH w0 w' wp (bd + 1):=by
 have hhl:=h.hl
 have c0:=h.c0
 obtain ⟨ao,cap,rfl,hrow⟩:=hrow_of h.hrow
 obtain ⟨g,rfl⟩:=hrow.some_ hpos
 obtain ⟨j,hj⟩:∃ j,j = pickZ hI hs.length:=⟨_,rfl⟩
 have hjl:j < hs.length:=by rw [hj];exact pickZ_lt _ (by omega)
 have hlz:((hs.length:Int) == 0) = false:=bF (by omega)
 have b0:=hrow.c0 g j hjl rfl
 have b1:=hrow.c1 g j hjl rfl
 obtain ⟨x,hx⟩:∃ x,x = hs[j]:=⟨_,rfl⟩
 rw [← hx] at b0 b1
 have Hx:Hid (hs[j]? = some x):=by show hs[j]? = some x;rw [hx];exact List.getElem?_eq_getElem hjl
 have HK:Hid (∀ W:World,CS 20 #[.int .i64 hI,.int .i64 hs.length] W (.int .i64 j)):=fun W=>by
  rw [hj];exact lpick_fn W hI hs.length (by omega) (by omega) h1 h2
 clear hx hj hrow
 have hwl:=h.wl
 have hgl:g < w.heap.size:=World.block_lt_of_cell? _ _ b0
 go_enter func10,ntmps10
 go_upto_region 8 with fail
 go_cut [5] (fun t wx=>t = .pointer (some ⟨w.heap.size + 1,0,none⟩) ∧ Fr NoB w wx ∧ wx.cell? ⟨w.heap.size + 1,0,none⟩ = some (.pointer (some ⟨x.p,0,none⟩)) ∧ wx.cell? ⟨w.heap.size + 1,1,none⟩ = some (.pointer (some ⟨x.q,0,none⟩)) ∧ wx.cell? ⟨w.heap.size,0,none⟩ = some (.int .i64 4) ∧ wx.cell? ⟨w.heap.size,2,none⟩ = some (.int .i64 a) ∧ wx.cell? ⟨w.heap.size,3,none⟩ = some (.int .i64 b))
 case first =>
  go_region_held3 (fun W=>W.cell? ⟨wp,0,none⟩ = some (Value.slice (some ⟨g,0,none⟩) hs.length cap) ∧ W.cell? ⟨w.heap.size,1,none⟩ = some (Value.int .i64 hI) ∧ W.cell? ⟨g,j * 2,none⟩ = some (.pointer (some ⟨x.p,0,none⟩)) ∧ W.cell? ⟨g,j * 2 + 1,none⟩ = some (.pointer (some ⟨x.q,0,none⟩))) (go_keep) ((go_at_call 20;refine (HK.out _).mono ?_;rintro e w' ⟨rfl,rfl⟩))
  all_goals
   go_wp2_with fail
   go_meet
   case rel=>exact ⟨rfl,by repeat (first | exact Fr.refl _ _ | refine Fr.drew ?_ | refine Fr.alloc ?_ _),by simp,by simp,by simp,by simp,by simp⟩
 case rest =>
  obtain ⟨rfl,hF,e0,e1,o0,o2,o3⟩:=hcut
  have hxo:=h.hok j x Hx.out
  have hH:=hxo.heap.no hF
  have hR:=hxo.ref.no hF
  have hrel:=hxo.rel
  have hmd:=hxo.md
  have hmd0:=hrel.md0
  clear b0 b1 c0 hxo
  have hol:w.heap.size + 1 < wc.heap.size:=World.block_lt_of_cell? _ _ e0
  have HH:Hid (WSt w0 w wp own bd _ lv hs ls):=h
  clear h
  have hkr:∀ (W:World),Fr (OneB x.r) wc W → ∀ o v,wc.cell? ⟨w.heap.size + 1,o,none⟩ = some v → W.cell? ⟨w.heap.size + 1,o,none⟩ = some v:=fun W hf o v hc =>
   hf.cell_some hc (fun e=>by have e':w.heap.size + 1 = x.r:=e;have:=(HH.out.hok j x Hx.out).heap.rl;omega)
  have hkr2:∀ (W:World),Fr (OneB x.r) wc W → ∀ o v,wc.cell? ⟨w.heap.size,o,none⟩ = some v → W.cell? ⟨w.heap.size,o,none⟩ = some v:=fun W hf o v hc =>
   hf.cell_some hc (fun e=>by have e':w.heap.size = x.r:=e;have:=(HH.out.hok j x Hx.out).heap.rl;omega)
  have HKR:Hid ((∀ (W:World),Fr (OneB x.r) wc W → ∀ o v,wc.cell? ⟨w.heap.size + 1,o,none⟩ = some v → W.cell? ⟨w.heap.size + 1,o,none⟩ = some v) ∧ (∀ (W:World),Fr (OneB x.r) wc W → ∀ o v,wc.cell? ⟨w.heap.size,o,none⟩ = some v → W.cell? ⟨w.heap.size,o,none⟩ = some v)):=⟨hkr,hkr2⟩
  clear hkr hkr2
  have hnr:∀ (W:World),Fr (OneB x.r) wc W → RefAt W x.q x.ri x.rh x.n x.I x.H x.md:=fun W hf=>hR.fr hf
   (fun e=>by have e':x.q = x.r:=e;have q:=(HH.out.hok j x Hx.out);have q1:=q.or_;have q2:=q.oq;rw [e'] at q2;omega)
   (fun e=>by have e':x.ri = x.r:=e;have q:=(HH.out.hok j x Hx.out);have q1:=q.or_;have q2:=q.oi;rw [e'] at q2;omega)
   (fun e=>by have e':x.rh = x.r:=e;have q:=(HH.out.hok j x Hx.out);have q1:=q.or_;have q2:=q.oh;rw [e'] at q2;omega)
  have HNR:Hid (∀ (W:World),Fr (OneB x.r) wc W → RefAt W x.q x.ri x.rh x.n x.I x.H x.md):=hnr
  clear hnr
  have HT:=show Hid (∀ (w2 w3:World) (B V I H:Nat → Int) (md:Int),HeapAt w2 x.p x.r x.n B V → Fr (OneB x.r) wc w2 → RefAt w3 x.q x.ri x.rh x.n I H md → Fr (RefS x.q x.ri x.rh) w2 w3 → Rel x.n B V I H md → md ≤ bd + 1 → WOkH w0 w3 wp (bd + 1)) from
   fun w2 w3 B V I H md q1 q2 q3 q4 q5 q6=>turn HH.out Hx.out hF q1 q2 q3 q4 q5 q6
  have HT2:=show Hid (∀ W:World,Fr NoB wc W → WOkH w0 W wp (bd + 1)) from fun W hf=>HH.out.okH (hF.trans hf) hpos
  by_cases ht:takenB x.B x.n a = true
  ·obtain ⟨k,rfl,hk,hb⟩:=takenB_true ht
   have hik:x.I k ≠ 0:=fun hz=>hb ((hrel.zz k hk).2 hz)
   have Hvh:Hid (x.V k = x.H k):=hrel.vh k hk hb
   go_wp2_with fail
   refine (sload_yes _ x.p x.r x.n x.B x.V k hH hk hb).mono ?_
   rintro e w1 ⟨rfl,hw1⟩
   have hw1':=hw1.symm
   clear hw1
   subst hw1'
   go_wp2_with fail
   refine (rload_yes _ x.q x.ri x.rh x.n x.I x.H x.md k hR hk hik).mono ?_
   rintro e w1 ⟨rfl,hw1⟩
   have hw1':=hw1.symm
   clear hw1
   subst hw1'
   rw [Hvh.out]
   go_wp2
   go_ret
   exact ⟨rfl,HT2.out _ (Fr.refl _ _)⟩
  ·have htf:takenB x.B x.n a = false:=by simpa using ht
   have htr:takenB x.I x.n a = false:=(hrel.taken a).symm.trans htf
   have Htf:Hid (takenB x.B x.n a = false ∧ takenB x.I x.n a = false):=⟨htf,htr⟩
   clear ht htf htr
   go_wp2_with fail
   refine (sload_no _ x.p x.r x.n x.B x.V a hH Htf.out.1).mono ?_
   rintro e w1 ⟨rfl,hw1⟩
   have hw1':=hw1.symm
   clear hw1
   subst hw1'
   go_wp2_with fail
   refine (rload_no _ x.q x.ri x.rh x.n x.I x.H x.md a hR Htf.out.2).mono ?_
   rintro e w1 ⟨rfl,hw1⟩
   have hw1':=hw1.symm
   clear hw1
   subst hw1'
   go_wp2
   go_ret
   exact ⟨rfl,HT2.out _ (Fr.refl _ _)⟩
set_option maxRecDepth 20000 in
theorem lheap5 (w0 w:World) (wp:Nat) (own:Nat → Nat) (bd:Nat) (hv lv:Value) (hs:List HEnt) (ls:List LEnt) (hI a b:Int) (s:ByteArray) (h:WSt w0 w wp own bd hv lv hs ls) (hpos:0 < hs.length) (hbd:bd ≤ 2932031007402) (h1:-9223372036854775808 ≤ hI) (h2:hI ≤ 9223372036854775807) :
  Calls prog 10 #[.pointer (some ⟨wp,0,none⟩),.agg #[.int .i64 5,.int .i64 hI,.int .i64 a,.int .i64 b,.string s]] w fun e w'=>e = .returned (.bool true) ∧ WOkH w0 w' wp (bd + 1):=by
 have hhl:=h.hl
 have c0:=h.c0
 obtain ⟨ao,cap,rfl,hrow⟩:=hrow_of h.hrow
 obtain ⟨g,rfl⟩:=hrow.some_ hpos
 obtain ⟨j,hj⟩:∃ j,j = pickZ hI hs.length:=⟨_,rfl⟩
 have hjl:j < hs.length:=by rw [hj];exact pickZ_lt _ (by omega)
 have hlz:((hs.length:Int) == 0) = false:=bF (by omega)
 have b0:=hrow.c0 g j hjl rfl
 have b1:=hrow.c1 g j hjl rfl
 obtain ⟨x,hx⟩:∃ x,x = hs[j]:=⟨_,rfl⟩
 rw [← hx] at b0 b1
 have Hx:Hid (hs[j]? = some x):=by show hs[j]? = some x;rw [hx];exact List.getElem?_eq_getElem hjl
 have HK:Hid (∀ W:World,CS 20 #[.int .i64 hI,.int .i64 hs.length] W (.int .i64 j)):=fun W=>by
  rw [hj];exact lpick_fn W hI hs.length (by omega) (by omega) h1 h2
 clear hx hj hrow
 have hwl:=h.wl
 have hgl:g < w.heap.size:=World.block_lt_of_cell? _ _ b0
 go_enter func10,ntmps10
 go_upto_region 8 with fail
 go_cut [5] (fun t wx=>t = .pointer (some ⟨w.heap.size + 1,0,none⟩) ∧ Fr NoB w wx ∧ wx.cell? ⟨w.heap.size + 1,0,none⟩ = some (.pointer (some ⟨x.p,0,none⟩)) ∧ wx.cell? ⟨w.heap.size + 1,1,none⟩ = some (.pointer (some ⟨x.q,0,none⟩)) ∧ wx.cell? ⟨w.heap.size,0,none⟩ = some (.int .i64 5) ∧ wx.cell? ⟨w.heap.size,2,none⟩ = some (.int .i64 a) ∧ wx.cell? ⟨w.heap.size,3,none⟩ = some (.int .i64 b))
 case first =>
  go_region_held3 (fun W=>W.cell? ⟨wp,0,none⟩ = some (Value.slice (some ⟨g,0,none⟩) hs.length cap) ∧ W.cell? ⟨w.heap.size,1,none⟩ = some (Value.int .i64 hI) ∧ W.cell? ⟨g,j * 2,none⟩ = some (.pointer (some ⟨x.p,0,none⟩)) ∧ W.cell? ⟨g,j * 2 + 1,none⟩ = some (.pointer (some ⟨x.q,0,none⟩))) (go_keep) ((go_at_call 20;refine (HK.out _).mono ?_;rintro e w' ⟨rfl,rfl⟩))
  all_goals
   go_wp2_with fail
   go_meet
   case rel=>exact ⟨rfl,by repeat (first | exact Fr.refl _ _ | refine Fr.drew ?_ | refine Fr.alloc ?_ _),by simp,by simp,by simp,by simp,by simp⟩
 case rest =>
  obtain ⟨rfl,hF,e0,e1,o0,o2,o3⟩:=hcut
  have hxo:=h.hok j x Hx.out
  have hH:=hxo.heap.no hF
  have hR:=hxo.ref.no hF
  have hrel:=hxo.rel
  have hmd:=hxo.md
  have hmd0:=hrel.md0
  clear b0 b1 c0 hxo
  have hol:w.heap.size + 1 < wc.heap.size:=World.block_lt_of_cell? _ _ e0
  have HH:Hid (WSt w0 w wp own bd _ lv hs ls):=h
  clear h
  have hkr:∀ (W:World),Fr (OneB x.r) wc W → ∀ o v,wc.cell? ⟨w.heap.size + 1,o,none⟩ = some v → W.cell? ⟨w.heap.size + 1,o,none⟩ = some v:=fun W hf o v hc =>
   hf.cell_some hc (fun e=>by have e':w.heap.size + 1 = x.r:=e;have:=(HH.out.hok j x Hx.out).heap.rl;omega)
  have hkr2:∀ (W:World),Fr (OneB x.r) wc W → ∀ o v,wc.cell? ⟨w.heap.size,o,none⟩ = some v → W.cell? ⟨w.heap.size,o,none⟩ = some v:=fun W hf o v hc =>
   hf.cell_some hc (fun e=>by have e':w.heap.size = x.r:=e;have:=(HH.out.hok j x Hx.out).heap.rl;omega)
  have HKR:Hid ((∀ (W:World),Fr (OneB x.r) wc W → ∀ o v,wc.cell? ⟨w.heap.size + 1,o,none⟩ = some v → W.cell? ⟨w.heap.size + 1,o,none⟩ = some v) ∧ (∀ (W:World),Fr (OneB x.r) wc W → ∀ o v,wc.cell? ⟨w.heap.size,o,none⟩ = some v → W.cell? ⟨w.heap.size,o,none⟩ = some v)):=⟨hkr,hkr2⟩
  clear hkr hkr2
  have hnr:∀ (W:World),Fr (OneB x.r) wc W → RefAt W x.q x.ri x.rh x.n x.I x.H x.md:=fun W hf=>hR.fr hf
   (fun e=>by have e':x.q = x.r:=e;have q:=(HH.out.hok j x Hx.out);have q1:=q.or_;have q2:=q.oq;rw [e'] at q2;omega)
   (fun e=>by have e':x.ri = x.r:=e;have q:=(HH.out.hok j x Hx.out);have q1:=q.or_;have q2:=q.oi;rw [e'] at q2;omega)
   (fun e=>by have e':x.rh = x.r:=e;have q:=(HH.out.hok j x Hx.out);have q1:=q.or_;have q2:=q.oh;rw [e'] at q2;omega)
  have HNR:Hid (∀ (W:World),Fr (OneB x.r) wc W → RefAt W x.q x.ri x.rh x.n x.I x.H x.md):=hnr
  clear hnr
  have HT:=show Hid (∀ (w2 w3:World) (B V I H:Nat → Int) (md:Int),HeapAt w2 x.p x.r x.n B V → Fr (OneB x.r) wc w2 → RefAt w3 x.q x.ri x.rh x.n I H md → Fr (RefS x.q x.ri x.rh) w2 w3 → Rel x.n B V I H md → md ≤ bd + 1 → WOkH w0 w3 wp (bd + 1)) from
   fun w2 w3 B V I H md q1 q2 q3 q4 q5 q6=>turn HH.out Hx.out hF q1 q2 q3 q4 q5 q6
  have HT2:=show Hid (∀ W:World,Fr NoB wc W → WOkH w0 W wp (bd + 1)) from fun W hf=>HH.out.okH (hF.trans hf) hpos
  by_cases ht:takenB x.B x.n a = true
  ·obtain ⟨k,rfl,hk,hb⟩:=takenB_true ht
   clear ht
   have hik:x.I k ≠ 0:=fun hz=>hb ((hrel.zz k hk).2 hz)
   have Hb:Hid (x.B k ≠ 0 ∧ x.I k ≠ 0):=⟨hb,hik⟩
   clear hb hik
   by_cases hu:b < 0 ∨ 1000 ≤ b
   ·go_wp2_with fail
    refine (sstore_arg _ x.p x.r x.n x.B x.V k b hH hk Hb.out.1 hu).mono ?_
    rintro e w1 ⟨rfl,hw1⟩
    have hw1':=hw1.symm
    clear hw1
    subst hw1'
    go_wp2_with fail
    refine (rstore_arg _ x.q x.ri x.rh x.n x.I x.H x.md k b hR hk Hb.out.2 hu).mono ?_
    rintro e w1 ⟨rfl,hw1⟩
    have hw1':=hw1.symm
    clear hw1
    subst hw1'
    go_wp2
    go_ret
    exact ⟨rfl,HT2.out _ (Fr.refl _ _)⟩
   ·go_wp2_with fail
    refine (sstore_yes _ x.p x.r x.n x.B x.V k b hH hk Hb.out.1 (by omega) (by omega)).mono ?_
    rintro e w1 ⟨rfl,hH1,hF1⟩
    have e1':=HKR.out.1 w1 hF1 _ _ e1
    have o2':=HKR.out.2 w1 hF1 _ _ o2
    have o3':=HKR.out.2 w1 hF1 _ _ o3
    have hR1:=HNR.out w1 hF1
    have HA:=show Hid (_ ∧ _) from ⟨hH1,hF1⟩
    clear hH1 hF1
    go_wp2_with fail
    refine (rstore_yes _ x.q x.ri x.rh x.n x.I x.H x.md k b hR1 hk Hb.out.2 (by omega) (by omega)).mono ?_
    rintro e w2 ⟨rfl,hR2,hF2⟩
    have HE:Hid (WOkH w0 w2 wp (bd + 1)):=HT.out w1 w2 _ _ _ _ _ HA.out.1 HA.out.2 hR2 hF2 (hrel.store Hb.out.1 b) (by omega)
    clear hR2 hF2
    go_wp2
    go_ret
    exact ⟨rfl,HE.out⟩
  ·have htf:takenB x.B x.n a = false:=by simpa using ht
   have htr:takenB x.I x.n a = false:=(hrel.taken a).symm.trans htf
   have Htf:Hid (takenB x.B x.n a = false ∧ takenB x.I x.n a = false):=⟨htf,htr⟩
   clear ht htf htr
   go_wp2_with fail
   refine (sstore_no _ x.p x.r x.n x.B x.V a b hH Htf.out.1).mono ?_
   rintro e w1 ⟨rfl,hw1⟩
   have hw1':=hw1.symm
   clear hw1
   subst hw1'
   go_wp2_with fail
   refine (rstore_no _ x.q x.ri x.rh x.n x.I x.H x.md a b hR Htf.out.2).mono ?_
   rintro e w1 ⟨rfl,hw1⟩
   have hw1':=hw1.symm
   clear hw1
   subst hw1'
   go_wp2
   go_ret
   exact ⟨rfl,HT2.out _ (Fr.refl _ _)⟩
set_option maxRecDepth 20000 in
theorem lheap6 (w0 w:World) (wp:Nat) (own:Nat → Nat) (bd:Nat) (hv lv:Value) (hs:List HEnt) (ls:List LEnt) (hI a b:Int) (s:ByteArray) (h:WSt w0 w wp own bd hv lv hs ls) (hpos:0 < hs.length) (hbd:bd ≤ 2932031007402) (h1:-9223372036854775808 ≤ hI) (h2:hI ≤ 9223372036854775807) :
  Calls prog 10 #[.pointer (some ⟨wp,0,none⟩),.agg #[.int .i64 6,.int .i64 hI,.int .i64 a,.int .i64 b,.string s]] w fun e w'=>e = .returned (.bool true) ∧ WOkH w0 w' wp (bd + 1):=by
 have hhl:=h.hl
 have c0:=h.c0
 obtain ⟨ao,cap,rfl,hrow⟩:=hrow_of h.hrow
 obtain ⟨g,rfl⟩:=hrow.some_ hpos
 obtain ⟨j,hj⟩:∃ j,j = pickZ hI hs.length:=⟨_,rfl⟩
 have hjl:j < hs.length:=by rw [hj];exact pickZ_lt _ (by omega)
 have hlz:((hs.length:Int) == 0) = false:=bF (by omega)
 have b0:=hrow.c0 g j hjl rfl
 have b1:=hrow.c1 g j hjl rfl
 obtain ⟨x,hx⟩:∃ x,x = hs[j]:=⟨_,rfl⟩
 rw [← hx] at b0 b1
 have Hx:Hid (hs[j]? = some x):=by show hs[j]? = some x;rw [hx];exact List.getElem?_eq_getElem hjl
 have HK:Hid (∀ W:World,CS 20 #[.int .i64 hI,.int .i64 hs.length] W (.int .i64 j)):=fun W=>by
  rw [hj];exact lpick_fn W hI hs.length (by omega) (by omega) h1 h2
 clear hx hj hrow
 have hwl:=h.wl
 have hgl:g < w.heap.size:=World.block_lt_of_cell? _ _ b0
 go_enter func10,ntmps10
 go_upto_region 8 with fail
 go_cut [5] (fun t wx=>t = .pointer (some ⟨w.heap.size + 1,0,none⟩) ∧ Fr NoB w wx ∧ wx.cell? ⟨w.heap.size + 1,0,none⟩ = some (.pointer (some ⟨x.p,0,none⟩)) ∧ wx.cell? ⟨w.heap.size + 1,1,none⟩ = some (.pointer (some ⟨x.q,0,none⟩)) ∧ wx.cell? ⟨w.heap.size,0,none⟩ = some (.int .i64 6) ∧ wx.cell? ⟨w.heap.size,2,none⟩ = some (.int .i64 a) ∧ wx.cell? ⟨w.heap.size,3,none⟩ = some (.int .i64 b))
 case first =>
  go_region_held3 (fun W=>W.cell? ⟨wp,0,none⟩ = some (Value.slice (some ⟨g,0,none⟩) hs.length cap) ∧ W.cell? ⟨w.heap.size,1,none⟩ = some (Value.int .i64 hI) ∧ W.cell? ⟨g,j * 2,none⟩ = some (.pointer (some ⟨x.p,0,none⟩)) ∧ W.cell? ⟨g,j * 2 + 1,none⟩ = some (.pointer (some ⟨x.q,0,none⟩))) (go_keep) ((go_at_call 20;refine (HK.out _).mono ?_;rintro e w' ⟨rfl,rfl⟩))
  all_goals
   go_wp2_with fail
   go_meet
   case rel=>exact ⟨rfl,by repeat (first | exact Fr.refl _ _ | refine Fr.drew ?_ | refine Fr.alloc ?_ _),by simp,by simp,by simp,by simp,by simp⟩
 case rest =>
  obtain ⟨rfl,hF,e0,e1,o0,o2,o3⟩:=hcut
  have hxo:=h.hok j x Hx.out
  have hH:=hxo.heap.no hF
  have hR:=hxo.ref.no hF
  have hrel:=hxo.rel
  have hmd:=hxo.md
  have hmd0:=hrel.md0
  clear b0 b1 c0 hxo
  have hol:w.heap.size + 1 < wc.heap.size:=World.block_lt_of_cell? _ _ e0
  have HH:Hid (WSt w0 w wp own bd _ lv hs ls):=h
  clear h
  have hkr:∀ (W:World),Fr (OneB x.r) wc W → ∀ o v,wc.cell? ⟨w.heap.size + 1,o,none⟩ = some v → W.cell? ⟨w.heap.size + 1,o,none⟩ = some v:=fun W hf o v hc =>
   hf.cell_some hc (fun e=>by have e':w.heap.size + 1 = x.r:=e;have:=(HH.out.hok j x Hx.out).heap.rl;omega)
  have hkr2:∀ (W:World),Fr (OneB x.r) wc W → ∀ o v,wc.cell? ⟨w.heap.size,o,none⟩ = some v → W.cell? ⟨w.heap.size,o,none⟩ = some v:=fun W hf o v hc =>
   hf.cell_some hc (fun e=>by have e':w.heap.size = x.r:=e;have:=(HH.out.hok j x Hx.out).heap.rl;omega)
  have HKR:Hid ((∀ (W:World),Fr (OneB x.r) wc W → ∀ o v,wc.cell? ⟨w.heap.size + 1,o,none⟩ = some v → W.cell? ⟨w.heap.size + 1,o,none⟩ = some v) ∧ (∀ (W:World),Fr (OneB x.r) wc W → ∀ o v,wc.cell? ⟨w.heap.size,o,none⟩ = some v → W.cell? ⟨w.heap.size,o,none⟩ = some v)):=⟨hkr,hkr2⟩
  clear hkr hkr2
  have hnr:∀ (W:World),Fr (OneB x.r) wc W → RefAt W x.q x.ri x.rh x.n x.I x.H x.md:=fun W hf=>hR.fr hf
   (fun e=>by have e':x.q = x.r:=e;have q:=(HH.out.hok j x Hx.out);have q1:=q.or_;have q2:=q.oq;rw [e'] at q2;omega)
   (fun e=>by have e':x.ri = x.r:=e;have q:=(HH.out.hok j x Hx.out);have q1:=q.or_;have q2:=q.oi;rw [e'] at q2;omega)
   (fun e=>by have e':x.rh = x.r:=e;have q:=(HH.out.hok j x Hx.out);have q1:=q.or_;have q2:=q.oh;rw [e'] at q2;omega)
  have HNR:Hid (∀ (W:World),Fr (OneB x.r) wc W → RefAt W x.q x.ri x.rh x.n x.I x.H x.md):=hnr
  clear hnr
  have HT:=show Hid (∀ (w2 w3:World) (B V I H:Nat → Int) (md:Int),HeapAt w2 x.p x.r x.n B V → Fr (OneB x.r) wc w2 → RefAt w3 x.q x.ri x.rh x.n I H md → Fr (RefS x.q x.ri x.rh) w2 w3 → Rel x.n B V I H md → md ≤ bd + 1 → WOkH w0 w3 wp (bd + 1)) from
   fun w2 w3 B V I H md q1 q2 q3 q4 q5 q6=>turn HH.out Hx.out hF q1 q2 q3 q4 q5 q6
  have hW:=HH.out.no hF
  clear hH hR
  go_wp2_with fail
  refine (lruns_any w0 _ wp own bd _ lv hs ls j x hW hbd Hx.out).mono ?_
  rintro e w1 ⟨rfl,hE⟩
  have HE:Hid (WOkH w0 w1 wp (bd + 1)):=hE
  clear hE hW
  go_wp2
  go_ret
  exact ⟨rfl,HE.out⟩
end Go.Proofs.YthcjcjfgdgnljabGreatDoor
