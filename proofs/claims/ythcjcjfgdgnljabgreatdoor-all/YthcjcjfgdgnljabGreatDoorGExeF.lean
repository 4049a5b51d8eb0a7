import Derived.Test.YthcjcjfgdgnljabGreatDoorGExeC
set_option linter.unusedVariables false
set_option maxHeartbeats 4000000
set_option maxRecDepth 8000
open Go.Proofs.Tryz
namespace Go.Proofs.YthcjcjfgdgnljabGreatDoor
open Go.RowKit
section
section
variable (w:World) (rp q ri rh n:Nat) (s:ByteArray) (σ:St) (I H B V:Nat → Int) (md:Int)
theorem emoves_no (h:ExA w rp q ri rh n s σ I H B V md) (i k l:Nat) (hi:i + 2 < s.size) (hs:s.size ≤ 100000) (hk:k < 26) (hq:s[i].toNat = k + 65) (hl:l < 26) (hq2:s[i + 2].toNat = l + 65) (he:σ.bx l = []) :
  Calls prog 115 #[.pointer (some ⟨rp,0,none⟩),.int .i64 i] w fun e w'=>ExS rp q ri rh n s md (ends σ 4) w e w':=by
 have cs:=h.r.cs
 have HP:Hid (ExA w rp q ri rh n s σ I H B V md):=h
 have HH:Hid (CS 131 #[.pointer (some ⟨rp,0,none⟩),.int .i64 l] w (.int .i64 0)):=by
  have:=ehas w rp q ri rh n s σ I H B V md h l hl
  rwa [he] at this
 clear h
 go_enter func115,ntmps115
 go_wp2_with (first | (go_at_call 131;refine sameC HH.out ?_) | (go_at_call 108;refine (ends_fn _ rp s _ HP.out.r 4).mono ?_;rintro e w2 ⟨rfl,hR2,hF2⟩))
 go_ret
 exact ⟨rfl,toE (w:=w) (HP.out.ends (v:=4) hF2 hR2) (Int.le_refl _),exF_one q ri rh hF2⟩
theorem emoves_same (h:ExA w rp q ri rh n s σ I H B V md) (i k:Nat) (hi:i + 2 < s.size) (hs:s.size ≤ 100000) (hk:k < 26) (hq:s[i].toNat = k + 65) (hq2:s[i + 2].toNat = k + 65) (he:σ.bx k ≠ []) :
  Calls prog 115 #[.pointer (some ⟨rp,0,none⟩),.int .i64 i] w fun e w'=>ExS rp q ri rh n s md (σ,true) w e w':=by
 have cs:=h.r.cs
 have ch:=h.r.ch
 unfold rnE at ch
 simp only [] at ch
 have HP:Hid (ExA w rp q ri rh n s σ I H B V md):=h
 have hl:0 < (σ.bx k).length:=List.length_pos_iff.2 he
 have HH:Hid _:=ehas w rp q ri rh n s σ I H B V md h k hk
 generalize (σ.bx k).length = L at *
 clear h he
 go_enter func115,ntmps115
 go_wp2_with (first | (go_at_call 131;refine Calls.mono HH.out ?_;rintro e w1 ⟨rfl,hw⟩;have hw2:=hw.symm;clear hw;subst hw2))
 go_ret
 exact ⟨rfl,toE (w:=w) HP.out (Int.le_refl _),Fr.refl _ _⟩
theorem emoves_full (h:ExA w rp q ri rh n s σ I H B V md) (i k l:Nat) (hi:i + 2 < s.size) (hs:s.size ≤ 100000) (hk:k < 26) (hq:s[i].toNat = k + 65) (hl:l < 26) (hq2:s[i + 2].toNat = l + 65) (hkl:k ≠ l) (he:σ.bx l ≠ []) (hf:σ.bx k ≠ []) :
  Calls prog 115 #[.pointer (some ⟨rp,0,none⟩),.int .i64 i] w fun e w'=>ExS rp q ri rh n s md (ends σ 4) w e w':=by
 have cs:=h.r.cs
 have ch:=h.r.ch
 unfold rnE at ch
 simp only [] at ch
 have HP:Hid (ExA w rp q ri rh n s σ I H B V md):=h
 have hl1:0 < (σ.bx l).length:=List.length_pos_iff.2 he
 have hl2:0 < (σ.bx k).length:=List.length_pos_iff.2 hf
 have HH:Hid _:=ehas w rp q ri rh n s σ I H B V md h l hl
 have HK:Hid _:=ehas w rp q ri rh n s σ I H B V md h k hk
 generalize (σ.bx l).length = L at *
 generalize (σ.bx k).length = K at *
 have bkl:((k:Int) != (l:Int)) = true:=by rw [bne_iff_ne];exact fun e=>hkl (Int.ofNat.inj e)
 clear h he hf
 go_enter func115,ntmps115
 go_wp2_with (first | ((fail_if_success (have:=HM1.out));go_at_call 131;refine Calls.mono HH.out ?_;rintro e w1 ⟨rfl,hw⟩;have hw2:=hw.symm;clear hw;subst hw2;have HM1:Hid True:=trivial) | (go_at_call 131;refine Calls.mono HK.out ?_;rintro e w1 ⟨rfl,hw⟩;have hw2:=hw.symm;clear hw;subst hw2) | (go_at_call 108;refine (ends_fn _ rp s _ HP.out.r 4).mono ?_;rintro e w2 ⟨rfl,hR2,hF2⟩))
 go_ret
 exact ⟨rfl,toE (w:=w) (HP.out.ends (v:=4) hF2 hR2) (Int.le_refl _),exF_one q ri rh hF2⟩
theorem emoves_yes (h:ExA w rp q ri rh n s σ I H B V md) (i k l:Nat) (hi:i + 2 < s.size) (hs:s.size ≤ 100000) (hk:k < 26) (hq:s[i].toNat = k + 65) (hl:l < 26) (hq2:s[i + 2].toNat = l + 65) (hkl:k ≠ l) (he:σ.bx l ≠ []) (hf:σ.bx k = [])
  (hok:NumOk { σ with bx:=upB (upB σ.bx k (σ.bx l)) l [],at_:=upN σ.at_ k (σ.at_ l) }) :
  Calls prog 115 #[.pointer (some ⟨rp,0,none⟩),.int .i64 i] w fun e w'=>ExS rp q ri rh n s md ({ σ with bx:=upB (upB σ.bx k (σ.bx l)) l [],at_:=upN σ.at_ k (σ.at_ l) },true) w e w':=by
 have cs:=h.r.cs
 have ch:=h.r.ch
 have cw:=h.r.cw l hl
 have ca:=h.r.ca l hl
 have cl:=h.r.cl l hl
 have cwk:=h.r.cw k hk
 have cak:=h.r.ca k hk
 have clk:=h.r.cl k hk
 unfold rnE at ch cw ca cl cwk cak clk
 simp only [] at ch cw ca cl cwk cak clk
 have f1:=h.r.fz (27 + k)
 have f2:=h.r.fz (27 + l)
 have f3:=h.r.fz (54 + k)
 have f4:=h.r.fz (80 + k)
 have f5:=h.r.fz (80 + l)
 have HP:Hid (ExA w rp q ri rh n s σ I H B V md):=h
 have hln:0 < (σ.bx l).length:=List.length_pos_iff.2 he
 have HH:Hid _:=ehas w rp q ri rh n s σ I H B V md h l hl
 have HK:Hid (CS 131 #[.pointer (some ⟨rp,0,none⟩),.int .i64 k] w (.int .i64 0)):=by
  have:=ehas w rp q ri rh n s σ I H B V md h k hk
  rwa [hf] at this
 have HOk:Hid _:=hok
 have HFk:Hid _:=hf
 rw [hf] at clk
 have bkl:((k:Int) == (l:Int)) = false:=bF (by omega)
 have bkl2:((k:Int) != (l:Int)) = true:=by rw [bne_iff_ne];exact fun e=>hkl (Int.ofNat.inj e)
 clear h he hf hok
 generalize hL:(σ.bx l).length = L at *
 have HL:Hid _:=hL
 generalize hA:(σ.at_ l:Int) = A at *
 have HA:Hid _:=hA
 clear hL hA
 go_enter func115,ntmps115
 go_wp2_with (first | ((fail_if_success (have:=HM1.out));go_at_call 131;refine Calls.mono HH.out ?_;rintro e w1 ⟨rfl,hw⟩;have hw2:=hw.symm;clear hw;subst hw2;have HM1:Hid True:=trivial) | (go_at_call 131;refine Calls.mono HK.out ?_;rintro e w1 ⟨rfl,hw⟩;have hw2:=hw.symm;clear hw;subst hw2))
 go_region
 go_wp2
 go_region
 go_wp2
 go_region
 go_wp2
 go_ret
 have hF:Fr (OneB rp) w (((((w.setCell ⟨rp,27 + k,none⟩ (Value.slice none 0 0)).setCell ⟨rp,27 + l,none⟩ (Value.slice none 0 0)).setCell ⟨rp,54 + k,none⟩ (Value.int IntKind.i64 A)).setCell ⟨rp,80 + k,none⟩ (Value.int IntKind.i64 (L:Int))).setCell ⟨rp,80 + l,none⟩ (Value.int IntKind.i64 0)).drew.drew.drew :=
  ((((((((Fr.refl (OneB rp) w).setCell (p:=⟨rp,27 + k,none⟩) (fun _=>rfl) _).setCell (p:=⟨rp,27 + l,none⟩) (fun _=>rfl) _).setCell (p:=⟨rp,54 + k,none⟩) (fun _=>rfl) _).setCell (p:=⟨rp,80 + k,none⟩) (fun _=>rfl) _).setCell (p:=⟨rp,80 + l,none⟩) (fun _=>rfl) _).drew).drew).drew
 have r1:=HP.out.r.setWv hk (Value.slice none 0 0)
 rw [rnE_wv] at r1
 have r2:=r1.setWv hl (Value.slice none 0 0)
 rw [rnE_wv] at r2
 have r3:=r2.setAt hk (σ.at_ l:Int)
 rw [rnE_at] at r3
 have r4:=r3.setLen hk ((σ.bx l).length:Int)
 rw [rnE_len] at r4
 have r5:=r4.setLen hl ((([]:List Nat).length:Nat):Int)
 rw [rnE_len] at r5
 have r6:=r5.no ((((Fr.refl NoB _).drew).drew).drew)
 rw [HA.out,HL.out] at r6
 have hap:=HP.out.ap.move hk hl hkl
 have hhb:=HP.out.b.move hk hl hkl HFk.out
 have nq:¬ OneB rp q:=fun e=>HP.out.n1 (by unfold OneB at e;exact e.symm)
 have ni:¬ OneB rp ri:=fun e=>HP.out.n2 (by unfold OneB at e;exact e.symm)
 have nh:¬ OneB rp rh:=fun e=>HP.out.n3 (by unfold OneB at e;exact e.symm)
 exact ⟨rfl,toE (w:=w) ⟨r6,HP.out.h.fr hF nq ni nh,HP.out.l,hhb,hap,HOk.out,HP.out.n1,HP.out.n2,HP.out.n3,HP.out.m0⟩ (Int.le_refl _),exF_one q ri rh hF⟩
end
end
section
theorem RunAt.setPeak {w:World} {rp:Nat} {s:ByteArray} {x:Rn} (h:RunAt w rp s x) (v:Int):RunAt (w.setCell ⟨rp,110,none⟩ (.int .i64 v)) rp s { x with peak:=v } :=
 ⟨cell_at h.cs (by omega),fun k hk=>cell_at (h.cn k hk) (by omega),fun k hk=>cell_at (h.cw k hk) (by omega),cell_at h.ch (by omega),fun k hk=>cell_at (h.ca k hk) (by omega),fun k hk=>cell_at (h.cl k hk) (by omega),
  cell_at h.cf (by omega),cell_at h.co (by omega),cell_at h.ct (by omega),cell_at h.cu (by omega),cell_same h.cp,fun o=>by rw [World.frozen?_setCell];exact h.fz o⟩
section
variable (w:World) (rp q ri rh n:Nat) (s:ByteArray) (σ:St) (I H B V:Nat → Int) (md:Int)
theorem ealloc_yes (h:ExA w rp q ri rh n s σ I H B V md) (k a:Nat) (hk1:1 ≤ k) (hk2:k ≤ 64) (hmd:md < 9223372036854775807) (ha:allocS n σ k = some a) :
  Calls prog 22 #[.pointer (some ⟨q,0,none⟩),.int .i64 k] w fun e w'=>e = .returned (.tuple #[.int .i64 a,.int .i64 0]) ∧ RefAt w' q ri rh n (setTo I a (a + k) (md + 1)) (setTo H a (a + k) 0) (md + 1) ∧ Fr (RefS q ri rh) w w':=by
 obtain ⟨hf,hlow⟩:=alloc_is ha
 have hfi:∀ b,FreeAt I n k b ↔ FreeS n σ k b:=fun b=>(h.l.freeAt k b).symm.trans (h.b.free h.ap hk1)
 refine (ralloc_any w q ri rh n I H md k h.h hk1 hk2 h.m0 hmd).mono ?_
 rintro e w' (⟨b,hb,hmin,rfl,hR,hF⟩ | ⟨hno,_⟩)
 ·have e1:b = a:=by
   have h1:=hmin a ((hfi a).2 hf)
   by_cases e:b < a
   ·exact absurd ((hfi b).1 hb) (hlow b e)
   ·omega
  subst e1
  exact ⟨rfl,hR,hF⟩
 ·exact absurd ((hfi a).2 hf) (hno a)
theorem ealloc_none (h:ExA w rp q ri rh n s σ I H B V md) (k:Nat) (hk1:1 ≤ k) (hk2:k ≤ 64) (hmd:md < 9223372036854775807) (ha:allocS n σ k = none) :
  CS 22 #[.pointer (some ⟨q,0,none⟩),.int .i64 k] w (.tuple #[.int .i64 0,.int .i64 6]):=by
 have hno:=alloc_no ha
 have hfi:∀ b,FreeAt I n k b ↔ FreeS n σ k b:=fun b=>(h.l.freeAt k b).symm.trans (h.b.free h.ap hk1)
 refine (ralloc_any w q ri rh n I H md k h.h hk1 hk2 h.m0 hmd).mono ?_
 rintro e w' (⟨b,hb,hmin,rfl,hR,hF⟩ | ⟨hno,rfl,rfl⟩)
 ·exact absurd ((hfi b).1 hb) (hno b)
 ·exact ⟨rfl,rfl⟩
theorem egets_full (h:ExA w rp q ri rh n s σ I H B V md) (i j k:Nat) (hi:i < s.size) (hs:s.size ≤ 100000) (hk:k < 26) (hq:s[i].toNat = k + 65) (ho:Opnd s (i + 3) j) (hj:j < s.size) (hd:digitN (bt s j) = false) (he:σ.bx k ≠ []) :
  Calls prog 114 #[.pointer (some ⟨rp,0,none⟩),.int .i64 i] w fun e w'=>ExS rp q ri rh n s md (ends σ 4) w e w':=by
 have cs:=h.r.cs
 have ch:=h.r.ch
 have HP:Hid (ExA w rp q ri rh n s σ I H B V md):=h
 have HV:Hid (CR 82 #[.pointer (some ⟨rp,0,none⟩),.int .i64 ((i:Int) + 3)] w (.int .i64 (valN s (rnE σ q).num (i + 3) j))):=value_fn w rp s _ h.r (i + 3) j ho hj hs hd
 have hl:0 < (σ.bx k).length:=List.length_pos_iff.2 he
 have HH:Hid (∀ W,ExA W rp q ri rh n s σ I H B V md → CS 131 #[.pointer (some ⟨rp,0,none⟩),.int .i64 k] W (.int .i64 ((σ.bx k).length:Int))):=fun W hW=>ehas W rp q ri rh n s σ I H B V md hW k hk
 generalize (σ.bx k).length = L at *
 generalize valN s (rnE σ q).num (i + 3) j = v at *
 unfold rnE at ch
 simp only [] at ch
 clear h ho hd he
 go_enter func114,ntmps114
 go_wp2_with (first | (go_at_call 82;refine HV.out.mono ?_;rintro e w1 ⟨rfl,hF1⟩;have HP1:Hid _:=HP.out.no hF1;have ch1:=hF1.cell_some ch id) | (go_at_call 131;refine sameC (HH.out _ HP1.out) ?_) | (go_at_call 108;refine (ends_fn _ rp s _ HP1.out.r 4).mono ?_;rintro e w2 ⟨rfl,hR2,hF2⟩))
 go_ret
 exact ⟨rfl,toE (w:=w) (HP1.out.ends (v:=4) hF2 hR2) (Int.le_refl _),hF1.of_no.trans (exF_one q ri rh hF2)⟩
theorem egets_trap (h:ExA w rp q ri rh n s σ I H B V md) (i j k:Nat) (hi:i < s.size) (hs:s.size ≤ 100000) (hk:k < 26) (hq:s[i].toNat = k + 65) (ho:Opnd s (i + 3) j) (hj:j < s.size) (hd:digitN (bt s j) = false) (he:σ.bx k = []) (hv:valN s (rnE σ q).num (i + 3) j < 1 ∨ 64 < valN s (rnE σ q).num (i + 3) j) :
  Calls prog 114 #[.pointer (some ⟨rp,0,none⟩),.int .i64 i] w fun e w'=>ExS rp q ri rh n s md (ends σ 1) w e w':=by
 have cs:=h.r.cs
 have ch:=h.r.ch
 have HP:Hid (ExA w rp q ri rh n s σ I H B V md):=h
 have HV:Hid (∀ _:Unit,CR 82 #[.pointer (some ⟨rp,0,none⟩),.int .i64 ((i:Int) + 3)] w (.int .i64 (valN s (rnE σ q).num (i + 3) j))):=fun _=>value_fn w rp s _ h.r (i + 3) j ho hj hs hd
 have HH:Hid (∀ W,ExA W rp q ri rh n s σ I H B V md → CS 131 #[.pointer (some ⟨rp,0,none⟩),.int .i64 k] W (.int .i64 0)):=fun W hW=>by
  have:=ehas W rp q ri rh n s σ I H B V md hW k hk
  rwa [he] at this
 generalize valN s (rnE σ q).num (i + 3) j = v at *
 unfold rnE at ch
 simp only [] at ch
 clear h ho hd he
 rcases hv with hv | hv
 ·go_enter func114,ntmps114
  go_wp2_with (first | (go_at_call 82;refine (HV.out ()).mono ?_;rintro e w1 ⟨rfl,hF1⟩;have HP1:Hid _:=HP.out.no hF1;have ch1:=hF1.cell_some ch id) | (go_at_call 131;refine sameC (HH.out _ HP1.out) ?_) | (go_at_call 108;refine (ends_fn _ rp s _ HP1.out.r 1).mono ?_;rintro e w2 ⟨rfl,hR2,hF2⟩))
  go_ret
  exact ⟨rfl,toE (w:=w) (HP1.out.ends (v:=1) hF2 hR2) (Int.le_refl _),hF1.of_no.trans (exF_one q ri rh hF2)⟩
 ·have hv0:¬ v < 1:=by omega
  go_enter func114,ntmps114
  go_wp2_with (first | (go_at_call 82;refine (HV.out ()).mono ?_;rintro e w1 ⟨rfl,hF1⟩;have HP1:Hid _:=HP.out.no hF1;have ch1:=hF1.cell_some ch id) | (go_at_call 131;refine sameC (HH.out _ HP1.out) ?_) | (go_at_call 108;refine (ends_fn _ rp s _ HP1.out.r 1).mono ?_;rintro e w2 ⟨rfl,hR2,hF2⟩))
  go_ret
  exact ⟨rfl,toE (w:=w) (HP1.out.ends (v:=1) hF2 hR2) (Int.le_refl _),hF1.of_no.trans (exF_one q ri rh hF2)⟩
theorem egets_none (h:ExA w rp q ri rh n s σ I H B V md) (i j k v:Nat) (hi:i < s.size) (hs:s.size ≤ 100000) (hk:k < 26) (hq:s[i].toNat = k + 65) (ho:Opnd s (i + 3) j) (hj:j < s.size) (hd:digitN (bt s j) = false) (he:σ.bx k = []) (hv:valN s (rnE σ q).num (i + 3) j = (v:Int)) (hv1:1 ≤ v) (hv2:v ≤ 64) (hmd:md < 9223372036854775807) (ha:allocS n σ v = none) :
  Calls prog 114 #[.pointer (some ⟨rp,0,none⟩),.int .i64 i] w fun e w'=>ExS rp q ri rh n s md (ends σ 3) w e w':=by
 have cs:=h.r.cs
 have ch:=h.r.ch
 have HP:Hid (ExA w rp q ri rh n s σ I H B V md):=h
 have HV:Hid (CR 82 #[.pointer (some ⟨rp,0,none⟩),.int .i64 ((i:Int) + 3)] w (.int .i64 v)):=by
  have:=value_fn w rp s _ h.r (i + 3) j ho hj hs hd
  rwa [hv] at this
 have HH:Hid (∀ W,ExA W rp q ri rh n s σ I H B V md → CS 131 #[.pointer (some ⟨rp,0,none⟩),.int .i64 k] W (.int .i64 0)):=fun W hW=>by
  have:=ehas W rp q ri rh n s σ I H B V md hW k hk
  rwa [he] at this
 have HA:Hid (∀ W,ExA W rp q ri rh n s σ I H B V md → CS 22 #[.pointer (some ⟨q,0,none⟩),.int .i64 v] W (.tuple #[.int .i64 0,.int .i64 6])):=fun W hW=>ealloc_none W rp q ri rh n s σ I H B V md hW v hv1 hv2 hmd ha
 unfold rnE at ch
 simp only [] at ch
 clear h ho hd he hv ha
 go_enter func114,ntmps114
 go_wp2_with (first | (go_at_call 82;refine HV.out.mono ?_;rintro e w1 ⟨rfl,hF1⟩;have HP1:Hid _:=HP.out.no hF1;have ch1:=hF1.cell_some ch id) | (go_at_call 131;refine sameC (HH.out _ HP1.out) ?_) | (go_at_call 22;refine sameC (HA.out _ HP1.out) ?_) | (go_at_call 108;refine (ends_fn _ rp s _ HP1.out.r 3).mono ?_;rintro e w2 ⟨rfl,hR2,hF2⟩))
 go_ret
 exact ⟨rfl,toE (w:=w) (HP1.out.ends (v:=3) hF2 hR2) (Int.le_refl _),hF1.of_no.trans (exF_one q ri rh hF2)⟩
theorem egets_yes (h:ExA w rp q ri rh n s σ I H B V md) (i j k v a:Nat) (hi:i < s.size) (hs:s.size ≤ 100000) (hk:k < 26) (hq:s[i].toNat = k + 65) (ho:Opnd s (i + 3) j) (hj:j < s.size) (hd:digitN (bt s j) = false) (he:σ.bx k = []) (hv:valN s (rnE σ q).num (i + 3) j = (v:Int)) (hv1:1 ≤ v) (hv2:v ≤ 64) (hmd:md < 9223372036854775807) (ha:allocS n σ v = some a)
  (hok:NumOk { σ with bx:=upB σ.bx k (List.replicate v 0),at_:=upN σ.at_ k a,peak:=max σ.peak (a + v) }) :
  Calls prog 114 #[.pointer (some ⟨rp,0,none⟩),.int .i64 i] w fun e w'=>ExS rp q ri rh n s (md + 1) ({ σ with bx:=upB σ.bx k (List.replicate v 0),at_:=upN σ.at_ k a,peak:=max σ.peak (a + v) },true) w e w':=by
 have cs:=h.r.cs
 have ch:=h.r.ch
 have hrl:=h.r.lt
 have HP:Hid (ExA w rp q ri rh n s σ I H B V md):=h
 have HV:Hid (CR 82 #[.pointer (some ⟨rp,0,none⟩),.int .i64 ((i:Int) + 3)] w (.int .i64 v)):=by
  have:=value_fn w rp s _ h.r (i + 3) j ho hj hs hd
  rwa [hv] at this
 have HH:Hid (∀ W,ExA W rp q ri rh n s σ I H B V md → CS 131 #[.pointer (some ⟨rp,0,none⟩),.int .i64 k] W (.int .i64 0)):=fun W hW=>by
  have:=ehas W rp q ri rh n s σ I H B V md hW k hk
  rwa [he] at this
 have HA:Hid (∀ W,ExA W rp q ri rh n s σ I H B V md → Calls prog 22 #[.pointer (some ⟨q,0,none⟩),.int .i64 v] W fun e w'=>e = .returned (.tuple #[.int .i64 a,.int .i64 0]) ∧ RefAt w' q ri rh n (setTo I a (a + v) (md + 1)) (setTo H a (a + v) 0) (md + 1) ∧ Fr (RefS q ri rh) W w'):=fun W hW=>ealloc_yes W rp q ri rh n s σ I H B V md hW v a hv1 hv2 hmd ha
 have hf:=(alloc_is ha).1
 have hfb:=(h.b.free h.ap hv1).2 hf
 have hse:({ σ with bx:=upB σ.bx k [] }:St) = σ:=by rw [upB_self he]
 have HRel:Hid _:=h.l.alloc hv1 hfb
 have HHB:Hid (HB n (markTo B a (a + v)) V { σ with bx:=upB σ.bx k (List.replicate v 0),at_:=upN σ.at_ k a,peak:=max σ.peak (a + v) }):=HB.make (by rw [hse];exact h.b) hk (by rw [hse];exact hf) hv1
 have HAp:Hid (Ap n { σ with bx:=upB σ.bx k (List.replicate v 0),at_:=upN σ.at_ k a,peak:=max σ.peak (a + v) }):=Ap.fill (by rw [hse];exact h.ap) (by simp) hv2 (by rw [hse];exact hf)
 have HOk:Hid _:=hok
 have hmm:=h.m0
 have hav:a + v ≤ n:=hf.1
 have hn:=h.h.hi
 unfold rnE at ch
 simp only [] at ch
 have HN:Hid (¬ RefS q ri rh rp):=fun e=>by
  unfold RefS at e
  rcases e with e | e | e
  ·exact HP.out.n1 e
  ·exact HP.out.n2 e
  ·exact HP.out.n3 e
 clear h ho hd he hv ha hok hfb hf hse
 have key:∀ (w2 w3:World) (σ':St),ExA w2 rp q ri rh n s σ I H B V md → RefAt w3 q ri rh n (setTo I a (a + v) (md + 1)) (setTo H a (a + v) 0) (md + 1) → ∀ w4,Fr (OneB rp) w3 w4 → RunAt w4 rp s (rnE { σ with bx:=upB σ.bx k (List.replicate v 0),at_:=upN σ.at_ k a,peak:=max σ.peak (a + v) } q) →
   ExA w4 rp q ri rh n s { σ with bx:=upB σ.bx k (List.replicate v 0),at_:=upN σ.at_ k a,peak:=max σ.peak (a + v) } (setTo I a (a + v) (md + 1)) (setTo H a (a + v) 0) (markTo B a (a + v)) V (md + 1):=fun w2 w3 σ' h1 h2 w4 h3 h4 =>
  ⟨h4,h2.fr h3 (fun e=>HP.out.n1 (by unfold OneB at e;exact e.symm)) (fun e=>HP.out.n2 (by unfold OneB at e;exact e.symm)) (fun e=>HP.out.n3 (by unfold OneB at e;exact e.symm)),HRel.out,HHB.out,HAp.out,HOk.out,HP.out.n1,HP.out.n2,HP.out.n3,by omega⟩
 have HKey:Hid _:=key
 clear key
 go_enter func114,ntmps114
 go_upto_region 13 with (first | (go_at_call 82;refine HV.out.mono ?_;rintro e w1 ⟨rfl,hF1⟩;have HP1:Hid _:=HP.out.no hF1;have ch1:=hF1.cell_some ch id) | (go_at_call 131;refine sameC (HH.out _ HP1.out) ?_) | (go_at_call 22;refine (HA.out _ HP1.out).mono ?_;rintro e w2 ⟨rfl,hR2,hF2⟩))
 have HR2:Hid _:=hR2
 have HFa:Hid (Fr (ExF rp q ri rh) w w2):=hF1.of_no.trans (exF_ref rp hF2)
 have hRun:=HP1.out.heap hF2
 have HRun:Hid _:=hRun
 have ca:=hRun.ca k hk
 have cl:=hRun.cl k hk
 have cp:=hRun.cp
 have f1:=hRun.fz (54 + k)
 have f2:=hRun.fz (80 + k)
 have f3:=hRun.fz 110
 unfold rnE at ca cl cp
 simp only [] at ca cl cp
 clear hR2 hF1 hF2 hRun cs ch ch1 HV HH HA
 have r1:=HRun.out.setAt hk (a:Int)
 rw [rnE_at] at r1
 have r2:=r1.setLen hk ((List.replicate v 0).length:Int)
 rw [rnE_len] at r2
 rw [List.length_replicate] at r2
 have HR4:Hid _:=r2
 clear r1 r2
 have hF4:Fr (OneB rp) w2 ((w2.setCell ⟨rp,54 + k,none⟩ (.int .i64 a)).setCell ⟨rp,80 + k,none⟩ (.int .i64 v)):=((Fr.refl (OneB rp) w2).setCell (p:=⟨rp,54 + k,none⟩) (fun _=>rfl) _).setCell (p:=⟨rp,80 + k,none⟩) (fun _=>rfl) _
 have HF4:Hid _:=hF4
 clear hF4
 by_cases hp:σ.peak < a + v
 ·have hmax:Hid (max σ.peak (a + v) = a + v):=by show max σ.peak (a + v) = a + v;omega
  have bp:decide ((σ.peak:Int) < (a:Int) + (v:Int)) = true:=decide_eq_true (by omega)
  generalize hpk:(σ.peak:Int) = P at *
  have HPk:Hid _:=hpk
  clear hpk hp
  go_wp2
  go_ret
  have r3:=HR4.out.setPeak ((a:Int) + (v:Int))
  refine ⟨rfl,toE (w:=w) (HKey.out _ _ σ HP1.out HR2.out _ (HF4.out.setCell (p:=⟨rp,110,none⟩) (fun _=>rfl) (.int .i64 ((a:Int) + (v:Int)))) ?_) (Int.le_refl _),HFa.out.trans (exF_one q ri rh (HF4.out.setCell (p:=⟨rp,110,none⟩) (fun _=>rfl) (.int .i64 ((a:Int) + (v:Int)))))⟩
  rw [hmax.out]
  exact r3
 ·have hmax:Hid (max σ.peak (a + v) = σ.peak):=by show max σ.peak (a + v) = σ.peak;omega
  have bp:decide ((σ.peak:Int) < (a:Int) + (v:Int)) = false:=decide_eq_false (by omega)
  generalize hpk:(σ.peak:Int) = P at *
  have HPk:Hid _:=hpk
  clear hpk hp
  go_wp2
  go_ret
  refine ⟨rfl,toE (w:=w) (HKey.out _ _ σ HP1.out HR2.out _ HF4.out ?_) (Int.le_refl _),HFa.out.trans (exF_one q ri rh HF4.out)⟩
  rw [hmax.out]
  exact HR4.out
end
end
section
section
variable (w:World) (rp q ri rh n:Nat) (s:ByteArray) (σ:St) (I H B V:Nat → Int) (md:Int)
theorem estore_no (h:ExA w rp q ri rh n s σ I H B V md) (i k:Nat) (hi:i < s.size) (hs:s.size ≤ 100000) (hk:k < 26) (hq:s[i].toNat = k + 65) (he:σ.bx k = []) :
  Calls prog 113 #[.pointer (some ⟨rp,0,none⟩),.int .i64 i] w fun e w'=>ExS rp q ri rh n s md (ends σ 4) w e w':=by
 have cs:=h.r.cs
 have HP:Hid (ExA w rp q ri rh n s σ I H B V md):=h
 have HH:Hid (CS 131 #[.pointer (some ⟨rp,0,none⟩),.int .i64 k] w (.int .i64 0)):=by
  have:=ehas w rp q ri rh n s σ I H B V md h k hk
  rwa [he] at this
 clear h
 go_enter func113,ntmps113
 go_wp2_with (first | (go_at_call 131;refine sameC HH.out ?_) | (go_at_call 108;refine (ends_fn _ rp s _ HP.out.r 4).mono ?_;rintro e w2 ⟨rfl,hR2,hF2⟩))
 go_ret
 exact ⟨rfl,toE (w:=w) (HP.out.ends (v:=4) hF2 hR2) (Int.le_refl _),exF_one q ri rh hF2⟩
theorem estore_out (h:ExA w rp q ri rh n s σ I H B V md) (i j k a:Nat) (hi:i < s.size) (hs:s.size ≤ 100000) (hk:k < 26) (hq:s[i].toNat = k + 65) (he:σ.bx k ≠ []) (ho:Opnd s (i + 2) j) (hj:j < s.size) (hd:digitN (bt s j) = false) (hv:valN s (rnE σ q).num (i + 2) j = (a:Int)) (hv2:(σ.bx k).length ≤ a) :
  Calls prog 113 #[.pointer (some ⟨rp,0,none⟩),.int .i64 i] w fun e w'=>ExS rp q ri rh n s md (ends σ 1) w e w':=by
 have cs:=h.r.cs
 have HP:Hid (ExA w rp q ri rh n s σ I H B V md):=h
 have hl:0 < (σ.bx k).length:=List.length_pos_iff.2 he
 have HV:Hid (CR 82 #[.pointer (some ⟨rp,0,none⟩),.int .i64 ((i:Int) + 2)] w (.int .i64 a)):=by
  have:=value_fn w rp s _ h.r (i + 2) j ho hj hs hd
  rwa [hv] at this
 have HH:Hid (∀ W,ExA W rp q ri rh n s σ I H B V md → CS 131 #[.pointer (some ⟨rp,0,none⟩),.int .i64 k] W (.int .i64 ((σ.bx k).length:Int))):=fun W hW=>ehas W rp q ri rh n s σ I H B V md hW k hk
 generalize (σ.bx k).length = L at *
 clear h he ho hd hv
 go_enter func113,ntmps113
 go_wp2_with (first | ((fail_if_success (have:=HP1.out));go_at_call 131;refine Calls.mono (HH.out _ HP.out) ?_;rintro e w1 ⟨rfl,hw⟩;have hw2:=hw.symm;clear hw;subst hw2) | ((fail_if_success (have:=HP1.out));go_at_call 82;refine HV.out.mono ?_;rintro e w1 ⟨rfl,hF1⟩;have HP1:Hid _:=HP.out.no hF1) | (go_at_call 131;refine Calls.mono (HH.out _ HP1.out) ?_;rintro e w5 ⟨rfl,hw⟩;have hw2:=hw.symm;clear hw;subst hw2) | (go_at_call 108;refine (ends_fn _ rp s _ HP1.out.r 1).mono ?_;rintro e w2 ⟨rfl,hR2,hF2⟩))
 go_ret
 exact ⟨rfl,toE (w:=w) (HP1.out.ends (v:=1) hF2 hR2) (Int.le_refl _),hF1.of_no.trans (exF_one q ri rh hF2)⟩
theorem estore_yes (h:ExA w rp q ri rh n s σ I H B V md) (i j l k a v:Nat) (hi:i < s.size) (hs:s.size ≤ 100000) (hk:k < 26) (hq:s[i].toNat = k + 65) (ho:Opnd s (i + 2) j) (hj:j < s.size) (hd:digitN (bt s j) = false) (hv:valN s (rnE σ q).num (i + 2) j = (a:Int)) (hv2:a < (σ.bx k).length)
  (ho2:Opnd s (j + 2) l) (hj2:l < s.size) (hd2:digitN (bt s l) = false) (hu:valN s (rnE σ q).num (j + 2) l = (v:Int)) (hv1000:v < 1000) (hok:NumOk { σ with bx:=upB σ.bx k ((σ.bx k).set a v) }) :
  Calls prog 113 #[.pointer (some ⟨rp,0,none⟩),.int .i64 i] w fun e w'=>ExS rp q ri rh n s md ({ σ with bx:=upB σ.bx k ((σ.bx k).set a v) },true) w e w':=by
 have cs:=h.r.cs
 have ch:=h.r.ch
 have ca:=h.r.ca k hk
 unfold rnE at ch ca
 simp only [] at ch ca
 have he:σ.bx k ≠ []:=fun e=>by rw [e] at hv2;simp at hv2
 have HP:Hid (ExA w rp q ri rh n s σ I H B V md):=h
 have hn:=h.ok.sz k
 have hin:=h.ap.inn k hk he
 have hnn:=h.h.hi
 have hon:=(h.b.on k hk a hv2).1
 have hkn:σ.at_ k + a < n:=by omega
 have hb0:B (σ.at_ k + a) ≠ 0:=by omega
 have hi0:I (σ.at_ k + a) ≠ 0:=fun e=>hb0 ((h.l.zz _ hkn).2 e)
 have HV:Hid (CR 82 #[.pointer (some ⟨rp,0,none⟩),.int .i64 ((i:Int) + 2)] w (.int .i64 a)):=by
  have:=value_fn w rp s _ h.r (i + 2) j ho hj hs hd
  rwa [hv] at this
 have HO:Hid (∀ W,CS 102 #[.string s,.int .i64 ((i:Int) + 2)] W (.int .i64 j)):=fun W=>bop_fn W s (i + 2) j ho hj hs hd
 have HU:Hid (∀ W,RunAt W rp s (rnE σ q) → CR 82 #[.pointer (some ⟨rp,0,none⟩),.int .i64 ((j:Int) + 2)] W (.int .i64 v)):=fun W hW=>by
  have:=value_fn W rp s _ hW (j + 2) l ho2 hj2 hs hd2
  rwa [hu] at this
 have HH:Hid (∀ W,ExA W rp q ri rh n s σ I H B V md → CS 131 #[.pointer (some ⟨rp,0,none⟩),.int .i64 k] W (.int .i64 ((σ.bx k).length:Int))):=fun W hW=>ehas W rp q ri rh n s σ I H B V md hW k hk
 have HS:Hid (∀ W,ExA W rp q ri rh n s σ I H B V md → Calls prog 28 #[.pointer (some ⟨q,0,none⟩),.int .i64 ((σ.at_ k:Int) + (a:Int)),.int .i64 v] W fun e w'=>e = .returned (.int .i64 0) ∧ RefAt w' q ri rh n I (upd H (σ.at_ k + a) (v:Int)) md ∧ Fr (RefS q ri rh) W w'):=fun W hW=>by
  have:=rstore_yes W q ri rh n I H md (σ.at_ k + a) (v:Int) hW.h hkn hi0 (by omega) (by omega)
  rwa [Int.natCast_add] at this
 have HRel:Hid _:=h.l.store hb0 (v:Int)
 have HHB:Hid (HB n B (upd V (σ.at_ k + a) (v:Int)) { σ with bx:=upB σ.bx k ((σ.bx k).set a v) }):=h.b.store h.ap hk hv2
 have HAp:Hid (Ap n { σ with bx:=upB σ.bx k ((σ.bx k).set a v) }):=h.ap.less (fun b hb=>by
  by_cases e:b = k
  ·subst e
   exact ⟨he,by show (upB σ.bx b ((σ.bx b).set a v) b).length = _;rw [upB_at];simp⟩
  ·have hb':upB σ.bx k ((σ.bx k).set a v) b ≠ []:=hb
   rw [upB_ne _ _ e] at hb'
   exact ⟨hb',by show (upB σ.bx k ((σ.bx k).set a v) b).length = _;rw [upB_ne _ _ e]⟩) rfl
 have HOk:Hid _:=hok
 have HEq:Hid (rnE { σ with bx:=upB σ.bx k ((σ.bx k).set a v) } q = rnE σ q):=by
  show rnE _ q = rnE σ q
  rw [← rnE_len]
  have e:updI (rnE σ q).len k (((σ.bx k).set a v).length:Int) = (rnE σ q).len:=by
   funext j
   unfold updI rnE
   split
   ·rename_i e;subst e;simp
   ·rfl
  rw [e]
 have hat:σ.at_ k ≤ 4096:=by omega
 have Hwr:Hid (IntKind.i64.wrap ((σ.at_ k:Int) + (a:Int)) = (σ.at_ k:Int) + (a:Int)):=by show IntKind.i64.wrap _ = _;simp [IntKind.wrap,IntKind.signed,IntKind.bits];omega
 generalize hL:(σ.bx k).length = L at hn hin HH hv2
 clear h he ho hd hv ho2 hd2 hu hok hon hb0 hi0 hkn hL hin
 generalize hAt:(σ.at_ k:Int) = A at ca HS Hwr
 clear hAt hat
 go_enter func113,ntmps113
 go_wp2_with (first | ((fail_if_success (have:=HP1.out));go_at_call 131;refine Calls.mono (HH.out _ HP.out) ?_;rintro e w1 ⟨rfl,hw⟩;have hw2:=hw.symm;clear hw;subst hw2) | ((fail_if_success (have:=HP1.out));go_at_call 82;refine HV.out.mono ?_;rintro e w1 ⟨rfl,hF1⟩;have HP1:Hid _:=HP.out.no hF1;have cs1:=hF1.cell_some cs id) | (go_at_call 131;refine Calls.mono (HH.out _ HP1.out) ?_;rintro e w5 ⟨rfl,hw⟩;have hw2:=hw.symm;clear hw;subst hw2) | (go_at_call 102;refine sameC (HO.out _) ?_) | (go_at_call 82;refine (HU.out _ HP1.out.r).mono ?_;rintro e w2 ⟨rfl,hF2⟩;have HP2:Hid _:=HP1.out.no hF2;have ch2:=(hF1.trans hF2).cell_some ch id;have ca2:=(hF1.trans hF2).cell_some ca id))
 have HF2:Hid _:=(hF1.trans hF2)
 clear hF1 hF2 HH HV HU HO cs cs1 ch ca hv2
 go_region_with (go_at_call 28;first | (rw [Hwr.out];refine (HS.out _ (HP2.out.no (Fr.refl _ _).drew)).mono ?_;rintro e w3 ⟨rfl,hR3,hF3⟩;have HR3:Hid _:=hR3;have HF3:Hid (Fr (RefS q ri rh) w2 w3):=(((Fr.refl _ _).drew)).trans hF3;clear hR3 hF3) | (refine (HS.out _ (HP2.out.no (Fr.refl _ _).drew)).mono ?_;rintro e w3 ⟨rfl,hR3,hF3⟩;have HR3:Hid _:=hR3;have HF3:Hid (Fr (RefS q ri rh) w2 w3):=(((Fr.refl _ _).drew)).trans hF3;clear hR3 hF3))
 all_goals
  go_wp2
  go_ret
  have hR4:=HP2.out.heap HF3.out
  rw [← HEq.out] at hR4
  exact ⟨rfl,toE (w:=w) ⟨hR4,HR3.out,HRel.out,HHB.out,HAp.out,HOk.out,HP2.out.n1,HP2.out.n2,HP2.out.n3,HP2.out.m0⟩ (Int.le_refl _),HF2.out.of_no.trans (exF_ref rp HF3.out)⟩
end
end
end Go.Proofs.YthcjcjfgdgnljabGreatDoor
