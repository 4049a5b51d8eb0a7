import Derived.Test.YthcjcjfgdgnljabGreatDoorGExeF
set_option linter.unusedVariables false
set_option maxHeartbeats 4000000
set_option maxRecDepth 8000
open Go.Proofs.Tryz
namespace Go.Proofs.YthcjcjfgdgnljabGreatDoor
open Go.RowKit
section
section
variable (w:World) (rp q ri rh n:Nat) (s:ByteArray) (σ:St) (I H B V:Nat → Int) (md:Int)
theorem esize_no (h:ExA w rp q ri rh n s σ I H B V md) (i k b:Nat) (hi:i + 3 < s.size) (hs:s.size ≤ 100000) (hk:k < 26) (hq:s[i].toNat = k + 97) (h2:s[i + 2].toNat = 35) (hb:b < 26) (h3:s[i + 3].toNat = b + 65) (he:σ.bx b = []) :
  Calls prog 112 #[.pointer (some ⟨rp,0,none⟩),.int .i64 i] w fun e w'=>ExS rp q ri rh n s md (ends σ 4) w e w':=by
 have cs:=h.r.cs
 have HP:Hid (ExA w rp q ri rh n s σ I H B V md):=h
 have HH:Hid (CS 131 #[.pointer (some ⟨rp,0,none⟩),.int .i64 b] w (.int .i64 0)):=by
  have:=ehas w rp q ri rh n s σ I H B V md h b hb
  rwa [he] at this
 clear h
 go_enter func112,ntmps112
 go_wp2_with (first | (go_at_call 131;refine sameC HH.out ?_) | (go_at_call 108;refine (ends_fn _ rp s _ HP.out.r 4).mono ?_;rintro e w2 ⟨rfl,hR2,hF2⟩))
 go_ret
 exact ⟨rfl,toE (w:=w) (HP.out.ends (v:=4) hF2 hR2) (Int.le_refl _),exF_one q ri rh hF2⟩
theorem esize_yes (h:ExA w rp q ri rh n s σ I H B V md) (i k b:Nat) (hi:i + 3 < s.size) (hs:s.size ≤ 100000) (hk:k < 26) (hq:s[i].toNat = k + 97) (h2:s[i + 2].toNat = 35) (hb:b < 26) (h3:s[i + 3].toNat = b + 65) (he:σ.bx b ≠ []) :
  Calls prog 112 #[.pointer (some ⟨rp,0,none⟩),.int .i64 i] w fun e w'=>ExS rp q ri rh n s md ({ σ with num:=upN σ.num k (σ.bx b).length },true) w e w':=by
 have cs:=h.r.cs
 have cn:=h.r.cn k hk
 have fz:=h.r.fz (1 + k)
 have HP:Hid (ExA w rp q ri rh n s σ I H B V md):=h
 have hl:0 < (σ.bx b).length:=List.length_pos_iff.2 he
 have hl2:=h.ok.sz b
 have HH:Hid (∀ W,ExA W rp q ri rh n s σ I H B V md → CS 131 #[.pointer (some ⟨rp,0,none⟩),.int .i64 b] W (.int .i64 ((σ.bx b).length:Int))):=fun W hW=>ehas W rp q ri rh n s σ I H B V md hW b hb
 generalize (σ.bx b).length = L at *
 clear h he
 go_enter func112,ntmps112
 go_wp2_with (first | (go_at_call 131;refine sameC (HH.out _ HP.out) ?_))
 go_region_with (go_at_call 131;refine (HH.out _ (HP.out.no (Fr.refl _ _).drew)).mono ?_;rintro e w' ⟨rfl,rfl⟩)
 go_wp2
 go_ret
 have hF:=((Fr.refl (OneB rp) w).setCell (p:=⟨rp,1 + k,none⟩) (fun _=>rfl) (.int .i64 L)).drew
 exact ⟨rfl,toE (w:=w) (HP.out.num (k:=k) (v:=L) (by omega) hF ((HP.out.r.setNum hk (L:Int)).no (Fr.refl _ _).drew)) (Int.le_refl _),exF_one q ri rh hF⟩
theorem eload_no (h:ExA w rp q ri rh n s σ I H B V md) (i k b:Nat) (hi:i + 2 < s.size) (hs:s.size ≤ 100000) (hk:k < 26) (hq:s[i].toNat = k + 97) (hb:b < 26) (h3:s[i + 2].toNat = b + 65) (he:σ.bx b = []) :
  Calls prog 112 #[.pointer (some ⟨rp,0,none⟩),.int .i64 i] w fun e w'=>ExS rp q ri rh n s md (ends σ 4) w e w':=by
 have cs:=h.r.cs
 have HP:Hid (ExA w rp q ri rh n s σ I H B V md):=h
 have HH:Hid (CS 131 #[.pointer (some ⟨rp,0,none⟩),.int .i64 b] w (.int .i64 0)):=by
  have:=ehas w rp q ri rh n s σ I H B V md h b hb
  rwa [he] at this
 have HG:Hid (∀ W,CS 88 #[.int .u8 ((b:Int) + 65)] W (.bool true)):=fun W=>by
  have:=great_fn W (b + 65) (by omega)
  rwa [show greatN (b + 65) = true by simp [greatN];omega] at this
 clear h
 go_enter func112,ntmps112
 go_wp2_with (first | (go_at_call 88;refine sameC (HG.out _) ?_) | (go_at_call 131;refine sameC HH.out ?_) | (go_at_call 108;refine (ends_fn _ rp s _ HP.out.r 4).mono ?_;rintro e w2 ⟨rfl,hR2,hF2⟩))
 go_ret
 exact ⟨rfl,toE (w:=w) (HP.out.ends (v:=4) hF2 hR2) (Int.le_refl _),exF_one q ri rh hF2⟩
theorem eload_out (h:ExA w rp q ri rh n s σ I H B V md) (i j k b a:Nat) (hi:i + 2 < s.size) (hs:s.size ≤ 100000) (hk:k < 26) (hq:s[i].toNat = k + 97) (hb:b < 26) (h3:s[i + 2].toNat = b + 65) (he:σ.bx b ≠ []) (ho:Opnd s (i + 4) j) (hj:j < s.size) (hd:digitN (bt s j) = false) (hv:valN s (rnE σ q).num (i + 4) j = (a:Int)) (hv2:(σ.bx b).length ≤ a) :
  Calls prog 112 #[.pointer (some ⟨rp,0,none⟩),.int .i64 i] w fun e w'=>ExS rp q ri rh n s md (ends σ 1) w e w':=by
 have cs:=h.r.cs
 have HP:Hid (ExA w rp q ri rh n s σ I H B V md):=h
 have hl:0 < (σ.bx b).length:=List.length_pos_iff.2 he
 have HV:Hid (CR 82 #[.pointer (some ⟨rp,0,none⟩),.int .i64 ((i:Int) + 4)] w (.int .i64 a)):=by
  have:=value_fn w rp s _ h.r (i + 4) j ho hj hs hd
  rwa [hv] at this
 have HH:Hid (∀ W,ExA W rp q ri rh n s σ I H B V md → CS 131 #[.pointer (some ⟨rp,0,none⟩),.int .i64 b] W (.int .i64 ((σ.bx b).length:Int))):=fun W hW=>ehas W rp q ri rh n s σ I H B V md hW b hb
 have HG:Hid (∀ W,CS 88 #[.int .u8 ((b:Int) + 65)] W (.bool true)):=fun W=>by
  have:=great_fn W (b + 65) (by omega)
  rwa [show greatN (b + 65) = true by simp [greatN];omega] at this
 generalize (σ.bx b).length = L at *
 clear h he ho hd hv
 go_enter func112,ntmps112
 go_wp2_with (first | (go_at_call 88;refine sameC (HG.out _) ?_) | ((fail_if_success (have:=HP1.out));go_at_call 131;refine Calls.mono (HH.out _ HP.out) ?_;rintro e w1 ⟨rfl,hw⟩;have hw2:=hw.symm;clear hw;subst hw2) | ((fail_if_success (have:=HP1.out));go_at_call 82;refine HV.out.mono ?_;rintro e w1 ⟨rfl,hF1⟩;have HP1:Hid _:=HP.out.no hF1) | (go_at_call 131;refine Calls.mono (HH.out _ HP1.out) ?_;rintro e w5 ⟨rfl,hw⟩;have hw2:=hw.symm;clear hw;subst hw2) | (go_at_call 108;refine (ends_fn _ rp s _ HP1.out.r 1).mono ?_;rintro e w2 ⟨rfl,hR2,hF2⟩))
 go_ret
 exact ⟨rfl,toE (w:=w) (HP1.out.ends (v:=1) hF2 hR2) (Int.le_refl _),hF1.of_no.trans (exF_one q ri rh hF2)⟩
theorem eload_yes (h:ExA w rp q ri rh n s σ I H B V md) (i j k b a:Nat) (hi:i + 2 < s.size) (hs:s.size ≤ 100000) (hk:k < 26) (hq:s[i].toNat = k + 97) (hb:b < 26) (h3:s[i + 2].toNat = b + 65) (ho:Opnd s (i + 4) j) (hj:j < s.size) (hd:digitN (bt s j) = false) (hv:valN s (rnE σ q).num (i + 4) j = (a:Int)) (hv2:a < (σ.bx b).length) (hu:(σ.bx b).getD a 0 < 1000) :
  Calls prog 112 #[.pointer (some ⟨rp,0,none⟩),.int .i64 i] w fun e w'=>ExS rp q ri rh n s md ({ σ with num:=upN σ.num k ((σ.bx b).getD a 0) },true) w e w':=by
 have cs:=h.r.cs
 have cn:=h.r.cn k hk
 have fz:=h.r.fz (1 + k)
 have hrl:=h.r.lt
 have HP:Hid (ExA w rp q ri rh n s σ I H B V md):=h
 have HV:Hid (CR 82 #[.pointer (some ⟨rp,0,none⟩),.int .i64 ((i:Int) + 4)] w (.int .i64 a)):=by
  have:=value_fn w rp s _ h.r (i + 4) j ho hj hs hd
  rwa [hv] at this
 have HH:Hid (∀ W,ExA W rp q ri rh n s σ I H B V md → CS 131 #[.pointer (some ⟨rp,0,none⟩),.int .i64 b] W (.int .i64 ((σ.bx b).length:Int))):=fun W hW=>ehas W rp q ri rh n s σ I H B V md hW b hb
 have HK:Hid (∀ W,ExA W rp q ri rh n s σ I H B V md → CR 132 #[.pointer (some ⟨rp,0,none⟩),.int .i64 b,.int .i64 a] W (.int .i64 (((σ.bx b).getD a 0:Nat):Int))):=fun W hW=>elook W rp q ri rh n s σ I H B V md hW b a hb hv2
 have HG:Hid (∀ W,CS 88 #[.int .u8 ((b:Int) + 65)] W (.bool true)):=fun W=>by
  have:=great_fn W (b + 65) (by omega)
  rwa [show greatN (b + 65) = true by simp [greatN];omega] at this
 generalize (σ.bx b).getD a 0 = X at *
 generalize (σ.bx b).length = L at *
 clear h ho hd hv
 go_enter func112,ntmps112
 go_wp2_with (first | (go_at_call 88;refine sameC (HG.out _) ?_) | ((fail_if_success (have:=HP1.out));go_at_call 131;refine Calls.mono (HH.out _ HP.out) ?_;rintro e w1 ⟨rfl,hw⟩;have hw2:=hw.symm;clear hw;subst hw2) | ((fail_if_success (have:=HP1.out));go_at_call 82;refine HV.out.mono ?_;rintro e w1 ⟨rfl,hF1⟩;have HP1:Hid _:=HP.out.no hF1;have cn1:=hF1.cell_some cn id;have fz1:w1.frozen? ⟨rp,1 + k,none⟩ = false:=(hF1.frozen (p:=⟨rp,1 + k,none⟩) hrl id).trans fz;have hrl1:=HP1.out.r.lt) | (go_at_call 131;refine Calls.mono (HH.out _ HP1.out) ?_;rintro e w5 ⟨rfl,hw⟩;have hw2:=hw.symm;clear hw;subst hw2))
 go_region_with (go_at_call 132;refine (HK.out _ (HP1.out.no (Fr.refl _ _).drew)).mono ?_;rintro e w3 ⟨rfl,hF3⟩;have HF3:Hid (Fr NoB w1 w3):=((Fr.refl NoB _).drew).trans hF3;have cn3:=HF3.out.cell_some cn1 id;have fz3:w3.frozen? ⟨rp,1 + k,none⟩ = false:=(HF3.out.frozen (p:=⟨rp,1 + k,none⟩) hrl1 id).trans fz1;clear hF3)
 all_goals
  have HF4:Hid (Fr (OneB rp) w3 (w3.setCell ⟨rp,1 + k,none⟩ (.int .i64 X))):=(Fr.refl (OneB rp) w3).setCell (p:=⟨rp,1 + k,none⟩) (fun _=>rfl) (.int .i64 X)
  have HP4:Hid _:=(HP1.out.no HF3.out).num (k:=k) (v:=X) hu HF4.out ((HP1.out.no HF3.out).r.setNum hk (X:Int))
  go_wp2
  go_ret
  first
  | exact ⟨rfl,toE (w:=w) HP4.out (Int.le_refl _),(hF1.trans HF3.out).of_no.trans (exF_one q ri rh HF4.out)⟩
  | exact ⟨rfl,toE (w:=w) (HP4.out.no (Fr.refl _ _).drew) (Int.le_refl _),((hF1.trans HF3.out).of_no.trans (exF_one q ri rh HF4.out)).drew⟩
theorem enumber_calc (h:RunAt w rp s (rnE σ q)) (i k:Nat) (b:Bool) (x':Rn) (hi:i + 2 < s.size) (hs:s.size ≤ 100000) (hk:k < 26) (hq:s[i].toNat = k + 97) (h2:s[i + 2].toNat ≠ 35) (hg:greatN s[i + 2].toNat = false)
  (HC:Calls prog 133 #[.pointer (some ⟨rp,0,none⟩),.int .i64 k,.int .i64 ((i:Int) + 2)] w fun e w'=>CalcS rp s b x' w e w') :
  Calls prog 112 #[.pointer (some ⟨rp,0,none⟩),.int .i64 i] w fun e w'=>CalcS rp s b x' w e w':=by
 have cs:=h.cs
 have H:Hid _:=HC
 have b1:((s[i + 2].toNat:Int) == 35) = false:=bF (by omega)
 have HG:Hid (∀ W,CS 88 #[.int .u8 (s[i + 2].toNat:Int)] W (.bool false)):=fun W=>by
  have:=great_fn W s[i + 2].toNat (UInt8.toNat_lt _)
  rwa [hg] at this
 clear h HC h2 hg
 go_enter func112,ntmps112
 go_wp2_with (first | (go_at_call 88;refine sameC (HG.out _) ?_) | (go_at_call 133;refine Calls.mono H.out ?_;rintro e w1 ⟨rfl,hx1,hF1⟩))
 go_ret
 exact ⟨rfl,hx1,hF1⟩
end
end
section
theorem ExS.up {rp q ri rh n:Nat} {s:ByteArray} {m m':Int} {x:St × Bool} {w:World} {e:Ending} {w':World} (h:ExS rp q ri rh n s m x w e w') (hm:m ≤ m'):ExS rp q ri rh n s m' x w e w':=by
 obtain ⟨h1,⟨I,H,B,V,md,h2,h3⟩,h4⟩:=h
 exact ⟨h1,⟨I,H,B,V,md,h2,by omega⟩,h4⟩
section
variable (w:World) (rp q ri rh n:Nat) (s:ByteArray) (σ:St) (md:Int) (i m:Nat)
theorem edrop (h:ExR w rp q ri rh n s σ md) (hs:s.size ≤ 100000) (hS:KDrop s i m) :
  Calls prog 110 #[.pointer (some ⟨rp,0,none⟩),.int .i64 i] w fun e w'=>ExS rp q ri rh n s md (act (cE true n) (acN s i) σ) w e w':=by
 have hAc:=acOk_of (s:=s) (i:=i) (m:=m) (.inr (.inr (.inr (.inr (.inr (.inr (.inr (.inr hS))))))))
 obtain ⟨I,H,B,V,mm,hP,hm⟩:=h
 have hok:=act_ok (c:=cE true n) hP.ok hAc
 obtain ⟨e0,hg,e5,rfl⟩:=hS
 have h2:=byte_in e5 (by decide)
 have hq:=sub65 hg (by omega)
 have hk:bt s (i + 1) - 65 < 26:=by simp [greatN] at hg;omega
 rw [acN_drop e0] at hok ⊢
 generalize bt s (i + 1) - 65 = k at *
 simp only [act] at hok ⊢
 by_cases he:σ.bx k = []
 ·rw [if_pos he] at hok ⊢
  exact (edrop_no w rp q ri rh n s σ I H B V mm hP i k (by omega) hs hk hq he).mono fun e w' hh=>hh.up hm
 ·rw [if_neg he] at hok ⊢
  exact (edrop_yes w rp q ri rh n s σ I H B V mm hP i k (by omega) hs hk hq he hok).mono fun e w' hh=>hh.up hm
theorem emoves (h:ExR w rp q ri rh n s σ md) (hs:s.size ≤ 100000) (hS:KMove s i m) :
  Calls prog 115 #[.pointer (some ⟨rp,0,none⟩),.int .i64 i] w fun e w'=>ExS rp q ri rh n s md (act (cE true n) (acN s i) σ) w e w':=by
 have hAc:=acOk_of (s:=s) (i:=i) (m:=m) (.inr (.inr (.inr (.inr (.inr (.inr (.inl hS)))))))
 obtain ⟨I,H,B,V,mm,hP,hm⟩:=h
 have hok:=act_ok (c:=cE true n) hP.ok hAc
 rw [acN_move hS] at hok ⊢
 obtain ⟨hg,e1,hg2,e5,rfl⟩:=hS
 have h2:=byte_in e5 (by decide)
 have hq:=sub65 hg (by omega)
 have hq2:=sub65 hg2 (by omega)
 have hk:bt s i - 65 < 26:=by simp [greatN] at hg;omega
 have hk2:bt s (i + 2) - 65 < 26:=by simp [greatN] at hg2;omega
 generalize bt s i - 65 = k at *
 generalize bt s (i + 2) - 65 = d at *
 simp only [act,show (cE true n).strict = true from rfl,true_and] at hok ⊢
 by_cases he:σ.bx d = []
 ·rw [if_pos he] at hok ⊢
  exact (emoves_no w rp q ri rh n s σ I H B V mm hP i k d (by omega) hs hk hq hk2 hq2 he).mono fun e w' hh=>hh.up hm
 ·rw [if_neg he] at hok ⊢
  by_cases hkd:k = d
  ·rw [if_pos hkd] at hok ⊢
   subst hkd
   exact (emoves_same w rp q ri rh n s σ I H B V mm hP i k (by omega) hs hk hq hq2 he).mono fun e w' hh=>hh.up hm
  ·rw [if_neg hkd] at hok ⊢
   by_cases hf:σ.bx k = []
   ·rw [if_neg (fun x=>x hf)] at hok ⊢
    exact (emoves_yes w rp q ri rh n s σ I H B V mm hP i k d (by omega) hs hk hq hk2 hq2 hkd he hf hok).mono fun e w' hh=>hh.up hm
   ·rw [if_pos hf] at hok ⊢
    exact (emoves_full w rp q ri rh n s σ I H B V mm hP i k d (by omega) hs hk hq hk2 hq2 hkd he hf).mono fun e w' hh=>hh.up hm
theorem egets (h:ExR w rp q ri rh n s σ md) (hs:s.size ≤ 100000) (hmd:md ≤ 5000) (hS:KMake s i m) :
  Calls prog 114 #[.pointer (some ⟨rp,0,none⟩),.int .i64 i] w fun e w'=>ExS rp q ri rh n s (md + 1) (act (cE true n) (acN s i) σ) w e w':=by
 have hAc:=acOk_of (s:=s) (i:=i) (m:=m) (.inr (.inr (.inr (.inr (.inr (.inl hS))))))
 obtain ⟨I,H,B,V,mm,hP,hm⟩:=h
 have hok:=act_ok (c:=cE true n) hP.ok hAc
 rw [acN_make hS] at hok ⊢
 obtain ⟨hg,e1,e2,k0,ho,e3,e5,rfl⟩:=hS
 have h2:=byte_in e5 (by decide)
 have h3:=ho.lt
 have hq:=sub65 hg (by omega)
 have hk:bt s i - 65 < 26:=by simp [greatN] at hg;omega
 have hd:=nodigit e3 (.inr (.inr rfl))
 have hv:valN s (rnE σ q).num (i + 3) k0 = (valO σ.num (odN s (i + 3)):Int):=odN_val ho (by omega) hd σ.num
 generalize bt s i - 65 = k at *
 simp only [act,show (cE true n).strict = true from rfl,true_and] at hok ⊢
 generalize valO σ.num (odN s (i + 3)) = v at *
 by_cases hf:σ.bx k = []
 ·rw [if_neg (fun x=>x hf)] at hok ⊢
  by_cases hr:v < 1 ∨ 64 < v
  ·rw [if_pos hr] at hok ⊢
   exact (egets_trap w rp q ri rh n s σ I H B V mm hP i k0 k (by omega) hs hk hq ho (by omega) hd hf (by rw [hv];omega)).mono fun e w' hh=>hh.up (by omega)
  ·rw [if_neg hr] at hok ⊢
   have hse:({ σ with bx:=upB σ.bx k [] }:St) = σ:=by rw [upB_self hf]
   rw [hse] at hok ⊢
   rcases alloc_cases n σ v with ⟨a,ha⟩ | ha
   ·have ha2:(cE true n).al σ v = some a:=ha
    rw [ha2] at hok ⊢
    exact (egets_yes w rp q ri rh n s σ I H B V mm hP i k0 k v a (by omega) hs hk hq ho (by omega) hd hf hv (by omega) (by omega) (by omega) ha hok).mono fun e w' hh=>hh.up (by omega)
   ·have ha2:(cE true n).al σ v = none:=ha
    rw [ha2] at hok ⊢
    exact (egets_none w rp q ri rh n s σ I H B V mm hP i k0 k v (by omega) hs hk hq ho (by omega) hd hf hv (by omega) (by omega) (by omega) ha).mono fun e w' hh=>hh.up (by omega)
 ·rw [if_pos hf] at hok ⊢
  exact (egets_full w rp q ri rh n s σ I H B V mm hP i k0 k (by omega) hs hk hq ho (by omega) hd hf).mono fun e w' hh=>hh.up (by omega)
theorem estore (h:ExR w rp q ri rh n s σ md) (hs:s.size ≤ 100000) (hS:KStore s i m) :
  Calls prog 113 #[.pointer (some ⟨rp,0,none⟩),.int .i64 i] w fun e w'=>ExS rp q ri rh n s md (act (cE true n) (acN s i) σ) w e w':=by
 have hAc:=acOk_of (s:=s) (i:=i) (m:=m) (.inr (.inr (.inr (.inr (.inl hS)))))
 obtain ⟨I,H,B,V,mm,hP,hm⟩:=h
 have hok:=act_ok (c:=cE true n) hP.ok hAc
 obtain ⟨hg,e1,k0,l0,ho,e2,e3,ho2,e5,rfl⟩:=hS
 rw [acN_store hg e1 ho e2] at hok hAc ⊢
 have h2:=byte_in e5 (by decide)
 have h3:=ho.lt
 have h4:=ho2.lt
 have hq:=sub65 hg (by omega)
 have hk:bt s i - 65 < 26:=by simp [greatN] at hg;omega
 have hd:=nodigit e2 (.inr (.inr rfl))
 have hd2:=nodigit e5 (.inr (.inl rfl))
 have hv:valN s (rnE σ q).num (i + 2) k0 = (valO σ.num (odN s (i + 2)):Int):=odN_val ho (by omega) hd σ.num
 have hv2:valN s (rnE σ q).num (k0 + 2) l0 = (valO σ.num (odN s (k0 + 2)):Int):=odN_val ho2 (by omega) hd2 σ.num
 have hv3:=val_ok hP.ok.num hAc.2.2
 generalize bt s i - 65 = k at *
 simp only [act] at hok ⊢
 generalize valO σ.num (odN s (i + 2)) = a at *
 generalize valO σ.num (odN s (k0 + 2)) = v at *
 by_cases he:σ.bx k = []
 ·rw [if_pos he] at hok ⊢
  exact (estore_no w rp q ri rh n s σ I H B V mm hP i k (by omega) hs hk hq he).mono fun e w' hh=>hh.up hm
 ·rw [if_neg he] at hok ⊢
  by_cases hr:(σ.bx k).length ≤ a
  ·rw [if_pos hr] at hok ⊢
   exact (estore_out w rp q ri rh n s σ I H B V mm hP i k0 k a (by omega) hs hk hq he ho (by omega) hd hv hr).mono fun e w' hh=>hh.up hm
  ·rw [if_neg hr] at hok ⊢
   exact (estore_yes w rp q ri rh n s σ I H B V mm hP i k0 l0 k a v (by omega) hs hk hq ho (by omega) hd hv (by omega) ho2 (by omega) hd2 hv2 hv3 hok).mono fun e w' hh=>hh.up hm
theorem esize (h:ExR w rp q ri rh n s σ md) (hs:s.size ≤ 100000) (hS:KSize s i m) :
  Calls prog 112 #[.pointer (some ⟨rp,0,none⟩),.int .i64 i] w fun e w'=>ExS rp q ri rh n s md (act (cE true n) (acN s i) σ) w e w':=by
 obtain ⟨I,H,B,V,mm,hP,hm⟩:=h
 rw [acN_size hS]
 obtain ⟨hmm,e1,e2,hg,e5,rfl⟩:=hS
 have h2:=byte_in e5 (by decide)
 have hq:=sub97 hmm (by omega)
 have hq3:=sub65 hg (by omega)
 have hk:bt s i - 97 < 26:=by simp [smallN] at hmm;omega
 have hb:bt s (i + 3) - 65 < 26:=by simp [greatN] at hg;omega
 rw [bt_in (show i + 2 < s.size by omega)] at e2
 generalize bt s i - 97 = k at *
 generalize bt s (i + 3) - 65 = b at *
 simp only [act]
 by_cases he:σ.bx b = []
 ·rw [if_pos he]
  exact (esize_no w rp q ri rh n s σ I H B V mm hP i k b (by omega) hs hk hq e2 hb hq3 he).mono fun e w' hh=>hh.up hm
 ·rw [if_neg he]
  exact (esize_yes w rp q ri rh n s σ I H B V mm hP i k b (by omega) hs hk hq e2 hb hq3 he).mono fun e w' hh=>hh.up hm
theorem eload (h:ExR w rp q ri rh n s σ md) (hs:s.size ≤ 100000) (hS:KLoad s i m) :
  Calls prog 112 #[.pointer (some ⟨rp,0,none⟩),.int .i64 i] w fun e w'=>ExS rp q ri rh n s md (act (cE true n) (acN s i) σ) w e w':=by
 obtain ⟨I,H,B,V,mm,hP,hm⟩:=h
 rw [acN_load hS]
 obtain ⟨hmm,e1,hg,e3,k0,ho,e5,e6,rfl⟩:=hS
 have h2:=byte_in e6 (by decide)
 have h3:=ho.lt
 have hq:=sub97 hmm (by omega)
 have hq3:=sub65 hg (by omega)
 have hk:bt s i - 97 < 26:=by simp [smallN] at hmm;omega
 have hb:bt s (i + 2) - 65 < 26:=by simp [greatN] at hg;omega
 have hd:=nodigit e5 (.inr (.inr rfl))
 have hv:valN s (rnE σ q).num (i + 4) k0 = (valO σ.num (odN s (i + 4)):Int):=odN_val ho (by omega) hd σ.num
 generalize bt s i - 97 = k at *
 generalize bt s (i + 2) - 65 = b at *
 simp only [act]
 generalize valO σ.num (odN s (i + 4)) = a at *
 by_cases he:σ.bx b = []
 ·rw [if_pos he]
  exact (eload_no w rp q ri rh n s σ I H B V mm hP i k b (by omega) hs hk hq hb hq3 he).mono fun e w' hh=>hh.up hm
 ·rw [if_neg he]
  by_cases hr:(σ.bx b).length ≤ a
  ·rw [if_pos hr]
   exact (eload_out w rp q ri rh n s σ I H B V mm hP i k0 k b a (by omega) hs hk hq hb hq3 he ho (by omega) hd hv hr).mono fun e w' hh=>hh.up hm
  ·rw [if_neg hr]
   have hlt:a < (σ.bx b).length:=by omega
   have hu:(σ.bx b).getD a 0 < 1000:=by
    have e:(σ.bx b).getD a 0 = (σ.bx b)[a]:=by simp [List.getD,hlt]
    rw [e]
    exact hP.ok.wd b _ (List.getElem_mem hlt)
   exact (eload_yes w rp q ri rh n s σ I H B V mm hP i k0 k b a (by omega) hs hk hq hb hq3 ho (by omega) hd hv hlt hu).mono fun e w' hh=>hh.up hm
theorem calcE {k v:Nat} {I H B V:Nat → Int} {mm:Int} (hP:ExA w rp q ri rh n s σ I H B V mm) (hm:mm ≤ md) (hv:v < 1000) {e:Ending} {w':World} (h:CalcS rp s true { rnE σ q with num:=updI (rnE σ q).num k (v:Int) } w e w'):ExS rp q ri rh n s md ({ σ with num:=upN σ.num k v },true) w e w' :=
 ⟨h.1,toE (w:=w) (hP.num hv h.2.2 h.2.1) hm,exF_one q ri rh h.2.2⟩
theorem ecalc (h:ExR w rp q ri rh n s σ md) (hs:s.size ≤ 100000) (hS:KSet s i m ∨ KCalc s i m) :
  Calls prog 112 #[.pointer (some ⟨rp,0,none⟩),.int .i64 i] w fun e w'=>ExS rp q ri rh n s md (act (cE true n) (acN s i) σ) w e w':=by
 have hAc:AcOk (acN s i):=by
  rcases hS with hS | hS
  ·exact acOk_of (s:=s) (i:=i) (m:=m) (.inr (.inr (.inl hS)))
  ·exact acOk_of (s:=s) (i:=i) (m:=m) (.inr (.inr (.inr (.inl hS))))
 obtain ⟨I,H,B,V,mm,hP,hm⟩:=h
 rcases hS with hS | hS
 ·obtain ⟨hmm,e1,k0,ho,e5,rfl⟩:=hS
  rw [acN_set hmm ho e5] at hAc ⊢
  have h2:=byte_in e5 (by decide)
  have h3:=ho.lt
  have hq:=sub97 hmm (by omega)
  have hk:bt s i - 97 < 26:=by simp [smallN] at hmm;omega
  have hd:=nodigit e5 (.inr (.inl rfl))
  have hv:valN s (rnE σ q).num (i + 2) k0 = (valO σ.num (odN s (i + 2)):Int):=odN_val ho (by omega) hd σ.num
  have hvk:=val_ok hP.ok.num hAc.2
  obtain ⟨g1,g2,g3⟩:=ho.head
  rw [bt_in g3] at g1 g2
  have e5':s[k0].toNat = 59:=by rw [← bt_in h2];exact e5
  generalize bt s i - 97 = k at *
  simp only [act]
  generalize valO σ.num (odN s (i + 2)) = v at *
  have:=ecalc_set w rp s _ hP.r (i + 2) k0 k hs hk ho h2 e5'
  rw [hv] at this
  exact (enumber_calc w rp q s σ hP.r i k true _ (by omega) hs hk hq g2 g1 this).mono fun e w' hh=>calcE w rp q ri rh n s σ md hP hm hvk hh
 ·obtain ⟨hmm,e1,k0,l0,ho,hop,ho2,e5,rfl⟩:=hS
  have hks:k0 < s.size:=byte_in rfl (by unfold isOp at hop;omega)
  rw [acN_bin hmm ho hop hks] at hAc ⊢
  have h2:=byte_in e5 (by decide)
  have h3:=ho.lt
  have hq:=sub97 hmm (by omega)
  have hk:bt s i - 97 < 26:=by simp [smallN] at hmm;omega
  have hd2:=nodigit e5 (.inr (.inl rfl))
  have hdk:digitN (bt s k0) = false:=by
   unfold isOp at hop
   rcases hop with q | q | q | q | q <;> rw [q] <;> rfl
  have hv:valN s (rnE σ q).num (i + 2) k0 = (valO σ.num (odN s (i + 2)):Int):=odN_val ho hks hdk σ.num
  have hv2:valN s (rnE σ q).num (k0 + 1) l0 = (valO σ.num (odN s (k0 + 1)):Int):=odN_val ho2 (by omega) hd2 σ.num
  have hx:=val_ok hP.ok.num hAc.2.1
  have hy:=val_ok hP.ok.num hAc.2.2
  obtain ⟨g1,g2,g3⟩:=ho.head
  rw [bt_in g3] at g1 g2
  generalize bt s i - 97 = k at *
  simp only [act]
  generalize valO σ.num (odN s (i + 2)) = x at *
  generalize valO σ.num (odN s (k0 + 1)) = y at *
  have hbk:s[k0].toNat = bt s k0:=(bt_in hks).symm
  unfold isOp at hop
  generalize bt s k0 = c at *
  have key:∀ (u:Nat),u < 1000 → Calls prog 133 #[.pointer (some ⟨rp,0,none⟩),.int .i64 k,.int .i64 ((i:Int) + 2)] w (fun e w'=>CalcS rp s true { rnE σ q with num:=updI (rnE σ q).num k (u:Int) } w e w') → binN c x y = some u →
    Calls prog 112 #[.pointer (some ⟨rp,0,none⟩),.int .i64 i] w fun e w'=>ExS rp q ri rh n s md (match binN c x y with
     | none=>ends σ 1
     | some z=>({ σ with num:=upN σ.num k z },true)) w e w':=fun u hu hC hb=>by
   rw [hb]
   exact (enumber_calc w rp q s σ hP.r i k true _ (by omega) hs hk hq g2 g1 hC).mono fun e w' hh=>calcE w rp q ri rh n s σ md hP hm hu hh
  rcases hop with rfl | rfl | rfl | rfl | rfl
  ·refine key ((x + y) % 1000) (Nat.mod_lt _ (by omega)) ?_ rfl
   have:=ecalc_add w rp s _ hP.r (i + 2) k0 l0 k x y hs hk ho hks hbk ho2 h2 hd2 hv hv2 hx hy
   rw [show ((x:Int) + (y:Int)).tmod 1000 = (((x + y) % 1000:Nat):Int) by rw [← Int.natCast_add];rfl] at this
   exact this
  ·refine key ((x + 1000 - y) % 1000) (Nat.mod_lt _ (by omega)) ?_ rfl
   have:=ecalc_sub w rp s _ hP.r (i + 2) k0 l0 k x y hs hk ho hks hbk ho2 h2 hd2 hv hv2 hx hy
   rw [show ((x:Int) + 1000 - (y:Int)) % 1000 = (((x + 1000 - y) % 1000:Nat):Int) by omega] at this
   exact this
  ·refine key (x * y % 1000) (Nat.mod_lt _ (by omega)) ?_ rfl
   have:=ecalc_mul w rp s _ hP.r (i + 2) k0 l0 k x y hs hk ho hks hbk ho2 h2 hd2 hv hv2 hx hy
   rw [show ((x:Int) * (y:Int)).tmod 1000 = ((x * y % 1000:Nat):Int) by rw [← Int.natCast_mul];rfl] at this
   exact this
  ·by_cases h0:y = 0
   ·subst h0
    have eb:binN 47 x 0 = none:=rfl
    rw [eb]
    exact (enumber_calc w rp q s σ hP.r i k false _ (by omega) hs hk hq g2 g1 (ecalc_div0 w rp s _ hP.r (i + 2) k0 l0 k x hs hk ho hks hbk ho2 h2 hd2 hv hv2 hx)).mono fun e w' hh=>⟨hh.1,toE (w:=w) (hP.ends (v:=1) hh.2.2 hh.2.1) hm,exF_one q ri rh hh.2.2⟩
   ·have eb:binN 47 x y = some (x / y):=by unfold binN;simp [h0]
    exact key (x / y) (Nat.lt_of_le_of_lt (Nat.div_le_self _ _) hx) (ecalc_div w rp s _ hP.r (i + 2) k0 l0 k x y hs hk ho hks hbk ho2 h2 hd2 hv hv2 hx hy (by omega)) eb
  ·by_cases h0:x < y
   ·have eb:binN 60 x y = some 1:=by unfold binN;simp [h0]
    exact key 1 (by omega) (ecalc_lt w rp s _ hP.r (i + 2) k0 l0 k x y hs hk ho hks hbk ho2 h2 hd2 hv hv2 hx hy h0) eb
   ·have eb:binN 60 x y = some 0:=by unfold binN;simp [h0]
    exact key 0 (by omega) (ecalc_ge w rp s _ hP.r (i + 2) k0 l0 k x y hs hk ho hks hbk ho2 h2 hd2 hv hv2 hx hy (by omega)) eb
end
end
section
theorem rnE_due (σ:St) (q:Nat) (h0:σ.left ≠ 0):({ rnE σ q with left:=(rnE σ q).left - 1 }:Rn) = rnE (due σ) q:=by
 unfold rnE due
 simp only [Rn.mk.injEq,true_and,and_true]
 omega
section
variable (w:World) (rp q ri rh n:Nat) (s:ByteArray) (σ:St) (md:Int) (i m:Nat)
theorem edue (h:ExR w rp q ri rh n s σ md) (h0:σ.left ≠ 0) (h1:σ.left ≤ 5000) :
  Calls prog 81 #[.pointer (some ⟨rp,0,none⟩)] w fun e w'=>ExS rp q ri rh n s md (due σ,true) w e w':=by
 obtain ⟨I,H,B,V,mm,hP,hm⟩:=h
 refine (due_yes w rp s _ hP.r (by show (0:Int) < (σ.left:Int);omega) (by show (σ.left:Int) ≤ 5000;omega)).mono ?_
 rintro e w' ⟨rfl,hR,hF⟩
 rw [rnE_due σ q h0] at hR
 exact ⟨rfl,toE (w:=w) (hP.own hF hR rfl rfl (hP.ok.like rfl rfl)) hm,exF_one q ri rh hF⟩
theorem etired (h:ExR w rp q ri rh n s σ md) (h0:σ.left = 0) :
  Calls prog 81 #[.pointer (some ⟨rp,0,none⟩)] w fun e w'=>ExS rp q ri rh n s md (tire σ,false) w e w':=by
 obtain ⟨I,H,B,V,mm,hP,hm⟩:=h
 refine (due_no w rp s _ hP.r (by show (σ.left:Int) = 0;omega)).mono ?_
 rintro e w' ⟨rfl,hR,hF⟩
 exact ⟨rfl,toE (w:=w) (hP.ends (v:=2) hF hR) hm,exF_one q ri rh hF⟩
theorem ExR.run {w:World} {rp q ri rh n:Nat} {s:ByteArray} {σ:St} {md:Int} (h:ExR w rp q ri rh n s σ md):RunAt w rp s (rnE σ q):=by
 obtain ⟨I,H,B,V,mm,hP,hm⟩:=h
 exact hP.r
theorem ExR.ok {w:World} {rp q ri rh n:Nat} {s:ByteArray} {σ:St} {md:Int} (h:ExR w rp q ri rh n s σ md):NumOk σ:=by
 obtain ⟨I,H,B,V,mm,hP,hm⟩:=h
 exact hP.ok
theorem ExR.pos {w:World} {rp q ri rh n:Nat} {s:ByteArray} {σ:St} {md:Int} (h:ExR w rp q ri rh n s σ md):0 ≤ md:=by
 obtain ⟨I,H,B,V,mm,hP,hm⟩:=h
 have:=hP.m0
 omega
theorem ExR.no {w w':World} {rp q ri rh n:Nat} {s:ByteArray} {σ:St} {md:Int} (h:ExR w rp q ri rh n s σ md) (hF:Fr NoB w w'):ExR w' rp q ri rh n s σ md:=by
 obtain ⟨I,H,B,V,mm,hP,hm⟩:=h
 exact ⟨I,H,B,V,mm,hP.no hF,hm⟩
def ExT (rp q ri rh n:Nat) (s:ByteArray) (z:Int) (x:St × Bool) (w:World) (e:Ending) (w':World):Prop:=e = .returned (.bool x.2) ∧ (∃ m,ExR w' rp q ri rh n s x.1 m ∧ m + x.1.left ≤ z) ∧ Fr (ExF rp q ri rh) w w'
theorem ExS.t {x:St × Bool} {e:Ending} {w':World} {md z:Int} {rp q ri rh n:Nat} {s:ByteArray} {w:World} (h:ExS rp q ri rh n s md x w e w') (hz:md + x.1.left ≤ z):ExT rp q ri rh n s z x w e w':=⟨h.1,⟨md,h.2.1,hz⟩,h.2.2⟩
theorem esimple (h:ExR w rp q ri rh n s σ md) (hl:σ.left ≤ 5000) (hmd:md ≤ 5000) (htr:σ.tr.length ≤ 100000) (hs:s.size ≤ 100000) (hS:Simple s i m) :
  Calls prog 83 #[.pointer (some ⟨rp,0,none⟩),.int .i64 i] w fun e w'=>ExT rp q ri rh n s (md + σ.left) (stp (cE true n) (acN s i) σ) w e w':=by
 have hR:=h.run
 have hi:i < s.size:=by have:=hS.line;omega
 have hbt:=bt_in hi
 by_cases h126:bt s i = 126
 ·have hD:KDrop s i m:=by
   have sm:smallN (bt s i) = true → False:=fun h=>by rw [h126] at h;simp [smallN] at h
   have gr:greatN (bt s i) = true → False:=fun h=>by rw [h126] at h;simp [greatN] at h
   rcases hS with h | h | h | h | h | h | h | h | h
   ·exact (sm h.1).elim
   ·exact (sm h.1).elim
   ·exact (sm h.1).elim
   ·exact (sm h.1).elim
   ·exact (gr h.1).elim
   ·exact (gr h.1).elim
   ·exact (gr h.1).elim
   ·have:=h.1;omega
   ·exact h
  have hst:stp (cE true n) (acN s i) σ = act (cE true n) (acN s i) σ:=by rw [acN_drop h126];rfl
  rw [hst]
  exact simple_drop w rp s _ hR i (fun _ _ _=>True) _ _ hi hs (by rw [← hbt];exact h126) ((edrop w rp q ri rh n s σ md i m h hs hD).mono fun e w' hh=>(hh.t (z:=md + σ.left) (by rw [act_left];omega)))
 ·have hstep:isStep (acN s i) = true:=by
   rcases hS with h | h | h | h | h | h | h | h | h
   ·rw [acN_size h];rfl
   ·rw [acN_load h];rfl
   ·obtain ⟨hm,e1,k,ho,e5,rfl⟩:=h
    rw [acN_set hm ho e5];rfl
   ·obtain ⟨hm,e1,k,l,ho,hop2,ho2,e5,rfl⟩:=h
    rw [acN_bin hm ho hop2 (byte_in rfl (by unfold isOp at hop2;omega))];rfl
   ·obtain ⟨hg,e1,k,l,ho,e2,e3,ho2,e5,rfl⟩:=h
    rw [acN_store hg e1 ho e2];rfl
   ·rw [acN_make h];rfl
   ·rw [acN_move h];rfl
   ·rw [acN_print h.1];rfl
   ·exact absurd h.1 h126
  by_cases h0:σ.left = 0
  ·rw [stp_no hstep h0]
   exact simple_tired w rp s _ hR i _ hi hs (by rw [← hbt];exact h126) ((etired w rp q ri rh n s σ md h h0).mono fun e w' hh=>(hh.t (z:=md + σ.left) (by show md + (σ.left:Int) ≤ _;omega)))
  ·rw [stp_yes hstep h0]
   have hDue:=(edue w rp q ri rh n s σ md h h0 hl).mono fun e w' (hh:ExS rp q ri rh n s md (due σ,true) w e w')=>(show e = .returned (.bool true) ∧ (ExR w' rp q ri rh n s (due σ) md ∧ Fr (ExF rp q ri rh) w w') from ⟨hh.1,hh.2⟩)
   have hcs:∀ W,(ExR W rp q ri rh n s (due σ) md ∧ Fr (ExF rp q ri rh) w W) → W.cell? ⟨rp,0,none⟩ = some (.string s):=fun W hW=>hW.1.run.cs
   have fin:∀ {W:World} {e:Ending} {w':World},(ExR W rp q ri rh n s (due σ) md ∧ Fr (ExF rp q ri rh) w W) → ExS rp q ri rh n s (md + 1) (act (cE true n) (acN s i) (due σ)) W e w' → ExT rp q ri rh n s (md + σ.left) (act (cE true n) (acN s i) (due σ)) w e w':=fun hW hh =>
    ⟨hh.1,⟨md + 1,hh.2.1,by rw [act_left];show md + 1 + ((σ.left - 1:Nat):Int) ≤ _;omega⟩,hW.2.trans hh.2.2⟩
   rcases hS with hK | hK | hK | hK | hK | hK | hK | hK | hK
   ·exact simple_number w rp s _ hR i _ _ _ hi (by rw [← hbt];exact hK.1) hs hcs hDue (fun W hW=>(esize W rp q ri rh n s (due σ) md i m hW.1 hs hK).mono fun e w' hh=>fin hW (hh.up (by omega)))
   ·exact simple_number w rp s _ hR i _ _ _ hi (by rw [← hbt];exact hK.1) hs hcs hDue (fun W hW=>(eload W rp q ri rh n s (due σ) md i m hW.1 hs hK).mono fun e w' hh=>fin hW (hh.up (by omega)))
   ·exact simple_number w rp s _ hR i _ _ _ hi (by rw [← hbt];exact hK.1) hs hcs hDue (fun W hW=>(ecalc W rp q ri rh n s (due σ) md i m hW.1 hs (.inl hK)).mono fun e w' hh=>fin hW (hh.up (by omega)))
   ·exact simple_number w rp s _ hR i _ _ _ hi (by rw [← hbt];exact hK.1) hs hcs hDue (fun W hW=>(ecalc W rp q ri rh n s (due σ) md i m hW.1 hs (.inr hK)).mono fun e w' hh=>fin hW (hh.up (by omega)))
   ·have h1:=byte_in hK.2.1 (by decide)
    exact simple_store w rp s _ hR i _ _ _ h1 (by rw [← hbt];exact hK.1) (by rw [← bt_in h1];exact hK.2.1) hs hcs hDue (fun W hW=>(estore W rp q ri rh n s (due σ) md i m hW.1 hs hK).mono fun e w' hh=>fin hW (hh.up (by omega)))
   ·have h2:=byte_in hK.2.2.1 (by decide)
    exact simple_gets w rp s _ hR i _ _ _ h2 (by rw [← hbt];exact hK.1) (by rw [← bt_in (show i + 1 < s.size by omega),hK.2.1];decide) (by rw [← bt_in h2];exact hK.2.2.1) hs hcs hDue (fun W hW=>(egets W rp q ri rh n s (due σ) md i m hW.1 hs hmd hK).mono fun e w' hh=>fin hW hh)
   ·have h2:=(great_in hK.2.2.1).1
    exact simple_moves w rp s _ hR i _ _ _ h2 (by rw [← hbt];exact hK.1) (by rw [← bt_in (show i + 1 < s.size by omega),hK.2.1];decide) (by rw [← bt_in h2];intro q;have:=hK.2.2.1;rw [q] at this;simp [greatN] at this) hs hcs hDue (fun W hW=>(emoves W rp q ri rh n s (due σ) md i m hW.1 hs hK).mono fun e w' hh=>fin hW (hh.up (by omega)))
   ·obtain ⟨e0,k0,ho,e5,rfl⟩:=hK
    have h2:=byte_in e5 (by decide)
    have hd:=nodigit e5 (.inr (.inl rfl))
    have hv:=odN_val ho h2 hd σ.num
    have hvk:=val_ok h.ok.num (odN_ok ho h2 hd)
    rw [acN_print e0]
    refine simple_print w rp s _ hR i k0 (valO σ.num (odN s (i + 1))) (rnE (due σ) q) _ _ hi hs (by rw [← hbt];exact e0) ho h2 hd hv hvk (by show (trB σ.tr).size ≤ 100000;rw [trB_size];exact htr) (fun W hW=>hW.1.run) (fun W W' hW hF=>?_) hDue
    obtain ⟨⟨I,H,B,V,mm,hP,hm⟩,hFW⟩:=hW
    have hP2:=hP.no hF
    have hF2:=(Fr.refl (OneB rp) W').setCell (p:=⟨rp,108,none⟩) (fun _=>rfl) (.string (trB σ.tr ++ trB (digF 3 (valO σ.num (odN s (i + 1)))) ++ trB [59]))
    have hx:rnE (act (cE true n) (.print (odN s (i + 1))) (due σ)).1 q = { rnE (due σ) q with tr:=trB σ.tr ++ trB (digF 3 (valO σ.num (odN s (i + 1)))) ++ trB [59] }:=by
     show rnE { due σ with tr:=σ.tr ++ digF 3 (valO σ.num (odN s (i + 1))) ++ [59] } q = _
     unfold rnE
     simp only [trB_app]
    refine ⟨⟨md,toE (w:=w) (hP2.own (τ:=(act (cE true n) (.print (odN s (i + 1))) (due σ)).1) hF2 (by rw [hx];exact hP2.r.setTrace _) rfl rfl (hP2.ok.like rfl rfl)) hm,?_⟩,(hFW.trans hF.of_no).trans (exF_one q ri rh hF2)⟩
    rw [act_left]
    show md + ((σ.left - 1:Nat):Int) ≤ _
    omega
   ·exact absurd hK.1 h126
theorem evalue (h:ExR w rp q ri rh n s σ md) (hs:s.size ≤ 100000) {j:Nat} (ho:Opnd s i j) (hj:j < s.size) (hd:digitN (bt s j) = false) :
  CR 82 #[.pointer (some ⟨rp,0,none⟩),.int .i64 i] w (.int .i64 (valO σ.num (odN s i):Int)):=by
 have:=value_fn w rp s _ h.run i j ho hj hs hd
 rw [show valN s (rnE σ q).num i j = (valO σ.num (odN s i):Int) from odN_val ho hj hd σ.num] at this
 exact this
end
def ExM (rp q ri rh n:Nat) (s:ByteArray) (W:World) (σ:St):Prop:=(∃ m,ExR W rp q ri rh n s σ m ∧ m + (σ.left:Int) ≤ 5000) ∧ TrOk σ
theorem exec_model (rp q ri rh n:Nat) (s:ByteArray) (hs:s.size ≤ 100000):RM rp s (cE true n) (ExF rp q ri rh) (ExM rp q ri rh n s) where
 cs:=fun W σ h=>by
  obtain ⟨⟨m,hP,_⟩,_⟩:=h
  exact hP.run.cs
 no:=fun W W' σ h hF=>by
  obtain ⟨⟨m,hP,hm⟩,ht⟩:=h
  exact ⟨⟨m,hP.no hF,hm⟩,ht⟩
 due:=fun W σ h h0=>by
  obtain ⟨⟨m,hP,hm⟩,ht⟩:=h
  have hp:=hP.pos
  refine (edue W rp q ri rh n s σ m hP h0 (by omega)).mono fun e w' hh=>⟨hh.1,⟨⟨m,hh.2.1,by show m + ((σ.left - 1:Nat):Int) ≤ 5000;omega⟩,?_⟩,hh.2.2⟩
  unfold TrOk at *
  show σ.tr.length + 5 * (σ.left - 1) ≤ 25000
  omega
 tired:=fun W σ h h0=>by
  obtain ⟨⟨m,hP,hm⟩,ht⟩:=h
  exact (etired W rp q ri rh n s σ m hP h0).mono fun e w' hh=>⟨hh.1,⟨⟨m,hh.2.1,hm⟩,ht⟩,hh.2.2⟩
 val:=fun W σ i j h ho hj hd=>by
  obtain ⟨⟨m,hP,hm⟩,ht⟩:=h
  exact evalue W rp q ri rh n s σ m i hP hs ho hj hd
 sim:=fun W σ i m h hS=>by
  obtain ⟨⟨md,hP,hm⟩,ht⟩:=h
  have hp:=hP.pos
  refine (esimple W rp q ri rh n s σ md i m hP (by omega) (by omega) (by unfold TrOk at ht;omega) hs hS).mono fun e w' hh=>?_
  obtain ⟨h1,⟨m',h2,h3⟩,h4⟩:=hh
  exact ⟨h1,⟨⟨m',h2,by omega⟩,stp_trOk ht⟩,h4⟩
end
end Go.Proofs.YthcjcjfgdgnljabGreatDoor
