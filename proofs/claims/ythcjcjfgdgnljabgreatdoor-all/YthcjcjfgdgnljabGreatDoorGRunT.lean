import Derived.Deep.LoopGhost
import Derived.Test.YthcjcjfgdgnljabGreatDoorGRunR
set_option linter.unusedVariables false
set_option maxHeartbeats 4000000
set_option maxRecDepth 8000
open Go.Proofs.Tryz
namespace Go.Proofs.YthcjcjfgdgnljabGreatDoor
open Go.RowKit
structure RM (rp:Nat) (s:ByteArray) (c:Cf) (S:Nat → Prop) (R:World → St → Prop):Prop where
 cs:∀ W σ,R W σ → W.cell? ⟨rp,0,none⟩ = some (.string s)
 no:∀ W W' σ,R W σ → Fr NoB W W' → R W' σ
 due:∀ W σ,R W σ → σ.left ≠ 0 → Calls prog 81 #[.pointer (some ⟨rp,0,none⟩)] W fun e w'=>e = .returned (.bool true) ∧ R w' (due σ) ∧ Fr S W w'
 tired:∀ W σ,R W σ → σ.left = 0 → Calls prog 81 #[.pointer (some ⟨rp,0,none⟩)] W fun e w'=>e = .returned (.bool false) ∧ R w' (tire σ) ∧ Fr S W w'
 val:∀ W σ i j,R W σ → Opnd s i j → j < s.size → digitN (bt s j) = false → CR 82 #[.pointer (some ⟨rp,0,none⟩),.int .i64 i] W (.int .i64 (valO σ.num (odN s i):Int))
 sim:∀ W σ i m,R W σ → Simple s i m → Calls prog 83 #[.pointer (some ⟨rp,0,none⟩),.int .i64 i] W fun e w'=>e = .returned (.bool (stp c (acN s i) σ).2) ∧ R w' (stp c (acN s i) σ).1 ∧ Fr S W w'
theorem Ex.cut {c:Cf} {P:Pg} {σ σ':St} {b:Bool} (h:Ex c P σ σ' b):∀ {o:Od} {p r:Pg},P = .loop o p r → (∃ σ1,Ex c (.loop o p .nil) σ σ1 true ∧ Ex c r σ1 σ' b) ∨ (b = false ∧ Ex c (.loop o p .nil) σ σ' false):=by
 induction h with
 | nil σ=>intro o p r e;cases e
 | stop h=>intro o p r e;cases e
 | go h hr ih=>intro o p r e;cases e
 | iteTired h=>intro o p r e;cases e
 | iteStop h hp ih=>intro o p r e;cases e
 | iteGo h hp hr ih1 ih2=>intro o p r e;cases e
 | loopTired h=>intro o p r e;cases e;exact .inr ⟨rfl,.loopTired h⟩
 | loopEnd h h0 hr ih=>intro o p r e;cases e;exact .inl ⟨_,.loopEnd h h0 (.nil _),hr⟩
 | loopStop h h0 hp ih=>intro o p r e;cases e;exact .inr ⟨rfl,.loopStop h h0 hp⟩
 | loopGo h h0 hp hr ih1 ih2 =>
  intro o p r e
  cases e
  rcases ih2 rfl with ⟨σ1,k1,k2⟩ | ⟨k0,k1⟩
  ·exact .inl ⟨σ1,.loopGo h h0 hp k1,k2⟩
  ·exact .inr ⟨k0,.loopGo h h0 hp k1⟩
def RunIs (rp:Nat) (s:ByteArray) (c:Cf) (S:Nat → Prop) (R:World → St → Prop) (n:Nat):Prop :=
 ∀ (F i j:Nat),Prog s F i j → ∀ (w:World) (σ σ':St) (b:Bool),σ.left ≤ n → R w σ → Ex c (pgN s F i j) σ σ' b →
  Calls prog 56 #[.pointer (some ⟨rp,0,none⟩),.int .i64 i,.int .i64 j] w fun e w'=>e = .returned (.bool b) ∧ R w' σ' ∧ Fr S w w'
theorem loop_walk {rp:Nat} {s:ByteArray} {c:Cf} {S:Nat → Prop} {R:World → St → Prop} (M:RM rp s c S R) (hs:s.size ≤ 100000) (n:Nat) (IH:∀ m,m < n → RunIs rp s c S R m) (F i a b:Nat) (hL:LoopAt s i a b) (hp:Prog s F (a + 1) b)
  (w:World) (σ σ':St) (bb:Bool) (hn:σ.left ≤ n) (hR:R w σ) (hE:Ex c (.loop (odN s (i + 1)) (pgN s F (a + 1) b) .nil) σ σ' bb) :
  Calls prog 80 #[.pointer (some ⟨rp,0,none⟩),.int .i64 i] w fun e w'=>e = .returned (.bool bb) ∧ R w' σ' ∧ Fr S w w':=by
 have HM:Hid _:=M
 have HIH:Hid _:=IH
 have HR:Hid (R w σ):=hR
 have HE:Hid _:=hE
 have Hp:Hid _:=hp
 have cs:=M.cs w σ hR
 have hbd:=hL.bnd
 have HB:Hid _:=fun X=>body_fn X s i a b hL hs
 have HO:Hid (Opnd s (i + 1) a ∧ digitN (bt s a) = false):=⟨hL.o,nodigit hL.ha (.inl rfl)⟩
 clear M IH hR hE hp hL
 go_enter func80,ntmps80
 go_upto_region 2 with (go_at_call 73;refine sameC (HB.out _) ?_)
 go_loopg [7] n (fun k _ wr=>∃ (τ:St),τ.left ≤ k ∧ k ≤ n ∧ R wr τ ∧ Ex c (.loop (odN s (i + 1)) (pgN s F (a + 1) b) .nil) τ σ' bb ∧ Fr S w wr)
 case atStart=>exact ⟨σ,hn,Nat.le_refl _,HR.out,HE.out,Fr.refl _ _⟩
 case round =>
  obtain ⟨τ,hk,hkn,hRt,hEt,hFt⟩:=hrel
  have HRt:Hid _:=hRt
  have HFt:Hid _:=hFt
  have HV:Hid (∀ W,R W (due τ) → CR 82 #[.pointer (some ⟨rp,0,none⟩),.int .i64 ((i:Int) + 1)] W (.int .i64 (valO τ.num (odN s (i + 1)):Int))):=fun W hW=>HM.out.val W (due τ) (i + 1) a hW HO.out.1 (by omega) HO.out.2
  clear hRt hFt cs
  cases hEt with
  | loopTired h0 =>
   have HU:Hid _:=HM.out.tired wr τ HRt.out h0
   clear h0
   go_wp2_with (go_at_call 81;refine Calls.mono HU.out ?_;rintro e w2 ⟨rfl,hR2,hF2⟩)
   go_ret
   exact ⟨rfl,hR2,HFt.out.trans hF2⟩
  | loopEnd h0 hv hr =>
   cases hr
   have HU:Hid _:=HM.out.due wr τ HRt.out h0
   rw [hv] at HV
   clear h0 hv
   go_wp2_with (first | (go_at_call 81;refine Calls.mono HU.out ?_;rintro e w2 ⟨rfl,hR2,hF2⟩;have HR2:Hid _:=hR2;clear hR2) | (go_at_call 82;refine (HV.out _ HR2.out).mono ?_;rintro e w3 ⟨rfl,hF3⟩))
   go_ret
   exact ⟨rfl,HM.out.no _ _ _ HR2.out hF3,(HFt.out.trans hF2).trans hF3.of_no⟩
  | loopStop h0 hv hq =>
   have HU:Hid _:=HM.out.due wr τ HRt.out h0
   have HA:Hid (∀ W,R W (due τ) → Calls prog 56 #[.pointer (some ⟨rp,0,none⟩),.int .i64 ((a:Int) + 1),.int .i64 b] W fun e w'=>e = .returned (.bool false) ∧ R w' σ' ∧ Fr S W w'):=fun W hW=>HIH.out (τ.left - 1) (by omega) F (a + 1) b Hp.out W (due τ) σ' false (Nat.le_refl _) hW hq
   have b1:((valO τ.num (odN s (i + 1)):Int) == 0) = false:=bF (by omega)
   clear h0 hv hq
   go_wp2_with (first | (go_at_call 81;refine Calls.mono HU.out ?_;rintro e w2 ⟨rfl,hR2,hF2⟩;have HR2:Hid _:=hR2;clear hR2) | (go_at_call 82;refine (HV.out _ HR2.out).mono ?_;rintro e w3 ⟨rfl,hF3⟩;have HR3:Hid _:=HM.out.no _ _ _ HR2.out hF3) | (go_at_call 56;refine (HA.out _ HR3.out).mono ?_;rintro e w4 ⟨rfl,hR4,hF4⟩))
   go_ret
   exact ⟨rfl,hR4,((HFt.out.trans hF2).trans hF3.of_no).trans hF4⟩
  | @loopGo _ _ _ _ τ1 _ _ h0 hv hq hr =>
   have HU:Hid _:=HM.out.due wr τ HRt.out h0
   have HA:Hid (∀ W,R W (due τ) → Calls prog 56 #[.pointer (some ⟨rp,0,none⟩),.int .i64 ((a:Int) + 1),.int .i64 b] W fun e w'=>e = .returned (.bool true) ∧ R w' τ1 ∧ Fr S W w'):=fun W hW=>HIH.out (τ.left - 1) (by omega) F (a + 1) b Hp.out W (due τ) τ1 true (Nat.le_refl _) hW hq
   have b1:((valO τ.num (odN s (i + 1)):Int) == 0) = false:=bF (by omega)
   have hl1:τ1.left < gk:=Nat.lt_of_le_of_lt hq.left (by show τ.left - 1 < gk;omega)
   have Hr:Hid _:=hr
   clear h0 hv hq hr
   go_wp2_with (first | (go_at_call 81;refine Calls.mono HU.out ?_;rintro e w2 ⟨rfl,hR2,hF2⟩;have HR2:Hid _:=hR2;clear hR2) | (go_at_call 82;refine (HV.out _ HR2.out).mono ?_;rintro e w3 ⟨rfl,hF3⟩;have HR3:Hid _:=HM.out.no _ _ _ HR2.out hF3) | (go_at_call 56;refine (HA.out _ HR3.out).mono ?_;rintro e w4 ⟨rfl,hR4,hF4⟩))
   go_roundg (τ1.left)
   case measure=>exact hl1
   case rel=>exact ⟨τ1,Nat.le_refl _,by omega,hR4,Hr.out,((HFt.out.trans hF2).trans hF3.of_no).trans hF4⟩
theorem along_walk {rp:Nat} {s:ByteArray} {c:Cf} {S:Nat → Prop} {R:World → St → Prop} (M:RM rp s c S R) (hs:s.size ≤ 100000) (n:Nat) (IH:∀ m,m < n → RunIs rp s c S R m):RunIs rp s c S R n:=by
 intro F i j hp w σ σ' b hn hR hE
 have HM:Hid _:=M
 have HIH:Hid _:=IH
 have HR:Hid (R w σ):=hR
 have HE:Hid _:=hE
 have Hp:Hid _:=hp
 have hij:=hp.le
 clear M IH hR hE hp
 go_enter func56,ntmps56
 go_wp2
 go_loopg [1] F (fun k t wr=>∃ (p:Nat) (τ:St),k ≤ F ∧ t = .int .i64 p ∧ p ≤ j ∧ Prog s k p j ∧ τ.left ≤ n ∧ R wr τ ∧ Ex c (pgN s k p j) τ σ' b ∧ Fr S w wr)
 case atStart=>exact ⟨i,σ,Nat.le_refl _,rfl,hij,Hp.out,hn,HR.out,HE.out,Fr.refl _ _⟩
 case round =>
  obtain ⟨p,τ,hk,rfl,hpj,hp,hln,hRt,hEt,hFt⟩:=hrel
  have cs:=HM.out.cs _ _ hRt
  have HRt:Hid _:=hRt
  have HFt:Hid _:=hFt
  have Hpp:Hid (Prog s gk p j):=hp
  clear hRt hFt hp HR HE Hp
  by_cases hlt:p < j
  ·have hdec:∃ F' m,gk = F' + 1 ∧ StmtF (Prog s F') s p m ∧ Prog s F' m j:=by
    have:=Hpp.out
    cases gk with
    | zero=>exact absurd (show p = j from this) (by omega)
    | succ F' =>
     rcases this with q | ⟨m,q1,q2⟩
     ·omega
     ·exact ⟨F',m,rfl,q1,q2⟩
   obtain ⟨F',m,rfl,hst,hpm⟩:=hdec
   have hml:=hpm.le
   have hps:=hst.lt
   have hpl:p < s.size:=by omega
   have Hpm:Hid (Prog s F' m j):=hpm
   have HBh:Hid (∀ X:World,CS 77 #[.string s,.int .i64 p] X (.int .i64 m)):=fun X=>behind_of s hs F' X p m hst
   clear hpm Hpp
   rcases hst with hsm | ⟨e,a,b0,c0,ho,ha,hp,hb,hb1,hq,hc',rfl⟩ | ⟨e,a,b0,ho,ha,hp,hb,rfl⟩
   ·rw [pgN_simple hsm hlt] at hEt
    have hf:=hsm.first
    rw [bt_in hpl] at hf
    have b1:((s[p].toNat:Int) == 63) = false:=bF (by omega)
    have b2:((s[p].toNat:Int) == 64) = false:=bF (by omega)
    have hsim:=HM.out.sim wr τ p m HRt.out hsm
    clear hf hsm
    cases hEt with
    | stop h =>
     rw [h] at hsim
     have HS:Hid _:=hsim
     clear hsim h
     go_wp2_with (first | (go_at_call 83;refine Calls.mono HS.out ?_;rintro e w2 ⟨rfl,hR2,hF2⟩;have HR2:Hid _:=hR2;have cs2:=HM.out.cs _ _ hR2;clear hR2))
     go_ret
     exact ⟨rfl,HR2.out,HFt.out.trans hF2⟩
    | @go _ _ _ τ1 _ _ h hr =>
     have hl1:=stp_left c (acN s p) τ
     rw [h] at hsim hl1
     have HS:Hid _:=hsim
     have Hr:Hid _:=hr
     clear hsim h hr
     go_wp2_with (first | (go_at_call 83;refine Calls.mono HS.out ?_;rintro e w2 ⟨rfl,hR2,hF2⟩;have HR2:Hid _:=hR2;have cs2:=HM.out.cs _ _ hR2;clear hR2) | (go_at_call 77;refine sameC (HBh.out _) ?_))
     go_roundg F'
     case measure=>omega
     case rel=>exact ⟨m,τ1,by omega,rfl,hml,Hpm.out,Nat.le_trans hl1 hln,HR2.out,Hr.out,HFt.out.trans hF2⟩
   ·have hI:=ifAt_of e ho ha hp hb hb1 hq hc'
    rw [pgN_if hI hlt] at hEt
    have hbd:=hI.bnd
    have hq63:s[p].toNat = 63:=by rw [← bt_in hpl];exact hI.q
    have HH:Hid _:=fun X=>halves_fn X s p a b0 c0 hI hs
    have HV:Hid (∀ W,R W (due τ) → CR 82 #[.pointer (some ⟨rp,0,none⟩),.int .i64 ((p:Int) + 1)] W (.int .i64 (valO τ.num (odN s (p + 1)):Int))):=fun W hW=>HM.out.val W (due τ) (p + 1) a hW hI.o (by omega) (nodigit hI.ha (.inl rfl))
    have Hp1:Hid _:=hp
    have Hp2:Hid _:=hq
    clear hI ho ha hp hb hb1 hq hc' e
    cases hEt with
    | iteTired h0 =>
     have HU:Hid _:=HM.out.tired wr τ HRt.out h0
     clear h0
     go_wp2_with (first | (go_at_call 81;refine Calls.mono HU.out ?_;rintro e w2 ⟨rfl,hR2,hF2⟩;have HR2:Hid _:=hR2;have cs2:=HM.out.cs _ _ hR2;clear hR2))
     go_ret
     exact ⟨rfl,HR2.out,HFt.out.trans hF2⟩
    | iteStop h0 hq =>
     have HU:Hid _:=HM.out.due wr τ HRt.out h0
     by_cases hv:valO τ.num (odN s (p + 1)) ≠ 0
     ·rw [if_pos hv] at hq
      have HA:Hid (∀ W,R W (due τ) → Calls prog 56 #[.pointer (some ⟨rp,0,none⟩),.int .i64 ((a:Int) + 1),.int .i64 b0] W fun e w'=>e = .returned (.bool false) ∧ R w' σ' ∧ Fr S W w'):=fun W hW=>HIH.out (τ.left - 1) (by omega) F' (a + 1) b0 Hp1.out W (due τ) σ' false (Nat.le_refl _) hW hq
      have b1:((valO τ.num (odN s (p + 1)):Int) != 0) = true:=bne_iff_ne.2 (by omega)
      clear h0 hv hq
      go_wp2_with (first | (go_at_call 81;refine Calls.mono HU.out ?_;rintro e w2 ⟨rfl,hR2,hF2⟩;have HR2:Hid _:=hR2;have cs2:=HM.out.cs _ _ hR2;clear hR2) | (go_at_call 72;refine sameC (HH.out _) ?_) | (go_at_call 82;refine (HV.out _ HR2.out).mono ?_;rintro e w3 ⟨rfl,hF3⟩;have HR3:Hid _:=HM.out.no _ _ _ HR2.out hF3;have cs3:=HM.out.cs _ _ HR3.out) | (go_at_call 56;refine (HA.out _ HR3.out).mono ?_;rintro e w4 ⟨rfl,hR4,hF4⟩;have HR4:Hid _:=hR4;have cs4:=HM.out.cs _ _ hR4;clear hR4))
      go_ret
      exact ⟨rfl,HR4.out,((HFt.out.trans hF2).trans hF3.of_no).trans hF4⟩
     ·rw [if_neg hv] at hq
      have HA:Hid (∀ W,R W (due τ) → Calls prog 56 #[.pointer (some ⟨rp,0,none⟩),.int .i64 ((b0:Int) + 2),.int .i64 c0] W fun e w'=>e = .returned (.bool false) ∧ R w' σ' ∧ Fr S W w'):=fun W hW=>HIH.out (τ.left - 1) (by omega) F' (b0 + 2) c0 Hp2.out W (due τ) σ' false (Nat.le_refl _) hW hq
      have b1:((valO τ.num (odN s (p + 1)):Int) != 0) = false:=by rw [show valO τ.num (odN s (p + 1)) = 0 by omega];rfl
      clear h0 hv hq
      go_wp2_with (first | (go_at_call 81;refine Calls.mono HU.out ?_;rintro e w2 ⟨rfl,hR2,hF2⟩;have HR2:Hid _:=hR2;have cs2:=HM.out.cs _ _ hR2;clear hR2) | (go_at_call 72;refine sameC (HH.out _) ?_) | (go_at_call 82;refine (HV.out _ HR2.out).mono ?_;rintro e w3 ⟨rfl,hF3⟩;have HR3:Hid _:=HM.out.no _ _ _ HR2.out hF3;have cs3:=HM.out.cs _ _ HR3.out) | (go_at_call 56;refine (HA.out _ HR3.out).mono ?_;rintro e w4 ⟨rfl,hR4,hF4⟩;have HR4:Hid _:=hR4;have cs4:=HM.out.cs _ _ hR4;clear hR4))
      go_ret
      exact ⟨rfl,HR4.out,((HFt.out.trans hF2).trans hF3.of_no).trans hF4⟩
    | @iteGo _ _ _ _ _ τ1 _ _ h0 hq hr =>
     have HU:Hid _:=HM.out.due wr τ HRt.out h0
     have Hr:Hid _:=hr
     have hl1:τ1.left ≤ n:=Nat.le_trans hq.left (by show τ.left - 1 ≤ n;omega)
     by_cases hv:valO τ.num (odN s (p + 1)) ≠ 0
     ·rw [if_pos hv] at hq
      have HA:Hid (∀ W,R W (due τ) → Calls prog 56 #[.pointer (some ⟨rp,0,none⟩),.int .i64 ((a:Int) + 1),.int .i64 b0] W fun e w'=>e = .returned (.bool true) ∧ R w' τ1 ∧ Fr S W w'):=fun W hW=>HIH.out (τ.left - 1) (by omega) F' (a + 1) b0 Hp1.out W (due τ) τ1 true (Nat.le_refl _) hW hq
      have b1:((valO τ.num (odN s (p + 1)):Int) != 0) = true:=bne_iff_ne.2 (by omega)
      clear h0 hv hq hr
      go_wp2_with (first | (go_at_call 81;refine Calls.mono HU.out ?_;rintro e w2 ⟨rfl,hR2,hF2⟩;have HR2:Hid _:=hR2;have cs2:=HM.out.cs _ _ hR2;clear hR2) | (go_at_call 72;refine sameC (HH.out _) ?_) | (go_at_call 82;refine (HV.out _ HR2.out).mono ?_;rintro e w3 ⟨rfl,hF3⟩;have HR3:Hid _:=HM.out.no _ _ _ HR2.out hF3;have cs3:=HM.out.cs _ _ HR3.out) | (go_at_call 56;refine (HA.out _ HR3.out).mono ?_;rintro e w4 ⟨rfl,hR4,hF4⟩;have HR4:Hid _:=hR4;have cs4:=HM.out.cs _ _ hR4;clear hR4) | (go_at_call 77;refine sameC (HBh.out _) ?_))
      go_roundg F'
      case measure=>omega
      case rel=>exact ⟨c0 + 1,τ1,by omega,rfl,hml,Hpm.out,hl1,HR4.out,Hr.out,((HFt.out.trans hF2).trans hF3.of_no).trans hF4⟩
     ·rw [if_neg hv] at hq
      have HA:Hid (∀ W,R W (due τ) → Calls prog 56 #[.pointer (some ⟨rp,0,none⟩),.int .i64 ((b0:Int) + 2),.int .i64 c0] W fun e w'=>e = .returned (.bool true) ∧ R w' τ1 ∧ Fr S W w'):=fun W hW=>HIH.out (τ.left - 1) (by omega) F' (b0 + 2) c0 Hp2.out W (due τ) τ1 true (Nat.le_refl _) hW hq
      have b1:((valO τ.num (odN s (p + 1)):Int) != 0) = false:=by rw [show valO τ.num (odN s (p + 1)) = 0 by omega];rfl
      clear h0 hv hq hr
      go_wp2_with (first | (go_at_call 81;refine Calls.mono HU.out ?_;rintro e w2 ⟨rfl,hR2,hF2⟩;have HR2:Hid _:=hR2;have cs2:=HM.out.cs _ _ hR2;clear hR2) | (go_at_call 72;refine sameC (HH.out _) ?_) | (go_at_call 82;refine (HV.out _ HR2.out).mono ?_;rintro e w3 ⟨rfl,hF3⟩;have HR3:Hid _:=HM.out.no _ _ _ HR2.out hF3;have cs3:=HM.out.cs _ _ HR3.out) | (go_at_call 56;refine (HA.out _ HR3.out).mono ?_;rintro e w4 ⟨rfl,hR4,hF4⟩;have HR4:Hid _:=hR4;have cs4:=HM.out.cs _ _ hR4;clear hR4) | (go_at_call 77;refine sameC (HBh.out _) ?_))
      go_roundg F'
      case measure=>omega
      case rel=>exact ⟨c0 + 1,τ1,by omega,rfl,hml,Hpm.out,hl1,HR4.out,Hr.out,((HFt.out.trans hF2).trans hF3.of_no).trans hF4⟩
   ·have hL:=loopAt_of e ho ha hp hb
    rw [pgN_loop hL hlt] at hEt
    have hq64:s[p].toNat = 64:=by rw [← bt_in hpl];exact hL.q
    have hlw:∀ σ1 bb,Ex c (.loop (odN s (p + 1)) (pgN s F' (a + 1) b0) .nil) τ σ1 bb → _:=fun σ1 bb hx=>loop_walk HM.out hs n HIH.out F' p a b0 hL hp wr τ σ1 bb hln HRt.out hx
    clear hL ho ha hp hb e
    rcases hEt.cut rfl with ⟨τ1,k1,k2⟩ | ⟨rfl,k1⟩
    ·have HL:Hid _:=hlw _ _ k1
     have Hr:Hid _:=k2
     have hl1:τ1.left ≤ n:=Nat.le_trans k1.left hln
     clear hlw k1 k2 hEt
     go_wp2_with (first | (go_at_call 80;refine Calls.mono HL.out ?_;rintro e w2 ⟨rfl,hR2,hF2⟩;have HR2:Hid _:=hR2;have cs2:=HM.out.cs _ _ hR2;clear hR2) | (go_at_call 77;refine sameC (HBh.out _) ?_))
     go_roundg F'
     case measure=>omega
     case rel=>exact ⟨b0 + 1,τ1,by omega,rfl,hml,Hpm.out,hl1,HR2.out,Hr.out,HFt.out.trans hF2⟩
    ·have HL:Hid _:=hlw _ _ k1
     clear hlw k1 hEt
     go_wp2_with (first | (go_at_call 80;refine Calls.mono HL.out ?_;rintro e w2 ⟨rfl,hR2,hF2⟩;have HR2:Hid _:=hR2;have cs2:=HM.out.cs _ _ hR2;clear hR2))
     go_ret
     exact ⟨rfl,HR2.out,HFt.out.trans hF2⟩
  ·have hpe:p = j:=by omega
   subst hpe
   rw [pgN_end] at hEt
   cases hEt
   go_wp2
   go_ret
   exact ⟨rfl,HRt.out,HFt.out⟩
theorem run_is {rp:Nat} {s:ByteArray} {c:Cf} {S:Nat → Prop} {R:World → St → Prop} (M:RM rp s c S R) (hs:s.size ≤ 100000) (n:Nat):RunIs rp s c S R n:=by
 induction n using Nat.strongRecOn with
 | _ n ih=>exact along_walk M hs n ih
def TrOk (σ:St):Prop:=σ.tr.length + 5 * σ.left ≤ 25000
theorem dig_len (f n:Nat):(digF f n).length ≤ f + 1:=by rw [← dig_eq];exact decF_len f n
theorem stp_trOk {c:Cf} {a:Ac} {σ:St} (h:TrOk σ):TrOk (stp c a σ).1:=by
 have hact:∀ (σ:St),(∀ o,a ≠ .print o) → (act c a σ).1.tr = σ.tr:=fun σ hn=>by
  cases a <;> simp only [act]
  case print o=>exact absurd rfl (hn o)
  all_goals (repeat' split) <;> rfl
 unfold stp TrOk at *
 by_cases hp:∃ o,a = .print o
 ·obtain ⟨o,rfl⟩:=hp
  have e:isStep (Ac.print o) = true:=rfl
  rw [if_pos e]
  split
  ·exact h
  ·rename_i h0
   have:=dig_len 3 (valO σ.num o)
   show (σ.tr ++ digF 3 (valO σ.num o) ++ [59]).length + 5 * (σ.left - 1) ≤ 25000
   simp only [List.length_append,List.length_singleton]
   omega
 ·have hn:∀ o,a ≠ .print o:=fun o e=>hp ⟨o,e⟩
  split
  ·split
   ·exact h
   ·rw [act_left,hact _ hn]
    show σ.tr.length + 5 * (σ.left - 1) ≤ 25000
    omega
  ·rw [act_left,hact _ hn]
   exact h
def PlayM (rp base:Nat) (s:ByteArray) (W:World) (σ:St):Prop:=PlayR W rp base s σ ∧ σ.left ≤ 5000 ∧ TrOk σ ∧ base ≤ W.heap.size
theorem play_model (rp base:Nat) (s:ByteArray) (hs:s.size ≤ 100000):RM rp s cP (FrP rp base) (PlayM rp base s) where
 cs:=fun W σ h=>by
  obtain ⟨⟨_,blk,wv,a,l,hP⟩,_⟩:=h
  exact hP.r.cs
 no:=fun W W' σ h hF=>⟨h.1.no hF,h.2.1,h.2.2.1,Nat.le_trans h.2.2.2 hF.size⟩
 due:=fun W σ h h0=>(due_play W rp base s σ h.1 h0 h.2.1).mono fun e w' hh=>⟨hh.1,⟨hh.2.1,by show σ.left - 1 ≤ 5000;have:=h.2.1;omega,by have:=h.2.2.1;unfold TrOk at *;show σ.tr.length + 5 * (σ.left - 1) ≤ 25000;omega,Nat.le_trans h.2.2.2 hh.2.2.size⟩,hh.2.2⟩
 tired:=fun W σ h h0=>(due_tired W rp base s σ h.1 h0).mono fun e w' hh=>⟨hh.1,⟨hh.2.1,h.2.1,h.2.2.1,Nat.le_trans h.2.2.2 hh.2.2.size⟩,hh.2.2⟩
 val:=fun W σ i j h ho hj hd=>value_play W rp base s σ i h.1 hs ho hj hd
 sim:=fun W σ i m h hS=>(simple_play W rp base s σ i m h.1 h.2.1 (by have:=h.2.2.1;unfold TrOk at this;omega) h.2.2.2 hs hS).mono fun e w' hh=>⟨hh.1,⟨hh.2.1,Nat.le_trans (stp_left _ _ _) h.2.1,stp_trOk h.2.2.1,Nat.le_trans h.2.2.2 hh.2.2.size⟩,hh.2.2⟩
def st0 (n:Nat):St:=⟨fun _=>0,fun _=>[],fun _=>0,n,0,[],0⟩
def Ends (c:Cf) (s:ByteArray) (n:Nat) (σ:St):Prop:=∃ b,Ex c (pgN s (s.size + 1) 0 s.size) (st0 n) σ b
def outP (σ:St):Value:=.agg #[.int .i64 σ.status,.string (trB σ.tr),.int .i64 0,.int .i64 0]
def out0:Value:=.agg #[.int .i64 0,.string ⟨#[]⟩,.int .i64 0,.int .i64 0]
theorem fuel_fn (w:World) (n:Int):CS 55 #[.int .i64 n] w (.bool (decide (0 ≤ n) && decide (n ≤ 5000))):=by
 by_cases h:0 ≤ n
 ·have e:(decide (0 ≤ n) && decide (n ≤ 5000)) = decide (n ≤ 5000):=by simp [h]
  rw [e]
  clear e
  go_enter func55,ntmps55
  go_wp2
  go_ret
  exact ⟨rfl,rfl⟩
 ·have e:(decide (0 ≤ n) && decide (n ≤ 5000)) = false:=by simp [h]
  rw [e]
  clear e
  go_enter func55,ntmps55
  go_wp2
  go_ret
  exact ⟨rfl,rfl⟩
structure OutAt (w:World) (b:Nat) (v0 v1 v2 v3:Value):Prop where
 c0:w.cell? ⟨b,0,none⟩ = some v0
 c1:w.cell? ⟨b,1,none⟩ = some v1
 c2:w.cell? ⟨b,2,none⟩ = some v2
 c3:w.cell? ⟨b,3,none⟩ = some v3
 f:∀ o,w.frozen? ⟨b,o,none⟩ = false
theorem OutAt.lt {w:World} {b:Nat} {v0 v1 v2 v3:Value} (h:OutAt w b v0 v1 v2 v3):b < w.heap.size:=World.block_lt_of_cell? w _ h.c0
theorem OutAt.fr {S:Nat → Prop} {w w':World} {b:Nat} {v0 v1 v2 v3:Value} (h:OutAt w b v0 v1 v2 v3) (hF:Fr S w w') (hS:¬ S b):OutAt w' b v0 v1 v2 v3 :=
 ⟨hF.cell_some h.c0 hS,hF.cell_some h.c1 hS,hF.cell_some h.c2 hS,hF.cell_some h.c3 hS,fun o=>(hF.frozen (p:=⟨b,o,none⟩) h.lt hS).trans (h.f o)⟩
theorem OutAt.new (w:World) (t:TypeId) (v0 v1 v2 v3:Value):OutAt (w.alloc (.cells #[v0,v1,v2,v3] t)) w.heap.size v0 v1 v2 v3 :=
 ⟨cell_new _ _ _ rfl rfl,cell_new _ _ _ rfl rfl,cell_new _ _ _ rfl rfl,cell_new _ _ _ rfl rfl,fun o=>World.frozen?_alloc_at _ _ _ _ rfl⟩
theorem OutAt.put {w:World} {b:Nat} {v0 v1 v2 v3 u0 u1 u2 u3:Value} (h:OutAt w b v0 v1 v2 v3):OutAt ((((w.setCell ⟨b,0,none⟩ u0).setCell ⟨b,1,none⟩ u1).setCell ⟨b,2,none⟩ u2).setCell ⟨b,3,none⟩ u3) b u0 u1 u2 u3 :=
 ⟨cell_at (cell_at (cell_at (cell_same h.c0) (by omega)) (by omega)) (by omega),cell_at (cell_at (cell_same (cell_at h.c1 (by omega))) (by omega)) (by omega),cell_at (cell_same (cell_at (cell_at h.c2 (by omega)) (by omega))) (by omega),cell_same (cell_at (cell_at (cell_at h.c3 (by omega)) (by omega)) (by omega)),fun o=>by rw [World.frozen?_setCell,World.frozen?_setCell,World.frozen?_setCell,World.frozen?_setCell];exact h.f o⟩
theorem Fr.put4 {S:Nat → Prop} {a w:World} {b:Nat} (h:Fr S a w) (hb:b < a.heap.size → S b) (u0 u1 u2 u3:Value):Fr S a ((((w.setCell ⟨b,0,none⟩ u0).setCell ⟨b,1,none⟩ u1).setCell ⟨b,2,none⟩ u2).setCell ⟨b,3,none⟩ u3) :=
 (((h.setCell (p:=⟨b,0,none⟩) hb u0).setCell (p:=⟨b,1,none⟩) hb u1).setCell (p:=⟨b,2,none⟩) hb u2).setCell (p:=⟨b,3,none⟩) hb u3
theorem refPlay_bad (w:World) (s:ByteArray) (n:Int) (hs:s.size ≤ 9223372036854775807) (hc:(checkN s).1 ≠ 0) :
  CR 33 #[.string s,.int .i64 n] w (.tuple #[out0,.int .i64 ((checkN s).1:Int)]):=by
 have HC:Hid _:=fun X=>refCheck_fn X s hs
 have b1:(((checkN s).1:Int) != 0) = true:=bne_iff_ne.2 (by omega)
 generalize (checkN s).1 = k at *
 generalize (checkN s).2 = p at *
 clear hc
 have HO:Hid _:=OutAt.new w 71 (.int .i64 0) (.string ⟨#[]⟩) (.int .i64 0) (.int .i64 0)
 have HF0:Hid (Fr NoB w (w.alloc (.cells #[.int .i64 0,.string ⟨#[]⟩,.int .i64 0,.int .i64 0] 71))):=(Fr.refl _ _).alloc _
 go_enter func33,ntmps33
 go_upto_region 1 with fail
 generalize (w.alloc _) = W0 at *
 go_wp2_with (go_at_call 31;refine (HC.out _).mono ?_;rintro e w1 ⟨rfl,hF1⟩;have HO1:Hid _:=HO.out.fr hF1 id;obtain ⟨c0,c1,c2,c3,hf⟩:=HO1.out;have f0:=hf 0;have f1:=hf 1;have f2:=hf 2;have f3:=hf 3;clear hf)
 obtain ⟨k0,k1,k2,k3,kf⟩:=HO1.out.put (u0:=.int .i64 0) (u1:=.string ⟨#[]⟩) (u2:=.int .i64 0) (u3:=.int .i64 0)
 exact bodyPost_ret (v:=.tuple #[out0,.int .i64 k]) (by simp [results,results33,go_sem,k0,k1,k2,k3,out0]) rfl ⟨rfl,(HF0.out.trans hF1).put4 (fun q=>absurd q (by omega)) _ _ _ _⟩
def zRun:Array Value:=(.string ⟨#[]⟩ :: (List.replicate 26 (Value.int .i64 0) ++ (List.replicate 26 (Value.slice none 0 0) ++ (Value.pointer none :: (List.replicate 53 (Value.int .i64 0) ++ [.int .i64 0,.string ⟨#[]⟩,.int .i64 0,.int .i64 0]))))).toArray
set_option maxRecDepth 100000 in
theorem zRun_is:zeroCells99 = zRun:=by kernel_rfl
theorem zRun_n (k:Nat) (h:k < 26):zRun[1 + k]? = some (.int .i64 0):=by
 match k,h with
 | 0,_=>rfl | 1,_=>rfl | 2,_=>rfl | 3,_=>rfl | 4,_=>rfl | 5,_=>rfl | 6,_=>rfl | 7,_=>rfl | 8,_=>rfl | 9,_=>rfl | 10,_=>rfl | 11,_=>rfl | 12,_=>rfl | 13,_=>rfl | 14,_=>rfl | 15,_=>rfl | 16,_=>rfl | 17,_=>rfl | 18,_=>rfl | 19,_=>rfl | 20,_=>rfl | 21,_=>rfl | 22,_=>rfl | 23,_=>rfl | 24,_=>rfl | 25,_=>rfl | k + 26,h=>exact absurd h (by omega)
theorem zRun_w (k:Nat) (h:k < 26):zRun[27 + k]? = some (.slice none 0 0):=by
 match k,h with
 | 0,_=>rfl | 1,_=>rfl | 2,_=>rfl | 3,_=>rfl | 4,_=>rfl | 5,_=>rfl | 6,_=>rfl | 7,_=>rfl | 8,_=>rfl | 9,_=>rfl | 10,_=>rfl | 11,_=>rfl | 12,_=>rfl | 13,_=>rfl | 14,_=>rfl | 15,_=>rfl | 16,_=>rfl | 17,_=>rfl | 18,_=>rfl | 19,_=>rfl | 20,_=>rfl | 21,_=>rfl | 22,_=>rfl | 23,_=>rfl | 24,_=>rfl | 25,_=>rfl | k + 26,h=>exact absurd h (by omega)
theorem zRun_a (k:Nat) (h:k < 26):zRun[54 + k]? = some (.int .i64 0):=by
 match k,h with
 | 0,_=>rfl | 1,_=>rfl | 2,_=>rfl | 3,_=>rfl | 4,_=>rfl | 5,_=>rfl | 6,_=>rfl | 7,_=>rfl | 8,_=>rfl | 9,_=>rfl | 10,_=>rfl | 11,_=>rfl | 12,_=>rfl | 13,_=>rfl | 14,_=>rfl | 15,_=>rfl | 16,_=>rfl | 17,_=>rfl | 18,_=>rfl | 19,_=>rfl | 20,_=>rfl | 21,_=>rfl | 22,_=>rfl | 23,_=>rfl | 24,_=>rfl | 25,_=>rfl | k + 26,h=>exact absurd h (by omega)
theorem zRun_l (k:Nat) (h:k < 26):zRun[80 + k]? = some (.int .i64 0):=by
 match k,h with
 | 0,_=>rfl | 1,_=>rfl | 2,_=>rfl | 3,_=>rfl | 4,_=>rfl | 5,_=>rfl | 6,_=>rfl | 7,_=>rfl | 8,_=>rfl | 9,_=>rfl | 10,_=>rfl | 11,_=>rfl | 12,_=>rfl | 13,_=>rfl | 14,_=>rfl | 15,_=>rfl | 16,_=>rfl | 17,_=>rfl | 18,_=>rfl | 19,_=>rfl | 20,_=>rfl | 21,_=>rfl | 22,_=>rfl | 23,_=>rfl | 24,_=>rfl | 25,_=>rfl | k + 26,h=>exact absurd h (by omega)
theorem run_new (w:World) (s:ByteArray) (n:Nat) (hv:Value) (A:Array Value) (hA0:A[0]? = some (.string s)) (hA53:A[53]? = some hv) (hA106:A[106]? = some (.int .i64 n)) (hA:∀ k,k ≠ 0 → k ≠ 53 → k ≠ 106 → A[k]? = zRun[k]?) :
  RunAt (w.alloc (.cells A 99)) w.heap.size s ⟨fun _=>0,fun _=>.slice none 0 0,hv,fun _=>0,fun _=>0,(n:Int),0,trB [],0,0⟩:=by
 have key:∀ k,(w.alloc (.cells A 99)).cell? ⟨w.heap.size,k,none⟩ = A[k]?:=fun k=>World.cell?_alloc_at _ _ _ _ rfl
 refine ⟨?_,?_,?_,?_,?_,?_,?_,?_,?_,?_,?_,fun o=>World.frozen?_alloc_at _ _ _ _ rfl⟩
 ·rw [key];exact hA0
 ·intro k hk;rw [key,hA _ (by omega) (by omega) (by omega)];exact zRun_n k hk
 ·intro k hk;rw [key,hA _ (by omega) (by omega) (by omega)];exact zRun_w k hk
 ·rw [key];exact hA53
 ·intro k hk;rw [key,hA _ (by omega) (by omega) (by omega)];exact zRun_a k hk
 ·intro k hk;rw [key,hA _ (by omega) (by omega) (by omega)];exact zRun_l k hk
 ·rw [key];exact hA106
 ·rw [key,hA _ (by omega) (by omega) (by omega)];rfl
 ·rw [key,hA _ (by omega) (by omega) (by omega)];rfl
 ·rw [key,hA _ (by omega) (by omega) (by omega)];rfl
 ·rw [key,hA _ (by omega) (by omega) (by omega)];rfl
theorem zRun_size:zRun.size = 111:=by simp [zRun]
theorem num_st0 (n:Nat):NumOk (st0 n):=⟨fun _=>(by show 0 < 1000;omega),fun _ v hv=>absurd hv (List.not_mem_nil),fun _=>(by show 0 ≤ 64;omega)⟩
theorem play_new (w:World) (s:ByteArray) (n:Nat) (hn:n ≤ 5000):PlayM w.heap.size (w.heap.size + 1) s (w.alloc (.cells ((zeroCells99.setIfInBounds 0 (.string s)).setIfInBounds 106 (.int .i64 n)) 99)) (st0 n):=by
 rw [zRun_is]
 have hsz:=zRun_size
 have hR:=run_new w s n (.pointer none) ((zRun.setIfInBounds 0 (.string s)).setIfInBounds 106 (.int .i64 n)) (by rw [Array.getElem?_setIfInBounds,if_neg (by omega),Array.getElem?_setIfInBounds,if_pos rfl,if_pos (by omega)]) (by rw [Array.getElem?_setIfInBounds,if_neg (by omega),Array.getElem?_setIfInBounds,if_neg (by omega)];rfl)
  (by rw [Array.getElem?_setIfInBounds,if_pos rfl,if_pos (by rw [Array.size_setIfInBounds];omega)]) (fun k h0 h53 h106=>by rw [Array.getElem?_setIfInBounds,if_neg (by omega),Array.getElem?_setIfInBounds,if_neg (by omega)])
 refine ⟨⟨num_st0 n,fun _=>0,fun _=>.slice none 0 0,fun _=>0,fun _=>0,⟨hR,rfl,Nat.lt_succ_self _,fun _ _ _=>rfl,fun k _ h=>absurd rfl h,fun k _ i v h=>by simp [st0,toI] at h,fun k _ h=>absurd rfl h,fun k l _ _ _ h=>absurd rfl h,fun k _ h=>absurd rfl h,fun k _=>by show 0 ≤ 64;omega⟩⟩,hn,by unfold TrOk st0;show 0 + 5 * n ≤ 25000;omega,by simp⟩
theorem refPlay_ok (w:World) (s:ByteArray) (n:Nat) (hs:s.size ≤ 400) (hc:checkN s = (0,0)) (hn:n ≤ 5000) (σ:St) (hE:Ends cP s n σ) :
  CR 33 #[.string s,.int .i64 n] w (.tuple #[outP σ,.int .i64 0]):=by
 have HC:Hid _:=fun X=>refCheck_fn X s (by omega)
 have hrun:run s [(83,true)] 0 0 = (0,0):=by
  unfold checkN at hc
  rw [if_neg (by omega)] at hc
  by_cases q:(run s [(83,true)] 0 0).1 ≠ 0
  ·rw [if_pos q] at hc
   exact absurd (congrArg Prod.fst hc) q
  ·exact run_zero (by omega)
 have Hpr:Hid _:=prog_of_ok hrun
 clear hrun
 rw [hc] at HC
 have HU:Hid (∀ X:World,CS 55 #[.int .i64 n] X (.bool true)):=fun X=>by
  have:=fuel_fn X (n:Int)
  rwa [show (decide (0 ≤ (n:Int)) && decide ((n:Int) ≤ 5000)) = true by simp;omega] at this
 have HO:Hid _:=OutAt.new w 71 (.int .i64 0) (.string ⟨#[]⟩) (.int .i64 0) (.int .i64 0)
 have HF0:Hid (Fr NoB w (w.alloc (.cells #[.int .i64 0,.string ⟨#[]⟩,.int .i64 0,.int .i64 0] 71))):=(Fr.refl _ _).alloc _
 clear hc
 go_enter func33,ntmps33
 go_upto_region 1 with fail
 generalize (w.alloc _) = W0 at *
 go_upto_region 8 with (first | (go_at_call 31;refine (HC.out _).mono ?_;rintro e w1 ⟨rfl,hF1⟩;have HO1:Hid _:=HO.out.fr hF1 id) | (go_at_call 55;refine sameC (HU.out _) ?_))
 have HF1:Hid _:=HF0.out.trans hF1
 have hwl:w.heap.size < w1.heap.size:=HO1.out.lt
 have HP:Hid _:=play_new w1 s n hn
 have HF2:Hid (Fr NoB w1 (w1.alloc (.cells ((zeroCells99.setIfInBounds 0 (.string s)).setIfInBounds 106 (.int .i64 n)) 99))):=(Fr.refl _ _).alloc _
 generalize (w1.alloc _) = W2 at *
 have HA:Hid _:=run_is (play_model w1.heap.size (w1.heap.size + 1) s (by omega)) (by omega) n (s.size + 1) 0 s.size Hpr.out W2 (st0 n) σ
 obtain ⟨b,hEx⟩:=hE
 have HA2:Hid _:=HA.out b (Nat.le_refl _) HP.out hEx
 clear HA hEx
 go_upto_region 9 with (go_at_call 56;refine Calls.mono HA2.out ?_;rintro e w3 ⟨rfl,hP3,hF3⟩)
 obtain ⟨⟨hn3,blk,wv,a,l,hP⟩,_,_,_⟩:=hP3
 have o0:=hP.r.co
 have o1:=hP.r.ct
 have o2:=hP.r.cu
 have o3:=hP.r.cp
 have HO3:Hid _:=(HO1.out.fr HF2.out id).fr hF3 (fun q=>by unfold FrP at q;omega)
 obtain ⟨c0,c1,c2,c3,hf⟩:=HO3.out
 have f0:=hf 0
 have f1:=hf 1
 have f2:=hf 2
 have f3:=hf 3
 have HF4:Hid (Fr NoB w w3):=(HF1.out.trans HF2.out).then hF3 (fun k hk q=>by unfold FrP at q;omega)
 clear hf hF3 hP hn3
 unfold rnOf at o0 o1 o2 o3
 simp only [] at o0 o1 o2 o3
 go_wp2
 obtain ⟨k0,k1,k2,k3,kf⟩:=HO3.out.put (u0:=.int .i64 σ.status) (u1:=.string (trB σ.tr)) (u2:=.int .i64 0) (u3:=.int .i64 0)
 exact bodyPost_ret (v:=.tuple #[outP σ,.int .i64 0]) (by simp [results,results33,go_sem,k0,k1,k2,k3,outP]) rfl ⟨rfl,HF4.out.put4 (fun q=>absurd q (by omega)) _ _ _ _⟩
theorem refPlay_arg (w:World) (s:ByteArray) (n:Int) (hs:s.size ≤ 400) (hc:checkN s = (0,0)) (hn:n < 0 ∨ 5000 < n) :
  CR 33 #[.string s,.int .i64 n] w (.tuple #[out0,.int .i64 5]):=by
 have HC:Hid _:=fun X=>refCheck_fn X s (by omega)
 rw [hc] at HC
 have HU:Hid (∀ X:World,CS 55 #[.int .i64 n] X (.bool false)):=fun X=>by
  have:=fuel_fn X n
  rwa [show (decide (0 ≤ n) && decide (n ≤ 5000)) = false by simp;omega] at this
 have HO:Hid _:=OutAt.new w 71 (.int .i64 0) (.string ⟨#[]⟩) (.int .i64 0) (.int .i64 0)
 have HF0:Hid (Fr NoB w (w.alloc (.cells #[.int .i64 0,.string ⟨#[]⟩,.int .i64 0,.int .i64 0] 71))):=(Fr.refl _ _).alloc _
 clear hc hn
 go_enter func33,ntmps33
 go_upto_region 1 with fail
 generalize (w.alloc _) = W0 at *
 go_wp2_with (first | (go_at_call 31;refine (HC.out _).mono ?_;rintro e w1 ⟨rfl,hF1⟩;have HO1:Hid _:=HO.out.fr hF1 id;obtain ⟨c0,c1,c2,c3,hf⟩:=HO1.out;have f0:=hf 0;have f1:=hf 1;have f2:=hf 2;have f3:=hf 3;clear hf) | (go_at_call 55;refine sameC (HU.out _) ?_))
 obtain ⟨k0,k1,k2,k3,kf⟩:=HO1.out.put (u0:=.int .i64 0) (u1:=.string ⟨#[]⟩) (u2:=.int .i64 0) (u3:=.int .i64 0)
 exact bodyPost_ret (v:=.tuple #[out0,.int .i64 5]) (by simp [results,results33,go_sem,k0,k1,k2,k3,out0]) rfl ⟨rfl,(HF0.out.trans hF1).put4 (fun q=>absurd q (by omega)) _ _ _ _⟩
end Go.Proofs.YthcjcjfgdgnljabGreatDoor
