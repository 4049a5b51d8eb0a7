import Derived.Test.YthcjcjfgdgnljabGreatDoorGTxtE
import Derived.Deep.RegionHeld3
import Derived.Deep.QuietTactic
import Derived.BigQuiet
set_option linter.unusedVariables false
set_option maxHeartbeats 4000000
set_option maxRecDepth 8000
open Go.Proofs.Tryz
namespace Go.Proofs.YthcjcjfgdgnljabGreatDoor
open Go.RowKit
def lowS (s:ByteArray) (F i m:Nat) (f:Nat → Bool):ByteArray :=
 if bt s i = 63 then s.extract i (bopN s (i + 1) + 1) ++ lowT s F (bopN s (i + 1) + 1) (bbrN s (bopN s (i + 1)) - 1) f ++ drsB (minL (alongF s F (bopN s (i + 1) + 1) (bbrN s (bopN s (i + 1)) - 1) f) (afterF (alongF s F) s i f))
     ++ s.extract (bbrN s (bopN s (i + 1)) - 1) (bbrN s (bopN s (i + 1)) + 1) ++ lowT s F (bbrN s (bopN s (i + 1)) + 1) (bbrN s (bbrN s (bopN s (i + 1))) - 1) f ++ drsB (minL (alongF s F (bbrN s (bopN s (i + 1)) + 1) (bbrN s (bbrN s (bopN s (i + 1))) - 1) f) (afterF (alongF s F) s i f))
     ++ s.extract (bbrN s (bbrN s (bopN s (i + 1))) - 1) m
     else if bt s i = 64 then drsB (minL f (afterF (alongF s F) s i f)) ++ s.extract i (bopN s (i + 1) + 1) ++ lowT s F (bopN s (i + 1) + 1) (bbrN s (bopN s (i + 1)) - 1) (afterF (alongF s F) s i f)
     ++ drsB (minL (alongF s F (bopN s (i + 1) + 1) (bbrN s (bopN s (i + 1)) - 1) (afterF (alongF s F) s i f)) (afterF (alongF s F) s i f)) ++ s.extract (bbrN s (bopN s (i + 1)) - 1) m
     else (if ownT s i f = true then drB (bt s i - 65) else ⟨#[]⟩) ++ s.extract i m
theorem lowT_step {s:ByteArray} {F i m j:Nat} (h:StmtF (Prog s F) s i m) (hij:i < j) (f:Nat → Bool):lowT s (F + 1) i j f = lowS s F i m f ++ lowT s F m j (afterF (alongF s F) s i f):=by
 rw [lowT,if_pos hij,beh_of h]
 rfl
theorem low_nil (x:ByteArray):(⟨#[]⟩:ByteArray) ++ x = x:=by
 apply ByteArray.ext
 simp
theorem retS {a b:ByteArray} (h:a = b):Ending.returned (.string a) = .returned (.string b):=by rw [h]
theorem lowT_end {s:ByteArray} {F i:Nat} (f:Nat → Bool):lowT s F i i f = ⟨#[]⟩:=by
 cases F with
 | zero=>rfl
 | succ F=>rw [lowT,if_neg (Nat.lt_irrefl _)]
theorem lowS_size {s:ByteArray} {F i m:Nat} (h:StmtF (Prog s F) s i m) (f:Nat → Bool):(lowS s F i m f).size ≤ 40 * (m - i):=by
 have hm:Prog s F m m:=by cases F with | zero=>rfl | succ F=>exact .inl rfl
 have hp:Prog s (F + 1) i m:=.inr ⟨m,h,hm⟩
 have h1:=lowT_size hp f
 have h2:=h.lt
 rw [lowT_step h (by omega),lowT_end,ByteArray.size_append] at h1
 omega
theorem lowS_if {s:ByteArray} {F i a b c:Nat} (h:IfAt s i a b c) (f G:Nat → Bool) (hG:afterF (alongF s F) s i f = G):lowS s F i (c + 1) f = s.extract i (a + 1) ++ lowT s F (a + 1) b f ++ drsB (minL (alongF s F (a + 1) b f) G) ++ s.extract b (b + 2) ++ lowT s F (b + 2) c f ++ drsB (minL (alongF s F (b + 2) c f) G) ++ s.extract c (c + 1):=by
 unfold lowS
 rw [if_pos h.q,hG,h.p1,h.p2,h.p3,show b + 1 - 1 = b by omega,show b + 1 + 1 = b + 2 by omega,show c + 1 - 1 = c by omega]
theorem lowS_loop {s:ByteArray} {F i a b:Nat} (h:LoopAt s i a b) (f G:Nat → Bool) (hG:afterF (alongF s F) s i f = G):lowS s F i (b + 1) f = drsB (minL f G) ++ s.extract i (a + 1) ++ lowT s F (a + 1) b G ++ drsB (minL (alongF s F (a + 1) b G) G) ++ s.extract b (b + 1):=by
 unfold lowS
 rw [if_neg (by rw [h.q];decide),if_pos h.q,hG,h.p1,h.p2,show b + 1 - 1 = b by omega]
theorem lowS_simple {s:ByteArray} {F i m:Nat} (h:Simple s i m) (f:Nat → Bool):lowS s F i m f = (if ownT s i f = true then drB (bt s i - 65) else ⟨#[]⟩) ++ s.extract i m:=by
 unfold lowS
 rw [if_neg h.first.1,if_neg h.first.2]
theorem simple_two {s:ByteArray} {i m:Nat} (h:Simple s i m) (hg:greatN (bt s i) = true):i + 2 < s.size:=by
 have sm:smallN (bt s i) = true → False:=fun q=>by have:=(sm_ne q).2.2;rw [hg] at this;cases this
 rcases h with q | q | q | q | q | q | q | q | q
 ·exact (sm q.1).elim
 ·exact (sm q.1).elim
 ·exact (sm q.1).elim
 ·exact (sm q.1).elim
 ·obtain ⟨h1,h2,k,l,h5,h6,h7,h8,h9,hm⟩:=q
  have:=h5.lt
  have:=byte_in h6 (by decide)
  omega
 ·exact byte_in q.2.2.1 (by decide)
 ·exact (great_in q.2.2.1).1
 ·rw [q.1] at hg;cases hg
 ·rw [q.1] at hg;cases hg
theorem drB_text {s:ByteArray} {p:Nat} (hp:p < s.size) (hg:greatN (bt s p) = true):drB (bt s p - 65) = ⟨#[126]⟩ ++ s.extract p (p + 1) ++ ⟨#[59]⟩:=by
 have h1:s.extract p (p + 1) = ⟨#[s[p]]⟩:=by
  apply ByteArray.ext
  rw [ByteArray.data_extract]
  apply Array.ext
  ·simp
   have:s.data.size = s.size:=rfl
   omega
  ·intro i h1 h2
   simp at h2
   subst h2
   simp [ByteArray.getElem_eq_getElem_data]
 rw [h1]
 rw [bt_in hp] at hg ⊢
 have h2:UInt8.ofNat (65 + (s[p].toNat - 65)) = s[p]:=by
  simp [greatN] at hg
  rw [show 65 + (s[p].toNat - 65) = s[p].toNat by omega]
  exact UInt8.ofNat_toNat
 unfold drB
 rw [h2]
 rfl
theorem str_add (W:World) (a b:ByteArray) (n:Nat) (h:(a ++ b).size ≤ n) (hn:n ≤ 100000000):(Op.stringOp .add a b).run prog W = .ok (.string (a ++ b)) W:=run_string_add_sum W a b (by rw [ByteArray.size_append] at h;omega)
theorem str_cut (W:World) (s:ByteArray) (a b:Nat) (i j:Int) (h1:a ≤ b) (h2:b ≤ s.size) (ei:i = (a:Int)) (ej:j = (b:Int)):(Instr.slice 9 (.string s) (some (.int .i64 i)) (some (.int .i64 j)) none).run prog W = .ok (.string (s.extract a b)) W:=by
 subst ei ej
 rw [run_slice_string (w:=W) _ _ _ _ _ _ underlying9 (by omega) (by omega) (by omega)]
 rfl
theorem str_at (W:World) (s:ByteArray) (n:Nat) (i:Int) (h:n < s.size) (e:i = (n:Int)):(Instr.index 9 (.string s) (.int .i64 i)).run prog W = .ok (.int .u8 (s[n].toNat:Int)) W:=by
 subst e
 rw [run_index_string _ _ _ _ _ underlying9,dif_pos ⟨by omega,by omega⟩]
 rfl
theorem RowF.load {w:World} {b:Nat} {f:Nat → Bool} (h:RowF w b f):(loadVar 93 ⟨b,0,none⟩).run prog w = .ok (.agg (arrF f)) w:=run_loadVar_row w b _ _ _ _ _ h.h underlying93 rfl (sizeArr _)
structure Kin (w:World) where
 x:World
 f:Fr NoB w x
theorem wp_region_cls {P:Program} {id:Nat} {Q:Exit → Act → World → Prop} {a:Act} {w:World} {l:List Oper} (hm:P.follows .mixedOrders = true) (hB:Region.lexB .any l.toArray = true)
  (h:wpQuiet P l.toArray (fun w'=>∃ i:Kin w,w' = i.x) (fun a'=>∀ w',(∃ i:Kin w,w' = i.x) → Q .normal a' w') l a):(Code.region id l.toArray true).wp P Q a w :=
 wp_region_quiet (C:=fun w'=>∃ i:Kin w,w' = i.x) hm hB ⟨⟨w.drew,(Fr.refl _ _).drew⟩,rfl⟩ (by simpa using h)
theorem quiet_row {P:Program} {ops:Array Oper} {C:World → Prop} {Q:Act → Prop} {a:Act} {o:Oper} {rest:List Oper} (ty:TypeId) (x:Operand) (b:Nat) (v:Value) (hg:o.guard = none) (ho:o.op = .load ty x) (hx:a.eval x = .pointer (some ⟨b,0,none⟩)) (h1:∀ w,C w → (loadVar ty ⟨b,0,none⟩).run P w = .ok v w) (h2:wpQuiet P ops C Q rest (a.put o.dst v)):wpQuiet P ops C Q (o :: rest) a :=
 BigFrame.wpQuiet_want (by simp [Region.wanted,hg]) fun K hK=>⟨v,fun w hw=>by
  unfold Oper.quietAt execOp
  simp only [ho,hx,Instr.loadAt,Instr.sureAddr,Sem.run_bind,Sem.run_pure,Result.andThen_ok,h1 w hw]
  exact ⟨rfl,rfl⟩,hK _ h2⟩
theorem Calls.cls {P:Program} {f:FuncId} {args:Array Value} {w:World} {v:Value} (i:Kin w) (h:Calls P f args i.x fun e w'=>e = .returned v ∧ Fr NoB i.x w'):Calls P f args i.x fun e w''=>e = .returned v ∧ ∃ j:Kin w,w'' = j.x :=
 h.mono fun _ w' ⟨he,hF⟩=>⟨he,⟨w',i.f.trans hF⟩,rfl⟩
theorem row_laid {w0 w1:World} (hF:Fr NoB w0 w1) (g:Nat → Bool):RowF ((w1.alloc (.cells zrs 93)).setRow w1.heap.size (arrF g)) w1.heap.size g ∧ Fr NoB w0 ((w1.alloc (.cells zrs 93)).setRow w1.heap.size (arrF g)) :=
 ⟨(RowF.zero w1).row g,(hF.alloc _).setRow (fun q=>absurd hF.size (by omega)) _⟩
def LowIs (s:ByteArray) (i j:Nat) (M:(Nat → Bool) → ByteArray):Prop:=∀ (W:World) (g:Nat → Bool),Clean g → CR 59 #[.string s,.int .i64 i,.int .i64 j,.agg (arrF g)] W (.string (M g))
theorem low_step (s:ByteArray) (hs:s.size ≤ 100000) (F:Nat) (IH:∀ F',F' < F → ∀ a b,Prog s F' a b → LowIs s a b (lowT s F' a b)) (i j:Nat) (hp:Prog s F i j):LowIs s i j (lowT s F i j):=by
 intro w f hc
 have HF0:Hid (RowF (w.alloc (.cells (arrF f) 93)) w.heap.size f ∧ Fr NoB w (w.alloc (.cells (arrF f) 93))):=⟨RowF.new w f,(Fr.refl _ _).alloc _⟩
 have HIH:Hid (∀ F',F' < F → ∀ a b,Prog s F' a b → LowIs s a b (lowT s F' a b)):=IH
 clear IH
 have hij:=hp.le
 generalize hR:lowT s F i j f = R
 have HR:Hid _:=hR
 clear hR
 go_enter func59,ntmps59
 go_wp2
 generalize (w.alloc (Obj.cells (arrF f) 93)) = W at *
 have HP:Hid _:=hp
 have HC:Hid (Clean f):=hc
 clear hp hc
 go_loopg [1,9] F (fun k t u wr=>∃ (p:Nat) (g:Nat → Bool) (T:ByteArray),k ≤ F ∧ t = .int .i64 p ∧ u = .string T ∧ p ≤ j ∧ T.size ≤ 40 * p ∧ Prog s k p j ∧ Clean g ∧ R = T ++ lowT s k p j g ∧ RowF wr w.heap.size g ∧ Fr NoB w wr)
 case atStart=>exact ⟨i,f,⟨#[]⟩,Nat.le_refl _,rfl,rfl,hij,Nat.zero_le _,HP.out,HC.out,by rw [HR.out];exact (low_nil _).symm,HF0.out.1,HF0.out.2⟩
 case round =>
  obtain ⟨p,g,T,hk,rfl,rfl,hpj,hTs,hp,hcg,hR,h1,h3⟩:=hrel
  have H1:Hid _:=h1
  have H3:Hid _:=h3
  have HR2:Hid _:=hR
  have Hcg:Hid (Clean g):=hcg
  have Hp:Hid (Prog s gk p j):=hp
  clear h1 h3 hR hcg hp HF0 HR
  by_cases hlt:p < j
  ·have hdec:∃ F' m,gk = F' + 1 ∧ StmtF (Prog s F') s p m ∧ Prog s F' m j:=by
    have:=Hp.out
    cases gk with
    | zero=>exact absurd (show p = j from this) (by omega)
    | succ F' =>
     rcases this with q | ⟨m,q1,q2⟩
     ·omega
     ·exact ⟨F',m,rfl,q1,q2⟩
   obtain ⟨F',m,rfl,hst,hpm⟩:=hdec
   have hml:=hpm.le
   have hps:=hst.lt
   have hpl:p < s.size:=by omega
   have Hpm:Hid (Prog s F' m j):=hpm
   have hpc:=lowS_size hst g
   have HR3:Hid (R = (T ++ lowS s F' p m g) ++ lowT s F' m j (afterF (alongF s F') s p g)):=by
    show R = _
    rw [HR2.out,lowT_step hst hlt,ByteArray.append_assoc]
   have HA2:Hid (∀ X:World,CR 76 #[.string s,.int .i64 p,.agg (arrF g)] X (.agg (arrF (afterF (alongF s F') s p g)))):=fun X=>after_of s hs F' (along_fn s hs F') X p m g hst Hcg.out
   have HBh:Hid (∀ X:World,CS 77 #[.string s,.int .i64 p] X (.int .i64 m)):=fun X=>behind_of s hs F' X p m hst
   have Hcl:Hid (Clean (afterF (alongF s F') s p g)):=Clean.after (fun a b g hg=>Clean.along hg) Hcg.out
   have hG:∃ G,afterF (alongF s F') s p g = G:=⟨_,rfl⟩
   obtain ⟨G,hG⟩:=hG
   rw [hG] at HR3 HA2 Hcl
   have HG:Hid _:=hG
   clear hpm HR2 Hp hG
   have HIH2:Hid (∀ a b,Prog s F' a b → LowIs s a b (lowT s F' a b)):=HIH.out F' (by omega)
   clear HIH
   go_upto_region 9 with (first
    | (go_at_call 77;refine sameC (HBh.out _) ?_)
    | (refine wpList_load_row rfl 93 _ rfl (w.heap.size) rfl 93 (arrF (g)) (0,0) _ (H1.out).h underlying93 rfl (sizeArr _) ?_) | (go_at_call 76;refine (HA2.out _).mono ?_;rintro e wa ⟨rfl,hFa⟩) | (refine wpList_store_row rfl 93 _ _ rfl (wa.heap.size) (arrF (G)) rfl rfl 93 _ (RowF.zero wa).h (sizeArr _) (by rw [arrF_size,arrF_size]) (arrF_one _) ?_))
   have K0:=row_laid hFa G
   have hq1:w.heap.size < wa.heap.size:=Nat.lt_of_lt_of_le H1.out.lt hFa.size
   have K1:=H1.out.no K0.2
   have K3:=H3.out.trans K0.2
   have K2:=K0.1
   clear K0 hFa H1 H3
   unfold zrs at K1 K2 K3
   generalize ((wa.alloc (Obj.cells _ 93)).setRow wa.heap.size (arrF G)) = W2 at *
   generalize wa.heap.size = q at *
   have HK1:Hid _:=K1
   have HK2:Hid _:=K2
   have HK3:Hid _:=K3
   clear K1 K2 K3
   rcases hst with hsm | ⟨e,a,b,c,ho,ha,hp,hb,hb1,hq,hc',rfl⟩ | ⟨e,a,b,ho,ha,hp,hb,rfl⟩
   ·have hms:=lowS_simple (F:=F') hsm g
    have hf:=hsm.first
    rw [bt_in hpl] at hf
    have b1:((s[p].toNat:Int) == 63) = false:=bF (by omega)
    have b2:((s[p].toNat:Int) == 64) = false:=bF (by omega)
    have HGr:Hid _:=fun X=>great_fn X s[p].toNat (UInt8.toNat_lt _)
    have K1:=HK1.out
    go_upto_region 5 with fail
    cases hgr:greatN s[p].toNat
    ·have HO:Hid (ownT s p g = false):=by show _ = _;unfold ownT;rw [bt_in hpl,hgr];rfl
     rw [hgr] at HGr
     have HX:Hid (T ++ lowS s F' p m g = T ++ s.extract p m):=by show _ = _;rw [hms,HO.out,if_neg (by simp),low_nil]
     clear hms hgr K1
     go_quiet ((go_at_call 88;exact Calls.quiet_of_same (HGr.out _)))
     have HL1:Hid _:=HK1.out.no ((Fr.refl NoB W2).drewN nq)
     have HL2:Hid _:=HK2.out.no ((Fr.refl NoB W2).drewN nq)
     have HL3:Hid _:=HK3.out.trans ((Fr.refl NoB W2).drewN nq)
     clear HK1 HK2 HK3
     generalize W2.drewN nq = W3 at *
     go_wp2_with (first
      | (refine wpList_load_row rfl 93 _ rfl q rfl 93 (arrF (G)) (0,0) _ (HL2.out).h underlying93 rfl (sizeArr _) ?_)
      | (refine wpList_store_row rfl 93 _ _ rfl (w.heap.size) (arrF (G)) rfl rfl 93 _ (HL1.out).h (sizeArr _) (by rw [arrF_size,arrF_size]) (arrF_one _) ?_))
     go_roundg F'
     case measure=>omega
     case rel=>exact ⟨m,G,T ++ s.extract p m,by omega,rfl,rfl,hml,by rw [← HX.out,ByteArray.size_append];omega,Hpm.out,Hcl.out,by rw [← HX.out];exact HR3.out,(HL1.out).row _,(HL3.out).setRow (fun q=>absurd q (by omega)) _⟩
    ·have hp2:=simple_two hsm (by rw [bt_in hpl];exact hgr)
     rw [hgr] at HGr
     have b0:=bt_in hpl
     have b3:bt s (p + 1) = s[p + 1].toNat:=bt_in (by omega)
     have b4:bt s (p + 2) = s[p + 2].toNat:=bt_in hp2
     obtain ⟨k1,k2⟩:=great_k hgr
     have w1:IntKind.i64.wrap ((p:Int) + 1) = (p:Int) + 1:=by rw [IntKind.wrap_i64];omega
     have w2:IntKind.i64.wrap ((p:Int) + 2) = (p:Int) + 2:=by rw [IntKind.wrap_i64];omega
     have p1:=fun W=>str_at W s (p + 1) (p + 1:Int) (by omega) rfl
     have p2:=fun W=>str_at W s (p + 2) (p + 2:Int) hp2 rfl
     by_cases e1:s[p + 1].toNat = 61
     ·by_cases e2:s[p + 2].toNat = s[p].toNat
      ·have HO:Hid (ownT s p g = false):=by show _ = _;unfold ownT;rw [b0,b3,b4,e2];simp
       have HX:Hid (T ++ lowS s F' p m g = T ++ s.extract p m):=by show _ = _;rw [hms,HO.out,if_neg (by simp),low_nil]
       have d1:((s[p + 1].toNat:Int) == 61) = true:=beq_iff_eq.2 (by omega)
       have d2:((s[p + 2].toNat:Int) != (s[p].toNat:Int)) = false:=by rw [e2];simp
       clear hms hgr K1 b0 b3 b4 k1 k2 e1 e2
       go_quiet ((go_at_call 88;exact Calls.quiet_of_same (HGr.out _)))
       have HL1:Hid _:=HK1.out.no ((Fr.refl NoB W2).drewN nq)
       have HL2:Hid _:=HK2.out.no ((Fr.refl NoB W2).drewN nq)
       have HL3:Hid _:=HK3.out.trans ((Fr.refl NoB W2).drewN nq)
       clear HK1 HK2 HK3
       generalize W2.drewN nq = W3 at *
       go_wp2_with (first
        | (refine wpList_load_row rfl 93 _ rfl q rfl 93 (arrF (G)) (0,0) _ (HL2.out).h underlying93 rfl (sizeArr _) ?_)
        | (refine wpList_store_row rfl 93 _ _ rfl (w.heap.size) (arrF (G)) rfl rfl 93 _ (HL1.out).h (sizeArr _) (by rw [arrF_size,arrF_size]) (arrF_one _) ?_))
       go_roundg F'
       case measure=>omega
       case rel=>exact ⟨m,G,T ++ s.extract p m,by omega,rfl,rfl,hml,by rw [← HX.out,ByteArray.size_append];omega,Hpm.out,Hcl.out,by rw [← HX.out];exact HR3.out,(HL1.out).row _,(HL3.out).setRow (fun q=>absurd q (by omega)) _⟩
      ·have d1:((s[p + 1].toNat:Int) == 61) = true:=beq_iff_eq.2 (by omega)
       have d2:((s[p + 2].toNat:Int) != (s[p].toNat:Int)) = true:=bne_iff_ne.2 (by omega)
       have hO:ownT s p g = g (s[p].toNat - 65):=by
        unfold ownT
        have d3:(s[p + 2].toNat != s[p].toNat) = true:=bne_iff_ne.2 e2
        rw [b0,b3,b4,e1,hgr,d3]
        simp
       have HY:Hid (ownT s p g = true → T ++ lowS s F' p m g = T ++ ⟨#[126]⟩ ++ s.extract p (p + 1) ++ ⟨#[59]⟩ ++ s.extract p m):=fun q=>by
        rw [hms,if_pos q,drB_text hpl (by rw [b0];exact hgr)]
        simp only [ByteArray.append_assoc]
       have HN:Hid (ownT s p g = false → T ++ lowS s F' p m g = T ++ s.extract p m):=fun q=>by rw [hms,q,if_neg (by simp),low_nil]
       rw [hO] at HY HN
       clear hO hms hgr b0 b3 b4 e1 e2
       generalize hkk:s[p].toNat - 65 = kk at *
       have c1:=HK1.out.cell k1
       have w3:IntKind.u8.wrap ((kk:Int) + 65 - 65) = (kk:Int):=by rw [IntKind.wrap_u8];omega
       have k3:(kk:Int) < 26:=by omega
       clear hkk
       have d3:((s[p + 2].toNat:Int) != (kk:Int) + 65) = true:=by rw [k2] at d2;simpa using d2
       clear d2
       rw [k2] at HGr b1 b2
       cases hgk:g kk
       ·have HX:Hid (T ++ lowS s F' p m g = T ++ s.extract p m):=HN.out hgk
        rw [hgk] at c1
        clear HY HN hgk K1
        go_quiet ((go_at_call 88;exact Calls.quiet_of_same (HGr.out _)))
        have HL1:Hid _:=HK1.out.no ((Fr.refl NoB W2).drewN nq)
        have HL2:Hid _:=HK2.out.no ((Fr.refl NoB W2).drewN nq)
        have HL3:Hid _:=HK3.out.trans ((Fr.refl NoB W2).drewN nq)
        clear HK1 HK2 HK3
        generalize W2.drewN nq = W3 at *
        go_wp2_with (first
         | (refine wpList_load_row rfl 93 _ rfl q rfl 93 (arrF (G)) (0,0) _ (HL2.out).h underlying93 rfl (sizeArr _) ?_)
         | (refine wpList_store_row rfl 93 _ _ rfl (w.heap.size) (arrF (G)) rfl rfl 93 _ (HL1.out).h (sizeArr _) (by rw [arrF_size,arrF_size]) (arrF_one _) ?_))
        go_roundg F'
        case measure=>omega
        case rel=>exact ⟨m,G,T ++ s.extract p m,by omega,rfl,rfl,hml,by rw [← HX.out,ByteArray.size_append];omega,Hpm.out,Hcl.out,by rw [← HX.out];exact HR3.out,(HL1.out).row _,(HL3.out).setRow (fun q=>absurd q (by omega)) _⟩
       ·have HX:Hid (T ++ lowS s F' p m g = T ++ ⟨#[126]⟩ ++ s.extract p (p + 1) ++ ⟨#[59]⟩ ++ s.extract p m):=HY.out hgk
        rw [hgk] at c1
        clear HY HN hgk K1
        go_quiet ((go_at_call 88;exact Calls.quiet_of_same (HGr.out _)))
        have HL1:Hid _:=HK1.out.no ((Fr.refl NoB W2).drewN nq)
        have HL2:Hid _:=HK2.out.no ((Fr.refl NoB W2).drewN nq)
        have HL3:Hid _:=HK3.out.trans ((Fr.refl NoB W2).drewN nq)
        clear HK1 HK2 HK3
        generalize W2.drewN nq = W3 at *
        go_wp2_with (first
         | (refine wpList_load_row rfl 93 _ rfl q rfl 93 (arrF (G)) (0,0) _ (HL2.out).h underlying93 rfl (sizeArr _) ?_)
         | (refine wpList_store_row rfl 93 _ _ rfl (w.heap.size) (arrF (G)) rfl rfl 93 _ (HL1.out).h (sizeArr _) (by rw [arrF_size,arrF_size]) (arrF_one _) ?_))
        go_roundg F'
        case measure=>omega
        case rel=>exact ⟨m,G,T ++ ⟨#[126]⟩ ++ s.extract p (p + 1) ++ ⟨#[59]⟩ ++ s.extract p m,by omega,rfl,rfl,hml,by rw [← HX.out,ByteArray.size_append];omega,Hpm.out,Hcl.out,by rw [← HX.out];exact HR3.out,(HL1.out).row _,(HL3.out).setRow (fun q=>absurd q (by omega)) _⟩
     ·have HO:Hid (ownT s p g = false):=by
       show _ = _
       unfold ownT
       have d3:(s[p + 1].toNat == 61) = false:=beq_eq_false_iff_ne.2 e1
       rw [b0,b3,d3]
       simp
      have HX:Hid (T ++ lowS s F' p m g = T ++ s.extract p m):=by show _ = _;rw [hms,HO.out,if_neg (by simp),low_nil]
      have d1:((s[p + 1].toNat:Int) == 61) = false:=bF (by omega)
      clear hms hgr K1 b0 b3 b4 k1 k2 e1
      go_quiet ((go_at_call 88;exact Calls.quiet_of_same (HGr.out _)))
      have HL1:Hid _:=HK1.out.no ((Fr.refl NoB W2).drewN nq)
      have HL2:Hid _:=HK2.out.no ((Fr.refl NoB W2).drewN nq)
      have HL3:Hid _:=HK3.out.trans ((Fr.refl NoB W2).drewN nq)
      clear HK1 HK2 HK3
      generalize W2.drewN nq = W3 at *
      go_wp2_with (first
       | (refine wpList_load_row rfl 93 _ rfl q rfl 93 (arrF (G)) (0,0) _ (HL2.out).h underlying93 rfl (sizeArr _) ?_)
       | (refine wpList_store_row rfl 93 _ _ rfl (w.heap.size) (arrF (G)) rfl rfl 93 _ (HL1.out).h (sizeArr _) (by rw [arrF_size,arrF_size]) (arrF_one _) ?_))
      go_roundg F'
      case measure=>omega
      case rel=>exact ⟨m,G,T ++ s.extract p m,by omega,rfl,rfl,hml,by rw [← HX.out,ByteArray.size_append];omega,Hpm.out,Hcl.out,by rw [← HX.out];exact HR3.out,(HL1.out).row _,(HL3.out).setRow (fun q=>absurd q (by omega)) _⟩
   ·have hI:=ifAt_of e ho ha hp hb hb1 hq hc'
    have hms:=lowS_if (F:=F') hI g G HG.out
    have HH:Hid _:=fun X=>halves_fn X s p a b c hI hs
    have hbd:=hI.bnd
    have l1:=lowT_size hp g
    have l2:=lowT_size hq g
    have m1:(drsB (minL (alongF s F' (a + 1) b g) G)).size ≤ 78:=by rw [drsB_size];have:=minL_len (alongF s F' (a + 1) b g) G;omega
    have m2:(drsB (minL (alongF s F' (b + 2) c g) G)).size ≤ 78:=by rw [drsB_size];have:=minL_len (alongF s F' (b + 2) c g) G;omega
    have HA3:Hid (∀ X:World,CR 60 #[.string s,.int .i64 ((a:Int) + 1),.int .i64 b,.agg (arrF g)] X (.agg (arrF (alongF s F' (a + 1) b g)))):=fun X=>along_fn s hs F' _ _ hp X g Hcg.out
    have HA4:Hid (∀ X:World,CR 60 #[.string s,.int .i64 ((b:Int) + 2),.int .i64 c,.agg (arrF g)] X (.agg (arrF (alongF s F' (b + 2) c g)))):=fun X=>along_fn s hs F' _ _ hq X g Hcg.out
    have HI1:Hid (∀ X:World,CR 59 #[.string s,.int .i64 ((a:Int) + 1),.int .i64 b,.agg (arrF g)] X (.string (lowT s F' (a + 1) b g))):=fun X=>HIH2.out _ _ hp X g Hcg.out
    have HI2:Hid (∀ X:World,CR 59 #[.string s,.int .i64 ((b:Int) + 2),.int .i64 c,.agg (arrF g)] X (.string (lowT s F' (b + 2) c g))):=fun X=>HIH2.out _ _ hq X g Hcg.out
    generalize alongF s F' (a + 1) b g = f1 at *
    generalize alongF s F' (b + 2) c g = f2 at *
    have HD1:Hid (∀ X:World,CR 61 #[.agg (arrF f1),.agg (arrF G)] X (.string (drsB (minL f1 G)))):=fun X=>drops_fn X f1 G
    have HD2:Hid (∀ X:World,CR 61 #[.agg (arrF f2),.agg (arrF G)] X (.string (drsB (minL f2 G)))):=fun X=>drops_fn X f2 G
    generalize drsB (minL f1 G) = D1 at *
    generalize drsB (minL f2 G) = D2 at *
    generalize lowT s F' (a + 1) b g = L1 at *
    generalize lowT s F' (b + 2) c g = L2 at *
    rw [bt_in hpl] at e
    have b1:((s[p].toNat:Int) == 63) = true:=beq_iff_eq.2 (by omega)
    have x1:=fun W=>str_cut W s p (a + 1) (p:Int) ((a:Int) + 1) (by omega) (by omega) rfl rfl
    have x2:=fun W=>str_cut W s b (b + 2) (b:Int) ((b:Int) + 2) (by omega) (by omega) rfl rfl
    have x3:=fun W=>str_cut W s c (c + 1) (c:Int) ((c:Int) + 1) (by omega) (by omega) rfl rfl
    have HX:Hid (T ++ lowS s F' p (c + 1) g = T ++ s.extract p (a + 1) ++ L1 ++ D1 ++ s.extract b (b + 2) ++ L2 ++ D2 ++ s.extract c (c + 1)):=by
     show _ = _
     rw [hms]
     simp only [ByteArray.append_assoc]
    have z1:(s.extract p (a + 1)).size ≤ 100000:=by rw [size_ext (by omega) (by omega)];omega
    have z2:(s.extract b (b + 2)).size ≤ 100000:=by rw [size_ext (by omega) (by omega)];omega
    have z3:(s.extract c (c + 1)).size ≤ 100000:=by rw [size_ext (by omega) (by omega)];omega
    clear e ho ha hp hb hb1 hq hc' hI HIH2 hms
    generalize s.extract p (a + 1) = X1 at *
    generalize s.extract b (b + 2) = X2 at *
    generalize s.extract c (c + 1) = X3 at *
    have y1:=fun W=>str_add W T X1 5000000 (by simp only [ByteArray.size_append];omega) (by omega)
    have y2:=fun W=>str_add W (T ++ X1) L1 10000000 (by simp only [ByteArray.size_append];omega) (by omega)
    have y3:=fun W=>str_add W (T ++ X1 ++ L1) D1 10000000 (by simp only [ByteArray.size_append];omega) (by omega)
    have y4:=fun W=>str_add W (T ++ X1 ++ L1 ++ D1) X2 10000000 (by simp only [ByteArray.size_append];omega) (by omega)
    have y5:=fun W=>str_add W (T ++ X1 ++ L1 ++ D1 ++ X2) L2 20000000 (by simp only [ByteArray.size_append];omega) (by omega)
    have y6:=fun W=>str_add W (T ++ X1 ++ L1 ++ D1 ++ X2 ++ L2) D2 20000000 (by simp only [ByteArray.size_append];omega) (by omega)
    have y7:=fun W=>str_add W (T ++ X1 ++ L1 ++ D1 ++ X2 ++ L2 ++ D2) X3 20000000 (by simp only [ByteArray.size_append];omega) (by omega)
    go_upto_region 12 with (first
     | (go_at_call 72;refine sameC (HH.out _) ?_)
     | (refine wpList_load_row rfl 93 _ rfl (w.heap.size) rfl 93 (arrF (g)) (0,0) _ (HK1.out).h underlying93 rfl (sizeArr _) ?_)
     | (go_at_call 60;refine (HA3.out _).mono ?_;rintro e wc ⟨rfl,hFc⟩)
     | (refine wpList_store_row rfl 93 _ _ rfl (wc.heap.size) (arrF (f1)) rfl rfl 93 _ (RowF.zero wc).h (sizeArr _) (by rw [arrF_size,arrF_size]) (arrF_one _) ?_))
    have K0:=row_laid hFc f1
    have hq2:q < wc.heap.size:=Nat.lt_of_lt_of_le HK2.out.lt hFc.size
    have K1:=HK1.out.no K0.2
    have K2:=HK2.out.no K0.2
    have K3:=HK3.out.trans K0.2
    have K4:=K0.1
    clear K0 hFc HK1 HK2 HK3
    unfold zrs at K1 K2 K3 K4
    generalize ((wc.alloc (Obj.cells _ 93)).setRow wc.heap.size (arrF f1)) = W3 at *
    generalize wc.heap.size = r at *
    have HL1:Hid _:=K1
    have HL2:Hid _:=K2
    have HL3:Hid _:=K3
    have HL4:Hid _:=K4
    clear K1 K2 K3 K4
    go_upto_region 13 with (first
     | (refine wpList_load_row rfl 93 _ rfl (w.heap.size) rfl 93 (arrF (g)) (0,0) _ (HL1.out).h underlying93 rfl (sizeArr _) ?_)
     | (go_at_call 60;refine (HA4.out _).mono ?_;rintro e wd ⟨rfl,hFd⟩)
     | (refine wpList_store_row rfl 93 _ _ rfl (wd.heap.size) (arrF (f2)) rfl rfl 93 _ (RowF.zero wd).h (sizeArr _) (by rw [arrF_size,arrF_size]) (arrF_one _) ?_))
    have K0:=row_laid hFd f2
    have hq3:r < wd.heap.size:=Nat.lt_of_lt_of_le HL4.out.lt hFd.size
    have K1:=HL1.out.no K0.2
    have K2:=HL2.out.no K0.2
    have K3:=HL3.out.trans K0.2
    have K4:=HL4.out.no K0.2
    have K5:=K0.1
    clear K0 hFd HL1 HL2 HL3 HL4
    unfold zrs at K1 K2 K3 K4 K5
    generalize ((wd.alloc (Obj.cells _ 93)).setRow wd.heap.size (arrF f2)) = W4 at *
    generalize wd.heap.size = v at *
    have HK1:Hid _:=K1
    have HK2:Hid _:=K2
    have HK3:Hid _:=K3
    have HQ:Hid ((∀ i:Kin W4,(loadVar 93 ⟨w.heap.size,0,none⟩).run prog i.x = .ok (.agg (arrF g)) i.x) ∧ (∀ i:Kin W4,(loadVar 93 ⟨q,0,none⟩).run prog i.x = .ok (.agg (arrF G)) i.x) ∧ (∀ i:Kin W4,(loadVar 93 ⟨r,0,none⟩).run prog i.x = .ok (.agg (arrF f1)) i.x) ∧ (∀ i:Kin W4,(loadVar 93 ⟨v,0,none⟩).run prog i.x = .ok (.agg (arrF f2)) i.x)):=⟨fun i=>(K1.no i.f).load,fun i=>(K2.no i.f).load,fun i=>(K4.no i.f).load,fun i=>(K5.no i.f).load⟩
    clear K1 K2 K3 K4 K5 HA3 HA4 HH
    have hne:Nonempty (Kin W4):=⟨⟨W4,Fr.refl _ _⟩⟩
    simp only [Act.put]
    refine wp_region_cls (by kernel_rfl) (by kernel_rfl) ?_
    iterate 9 (go_big_quiet_step (fail))
    refine quiet_row 93 _ w.heap.size (.agg (arrF g)) rfl rfl rfl (fun w hw=>by obtain ⟨i,rfl⟩:=hw;exact HQ.out.1 i) ?_
    simp only [Act.put,List.setIfInBounds_toArray,List.set_cons_zero,List.set_cons_succ]
    go_big_quiet_step (exact Calls.cls _ (HI1.out _))
    iterate 1 (go_big_quiet_step (fail))
    refine quiet_row 93 _ r (.agg (arrF f1)) rfl rfl rfl (fun w hw=>by obtain ⟨i,rfl⟩:=hw;exact HQ.out.2.2.1 i) ?_
    simp only [Act.put,List.setIfInBounds_toArray,List.set_cons_zero,List.set_cons_succ]
    refine quiet_row 93 _ q (.agg (arrF G)) rfl rfl rfl (fun w hw=>by obtain ⟨i,rfl⟩:=hw;exact HQ.out.2.1 i) ?_
    simp only [Act.put,List.setIfInBounds_toArray,List.set_cons_zero,List.set_cons_succ]
    go_big_quiet_step (exact Calls.cls _ (HD1.out _))
    iterate 9 (go_big_quiet_step (fail))
    refine quiet_row 93 _ w.heap.size (.agg (arrF g)) rfl rfl rfl (fun w hw=>by obtain ⟨i,rfl⟩:=hw;exact HQ.out.1 i) ?_
    simp only [Act.put,List.setIfInBounds_toArray,List.set_cons_zero,List.set_cons_succ]
    go_big_quiet_step (exact Calls.cls _ (HI2.out _))
    iterate 1 (go_big_quiet_step (fail))
    refine quiet_row 93 _ v (.agg (arrF f2)) rfl rfl rfl (fun w hw=>by obtain ⟨i,rfl⟩:=hw;exact HQ.out.2.2.2 i) ?_
    simp only [Act.put,List.setIfInBounds_toArray,List.set_cons_zero,List.set_cons_succ]
    refine quiet_row 93 _ q (.agg (arrF G)) rfl rfl rfl (fun w hw=>by obtain ⟨i,rfl⟩:=hw;exact HQ.out.2.1 i) ?_
    simp only [Act.put,List.setIfInBounds_toArray,List.set_cons_zero,List.set_cons_succ]
    go_big_quiet_step (exact Calls.cls _ (HD2.out _))
    iterate 7 (go_big_quiet_step (fail))
    refine wpQuiet_nil ?_
    intro W5 hw'
    have hF5:Fr NoB W4 W5:=by obtain ⟨i,rfl⟩:=hw';exact i.f
    have HL1:Hid _:=HK1.out.no hF5
    have HL2:Hid _:=HK2.out.no hF5
    have HL3:Hid _:=HK3.out.trans hF5
    clear HK1 HK2 HK3 HQ hne hw' hF5 HI1 HD1
    go_wp2_with (first
     | (refine wpList_load_row rfl 93 _ rfl q rfl 93 (arrF (G)) (0,0) _ (HL2.out).h underlying93 rfl (sizeArr _) ?_)
     | (refine wpList_store_row rfl 93 _ _ rfl (w.heap.size) (arrF (G)) rfl rfl 93 _ (HL1.out).h (sizeArr _) (by rw [arrF_size,arrF_size]) (arrF_one _) ?_))
    go_roundg F'
    case measure=>omega
    case rel=>exact ⟨c + 1,G,T ++ X1 ++ L1 ++ D1 ++ X2 ++ L2 ++ D2 ++ X3,by omega,by go_num,rfl,hml,by rw [← HX.out,ByteArray.size_append];omega,Hpm.out,Hcl.out,by rw [← HX.out];exact HR3.out,(HL1.out).row _,(HL3.out).setRow (fun q=>absurd q (by omega)) _⟩
   ·have hL:=loopAt_of e ho ha hp hb
    have hms:=lowS_loop (F:=F') hL g G HG.out
    have HH:Hid _:=fun X=>body_fn X s p a b hL hs
    have hbd:=hL.bnd
    have l1:=lowT_size hp G
    have m1:(drsB (minL g G)).size ≤ 78:=by rw [drsB_size];have:=minL_len g G;omega
    have m2:(drsB (minL (alongF s F' (a + 1) b G) G)).size ≤ 78:=by rw [drsB_size];have:=minL_len (alongF s F' (a + 1) b G) G;omega
    have HA3:Hid (∀ X:World,CR 60 #[.string s,.int .i64 ((a:Int) + 1),.int .i64 b,.agg (arrF G)] X (.agg (arrF (alongF s F' (a + 1) b G)))):=fun X=>along_fn s hs F' _ _ hp X G Hcl.out
    have HI1:Hid (∀ X:World,CR 59 #[.string s,.int .i64 ((a:Int) + 1),.int .i64 b,.agg (arrF G)] X (.string (lowT s F' (a + 1) b G))):=fun X=>HIH2.out _ _ hp X G Hcl.out
    generalize alongF s F' (a + 1) b G = f1 at *
    have HD1:Hid (∀ X:World,CR 61 #[.agg (arrF g),.agg (arrF G)] X (.string (drsB (minL g G)))):=fun X=>drops_fn X g G
    have HD2:Hid (∀ X:World,CR 61 #[.agg (arrF f1),.agg (arrF G)] X (.string (drsB (minL f1 G)))):=fun X=>drops_fn X f1 G
    generalize drsB (minL g G) = D1 at *
    generalize drsB (minL f1 G) = D2 at *
    generalize lowT s F' (a + 1) b G = L1 at *
    rw [bt_in hpl] at e
    have b1:((s[p].toNat:Int) == 63) = false:=bF (by omega)
    have b2:((s[p].toNat:Int) == 64) = true:=beq_iff_eq.2 (by omega)
    have x1:=fun W=>str_cut W s p (a + 1) (p:Int) ((a:Int) + 1) (by omega) (by omega) rfl rfl
    have x2:=fun W=>str_cut W s b (b + 1) (b:Int) ((b:Int) + 1) (by omega) (by omega) rfl rfl
    have HX:Hid (T ++ lowS s F' p (b + 1) g = T ++ D1 ++ s.extract p (a + 1) ++ L1 ++ D2 ++ s.extract b (b + 1)):=by
     show _ = _
     rw [hms]
     simp only [ByteArray.append_assoc]
    have z1:(s.extract p (a + 1)).size ≤ 100000:=by rw [size_ext (by omega) (by omega)];omega
    have z2:(s.extract b (b + 1)).size ≤ 100000:=by rw [size_ext (by omega) (by omega)];omega
    clear e ho ha hp hb hL HIH2 hms
    generalize s.extract p (a + 1) = X1 at *
    generalize s.extract b (b + 1) = X2 at *
    have y1:=fun W=>str_add W T D1 5000000 (by simp only [ByteArray.size_append];omega) (by omega)
    have y2:=fun W=>str_add W (T ++ D1) X1 10000000 (by simp only [ByteArray.size_append];omega) (by omega)
    have y3:=fun W=>str_add W (T ++ D1 ++ X1) L1 10000000 (by simp only [ByteArray.size_append];omega) (by omega)
    have y4:=fun W=>str_add W (T ++ D1 ++ X1 ++ L1) D2 10000000 (by simp only [ByteArray.size_append];omega) (by omega)
    have y5:=fun W=>str_add W (T ++ D1 ++ X1 ++ L1 ++ D2) X2 10000000 (by simp only [ByteArray.size_append];omega) (by omega)
    go_upto_region 17 with (first
     | (go_at_call 73;refine sameC (HH.out _) ?_)
     | (refine wpList_load_row rfl 93 _ rfl q rfl 93 (arrF (G)) (0,0) _ (HK2.out).h underlying93 rfl (sizeArr _) ?_)
     | (go_at_call 60;refine (HA3.out _).mono ?_;rintro e wc ⟨rfl,hFc⟩)
     | (refine wpList_store_row rfl 93 _ _ rfl (wc.heap.size) (arrF (f1)) rfl rfl 93 _ (RowF.zero wc).h (sizeArr _) (by rw [arrF_size,arrF_size]) (arrF_one _) ?_))
    have K0:=row_laid hFc f1
    have K1:=HK1.out.no K0.2
    have K2:=HK2.out.no K0.2
    have K3:=HK3.out.trans K0.2
    have K4:=K0.1
    clear K0 hFc HK1 HK2 HK3
    unfold zrs at K1 K2 K3 K4
    generalize ((wc.alloc (Obj.cells _ 93)).setRow wc.heap.size (arrF f1)) = W4 at *
    generalize wc.heap.size = r at *
    have HK1:Hid _:=K1
    have HK2:Hid _:=K2
    have HK3:Hid _:=K3
    have HQ:Hid ((∀ i:Kin W4,(loadVar 93 ⟨w.heap.size,0,none⟩).run prog i.x = .ok (.agg (arrF g)) i.x) ∧ (∀ i:Kin W4,(loadVar 93 ⟨q,0,none⟩).run prog i.x = .ok (.agg (arrF G)) i.x) ∧ (∀ i:Kin W4,(loadVar 93 ⟨r,0,none⟩).run prog i.x = .ok (.agg (arrF f1)) i.x)):=⟨fun i=>(K1.no i.f).load,fun i=>(K2.no i.f).load,fun i=>(K4.no i.f).load⟩
    clear K1 K2 K3 K4 HA3 HH
    have hne:Nonempty (Kin W4):=⟨⟨W4,Fr.refl _ _⟩⟩
    simp only [Act.put]
    refine wp_region_cls (by kernel_rfl) (by kernel_rfl) ?_
    iterate 1 (go_big_quiet_step (fail))
    refine quiet_row 93 _ w.heap.size (.agg (arrF g)) rfl rfl rfl (fun w hw=>by obtain ⟨i,rfl⟩:=hw;exact HQ.out.1 i) ?_
    simp only [Act.put,List.setIfInBounds_toArray,List.set_cons_zero,List.set_cons_succ]
    refine quiet_row 93 _ q (.agg (arrF G)) rfl rfl rfl (fun w hw=>by obtain ⟨i,rfl⟩:=hw;exact HQ.out.2.1 i) ?_
    simp only [Act.put,List.setIfInBounds_toArray,List.set_cons_zero,List.set_cons_succ]
    go_big_quiet_step (exact Calls.cls _ (HD1.out _))
    iterate 9 (go_big_quiet_step (fail))
    refine quiet_row 93 _ q (.agg (arrF G)) rfl rfl rfl (fun w hw=>by obtain ⟨i,rfl⟩:=hw;exact HQ.out.2.1 i) ?_
    simp only [Act.put,List.setIfInBounds_toArray,List.set_cons_zero,List.set_cons_succ]
    go_big_quiet_step (exact Calls.cls _ (HI1.out _))
    iterate 1 (go_big_quiet_step (fail))
    refine quiet_row 93 _ r (.agg (arrF f1)) rfl rfl rfl (fun w hw=>by obtain ⟨i,rfl⟩:=hw;exact HQ.out.2.2 i) ?_
    simp only [Act.put,List.setIfInBounds_toArray,List.set_cons_zero,List.set_cons_succ]
    refine quiet_row 93 _ q (.agg (arrF G)) rfl rfl rfl (fun w hw=>by obtain ⟨i,rfl⟩:=hw;exact HQ.out.2.1 i) ?_
    simp only [Act.put,List.setIfInBounds_toArray,List.set_cons_zero,List.set_cons_succ]
    go_big_quiet_step (exact Calls.cls _ (HD2.out _))
    iterate 7 (go_big_quiet_step (fail))
    refine wpQuiet_nil ?_
    intro W5 hw'
    have hF5:Fr NoB W4 W5:=by obtain ⟨i,rfl⟩:=hw';exact i.f
    have HL1:Hid _:=HK1.out.no hF5
    have HL2:Hid _:=HK2.out.no hF5
    have HL3:Hid _:=HK3.out.trans hF5
    clear HK1 HK2 HK3 HQ hne hw' hF5 HI1 HD1
    go_wp2_with (first
     | (refine wpList_load_row rfl 93 _ rfl q rfl 93 (arrF (G)) (0,0) _ (HL2.out).h underlying93 rfl (sizeArr _) ?_)
     | (refine wpList_store_row rfl 93 _ _ rfl (w.heap.size) (arrF (G)) rfl rfl 93 _ (HL1.out).h (sizeArr _) (by rw [arrF_size,arrF_size]) (arrF_one _) ?_))
    go_roundg F'
    case measure=>omega
    case rel=>exact ⟨b + 1,G,T ++ D1 ++ X1 ++ L1 ++ D2 ++ X2,by omega,by go_num,rfl,hml,by rw [← HX.out,ByteArray.size_append];omega,Hpm.out,Hcl.out,by rw [← HX.out];exact HR3.out,(HL1.out).row _,(HL3.out).setRow (fun q=>absurd q (by omega)) _⟩
  ·have hpe:p = j:=by omega
   subst hpe
   have HE:Hid (R = T):=by show R = T;rw [HR2.out,lowT_end];exact ByteArray.append_empty
   clear HR2
   go_wp2
   go_ret
   exact ⟨retS HE.out.symm,H3.out⟩
end Go.Proofs.YthcjcjfgdgnljabGreatDoor
