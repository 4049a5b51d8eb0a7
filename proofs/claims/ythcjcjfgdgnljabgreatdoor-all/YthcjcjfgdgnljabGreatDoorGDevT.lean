import Derived.Test.YthcjcjfgdgnljabGreatDoorGDevS
set_option linter.unusedVariables false
set_option maxHeartbeats 4000000
set_option maxRecDepth 8000
open Go.Proofs.Tryz
namespace Go.Proofs.YthcjcjfgdgnljabGreatDoor
open Go.RowKit
theorem in_tk {s:ByteArray} {z:Nat × Nat} (c:Nat) (hc:c ≠ 0) (h:In s z):In s (tk s c z):=h.tk hc
structure Mo (z z':Nat × Nat):Prop where
 le:z.1 ≤ z'.1
 ok:z'.2 = 0 → z.2 = 0
 w:z.2 ≤ 3 → z'.2 ≤ 3
theorem Mo.refl (z:Nat × Nat):Mo z z:=⟨Nat.le_refl _,id,id⟩
theorem Mo.trans {a b c:Nat × Nat} (h:Mo a b) (g:Mo b c):Mo a c:=⟨Nat.le_trans h.le g.le,fun e=>h.ok (g.ok e),fun e=>g.w (h.w e)⟩
theorem mo_rf {e:Nat} (he:e = 2 ∨ e = 3) (z:Nat × Nat):Mo z (rf e z):=by
 unfold rf
 split
 ·exact ⟨Nat.le_refl _,fun _=>by assumption,fun _=>by show e ≤ 3;omega⟩
 ·exact Mo.refl _
theorem mo_next (z:Nat × Nat):Mo z (z.1 + 1,z.2):=⟨Nat.le_succ _,id,id⟩
theorem mo_tk (s:ByteArray) (c:Nat) (z:Nat × Nat):Mo z (tk s c z):=by
 unfold tk
 split
 ·exact mo_next z
 ·exact mo_rf (.inl rfl) z
theorem mo_bx (s:ByteArray) (z:Nat × Nat):Mo z (bx s z):=by
 unfold bx
 split
 ·exact mo_next z
 ·exact mo_rf (.inl rfl) z
theorem mo_dg (s:ByteArray):∀ (n:Nat) (z:Nat × Nat),Mo z (dg s n z)
 | 0,z=>Mo.refl z
 | n + 1,z=>by
  rw [dg_step]
  split
  ·exact (mo_next z).trans (mo_dg s n _)
  ·exact Mo.refl z
theorem mo_op (s:ByteArray) (z:Nat × Nat):Mo z (op s z):=by
 unfold op
 split
 ·exact mo_next z
 ·split
  ·exact mo_dg s 3 z
  ·exact mo_rf (.inl rfl) z
theorem mo_ix (s:ByteArray) (z:Nat × Nat):Mo z (ix s z):=((mo_tk s 91 z).trans (mo_op s _)).trans (mo_tk s 93 _)
theorem mo_rk (s:ByteArray) (z:Nat × Nat):Mo z (rk s z):=by
 unfold rk
 split
 ·exact ((mo_op s z).trans (mo_tk s _ _)).trans (mo_op s _)
 ·exact mo_op s z
theorem bxV_lt (s:ByteArray) (z:Nat × Nat):bxV s z < 26:=by
 unfold bxV
 split
 ·rename_i h
  exact box_lt h
 ·omega
theorem flat_push {P:List Pt} {t:Pt} (h:FlatOk (pOf P) P.length) (ht:PtOk t) (ho:t.kind = 9 ∨ t.kind = 10 ∨ t.kind = 12 → t.opn < P.length) (hl:t.kind = 12 → (pOf P t.opn).kind = 11):FlatOk (pOf (P ++ [t])) (P ++ [t]).length:=by
 have hlen:(P ++ [t]).length = P.length + 1:=by simp
 rw [hlen]
 refine ⟨fun i hi=>?_,fun i hi hk=>?_,fun i hi hk=>?_⟩
 ·by_cases e:i = P.length
  ·subst e;rw [pOf_new];exact ht
  ·rw [pOf_app _ (by omega)];exact h.ok i (by omega)
 ·by_cases e:i = P.length
  ·subst e;rw [pOf_new] at hk ⊢;exact ho hk
  ·rw [pOf_app _ (by omega)] at hk ⊢;exact h.op i (by omega) hk
 ·by_cases e:i = P.length
  ·subst e
   rw [pOf_new] at hk ⊢
   rw [pOf_app _ (ho (.inr (.inr hk)))]
   exact hl hk
  ·have hi':i < P.length:=by omega
   rw [pOf_app _ hi'] at hk ⊢
   have:=h.op i hi' (.inr (.inr hk))
   rw [pOf_app _ (by omega)]
   exact h.lp i hi' hk
structure RJ (s:ByteArray) (r:Rs):Prop extends RI s r where
 fl:FlatOk (pOf r.P) r.P.length
 pl:r.P.length ≤ r.z.1 + 1
 p0:r.z.2 = 0 → r.P.length ≤ r.z.1
 o9:r.O.length ≤ 9
 w3:r.z.2 ≤ 3
theorem rj_plain {s:ByteArray} {r:Rs} {z':Nat × Nat} {t:Pt} (h:RJ s r) (hw:r.z.2 = 0) (hin:In s z') (hm:Mo (r.z.1 + 1,r.z.2) z') (ht:PtOk t) (hk:t.kind < 8):RJ s ⟨z',r.P ++ [t],r.O⟩ ∧ (z'.2 ≠ 0 ∨ r.z.1 < z'.1):=by
 have hle:=hm.le
 have hp:=h.p0 hw
 simp only [] at hle
 have hlen:(r.P ++ [t]).length = r.P.length + 1:=by simp
 refine ⟨⟨⟨hin,fun o ho=>?_,fun _=>h.h8 hw⟩,flat_push h.fl ht (fun q=>by omega) (fun q=>by omega),?_,fun _=>?_,h.o9,hm.w h.w3⟩,.inr (by omega)⟩
 ·obtain ⟨h1,h2⟩:=h.ho o ho
  refine ⟨?_,?_⟩
  ·show o < (r.P ++ [t]).length;omega
  ·show (pOf (r.P ++ [t]) o).kind = 8 ∨ _
   rw [pOf_app _ h1]
   exact h2
 ·show (r.P ++ [t]).length ≤ z'.1 + 1;omega
 ·show (r.P ++ [t]).length ≤ z'.1;omega
theorem rj_part {s:ByteArray} {r:Rs} (hs:s.size ≤ 90000) (h:RJ s r) (hw:r.z.2 = 0) (hl:r.z.1 < s.size):RJ s (rPart s r) ∧ ((rPart s r).z.2 ≠ 0 ∨ r.z.1 < (rPart s r).z.1):=by
 have hpk:pk s r.z = bt s r.z.1:=pk_ok hw
 have hi1:In s (r.z.1 + 1,r.z.2):=hl
 have hpt:∀ k n b c o1 sg o2 o,k ≤ 12 → n < 26 → b < 26 → c < 26 → OdOk o1 → sg < 256 → OdOk o2 → o ≤ 100000 → PtOk ⟨k,r.z.1,n,b,c,o1,sg,o2,o⟩:=fun k n b c o1 sg o2 o h1 h2 h3 h4 h5 h6 h7 h8=>⟨h1,h2,h5,h7,h6,h3,h4,by show r.z.1 ≤ 100000;omega,h8⟩
 have htk:∀ c,pk s r.z = c → tk s c r.z = (r.z.1 + 1,r.z.2):=fun c e=>by unfold tk;rw [if_pos e]
 have bad:RJ s ⟨rf 2 r.z,r.P,r.O⟩ ∧ ((⟨rf 2 r.z,r.P,r.O⟩:Rs).z.2 ≠ 0 ∨ r.z.1 < (⟨rf 2 r.z,r.P,r.O⟩:Rs).z.1):=by
  have e:rf 2 r.z = (r.z.1,2):=rf_ok 2 hw
  rw [e]
  exact ⟨⟨⟨h.hin,h.ho,fun q=>absurd q (by simp)⟩,h.fl,h.pl,fun q=>absurd q (by simp),h.o9,by show 2 ≤ 3;omega⟩,.inl (by simp)⟩
 unfold rPart
 split
 ·rename_i hsm
  have hnum:pk s r.z - 97 < 26:=by simp [smallN] at hsm;omega
  unfold rNumber
  split
  ·exact rj_plain h hw (in_tk 59 (by decide) (in_tk 35 (by decide) (in_tk 61 (by decide) hi1)).bx) (((mo_tk s 61 _).trans (mo_tk s 35 _)).trans (mo_bx s _) |>.trans (mo_tk s 59 _)) (hpt _ _ _ _ _ _ _ _ (by omega) hnum (bxV_lt _ _) (by omega) odv0 (by omega) odv0 (by omega)) (by show 3 < 8;omega)
  ·split
   ·exact rj_plain h hw (in_tk 59 (by decide) (in_tk 61 (by decide) hi1).bx.ix) (((mo_tk s 61 _).trans (mo_bx s _)).trans (mo_ix s _) |>.trans (mo_tk s 59 _)) (hpt _ _ _ _ _ _ _ _ (by omega) hnum (bxV_lt _ _) (by omega) (opV_ok _ _) (by omega) odv0 (by omega)) (by show 2 < 8;omega)
   ·exact rj_plain h hw (in_tk 59 (by decide) (in_tk 61 (by decide) hi1).rk) ((mo_tk s 61 _).trans (mo_rk s _) |>.trans (mo_tk s 59 _)) (hpt _ _ _ _ _ _ _ _ (by omega) hnum (by omega) (by omega) (opV_ok _ _) (rkS_lt _ _) (rkV_ok _ _) (by omega)) (by show 0 < 8;omega)
 ·split
  ·rename_i hg
   have hb:bx s r.z = (r.z.1 + 1,r.z.2):=by unfold bx;rw [if_pos hg]
   unfold rBox
   rw [hb]
   split
   ·exact rj_plain h hw (in_tk 59 (by decide) (in_tk 61 (by decide) hi1.ix).op) (((mo_ix s _).trans (mo_tk s 61 _)).trans (mo_op s _) |>.trans (mo_tk s 59 _)) (hpt _ _ _ _ _ _ _ _ (by omega) (by omega) (bxV_lt _ _) (by omega) (opV_ok _ _) (by omega) (opV_ok _ _) (by omega)) (by show 6 < 8;omega)
   ·split
    ·exact rj_plain h hw (in_tk 59 (by decide) (in_tk 61 (by decide) hi1).ix) ((mo_tk s 61 _).trans (mo_ix s _) |>.trans (mo_tk s 59 _)) (hpt _ _ _ _ _ _ _ _ (by omega) (by omega) (bxV_lt _ _) (by omega) (opV_ok _ _) (by omega) odv0 (by omega)) (by show 4 < 8;omega)
    ·exact rj_plain h hw (in_tk 59 (by decide) (in_tk 61 (by decide) hi1).bx) ((mo_tk s 61 _).trans (mo_bx s _) |>.trans (mo_tk s 59 _)) (hpt _ _ _ _ _ _ _ _ (by omega) (by omega) (bxV_lt _ _) (bxV_lt _ _) odv0 (by omega) odv0 (by omega)) (by show 5 < 8;omega)
  ·split
   ·rename_i h126
    unfold rEnd
    rw [htk 126 h126]
    exact rj_plain h hw (in_tk 59 (by decide) hi1.bx) ((mo_bx s _).trans (mo_tk s 59 _)) (hpt _ _ _ _ _ _ _ _ (by omega) (by omega) (bxV_lt _ _) (by omega) odv0 (by omega) odv0 (by omega)) (by show 7 < 8;omega)
   ·split
    ·rename_i h33
     unfold rPrint
     rw [htk 33 h33]
     exact rj_plain h hw (in_tk 59 (by decide) hi1.op) ((mo_op s _).trans (mo_tk s 59 _)) (hpt _ _ _ _ _ _ _ _ (by omega) (by omega) (by omega) (by omega) (opV_ok _ _) (by omega) odv0 (by omega)) (by show 1 < 8;omega)
    ·have hopen:∀ c k,pk s r.z = c → (k = 8 ∨ k = 11) → RJ s (rOpen s c k r) ∧ ((rOpen s c k r).z.2 ≠ 0 ∨ r.z.1 < (rOpen s c k r).z.1):=fun c k hc hk=>by
      unfold rOpen
      rw [htk c hc]
      have hin:=hi1.op
      have hm:=mo_op s (r.z.1 + 1,r.z.2)
      generalize op s (r.z.1 + 1,r.z.2) = y at hin hm ⊢
      have hz:∃ u,u = (if pk s y = 123 ∧ 8 ≤ r.O.length then rf 3 y else y) ∧ In s u ∧ Mo y u ∧ (8 ≤ r.O.length → (tk s 123 u).2 ≠ 0):=by
       refine ⟨_,rfl,?_⟩
       by_cases q:pk s y = 123 ∧ 8 ≤ r.O.length
       ·rw [if_pos q]
        have h0:=(pk_zero (by decide) q.1).1
        refine ⟨hin.rf 3,mo_rf (.inr rfl) y,fun _=>?_⟩
        rw [rf_ok 3 h0,tk_bad (by decide) (show ((y.1,3):Nat × Nat).2 ≠ 0 by simp)]
        simp
       ·rw [if_neg q]
        refine ⟨hin,Mo.refl _,fun h8=>?_⟩
        unfold tk
        rw [if_neg (fun e=>q ⟨e,h8⟩)]
        unfold rf
        split
        ·simp
        ·assumption
      obtain ⟨u,hu,hin2,hm2,h82⟩:=hz
      rw [← hu]
      have hm3:=(hm.trans hm2).trans (mo_tk s 123 u)
      have hle:=hm3.le
      have hp:=h.p0 hw
      have h8:=h.h8 hw
      simp only [] at hle
      have hlen:(r.P ++ [(⟨k,r.z.1,0,0,0,opV s (r.z.1 + 1,r.z.2),0,.v 0,0⟩:Pt)]).length = r.P.length + 1:=by simp
      have hlenO:(r.O ++ [r.P.length]).length = r.O.length + 1:=by simp
      refine ⟨⟨⟨in_tk 123 (by decide) hin2,fun o ho=>?_,fun q=>?_⟩,flat_push h.fl (hpt _ _ _ _ _ _ _ _ (by omega) (by omega) (by omega) (by omega) (opV_ok _ _) (by omega) odv0 (by omega)) (fun q=>by simp only [] at q;omega) (fun q=>by simp only [] at q;omega),?_,fun _=>?_,?_,hm3.w h.w3⟩,.inr ?_⟩
      ·have ho':o ∈ r.O ∨ o = r.P.length:=by simpa using ho
       show o < (r.P ++ [_]).length ∧ _
       rcases ho' with ho' | ho'
       ·obtain ⟨h1,h2⟩:=h.ho o ho'
        refine ⟨by omega,?_⟩
        show (pOf (r.P ++ [_]) o).kind = 8 ∨ _
        rw [pOf_app _ h1]
        exact h2
       ·subst ho'
        refine ⟨by omega,?_⟩
        show (pOf (r.P ++ [_]) r.P.length).kind = 8 ∨ _
        rw [pOf_new]
        simp only []
        omega
      ·show (r.O ++ [r.P.length]).length ≤ 8
       by_cases q8:8 ≤ r.O.length
       ·exact absurd q (h82 q8)
       ·omega
      ·show (r.P ++ [_]).length ≤ (tk s 123 u).1 + 1;omega
      ·show (r.P ++ [_]).length ≤ (tk s 123 u).1;omega
      ·show (r.O ++ [r.P.length]).length ≤ 9;omega
      ·show r.z.1 < (tk s 123 u).1;omega
     split
     ·rename_i h63
      exact hopen 63 8 h63 (.inl rfl)
     ·split
      ·rename_i h64
       exact hopen 64 11 h64 (.inr rfl)
      ·split
       ·rename_i h125
        unfold rClose
        split
        ·exact bad
        ·rename_i hO
         have hsp:=last_split hO
         have hmem:r.O.getLast?.getD 0 ∈ r.O:=by rw [hsp];simp
         obtain ⟨hla,hlk⟩:=h.ho _ hmem
         generalize r.O.getLast?.getD 0 = la at hsp hla hlk ⊢
         have hdl:r.O.dropLast.length + 1 = r.O.length:=by
          have:=congrArg List.length hsp
          simp at this
          have h0:0 < r.O.length:=List.length_pos_iff.2 hO
          simp
          omega
         have hsub:∀ o,o ∈ r.O.dropLast → o ∈ r.O:=fun o ho=>(List.dropLast_sublist _).subset ho
         generalize r.O.dropLast = O1 at hdl hsub ⊢
         have hp:=h.p0 hw
         have h8:=h.h8 hw
         have close:∀ (k:Nat) (O2:List Nat) (z':Nat × Nat),k ≤ 12 → (k = 12 → (pOf r.P la).kind = 11) → In s z' → Mo (r.z.1 + 1,r.z.2) z' → (∀ o,o ∈ O2 → o ∈ O1 ∨ (o = r.P.length ∧ k = 9)) → O2.length ≤ r.O.length → RJ s ⟨z',r.P ++ [⟨k,r.z.1,0,0,0,.v 0,0,.v 0,la⟩],O2⟩ ∧ (z'.2 ≠ 0 ∨ r.z.1 < z'.1):=fun k O2 z' hk h11 hin hm ho2 hl2=>by
          have hle:=hm.le
          simp only [] at hle
          have hlen:(r.P ++ [(⟨k,r.z.1,0,0,0,.v 0,0,.v 0,la⟩:Pt)]).length = r.P.length + 1:=by simp
          refine ⟨⟨⟨hin,fun o ho=>?_,fun q=>by show O2.length ≤ 8;omega⟩,flat_push h.fl (hpt _ _ _ _ _ _ _ _ hk (by omega) (by omega) (by omega) odv0 (by omega) odv0 (by omega)) (fun _=>hla) h11,?_,fun _=>?_,by show O2.length ≤ 9;omega,hm.w h.w3⟩,.inr (by omega)⟩
          ·show o < (r.P ++ [_]).length ∧ _
           rcases ho2 o ho with q | ⟨q,qk⟩
           ·obtain ⟨h1,h2⟩:=h.ho o (hsub o q)
            refine ⟨by omega,?_⟩
            show (pOf (r.P ++ [_]) o).kind = 8 ∨ _
            rw [pOf_app _ h1]
            exact h2
           ·subst q
            refine ⟨by omega,?_⟩
            show (pOf (r.P ++ [_]) r.P.length).kind = 8 ∨ _
            rw [pOf_new]
            simp only []
            omega
          ·show (r.P ++ [_]).length ≤ z'.1 + 1;omega
          ·show (r.P ++ [_]).length ≤ z'.1;omega
         rw [htk 125 h125]
         split
         ·exact close 9 _ _ (by omega) (fun q=>by omega) (in_tk 123 (by decide) hi1) (mo_tk s 123 _) (fun o ho=>by
           have:o ∈ O1 ∨ o = r.P.length:=by simpa using ho
           rcases this with q | q
           ·exact .inl q
           ·exact .inr ⟨q,rfl⟩) (by simp;omega)
         ·rename_i k7
          split
          ·exact close 10 _ _ (by omega) (fun q=>by omega) hi1 (Mo.refl _) (fun o ho=>.inl ho) (by omega)
          ·rename_i k8
           exact close 12 _ _ (by omega) (fun _=>by omega) hi1 (Mo.refl _) (fun o ho=>.inl ho) (by omega)
       ·exact bad
end Go.Proofs.YthcjcjfgdgnljabGreatDoor
