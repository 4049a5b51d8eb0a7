import Derived.Test.YthcjcjfgdgnljabGreatDoorGDevE
set_option linter.unusedVariables false
set_option maxHeartbeats 4000000
set_option maxRecDepth 8000
open Go.Proofs.Tryz
namespace Go.Proofs.YthcjcjfgdgnljabGreatDoor
open Go.RowKit
section
def pk (s:ByteArray) (z:Nat × Nat):Nat:=if z.2 = 0 then bt s z.1 else 0
def rf (e:Nat) (z:Nat × Nat):Nat × Nat:=if z.2 = 0 then (z.1,e) else z
def tk (s:ByteArray) (c:Nat) (z:Nat × Nat):Nat × Nat:=if pk s z = c then (z.1 + 1,z.2) else rf 2 z
def bx (s:ByteArray) (z:Nat × Nat):Nat × Nat:=if greatN (pk s z) = true then (z.1 + 1,z.2) else rf 2 z
def bxV (s:ByteArray) (z:Nat × Nat):Nat:=if greatN (pk s z) = true then pk s z - 65 else 0
def dg (s:ByteArray):Nat → Nat × Nat → Nat × Nat
 | 0,z=>z
 | n + 1,z=>if digitN (pk s z) = true then dg s n (z.1 + 1,z.2) else z
def op (s:ByteArray) (z:Nat × Nat):Nat × Nat:=if smallN (pk s z) = true then (z.1 + 1,z.2) else if digitN (pk s z) = true then dg s 3 z else rf 2 z
def ix (s:ByteArray) (z:Nat × Nat):Nat × Nat:=tk s 93 (op s (tk s 91 z))
def isOpDec (c:Nat):Decidable (isOp c):=by unfold isOp;infer_instance
def rk (s:ByteArray) (z:Nat × Nat):Nat × Nat:=@ite (Nat × Nat) (isOp (pk s (op s z))) (isOpDec _) (op s (tk s (pk s (op s z)) (op s z))) (op s z)
def In (s:ByteArray) (z:Nat × Nat):Prop:=z.1 ≤ s.size
theorem pk_in {s:ByteArray} {z:Nat × Nat} (h:pk s z ≠ 0):z.1 < s.size ∧ z.2 = 0 ∧ pk s z = bt s z.1:=by
 unfold pk at h ⊢
 split at h
 ·rename_i h2
  rw [if_pos h2]
  exact ⟨byte_in rfl h,h2,rfl⟩
 ·exact absurd rfl h
theorem small0 {c:Nat} (h:smallN c = true):c ≠ 0:=by simp [smallN] at h;omega
theorem great0 {c:Nat} (h:greatN c = true):c ≠ 0:=by simp [greatN] at h;omega
theorem digit0 {c:Nat} (h:digitN c = true):c ≠ 0:=by simp [digitN] at h;omega
theorem op0 {c:Nat} (h:isOp c):c ≠ 0:=by unfold isOp at h;omega
theorem In.rf {s:ByteArray} {z:Nat × Nat} (h:In s z) (e:Nat):In s (rf e z):=by
 unfold Go.Proofs.YthcjcjfgdgnljabGreatDoor.rf
 split <;> exact h
theorem In.tk {s:ByteArray} {z:Nat × Nat} (h:In s z) {c:Nat} (hc:c ≠ 0):In s (tk s c z):=by
 unfold Go.Proofs.YthcjcjfgdgnljabGreatDoor.tk
 split
 ·rename_i e
  have:=pk_in (s:=s) (z:=z) (by rw [e];exact hc)
  exact this.1
 ·exact h.rf 2
theorem In.bx {s:ByteArray} {z:Nat × Nat} (h:In s z):In s (bx s z):=by
 unfold Go.Proofs.YthcjcjfgdgnljabGreatDoor.bx
 split
 ·rename_i e
  exact (pk_in (great0 e)).1
 ·exact h.rf 2
theorem In.dg {s:ByteArray}:∀ {n:Nat} {z:Nat × Nat},In s z → In s (dg s n z)
 | 0,_,h=>h
 | n + 1,z,h=>by
  show In s (if digitN (pk s z) = true then Go.Proofs.YthcjcjfgdgnljabGreatDoor.dg s n (z.1 + 1,z.2) else z)
  split
  ·rename_i e
   exact In.dg (n:=n) (show z.1 + 1 ≤ s.size from (pk_in (digit0 e)).1)
  ·exact h
theorem In.op {s:ByteArray} {z:Nat × Nat} (h:In s z):In s (op s z):=by
 unfold Go.Proofs.YthcjcjfgdgnljabGreatDoor.op
 split
 ·rename_i e
  exact (pk_in (small0 e)).1
 ·split
  ·exact h.dg
  ·exact h.rf 2
theorem In.ix {s:ByteArray} {z:Nat × Nat} (h:In s z):In s (ix s z):=((h.tk (by decide)).op).tk (by decide)
theorem In.rk {s:ByteArray} {z:Nat × Nat} (h:In s z):In s (rk s z):=by
 unfold Go.Proofs.YthcjcjfgdgnljabGreatDoor.rk
 split
 ·rename_i e
  exact (h.op.tk (op0 e)).op
 ·exact h.op
def fin (s:ByteArray) (z:Nat × Nat) (S:List (Nat × Bool)) (d:Int):Nat × Nat:=if z.2 = 0 then run s S z.1 d else (z.2,z.1)
section
variable {s:ByteArray} {z:Nat × Nat} {d:Int} (t:List (Nat × Bool))
theorem fin_bad {S T:List (Nat × Bool)} (h:z.2 ≠ 0):fin s z S d = fin s z T d:=by unfold fin;rw [if_neg h,if_neg h]
theorem pk_ok (h:z.2 = 0):pk s z = bt s z.1:=by unfold pk;rw [if_pos h]
theorem pk_bad (h:z.2 ≠ 0):pk s z = 0:=by unfold pk;rw [if_neg h]
theorem rf_ok (e:Nat) (h:z.2 = 0):rf e z = (z.1,e):=by unfold rf;rw [if_pos h]
theorem rf_bad (e:Nat) (h:z.2 ≠ 0):rf e z = z:=by unfold rf;rw [if_neg h]
theorem tk_bad {c:Nat} (hc:c ≠ 0) (h:z.2 ≠ 0):tk s c z = z:=by unfold tk;rw [pk_bad h,if_neg (Ne.symm hc),rf_bad 2 h]
theorem op_bad (h:z.2 ≠ 0):op s z = z:=by unfold op;rw [pk_bad h];exact rf_bad 2 h
theorem bx_bad (h:z.2 ≠ 0):bx s z = z:=by unfold bx;rw [pk_bad h];exact rf_bad 2 h
theorem fin_tk {x:Nat} (hi:In s z) (hx:x ≠ 0) (h1:x ≠ 123) (h2:x ≠ 125):fin s z ((x,false) :: t) d = fin s (tk s x z) t d:=by
 by_cases h:z.2 = 0
 ·unfold tk
  rw [pk_ok h]
  by_cases e:bt s z.1 = x
  ·rw [if_pos e]
   unfold fin
   rw [if_pos h,if_pos h,run_take t hx h1 h2 e]
  ·rw [if_neg e,rf_ok 2 h]
   unfold fin
   rw [if_pos h,run_miss t hi e]
   rfl
 ·rw [tk_bad hx h]
  exact fin_bad h
theorem fin_bx (hi:In s z):fin s z ((86,true) :: t) d = fin s (bx s z) t d:=by
 by_cases h:z.2 = 0
 ·unfold bx
  rw [pk_ok h]
  cases e:greatN (bt s z.1)
  ·simp only [Bool.false_eq_true,if_false]
   rw [rf_ok 2 h]
   unfold fin
   rw [if_pos h,R_V_bad t hi e]
   rfl
  ·simp only [if_true]
   unfold fin
   rw [if_pos h,if_pos h,R_V_great t e]
 ·rw [bx_bad h]
  exact fin_bad h
theorem dg_step (n:Nat):dg s (n + 1) z = if digitN (pk s z) = true then dg s n (z.1 + 1,z.2) else z:=rfl
theorem fin_op (hi:In s z):fin s z ((111,true) :: t) d = fin s (op s z) t d:=by
 by_cases h:z.2 = 0
 ·unfold op
  rw [pk_ok h]
  cases e:smallN (bt s z.1)
  ·simp only [Bool.false_eq_true,if_false]
   cases e2:digitN (bt s z.1)
   ·simp only [Bool.false_eq_true,if_false]
    rw [rf_ok 2 h]
    unfold fin
    rw [if_pos h,R_o_bad t hi e e2]
    rfl
   ·simp only [if_true]
    have h1:=(digit_in e2).1
    obtain ⟨i,w⟩:=z
    have hw:w = 0:=h
    subst hw
    unfold fin
    rw [if_pos rfl,R_o_digit t e2,dg_step,pk_ok rfl,e2,if_pos rfl,dg_step,pk_ok rfl]
    cases e3:digitN (bt s (i + 1))
    ·simp only [Bool.false_eq_true,if_false]
     exact R_d_no t h1 e3
    ·simp only [if_true]
     have h2:=(digit_in e3).1
     rw [R_d_digit t e3,dg_step,pk_ok rfl]
     cases e4:digitN (bt s (i + 1 + 1))
     ·simp only [Bool.false_eq_true,if_false]
      exact R_e_no t h2 e4
     ·simp only [if_true]
      exact R_e_digit t e4
  ·simp only [if_true]
   unfold fin
   rw [if_pos h,if_pos h,R_o_small t e]
 ·rw [op_bad h]
  exact fin_bad h
theorem fin_ix (hi:In s z):fin s z ((91,false) :: (111,true) :: (93,false) :: t) d = fin s (ix s z) t d:=by
 unfold ix
 rw [fin_tk _ hi (by decide) (by decide) (by decide),fin_op _ (hi.tk (by decide)),fin_tk _ (hi.tk (by decide)).op (by decide) (by decide) (by decide)]
theorem fin_rk (hi:In s z):fin s z ((111,true) :: (116,true) :: t) d = fin s (rk s z) t d:=by
 rw [fin_op _ hi]
 have ho:=hi.op
 unfold rk
 generalize op s z = y at ho ⊢
 by_cases h:y.2 = 0
 ·rw [pk_ok h]
  by_cases e:isOp (bt s y.1)
  ·rw [if_pos e]
   have h0:=op0 e
   have h1:bt s y.1 ≠ 123 ∧ bt s y.1 ≠ 125:=by unfold isOp at e;omega
   have:fin s y ((116,true) :: t) d = fin s y ((bt s y.1,false) :: (111,true) :: t) d:=by
    unfold fin
    rw [if_pos h,if_pos h,R_t_op t e,run_take _ h0 h1.1 h1.2 rfl]
   rw [this,fin_tk _ ho h0 h1.1 h1.2,fin_op _ (ho.tk h0)]
  ·rw [if_neg e]
   unfold fin
   rw [if_pos h,if_pos h,R_t_no t ho e]
 ·rw [pk_bad h,if_neg (by unfold isOp;omega)]
  exact fin_bad h
end
def dgV (s:ByteArray):Nat → Nat × Nat → Nat → Nat
 | 0,_,a=>a
 | n + 1,z,a=>if digitN (pk s z) = true then dgV s n (z.1 + 1,z.2) (a * 10 + (pk s z - 48)) else a
def opV (s:ByteArray) (z:Nat × Nat):Od:=if smallN (pk s z) = true then .n (pk s z - 97) else if digitN (pk s z) = true then .v (dgV s 3 z 0) else .v 0
def ixV (s:ByteArray) (z:Nat × Nat):Od:=opV s (tk s 91 z)
def rkS (s:ByteArray) (z:Nat × Nat):Nat:=@ite Nat (isOp (pk s (op s z))) (isOpDec _) (pk s (op s z)) 0
def rkV (s:ByteArray) (z:Nat × Nat):Od:=@ite Od (isOp (pk s (op s z))) (isOpDec _) (opV s (tk s (pk s (op s z)) (op s z))) (.v 0)
theorem dgV_lt (s:ByteArray):∀ (n:Nat) (z:Nat × Nat) (a m:Nat),a < 10 ^ m → dgV s n z a < 10 ^ (m + n)
 | 0,_,a,m,h=>h
 | n + 1,z,a,m,h=>by
  show (if digitN (pk s z) = true then dgV s n (z.1 + 1,z.2) (a * 10 + (pk s z - 48)) else a) < _
  split
  ·rename_i hd
   have h2:a * 10 + (pk s z - 48) < 10 ^ (m + 1):=by
    simp [digitN] at hd
    rw [Nat.pow_succ]
    omega
   have:=dgV_lt s n (z.1 + 1,z.2) _ (m + 1) h2
   rw [show m + (n + 1) = m + 1 + n by omega]
   exact this
  ·exact Nat.lt_of_lt_of_le h (Nat.pow_le_pow_right (by decide) (by omega))
theorem odv0:OdOk (.v 0):=by show 0 < 1000;omega
theorem opV_ok (s:ByteArray) (z:Nat × Nat):OdOk (opV s z):=by
 unfold opV
 split
 ·rename_i h
  show pk s z - 97 < 26
  simp [smallN] at h
  omega
 ·split
  ·exact Nat.lt_of_lt_of_le (dgV_lt s 3 z 0 0 (by decide)) (by decide)
  ·exact odv0
theorem rkS_lt (s:ByteArray) (z:Nat × Nat):rkS s z < 256:=by
 unfold rkS
 split
 ·rename_i h
  unfold isOp at h
  omega
 ·omega
theorem rkV_ok (s:ByteArray) (z:Nat × Nat):OdOk (rkV s z):=by
 unfold rkV
 split
 ·exact opV_ok _ _
 ·exact odv0
structure Rs where
 z:Nat × Nat
 P:List Pt
 O:List Nat
def pOf (P:List Pt) (i:Nat):Pt:=P.getD i ⟨0,0,0,0,0,.v 0,0,.v 0,0⟩
def rNumber (s:ByteArray) (r:Rs):Rs :=
 if pk s (tk s 61 (r.z.1 + 1,r.z.2)) = 35 then
  ⟨tk s 59 (bx s (tk s 35 (tk s 61 (r.z.1 + 1,r.z.2)))),r.P ++ [⟨3,r.z.1,pk s r.z - 97,bxV s (tk s 35 (tk s 61 (r.z.1 + 1,r.z.2))),0,.v 0,0,.v 0,0⟩],r.O⟩
 else if greatN (pk s (tk s 61 (r.z.1 + 1,r.z.2))) = true then
  ⟨tk s 59 (ix s (bx s (tk s 61 (r.z.1 + 1,r.z.2)))),r.P ++ [⟨2,r.z.1,pk s r.z - 97,bxV s (tk s 61 (r.z.1 + 1,r.z.2)),0,ixV s (bx s (tk s 61 (r.z.1 + 1,r.z.2))),0,.v 0,0⟩],r.O⟩
 else ⟨tk s 59 (rk s (tk s 61 (r.z.1 + 1,r.z.2))),r.P ++ [⟨0,r.z.1,pk s r.z - 97,0,0,opV s (tk s 61 (r.z.1 + 1,r.z.2)),rkS s (tk s 61 (r.z.1 + 1,r.z.2)),rkV s (tk s 61 (r.z.1 + 1,r.z.2)),0⟩],r.O⟩
def rBox (s:ByteArray) (r:Rs):Rs :=
 if pk s (bx s r.z) = 91 then ⟨tk s 59 (op s (tk s 61 (ix s (bx s r.z)))),r.P ++ [⟨6,r.z.1,0,bxV s r.z,0,ixV s (bx s r.z),0,opV s (tk s 61 (ix s (bx s r.z))),0⟩],r.O⟩
 else if pk s (tk s 61 (bx s r.z)) = 91 then ⟨tk s 59 (ix s (tk s 61 (bx s r.z))),r.P ++ [⟨4,r.z.1,0,bxV s r.z,0,ixV s (tk s 61 (bx s r.z)),0,.v 0,0⟩],r.O⟩
 else ⟨tk s 59 (bx s (tk s 61 (bx s r.z))),r.P ++ [⟨5,r.z.1,0,bxV s r.z,bxV s (tk s 61 (bx s r.z)),.v 0,0,.v 0,0⟩],r.O⟩
def rEnd (s:ByteArray) (r:Rs):Rs:=⟨tk s 59 (bx s (tk s 126 r.z)),r.P ++ [⟨7,r.z.1,0,bxV s (tk s 126 r.z),0,.v 0,0,.v 0,0⟩],r.O⟩
def rPrint (s:ByteArray) (r:Rs):Rs:=⟨tk s 59 (op s (tk s 33 r.z)),r.P ++ [⟨1,r.z.1,0,0,0,opV s (tk s 33 r.z),0,.v 0,0⟩],r.O⟩
def rOpen (s:ByteArray) (c k:Nat) (r:Rs):Rs :=
 ⟨tk s 123 (if pk s (op s (tk s c r.z)) = 123 ∧ 8 ≤ r.O.length then rf 3 (op s (tk s c r.z)) else op s (tk s c r.z)),r.P ++ [⟨k,r.z.1,0,0,0,opV s (tk s c r.z),0,.v 0,0⟩],r.O ++ [r.P.length]⟩
def rClose (s:ByteArray) (r:Rs):Rs :=
 if r.O = [] then ⟨rf 2 r.z,r.P,r.O⟩
 else if (pOf r.P (r.O.getLast?.getD 0)).kind = 8 then ⟨tk s 123 (tk s 125 r.z),r.P ++ [⟨9,r.z.1,0,0,0,.v 0,0,.v 0,r.O.getLast?.getD 0⟩],r.O.dropLast ++ [r.P.length]⟩
 else if (pOf r.P (r.O.getLast?.getD 0)).kind = 9 then ⟨tk s 125 r.z,r.P ++ [⟨10,r.z.1,0,0,0,.v 0,0,.v 0,r.O.getLast?.getD 0⟩],r.O.dropLast⟩
 else ⟨tk s 125 r.z,r.P ++ [⟨12,r.z.1,0,0,0,.v 0,0,.v 0,r.O.getLast?.getD 0⟩],r.O.dropLast⟩
def rPart (s:ByteArray) (r:Rs):Rs :=
 if smallN (pk s r.z) = true then rNumber s r
 else if greatN (pk s r.z) = true then rBox s r
 else if pk s r.z = 126 then rEnd s r
 else if pk s r.z = 33 then rPrint s r
 else if pk s r.z = 63 then rOpen s 63 8 r
 else if pk s r.z = 64 then rOpen s 64 11 r
 else if pk s r.z = 125 then rClose s r
 else ⟨rf 2 r.z,r.P,r.O⟩
def rStep (s:ByteArray) (r:Rs):Rs:=if r.z.2 = 0 ∧ r.z.1 < s.size then rPart s r else r
def rIter (s:ByteArray):Nat → Rs → Rs
 | 0,r=>r
 | n + 1,r=>rIter s n (rStep s r)
def closes (t:Pt):Bool:=t.kind == 9 || t.kind == 10 || t.kind == 12
def cloL (P:List Pt):Nat → Nat:=(P.foldl (fun (a:Nat × (Nat → Nat)) t=>(a.1 + 1,if closes t = true then upN a.2 t.opn a.1 else a.2)) (0,fun _=>0)).2
theorem clo_len (P:List Pt):∀ (a:Nat × (Nat → Nat)),(P.foldl (fun (a:Nat × (Nat → Nat)) t=>(a.1 + 1,if closes t = true then upN a.2 t.opn a.1 else a.2)) a).1 = a.1 + P.length:=by
 induction P with
 | nil=>exact fun a=>rfl
 | cons t P ih=>intro a;rw [List.foldl_cons,ih];simp;omega
theorem clo_push (P:List Pt) (t:Pt):cloL (P ++ [t]) = if closes t = true then upN (cloL P) t.opn P.length else cloL P:=by
 unfold cloL
 rw [List.foldl_append]
 have:=clo_len P (0,fun _=>0)
 simp only [List.foldl_cons,List.foldl_nil,this,Nat.zero_add]
end
section
section
variable {s:ByteArray} {y:Nat × Nat} {d:Int} (t:List (Nat × Bool))
theorem pk_zero {c:Nat} (hc:c ≠ 0) (h:pk s y = c):y.2 = 0 ∧ bt s y.1 = c:=by
 obtain ⟨_,h2,h3⟩:=pk_in (s:=s) (z:=y) (by rw [h];exact hc)
 exact ⟨h2,by rw [← h3,h]⟩
theorem fin_ok {S:List (Nat × Bool)} (h:y.2 = 0):fin s y S d = run s S y.1 d:=by unfold fin;rw [if_pos h]
theorem fin_g1 (h:pk s y = 35):fin s y ((103,true) :: t) d = fin s (tk s 35 y) ((86,true) :: t) d:=by
 obtain ⟨h1,h2⟩:=pk_zero (by decide) h
 unfold tk
 rw [if_pos h,fin_ok h1,R_g_hash t h2,fin_ok (show ((y.1 + 1,y.2):Nat × Nat).2 = 0 from h1)]
theorem fin_g2 (h:greatN (pk s y) = true):fin s y ((103,true) :: t) d = fin s (bx s y) ((91,false) :: (111,true) :: (93,false) :: t) d:=by
 obtain ⟨_,h1,h2⟩:=pk_in (great0 h)
 unfold bx
 rw [if_pos h,fin_ok h1,R_g_great t (by rw [← h2];exact h),fin_ok (show ((y.1 + 1,y.2):Nat × Nat).2 = 0 from h1)]
theorem fin_g3 (hi:In s y) (h1:pk s y ≠ 35) (h2:greatN (pk s y) ≠ true):fin s y ((103,true) :: t) d = fin s y ((111,true) :: (116,true) :: t) d:=by
 by_cases h:y.2 = 0
 ·rw [pk_ok h] at h1 h2
  rw [fin_ok h,fin_ok h,R_g_else t hi (Bool.eq_false_iff.2 h2) h1]
 ·exact fin_bad h
theorem fin_p1 (h:pk s y = 91):fin s y ((112,true) :: t) d = fin s y ((91,false) :: (111,true) :: (93,false) :: (61,false) :: (111,true) :: t) d:=by
 obtain ⟨h1,h2⟩:=pk_zero (by decide) h
 rw [fin_ok h1,fin_ok h1,R_p_br t h2,run_take _ (by decide) (by decide) (by decide) h2]
theorem fin_p2 (hi:In s y) (h1:pk s y ≠ 91):fin s y ((112,true) :: t) d = fin s y ((61,false) :: (71,true) :: t) d:=by
 by_cases h:y.2 = 0
 ·rw [pk_ok h] at h1
  rw [fin_ok h,fin_ok h,R_p_else t hi h1]
 ·exact fin_bad h
theorem fin_G1 (h:pk s y = 91):fin s y ((71,true) :: t) d = fin s y ((91,false) :: (111,true) :: (93,false) :: t) d:=by
 obtain ⟨h1,h2⟩:=pk_zero (by decide) h
 rw [fin_ok h1,fin_ok h1,R_G_br t h2,run_take _ (by decide) (by decide) (by decide) h2]
theorem fin_G2 (hi:In s y) (h1:pk s y ≠ 91):fin s y ((71,true) :: t) d = fin s y ((86,true) :: t) d:=by
 by_cases h:y.2 = 0
 ·rw [pk_ok h] at h1
  rw [fin_ok h,fin_ok h,R_G_else t hi h1]
 ·exact fin_bad h
theorem fin_open (n:Nat) (hi:In s y):fin s y ((123,false) :: t) (n:Int) = fin s (tk s 123 (if pk s y = 123 ∧ 8 ≤ n then rf 3 y else y)) t ((n:Int) + 1):=by
 by_cases h:y.2 = 0
 ·rw [pk_ok h]
  by_cases e:bt s y.1 = 123
  ·have hl:=byte_in e (by decide)
   by_cases h8:8 ≤ n
   ·rw [if_pos ⟨e,h8⟩,rf_ok 3 h,tk_bad (by decide) (show ((y.1,3):Nat × Nat).2 ≠ 0 by simp),fin_ok h,run_hit _ hl e,if_pos rfl,if_pos (by omega)]
    rfl
   ·rw [if_neg (fun q=>h8 q.2),fin_ok h,run_hit _ hl e,if_pos rfl,if_neg (by omega)]
    unfold tk
    rw [pk_ok h,if_pos e,fin_ok (show ((y.1 + 1,y.2):Nat × Nat).2 = 0 from h)]
  ·rw [if_neg (fun q=>e q.1),fin_ok h,run_miss t hi e]
   unfold tk
   rw [pk_ok h,if_neg e,rf_ok 2 h]
   rfl
 ·rw [pk_bad h,if_neg (by omega),tk_bad (by decide) h]
  unfold fin
  rw [if_neg h,if_neg h]
theorem fin_close (hi:In s y):fin s y ((125,false) :: t) d = fin s (tk s 125 y) t (d - 1):=by
 by_cases h:y.2 = 0
 ·unfold tk
  rw [pk_ok h]
  by_cases e:bt s y.1 = 125
  ·rw [if_pos e,fin_ok h,run_hit _ (byte_in e (by decide)) e,if_neg (by decide),if_pos rfl,fin_ok (show ((y.1 + 1,y.2):Nat × Nat).2 = 0 from h)]
  ·rw [if_neg e,rf_ok 2 h,fin_ok h,run_miss t hi e]
   rfl
 ·rw [tk_bad (by decide) h]
  unfold fin
  rw [if_neg h,if_neg h]
end
def tl:List Nat → List (Nat × Bool)
 | []=>[]
 | k :: K=>if k = 8 then (125,false) :: (123,false) :: (83,true) :: (125,false) :: (83,true) :: tl K else (125,false) :: (83,true) :: tl K
theorem tl_cons (k:Nat) (K:List Nat):tl (k :: K) = if k = 8 then (125,false) :: (123,false) :: (83,true) :: (125,false) :: (83,true) :: tl K else (125,false) :: (83,true) :: tl K:=rfl
def ks (P:List Pt) (O:List Nat):List Nat:=(O.map (fun o=>(pOf P o).kind)).reverse
theorem pOf_app {P:List Pt} (X:List Pt) {o:Nat} (h:o < P.length):pOf (P ++ X) o = pOf P o:=by
 unfold pOf
 simp [List.getD_eq_getElem?_getD,List.getElem?_append_left h]
theorem pOf_new (P:List Pt) (t:Pt):pOf (P ++ [t]) P.length = t:=by
 unfold pOf
 simp [List.getD_eq_getElem?_getD]
theorem ks_app {P:List Pt} (X:List Pt) {O:List Nat} (h:∀ o,o ∈ O → o < P.length):ks (P ++ X) O = ks P O:=by
 unfold ks
 congr 1
 exact List.map_congr_left fun o ho=>by rw [pOf_app X (h o ho)]
theorem ks_push (P:List Pt) (O:List Nat) (o:Nat):ks P (O ++ [o]) = (pOf P o).kind :: ks P O:=by
 unfold ks;simp
theorem ks_len (P:List Pt) (O:List Nat):(ks P O).length = O.length:=by unfold ks;simp
structure RI (s:ByteArray) (r:Rs):Prop where
 hin:In s r.z
 ho:∀ o,o ∈ r.O → o < r.P.length ∧ ((pOf r.P o).kind = 8 ∨ (pOf r.P o).kind = 9 ∨ (pOf r.P o).kind = 11)
 h8:r.z.2 = 0 → r.O.length ≤ 8
theorem last_split {O:List Nat} (h:O ≠ []):O = O.dropLast ++ [O.getLast?.getD 0]:=by
 have:=List.dropLast_concat_getLast h
 rw [List.getLast?_eq_some_getLast h]
 exact this.symm
theorem part_fin {s:ByteArray} {r:Rs} (hI:RI s r) (hw:r.z.2 = 0) (hl:r.z.1 < s.size) :
  fin s r.z ((83,true) :: tl (ks r.P r.O)) (r.O.length:Int) = fin s (rPart s r).z ((83,true) :: tl (ks (rPart s r).P (rPart s r).O)) ((rPart s r).O.length:Int):=by
 obtain ⟨⟨i,w⟩,P,O⟩:=r
 have hw0:w = 0:=hw
 subst hw0
 have hi:In s (i,0):=hI.hin
 have hlen:=fun o h=>(hI.ho o h).1
 have hpk:pk s (i,0) = bt s i:=pk_ok rfl
 have hi1:In s (i + 1,0):=hl
 unfold rPart
 simp only [] at hlen hl ⊢
 rw [fin_ok (show ((i,0):Nat × Nat).2 = 0 from rfl)]
 by_cases c1:smallN (pk s (i,0)) = true
 ·rw [if_pos c1,R_S_small _ (by rw [← hpk];exact c1),← fin_ok (y:=(i + 1,0)) rfl,fin_tk _ hi1 (by decide) (by decide) (by decide)]
  have hy:=hi1.tk (c:=61) (by decide)
  unfold rNumber
  simp only []
  generalize tk s 61 (i + 1,0) = y at hy ⊢
  by_cases d1:pk s y = 35
  ·rw [if_pos d1,fin_g1 _ d1,fin_bx _ (hy.tk (by decide)),fin_tk _ (hy.tk (by decide)).bx (by decide) (by decide) (by decide),ks_app _ hlen]
  ·rw [if_neg d1]
   by_cases d2:greatN (pk s y) = true
   ·rw [if_pos d2,fin_g2 _ d2,fin_ix _ hy.bx,fin_tk _ hy.bx.ix (by decide) (by decide) (by decide),ks_app _ hlen]
   ·rw [if_neg d2,fin_g3 _ hy d1 d2,fin_rk _ hy,fin_tk _ hy.rk (by decide) (by decide) (by decide),ks_app _ hlen]
 ·rw [if_neg c1]
  by_cases c2:greatN (pk s (i,0)) = true
  ·have hb:bx s (i,0) = (i + 1,0):=by unfold bx;rw [if_pos c2]
   rw [if_pos c2,R_S_great _ (by rw [← hpk];exact c2),← fin_ok (y:=(i + 1,0)) rfl]
   unfold rBox
   simp only []
   rw [hb]
   by_cases d1:pk s (i + 1,0) = 91
   ·rw [if_pos d1,fin_p1 _ d1,fin_ix _ hi1,fin_tk _ hi1.ix (by decide) (by decide) (by decide),fin_op _ (hi1.ix.tk (by decide)),fin_tk _ (hi1.ix.tk (by decide)).op (by decide) (by decide) (by decide),ks_app _ hlen]
   ·rw [if_neg d1,fin_p2 _ hi1 d1,fin_tk _ hi1 (by decide) (by decide) (by decide)]
    have hy:=hi1.tk (c:=61) (by decide)
    generalize tk s 61 (i + 1,0) = y at hy ⊢
    by_cases d2:pk s y = 91
    ·rw [if_pos d2,fin_G1 _ d2,fin_ix _ hy,fin_tk _ hy.ix (by decide) (by decide) (by decide),ks_app _ hlen]
    ·rw [if_neg d2,fin_G2 _ hy d2,fin_bx _ hy,fin_tk _ hy.bx (by decide) (by decide) (by decide),ks_app _ hlen]
  ·rw [if_neg c2]
   rw [hpk] at c1 c2 ⊢
   have htk:∀ c,bt s i = c → tk s c (i,0) = (i + 1,0):=fun c e=>by unfold tk;rw [hpk,if_pos e]
   by_cases c3:bt s i = 126
   ·rw [if_pos c3,R_S_drop _ c3,← fin_ok (y:=(i + 1,0)) rfl,fin_bx _ hi1,fin_tk _ hi1.bx (by decide) (by decide) (by decide)]
    unfold rEnd
    simp only []
    rw [htk 126 c3,ks_app _ hlen]
   ·rw [if_neg c3]
    by_cases c4:bt s i = 33
    ·rw [if_pos c4,R_S_print _ c4,← fin_ok (y:=(i + 1,0)) rfl,fin_op _ hi1,fin_tk _ hi1.op (by decide) (by decide) (by decide)]
     unfold rPrint
     simp only []
     rw [htk 33 c4,ks_app _ hlen]
    ·rw [if_neg c4]
     have hpush:∀ t:Pt,ks (P ++ [t]) (O ++ [P.length]) = t.kind :: ks P O:=fun t=>by rw [ks_push,pOf_new,ks_app _ hlen]
     have hcast:((O.length + 1:Nat):Int) = (O.length:Int) + 1:=by omega
     by_cases c5:bt s i = 63
     ·rw [if_pos c5,R_S_if _ c5,← fin_ok (y:=(i + 1,0)) rfl,fin_op _ hi1,fin_open _ O.length hi1.op]
      unfold rOpen
      simp only [List.length_append,List.length_cons,List.length_nil,Nat.zero_add]
      rw [htk 63 c5,hpush,hcast]
      rfl
     ·rw [if_neg c5]
      by_cases c6:bt s i = 64
      ·rw [if_pos c6,R_S_loop _ c6,← fin_ok (y:=(i + 1,0)) rfl,fin_op _ hi1,fin_open _ O.length hi1.op]
       unfold rOpen
       simp only [List.length_append,List.length_cons,List.length_nil,Nat.zero_add]
       rw [htk 64 c6,hpush,hcast]
       rfl
      ·rw [if_neg c6]
       have hno:noStmt (bt s i):=⟨Bool.eq_false_iff.2 c1,Bool.eq_false_iff.2 c2,c4,c3,c5,c6⟩
       rw [R_S_none _ hi hno]
       have hmiss:∀ K,bt s i ≠ 125 ∨ K = [] → run s (tl K) i (O.length:Int) = (2,i):=fun K h=>by
        cases K with
        | nil=>rw [show tl [] = [] from rfl,run_nil hi,if_pos hl]
        | cons k K =>
         have h2:bt s i ≠ 125:=by
          rcases h with h | h
          ·exact h
          ·cases h
         unfold tl
         split
         ·exact run_miss _ hi h2
         ·exact run_miss _ hi h2
       by_cases c7:bt s i = 125
       ·rw [if_pos c7]
        unfold rClose
        simp only []
        by_cases hO:O = []
        ·subst hO
         rw [if_pos rfl,show ks P [] = [] from rfl,hmiss [] (.inr rfl),rf_ok 2 rfl]
         rfl
        ·rw [if_neg hO]
         have hsp:=last_split hO
         generalize hla:O.getLast?.getD 0 = la at hsp ⊢
         generalize O.dropLast = O1 at hsp ⊢
         have hk:=(hI.ho la (by rw [hsp];simp)).2
         have hlen1:∀ o,o ∈ O1 → o < P.length:=fun o ho=>hlen o (by rw [hsp];simp [ho])
         simp only [] at hk
         subst hsp
         rw [ks_push,List.length_append,List.length_singleton]
         have h9:O1.length + 1 ≤ 8:=by have:=hI.h8 rfl;simpa using this
         have hcd:((O1.length + 1:Nat):Int) - 1 = (O1.length:Int):=by omega
         by_cases k7:(pOf P la).kind = 8
         ·rw [if_pos k7]
          rw [tl_cons,if_pos k7,← fin_ok (y:=(i,0)) rfl,fin_close _ hi,hcd,fin_open _ O1.length (hi.tk (by decide)),if_neg (fun q=>absurd q.2 (by omega))]
          simp only [List.length_append,List.length_cons,List.length_nil,Nat.zero_add]
          rw [ks_push,pOf_new,ks_app _ hlen1]
          rw [show ((O1.length + 1:Nat):Int) = (O1.length:Int) + 1 by omega]
          rfl
         ·rw [if_neg k7]
          rw [tl_cons,if_neg k7,← fin_ok (y:=(i,0)) rfl,fin_close _ hi,hcd]
          split
          ·simp only []
           rw [ks_app _ hlen1]
          ·simp only []
           rw [ks_app _ hlen1]
       ·rw [if_neg c7,hmiss _ (.inl c7),rf_ok 2 rfl]
        rfl
end
end Go.Proofs.YthcjcjfgdgnljabGreatDoor
