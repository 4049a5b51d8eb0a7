import Derived.Test.YthcjcjfgdgnljabGreatDoorGMchR
set_option linter.unusedVariables false
set_option maxHeartbeats 4000000
set_option maxRecDepth 8000
open Go.Proofs.Tryz
namespace Go.Proofs.YthcjcjfgdgnljabGreatDoor
open Go.RowKit
section
theorem MS.from {mp r n base nx:Nat} {pv:Value} {st:Bool} {x:St × Bool} {w W:World} {e:Ending} {w':World} (h:MS mp r n base pv st nx x W e w') (hW:Fr (FrM base) w W):MS mp r n base pv st nx x w e w':=⟨h.1,h.2.1,hW.trans h.2.2⟩
section
variable (w:World) (mp r n base nx:Nat) (pv tv:Value) (st ov:Bool) (σ:St) (B V:Nat → Int)
theorem do_act (h:MM w mp r n base pv st σ nx false B V tv) (t:Pt) (clo:Nat) (ht:PtOk t) (hk:t.kind < 8) (hs:t.kind = 0 → t.sign = 0 ∨ sgOk t.sign) (hf:Fit (cE st n) (acP t) σ) (hsl:t.kind = 1 → σ.tr.length + 5 * σ.left + 5 ≤ 25000) (htab:∀ W,Fr NoB w W → TabOk W) :
  Calls prog 130 #[.pointer (some ⟨mp,0,none⟩),ptV t clo] w fun e w'=>MS mp r n base pv st nx (act (cE st n) (acP t) σ) w e w':=by
 have hkk:t.kind = 0 ∨ t.kind = 1 ∨ t.kind = 2 ∨ t.kind = 3 ∨ t.kind = 4 ∨ t.kind = 5 ∨ t.kind = 6 ∨ t.kind = 7:=by omega
 rcases hkk with k0 | k0 | k0 | k0 | k0 | k0 | k0 | k0
 ·have hs0:=hs k0
  by_cases hz:t.sign = 0
  ·have e1:acP t = .set t.num t.o1:=by unfold acP;rw [if_pos k0,if_pos hz]
   rw [e1]
   exact do_reckon w mp t clo k0 _ (fun W hW=>(reckon_yes W mp r n base nx pv tv st σ B V (h.no hW) t clo (valO σ.num t.o1) ht hs0 (by unfold recN;rw [if_pos hz])).mono fun e w' hh=>hh.from (frM_no hW))
  ·have e1:acP t = .bin t.num t.o1 t.sign t.o2:=by unfold acP;rw [if_pos k0,if_neg hz]
   have e2:recN t.sign (valO σ.num t.o1) (valO σ.num t.o2) = binN t.sign (valO σ.num t.o1) (valO σ.num t.o2):=by unfold recN;rw [if_neg hz]
   rw [e1]
   cases hb:binN t.sign (valO σ.num t.o1) (valO σ.num t.o2) with
   | none =>
    have e3:act (cE st n) (.bin t.num t.o1 t.sign t.o2) σ = ends σ 1:=by simp only [act];rw [hb]
    rw [e3]
    exact do_reckon w mp t clo k0 _ (fun W hW=>(reckon_no W mp r n base nx pv tv st σ B V (h.no hW) t clo ht hs0 (e2.trans hb)).mono fun e w' hh=>hh.from (frM_no hW))
   | some z =>
    have e3:act (cE st n) (.bin t.num t.o1 t.sign t.o2) σ = ({ σ with num:=upN σ.num t.num z },true):=by simp only [act];rw [hb]
    rw [e3]
    exact do_reckon w mp t clo k0 _ (fun W hW=>(reckon_yes W mp r n base nx pv tv st σ B V (h.no hW) t clo z ht hs0 (e2.trans hb)).mono fun e w' hh=>hh.from (frM_no hW))
 ·have e1:acP t = .print t.o1:=by unfold acP;rw [if_neg (by omega),if_pos k0]
  rw [e1]
  exact do_print w mp r n base nx pv tv st σ B V h t clo ht k0 (hsl k0) htab
 ·have e1:acP t = .load t.num t.box t.o1:=by unfold acP;rw [if_neg (by omega),if_neg (by omega),if_pos k0]
  rw [e1] at hf ⊢
  have hf2:σ.bx t.box ≠ []:=hf
  by_cases hl:(σ.bx t.box).length ≤ valO σ.num t.o1
  ·have e3:act (cE st n) (.load t.num t.box t.o1) σ = ends σ 1:=by simp only [act];rw [if_neg hf2,if_pos hl]
   rw [e3]
   exact do_load w mp t clo k0 _ (fun W hW=>(dload_no W mp r n base nx pv tv st σ B V (h.no hW) t clo ht hl).mono fun e w' hh=>hh.from (frM_no hW))
  ·have e3:act (cE st n) (.load t.num t.box t.o1) σ = ({ σ with num:=upN σ.num t.num ((σ.bx t.box).getD (valO σ.num t.o1) 0) },true):=by simp only [act];rw [if_neg hf2,if_neg hl]
   rw [e3]
   exact do_load w mp t clo k0 _ (fun W hW=>(dload_yes W mp r n base nx pv tv st σ B V (h.no hW) t clo ht (by omega)).mono fun e w' hh=>hh.from (frM_no hW))
 ·have e1:acP t = .size t.num t.box:=by unfold acP;rw [if_neg (by omega),if_neg (by omega),if_neg (by omega),if_pos k0]
  rw [e1] at hf ⊢
  have hf2:σ.bx t.box ≠ []:=hf
  have e3:act (cE st n) (.size t.num t.box) σ = ({ σ with num:=upN σ.num t.num (σ.bx t.box).length },true):=by simp only [act];rw [if_neg hf2]
  rw [e3]
  exact do_size w mp r n base nx pv tv st σ B V h t clo ht k0
 ·have e1:acP t = .make t.box t.o1:=by unfold acP;rw [if_neg (by omega),if_neg (by omega),if_neg (by omega),if_neg (by omega),if_pos k0]
  rw [e1] at hf ⊢
  have hf2:¬ ((cE st n).strict = true ∧ σ.bx t.box ≠ []):=hf
  by_cases hv:valO σ.num t.o1 < 1 ∨ 64 < valO σ.num t.o1
  ·have e3:act (cE st n) (.make t.box t.o1) σ = ends σ 1:=by simp only [act];rw [if_neg hf2,if_pos hv]
   rw [e3]
   exact do_newBlock w mp t clo k0 _ (fun W hW=>(dmake_trap W mp r n base nx pv tv st σ B V (h.no hW) t clo ht hv).mono fun e w' hh=>hh.from (frM_no hW))
  ·rcases alloc_cases n { σ with bx:=upB σ.bx t.box [] } (valO σ.num t.o1) with ⟨a,ha⟩ | ha
   ·have e3:act (cE st n) (.make t.box t.o1) σ = ({ σ with bx:=upB σ.bx t.box (List.replicate (valO σ.num t.o1) 0),at_:=upN σ.at_ t.box a,peak:=max σ.peak (a + valO σ.num t.o1) },true):=by
     simp only [act]
     rw [if_neg hf2,if_neg hv,show (cE st n).al { σ with bx:=upB σ.bx t.box [] } (valO σ.num t.o1) = some a from ha]
    rw [e3]
    exact do_newBlock w mp t clo k0 _ (fun W hW=>(dmake_yes W mp r n base nx pv tv st σ B V (h.no hW) t clo a ht (by omega) (by omega) ha).mono fun e w' hh=>hh.from (frM_no hW))
   ·have e3:act (cE st n) (.make t.box t.o1) σ = ends { σ with bx:=upB σ.bx t.box [] } 3:=by
     simp only [act]
     rw [if_neg hf2,if_neg hv,show (cE st n).al { σ with bx:=upB σ.bx t.box [] } (valO σ.num t.o1) = none from ha]
    rw [e3]
    exact do_newBlock w mp t clo k0 _ (fun W hW=>(dmake_none W mp r n base nx pv tv st σ B V (h.no hW) t clo ht (by omega) (by omega) ha).mono fun e w' hh=>hh.from (frM_no hW))
 ·have e1:acP t = .move t.box t.src:=by unfold acP;rw [if_neg (by omega),if_neg (by omega),if_neg (by omega),if_neg (by omega),if_neg (by omega),if_pos k0]
  rw [e1] at hf ⊢
  have hf2:σ.bx t.src ≠ [] ∧ (t.box = t.src ∨ ¬ ((cE st n).strict = true ∧ σ.bx t.box ≠ [])):=hf
  by_cases hq:t.box = t.src
  ·have e3:act (cE st n) (.move t.box t.src) σ = (σ,true):=by simp only [act];rw [if_neg hf2.1,if_pos hq]
   rw [e3]
   exact do_move w mp t clo k0 _ (fun W hW=>(dmove_self W mp r n base nx pv tv st σ B V (h.no hW) t clo (by unfold getB;rw [k0,hq];simp)).mono fun e w' hh=>hh.from (frM_no hW))
  ·have e3:act (cE st n) (.move t.box t.src) σ = ({ σ with bx:=upB (upB σ.bx t.box (σ.bx t.src)) t.src [],at_:=upN σ.at_ t.box (σ.at_ t.src) },true):=by
    simp only [act]
    rw [if_neg hf2.1,if_neg hq,if_neg (hf2.2.resolve_left hq)]
   rw [e3]
   exact do_move w mp t clo k0 _ (fun W hW=>(dmove_yes W mp r n base nx pv tv st σ B V (h.no hW) t clo ht (by unfold getB;rw [k0];simpa using hq) hq hf2.1).mono fun e w' hh=>hh.from (frM_no hW))
 ·have e1:acP t = .store t.box t.o1 t.o2:=by unfold acP;rw [if_neg (by omega),if_neg (by omega),if_neg (by omega),if_neg (by omega),if_neg (by omega),if_neg (by omega),if_pos k0]
  rw [e1] at hf ⊢
  have hf2:σ.bx t.box ≠ []:=hf
  by_cases hl:(σ.bx t.box).length ≤ valO σ.num t.o1
  ·have e3:act (cE st n) (.store t.box t.o1 t.o2) σ = ends σ 1:=by simp only [act];rw [if_neg hf2,if_pos hl]
   rw [e3]
   exact do_store w mp t clo k0 _ (fun W hW=>(dstore_no W mp r n base nx pv tv st σ B V (h.no hW) t clo ht hl).mono fun e w' hh=>hh.from (frM_no hW))
  ·have e3:act (cE st n) (.store t.box t.o1 t.o2) σ = ({ σ with bx:=upB σ.bx t.box ((σ.bx t.box).set (valO σ.num t.o1) (valO σ.num t.o2)) },true):=by simp only [act];rw [if_neg hf2,if_neg hl]
   rw [e3]
   exact do_store w mp t clo k0 _ (fun W hW=>(dstore_yes W mp r n base nx pv tv st σ B V (h.no hW) t clo ht (by omega)).mono fun e w' hh=>hh.from (frM_no hW))
 ·have e1:acP t = .drop t.box:=by unfold acP;rw [if_neg (by omega),if_neg (by omega),if_neg (by omega),if_neg (by omega),if_neg (by omega),if_neg (by omega),if_neg (by omega)]
  rw [e1] at hf ⊢
  have hf2:σ.bx t.box ≠ []:=hf
  have e3:act (cE st n) (.drop t.box) σ = ({ σ with bx:=upB σ.bx t.box [] },true):=by simp only [act];rw [if_neg hf2]
  rw [e3]
  exact do_end w mp r n base nx pv tv st σ B V h t clo ht k0
def partR (c:Cf) (t:Pt) (clo nx:Nat) (σ:St):Nat × St × Bool :=
 if t.kind < 8 then (nx + 1,(stp c (acP t) σ).1,!(stp c (acP t) σ).2)
 else if t.kind = 8 ∨ t.kind = 11 then (if σ.left = 0 then (nx + 1,tire σ,true) else if valO σ.num t.o1 = 0 then (clo + 1,due σ,false) else (nx + 1,due σ,false))
 else if t.kind = 9 then (clo,σ,false)
 else if t.kind = 12 then (t.opn,σ,false)
 else (nx + 1,σ,false)
theorem isStep_kind {t:Pt} (h:t.kind < 8):isStep (acP t) = stB t:=by
 obtain ⟨kind,place,num,box,src,o1,sign,o2,opn⟩:=t
 simp only [] at h
 have hk:kind = 0 ∨ kind = 1 ∨ kind = 2 ∨ kind = 3 ∨ kind = 4 ∨ kind = 5 ∨ kind = 6 ∨ kind = 7:=by omega
 rcases hk with rfl | rfl | rfl | rfl | rfl | rfl | rfl | rfl
 ·unfold acP;simp only [if_pos trivial];split <;> rfl
 all_goals rfl
def PartS (mp r n base:Nat) (pv:Value) (st:Bool) (x:Nat × St × Bool) (w:World) (e:Ending) (w':World):Prop:=e = .returned (.tuple #[]) ∧ (∃ B V tv,MM w' mp r n base pv st x.2.1 x.1 x.2.2 B V tv) ∧ Fr (FrM base) w w'
theorem mpart_fn (h:MM w mp r n base pv st σ (nx + 1) false B V tv) (t:Pt) (clo:Nat) (ht:PtOk t) (hcl:clo < 100000) (hs:t.kind = 0 → t.sign = 0 ∨ sgOk t.sign) (h4:st = false → (partR (cE st n) t clo nx σ).2.1.status ≠ 4) (htab:∀ W,Fr (FrM base) w W → TabOk W) :
  Calls prog 107 #[.pointer (some ⟨mp,0,none⟩),ptV t clo] w fun e w'=>PartS mp r n base pv st (partR (cE st n) t clo nx σ) w e w':=by
 have hslack:σ.left ≠ 0 → (due σ).tr.length + 5 * (due σ).left + 5 ≤ 25000:=fun q=>by
  have:=h.tk
  unfold TrOk at this
  show σ.tr.length + 5 * (σ.left - 1) + 5 ≤ 25000
  omega
 by_cases hk:t.kind < 8
 ·have hst:=isStep_kind hk
  have eR:partR (cE st n) t clo nx σ = (nx + 1,(stp (cE st n) (acP t) σ).1,!(stp (cE st n) (acP t) σ).2):=by unfold partR;rw [if_pos hk]
  rw [eR] at h4 ⊢
  have HD:∀ (τ:St),(t.kind = 1 → τ.tr.length + 5 * τ.left + 5 ≤ 25000) → Fit (cE st n) (acP t) τ → ∀ W,Fr (FrM base) w W → MM W mp r n base pv st τ (nx + 1) false B V tv → Calls prog 130 #[.pointer (some ⟨mp,0,none⟩),ptV t clo] W fun e w'=>MS mp r n base pv st (nx + 1) (act (cE st n) (acP t) τ) w e w' :=
   fun τ hsl hf W hW hM=>(do_act W mp r n base (nx + 1) pv tv st τ B V hM t clo ht hk hs hf hsl (fun W2 hW2=>htab W2 (hW.trans (frM_no hW2)))).mono fun e w' hh=>hh.from hW
  by_cases hb:stB t = true
  ·by_cases h0:σ.left = 0
   ·rw [show stp (cE st n) (acP t) σ = (tire σ,false) by unfold stp;rw [hst,if_pos hb,if_pos h0]]
    exact part_tired w mp r n base (nx + 1) pv tv st σ B V h t clo hb h0
   ·have e1:stp (cE st n) (acP t) σ = act (cE st n) (acP t) (due σ):=by unfold stp;rw [hst,if_pos hb,if_neg h0]
    rw [e1] at h4 ⊢
    cases st with
    | false=>exact part_loose_s w mp r n base (nx + 1) pv tv σ B V h t clo hb h0 _ (HD (due σ) (fun _=>hslack h0) (fit_of (h4 rfl)))
    | true =>
     cases hbr:brkB t (due σ) with
     | false=>exact part_strict_s w mp r n base (nx + 1) pv tv σ B V h t clo hb h0 ht hbr _ (HD (due σ) (fun _=>hslack h0) ((brk_fit rfl hk).1 hbr))
     | true =>
      rw [act_unfit (fun q=>by have:=(brk_fit (c:=cE true n) rfl hk).2 q;rw [this] at hbr;cases hbr)]
      exact part_brk_s w mp r n base (nx + 1) pv tv σ B V h t clo hb h0 ht hbr
  ·have hb':stB t = false:=by simpa using hb
   have e1:stp (cE st n) (acP t) σ = act (cE st n) (acP t) σ:=by unfold stp;rw [hst,if_neg hb]
   have hk1:t.kind ≠ 1:=fun q=>by unfold stB at hb';rw [q] at hb';cases hb'
   rw [e1] at h4 ⊢
   cases st with
   | false=>exact part_loose_n w mp r n base (nx + 1) pv tv σ B V h t clo hb' _ (HD σ (fun q=>absurd q hk1) (fit_of (h4 rfl)))
   | true =>
    cases hbr:brkB t σ with
    | false=>exact part_strict_n w mp r n base (nx + 1) pv tv σ B V h t clo hb' ht hbr _ (HD σ (fun q=>absurd q hk1) ((brk_fit rfl hk).1 hbr))
    | true =>
     rw [act_unfit (fun q=>by have:=(brk_fit (c:=cE true n) rfl hk).2 q;rw [this] at hbr;cases hbr)]
     exact part_brk_n w mp r n base (nx + 1) pv tv σ B V h t clo hb' ht hbr
 ·have hk8:8 ≤ t.kind:=by omega
  have hk2:=ht.k
  have hbr:∀ τ,brkB t τ = false:=fun τ=>by
   unfold brkB useB getB
   have e:∀ c,c < 8 → (t.kind == c) = false:=fun c hc=>bF (by omega)
   rw [e 2 (by omega),e 3 (by omega),e 6 (by omega),e 7 (by omega),e 5 (by omega),e 4 (by omega)]
   rfl
  have HD:∀ (τ:St),∀ W,Fr (FrM base) w W → MM W mp r n base pv st τ (nx + 1) false B V tv → Calls prog 130 #[.pointer (some ⟨mp,0,none⟩),ptV t clo] W fun e w'=>MS mp r n base pv st (turnN t clo τ (nx + 1)) (τ,true) w e w' :=
   fun τ W hW hM=>do_turn W mp t clo hk8 _ (fun W2 hW2=>(turn_fn W2 mp r n base (nx + 1) pv tv st τ B V (hM.no hW2) t clo ht hk8 hcl).mono fun e w' hh=>hh.from (hW.trans (frM_no hW2)))
  by_cases hb:stB t = true
  ·have hkb:t.kind = 8 ∨ t.kind = 11:=by
    have:t.kind = 8 ∨ t.kind = 9 ∨ t.kind = 10 ∨ t.kind = 11 ∨ t.kind = 12:=by omega
    unfold stB at hb
    rcases this with q | q | q | q | q <;> first | exact .inl q | exact .inr q | (rw [q] at hb;cases hb)
   by_cases h0:σ.left = 0
   ·rw [show partR (cE st n) t clo nx σ = (nx + 1,tire σ,true) by unfold partR;rw [if_neg hk,if_pos hkb,if_pos h0]]
    exact part_tired w mp r n base (nx + 1) pv tv st σ B V h t clo hb h0
   ·have eR:partR (cE st n) t clo nx σ = (turnN t clo (due σ) (nx + 1),due σ,false):=by
     unfold partR turnN
     rw [if_neg hk,if_pos hkb,if_neg h0,if_pos hkb]
     show _ = ((if valO σ.num t.o1 = 0 then clo + 1 else nx + 1),due σ,false)
     split <;> rfl
    rw [eR]
    cases st with
    | false=>exact part_loose_s w mp r n base (nx + 1) pv tv σ B V h t clo hb h0 _ (HD (due σ))
    | true=>exact part_strict_s w mp r n base (nx + 1) pv tv σ B V h t clo hb h0 ht (hbr _) _ (HD (due σ))
  ·have hb':stB t = false:=by simpa using hb
   have hkb:¬ (t.kind = 8 ∨ t.kind = 11):=fun q=>by
    unfold stB at hb'
    rcases q with q | q <;> (rw [q] at hb';cases hb')
   have eR:partR (cE st n) t clo nx σ = (turnN t clo σ (nx + 1),σ,false):=by
    unfold partR turnN
    rw [if_neg hk,if_neg hkb,if_neg hkb]
    split
    ·rfl
    ·split <;> rfl
   rw [eR]
   cases st with
   | false=>exact part_loose_n w mp r n base (nx + 1) pv tv σ B V h t clo hb' _ (HD σ)
   | true=>exact part_strict_n w mp r n base (nx + 1) pv tv σ B V h t clo hb' ht (hbr _) _ (HD σ)
end
end
theorem owns_set {w:World} {base:Nat} {e:TypeId} {size g n cap:Nat} {xs:List Value} (h:w.ownsRow base e size (.slice (some ⟨g,0,none⟩) n cap) n xs) {k:Nat} (hk:k < n * size) (u:Value):(w.setCell ⟨g,k,none⟩ u).ownsRow base e size (.slice (some ⟨g,0,none⟩) n cap) n (xs.set k u):=by
 refine ⟨by rw [List.length_set];exact h.1,.inr ?_⟩
 rcases h.2 with ⟨hv,_⟩ | ⟨g',cap',cur,hv,hb,hg,hn,hc,hs,ht⟩
 ·cases hv
 ·cases hv
  have hlt:g < w.heap.size:=(Array.getElem?_eq_some_iff.1 hg).1
  have h':w.heap[g] = .cells cur e (0,0):=(Array.getElem?_eq_some_iff.1 hg).2
  have hks:k < cur.size:=by rw [hs];exact Nat.lt_of_lt_of_le hk (Nat.mul_le_mul_right _ hn)
  refine ⟨g,cap,cur.set k u hks,rfl,hb,?_,hn,hc,by simpa using hs,?_⟩
  ·show (w.heap.modify g _)[g]? = _
   rw [Array.getElem?_eq_getElem (by simpa using hlt),Array.getElem_modify_self,h']
   simp [Array.setIfInBounds,hks]
  ·rw [Array.toList_set,List.take_set,ht]
theorem RdP.part {w:World} {kp base:Nat} {s:ByteArray} {r:Rs} {pv ov:Value} {C:Nat → Nat} (h:RdP w kp base s r pv ov C) (hn:0 < r.P.length) :
  ∃ gp pc,pv = .slice (some ⟨gp,0,none⟩) r.P.length pc ∧ gp < w.heap.size ∧ (∀ o,w.frozen? ⟨gp,o,none⟩ = false) ∧ ∀ i j u,i < r.P.length → j < 12 → (ptC (pOf r.P i) (C i))[j]? = some u → w.cell? ⟨gp,i * 12 + j,none⟩ = some u:=by
 have hr:=h.pr
 rcases h.pr.2 with ⟨_,h0⟩ | ⟨g,cap,cur,rfl,hb,hg,_⟩
 ·omega
 ·exact ⟨g,cap,rfl,(Array.getElem?_eq_some_iff.1 hg).1,fun o=>by simp [World.frozen?,hg],fun i j u hi hj hu=>owns_cell hr (by rw [ptsC_get _ _ _ _ hi hj];exact hu)⟩
theorem ptsC_set (P:List Pt) (C:Nat → Nat) {k:Nat} (hk:k < P.length) (m:Nat):(ptsC P C).set (k * 12 + 11) (.int .i64 m) = ptsC P (upN C k m):=by
 have hl:∀ C,(ptsC P C).length = P.length * 12:=fun C=>by
  unfold ptsC
  have:∀ (L:List Nat),(L.flatMap (fun i=>ptC (pOf P i) (C i))).length = L.length * 12:=fun L=>by
   induction L with
   | nil=>rfl
   | cons x L ih=>rw [List.flatMap_cons,List.length_append,ih,ptC_len,List.length_cons];omega
  rw [this]
  simp
 refine List.ext_getElem? fun q=>?_
 by_cases hq:q < P.length * 12
 ·have e:q = q / 12 * 12 + q % 12:=by omega
  have h1:q / 12 < P.length:=by omega
  have h2:q % 12 < 12:=by omega
  rw [e]
  generalize q / 12 = i at *
  generalize q % 12 = j at *
  rw [ptsC_get _ _ _ _ h1 h2]
  by_cases hik:i = k
  ·subst hik
   rw [upN_at]
   by_cases hj:j = 11
   ·subst hj
    rw [List.getElem?_set_self (by rw [hl];omega)]
    rfl
   ·rw [List.getElem?_set_ne (by omega),ptsC_get _ _ _ _ h1 h2]
    rcases j with _ | _ | _ | _ | _ | _ | _ | _ | _ | _ | _ | _ | j <;> first | rfl | omega
  ·rw [upN_ne _ _ hik,List.getElem?_set_ne (by omega),ptsC_get _ _ _ _ h1 h2]
 ·rw [List.getElem?_eq_none (by rw [List.length_set,hl];omega),List.getElem?_eq_none (by rw [hl];omega)]
theorem RdP.openTop {w:World} {kp base la:Nat} {s:ByteArray} {z:Nat × Nat} {P:List Pt} {O1:List Nat} {pv ov:Value} {C:Nat → Nat} (h:RdP w kp base s ⟨z,P,O1 ++ [la]⟩ pv ov C) :
  ∃ go oc,ov = .slice (some ⟨go,0,none⟩) (O1.length + 1) oc ∧ O1.length + 1 ≤ oc ∧ oc ≤ maxLen ∧ w.cell? ⟨go,O1.length,none⟩ = some (.int .i64 la):=by
 have hr:=h.orow
 have hl:(O1 ++ [la]).length = O1.length + 1:=by simp
 simp only [] at hr
 rw [hl] at hr
 have hr0:=hr
 rcases hr.2 with ⟨_,h0⟩ | ⟨g,cap,cur,rfl,hb,hg,hn,hc,_⟩
 ·omega
 ·refine ⟨g,cap,rfl,hn,hc,owns_cell hr0 ?_⟩
  rw [List.map_append,List.getElem?_append_right (by simp)]
  simp [intC]
theorem Wk.popO {w0 w:World} {kp base pb go oc la:Nat} {s:ByteArray} {z:Nat × Nat} {P:List Pt} {O1:List Nat} {pv:Value} {C:Nat → Nat} {t:Pt} (h:Wk w0 w kp base pb s ⟨z,P,O1 ++ [la]⟩ pv (.slice (some ⟨go,0,none⟩) (O1.length + 1) oc) C t) :
  Wk w0 (w.setCell ⟨kp,3,none⟩ (.slice (some ⟨go,0,none⟩) O1.length oc)) kp base pb s ⟨z,P,O1⟩ pv (.slice (some ⟨go,0,none⟩) O1.length oc) C t:=by
 have hF:=(Fr.refl (OneB kp) w).setCell (p:=⟨kp,3,none⟩) (fun _=>rfl) (.slice (some ⟨go,0,none⟩) O1.length oc)
 have hr:=h.rp.orow
 have hl:(O1 ++ [la]).length = O1.length + 1:=by simp
 simp only [] at hr
 rw [hl,List.map_append] at hr
 have hpop:=ownsRow_pop (n:=O1.length) (size:=1) (by simp) hr
 have hgb:=owns_base h.rp.orow (g:=go) rfl
 have hkb:=h.rp.kb
 refine ⟨⟨h.rp.rd.set3 _,?_,?_,h.rp.kb,fun g hg e=>h.rp.ne g hg e⟩,h.pt.fr hF (fun e=>h.n1 e),h.fr.setCell (p:=⟨kp,3,none⟩) (fun _=>.inl rfl) _,h.hb,h.hp,h.n1,h.n2,fun g hg=>h.n3 g hg⟩
 ·exact hF.owns h.rp.pr (fun g hg e=>by have:=owns_base h.rp.pr hg;unfold OneB at e;omega)
 ·exact hF.owns hpop (fun g hg e=>by
   have e2:go = g:=by simpa [Value.ownBlock] using hg
   unfold OneB at e
   omega)
theorem Wk.setC {w0 w:World} {kp base pb gp pc la:Nat} {s:ByteArray} {r:Rs} {ov:Value} {C:Nat → Nat} {t:Pt} (h:Wk w0 w kp base pb s r (.slice (some ⟨gp,0,none⟩) r.P.length pc) ov C t) (hla:la < r.P.length) (m:Nat) :
  Wk w0 (w.setCell ⟨gp,la * 12 + 11,none⟩ (.int .i64 m)) kp base pb s r (.slice (some ⟨gp,0,none⟩) r.P.length pc) ov (upN C la m) t:=by
 have hgb:=owns_base h.rp.pr (g:=gp) rfl
 have hkb:=h.rp.kb
 have hF:=(Fr.refl (OneB gp) w).setCell (p:=⟨gp,la * 12 + 11,none⟩) (fun _=>rfl) (.int .i64 m)
 have hps:=owns_set h.rp.pr (k:=la * 12 + 11) (by omega) (.int .i64 m)
 rw [ptsC_set _ _ hla] at hps
 refine ⟨⟨h.rp.rd.fr hF (fun e=>by unfold OneB at e;omega),hps,hF.owns h.rp.orow (fun g hg e=>h.rp.ne gp rfl (by unfold OneB at e;rw [← e];exact hg)),h.rp.kb,h.rp.ne⟩,h.pt.fr hF (fun e=>h.n2 gp rfl (by unfold OneB at e;omega)),h.fr.setCell (p:=⟨gp,la * 12 + 11,none⟩) (fun _=>.inr hgb.1) _,h.hb,h.hp,h.n1,h.n2,h.n3⟩
def PartIs (s:ByteArray):Prop:=∀ (w:World) (kp base:Nat) (r:Rs) (pv ov:Value),RdP w kp base s r pv ov (cloL r.P) → Zb s r.z → base ≤ w.heap.size → RJ s r → r.z.1 < s.size →
  Calls prog 65 #[.pointer (some ⟨kp,0,none⟩)] w fun x w'=>PartSays kp base s (rPart s r) w x w'
def ReadSays (s:ByteArray) (w:World) (x:Ending) (w':World):Prop:=∃ n,((rIter s n r0).z.2 ≠ 0 ∨ ¬ (rIter s n r0).z.1 < s.size) ∧ Fr NoB w w' ∧
 (((told (rIter s n r0)).1 ≠ 0 ∧ x = .returned (.tuple #[.slice none 0 0,.int .i64 ((told (rIter s n r0)).1:Int),.int .i64 ((told (rIter s n r0)).2:Int)])) ∨
   (told (rIter s n r0) = (0,0) ∧ (rIter s n r0).z.2 = 0 ∧ (rIter s n r0).O = [] ∧ ∃ ao cap,x = .returned (.tuple #[.slice ao (rIter s n r0).P.length cap,.int .i64 0,.int .i64 0]) ∧ PartRow w' ao (rIter s n r0).P.length (pOf (rIter s n r0).P) (cloL (rIter s n r0).P) ∧ ∀ g,ao = some ⟨g,0,none⟩ → g < w'.heap.size))
theorem RdP.row {w:World} {kp base:Nat} {s:ByteArray} {r:Rs} {pv ov:Value} {C:Nat → Nat} (h:RdP w kp base s r pv ov C):∃ ao cap,pv = .slice ao r.P.length cap ∧ PartRow w ao r.P.length (pOf r.P) C ∧ ∀ g,ao = some ⟨g,0,none⟩ → g < w.heap.size:=by
 have hr:=h.pr
 rcases h.pr.2 with ⟨rfl,h0⟩ | ⟨g,cap,cur,rfl,hb,hg,_⟩
 ·refine ⟨none,0,by rw [h0],?_,fun g e=>by cases e⟩
  rw [h0]
  exact ⟨fun q=>absurd q (by omega),fun g i j u q=>absurd q (by omega)⟩
 ·refine ⟨_,_,rfl,⟨fun _=>⟨g,rfl⟩,fun g' i j u hi e hu=>?_⟩,fun g' e=>?_⟩
  ·injection e with e
   injection e with e
   subst e
   have hj:j < 12:=by
    have:=(List.getElem?_eq_some_iff.1 hu).1
    rwa [ptC_len] at this
   exact owns_cell hr (by rw [ptsC_get _ _ _ _ hi hj];exact hu)
  ·injection e with e
   injection e with e
   subst e
   exact (Array.getElem?_eq_some_iff.1 hg).1
def leftR (s:ByteArray) (r:Rs):Nat:=if r.z.2 = 0 then s.size - r.z.1 + 1 else 0
theorem read_fn (w:World) (s:ByteArray) (hs:s.size ≤ 90000) (HPart:PartIs s) :
  Calls prog 49 #[.string s] w fun x w'=>ReadSays s w x w':=by
 have HP:Hid (PartIs s):=HPart
 clear HPart
 have HS0:Hid (RdP (w.alloc (.cells #[.string s,.int .i64 0,.slice none 0 0,.slice none 0 0,.int .i64 0] 109)) w.heap.size (w.heap.size + 1) s r0 (.slice none 0 0) (.slice none 0 0) (cloL r0.P)):=by
  refine ⟨⟨cell_new _ _ _ rfl rfl,cell_new _ _ _ rfl rfl,cell_new _ _ _ rfl rfl,cell_new _ _ _ rfl rfl,cell_new _ _ _ rfl rfl,fun o=>World.frozen?_alloc_at _ _ _ _ rfl⟩,⟨rfl,.inl ⟨rfl,rfl⟩⟩,⟨rfl,.inl ⟨rfl,rfl⟩⟩,Nat.lt_succ_self _,fun g hg=>by simp [Value.ownBlock] at hg⟩
 have HF0:Hid (Fr NoB w (w.alloc (.cells #[.string s,.int .i64 0,.slice none 0 0,.slice none 0 0,.int .i64 0] 109))):=(Fr.refl _ _).alloc _
 have hsz0:w.heap.size + 1 ≤ (w.alloc (.cells #[.string s,.int .i64 0,.slice none 0 0,.slice none 0 0,.int .i64 0] 109)).heap.size:=by simp
 go_enter func49,ntmps49
 go_wp2
 generalize (w.alloc _) = W0 at *
 go_loopg [18] (s.size + 1) (fun k _ wr=>∃ (n:Nat) (pv ov:Value),leftR s (rIter s n r0) ≤ k ∧ RJ s (rIter s n r0) ∧ RdP wr w.heap.size (w.heap.size + 1) s (rIter s n r0) pv ov (cloL (rIter s n r0).P) ∧ Fr NoB w wr ∧ w.heap.size + 1 ≤ wr.heap.size)
 case atStart=>exact ⟨0,_,_,Nat.le_refl _,rj0 s,HS0.out,HF0.out,hsz0⟩
 case round =>
  obtain ⟨n,pv,ov,hk,hJ,hR,hF,hsz⟩:=hrel
  have hnext:rIter s (n + 1) r0 = rStep s (rIter s n r0):=by rw [rIter_add];rfl
  have Hn:Hid (rIter s (n + 1) r0 = rStep s (rIter s n r0)):=hnext
  clear hnext
  generalize hr:rIter s n r0 = r at *
  have Hr:Hid (rIter s n r0 = r):=hr
  clear hr HS0 HF0
  obtain ⟨ao,cap,rfl,hrow,hgl⟩:=hR.row
  obtain ⟨oo,oc,rfl⟩:=owns_form hR.orow
  have c1:=hR.rd.c1
  have c2:=hR.rd.c2
  have c3:=hR.rd.c3
  have c4:=hR.rd.c4
  have hw3:=hJ.w3
  have hin:r.z.1 ≤ s.size:=hJ.hin
  have HR:Hid (RdP wr w.heap.size (w.heap.size + 1) s r (.slice ao r.P.length cap) (.slice oo r.O.length oc) (cloL r.P)):=hR
  have HJ:Hid (RJ s r):=hJ
  have HF:Hid (Fr NoB w wr):=hF
  have Hrow:Hid _:=And.intro hrow hgl
  clear hR hJ hF hrow hgl
  by_cases h2:r.z.2 = 0
  ·have b2:((r.z.2:Int) == 0) = true:=by rw [h2];rfl
   by_cases hl:r.z.1 < s.size
   ·have hstep:rStep s r = rPart s r:=by unfold rStep;rw [if_pos ⟨h2,hl⟩]
    have hpr:=rj_part hs HJ.out h2 hl
    have HJ2:Hid (RJ s (rIter s (n + 1) r0)):=by show RJ s _;rw [Hn.out,hstep];exact hpr.1
    have Hlt:Hid (leftR s (rIter s (n + 1) r0) < gk):=by
     show leftR s _ < gk
     rw [Hn.out,hstep]
     have h3:leftR s r = s.size - r.z.1 + 1:=by unfold leftR;rw [if_pos h2]
     have h4:leftR s (rPart s r) < leftR s r:=by
      rw [h3]
      unfold leftR
      split
      ·rename_i q
       rcases hpr.2 with q2 | q2
       ·exact absurd q q2
       ·have:(rPart s r).z.1 ≤ s.size:=hpr.1.hin
        omega
      ·omega
     omega
    have HPt:Hid (∀ (_:Unit),Calls prog 65 #[.pointer (some ⟨w.heap.size,0,none⟩)] wr fun x w'=>PartSays w.heap.size (w.heap.size + 1) s (rIter s (n + 1) r0) wr x w'):=fun _=>by
     rw [Hn.out,hstep]
     exact HP.out wr w.heap.size (w.heap.size + 1) r _ _ HR.out ⟨HJ.out.hin,HJ.out.w3,hs⟩ hsz HJ.out hl
    clear hstep hpr h2
    go_wp2_with (go_at_call 65;refine (HPt.out ()).mono ?_;rintro x w2 ⟨rfl,⟨pv2,ov2,hRP⟩,hF2⟩)
    go_roundg (leftR s (rIter s (n + 1) r0))
    case measure=>exact Hlt.out
    case rel=>exact ⟨n + 1,pv2,ov2,Nat.le_refl _,HJ2.out,hRP,HF.out.then hF2 (fun k hk e=>by unfold StkS at e;omega),Nat.le_trans hsz hF2.size⟩
   ·by_cases hO:r.O = []
    ·have b3:decide (0 < r.O.length) = false:=by rw [hO];rfl
     have HT:Hid (told (rIter s n r0) = (0,0)):=by show told _ = _;rw [Hr.out];unfold told;rw [if_neg (fun q=>q h2),if_pos hO]
     have H2:Hid (r.z.2 = 0 ∧ r.O = []):=⟨h2,hO⟩
     have b4:((r.z.2:Int) != 0) = false:=by rw [h2];rfl
     clear h2 hO
     go_wp2
     go_ret3
     refine ⟨n,.inr (by rw [Hr.out];exact hl),HF.out,.inr ⟨HT.out,by rw [Hr.out];exact H2.out.1,by rw [Hr.out];exact H2.out.2,ao,cap,by rw [Hr.out];rfl,by rw [Hr.out];exact Hrow.out.1,Hrow.out.2⟩⟩
    ·have hOl:0 < r.O.length:=List.length_pos_iff.2 hO
     have HT:Hid (told (rIter s n r0) = (2,r.z.1)):=by show told _ = _;rw [Hr.out];unfold told;rw [if_neg (fun q=>q h2),if_neg hO]
     have HRf:Hid (rf 2 r.z = (r.z.1,2)):=rf_ok 2 h2
     clear h2 hO
     go_wp2_with (go_at_call 66;refine (refuse_fn _ w.heap.size s r.z _ _ HR.out.rd 2).mono ?_;rintro x w2 ⟨rfl,hR2,hF2⟩;rw [HRf.out] at hR2;have e1:=hR2.c1;have e4:=hR2.c4)
     go_quiet (fail)
     go_wp2
     go_ret3
     refine ⟨n,.inr (by rw [Hr.out];exact hl),(HF.out.then hF2 (fun k hk e=>by unfold OneB at e;omega)).drewN _,.inl ⟨by rw [HT.out];simp,by rw [HT.out];rfl⟩⟩
  ·have b2:((r.z.2:Int) == 0) = false:=bF (by omega)
   have b4:((r.z.2:Int) != 0) = true:=bne_iff_ne.2 (by omega)
   have HT:Hid (told (rIter s n r0) = (r.z.2,r.z.1)):=by show told _ = _;rw [Hr.out];unfold told;rw [if_pos h2]
   have H2:Hid (r.z.2 ≠ 0):=h2
   have HRf:Hid (rf 2 r.z = r.z):=rf_bad 2 h2
   clear h2
   by_cases hO:0 < r.O.length
   ·go_wp2_with (go_at_call 66;refine (refuse_fn _ w.heap.size s r.z _ _ HR.out.rd 2).mono ?_;rintro x w2 ⟨rfl,hR2,hF2⟩;rw [HRf.out] at hR2;have e1:=hR2.c1;have e4:=hR2.c4)
    go_quiet (fail)
    go_wp2
    go_ret3
    refine ⟨n,.inl (by rw [Hr.out];exact H2.out),(HF.out.then hF2 (fun k hk e=>by unfold OneB at e;omega)).drewN _,.inl ⟨by rw [HT.out];exact H2.out,by rw [HT.out];rfl⟩⟩
   ·have hO0:r.O.length = 0:=by omega
    have b3:decide (0 < r.O.length) = false:=by rw [hO0];rfl
    clear hO hO0
    go_wp2
    go_quiet (fail)
    go_wp2
    go_ret3
    refine ⟨n,.inl (by rw [Hr.out];exact H2.out),HF.out.drewN _,.inl ⟨by rw [HT.out];exact H2.out,by rw [HT.out];rfl⟩⟩
end Go.Proofs.YthcjcjfgdgnljabGreatDoor
