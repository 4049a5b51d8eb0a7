import Derived.Test.YthcjcjfgdgnljabGreatDoorGHofA
import Derived.Test.YthcjcjfgdgnljabGreatDoorGDevZ
import Derived.Deep.RegionWith
set_option linter.unusedVariables false
set_option maxHeartbeats 4000000
set_option maxRecDepth 8000
open Go.Proofs.Tryz
namespace Go.Proofs.YthcjcjfgdgnljabGreatDoor
open Go.RowKit
structure Mx where
 nx:Nat
 left:Nat
 num:Nat → Nat
 at_:Nat → Nat
 len:Nat → Nat
 peak:Nat
 tv:Value
 ov:Bool
 status:Nat
structure MacAt (w:World) (mp:Nat) (pv:Value) (st:Bool) (x:Mx):Prop where
 cp:w.cell? ⟨mp,0,none⟩ = some (pv)
 cx:w.cell? ⟨mp,1,none⟩ = some (.int .i64 x.nx)
 cs:w.cell? ⟨mp,2,none⟩ = some (.bool st)
 cf:w.cell? ⟨mp,3,none⟩ = some (.int .i64 x.left)
 cn:∀ k,k < 26 → w.cell? ⟨mp,4 + k,none⟩ = some (.int .i64 (x.num k:Int))
 ca:∀ k,k < 26 → w.cell? ⟨mp,31 + k * 2,none⟩ = some (.int .i64 (x.at_ k:Int))
 cl:∀ k,k < 26 → w.cell? ⟨mp,31 + k * 2 + 1,none⟩ = some (.int .i64 (x.len k:Int))
 ck:w.cell? ⟨mp,83,none⟩ = some (.int .i64 x.peak)
 ct:w.cell? ⟨mp,84,none⟩ = some (x.tv)
 co:w.cell? ⟨mp,85,none⟩ = some (.bool x.ov)
 cu:w.cell? ⟨mp,86,none⟩ = some (.int .i64 x.status)
 fz:∀ o,w.frozen? ⟨mp,o,none⟩ = false
theorem MacAt.lt {w:World} {mp:Nat} {pv:Value} {st:Bool} {x:Mx} (h:MacAt w mp pv st x):mp < w.heap.size:=World.block_lt_of_cell? w _ h.cp
theorem MacAt.fr {S:Nat → Prop} {w w':World} {mp:Nat} {pv:Value} {st:Bool} {x:Mx} (h:MacAt w mp pv st x) (hF:Fr S w w') (hS:¬ S mp):MacAt w' mp pv st x :=
 ⟨hF.cell_some h.cp hS,hF.cell_some h.cx hS,hF.cell_some h.cs hS,hF.cell_some h.cf hS,fun k hk=>hF.cell_some (h.cn k hk) hS,fun k hk=>hF.cell_some (h.ca k hk) hS,fun k hk=>hF.cell_some (h.cl k hk) hS,hF.cell_some h.ck hS,hF.cell_some h.ct hS,hF.cell_some h.co hS,hF.cell_some h.cu hS,fun o=>(hF.frozen (p:=⟨mp,o,none⟩) h.lt hS).trans (h.fz o)⟩
theorem MacAt.no {w w':World} {mp:Nat} {pv:Value} {st:Bool} {x:Mx} (h:MacAt w mp pv st x) (hF:Fr NoB w w'):MacAt w' mp pv st x:=h.fr hF id
theorem MacAt.setNx {w:World} {mp:Nat} {pv:Value} {st:Bool} {x:Mx} (h:MacAt w mp pv st x) (v:Nat):MacAt (w.setCell ⟨mp,1,none⟩ (.int .i64 v)) mp pv st { x with nx:=v } :=
 ⟨cell_at h.cp (by omega),cell_same h.cx,cell_at h.cs (by omega),cell_at h.cf (by omega),fun k hk=>cell_at (h.cn k hk) (by omega),fun k hk=>cell_at (h.ca k hk) (by omega),fun k hk=>cell_at (h.cl k hk) (by omega),cell_at h.ck (by omega),cell_at h.ct (by omega),cell_at h.co (by omega),cell_at h.cu (by omega),fun o=>by rw [World.frozen?_setCell];exact h.fz o⟩
theorem MacAt.setLeft {w:World} {mp:Nat} {pv:Value} {st:Bool} {x:Mx} (h:MacAt w mp pv st x) (v:Nat):MacAt (w.setCell ⟨mp,3,none⟩ (.int .i64 v)) mp pv st { x with left:=v } :=
 ⟨cell_at h.cp (by omega),cell_at h.cx (by omega),cell_at h.cs (by omega),cell_same h.cf,fun k hk=>cell_at (h.cn k hk) (by omega),fun k hk=>cell_at (h.ca k hk) (by omega),fun k hk=>cell_at (h.cl k hk) (by omega),cell_at h.ck (by omega),cell_at h.ct (by omega),cell_at h.co (by omega),cell_at h.cu (by omega),fun o=>by rw [World.frozen?_setCell];exact h.fz o⟩
theorem MacAt.setPeak {w:World} {mp:Nat} {pv:Value} {st:Bool} {x:Mx} (h:MacAt w mp pv st x) (v:Nat):MacAt (w.setCell ⟨mp,83,none⟩ (.int .i64 v)) mp pv st { x with peak:=v } :=
 ⟨cell_at h.cp (by omega),cell_at h.cx (by omega),cell_at h.cs (by omega),cell_at h.cf (by omega),fun k hk=>cell_at (h.cn k hk) (by omega),fun k hk=>cell_at (h.ca k hk) (by omega),fun k hk=>cell_at (h.cl k hk) (by omega),cell_same h.ck,cell_at h.ct (by omega),cell_at h.co (by omega),cell_at h.cu (by omega),fun o=>by rw [World.frozen?_setCell];exact h.fz o⟩
theorem MacAt.setTv {w:World} {mp:Nat} {pv:Value} {st:Bool} {x:Mx} (h:MacAt w mp pv st x) (v:Value):MacAt (w.setCell ⟨mp,84,none⟩ (v)) mp pv st { x with tv:=v } :=
 ⟨cell_at h.cp (by omega),cell_at h.cx (by omega),cell_at h.cs (by omega),cell_at h.cf (by omega),fun k hk=>cell_at (h.cn k hk) (by omega),fun k hk=>cell_at (h.ca k hk) (by omega),fun k hk=>cell_at (h.cl k hk) (by omega),cell_at h.ck (by omega),cell_same h.ct,cell_at h.co (by omega),cell_at h.cu (by omega),fun o=>by rw [World.frozen?_setCell];exact h.fz o⟩
theorem MacAt.setOv {w:World} {mp:Nat} {pv:Value} {st:Bool} {x:Mx} (h:MacAt w mp pv st x) (v:Bool):MacAt (w.setCell ⟨mp,85,none⟩ (.bool v)) mp pv st { x with ov:=v } :=
 ⟨cell_at h.cp (by omega),cell_at h.cx (by omega),cell_at h.cs (by omega),cell_at h.cf (by omega),fun k hk=>cell_at (h.cn k hk) (by omega),fun k hk=>cell_at (h.ca k hk) (by omega),fun k hk=>cell_at (h.cl k hk) (by omega),cell_at h.ck (by omega),cell_at h.ct (by omega),cell_same h.co,cell_at h.cu (by omega),fun o=>by rw [World.frozen?_setCell];exact h.fz o⟩
theorem MacAt.setStatus {w:World} {mp:Nat} {pv:Value} {st:Bool} {x:Mx} (h:MacAt w mp pv st x) (v:Nat):MacAt (w.setCell ⟨mp,86,none⟩ (.int .i64 v)) mp pv st { x with status:=v } :=
 ⟨cell_at h.cp (by omega),cell_at h.cx (by omega),cell_at h.cs (by omega),cell_at h.cf (by omega),fun k hk=>cell_at (h.cn k hk) (by omega),fun k hk=>cell_at (h.ca k hk) (by omega),fun k hk=>cell_at (h.cl k hk) (by omega),cell_at h.ck (by omega),cell_at h.ct (by omega),cell_at h.co (by omega),cell_same h.cu,fun o=>by rw [World.frozen?_setCell];exact h.fz o⟩
theorem MacAt.setNum {w:World} {mp:Nat} {pv:Value} {st:Bool} {x:Mx} (h:MacAt w mp pv st x) {k:Nat} (hk:k < 26) (v:Nat):MacAt (w.setCell ⟨mp,4 + k,none⟩ (.int .i64 v)) mp pv st { x with num:=upN x.num k v } :=
 ⟨cell_at h.cp (by omega),cell_at h.cx (by omega),cell_at h.cs (by omega),cell_at h.cf (by omega),fun j hj=>by
   by_cases e:j = k
   ·subst e;show _ = some (Value.int .i64 ((upN x.num j v j:Nat):Int));rw [upN_at];exact cell_same (h.cn j hj)
   ·show _ = some (Value.int .i64 ((upN x.num k v j:Nat):Int));rw [upN_ne _ _ e];exact cell_at (h.cn j hj) (by omega),fun j hj=>cell_at (h.ca j hj) (by omega),fun j hj=>cell_at (h.cl j hj) (by omega),cell_at h.ck (by omega),cell_at h.ct (by omega),cell_at h.co (by omega),cell_at h.cu (by omega),fun o=>by rw [World.frozen?_setCell];exact h.fz o⟩
theorem MacAt.setAt {w:World} {mp:Nat} {pv:Value} {st:Bool} {x:Mx} (h:MacAt w mp pv st x) {k:Nat} (hk:k < 26) (v:Nat):MacAt (w.setCell ⟨mp,31 + k * 2,none⟩ (.int .i64 v)) mp pv st { x with at_:=upN x.at_ k v } :=
 ⟨cell_at h.cp (by omega),cell_at h.cx (by omega),cell_at h.cs (by omega),cell_at h.cf (by omega),fun j hj=>cell_at (h.cn j hj) (by omega),fun j hj=>by
   by_cases e:j = k
   ·subst e;show _ = some (Value.int .i64 ((upN x.at_ j v j:Nat):Int));rw [upN_at];exact cell_same (h.ca j hj)
   ·show _ = some (Value.int .i64 ((upN x.at_ k v j:Nat):Int));rw [upN_ne _ _ e];exact cell_at (h.ca j hj) (by omega),fun j hj=>cell_at (h.cl j hj) (by omega),cell_at h.ck (by omega),cell_at h.ct (by omega),cell_at h.co (by omega),cell_at h.cu (by omega),fun o=>by rw [World.frozen?_setCell];exact h.fz o⟩
theorem MacAt.setLen {w:World} {mp:Nat} {pv:Value} {st:Bool} {x:Mx} (h:MacAt w mp pv st x) {k:Nat} (hk:k < 26) (v:Nat):MacAt (w.setCell ⟨mp,31 + k * 2 + 1,none⟩ (.int .i64 v)) mp pv st { x with len:=upN x.len k v } :=
 ⟨cell_at h.cp (by omega),cell_at h.cx (by omega),cell_at h.cs (by omega),cell_at h.cf (by omega),fun j hj=>cell_at (h.cn j hj) (by omega),fun j hj=>cell_at (h.ca j hj) (by omega),fun j hj=>by
   by_cases e:j = k
   ·subst e;show _ = some (Value.int .i64 ((upN x.len j v j:Nat):Int));rw [upN_at];exact cell_same (h.cl j hj)
   ·show _ = some (Value.int .i64 ((upN x.len k v j:Nat):Int));rw [upN_ne _ _ e];exact cell_at (h.cl j hj) (by omega),cell_at h.ck (by omega),cell_at h.ct (by omega),cell_at h.co (by omega),cell_at h.cu (by omega),fun o=>by rw [World.frozen?_setCell];exact h.fz o⟩
structure HB (n:Nat) (B V:Nat → Int) (σ:St):Prop where
 on:∀ k,k < 26 → ∀ i,i < (σ.bx k).length → B (σ.at_ k + i) = (σ.at_ k:Int) + 1 ∧ V (σ.at_ k + i) = (((σ.bx k).getD i 0:Nat):Int)
 off:∀ i,i < n → (∀ k,k < 26 → σ.bx k ≠ [] → i < σ.at_ k ∨ σ.at_ k + (σ.bx k).length ≤ i) → B i = 0 ∧ V i = 0
theorem HB.like {n:Nat} {B V:Nat → Int} {σ τ:St} (h:HB n B V σ) (h1:τ.bx = σ.bx) (h2:τ.at_ = σ.at_):HB n B V τ:=⟨by rw [h1,h2];exact h.on,by rw [h1,h2];exact h.off⟩
theorem HB.free {n:Nat} {B V:Nat → Int} {σ:St} (h:HB n B V σ) (ha:Ap n σ) {k a:Nat} (hk:1 ≤ k):FreeAt B n k a ↔ FreeS n σ k a:=by
 refine ⟨fun ⟨h1,h2⟩=>⟨h1,fun b hb hbx=>?_⟩,fun ⟨h1,h2⟩=>⟨h1,fun i q1 q2=>(h.off i (by omega) (fun b hb hbx=>by have:=h2 b hb hbx;omega)).1⟩⟩
 have hl:0 < (σ.bx b).length:=List.length_pos_iff.2 hbx
 by_cases q:a + k ≤ σ.at_ b ∨ σ.at_ b + (σ.bx b).length ≤ a
 ·exact q
 ·exfalso
  by_cases e:a ≤ σ.at_ b
  ·have h3:=(h.on b hb 0 hl).1
   rw [Nat.add_zero] at h3
   have h4:=h2 (σ.at_ b) e (by omega)
   omega
  ·have h3:=(h.on b hb (a - σ.at_ b) (by omega)).1
   rw [show σ.at_ b + (a - σ.at_ b) = a by omega] at h3
   have h4:=h2 a (Nat.le_refl _) (by omega)
   omega
theorem HB.make {n:Nat} {B V:Nat → Int} {σ:St} {b k a p:Nat} (h:HB n B V { σ with bx:=upB σ.bx b [] }) (hb:b < 26) (hf:FreeS n { σ with bx:=upB σ.bx b [] } k a) (hk:1 ≤ k):HB n (markTo B a (a + k)) V { σ with bx:=upB σ.bx b (List.replicate k 0),at_:=upN σ.at_ b a,peak:=p }:=by
 have hoff:∀ i,i ≠ b → upB σ.bx b (List.replicate k 0) i = upB σ.bx b [] i:=fun i e=>by rw [upB_ne _ _ e,upB_ne _ _ e]
 have hz:∀ i,a ≤ i → i < a + k → B i = 0 ∧ V i = 0:=fun i q1 q2=>h.off i (by have:=hf.1;omega) (fun c hc hcx=>by have:=hf.2 c hc hcx;omega)
 refine ⟨fun c hc i hi=>?_,fun i hi q=>?_⟩
 ·show markTo B a (a + k) (upN σ.at_ b a c + i) = (upN σ.at_ b a c:Int) + 1 ∧ V (upN σ.at_ b a c + i) = (((upB σ.bx b (List.replicate k 0) c).getD i 0:Nat):Int)
  have hi':i < (upB σ.bx b (List.replicate k 0) c).length:=hi
  by_cases e:c = b
  ·subst e
   rw [upB_at] at hi' ⊢
   rw [upN_at]
   rw [List.length_replicate] at hi'
   refine ⟨?_,?_⟩
   ·unfold markTo;rw [if_pos (by omega)]
   ·rw [(hz (a + i) (by omega) (by omega)).2,List.getD_eq_getElem?_getD,List.getElem?_replicate,if_pos hi'];rfl
  ·rw [hoff c e] at hi' ⊢
   rw [upN_ne _ _ e]
   have h1:=h.on c hc i hi'
   have hcx:upB σ.bx b [] c ≠ []:=fun q=>by rw [q] at hi';simp at hi'
   have h2:=hf.2 c hc hcx
   have h1':B (σ.at_ c + i) = (σ.at_ c:Int) + 1 ∧ V (σ.at_ c + i) = (((upB σ.bx b [] c).getD i 0:Nat):Int):=h1
   have h2':a + k ≤ σ.at_ c ∨ σ.at_ c + (upB σ.bx b [] c).length ≤ a:=h2
   refine ⟨?_,h1'.2⟩
   unfold markTo
   rw [if_neg (by omega)]
   exact h1'.1
 ·have hq:∀ c,c < 26 → upB σ.bx b (List.replicate k 0) c ≠ [] → i < upN σ.at_ b a c ∨ upN σ.at_ b a c + (upB σ.bx b (List.replicate k 0) c).length ≤ i:=q
  have hne:¬ (a ≤ i ∧ i < a + k):=fun r=>by
   have:=hq b hb (by rw [upB_at];intro e;have:=congrArg List.length e;simp at this;omega)
   rw [upN_at,upB_at,List.length_replicate] at this
   omega
  unfold markTo
  rw [if_neg hne]
  refine h.off i hi (fun c hc hcx=>?_)
  have hcx':upB σ.bx b [] c ≠ []:=hcx
  show i < σ.at_ c ∨ σ.at_ c + (upB σ.bx b [] c).length ≤ i
  by_cases e:c = b
  ·subst e;rw [upB_at] at hcx';exact absurd rfl hcx'
  ·have:=hq c hc (by rw [hoff c e];exact hcx')
   rwa [upN_ne _ _ e,hoff c e] at this
theorem HB.stop {n:Nat} {B V:Nat → Int} {σ:St} (h:HB n B V σ) (ha:Ap n σ) {b z:Nat} (hb:b < 26) (hbx:σ.bx b ≠ []) (hz:σ.at_ b < z) (hzn:z ≤ n) (h1:∀ i,σ.at_ b ≤ i → i < z → B i = (σ.at_ b:Int) + 1) (h2:z = n ∨ B z ≠ (σ.at_ b:Int) + 1):z = σ.at_ b + (σ.bx b).length:=by
 have hl:0 < (σ.bx b).length:=List.length_pos_iff.2 hbx
 have hin:=ha.inn b hb hbx
 rcases Nat.lt_trichotomy z (σ.at_ b + (σ.bx b).length) with q | q | q
 ·rcases h2 with h2 | h2
  ·omega
  ·have:=(h.on b hb (z - σ.at_ b) (by omega)).1
   rw [show σ.at_ b + (z - σ.at_ b) = z by omega] at this
   exact absurd this h2
 ·exact q
 ·exfalso
  have h3:=h1 (σ.at_ b + (σ.bx b).length) (by omega) q
  by_cases hx:∀ k,k < 26 → σ.bx k ≠ [] → σ.at_ b + (σ.bx b).length < σ.at_ k ∨ σ.at_ k + (σ.bx k).length ≤ σ.at_ b + (σ.bx b).length
  ·have:=(h.off _ (by omega) hx).1
   omega
  ·have:∃ k,k < 26 ∧ σ.bx k ≠ [] ∧ ¬ (σ.at_ b + (σ.bx b).length < σ.at_ k ∨ σ.at_ k + (σ.bx k).length ≤ σ.at_ b + (σ.bx b).length):=by
    refine Classical.byContradiction fun hn=>hx fun k hk hkx=>Classical.byContradiction fun hq=>hn ⟨k,hk,hkx,hq⟩
   obtain ⟨k,hk,hkx,hq⟩:=this
   have h4:=(h.on k hk (σ.at_ b + (σ.bx b).length - σ.at_ k) (by omega)).1
   rw [show σ.at_ k + (σ.at_ b + (σ.bx b).length - σ.at_ k) = σ.at_ b + (σ.bx b).length by omega] at h4
   have hkb:k ≠ b:=fun e=>by subst e;omega
   have h5:=ha.ap k b hk hb hkb hkx hbx
   omega
theorem HB.lose {n:Nat} {B V:Nat → Int} {σ:St} {b:Nat} (h:HB n B V σ) (ha:Ap n σ) (hb:b < 26) (hbx:σ.bx b ≠ []):HB n (clearTo B (σ.at_ b) (σ.at_ b + (σ.bx b).length)) (clearTo V (σ.at_ b) (σ.at_ b + (σ.bx b).length)) { σ with bx:=upB σ.bx b [] }:=by
 refine ⟨fun c hc i hi=>?_,fun i hi q=>?_⟩
 ·have hi':i < (upB σ.bx b [] c).length:=hi
  show clearTo B _ _ (σ.at_ c + i) = (σ.at_ c:Int) + 1 ∧ clearTo V _ _ (σ.at_ c + i) = (((upB σ.bx b [] c).getD i 0:Nat):Int)
  have e:c ≠ b:=fun e=>by subst e;rw [upB_at] at hi';simp at hi'
  rw [upB_ne _ _ e] at hi' ⊢
  have hcx:σ.bx c ≠ []:=fun q=>by rw [q] at hi';simp at hi'
  have:=ha.ap c b hc hb e hcx hbx
  unfold clearTo
  rw [if_neg (by omega),if_neg (by omega)]
  exact h.on c hc i hi'
 ·unfold clearTo
  by_cases r:σ.at_ b ≤ i ∧ i < σ.at_ b + (σ.bx b).length
  ·rw [if_pos r,if_pos r];exact ⟨rfl,rfl⟩
  ·rw [if_neg r,if_neg r]
   refine h.off i hi (fun c hc hcx=>?_)
   by_cases e:c = b
   ·subst e;omega
   ·have:=q c hc (by show upB σ.bx b [] c ≠ [];rw [upB_ne _ _ e];exact hcx)
    have this':i < σ.at_ c ∨ σ.at_ c + (upB σ.bx b [] c).length ≤ i:=this
    rwa [upB_ne _ _ e] at this'
theorem HB.move {n:Nat} {B V:Nat → Int} {σ:St} {b d:Nat} (h:HB n B V σ) (hb:b < 26) (hd:d < 26) (hne:b ≠ d) (he:σ.bx b = []):HB n B V { σ with bx:=upB (upB σ.bx b (σ.bx d)) d [],at_:=upN σ.at_ b (σ.at_ d) }:=by
 refine ⟨fun c hc i hi=>?_,fun i hi q=>?_⟩
 ·have hi':i < (upB (upB σ.bx b (σ.bx d)) d [] c).length:=hi
  show B (upN σ.at_ b (σ.at_ d) c + i) = (upN σ.at_ b (σ.at_ d) c:Int) + 1 ∧ V (upN σ.at_ b (σ.at_ d) c + i) = (((upB (upB σ.bx b (σ.bx d)) d [] c).getD i 0:Nat):Int)
  have e:c ≠ d:=fun e=>by subst e;rw [upB_at] at hi';simp at hi'
  rw [upB_ne _ _ e] at hi' ⊢
  by_cases e2:c = b
  ·subst e2
   rw [upB_at] at hi' ⊢
   rw [upN_at]
   exact h.on d hd i hi'
  ·rw [upB_ne _ _ e2] at hi' ⊢
   rw [upN_ne _ _ e2]
   exact h.on c hc i hi'
 ·have hq:∀ c,c < 26 → upB (upB σ.bx b (σ.bx d)) d [] c ≠ [] → i < upN σ.at_ b (σ.at_ d) c ∨ upN σ.at_ b (σ.at_ d) c + (upB (upB σ.bx b (σ.bx d)) d [] c).length ≤ i:=q
  refine h.off i hi (fun c hc hcx=>?_)
  by_cases e:c = d
  ·subst e
   have:=hq b hb (by rw [upB_ne _ _ hne,upB_at];exact hcx)
   rwa [upN_at,upB_ne _ _ hne,upB_at] at this
  ·have e2:c ≠ b:=fun q=>by subst q;exact hcx he
   have:=hq c hc (by rw [upB_ne _ _ e,upB_ne _ _ e2];exact hcx)
   rwa [upN_ne _ _ e2,upB_ne _ _ e,upB_ne _ _ e2] at this
theorem HB.store {n:Nat} {B V:Nat → Int} {σ:St} {b q v:Nat} (h:HB n B V σ) (ha:Ap n σ) (hb:b < 26) (hq:q < (σ.bx b).length):HB n B (upd V (σ.at_ b + q) (v:Int)) { σ with bx:=upB σ.bx b ((σ.bx b).set q v) }:=by
 have hbx:σ.bx b ≠ []:=fun e=>by rw [e] at hq;simp at hq
 have hlen:∀ c,(upB σ.bx b ((σ.bx b).set q v) c).length = (σ.bx c).length:=fun c=>by
  by_cases e:c = b
  ·subst e;rw [upB_at];simp
  ·rw [upB_ne _ _ e]
 refine ⟨fun c hc i hi=>?_,fun i hi r=>?_⟩
 ·have hi':i < (upB σ.bx b ((σ.bx b).set q v) c).length:=hi
  rw [hlen] at hi'
  have h1:=h.on c hc i hi'
  have hcx:σ.bx c ≠ []:=fun e=>by rw [e] at hi';simp at hi'
  show B (σ.at_ c + i) = (σ.at_ c:Int) + 1 ∧ upd V (σ.at_ b + q) (v:Int) (σ.at_ c + i) = (((upB σ.bx b ((σ.bx b).set q v) c).getD i 0:Nat):Int)
  refine ⟨h1.1,?_⟩
  by_cases e:c = b
  ·subst e
   rw [upB_at]
   by_cases e2:i = q
   ·subst e2
    rw [upd_at,List.getD_eq_getElem?_getD,List.getElem?_set_self hq];rfl
   ·rw [upd_ne _ _ (by omega),List.getD_eq_getElem?_getD,List.getElem?_set_ne (by omega),← List.getD_eq_getElem?_getD]
    exact h1.2
  ·have:=ha.ap c b hc hb e hcx hbx
   rw [upB_ne _ _ e,upd_ne _ _ (by omega)]
   exact h1.2
 ·have hr:∀ c,c < 26 → upB σ.bx b ((σ.bx b).set q v) c ≠ [] → i < σ.at_ c ∨ σ.at_ c + (upB σ.bx b ((σ.bx b).set q v) c).length ≤ i:=r
  have hr2:∀ c,c < 26 → σ.bx c ≠ [] → i < σ.at_ c ∨ σ.at_ c + (σ.bx c).length ≤ i:=fun c hc hcx=>by
   have:=hr c hc (fun e=>by have:=congrArg List.length e;rw [hlen] at this;simp at this;exact hcx this)
   rwa [hlen] at this
  have h1:=h.off i hi hr2
  refine ⟨h1.1,?_⟩
  have:=hr2 b hb hbx
  rw [upd_ne _ _ (by omega)]
  exact h1.2
section
theorem dig_eq:∀ (f n:Nat),decF f n = digF f n
 | 0,n=>rfl
 | f + 1,n=>by
  show (if n < 10 then _ else decF f (n / 10) ++ _) = (if n < 10 then _ else digF f (n / 10) ++ _)
  rw [dig_eq f]
section
variable (w:World) (rp base:Nat) (s:ByteArray) (σ:St)
theorem due_play (h:PlayR w rp base s σ) (h0:σ.left ≠ 0) (h1:σ.left ≤ 5000) :
  Calls prog 81 #[.pointer (some ⟨rp,0,none⟩)] w fun e w'=>PlayS rp base s true (due σ) w e w':=by
 obtain ⟨hok,blk,wv,a,l,hP⟩:=h
 refine (due_yes w rp s _ hP.r (by show (0:Int) < (σ.left:Int);omega) (by show (σ.left:Int) ≤ 5000;omega)).mono ?_
 rintro e w' ⟨rfl,hR,hF⟩
 refine ⟨rfl,⟨hok.like rfl rfl,blk,wv,a,l,?_⟩,hF.mono (fun k _ e=>.inl e)⟩
 have hx:({ rnOf σ wv a l with left:=(rnOf σ wv a l).left - 1 }:Rn) = rnOf (due σ) wv a l:=by
  unfold rnOf due
  simp only [Rn.mk.injEq,true_and,and_true]
  omega
 rw [hx] at hR
 exact hP.own hF hR rfl rfl
theorem due_tired (h:PlayR w rp base s σ) (h0:σ.left = 0) :
  Calls prog 81 #[.pointer (some ⟨rp,0,none⟩)] w fun e w'=>PlayS rp base s false (tire σ) w e w':=by
 obtain ⟨hok,blk,wv,a,l,hP⟩:=h
 refine (due_no w rp s _ hP.r (by show (σ.left:Int) = 0;omega)).mono ?_
 rintro e w' ⟨rfl,hR,hF⟩
 exact ⟨rfl,⟨hok.like rfl rfl,blk,wv,a,l,hP.own hF hR rfl rfl⟩,hF.mono (fun k _ e=>.inl e)⟩
end
section
variable (w:World) (rp base:Nat) (s:ByteArray) (x:Rn) (bx:Nat → List Int) (blk:Nat → Nat)
theorem number_calc (h:PlayAt w rp base s x bx blk) (i k:Nat) (b:Bool) (x':Rn) (bx':Nat → List Int) (hi:i + 2 < s.size) (hs:s.size ≤ 100000) (hk:k < 26) (hq:s[i].toNat = k + 97) (h2:s[i + 2].toNat ≠ 35) (hg:greatN s[i + 2].toNat = false)
  (HC:∀ W,PlayAt W rp base s x bx blk → Calls prog 133 #[.pointer (some ⟨rp,0,none⟩),.int .i64 k,.int .i64 ((i:Int) + 2)] W fun e w'=>PlaySays rp base s b x' bx' W e w') :
  Calls prog 112 #[.pointer (some ⟨rp,0,none⟩),.int .i64 i] w fun e w'=>PlaySays rp base s b x' bx' w e w':=by
 have cs:=h.r.cs
 have HP:Hid (PlayAt w rp base s x bx blk):=h
 have H:Hid _:=HC
 have b1:((s[i + 2].toNat:Int) == 35) = false:=bF (by omega)
 have HG:Hid (∀ W,CS 88 #[.int .u8 (s[i + 2].toNat:Int)] W (.bool false)):=fun W=>by
  have:=great_fn W s[i + 2].toNat (UInt8.toNat_lt _)
  rwa [hg] at this
 clear h HC h2 hg
 go_enter func112,ntmps112
 go_wp2_with (first | (go_at_call 88;refine sameC (HG.out _) ?_) | (go_at_call 133;refine (H.out _ HP.out).mono ?_;rintro e w1 ⟨rfl,hx1,hF1⟩))
 go_ret
 exact ⟨rfl,hx1,hF1⟩
theorem simple_print (h:RunAt w rp s x) (i j v:Nat) (x1:Rn) (R1 R:World → Prop) (hi:i < s.size) (hs:s.size ≤ 100000) (hq:s[i].toNat = 33) (ho:Opnd s (i + 1) j) (hj:j < s.size) (hd:digitN (bt s j) = false) (hv:valN s x1.num (i + 1) j = (v:Int)) (hv2:v < 1000) (ht:x1.tr.size ≤ 100000)
  (hR1:∀ W,R1 W → RunAt W rp s x1) (hRR:∀ W W',R1 W → Fr NoB W W' → R (W'.setCell ⟨rp,108,none⟩ (.string (x1.tr ++ trB (digF 3 v) ++ trB [59]))))
  (HDue:Calls prog 81 #[.pointer (some ⟨rp,0,none⟩)] w fun e w'=>e = .returned (.bool true) ∧ R1 w') :
  Calls prog 83 #[.pointer (some ⟨rp,0,none⟩),.int .i64 i] w fun e w'=>e = .returned (.bool true) ∧ R w':=by
 have cs:=h.cs
 have HU:Hid _:=HDue
 have HR1:Hid _:=hR1
 have HRR:Hid _:=hRR
 have HV:Hid (∀ W,RunAt W rp s x1 → CR 82 #[.pointer (some ⟨rp,0,none⟩),.int .i64 ((i:Int) + 1)] W (.int .i64 v)):=fun W hW=>by
  have:=value_fn W rp s x1 hW (i + 1) j ho hj hs hd
  rwa [hv] at this
 have HD:Hid (∀ W,CR 111 #[.int .i64 v] W (.string (trB (digF 3 v)))):=fun W=>by
  have:=dec_fn 3 v (by omega) (by omega) (by omega) W
  rw [dig_eq] at this
  exact this
 have hdl:(trB (digF 3 v)).size ≤ 100:=by
  have:=decF_len 3 v
  rw [dig_eq] at this
  simp [trB,ByteArray.size]
  omega
 have e59:trB [59] = ⟨#[59]⟩:=rfl
 rw [e59] at HRR
 generalize trB (digF 3 v) = D at *
 clear h HDue ho hd hv e59 hR1 hRR
 go_enter func83,ntmps83
 go_upto_region 8 with (go_at_call 81;refine Calls.mono HU.out ?_;rintro e w1 ⟨rfl,hr1⟩)
 have Hr1:Hid _:=hr1
 have HP1:Hid (RunAt w1 rp s x1):=HR1.out _ hr1
 have ct:=HP1.out.ct
 have fz:=HP1.out.fz 108
 have hrl:=HP1.out.lt
 clear hr1 HU cs hq hv2
 have Hwr:Hid (IntKind.i64.wrap ((i:Int) + 1) = (i:Int) + 1):=by show IntKind.i64.wrap _ = _;simp [IntKind.wrap,IntKind.signed,IntKind.bits];omega
 go_region_with (first | (go_at_call 82;rw [Hwr.out];refine (HV.out _ (HP1.out.no (Fr.refl _ _).drew)).mono ?_;rintro e w2 ⟨rfl,hF2⟩;have ct2:=(((Fr.refl NoB _).drew).trans hF2).cell_some ct id) | (go_at_call 111;refine (HD.out _).mono ?_;rintro e w3 ⟨rfl,hF3⟩;have HF3:Hid (Fr NoB w1 w3):=((((Fr.refl NoB _).drew).trans hF2).trans hF3);have ct3:=HF3.out.cell_some ct id;have fz3:=(HF3.out.frozen (p:=⟨rp,108,none⟩) hrl id).trans fz))
 all_goals
  have HT:Hid _:=HRR.out _ _ Hr1.out HF3.out
  go_wp2
  go_ret
  exact ⟨rfl,HT.out⟩
end
end
section
section
variable (w:World) (rp base:Nat) (s:ByteArray) (x:Rn) (bx:Nat → List Int) (blk:Nat → Nat)
theorem simple_drop (h:RunAt w rp s x) (i:Nat) (Q:Bool → Ending → World → Prop) (b:Bool) (R:World → Prop) (hi:i < s.size) (hs:s.size ≤ 100000) (hq:s[i].toNat = 126)
  (HC:Calls prog 110 #[.pointer (some ⟨rp,0,none⟩),.int .i64 i] w fun e w'=>e = .returned (.bool b) ∧ R w') :
  Calls prog 83 #[.pointer (some ⟨rp,0,none⟩),.int .i64 i] w fun e w'=>e = .returned (.bool b) ∧ R w':=by
 have cs:=h.cs
 have H:Hid _:=HC
 clear h HC
 go_enter func83,ntmps83
 go_wp2_with (go_at_call 110;refine Calls.mono H.out ?_;rintro e w1 ⟨rfl,hR⟩)
 go_ret
 exact ⟨rfl,hR⟩
theorem simple_tired (h:RunAt w rp s x) (i:Nat) (R:World → Prop) (hi:i < s.size) (hs:s.size ≤ 100000) (hq:s[i].toNat ≠ 126)
  (HC:Calls prog 81 #[.pointer (some ⟨rp,0,none⟩)] w fun e w'=>e = .returned (.bool false) ∧ R w') :
  Calls prog 83 #[.pointer (some ⟨rp,0,none⟩),.int .i64 i] w fun e w'=>e = .returned (.bool false) ∧ R w':=by
 have cs:=h.cs
 have H:Hid _:=HC
 have b1:((s[i].toNat:Int) == 126) = false:=bF (by omega)
 clear h HC hq
 go_enter func83,ntmps83
 go_wp2_with (go_at_call 81;refine Calls.mono H.out ?_;rintro e w1 ⟨rfl,hR⟩)
 go_ret
 exact ⟨rfl,hR⟩
theorem simple_number (h:RunAt w rp s x) (i:Nat) (b:Bool) (R1 R:World → Prop) (hi:i < s.size) (hm:smallN s[i].toNat = true) (hs:s.size ≤ 100000) (hcs:∀ W,R1 W → W.cell? ⟨rp,0,none⟩ = some (.string s))
  (HDue:Calls prog 81 #[.pointer (some ⟨rp,0,none⟩)] w fun e w'=>e = .returned (.bool true) ∧ R1 w')
  (HC:∀ W,R1 W → Calls prog 112 #[.pointer (some ⟨rp,0,none⟩),.int .i64 i] W fun e w'=>e = .returned (.bool b) ∧ R w') :
  Calls prog 83 #[.pointer (some ⟨rp,0,none⟩),.int .i64 i] w fun e w'=>e = .returned (.bool b) ∧ R w':=by
 have cs:=h.cs
 have HU:Hid _:=HDue
 have H:Hid _:=HC
 have Hcs:Hid _:=hcs
 have HN:Hid (∀ X:World,CS 106 #[.int .u8 (s[i].toNat:Int)] X (.bool true)):=fun X=>by
  have:=small_fn X s[i].toNat (UInt8.toNat_lt _)
  rwa [hm] at this
 have b1:((s[i].toNat:Int) == 126) = false:=beq_eq_false_iff_ne.2 (fun e=>by have e2:s[i].toNat = 126:=(by omega);rw [e2] at hm;simp [smallN] at hm)
 have b2:((s[i].toNat:Int) == 33) = false:=beq_eq_false_iff_ne.2 (fun e=>by have e2:s[i].toNat = 33:=(by omega);rw [e2] at hm;simp [smallN] at hm)
 clear h HDue HC hcs hm
 go_enter func83,ntmps83
 go_wp2_with (first | (go_at_call 81;refine Calls.mono HU.out ?_;rintro e w1 ⟨rfl,hR1⟩;have HR1:Hid _:=hR1;have cs1:=Hcs.out _ hR1;clear hR1) | (go_at_call 106;refine sameC (HN.out _) ?_) | (go_at_call 112;refine (H.out _ HR1.out).mono ?_;rintro e w2 ⟨rfl,hR2⟩))
 go_ret
 exact ⟨rfl,hR2⟩
theorem simple_store (h:RunAt w rp s x) (i:Nat) (b:Bool) (R1 R:World → Prop) (hi:i + 1 < s.size) (hg:greatN s[i].toNat = true) (h1:s[i + 1].toNat = 91) (hs:s.size ≤ 100000) (hcs:∀ W,R1 W → W.cell? ⟨rp,0,none⟩ = some (.string s))
  (HDue:Calls prog 81 #[.pointer (some ⟨rp,0,none⟩)] w fun e w'=>e = .returned (.bool true) ∧ R1 w')
  (HC:∀ W,R1 W → Calls prog 113 #[.pointer (some ⟨rp,0,none⟩),.int .i64 i] W fun e w'=>e = .returned (.bool b) ∧ R w') :
  Calls prog 83 #[.pointer (some ⟨rp,0,none⟩),.int .i64 i] w fun e w'=>e = .returned (.bool b) ∧ R w':=by
 have cs:=h.cs
 have HU:Hid _:=HDue
 have H:Hid _:=HC
 have Hcs:Hid _:=hcs
 have hm:smallN s[i].toNat = false:=by simp [greatN] at hg;simp [smallN];omega
 have HN:Hid (∀ X:World,CS 106 #[.int .u8 (s[i].toNat:Int)] X (.bool false)):=fun X=>by
  have:=small_fn X s[i].toNat (UInt8.toNat_lt _)
  rwa [hm] at this
 have b1:((s[i].toNat:Int) == 126) = false:=beq_eq_false_iff_ne.2 (fun e=>by have e2:s[i].toNat = 126:=(by omega);rw [e2] at hg;simp [greatN] at hg)
 have b2:((s[i].toNat:Int) == 33) = false:=beq_eq_false_iff_ne.2 (fun e=>by have e2:s[i].toNat = 33:=(by omega);rw [e2] at hg;simp [greatN] at hg)
 clear h HDue HC hcs hm hg
 go_enter func83,ntmps83
 go_wp2_with (first | (go_at_call 81;refine Calls.mono HU.out ?_;rintro e w1 ⟨rfl,hR1⟩;have HR1:Hid _:=hR1;have cs1:=Hcs.out _ hR1;clear hR1) | (go_at_call 106;refine sameC (HN.out _) ?_) | (go_at_call 113;refine (H.out _ HR1.out).mono ?_;rintro e w2 ⟨rfl,hR2⟩))
 go_ret
 exact ⟨rfl,hR2⟩
theorem simple_gets (h:RunAt w rp s x) (i:Nat) (b:Bool) (R1 R:World → Prop) (hi:i + 2 < s.size) (hg:greatN s[i].toNat = true) (h1:s[i + 1].toNat ≠ 91) (h2:s[i + 2].toNat = 91) (hs:s.size ≤ 100000) (hcs:∀ W,R1 W → W.cell? ⟨rp,0,none⟩ = some (.string s))
  (HDue:Calls prog 81 #[.pointer (some ⟨rp,0,none⟩)] w fun e w'=>e = .returned (.bool true) ∧ R1 w')
  (HC:∀ W,R1 W → Calls prog 114 #[.pointer (some ⟨rp,0,none⟩),.int .i64 i] W fun e w'=>e = .returned (.bool b) ∧ R w') :
  Calls prog 83 #[.pointer (some ⟨rp,0,none⟩),.int .i64 i] w fun e w'=>e = .returned (.bool b) ∧ R w':=by
 have cs:=h.cs
 have HU:Hid _:=HDue
 have H:Hid _:=HC
 have Hcs:Hid _:=hcs
 have hm:smallN s[i].toNat = false:=by simp [greatN] at hg;simp [smallN];omega
 have HN:Hid (∀ X:World,CS 106 #[.int .u8 (s[i].toNat:Int)] X (.bool false)):=fun X=>by
  have:=small_fn X s[i].toNat (UInt8.toNat_lt _)
  rwa [hm] at this
 have b1:((s[i].toNat:Int) == 126) = false:=beq_eq_false_iff_ne.2 (fun e=>by have e2:s[i].toNat = 126:=(by omega);rw [e2] at hg;simp [greatN] at hg)
 have b2:((s[i].toNat:Int) == 33) = false:=beq_eq_false_iff_ne.2 (fun e=>by have e2:s[i].toNat = 33:=(by omega);rw [e2] at hg;simp [greatN] at hg)
 have b3:((s[i + 1].toNat:Int) == 91) = false:=bF (by omega)
 clear h HDue HC hcs hm hg h1
 go_enter func83,ntmps83
 go_wp2_with (first | (go_at_call 81;refine Calls.mono HU.out ?_;rintro e w1 ⟨rfl,hR1⟩;have HR1:Hid _:=hR1;have cs1:=Hcs.out _ hR1;clear hR1) | (go_at_call 106;refine sameC (HN.out _) ?_) | (go_at_call 114;refine (H.out _ HR1.out).mono ?_;rintro e w2 ⟨rfl,hR2⟩))
 go_ret
 exact ⟨rfl,hR2⟩
theorem simple_moves (h:RunAt w rp s x) (i:Nat) (b:Bool) (R1 R:World → Prop) (hi:i + 2 < s.size) (hg:greatN s[i].toNat = true) (h1:s[i + 1].toNat ≠ 91) (h2:s[i + 2].toNat ≠ 91) (hs:s.size ≤ 100000) (hcs:∀ W,R1 W → W.cell? ⟨rp,0,none⟩ = some (.string s))
  (HDue:Calls prog 81 #[.pointer (some ⟨rp,0,none⟩)] w fun e w'=>e = .returned (.bool true) ∧ R1 w')
  (HC:∀ W,R1 W → Calls prog 115 #[.pointer (some ⟨rp,0,none⟩),.int .i64 i] W fun e w'=>e = .returned (.bool b) ∧ R w') :
  Calls prog 83 #[.pointer (some ⟨rp,0,none⟩),.int .i64 i] w fun e w'=>e = .returned (.bool b) ∧ R w':=by
 have cs:=h.cs
 have HU:Hid _:=HDue
 have H:Hid _:=HC
 have Hcs:Hid _:=hcs
 have hm:smallN s[i].toNat = false:=by simp [greatN] at hg;simp [smallN];omega
 have HN:Hid (∀ X:World,CS 106 #[.int .u8 (s[i].toNat:Int)] X (.bool false)):=fun X=>by
  have:=small_fn X s[i].toNat (UInt8.toNat_lt _)
  rwa [hm] at this
 have b1:((s[i].toNat:Int) == 126) = false:=beq_eq_false_iff_ne.2 (fun e=>by have e2:s[i].toNat = 126:=(by omega);rw [e2] at hg;simp [greatN] at hg)
 have b2:((s[i].toNat:Int) == 33) = false:=beq_eq_false_iff_ne.2 (fun e=>by have e2:s[i].toNat = 33:=(by omega);rw [e2] at hg;simp [greatN] at hg)
 have b3:((s[i + 1].toNat:Int) == 91) = false:=bF (by omega)
 have b4:((s[i + 2].toNat:Int) == 91) = false:=bF (by omega)
 clear h HDue HC hcs hm hg h1 h2
 go_enter func83,ntmps83
 go_wp2_with (first | (go_at_call 81;refine Calls.mono HU.out ?_;rintro e w1 ⟨rfl,hR1⟩;have HR1:Hid _:=hR1;have cs1:=Hcs.out _ hR1;clear hR1) | (go_at_call 106;refine sameC (HN.out _) ?_) | (go_at_call 115;refine (H.out _ HR1.out).mono ?_;rintro e w2 ⟨rfl,hR2⟩))
 go_ret
 exact ⟨rfl,hR2⟩
end
end
end Go.Proofs.YthcjcjfgdgnljabGreatDoor
