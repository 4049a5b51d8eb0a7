/-
  MchA, RunN, RunQ, RunR, RunS, RunT, ExeB, ExeC, ExeE, ExeH: one behind the other.
-/
import Derived.Test.YthcjcjfgdgnljabDoorGRunM
import Derived.Test.YthcjcjfgdgnljabDoorGDevX
import Derived.Test.YthcjcjfgdgnljabDoorGDevZ
import Derived.Deep.RegionWith
import Derived.Test.YthcjcjfgdgnljabDoorGMacB
import Derived.Deep.LoopGhost
import Derived.Test.YthcjcjfgdgnljabDoorGRuns
import Derived.Test.YthcjcjfgdgnljabDoorGRel
namespace Go.Proofs.YthcjcjfgdgnljabDoor
open Go.RowKit
set_option linter.unusedVariables false

structure Mx where
  nx : Nat
  left : Nat
  num : Nat → Nat
  at_ : Nat → Nat
  len : Nat → Nat
  peak : Nat
  tv : Value
  ov : Bool
  status : Nat
structure MacAt (w : World) (mp : Nat) (pv : Value) (st : Bool) (x : Mx) : Prop where
  cp : w.cell? ⟨mp, 0, none⟩ = some (pv)
  cx : w.cell? ⟨mp, 1, none⟩ = some (.int .i64 (x.nx : Int))
  cs : w.cell? ⟨mp, 2, none⟩ = some (.bool st)
  cf : w.cell? ⟨mp, 3, none⟩ = some (.int .i64 (x.left : Int))
  cn : ∀ k, k < 26 → w.cell? ⟨mp, 4 + k, none⟩ = some (.int .i64 (x.num k : Int))
  ca : ∀ k, k < 26 → w.cell? ⟨mp, 31 + k * 2, none⟩ = some (.int .i64 (x.at_ k : Int))
  cl : ∀ k, k < 26 → w.cell? ⟨mp, 31 + k * 2 + 1, none⟩ = some (.int .i64 (x.len k : Int))
  ck : w.cell? ⟨mp, 83, none⟩ = some (.int .i64 (x.peak : Int))
  ct : w.cell? ⟨mp, 84, none⟩ = some (x.tv)
  co : w.cell? ⟨mp, 85, none⟩ = some (.bool x.ov)
  cu : w.cell? ⟨mp, 86, none⟩ = some (.int .i64 (x.status : Int))
  fz : ∀ o, w.frozen? ⟨mp, o, none⟩ = false
theorem MacAt.lt {w : World} {mp : Nat} {pv : Value} {st : Bool} {x : Mx} (h : MacAt w mp pv st x) : mp < w.heap.size := World.block_lt_of_cell? w _ h.cp
theorem MacAt.fr {S : Nat → Prop} {w w' : World} {mp : Nat} {pv : Value} {st : Bool} {x : Mx} (h : MacAt w mp pv st x) (hF : Fr S w w') (hS : ¬ S mp) : MacAt w' mp pv st x :=
  ⟨hF.cell_some h.cp hS, hF.cell_some h.cx hS, hF.cell_some h.cs hS, hF.cell_some h.cf hS, fun k hk => hF.cell_some (h.cn k hk) hS, fun k hk => hF.cell_some (h.ca k hk) hS, fun k hk => hF.cell_some (h.cl k hk) hS, hF.cell_some h.ck hS, hF.cell_some h.ct hS, hF.cell_some h.co hS, hF.cell_some h.cu hS, fun o => (hF.frozen (p := ⟨mp, o, none⟩) h.lt hS).trans (h.fz o)⟩
theorem MacAt.no {w w' : World} {mp : Nat} {pv : Value} {st : Bool} {x : Mx} (h : MacAt w mp pv st x) (hF : Fr NoB w w') : MacAt w' mp pv st x := h.fr hF id
theorem MacAt.setNx {w : World} {mp : Nat} {pv : Value} {st : Bool} {x : Mx} (h : MacAt w mp pv st x) (v : Nat) : MacAt (w.setCell ⟨mp, 1, none⟩ (.int .i64 (v : Int))) mp pv st { x with nx := v } :=
  ⟨cell_at h.cp (by omega), cell_same h.cx, cell_at h.cs (by omega), cell_at h.cf (by omega), fun k hk => cell_at (h.cn k hk) (by omega), fun k hk => cell_at (h.ca k hk) (by omega), fun k hk => cell_at (h.cl k hk) (by omega), cell_at h.ck (by omega), cell_at h.ct (by omega), cell_at h.co (by omega), cell_at h.cu (by omega), fun o => by rw [World.frozen?_setCell]; exact h.fz o⟩
theorem MacAt.setLeft {w : World} {mp : Nat} {pv : Value} {st : Bool} {x : Mx} (h : MacAt w mp pv st x) (v : Nat) : MacAt (w.setCell ⟨mp, 3, none⟩ (.int .i64 (v : Int))) mp pv st { x with left := v } :=
  ⟨cell_at h.cp (by omega), cell_at h.cx (by omega), cell_at h.cs (by omega), cell_same h.cf, fun k hk => cell_at (h.cn k hk) (by omega), fun k hk => cell_at (h.ca k hk) (by omega), fun k hk => cell_at (h.cl k hk) (by omega), cell_at h.ck (by omega), cell_at h.ct (by omega), cell_at h.co (by omega), cell_at h.cu (by omega), fun o => by rw [World.frozen?_setCell]; exact h.fz o⟩
theorem MacAt.setPeak {w : World} {mp : Nat} {pv : Value} {st : Bool} {x : Mx} (h : MacAt w mp pv st x) (v : Nat) : MacAt (w.setCell ⟨mp, 83, none⟩ (.int .i64 (v : Int))) mp pv st { x with peak := v } :=
  ⟨cell_at h.cp (by omega), cell_at h.cx (by omega), cell_at h.cs (by omega), cell_at h.cf (by omega), fun k hk => cell_at (h.cn k hk) (by omega), fun k hk => cell_at (h.ca k hk) (by omega), fun k hk => cell_at (h.cl k hk) (by omega), cell_same h.ck, cell_at h.ct (by omega), cell_at h.co (by omega), cell_at h.cu (by omega), fun o => by rw [World.frozen?_setCell]; exact h.fz o⟩
theorem MacAt.setTv {w : World} {mp : Nat} {pv : Value} {st : Bool} {x : Mx} (h : MacAt w mp pv st x) (v : Value) : MacAt (w.setCell ⟨mp, 84, none⟩ (v)) mp pv st { x with tv := v } :=
  ⟨cell_at h.cp (by omega), cell_at h.cx (by omega), cell_at h.cs (by omega), cell_at h.cf (by omega), fun k hk => cell_at (h.cn k hk) (by omega), fun k hk => cell_at (h.ca k hk) (by omega), fun k hk => cell_at (h.cl k hk) (by omega), cell_at h.ck (by omega), cell_same h.ct, cell_at h.co (by omega), cell_at h.cu (by omega), fun o => by rw [World.frozen?_setCell]; exact h.fz o⟩
theorem MacAt.setOv {w : World} {mp : Nat} {pv : Value} {st : Bool} {x : Mx} (h : MacAt w mp pv st x) (v : Bool) : MacAt (w.setCell ⟨mp, 85, none⟩ (.bool v)) mp pv st { x with ov := v } :=
  ⟨cell_at h.cp (by omega), cell_at h.cx (by omega), cell_at h.cs (by omega), cell_at h.cf (by omega), fun k hk => cell_at (h.cn k hk) (by omega), fun k hk => cell_at (h.ca k hk) (by omega), fun k hk => cell_at (h.cl k hk) (by omega), cell_at h.ck (by omega), cell_at h.ct (by omega), cell_same h.co, cell_at h.cu (by omega), fun o => by rw [World.frozen?_setCell]; exact h.fz o⟩
theorem MacAt.setStatus {w : World} {mp : Nat} {pv : Value} {st : Bool} {x : Mx} (h : MacAt w mp pv st x) (v : Nat) : MacAt (w.setCell ⟨mp, 86, none⟩ (.int .i64 (v : Int))) mp pv st { x with status := v } :=
  ⟨cell_at h.cp (by omega), cell_at h.cx (by omega), cell_at h.cs (by omega), cell_at h.cf (by omega), fun k hk => cell_at (h.cn k hk) (by omega), fun k hk => cell_at (h.ca k hk) (by omega), fun k hk => cell_at (h.cl k hk) (by omega), cell_at h.ck (by omega), cell_at h.ct (by omega), cell_at h.co (by omega), cell_same h.cu, fun o => by rw [World.frozen?_setCell]; exact h.fz o⟩
theorem MacAt.setNum {w : World} {mp : Nat} {pv : Value} {st : Bool} {x : Mx} (h : MacAt w mp pv st x) {k : Nat} (hk : k < 26) (v : Nat) : MacAt (w.setCell ⟨mp, 4 + k, none⟩ (.int .i64 (v : Int))) mp pv st { x with num := upN x.num k v } :=
  ⟨cell_at h.cp (by omega), cell_at h.cx (by omega), cell_at h.cs (by omega), cell_at h.cf (by omega), fun j hj => by
      by_cases e : j = k
      · subst e; show _ = some (Value.int .i64 ((upN x.num j v j : Nat) : Int)); rw [upN_at]; exact cell_same (h.cn j hj)
      · show _ = some (Value.int .i64 ((upN x.num k v j : Nat) : Int)); rw [upN_ne _ _ e]; exact cell_at (h.cn j hj) (by omega), fun j hj => cell_at (h.ca j hj) (by omega), fun j hj => cell_at (h.cl j hj) (by omega), cell_at h.ck (by omega), cell_at h.ct (by omega), cell_at h.co (by omega), cell_at h.cu (by omega), fun o => by rw [World.frozen?_setCell]; exact h.fz o⟩
theorem MacAt.setAt {w : World} {mp : Nat} {pv : Value} {st : Bool} {x : Mx} (h : MacAt w mp pv st x) {k : Nat} (hk : k < 26) (v : Nat) : MacAt (w.setCell ⟨mp, 31 + k * 2, none⟩ (.int .i64 (v : Int))) mp pv st { x with at_ := upN x.at_ k v } :=
  ⟨cell_at h.cp (by omega), cell_at h.cx (by omega), cell_at h.cs (by omega), cell_at h.cf (by omega), fun j hj => cell_at (h.cn j hj) (by omega), fun j hj => by
      by_cases e : j = k
      · subst e; show _ = some (Value.int .i64 ((upN x.at_ j v j : Nat) : Int)); rw [upN_at]; exact cell_same (h.ca j hj)
      · show _ = some (Value.int .i64 ((upN x.at_ k v j : Nat) : Int)); rw [upN_ne _ _ e]; exact cell_at (h.ca j hj) (by omega), fun j hj => cell_at (h.cl j hj) (by omega), cell_at h.ck (by omega), cell_at h.ct (by omega), cell_at h.co (by omega), cell_at h.cu (by omega), fun o => by rw [World.frozen?_setCell]; exact h.fz o⟩
theorem MacAt.setLen {w : World} {mp : Nat} {pv : Value} {st : Bool} {x : Mx} (h : MacAt w mp pv st x) {k : Nat} (hk : k < 26) (v : Nat) : MacAt (w.setCell ⟨mp, 31 + k * 2 + 1, none⟩ (.int .i64 (v : Int))) mp pv st { x with len := upN x.len k v } :=
  ⟨cell_at h.cp (by omega), cell_at h.cx (by omega), cell_at h.cs (by omega), cell_at h.cf (by omega), fun j hj => cell_at (h.cn j hj) (by omega), fun j hj => cell_at (h.ca j hj) (by omega), fun j hj => by
      by_cases e : j = k
      · subst e; show _ = some (Value.int .i64 ((upN x.len j v j : Nat) : Int)); rw [upN_at]; exact cell_same (h.cl j hj)
      · show _ = some (Value.int .i64 ((upN x.len k v j : Nat) : Int)); rw [upN_ne _ _ e]; exact cell_at (h.cl j hj) (by omega), cell_at h.ck (by omega), cell_at h.ct (by omega), cell_at h.co (by omega), cell_at h.cu (by omega), fun o => by rw [World.frozen?_setCell]; exact h.fz o⟩

/-- the heap's marks and values are those of the boxes' blocks -/
structure HB (n : Nat) (B V : Nat → Int) (σ : St) : Prop where
  on : ∀ k, k < 26 → ∀ i, i < (σ.bx k).length → B (σ.at_ k + i) = (σ.at_ k : Int) + 1 ∧ V (σ.at_ k + i) = (((σ.bx k).getD i 0 : Nat) : Int)
  off : ∀ i, i < n → (∀ k, k < 26 → σ.bx k ≠ [] → i < σ.at_ k ∨ σ.at_ k + (σ.bx k).length ≤ i) → B i = 0 ∧ V i = 0
theorem HB.like {n : Nat} {B V : Nat → Int} {σ τ : St} (h : HB n B V σ) (h1 : τ.bx = σ.bx) (h2 : τ.at_ = σ.at_) : HB n B V τ := ⟨by rw [h1, h2]; exact h.on, by rw [h1, h2]; exact h.off⟩
theorem HB.congr {n : Nat} {B V B' V' : Nat → Int} {σ : St} (h : HB n B V σ) (ha : Ap n σ) (hb : ∀ i, i < n → B' i = B i) (hv : ∀ i, i < n → V' i = V i) : HB n B' V' σ :=
  ⟨fun k hk i hi => by
    have := ha.inn k hk (fun e => by rw [e] at hi; simp at hi)
    rw [hb _ (by omega), hv _ (by omega)]
    exact h.on k hk i hi, fun i hi q => by rw [hb i hi, hv i hi]; exact h.off i hi q⟩
theorem HB.free {n : Nat} {B V : Nat → Int} {σ : St} (h : HB n B V σ) (ha : Ap n σ) {k a : Nat} (hk : 1 ≤ k) : FreeAt B n k a ↔ FreeS n σ k a := by
  refine ⟨fun ⟨h1, h2⟩ => ⟨h1, fun b hb hbx => ?_⟩, fun ⟨h1, h2⟩ => ⟨h1, fun i q1 q2 => (h.off i (by omega) (fun b hb hbx => by have := h2 b hb hbx; omega)).1⟩⟩
  have hl : 0 < (σ.bx b).length := List.length_pos_iff.2 hbx
  by_cases q : a + k ≤ σ.at_ b ∨ σ.at_ b + (σ.bx b).length ≤ a
  · exact q
  · exfalso
    by_cases e : a ≤ σ.at_ b
    · have h3 := (h.on b hb 0 hl).1
      rw [Nat.add_zero] at h3
      have h4 := h2 (σ.at_ b) e (by omega)
      omega
    · have h3 := (h.on b hb (a - σ.at_ b) (by omega)).1
      rw [show σ.at_ b + (a - σ.at_ b) = a by omega] at h3
      have h4 := h2 a (Nat.le_refl _) (by omega)
      omega
/-- a block is made in a box that was emptied -/
theorem HB.make {n : Nat} {B V : Nat → Int} {σ : St} {b k a p : Nat} (h : HB n B V { σ with bx := upB σ.bx b [] }) (hb : b < 26) (hf : FreeS n { σ with bx := upB σ.bx b [] } k a) (hk : 1 ≤ k) : HB n (markTo B a (a + k)) V { σ with bx := upB σ.bx b (List.replicate k 0), at_ := upN σ.at_ b a, peak := p } := by
  have hoff : ∀ i, i ≠ b → upB σ.bx b (List.replicate k 0) i = upB σ.bx b [] i := fun i e => by rw [upB_ne _ _ e, upB_ne _ _ e]
  have hz : ∀ i, a ≤ i → i < a + k → B i = 0 ∧ V i = 0 := fun i q1 q2 => h.off i (by have := hf.1; omega) (fun c hc hcx => by have := hf.2 c hc hcx; omega)
  refine ⟨fun c hc i hi => ?_, fun i hi q => ?_⟩
  · show markTo B a (a + k) (upN σ.at_ b a c + i) = (upN σ.at_ b a c : Int) + 1 ∧ V (upN σ.at_ b a c + i) = (((upB σ.bx b (List.replicate k 0) c).getD i 0 : Nat) : Int)
    have hi' : i < (upB σ.bx b (List.replicate k 0) c).length := hi
    by_cases e : c = b
    · subst e
      rw [upB_at] at hi' ⊢
      rw [upN_at]
      rw [List.length_replicate] at hi'
      refine ⟨?_, ?_⟩
      · unfold markTo; rw [if_pos (by omega)]
      · rw [(hz (a + i) (by omega) (by omega)).2, List.getD_eq_getElem?_getD, List.getElem?_replicate, if_pos hi']; rfl
    · rw [hoff c e] at hi' ⊢
      rw [upN_ne _ _ e]
      have h1 := h.on c hc i hi'
      have hcx : upB σ.bx b [] c ≠ [] := fun q => by rw [q] at hi'; simp at hi'
      have h2 := hf.2 c hc hcx
      have h1' : B (σ.at_ c + i) = (σ.at_ c : Int) + 1 ∧ V (σ.at_ c + i) = (((upB σ.bx b [] c).getD i 0 : Nat) : Int) := h1
      have h2' : a + k ≤ σ.at_ c ∨ σ.at_ c + (upB σ.bx b [] c).length ≤ a := h2
      refine ⟨?_, h1'.2⟩
      unfold markTo
      rw [if_neg (by omega)]
      exact h1'.1
  · have hq : ∀ c, c < 26 → upB σ.bx b (List.replicate k 0) c ≠ [] → i < upN σ.at_ b a c ∨ upN σ.at_ b a c + (upB σ.bx b (List.replicate k 0) c).length ≤ i := q
    have hne : ¬ (a ≤ i ∧ i < a + k) := fun r => by
      have := hq b hb (by rw [upB_at]; intro e; have := congrArg List.length e; simp at this; omega)
      rw [upN_at, upB_at, List.length_replicate] at this
      omega
    unfold markTo
    rw [if_neg hne]
    refine h.off i hi (fun c hc hcx => ?_)
    have hcx' : upB σ.bx b [] c ≠ [] := hcx
    show i < σ.at_ c ∨ σ.at_ c + (upB σ.bx b [] c).length ≤ i
    by_cases e : c = b
    · subst e; rw [upB_at] at hcx'; exact absurd rfl hcx'
    · have := hq c hc (by rw [hoff c e]; exact hcx')
      rwa [upN_ne _ _ e, hoff c e] at this
/-- how far a block goes -/
theorem HB.stop {n : Nat} {B V : Nat → Int} {σ : St} (h : HB n B V σ) (ha : Ap n σ) {b z : Nat} (hb : b < 26) (hbx : σ.bx b ≠ []) (hz : σ.at_ b < z) (hzn : z ≤ n) (h1 : ∀ i, σ.at_ b ≤ i → i < z → B i = (σ.at_ b : Int) + 1) (h2 : z = n ∨ B z ≠ (σ.at_ b : Int) + 1) : z = σ.at_ b + (σ.bx b).length := by
  have hl : 0 < (σ.bx b).length := List.length_pos_iff.2 hbx
  have hin := ha.inn b hb hbx
  rcases Nat.lt_trichotomy z (σ.at_ b + (σ.bx b).length) with q | q | q
  · rcases h2 with h2 | h2
    · omega
    · have := (h.on b hb (z - σ.at_ b) (by omega)).1
      rw [show σ.at_ b + (z - σ.at_ b) = z by omega] at this
      exact absurd this h2
  · exact q
  · exfalso
    have h3 := h1 (σ.at_ b + (σ.bx b).length) (by omega) q
    -- the word behind the block is free, or of another block
    by_cases hx : ∀ k, k < 26 → σ.bx k ≠ [] → σ.at_ b + (σ.bx b).length < σ.at_ k ∨ σ.at_ k + (σ.bx k).length ≤ σ.at_ b + (σ.bx b).length
    · have := (h.off _ (by omega) hx).1
      omega
    · have : ∃ k, k < 26 ∧ σ.bx k ≠ [] ∧ ¬ (σ.at_ b + (σ.bx b).length < σ.at_ k ∨ σ.at_ k + (σ.bx k).length ≤ σ.at_ b + (σ.bx b).length) := by
        refine Classical.byContradiction fun hn => hx fun k hk hkx => Classical.byContradiction fun hq => hn ⟨k, hk, hkx, hq⟩
      obtain ⟨k, hk, hkx, hq⟩ := this
      have h4 := (h.on k hk (σ.at_ b + (σ.bx b).length - σ.at_ k) (by omega)).1
      rw [show σ.at_ k + (σ.at_ b + (σ.bx b).length - σ.at_ k) = σ.at_ b + (σ.bx b).length by omega] at h4
      have hkb : k ≠ b := fun e => by subst e; omega
      have h5 := ha.ap k b hk hb hkb hkx hbx
      omega
/-- a block ends -/
theorem HB.lose {n : Nat} {B V : Nat → Int} {σ : St} {b : Nat} (h : HB n B V σ) (ha : Ap n σ) (hb : b < 26) (hbx : σ.bx b ≠ []) : HB n (clearTo B (σ.at_ b) (σ.at_ b + (σ.bx b).length)) (clearTo V (σ.at_ b) (σ.at_ b + (σ.bx b).length)) { σ with bx := upB σ.bx b [] } := by
  refine ⟨fun c hc i hi => ?_, fun i hi q => ?_⟩
  · have hi' : i < (upB σ.bx b [] c).length := hi
    show clearTo B _ _ (σ.at_ c + i) = (σ.at_ c : Int) + 1 ∧ clearTo V _ _ (σ.at_ c + i) = (((upB σ.bx b [] c).getD i 0 : Nat) : Int)
    have e : c ≠ b := fun e => by subst e; rw [upB_at] at hi'; simp at hi'
    rw [upB_ne _ _ e] at hi' ⊢
    have hcx : σ.bx c ≠ [] := fun q => by rw [q] at hi'; simp at hi'
    have := ha.ap c b hc hb e hcx hbx
    unfold clearTo
    rw [if_neg (by omega), if_neg (by omega)]
    exact h.on c hc i hi'
  · unfold clearTo
    by_cases r : σ.at_ b ≤ i ∧ i < σ.at_ b + (σ.bx b).length
    · rw [if_pos r, if_pos r]; exact ⟨rfl, rfl⟩
    · rw [if_neg r, if_neg r]
      refine h.off i hi (fun c hc hcx => ?_)
      by_cases e : c = b
      · subst e; omega
      · have := q c hc (by show upB σ.bx b [] c ≠ []; rw [upB_ne _ _ e]; exact hcx)
        have this' : i < σ.at_ c ∨ σ.at_ c + (upB σ.bx b [] c).length ≤ i := this
        rwa [upB_ne _ _ e] at this'
theorem HB.move {n : Nat} {B V : Nat → Int} {σ : St} {b d : Nat} (h : HB n B V σ) (hb : b < 26) (hd : d < 26) (hne : b ≠ d) (he : σ.bx b = []) : HB n B V { σ with bx := upB (upB σ.bx b (σ.bx d)) d [], at_ := upN σ.at_ b (σ.at_ d) } := by
  refine ⟨fun c hc i hi => ?_, fun i hi q => ?_⟩
  · have hi' : i < (upB (upB σ.bx b (σ.bx d)) d [] c).length := hi
    show B (upN σ.at_ b (σ.at_ d) c + i) = (upN σ.at_ b (σ.at_ d) c : Int) + 1 ∧ V (upN σ.at_ b (σ.at_ d) c + i) = (((upB (upB σ.bx b (σ.bx d)) d [] c).getD i 0 : Nat) : Int)
    have e : c ≠ d := fun e => by subst e; rw [upB_at] at hi'; simp at hi'
    rw [upB_ne _ _ e] at hi' ⊢
    by_cases e2 : c = b
    · subst e2
      rw [upB_at] at hi' ⊢
      rw [upN_at]
      exact h.on d hd i hi'
    · rw [upB_ne _ _ e2] at hi' ⊢
      rw [upN_ne _ _ e2]
      exact h.on c hc i hi'
  · have hq : ∀ c, c < 26 → upB (upB σ.bx b (σ.bx d)) d [] c ≠ [] → i < upN σ.at_ b (σ.at_ d) c ∨ upN σ.at_ b (σ.at_ d) c + (upB (upB σ.bx b (σ.bx d)) d [] c).length ≤ i := q
    refine h.off i hi (fun c hc hcx => ?_)
    by_cases e : c = d
    · subst e
      have := hq b hb (by rw [upB_ne _ _ hne, upB_at]; exact hcx)
      rwa [upN_at, upB_ne _ _ hne, upB_at] at this
    · have e2 : c ≠ b := fun q => by subst q; exact hcx he
      have := hq c hc (by rw [upB_ne _ _ e, upB_ne _ _ e2]; exact hcx)
      rwa [upN_ne _ _ e2, upB_ne _ _ e, upB_ne _ _ e2] at this
theorem HB.store {n : Nat} {B V : Nat → Int} {σ : St} {b q v : Nat} (h : HB n B V σ) (ha : Ap n σ) (hb : b < 26) (hq : q < (σ.bx b).length) : HB n B (upd V (σ.at_ b + q) (v : Int)) { σ with bx := upB σ.bx b ((σ.bx b).set q v) } := by
  have hbx : σ.bx b ≠ [] := fun e => by rw [e] at hq; simp at hq
  have hlen : ∀ c, (upB σ.bx b ((σ.bx b).set q v) c).length = (σ.bx c).length := fun c => by
    by_cases e : c = b
    · subst e; rw [upB_at]; simp
    · rw [upB_ne _ _ e]
  refine ⟨fun c hc i hi => ?_, fun i hi r => ?_⟩
  · have hi' : i < (upB σ.bx b ((σ.bx b).set q v) c).length := hi
    rw [hlen] at hi'
    have h1 := h.on c hc i hi'
    have hcx : σ.bx c ≠ [] := fun e => by rw [e] at hi'; simp at hi'
    show B (σ.at_ c + i) = (σ.at_ c : Int) + 1 ∧ upd V (σ.at_ b + q) (v : Int) (σ.at_ c + i) = (((upB σ.bx b ((σ.bx b).set q v) c).getD i 0 : Nat) : Int)
    refine ⟨h1.1, ?_⟩
    by_cases e : c = b
    · subst e
      rw [upB_at]
      by_cases e2 : i = q
      · subst e2
        rw [upd_at, List.getD_eq_getElem?_getD, List.getElem?_set_self hq]; rfl
      · rw [upd_ne _ _ (by omega), List.getD_eq_getElem?_getD, List.getElem?_set_ne (by omega), ← List.getD_eq_getElem?_getD]
        exact h1.2
    · have := ha.ap c b hc hb e hcx hbx
      rw [upB_ne _ _ e, upd_ne _ _ (by omega)]
      exact h1.2
  · have hr : ∀ c, c < 26 → upB σ.bx b ((σ.bx b).set q v) c ≠ [] → i < σ.at_ c ∨ σ.at_ c + (upB σ.bx b ((σ.bx b).set q v) c).length ≤ i := r
    have hr2 : ∀ c, c < 26 → σ.bx c ≠ [] → i < σ.at_ c ∨ σ.at_ c + (σ.bx c).length ≤ i := fun c hc hcx => by
      have := hr c hc (fun e => by have := congrArg List.length e; rw [hlen] at this; simp at this; exact hcx this)
      rwa [hlen] at this
    have h1 := h.off i hi hr2
    refine ⟨h1.1, ?_⟩
    have := hr2 b hb hbx
    rw [upd_ne _ _ (by omega)]
    exact h1.2
end Go.Proofs.YthcjcjfgdgnljabDoor

namespace Go.Proofs.YthcjcjfgdgnljabDoor
open Go.RowKit
set_option linter.unusedVariables false

theorem dig_eq : ∀ (f n : Nat), decF f n = digF f n
  | 0, n => rfl
  | f + 1, n => by
    show (if n < 10 then _ else decF f (n / 10) ++ _) = (if n < 10 then _ else digF f (n / 10) ++ _)
    rw [dig_eq f]
section
variable (w : World) (rp base : Nat) (s : ByteArray) (σ : St)
end
section
variable (w : World) (rp base : Nat) (s : ByteArray) (x : Rn) (bx : Nat → List Int) (blk : Nat → Nat)
end
end Go.Proofs.YthcjcjfgdgnljabDoor

namespace Go.Proofs.YthcjcjfgdgnljabDoor
open Go.RowKit
set_option linter.unusedVariables false

theorem rn_num (σ : St) (wv0 : Nat → Value) (a0 l0 : Nat → Int) (k v : Nat) (wv : Nat → Value) (a l : Nat → Int) : ({ ({ rnOf σ wv0 a0 l0 with num := updI (rnOf σ wv0 a0 l0).num k ((v : Nat) : Int) } : Rn) with wv := wv, at_ := a, len := l } : Rn) = rnOf { σ with num := upN σ.num k v } wv a l := by
  unfold rnOf
  simp only [updI_cast]
theorem acOk_of {s : ByteArray} {i m : Nat} (h : Simple s i m) : AcOk (acN s i) := by
  have sm : ∀ {j : Nat}, smallN (bt s j) = true → bt s j - 97 < 26 := fun {j} h => by simp [smallN] at h; omega
  have gr : ∀ {j : Nat}, greatN (bt s j) = true → bt s j - 65 < 26 := fun {j} h => by simp [greatN] at h; omega
  rcases h with h | h | h | h | h | h | h | h | h
  · rw [acN_size h]; exact ⟨sm h.1, gr h.2.2.2.1⟩
  · rw [acN_load h]
    obtain ⟨hm, e1, hg, e3, k, ho, e5, e6, rfl⟩ := h
    exact ⟨sm hm, gr hg, odN_ok ho (byte_in e5 (by decide)) (nodigit e5 (.inr (.inr rfl)))⟩
  · obtain ⟨hm, e1, k, ho, e5, rfl⟩ := h
    rw [acN_set hm ho e5]
    exact ⟨sm hm, odN_ok ho (byte_in e5 (by decide)) (nodigit e5 (.inr (.inl rfl)))⟩
  · obtain ⟨hm, e1, k, l, ho, hop2, ho2, e5, rfl⟩ := h
    have hks : k < s.size := byte_in rfl (by unfold isOp at hop2; omega)
    have hd : digitN (bt s k) = false := by
      unfold isOp at hop2
      rcases hop2 with q | q | q | q | q <;> rw [q] <;> rfl
    rw [acN_bin hm ho hop2 hks]
    exact ⟨sm hm, odN_ok ho hks hd, odN_ok ho2 (byte_in e5 (by decide)) (nodigit e5 (.inr (.inl rfl)))⟩
  · obtain ⟨hg, e1, k, l, ho, e2, e3, ho2, e5, rfl⟩ := h
    rw [acN_store hg e1 ho e2]
    exact ⟨gr hg, odN_ok ho (byte_in e2 (by decide)) (nodigit e2 (.inr (.inr rfl))), odN_ok ho2 (byte_in e5 (by decide)) (nodigit e5 (.inr (.inl rfl)))⟩
  · rw [acN_make h]
    obtain ⟨hg, e1, e2, k, ho, e3, e5, rfl⟩ := h
    exact ⟨gr hg, odN_ok ho (byte_in e3 (by decide)) (nodigit e3 (.inr (.inr rfl)))⟩
  · rw [acN_move h]; exact ⟨gr h.1, gr h.2.2.1⟩
  · obtain ⟨e0, k, ho, e5, rfl⟩ := h
    rw [acN_print e0]
    exact odN_ok ho (byte_in e5 (by decide)) (nodigit e5 (.inr (.inl rfl)))
  · rw [acN_drop h.1]; exact gr h.2.1
theorem sub97 {s : ByteArray} {i : Nat} (h : smallN (bt s i) = true) (hi : i < s.size) : s[i].toNat = bt s i - 97 + 97 := by
  rw [← bt_in hi]
  simp [smallN] at h
  omega
theorem sub65 {s : ByteArray} {i : Nat} (h : greatN (bt s i) = true) (hi : i < s.size) : s[i].toNat = bt s i - 65 + 65 := by
  rw [← bt_in hi]
  simp [greatN] at h
  omega

section
variable (w : World) (rp base : Nat) (s : ByteArray) (σ : St) (i m : Nat)
end
end Go.Proofs.YthcjcjfgdgnljabDoor

namespace Go.Proofs.YthcjcjfgdgnljabDoor
open Go.RowKit
set_option linter.unusedVariables false

theorem trB_app (a b : List Nat) : trB (a ++ b) = trB a ++ trB b := by
  unfold trB
  rw [bytes_app]
  simp
theorem trB_size (a : List Nat) : (trB a).size = a.length := by unfold trB; simp [ByteArray.size]
theorem stp_yes {c : Cf} {a : Ac} {σ : St} (ha : isStep a = true) (h : σ.left ≠ 0) : stp c a σ = act c a (due σ) := by unfold stp; rw [if_pos ha, if_neg h]
theorem stp_no {c : Cf} {a : Ac} {σ : St} (ha : isStep a = true) (h : σ.left = 0) : stp c a σ = (tire σ, false) := by unfold stp; rw [if_pos ha, if_pos h]
section
variable (w : World) (rp base : Nat) (s : ByteArray) (σ : St) (i m : Nat)
end
end Go.Proofs.YthcjcjfgdgnljabDoor

namespace Go.Proofs.YthcjcjfgdgnljabDoor
open Go.RowKit
set_option linter.unusedVariables false

/-- a loop, and what is behind it -/
theorem Ex.cut {c : Cf} {P : Pg} {σ σ' : St} {b : Bool} (h : Ex c P σ σ' b) : ∀ {o : Od} {p r : Pg}, P = .loop o p r → (∃ σ1, Ex c (.loop o p .nil) σ σ1 true ∧ Ex c r σ1 σ' b) ∨ (b = false ∧ Ex c (.loop o p .nil) σ σ' false) := by
  induction h with
  | nil σ => intro o p r e; cases e
  | stop h => intro o p r e; cases e
  | go h hr ih => intro o p r e; cases e
  | iteTired h => intro o p r e; cases e
  | iteStop h hp ih => intro o p r e; cases e
  | iteGo h hp hr ih1 ih2 => intro o p r e; cases e
  | loopTired h => intro o p r e; cases e; exact .inr ⟨rfl, .loopTired h⟩
  | loopEnd h h0 hr ih => intro o p r e; cases e; exact .inl ⟨_, .loopEnd h h0 (.nil _), hr⟩
  | loopStop h h0 hp ih => intro o p r e; cases e; exact .inr ⟨rfl, .loopStop h h0 hp⟩
  | loopGo h h0 hp hr ih1 ih2 =>
    intro o p r e
    cases e
    rcases ih2 rfl with ⟨σ1, k1, k2⟩ | ⟨k0, k1⟩
    · exact .inl ⟨σ1, .loopGo h h0 hp k1, k2⟩
    · exact .inr ⟨k0, .loopGo h h0 hp k1⟩

end Go.Proofs.YthcjcjfgdgnljabDoor

namespace Go.Proofs.YthcjcjfgdgnljabDoor
open Go.RowKit
set_option linter.unusedVariables false

/-- what was printed stays short -/
def TrOk (σ : St) : Prop := σ.tr.length + 5 * σ.left ≤ 25000
theorem dig_len (f n : Nat) : (digF f n).length ≤ f + 1 := by rw [← dig_eq]; exact decF_len f n
theorem stp_trOk {c : Cf} {a : Ac} {σ : St} (h : TrOk σ) : TrOk (stp c a σ).1 := by
  have hact : ∀ (σ : St), (∀ o, a ≠ .print o) → (act c a σ).1.tr = σ.tr := fun σ hn => by
    cases a <;> simp only [act]
    case print o => exact absurd rfl (hn o)
    all_goals (repeat' split) <;> rfl
  unfold stp TrOk at *
  by_cases hp : ∃ o, a = .print o
  · obtain ⟨o, rfl⟩ := hp
    have e : isStep (Ac.print o) = true := rfl
    rw [if_pos e]
    split
    · exact h
    · rename_i h0
      have := dig_len 3 (valO σ.num o)
      show (σ.tr ++ digF 3 (valO σ.num o) ++ [59]).length + 5 * (σ.left - 1) ≤ 25000
      simp only [List.length_append, List.length_singleton]
      omega
  · have hn : ∀ o, a ≠ .print o := fun o e => hp ⟨o, e⟩
    split
    · split
      · exact h
      · rw [act_left, hact _ hn]
        show σ.tr.length + 5 * (σ.left - 1) ≤ 25000
        omega
    · rw [act_left, hact _ hn]
      exact h

/-- the document's Play is a run in memory -/
def PlayM (rp base : Nat) (s : ByteArray) (W : World) (σ : St) : Prop := PlayR W rp base s σ ∧ σ.left ≤ 5000 ∧ TrOk σ ∧ base ≤ W.heap.size
/-- a run begins -/
def st0 (n : Nat) : St := ⟨fun _ => 0, fun _ => [], fun _ => 0, n, 0, [], 0⟩
/-- how a run of a text ends -/
def Ends (c : Cf) (s : ByteArray) (n : Nat) (σ : St) : Prop := ∃ b, Ex c (pgN s (s.size + 1) 0 s.size) (st0 n) σ b
/-- the outcome of a Play -/
def outP (σ : St) : Value := .agg #[.int .i64 (σ.status : Int), .string (trB σ.tr), .int .i64 0, .int .i64 0]
def out0 : Value := .agg #[.int .i64 0, .string ⟨#[]⟩, .int .i64 0, .int .i64 0]
/-- an outcome's cells -/
structure OutAt (w : World) (b : Nat) (v0 v1 v2 v3 : Value) : Prop where
  c0 : w.cell? ⟨b, 0, none⟩ = some v0
  c1 : w.cell? ⟨b, 1, none⟩ = some v1
  c2 : w.cell? ⟨b, 2, none⟩ = some v2
  c3 : w.cell? ⟨b, 3, none⟩ = some v3
  f : ∀ o, w.frozen? ⟨b, o, none⟩ = false
theorem OutAt.lt {w : World} {b : Nat} {v0 v1 v2 v3 : Value} (h : OutAt w b v0 v1 v2 v3) : b < w.heap.size := World.block_lt_of_cell? w _ h.c0
theorem OutAt.fr {S : Nat → Prop} {w w' : World} {b : Nat} {v0 v1 v2 v3 : Value} (h : OutAt w b v0 v1 v2 v3) (hF : Fr S w w') (hS : ¬ S b) : OutAt w' b v0 v1 v2 v3 :=
  ⟨hF.cell_some h.c0 hS, hF.cell_some h.c1 hS, hF.cell_some h.c2 hS, hF.cell_some h.c3 hS, fun o => (hF.frozen (p := ⟨b, o, none⟩) h.lt hS).trans (h.f o)⟩
theorem OutAt.new (w : World) (t : TypeId) (v0 v1 v2 v3 : Value) : OutAt (w.alloc (.cells #[v0, v1, v2, v3] t)) w.heap.size v0 v1 v2 v3 :=
  ⟨cell_new _ _ _ rfl rfl, cell_new _ _ _ rfl rfl, cell_new _ _ _ rfl rfl, cell_new _ _ _ rfl rfl, fun o => World.frozen?_alloc_at _ _ _ _ rfl⟩
theorem OutAt.put {w : World} {b : Nat} {v0 v1 v2 v3 u0 u1 u2 u3 : Value} (h : OutAt w b v0 v1 v2 v3) : OutAt ((((w.setCell ⟨b, 0, none⟩ u0).setCell ⟨b, 1, none⟩ u1).setCell ⟨b, 2, none⟩ u2).setCell ⟨b, 3, none⟩ u3) b u0 u1 u2 u3 :=
  ⟨cell_at (cell_at (cell_at (cell_same h.c0) (by omega)) (by omega)) (by omega), cell_at (cell_at (cell_same (cell_at h.c1 (by omega))) (by omega)) (by omega), cell_at (cell_same (cell_at (cell_at h.c2 (by omega)) (by omega))) (by omega), cell_same (cell_at (cell_at (cell_at h.c3 (by omega)) (by omega)) (by omega)), fun o => by rw [World.frozen?_setCell, World.frozen?_setCell, World.frozen?_setCell, World.frozen?_setCell]; exact h.f o⟩
theorem Fr.put4 {S : Nat → Prop} {a w : World} {b : Nat} (h : Fr S a w) (hb : b < a.heap.size → S b) (u0 u1 u2 u3 : Value) : Fr S a ((((w.setCell ⟨b, 0, none⟩ u0).setCell ⟨b, 1, none⟩ u1).setCell ⟨b, 2, none⟩ u2).setCell ⟨b, 3, none⟩ u3) :=
  (((h.setCell (p := ⟨b, 0, none⟩) hb u0).setCell (p := ⟨b, 1, none⟩) hb u1).setCell (p := ⟨b, 2, none⟩) hb u2).setCell (p := ⟨b, 3, none⟩) hb u3
def zOut : Obj := .cells #[.int .i64 0, .string ⟨#[]⟩, .int .i64 0, .int .i64 0] 28
/-- a Run of zeros -/
def zRun : Array Value := (.string ⟨#[]⟩ :: (List.replicate 26 (Value.int .i64 0) ++ (List.replicate 26 (Value.slice none 0 0) ++ (Value.pointer none :: (List.replicate 53 (Value.int .i64 0) ++ [.int .i64 0, .string ⟨#[]⟩, .int .i64 0, .int .i64 0]))))).toArray
theorem zRun_n (k : Nat) (h : k < 26) : zRun[1 + k]? = some (.int .i64 0) := by
  match k, h with
  | 0, _ => rfl | 1, _ => rfl | 2, _ => rfl | 3, _ => rfl | 4, _ => rfl | 5, _ => rfl | 6, _ => rfl | 7, _ => rfl | 8, _ => rfl | 9, _ => rfl | 10, _ => rfl | 11, _ => rfl | 12, _ => rfl | 13, _ => rfl | 14, _ => rfl | 15, _ => rfl | 16, _ => rfl | 17, _ => rfl | 18, _ => rfl | 19, _ => rfl | 20, _ => rfl | 21, _ => rfl | 22, _ => rfl | 23, _ => rfl | 24, _ => rfl | 25, _ => rfl | k + 26, h => exact absurd h (by omega)
theorem zRun_w (k : Nat) (h : k < 26) : zRun[27 + k]? = some (.slice none 0 0) := by
  match k, h with
  | 0, _ => rfl | 1, _ => rfl | 2, _ => rfl | 3, _ => rfl | 4, _ => rfl | 5, _ => rfl | 6, _ => rfl | 7, _ => rfl | 8, _ => rfl | 9, _ => rfl | 10, _ => rfl | 11, _ => rfl | 12, _ => rfl | 13, _ => rfl | 14, _ => rfl | 15, _ => rfl | 16, _ => rfl | 17, _ => rfl | 18, _ => rfl | 19, _ => rfl | 20, _ => rfl | 21, _ => rfl | 22, _ => rfl | 23, _ => rfl | 24, _ => rfl | 25, _ => rfl | k + 26, h => exact absurd h (by omega)
theorem zRun_a (k : Nat) (h : k < 26) : zRun[54 + k]? = some (.int .i64 0) := by
  match k, h with
  | 0, _ => rfl | 1, _ => rfl | 2, _ => rfl | 3, _ => rfl | 4, _ => rfl | 5, _ => rfl | 6, _ => rfl | 7, _ => rfl | 8, _ => rfl | 9, _ => rfl | 10, _ => rfl | 11, _ => rfl | 12, _ => rfl | 13, _ => rfl | 14, _ => rfl | 15, _ => rfl | 16, _ => rfl | 17, _ => rfl | 18, _ => rfl | 19, _ => rfl | 20, _ => rfl | 21, _ => rfl | 22, _ => rfl | 23, _ => rfl | 24, _ => rfl | 25, _ => rfl | k + 26, h => exact absurd h (by omega)
theorem zRun_l (k : Nat) (h : k < 26) : zRun[80 + k]? = some (.int .i64 0) := by
  match k, h with
  | 0, _ => rfl | 1, _ => rfl | 2, _ => rfl | 3, _ => rfl | 4, _ => rfl | 5, _ => rfl | 6, _ => rfl | 7, _ => rfl | 8, _ => rfl | 9, _ => rfl | 10, _ => rfl | 11, _ => rfl | 12, _ => rfl | 13, _ => rfl | 14, _ => rfl | 15, _ => rfl | 16, _ => rfl | 17, _ => rfl | 18, _ => rfl | 19, _ => rfl | 20, _ => rfl | 21, _ => rfl | 22, _ => rfl | 23, _ => rfl | 24, _ => rfl | 25, _ => rfl | k + 26, h => exact absurd h (by omega)
theorem zRun_size : zRun.size = 111 := by simp [zRun]
theorem num_st0 (n : Nat) : NumOk (st0 n) := ⟨fun _ => (by show 0 < 1000; omega), fun _ v hv => absurd hv (List.not_mem_nil), fun _ => (by show 0 ≤ 64; omega)⟩
end Go.Proofs.YthcjcjfgdgnljabDoor

namespace Go.Proofs.YthcjcjfgdgnljabDoor
open Go.RowKit
set_option linter.unusedVariables false

def rnE (σ : St) (q : Nat) : Rn := ⟨fun k => (σ.num k : Int), fun _ => .slice none 0 0, .pointer (some ⟨q, 0, none⟩), fun k => (σ.at_ k : Int), fun k => ((σ.bx k).length : Int), (σ.left : Int), (σ.status : Int), trB σ.tr, 0, (σ.peak : Int)⟩
structure ExA (w : World) (rp q ri rh n : Nat) (s : ByteArray) (σ : St) (I H B V : Nat → Int) (md : Int) : Prop where
  r : RunAt w rp s (rnE σ q)
  h : RefAt w q ri rh n I H md
  l : Rel n B V I H md
  b : HB n B V σ
  ap : Ap n σ
  ok : NumOk σ
  n1 : rp ≠ q
  n2 : rp ≠ ri
  n3 : rp ≠ rh
  m0 : 0 ≤ md
def ExF (rp q ri rh : Nat) : Nat → Prop := fun k => k = rp ∨ k = q ∨ k = ri ∨ k = rh
def ExR (w : World) (rp q ri rh n : Nat) (s : ByteArray) (σ : St) (m : Int) : Prop := ∃ I H B V md, ExA w rp q ri rh n s σ I H B V md ∧ md ≤ m
/-- how a sentence ends -/
def ExS (rp q ri rh n : Nat) (s : ByteArray) (m : Int) (x : St × Bool) (w : World) (e : Ending) (w' : World) : Prop := e = .returned (.bool x.2) ∧ ExR w' rp q ri rh n s x.1 m ∧ Fr (ExF rp q ri rh) w w'
theorem exF_one {w w' : World} {rp : Nat} (q ri rh : Nat) (h : Fr (OneB rp) w w') : Fr (ExF rp q ri rh) w w' := h.mono (fun k _ e => .inl e)
theorem exF_ref {w w' : World} {q ri rh : Nat} (rp : Nat) (h : Fr (RefS q ri rh) w w') : Fr (ExF rp q ri rh) w w' := h.mono (fun k _ e => .inr e)
section
variable {w w' : World} {rp q ri rh n : Nat} {s : ByteArray} {σ τ : St} {I H B V : Nat → Int} {md : Int}
theorem ExA.no (h : ExA w rp q ri rh n s σ I H B V md) (hF : Fr NoB w w') : ExA w' rp q ri rh n s σ I H B V md :=
  ⟨h.r.no hF, h.h.no hF, h.l, h.b, h.ap, h.ok, h.n1, h.n2, h.n3, h.m0⟩
/-- the run's own cells turn -/
theorem ExA.own (h : ExA w rp q ri rh n s σ I H B V md) (hF : Fr (OneB rp) w w') (hR : RunAt w' rp s (rnE τ q)) (hb : τ.bx = σ.bx) (ha : τ.at_ = σ.at_) (hok : NumOk τ) : ExA w' rp q ri rh n s τ I H B V md :=
  ⟨hR, h.h.fr hF (fun e => h.n1 (by unfold OneB at e; exact e.symm)) (fun e => h.n2 (by unfold OneB at e; exact e.symm)) (fun e => h.n3 (by unfold OneB at e; exact e.symm)), h.l, h.b.like hb ha, h.ap.keep hb ha, hok, h.n1, h.n2, h.n3, h.m0⟩
theorem ExA.ends (h : ExA w rp q ri rh n s σ I H B V md) {v : Nat} (hF : Fr (OneB rp) w w') (hR : RunAt w' rp s { rnE σ q with status := (v : Int) }) : ExA w' rp q ri rh n s { σ with status := v } I H B V md := h.own hF hR rfl rfl (h.ok.like rfl rfl)
theorem ExA.num (h : ExA w rp q ri rh n s σ I H B V md) {k v : Nat} (hv : v < 1000) (hF : Fr (OneB rp) w w') (hR : RunAt w' rp s { rnE σ q with num := updI (rnE σ q).num k (v : Int) }) : ExA w' rp q ri rh n s { σ with num := upN σ.num k v } I H B V md := by
  refine h.own hF ?_ rfl rfl (h.ok.set hv)
  have e : ({ rnE σ q with num := updI (rnE σ q).num k (v : Int) } : Rn) = rnE { σ with num := upN σ.num k v } q := by
    unfold rnE
    simp only [updI_cast]
  rw [← e]
  exact hR
/-- the heap turns, and the run's own cells behind it -/
theorem ExA.heap (h : ExA w rp q ri rh n s σ I H B V md) (hF : Fr (RefS q ri rh) w w') : RunAt w' rp s (rnE σ q) := h.r.fr hF (fun e => by
  unfold RefS at e
  rcases e with e | e | e
  · exact h.n1 e
  · exact h.n2 e
  · exact h.n3 e)
end
section
variable (w : World) (rp q ri rh n : Nat) (s : ByteArray) (σ : St) (I H B V : Nat → Int) (md : Int)
end
end Go.Proofs.YthcjcjfgdgnljabDoor

namespace Go.Proofs.YthcjcjfgdgnljabDoor
open Go.RowKit
set_option linter.unusedVariables false

theorem rnE_wv (σ : St) (q k : Nat) : ({ rnE σ q with wv := updV (rnE σ q).wv k (.slice none 0 0) } : Rn) = rnE σ q := by
  have e : updV (rnE σ q).wv k (.slice none 0 0) = (rnE σ q).wv := by
    funext j
    unfold updV rnE
    split <;> rfl
  rw [e]
theorem updI_len (f : Nat → List Nat) (k : Nat) (l : List Nat) : updI (fun j => ((f j).length : Int)) k (l.length : Int) = fun j => ((upB f k l j).length : Int) := by
  funext j
  unfold updI upB
  split <;> rfl
theorem updI_nat (f : Nat → Nat) (k v : Nat) : updI (fun j => (f j : Int)) k (v : Int) = fun j => (upN f k v j : Int) := by
  funext j
  unfold updI upN
  split <;> rfl
theorem rnE_len (σ : St) (q k : Nat) (l : List Nat) : ({ rnE σ q with len := updI (rnE σ q).len k (l.length : Int) } : Rn) = rnE { σ with bx := upB σ.bx k l } q := by
  unfold rnE
  simp only [updI_len]
theorem rnE_at (σ : St) (q k v : Nat) : ({ rnE σ q with at_ := updI (rnE σ q).at_ k (v : Int) } : Rn) = rnE { σ with at_ := upN σ.at_ k v } q := by
  unfold rnE
  simp only [updI_nat]
theorem toE {w' w : World} {rp q ri rh n : Nat} {s : ByteArray} {σ : St} {I H B V : Nat → Int} {md m : Int} (h : ExA w' rp q ri rh n s σ I H B V md) (hm : md ≤ m) : ExR w' rp q ri rh n s σ m := ⟨I, H, B, V, md, h, hm⟩

section
variable (w : World) (rp q ri rh n : Nat) (s : ByteArray) (σ : St) (I H B V : Nat → Int) (md : Int)
end
end Go.Proofs.YthcjcjfgdgnljabDoor

namespace Go.Proofs.YthcjcjfgdgnljabDoor
open Go.RowKit
set_option linter.unusedVariables false

theorem RunAt.setPeak {w : World} {rp : Nat} {s : ByteArray} {x : Rn} (h : RunAt w rp s x) (v : Int) : RunAt (w.setCell ⟨rp, 110, none⟩ (.int .i64 v)) rp s { x with peak := v } :=
  ⟨cell_at h.cs (by omega), fun k hk => cell_at (h.cn k hk) (by omega), fun k hk => cell_at (h.cw k hk) (by omega), cell_at h.ch (by omega), fun k hk => cell_at (h.ca k hk) (by omega), fun k hk => cell_at (h.cl k hk) (by omega),
    cell_at h.cf (by omega), cell_at h.co (by omega), cell_at h.ct (by omega), cell_at h.cu (by omega), cell_same h.cp, fun o => by rw [World.frozen?_setCell]; exact h.fz o⟩

section
variable (w : World) (rp q ri rh n : Nat) (s : ByteArray) (σ : St) (I H B V : Nat → Int) (md : Int)
end
end Go.Proofs.YthcjcjfgdgnljabDoor

namespace Go.Proofs.YthcjcjfgdgnljabDoor
open Go.RowKit
set_option linter.unusedVariables false

theorem ExS.up {rp q ri rh n : Nat} {s : ByteArray} {m m' : Int} {x : St × Bool} {w : World} {e : Ending} {w' : World} (h : ExS rp q ri rh n s m x w e w') (hm : m ≤ m') : ExS rp q ri rh n s m' x w e w' := by
  obtain ⟨h1, ⟨I, H, B, V, md, h2, h3⟩, h4⟩ := h
  exact ⟨h1, ⟨I, H, B, V, md, h2, by omega⟩, h4⟩
section
variable (w : World) (rp q ri rh n : Nat) (s : ByteArray) (σ : St) (md : Int) (i m : Nat)
/-- what was reckoned -/
theorem calcE {k v : Nat} {I H B V : Nat → Int} {mm : Int} (hP : ExA w rp q ri rh n s σ I H B V mm) (hm : mm ≤ md) (hv : v < 1000) {e : Ending} {w' : World} (h : CalcS rp s true { rnE σ q with num := updI (rnE σ q).num k (v : Int) } w e w') : ExS rp q ri rh n s md ({ σ with num := upN σ.num k v }, true) w e w' :=
  ⟨h.1, toE (w := w) (hP.num hv h.2.2 h.2.1) hm, exF_one q ri rh h.2.2⟩
end
end Go.Proofs.YthcjcjfgdgnljabDoor
