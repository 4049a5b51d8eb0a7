/-
  Rel, HofA, RunM, MacE, MchA, RunQ, RunT: one behind the other.
-/
import Derived.Test.YthcjcjfgdgnljaaGRefB
import Derived.Test.YthcjcjfgdgnljaaGFree
import Derived.Test.YthcjcjfgdgnljaaGLowB
import Derived.Test.YthcjcjfgdgnljaaGDevX
import Derived.Test.YthcjcjfgdgnljaaGDevZ
import Derived.Deep.RegionWith
import Derived.Test.YthcjcjfgdgnljaaGFulG
import Derived.Test.YthcjcjfgdgnljaaGMacB
import Derived.Deep.LoopGhost
namespace Go.Proofs.Ythcjcjfgdgnljaa
open Go.RowKit

structure Rel (n : Nat) (B V I H : Nat → Int) (md : Int) : Prop where
  zz : ∀ i, i < n → (B i = 0 ↔ I i = 0)
  eqv : ∀ i j, i < n → j < n → I i ≠ 0 → (I i = I j ↔ B i = B j)
  vh : ∀ i, i < n → B i ≠ 0 → V i = H i
  zv : ∀ i, i < n → B i = 0 → V i = 0
  st : ∀ i, i < n → B i ≠ 0 → ∃ s : Nat, B i = (s : Int) + 1 ∧ s ≤ i ∧ ∀ j, s ≤ j → j ≤ i → B j = B i
  mx : ∀ i, i < n → I i ≤ md
  md0 : 0 ≤ md

theorem Rel.start (n : Nat) : Rel n (fun _ => 0) (fun _ => 0) (fun _ => 0) (fun _ => 0) 0 :=
  ⟨fun _ _ => Iff.rfl, fun _ _ _ _ h => absurd rfl h, fun _ _ h => absurd rfl h, fun _ _ _ => rfl, fun _ _ h => absurd rfl h, fun _ _ => Int.le_refl _, Int.le_refl _⟩

theorem Rel.alloc {n : Nat} {B V I H : Nat → Int} {md : Int} (h : Rel n B V I H md) {k a : Nat} (hk : 1 ≤ k) (hf : FreeAt B n k a) : Rel n (markTo B a (a + k)) V (setTo I a (a + k) (md + 1)) (setTo H a (a + k) 0) (md + 1) := by
  have hm0 := h.md0
  have hin : ∀ i, (a ≤ i ∧ i < a + k) → markTo B a (a + k) i = (a : Int) + 1 := fun i e => by unfold markTo; rw [if_pos e]
  have hout : ∀ i, ¬ (a ≤ i ∧ i < a + k) → markTo B a (a + k) i = B i := fun i e => by unfold markTo; rw [if_neg e]
  have sin : ∀ (f : Nat → Int) (v : Int) i, (a ≤ i ∧ i < a + k) → setTo f a (a + k) v i = v := fun f v i e => by unfold setTo; rw [if_pos e]
  have sout : ∀ (f : Nat → Int) (v : Int) i, ¬ (a ≤ i ∧ i < a + k) → setTo f a (a + k) v i = f i := fun f v i e => by unfold setTo; rw [if_neg e]
  have hnew : ∀ j, j < n → ¬ (a ≤ j ∧ j < a + k) → B j ≠ (a : Int) + 1 := fun j hj e hb => by
    obtain ⟨s, h1, h2, h3⟩ := h.st j hj (by omega)
    have hs : s = a := by omega
    subst hs
    have := h3 s (Nat.le_refl _) h2
    have := hf.2 s (Nat.le_refl _) (by omega)
    omega
  refine ⟨fun i hi => ?_, fun i j hi hj hne => ?_, fun i hi hne => ?_, fun i hi hz => ?_, fun i hi hne => ?_, fun i hi => ?_, by omega⟩
  · by_cases e : a ≤ i ∧ i < a + k
    · rw [hin i e, sin I _ i e]; constructor <;> intro h <;> omega
    · rw [hout i e, sout I _ i e]; exact h.zz i hi
  · by_cases e : a ≤ i ∧ i < a + k <;> by_cases e2 : a ≤ j ∧ j < a + k
    · rw [hin i e, hin j e2, sin I _ i e, sin I _ j e2]; constructor <;> intro _ <;> rfl
    · rw [hin i e, hout j e2, sin I _ i e, sout I _ j e2]
      have h1 := h.mx j hj
      have h2 := hnew j hj e2
      constructor
      · intro g; omega
      · intro g; exact absurd g.symm h2
    · rw [hout i e, hin j e2, sout I _ i e, sin I _ j e2]
      have h1 := h.mx i hi
      have h2 := hnew i hi e
      constructor
      · intro g; omega
      · intro g; exact absurd g h2
    · rw [hout i e, hout j e2, sout I _ i e, sout I _ j e2]
      rw [sout I _ i e] at hne
      exact h.eqv i j hi hj hne
  · by_cases e : a ≤ i ∧ i < a + k
    · rw [sin H _ i e]; exact h.zv i hi (hf.2 i e.1 e.2)
    · rw [sout H _ i e]; rw [hout i e] at hne; exact h.vh i hi hne
  · by_cases e : a ≤ i ∧ i < a + k
    · rw [hin i e] at hz; omega
    · rw [hout i e] at hz; exact h.zv i hi hz
  · by_cases e : a ≤ i ∧ i < a + k
    · refine ⟨a, hin i e, e.1, fun j h1 h2 => ?_⟩
      rw [hin i e, hin j ⟨h1, by omega⟩]
    · rw [hout i e] at hne
      obtain ⟨s, h1, h2, h3⟩ := h.st i hi hne
      refine ⟨s, by rw [hout i e]; exact h1, h2, fun j g1 g2 => ?_⟩
      have e2 : ¬ (a ≤ j ∧ j < a + k) := fun e2 => by
        have := hf.2 j e2.1 e2.2
        rw [h3 j g1 g2] at this
        exact hne this
      rw [hout i e, hout j e2]
      exact h3 j g1 g2
  · by_cases e : a ≤ i ∧ i < a + k
    · rw [sin I _ i e]; omega
    · rw [sout I _ i e]; have := h.mx i hi; omega

theorem Rel.free {n : Nat} {B V I H : Nat → Int} {md : Int} (h : Rel n B V I H md) {k z : Nat} (hk : k < n) (hb : B k = (k : Int) + 1) (hz1 : k < z)
    (hall : ∀ i, k ≤ i → i < z → B i = (k : Int) + 1) (hstop : z = n ∨ B z ≠ (k : Int) + 1) : Rel n (clearTo B k z) (clearTo V k z) (clearEq I (I k) n) H md := by
  have hik : I k ≠ 0 := fun hz => by have := (h.zz k hk).2 hz; omega
  have key : ∀ i, i < n → ((k ≤ i ∧ i < z) ↔ B i = (k : Int) + 1) := fun i hi => by
    constructor
    · intro e; exact hall i e.1 e.2
    · intro e
      obtain ⟨s, g1, g2, g3⟩ := h.st i hi (by omega)
      have hs : s = k := by omega
      subst hs
      refine ⟨g2, ?_⟩
      by_cases hiz : i < z
      · exact hiz
      · exfalso
        rcases hstop with h1 | h1
        · omega
        · have := g3 z (by omega) (by omega); rw [e] at this; exact h1 this
  have key2 : ∀ i, i < n → (I i = I k ↔ B i = (k : Int) + 1) := fun i hi => by
    have := h.eqv k i hk hi hik
    rw [hb] at this
    constructor
    · intro e; exact (this.1 e.symm).symm
    · intro e; exact (this.2 e.symm).symm
  have bin : ∀ i, i < n → B i = (k : Int) + 1 → (∀ f : Nat → Int, clearTo f k z i = 0) ∧ clearEq I (I k) n i = 0 := fun i hi e => by
    refine ⟨fun f => ?_, ?_⟩
    · unfold clearTo; rw [if_pos ((key i hi).2 e)]
    · unfold clearEq; rw [if_pos ⟨hi, (key2 i hi).2 e⟩]
  have bout : ∀ i, i < n → B i ≠ (k : Int) + 1 → (∀ f : Nat → Int, clearTo f k z i = f i) ∧ clearEq I (I k) n i = I i := fun i hi e => by
    refine ⟨fun f => ?_, ?_⟩
    · unfold clearTo; rw [if_neg (fun g => e ((key i hi).1 g))]
    · unfold clearEq; rw [if_neg (fun g => e ((key2 i hi).1 g.2))]
  refine ⟨fun i hi => ?_, fun i j hi hj hne => ?_, fun i hi hne => ?_, fun i hi hz => ?_, fun i hi hne => ?_, fun i hi => ?_, h.md0⟩
  · by_cases e : B i = (k : Int) + 1
    · rw [(bin i hi e).1 B, (bin i hi e).2]
    · rw [(bout i hi e).1 B, (bout i hi e).2]; exact h.zz i hi
  · by_cases e : B i = (k : Int) + 1
    · rw [(bin i hi e).2] at hne; exact absurd rfl hne
    · rw [(bout i hi e).2] at hne
      rw [(bout i hi e).1 B, (bout i hi e).2]
      by_cases e2 : B j = (k : Int) + 1
      · rw [(bin j hj e2).1 B, (bin j hj e2).2]
        exact (h.zz i hi).symm
      · rw [(bout j hj e2).1 B, (bout j hj e2).2]
        exact h.eqv i j hi hj hne
  · by_cases e : B i = (k : Int) + 1
    · rw [(bin i hi e).1 B] at hne; exact absurd rfl hne
    · rw [(bout i hi e).1 B] at hne; rw [(bout i hi e).1 V]; exact h.vh i hi hne
  · by_cases e : B i = (k : Int) + 1
    · exact (bin i hi e).1 V
    · rw [(bout i hi e).1 B] at hz; rw [(bout i hi e).1 V]; exact h.zv i hi hz
  · by_cases e : B i = (k : Int) + 1
    · rw [(bin i hi e).1 B] at hne; exact absurd rfl hne
    · rw [(bout i hi e).1 B] at hne
      obtain ⟨s, g1, g2, g3⟩ := h.st i hi hne
      refine ⟨s, by rw [(bout i hi e).1 B]; exact g1, g2, fun j q1 q2 => ?_⟩
      have hj := g3 j q1 q2
      rw [(bout i hi e).1 B, (bout j (by omega) (by rw [hj]; exact e)).1 B]
      exact hj
  · by_cases e : B i = (k : Int) + 1
    · rw [(bin i hi e).2]; exact h.md0
    · rw [(bout i hi e).2]; exact h.mx i hi

theorem Rel.store {n : Nat} {B V I H : Nat → Int} {md : Int} (h : Rel n B V I H md) {k : Nat} (hb : B k ≠ 0) (u : Int) : Rel n B (upd V k u) I (upd H k u) md :=
  ⟨h.zz, h.eqv, fun i hi hne => by
    by_cases e : i = k
    · subst e; rw [upd_at, upd_at]
    · rw [upd_ne _ _ e, upd_ne _ _ e]; exact h.vh i hi hne, fun i hi hz => by
    rw [upd_ne _ _ (fun e => by subst e; exact hb hz)]; exact h.zv i hi hz, h.st, h.mx, h.md0⟩

end Go.Proofs.Ythcjcjfgdgnljaa

namespace Go.Proofs.Ythcjcjfgdgnljaa
open Go.RowKit
set_option linter.unusedVariables false

/-- A heap of the program, in memory: the pointer's block p, the words' block r, n words, of each its block's mark and its value. -/
structure HeapM (w : World) (p r n : Nat) (B V : Nat → Int) : Prop where
  lo : 1 ≤ n
  hi : n ≤ 4096
  ne : p ≠ r
  ptr : w.cell? ⟨p, 30, none⟩ = some (.slice (some ⟨r, 0, none⟩) n n)
  blk : ∀ i, i < n → w.cell? ⟨r, i * 2, none⟩ = some (.int .i64 (B i))
  val : ∀ i, i < n → w.cell? ⟨r, i * 2 + 1, none⟩ = some (.int .i64 (V i))
  frz : ∀ o, w.frozen? ⟨r, o, none⟩ = false
  b0 : ∀ i, i < n → 0 ≤ B i
  b1 : ∀ i, i < n → B i ≤ i + 1
theorem HeapM.pl {w : World} {p r n : Nat} {B V : Nat → Int} (h : HeapM w p r n B V) : p < w.heap.size := World.block_lt_of_cell? w _ h.ptr
theorem HeapM.rl {w : World} {p r n : Nat} {B V : Nat → Int} (h : HeapM w p r n B V) : r < w.heap.size := World.block_lt_of_cell? w _ (h.blk 0 (by have := h.lo; omega))
theorem HeapM.fr {S : Nat → Prop} {w w' : World} {p r n : Nat} {B V : Nat → Int} (h : HeapM w p r n B V) (hf : Fr S w w') (hp : ¬ S p) (hr : ¬ S r) : HeapM w' p r n B V :=
  ⟨h.lo, h.hi, h.ne, hf.cell_some h.ptr hp, fun i hi => hf.cell_some (h.blk i hi) hr, fun i hi => hf.cell_some (h.val i hi) hr,
    fun o => (hf.frozen (p := ⟨r, o, none⟩) h.rl hr).trans (h.frz o), h.b0, h.b1⟩
theorem HeapM.no {w w' : World} {p r n : Nat} {B V : Nat → Int} (h : HeapM w p r n B V) (hf : Fr NoB w w') : HeapM w' p r n B V := h.fr hf id id
theorem HeapM.congr {w : World} {p r n : Nat} {B V B' V' : Nat → Int} (h : HeapM w p r n B V) (hb : ∀ i, i < n → B' i = B i) (hv : ∀ i, i < n → V' i = V i) : HeapM w p r n B' V' :=
  ⟨h.lo, h.hi, h.ne, h.ptr, fun i hi => by rw [hb i hi]; exact h.blk i hi, fun i hi => by rw [hv i hi]; exact h.val i hi, h.frz,
    fun i hi => by rw [hb i hi]; exact h.b0 i hi, fun i hi => by rw [hb i hi]; exact h.b1 i hi⟩
theorem HeapM.setVal {w : World} {p r n : Nat} {B V : Nat → Int} (h : HeapM w p r n B V) {k : Nat} (hk : k < n) (u : Int) : HeapM (w.setCell ⟨r, k * 2 + 1, none⟩ (.int .i64 u)) p r n B (upd V k u) :=
  ⟨h.lo, h.hi, h.ne, (cell_other (.inl (Ne.symm h.ne))).trans h.ptr, fun i hi => (cell_other (.inr (by omega))).trans (h.blk i hi),
    fun i hi => by
      by_cases e : i = k
      · subst e; rw [upd_at]; exact cell_same (h.val i hi)
      · rw [upd_ne _ _ e]; exact (cell_other (.inr (by omega))).trans (h.val i hi),
    fun o => by rw [World.frozen?_setCell]; exact h.frz o, h.b0, h.b1⟩
theorem HeapM.setBlk {w : World} {p r n : Nat} {B V : Nat → Int} (h : HeapM w p r n B V) {k : Nat} (hk : k < n) (u : Int) (h0 : 0 ≤ u) (h1 : u ≤ k + 1) : HeapM (w.setCell ⟨r, k * 2, none⟩ (.int .i64 u)) p r n (upd B k u) V :=
  ⟨h.lo, h.hi, h.ne, (cell_other (.inl (Ne.symm h.ne))).trans h.ptr,
    fun i hi => by
      by_cases e : i = k
      · subst e; rw [upd_at]; exact cell_same (h.blk i hi)
      · rw [upd_ne _ _ e]; exact (cell_other (.inr (by omega))).trans (h.blk i hi),
    fun i hi => (cell_other (.inr (by omega))).trans (h.val i hi),
    fun o => by rw [World.frozen?_setCell]; exact h.frz o,
    fun i hi => by
      by_cases e : i = k
      · subst e; rw [upd_at]; exact h0
      · rw [upd_ne _ _ e]; exact h.b0 i hi,
    fun i hi => by
      by_cases e : i = k
      · subst e; rw [upd_at]; exact h1
      · rw [upd_ne _ _ e]; exact h.b1 i hi⟩
end Go.Proofs.Ythcjcjfgdgnljaa

namespace Go.Proofs.Ythcjcjfgdgnljaa
open Go.RowKit
set_option linter.unusedVariables false

def toI (l : List Nat) : List Int := l.map (fun n : Nat => (n : Int))
def trB (l : List Nat) : ByteArray := ⟨(l.map UInt8.ofNat).toArray⟩
def rnOf (σ : St) (wv : Nat → Value) (a l : Nat → Int) : Rn := ⟨fun k => (σ.num k : Int), wv, .pointer none, a, l, (σ.left : Int), (σ.status : Int), trB σ.tr, 0, 0⟩
/-- values are values, blocks are blocks -/
structure NumOk (σ : St) : Prop where
  num : ∀ k, σ.num k < 1000
  wd : ∀ k v, v ∈ σ.bx k → v < 1000
  sz : ∀ k, (σ.bx k).length ≤ 64
theorem upN_lt {f : Nat → Nat} {k v : Nat} (h : ∀ i, f i < 1000) (hv : v < 1000) : ∀ i, upN f k v i < 1000 := fun i => by
  unfold upN
  split
  · exact hv
  · exact h i
theorem upB_all {f : Nat → List Nat} {k : Nat} {l : List Nat} {p : List Nat → Prop} (h : ∀ i, p (f i)) (hl : p l) : ∀ i, p (upB f k l i) := fun i => by
  unfold upB
  split
  · exact hl
  · exact h i
theorem NumOk.set {σ : St} (h : NumOk σ) {k v : Nat} (hv : v < 1000) : NumOk { σ with num := upN σ.num k v } := ⟨upN_lt h.num hv, h.wd, h.sz⟩
theorem NumOk.box {σ : St} (h : NumOk σ) {k : Nat} {l : List Nat} (hl : ∀ v, v ∈ l → v < 1000) (hs : l.length ≤ 64) : NumOk { σ with bx := upB σ.bx k l } :=
  ⟨h.num, fun i => upB_all (p := fun l => ∀ v, v ∈ l → v < 1000) h.wd hl i, fun i => upB_all (p := fun l => l.length ≤ 64) h.sz hs i⟩
theorem NumOk.like {σ τ : St} (h : NumOk σ) (h1 : τ.num = σ.num) (h2 : τ.bx = σ.bx) : NumOk τ := ⟨by rw [h1]; exact h.num, by rw [h2]; exact h.wd, by rw [h2]; exact h.sz⟩
/-- the plain run, as the document's Play has it in memory -/
def PlayR (w : World) (rp base : Nat) (s : ByteArray) (σ : St) : Prop := NumOk σ ∧ ∃ blk wv a l, PlayAt w rp base s (rnOf σ wv a l) (fun k => toI (σ.bx k)) blk
theorem updI_cast (f : Nat → Nat) (k v : Nat) : updI (fun k => (f k : Int)) k (v : Int) = fun i => (upN f k v i : Int) := by
  funext i
  unfold updI upN
  split <;> rfl
theorem PlayR.no {w w' : World} {rp base : Nat} {s : ByteArray} {σ : St} (h : PlayR w rp base s σ) (hF : Fr NoB w w') : PlayR w' rp base s σ := by
  obtain ⟨h1, blk, wv, a, l, h2⟩ := h
  exact ⟨h1, blk, wv, a, l, h2.no hF⟩
end Go.Proofs.Ythcjcjfgdgnljaa

namespace Go.Proofs.Ythcjcjfgdgnljaa
open Go.RowKit
set_option linter.unusedVariables false

/-- the parts from k up to l are the sentences of a tree; C: the parts that close their braces -/
def Prt (p : Nat → Pt) (C : Nat → Nat) : Pg → Nat → Nat → Prop
  | .nil, k, l => k = l
  | .act a r, k, l => (p k).kind < 8 ∧ acP (p k) = a ∧ Prt p C r (k + 1) l
  | .ite o P1 P2 r, k, l => ∃ ka kb, (p k).kind = 8 ∧ (p k).o1 = o ∧ C k = ka ∧ Prt p C P1 (k + 1) ka ∧ (p ka).kind = 9 ∧ C ka = kb ∧ Prt p C P2 (ka + 1) kb ∧ (p kb).kind = 10 ∧ Prt p C r (kb + 1) l
  | .loop o P1 r, k, l => ∃ ka, (p k).kind = 11 ∧ (p k).o1 = o ∧ C k = ka ∧ Prt p C P1 (k + 1) ka ∧ (p ka).kind = 12 ∧ (p ka).opn = k ∧ Prt p C r (ka + 1) l
theorem Prt.le {p : Nat → Pt} {C : Nat → Nat} : ∀ {P : Pg} {k l : Nat}, Prt p C P k l → k ≤ l
  | .nil, _, _, h => Nat.le_of_eq h
  | .act a r, _, _, h => Nat.le_trans (Nat.le_succ _) (Prt.le h.2.2)
  | .ite o P1 P2 r, _, _, h => by
    obtain ⟨ka, kb, _, _, _, h1, _, _, h2, _, h3⟩ := h
    have := Prt.le h1
    have := Prt.le h2
    have := Prt.le h3
    omega
  | .loop o P1 r, _, _, h => by
    obtain ⟨ka, _, _, _, h1, _, _, h3⟩ := h
    have := Prt.le h1
    have := Prt.le h3
    omega
/-- one part is done: the part that comes next, the run, and is it over? -/
def dstep (c : Cf) (p : Nat → Pt) (C : Nat → Nat) (nx : Nat) (σ : St) : Nat × St × Bool :=
  if (p nx).kind < 8 then (nx + 1, (stp c (acP (p nx)) σ).1, !(stp c (acP (p nx)) σ).2)
  else if (p nx).kind = 8 ∨ (p nx).kind = 11 then (if σ.left = 0 then (nx + 1, tire σ, true) else if valO σ.num (p nx).o1 = 0 then (C nx + 1, due σ, false) else (nx + 1, due σ, false))
  else if (p nx).kind = 9 then (C nx, σ, false)
  else if (p nx).kind = 12 then ((p nx).opn, σ, false)
  else (nx + 1, σ, false)
/-- with m parts more the run is over, and so it ends -/
inductive RunsIn (c : Cf) (p : Nat → Pt) (C : Nat → Nat) (np : Nat) : Nat → Nat × St × Bool → St → Prop where
  | over {nx : Nat} {σ : St} : RunsIn c p C np 0 (nx, σ, true) σ
  | fin {nx : Nat} {σ : St} (h : np ≤ nx) : RunsIn c p C np 0 (nx, σ, false) σ
  | step {m nx : Nat} {σ σf : St} (h : nx < np) (hr : RunsIn c p C np m (dstep c p C nx σ) σf) : RunsIn c p C np (m + 1) (nx, σ, false) σf
theorem Ex.runs {c : Cf} {p : Nat → Pt} {C : Nat → Nat} {np : Nat} {P : Pg} {σ σ' : St} {b : Bool} (h : Ex c P σ σ' b) : ∀ {k l : Nat}, l ≤ np → Prt p C P k l →
    (b = true → ∀ m σf, RunsIn c p C np m (l, σ', false) σf → ∃ m', RunsIn c p C np m' (k, σ, false) σf) ∧ (b = false → ∃ m', RunsIn c p C np m' (k, σ, false) σ') := by
  induction h with
  | nil σ =>
    intro k l hl hP
    have e : k = l := hP
    subst e
    exact ⟨fun _ m σf hr => ⟨m, hr⟩, fun q => absurd q (by simp)⟩
  | @stop a r σ σ' h =>
    intro k l hl hP
    obtain ⟨h1, h2, h3⟩ := hP
    have := h3.le
    refine ⟨fun q => absurd q (by simp), fun _ => ⟨1, .step (by omega) ?_⟩⟩
    have e : dstep c p C k σ = (k + 1, σ', true) := by unfold dstep; rw [if_pos h1, h2, h]; rfl
    rw [e]
    exact .over
  | @go a r σ σ1 σ2 b h hr ih =>
    intro k l hl hP
    obtain ⟨h1, h2, h3⟩ := hP
    have hle := h3.le
    have e : dstep c p C k σ = (k + 1, σ1, false) := by unfold dstep; rw [if_pos h1, h2, h]; rfl
    have lift : ∀ {σf}, (∃ m', RunsIn c p C np m' (k + 1, σ1, false) σf) → ∃ m', RunsIn c p C np m' (k, σ, false) σf := fun {σf} ⟨m', q⟩ => ⟨m' + 1, .step (by omega) (by rw [e]; exact q)⟩
    exact ⟨fun q m σf hr2 => lift ((ih hl h3).1 q m σf hr2), fun q => lift ((ih hl h3).2 q)⟩
  | @iteTired o P1 P2 r σ h =>
    intro k l hl hP
    obtain ⟨ka, kb, a1, a2, a3, a4, a5, a6, a7, a8, a9⟩ := hP
    have := a4.le; have := a7.le; have := a9.le
    refine ⟨fun q => absurd q (by simp), fun _ => ⟨1, .step (by omega) ?_⟩⟩
    have e : dstep c p C k σ = (k + 1, tire σ, true) := by unfold dstep; rw [if_neg (by omega), if_pos (.inl a1), if_pos h]
    rw [e]
    exact .over
  | @iteStop o P1 P2 r σ σ1 h hp ih =>
    intro k l hl hP
    obtain ⟨ka, kb, a1, a2, a3, a4, a5, a6, a7, a8, a9⟩ := hP
    have := a4.le; have := a7.le; have := a9.le
    refine ⟨fun q => absurd q (by simp), fun _ => ?_⟩
    by_cases hv : valO σ.num o = 0
    · have e : dstep c p C k σ = (ka + 1, due σ, false) := by unfold dstep; rw [if_neg (by omega), if_pos (.inl a1), if_neg h, a2, if_pos hv, a3]
      rw [if_neg (by omega)] at ih
      obtain ⟨m', q⟩ := (ih (l := kb) (by omega) a7).2 rfl
      exact ⟨m' + 1, .step (by omega) (by rw [e]; exact q)⟩
    · have e : dstep c p C k σ = (k + 1, due σ, false) := by unfold dstep; rw [if_neg (by omega), if_pos (.inl a1), if_neg h, a2, if_neg hv]
      rw [if_pos hv] at ih
      obtain ⟨m', q⟩ := (ih (l := ka) (by omega) a4).2 rfl
      exact ⟨m' + 1, .step (by omega) (by rw [e]; exact q)⟩
  | @iteGo o P1 P2 r σ σ1 σ2 b h hp hr ih1 ih2 =>
    intro k l hl hP
    obtain ⟨ka, kb, a1, a2, a3, a4, a5, a6, a7, a8, a9⟩ := hP
    have l1 := a4.le; have l2 := a7.le; have l3 := a9.le
    have atKb : ∀ {σf}, (∃ m', RunsIn c p C np m' (kb + 1, σ1, false) σf) → ∃ m', RunsIn c p C np m' (kb, σ1, false) σf := fun {σf} ⟨m', q⟩ => ⟨m' + 1, .step (by omega) (by
      have e : dstep c p C kb σ1 = (kb + 1, σ1, false) := by unfold dstep; rw [if_neg (by omega), if_neg (by omega), if_neg (by omega), if_neg (by omega)]
      rw [e]; exact q)⟩
    have lift : ∀ {σf}, (∃ m', RunsIn c p C np m' (kb + 1, σ1, false) σf) → ∃ m', RunsIn c p C np m' (k, σ, false) σf := fun {σf} hx => by
      obtain ⟨m1, q1⟩ := atKb hx
      by_cases hv : valO σ.num o = 0
      · have e : dstep c p C k σ = (ka + 1, due σ, false) := by unfold dstep; rw [if_neg (by omega), if_pos (.inl a1), if_neg h, a2, if_pos hv, a3]
        rw [if_neg (by omega)] at ih1
        obtain ⟨m', q⟩ := (ih1 (l := kb) (by omega) a7).1 rfl m1 σf q1
        exact ⟨m' + 1, .step (by omega) (by rw [e]; exact q)⟩
      · have e : dstep c p C k σ = (k + 1, due σ, false) := by unfold dstep; rw [if_neg (by omega), if_pos (.inl a1), if_neg h, a2, if_neg hv]
        rw [if_pos hv] at ih1
        have e2 : dstep c p C ka σ1 = (kb, σ1, false) := by unfold dstep; rw [if_neg (by omega), if_neg (by omega), if_pos a5, a6]
        obtain ⟨m', q⟩ := (ih1 (l := ka) (by omega) a4).1 rfl (m1 + 1) σf (.step (by omega) (by rw [e2]; exact q1))
        exact ⟨m' + 1, .step (by omega) (by rw [e]; exact q)⟩
    exact ⟨fun q m σf hr2 => lift ((ih2 hl a9).1 q m σf hr2), fun q => lift ((ih2 hl a9).2 q)⟩
  | @loopTired o P1 r σ h =>
    intro k l hl hP
    obtain ⟨ka, a1, a2, a3, a4, a5, a6, a7⟩ := hP
    have := a4.le; have := a7.le
    refine ⟨fun q => absurd q (by simp), fun _ => ⟨1, .step (by omega) ?_⟩⟩
    have e : dstep c p C k σ = (k + 1, tire σ, true) := by unfold dstep; rw [if_neg (by omega), if_pos (.inr a1), if_pos h]
    rw [e]
    exact .over
  | @loopEnd o P1 r σ σ2 b h h0 hr ih =>
    intro k l hl hP
    obtain ⟨ka, a1, a2, a3, a4, a5, a6, a7⟩ := hP
    have := a4.le; have := a7.le
    have e : dstep c p C k σ = (ka + 1, due σ, false) := by unfold dstep; rw [if_neg (by omega), if_pos (.inr a1), if_neg h, a2, if_pos h0, a3]
    have lift : ∀ {σf}, (∃ m', RunsIn c p C np m' (ka + 1, due σ, false) σf) → ∃ m', RunsIn c p C np m' (k, σ, false) σf := fun {σf} ⟨m', q⟩ => ⟨m' + 1, .step (by omega) (by rw [e]; exact q)⟩
    exact ⟨fun q m σf hr2 => lift ((ih hl a7).1 q m σf hr2), fun q => lift ((ih hl a7).2 q)⟩
  | @loopStop o P1 r σ σ1 h h0 hp ih =>
    intro k l hl hP
    obtain ⟨ka, a1, a2, a3, a4, a5, a6, a7⟩ := hP
    have := a4.le; have := a7.le
    have e : dstep c p C k σ = (k + 1, due σ, false) := by unfold dstep; rw [if_neg (by omega), if_pos (.inr a1), if_neg h, a2, if_neg h0]
    refine ⟨fun q => absurd q (by simp), fun _ => ?_⟩
    obtain ⟨m', q⟩ := (ih (l := ka) (by omega) a4).2 rfl
    exact ⟨m' + 1, .step (by omega) (by rw [e]; exact q)⟩
  | @loopGo o P1 r σ σ1 σ2 b h h0 hp hr ih1 ih2 =>
    intro k l hl hP
    have hP' := hP
    obtain ⟨ka, a1, a2, a3, a4, a5, a6, a7⟩ := hP
    have := a4.le; have := a7.le
    have e : dstep c p C k σ = (k + 1, due σ, false) := by unfold dstep; rw [if_neg (by omega), if_pos (.inr a1), if_neg h, a2, if_neg h0]
    have e2 : dstep c p C ka σ1 = (k, σ1, false) := by unfold dstep; rw [if_neg (by omega), if_neg (by omega), if_neg (by omega), if_pos a5, a6]
    have lift : ∀ {σf}, (∃ m', RunsIn c p C np m' (k, σ1, false) σf) → ∃ m', RunsIn c p C np m' (k, σ, false) σf := fun {σf} ⟨m1, q1⟩ => by
      obtain ⟨m', q⟩ := (ih1 (l := ka) (by omega) a4).1 rfl (m1 + 1) σf (.step (by omega) (by rw [e2]; exact q1))
      exact ⟨m' + 1, .step (by omega) (by rw [e]; exact q)⟩
    exact ⟨fun q m σf hr2 => lift ((ih2 hl hP').1 q m σf hr2), fun q => lift ((ih2 hl hP').2 q)⟩
end Go.Proofs.Ythcjcjfgdgnljaa

namespace Go.Proofs.Ythcjcjfgdgnljaa
open Go.RowKit
set_option linter.unusedVariables false

structure Mx where
  nx : Nat
  left : Nat
  num : Nat → Nat
  at_ : Nat → Nat
  len : Nat → Nat
  peak : Nat
  tv : Value
  ov : Bool
  status : Nat
structure MacAt (w : World) (mp : Nat) (pv : Value) (st : Bool) (x : Mx) : Prop where
  cp : w.cell? ⟨mp, 0, none⟩ = some (pv)
  cx : w.cell? ⟨mp, 1, none⟩ = some (.int .i64 (x.nx : Int))
  cs : w.cell? ⟨mp, 2, none⟩ = some (.bool st)
  cf : w.cell? ⟨mp, 3, none⟩ = some (.int .i64 (x.left : Int))
  cn : ∀ k, k < 26 → w.cell? ⟨mp, 4 + k, none⟩ = some (.int .i64 (x.num k : Int))
  ca : ∀ k, k < 26 → w.cell? ⟨mp, 31 + k * 2, none⟩ = some (.int .i64 (x.at_ k : Int))
  cl : ∀ k, k < 26 → w.cell? ⟨mp, 31 + k * 2 + 1, none⟩ = some (.int .i64 (x.len k : Int))
  ck : w.cell? ⟨mp, 83, none⟩ = some (.int .i64 (x.peak : Int))
  ct : w.cell? ⟨mp, 84, none⟩ = some (x.tv)
  co : w.cell? ⟨mp, 85, none⟩ = some (.bool x.ov)
  cu : w.cell? ⟨mp, 86, none⟩ = some (.int .i64 (x.status : Int))
  fz : ∀ o, w.frozen? ⟨mp, o, none⟩ = false
theorem MacAt.lt {w : World} {mp : Nat} {pv : Value} {st : Bool} {x : Mx} (h : MacAt w mp pv st x) : mp < w.heap.size := World.block_lt_of_cell? w _ h.cp
theorem MacAt.fr {S : Nat → Prop} {w w' : World} {mp : Nat} {pv : Value} {st : Bool} {x : Mx} (h : MacAt w mp pv st x) (hF : Fr S w w') (hS : ¬ S mp) : MacAt w' mp pv st x :=
  ⟨hF.cell_some h.cp hS, hF.cell_some h.cx hS, hF.cell_some h.cs hS, hF.cell_some h.cf hS, fun k hk => hF.cell_some (h.cn k hk) hS, fun k hk => hF.cell_some (h.ca k hk) hS, fun k hk => hF.cell_some (h.cl k hk) hS, hF.cell_some h.ck hS, hF.cell_some h.ct hS, hF.cell_some h.co hS, hF.cell_some h.cu hS, fun o => (hF.frozen (p := ⟨mp, o, none⟩) h.lt hS).trans (h.fz o)⟩
theorem MacAt.no {w w' : World} {mp : Nat} {pv : Value} {st : Bool} {x : Mx} (h : MacAt w mp pv st x) (hF : Fr NoB w w') : MacAt w' mp pv st x := h.fr hF id
/-- the heap's marks and values are those of the boxes' blocks -/
structure HB (n : Nat) (B V : Nat → Int) (σ : St) : Prop where
  on : ∀ k, k < 26 → ∀ i, i < (σ.bx k).length → B (σ.at_ k + i) = (σ.at_ k : Int) + 1 ∧ V (σ.at_ k + i) = (((σ.bx k).getD i 0 : Nat) : Int)
  off : ∀ i, i < n → (∀ k, k < 26 → σ.bx k ≠ [] → i < σ.at_ k ∨ σ.at_ k + (σ.bx k).length ≤ i) → B i = 0 ∧ V i = 0
theorem HB.like {n : Nat} {B V : Nat → Int} {σ τ : St} (h : HB n B V σ) (h1 : τ.bx = σ.bx) (h2 : τ.at_ = σ.at_) : HB n B V τ := ⟨by rw [h1, h2]; exact h.on, by rw [h1, h2]; exact h.off⟩
theorem HB.congr {n : Nat} {B V B' V' : Nat → Int} {σ : St} (h : HB n B V σ) (ha : Ap n σ) (hb : ∀ i, i < n → B' i = B i) (hv : ∀ i, i < n → V' i = V i) : HB n B' V' σ :=
  ⟨fun k hk i hi => by
    have := ha.inn k hk (fun e => by rw [e] at hi; simp at hi)
    rw [hb _ (by omega), hv _ (by omega)]
    exact h.on k hk i hi, fun i hi q => by rw [hb i hi, hv i hi]; exact h.off i hi q⟩
theorem HB.free {n : Nat} {B V : Nat → Int} {σ : St} (h : HB n B V σ) (ha : Ap n σ) {k a : Nat} (hk : 1 ≤ k) : FreeAt B n k a ↔ FreeS n σ k a := by
  refine ⟨fun ⟨h1, h2⟩ => ⟨h1, fun b hb hbx => ?_⟩, fun ⟨h1, h2⟩ => ⟨h1, fun i q1 q2 => (h.off i (by omega) (fun b hb hbx => by have := h2 b hb hbx; omega)).1⟩⟩
  have hl : 0 < (σ.bx b).length := List.length_pos_iff.2 hbx
  by_cases q : a + k ≤ σ.at_ b ∨ σ.at_ b + (σ.bx b).length ≤ a
  · exact q
  · exfalso
    by_cases e : a ≤ σ.at_ b
    · have h3 := (h.on b hb 0 hl).1
      rw [Nat.add_zero] at h3
      have h4 := h2 (σ.at_ b) e (by omega)
      omega
    · have h3 := (h.on b hb (a - σ.at_ b) (by omega)).1
      rw [show σ.at_ b + (a - σ.at_ b) = a by omega] at h3
      have h4 := h2 a (Nat.le_refl _) (by omega)
      omega
/-- a block is made in a box that was emptied -/
theorem HB.make {n : Nat} {B V : Nat → Int} {σ : St} {b k a p : Nat} (h : HB n B V { σ with bx := upB σ.bx b [] }) (hb : b < 26) (hf : FreeS n { σ with bx := upB σ.bx b [] } k a) (hk : 1 ≤ k) : HB n (markTo B a (a + k)) V { σ with bx := upB σ.bx b (List.replicate k 0), at_ := upN σ.at_ b a, peak := p } := by
  have hoff : ∀ i, i ≠ b → upB σ.bx b (List.replicate k 0) i = upB σ.bx b [] i := fun i e => by rw [upB_ne _ _ e, upB_ne _ _ e]
  have hz : ∀ i, a ≤ i → i < a + k → B i = 0 ∧ V i = 0 := fun i q1 q2 => h.off i (by have := hf.1; omega) (fun c hc hcx => by have := hf.2 c hc hcx; omega)
  refine ⟨fun c hc i hi => ?_, fun i hi q => ?_⟩
  · show markTo B a (a + k) (upN σ.at_ b a c + i) = (upN σ.at_ b a c : Int) + 1 ∧ V (upN σ.at_ b a c + i) = (((upB σ.bx b (List.replicate k 0) c).getD i 0 : Nat) : Int)
    have hi' : i < (upB σ.bx b (List.replicate k 0) c).length := hi
    by_cases e : c = b
    · subst e
      rw [upB_at] at hi' ⊢
      rw [upN_at]
      rw [List.length_replicate] at hi'
      refine ⟨?_, ?_⟩
      · unfold markTo; rw [if_pos (by omega)]
      · rw [(hz (a + i) (by omega) (by omega)).2, List.getD_eq_getElem?_getD, List.getElem?_replicate, if_pos hi']; rfl
    · rw [hoff c e] at hi' ⊢
      rw [upN_ne _ _ e]
      have h1 := h.on c hc i hi'
      have hcx : upB σ.bx b [] c ≠ [] := fun q => by rw [q] at hi'; simp at hi'
      have h2 := hf.2 c hc hcx
      have h1' : B (σ.at_ c + i) = (σ.at_ c : Int) + 1 ∧ V (σ.at_ c + i) = (((upB σ.bx b [] c).getD i 0 : Nat) : Int) := h1
      have h2' : a + k ≤ σ.at_ c ∨ σ.at_ c + (upB σ.bx b [] c).length ≤ a := h2
      refine ⟨?_, h1'.2⟩
      unfold markTo
      rw [if_neg (by omega)]
      exact h1'.1
  · have hq : ∀ c, c < 26 → upB σ.bx b (List.replicate k 0) c ≠ [] → i < upN σ.at_ b a c ∨ upN σ.at_ b a c + (upB σ.bx b (List.replicate k 0) c).length ≤ i := q
    have hne : ¬ (a ≤ i ∧ i < a + k) := fun r => by
      have := hq b hb (by rw [upB_at]; intro e; have := congrArg List.length e; simp at this; omega)
      rw [upN_at, upB_at, List.length_replicate] at this
      omega
    unfold markTo
    rw [if_neg hne]
    refine h.off i hi (fun c hc hcx => ?_)
    have hcx' : upB σ.bx b [] c ≠ [] := hcx
    show i < σ.at_ c ∨ σ.at_ c + (upB σ.bx b [] c).length ≤ i
    by_cases e : c = b
    · subst e; rw [upB_at] at hcx'; exact absurd rfl hcx'
    · have := hq c hc (by rw [hoff c e]; exact hcx')
      rwa [upN_ne _ _ e, hoff c e] at this
/-- how far a block goes -/
theorem HB.stop {n : Nat} {B V : Nat → Int} {σ : St} (h : HB n B V σ) (ha : Ap n σ) {b z : Nat} (hb : b < 26) (hbx : σ.bx b ≠ []) (hz : σ.at_ b < z) (hzn : z ≤ n) (h1 : ∀ i, σ.at_ b ≤ i → i < z → B i = (σ.at_ b : Int) + 1) (h2 : z = n ∨ B z ≠ (σ.at_ b : Int) + 1) : z = σ.at_ b + (σ.bx b).length := by
  have hl : 0 < (σ.bx b).length := List.length_pos_iff.2 hbx
  have hin := ha.inn b hb hbx
  rcases Nat.lt_trichotomy z (σ.at_ b + (σ.bx b).length) with q | q | q
  · rcases h2 with h2 | h2
    · omega
    · have := (h.on b hb (z - σ.at_ b) (by omega)).1
      rw [show σ.at_ b + (z - σ.at_ b) = z by omega] at this
      exact absurd this h2
  · exact q
  · exfalso
    have h3 := h1 (σ.at_ b + (σ.bx b).length) (by omega) q
    -- the word behind the block is free, or of another block
    by_cases hx : ∀ k, k < 26 → σ.bx k ≠ [] → σ.at_ b + (σ.bx b).length < σ.at_ k ∨ σ.at_ k + (σ.bx k).length ≤ σ.at_ b + (σ.bx b).length
    · have := (h.off _ (by omega) hx).1
      omega
    · have : ∃ k, k < 26 ∧ σ.bx k ≠ [] ∧ ¬ (σ.at_ b + (σ.bx b).length < σ.at_ k ∨ σ.at_ k + (σ.bx k).length ≤ σ.at_ b + (σ.bx b).length) := by
        refine Classical.byContradiction fun hn => hx fun k hk hkx => Classical.byContradiction fun hq => hn ⟨k, hk, hkx, hq⟩
      obtain ⟨k, hk, hkx, hq⟩ := this
      have h4 := (h.on k hk (σ.at_ b + (σ.bx b).length - σ.at_ k) (by omega)).1
      rw [show σ.at_ k + (σ.at_ b + (σ.bx b).length - σ.at_ k) = σ.at_ b + (σ.bx b).length by omega] at h4
      have hkb : k ≠ b := fun e => by subst e; omega
      have h5 := ha.ap k b hk hb hkb hkx hbx
      omega
theorem HB.move {n : Nat} {B V : Nat → Int} {σ : St} {b d : Nat} (h : HB n B V σ) (hb : b < 26) (hd : d < 26) (hne : b ≠ d) (he : σ.bx b = []) : HB n B V { σ with bx := upB (upB σ.bx b (σ.bx d)) d [], at_ := upN σ.at_ b (σ.at_ d) } := by
  refine ⟨fun c hc i hi => ?_, fun i hi q => ?_⟩
  · have hi' : i < (upB (upB σ.bx b (σ.bx d)) d [] c).length := hi
    show B (upN σ.at_ b (σ.at_ d) c + i) = (upN σ.at_ b (σ.at_ d) c : Int) + 1 ∧ V (upN σ.at_ b (σ.at_ d) c + i) = (((upB (upB σ.bx b (σ.bx d)) d [] c).getD i 0 : Nat) : Int)
    have e : c ≠ d := fun e => by subst e; rw [upB_at] at hi'; simp at hi'
    rw [upB_ne _ _ e] at hi' ⊢
    by_cases e2 : c = b
    · subst e2
      rw [upB_at] at hi' ⊢
      rw [upN_at]
      exact h.on d hd i hi'
    · rw [upB_ne _ _ e2] at hi' ⊢
      rw [upN_ne _ _ e2]
      exact h.on c hc i hi'
  · have hq : ∀ c, c < 26 → upB (upB σ.bx b (σ.bx d)) d [] c ≠ [] → i < upN σ.at_ b (σ.at_ d) c ∨ upN σ.at_ b (σ.at_ d) c + (upB (upB σ.bx b (σ.bx d)) d [] c).length ≤ i := q
    refine h.off i hi (fun c hc hcx => ?_)
    by_cases e : c = d
    · subst e
      have := hq b hb (by rw [upB_ne _ _ hne, upB_at]; exact hcx)
      rwa [upN_at, upB_ne _ _ hne, upB_at] at this
    · have e2 : c ≠ b := fun q => by subst q; exact hcx he
      have := hq c hc (by rw [upB_ne _ _ e, upB_ne _ _ e2]; exact hcx)
      rwa [upN_ne _ _ e2, upB_ne _ _ e, upB_ne _ _ e2] at this
theorem HB.store {n : Nat} {B V : Nat → Int} {σ : St} {b q v : Nat} (h : HB n B V σ) (ha : Ap n σ) (hb : b < 26) (hq : q < (σ.bx b).length) : HB n B (upd V (σ.at_ b + q) (v : Int)) { σ with bx := upB σ.bx b ((σ.bx b).set q v) } := by
  have hbx : σ.bx b ≠ [] := fun e => by rw [e] at hq; simp at hq
  have hlen : ∀ c, (upB σ.bx b ((σ.bx b).set q v) c).length = (σ.bx c).length := fun c => by
    by_cases e : c = b
    · subst e; rw [upB_at]; simp
    · rw [upB_ne _ _ e]
  refine ⟨fun c hc i hi => ?_, fun i hi r => ?_⟩
  · have hi' : i < (upB σ.bx b ((σ.bx b).set q v) c).length := hi
    rw [hlen] at hi'
    have h1 := h.on c hc i hi'
    have hcx : σ.bx c ≠ [] := fun e => by rw [e] at hi'; simp at hi'
    show B (σ.at_ c + i) = (σ.at_ c : Int) + 1 ∧ upd V (σ.at_ b + q) (v : Int) (σ.at_ c + i) = (((upB σ.bx b ((σ.bx b).set q v) c).getD i 0 : Nat) : Int)
    refine ⟨h1.1, ?_⟩
    by_cases e : c = b
    · subst e
      rw [upB_at]
      by_cases e2 : i = q
      · subst e2
        rw [upd_at, List.getD_eq_getElem?_getD, List.getElem?_set_self hq]; rfl
      · rw [upd_ne _ _ (by omega), List.getD_eq_getElem?_getD, List.getElem?_set_ne (by omega), ← List.getD_eq_getElem?_getD]
        exact h1.2
    · have := ha.ap c b hc hb e hcx hbx
      rw [upB_ne _ _ e, upd_ne _ _ (by omega)]
      exact h1.2
  · have hr : ∀ c, c < 26 → upB σ.bx b ((σ.bx b).set q v) c ≠ [] → i < σ.at_ c ∨ σ.at_ c + (upB σ.bx b ((σ.bx b).set q v) c).length ≤ i := r
    have hr2 : ∀ c, c < 26 → σ.bx c ≠ [] → i < σ.at_ c ∨ σ.at_ c + (σ.bx c).length ≤ i := fun c hc hcx => by
      have := hr c hc (fun e => by have := congrArg List.length e; rw [hlen] at this; simp at this; exact hcx this)
      rwa [hlen] at this
    have h1 := h.off i hi hr2
    refine ⟨h1.1, ?_⟩
    have := hr2 b hb hbx
    rw [upd_ne _ _ (by omega)]
    exact h1.2
end Go.Proofs.Ythcjcjfgdgnljaa

namespace Go.Proofs.Ythcjcjfgdgnljaa
open Go.RowKit
set_option linter.unusedVariables false

theorem acOk_of {s : ByteArray} {i m : Nat} (h : Simple s i m) : AcOk (acN s i) := by
  have sm : ∀ {j : Nat}, smallN (bt s j) = true → bt s j - 97 < 26 := fun {j} h => by simp [smallN] at h; omega
  have gr : ∀ {j : Nat}, greatN (bt s j) = true → bt s j - 65 < 26 := fun {j} h => by simp [greatN] at h; omega
  rcases h with h | h | h | h | h | h | h | h | h
  · rw [acN_size h]; exact ⟨sm h.1, gr h.2.2.2.1⟩
  · rw [acN_load h]
    obtain ⟨hm, e1, hg, e3, k, ho, e5, e6, rfl⟩ := h
    exact ⟨sm hm, gr hg, odN_ok ho (byte_in e5 (by decide)) (nodigit e5 (.inr (.inr rfl)))⟩
  · obtain ⟨hm, e1, k, ho, e5, rfl⟩ := h
    rw [acN_set hm ho e5]
    exact ⟨sm hm, odN_ok ho (byte_in e5 (by decide)) (nodigit e5 (.inr (.inl rfl)))⟩
  · obtain ⟨hm, e1, k, l, ho, hop2, ho2, e5, rfl⟩ := h
    have hks : k < s.size := byte_in rfl (by unfold isOp at hop2; omega)
    have hd : digitN (bt s k) = false := by
      unfold isOp at hop2
      rcases hop2 with q | q | q | q | q <;> rw [q] <;> rfl
    rw [acN_bin hm ho hop2 hks]
    exact ⟨sm hm, odN_ok ho hks hd, odN_ok ho2 (byte_in e5 (by decide)) (nodigit e5 (.inr (.inl rfl)))⟩
  · obtain ⟨hg, e1, k, l, ho, e2, e3, ho2, e5, rfl⟩ := h
    rw [acN_store hg e1 ho e2]
    exact ⟨gr hg, odN_ok ho (byte_in e2 (by decide)) (nodigit e2 (.inr (.inr rfl))), odN_ok ho2 (byte_in e5 (by decide)) (nodigit e5 (.inr (.inl rfl)))⟩
  · rw [acN_make h]
    obtain ⟨hg, e1, e2, k, ho, e3, e5, rfl⟩ := h
    exact ⟨gr hg, odN_ok ho (byte_in e3 (by decide)) (nodigit e3 (.inr (.inr rfl)))⟩
  · rw [acN_move h]; exact ⟨gr h.1, gr h.2.2.1⟩
  · obtain ⟨e0, k, ho, e5, rfl⟩ := h
    rw [acN_print e0]
    exact odN_ok ho (byte_in e5 (by decide)) (nodigit e5 (.inr (.inl rfl)))
  · rw [acN_drop h.1]; exact gr h.2.1
section
variable (w : World) (rp base : Nat) (s : ByteArray) (σ : St) (i m : Nat)
end
end Go.Proofs.Ythcjcjfgdgnljaa

namespace Go.Proofs.Ythcjcjfgdgnljaa
open Go.RowKit
set_option linter.unusedVariables false

/-- a run begins -/
def st0 (n : Nat) : St := ⟨fun _ => 0, fun _ => [], fun _ => 0, n, 0, [], 0⟩
/-- how a run of a text ends -/
def Ends (c : Cf) (s : ByteArray) (n : Nat) (σ : St) : Prop := ∃ b, Ex c (pgN s (s.size + 1) 0 s.size) (st0 n) σ b
/-- an outcome's cells -/
structure OutAt (w : World) (b : Nat) (v0 v1 v2 v3 : Value) : Prop where
  c0 : w.cell? ⟨b, 0, none⟩ = some v0
  c1 : w.cell? ⟨b, 1, none⟩ = some v1
  c2 : w.cell? ⟨b, 2, none⟩ = some v2
  c3 : w.cell? ⟨b, 3, none⟩ = some v3
  f : ∀ o, w.frozen? ⟨b, o, none⟩ = false
theorem OutAt.lt {w : World} {b : Nat} {v0 v1 v2 v3 : Value} (h : OutAt w b v0 v1 v2 v3) : b < w.heap.size := World.block_lt_of_cell? w _ h.c0
theorem OutAt.fr {S : Nat → Prop} {w w' : World} {b : Nat} {v0 v1 v2 v3 : Value} (h : OutAt w b v0 v1 v2 v3) (hF : Fr S w w') (hS : ¬ S b) : OutAt w' b v0 v1 v2 v3 :=
  ⟨hF.cell_some h.c0 hS, hF.cell_some h.c1 hS, hF.cell_some h.c2 hS, hF.cell_some h.c3 hS, fun o => (hF.frozen (p := ⟨b, o, none⟩) h.lt hS).trans (h.f o)⟩
theorem OutAt.new (w : World) (t : TypeId) (v0 v1 v2 v3 : Value) : OutAt (w.alloc (.cells #[v0, v1, v2, v3] t)) w.heap.size v0 v1 v2 v3 :=
  ⟨cell_new _ _ _ rfl rfl, cell_new _ _ _ rfl rfl, cell_new _ _ _ rfl rfl, cell_new _ _ _ rfl rfl, fun o => World.frozen?_alloc_at _ _ _ _ rfl⟩
theorem OutAt.put {w : World} {b : Nat} {v0 v1 v2 v3 u0 u1 u2 u3 : Value} (h : OutAt w b v0 v1 v2 v3) : OutAt ((((w.setCell ⟨b, 0, none⟩ u0).setCell ⟨b, 1, none⟩ u1).setCell ⟨b, 2, none⟩ u2).setCell ⟨b, 3, none⟩ u3) b u0 u1 u2 u3 :=
  ⟨cell_at (cell_at (cell_at (cell_same h.c0) (by omega)) (by omega)) (by omega), cell_at (cell_at (cell_same (cell_at h.c1 (by omega))) (by omega)) (by omega), cell_at (cell_same (cell_at (cell_at h.c2 (by omega)) (by omega))) (by omega), cell_same (cell_at (cell_at (cell_at h.c3 (by omega)) (by omega)) (by omega)), fun o => by rw [World.frozen?_setCell, World.frozen?_setCell, World.frozen?_setCell, World.frozen?_setCell]; exact h.f o⟩
end Go.Proofs.Ythcjcjfgdgnljaa
