/-
  Free, New, RefA, RefB, Rel: one behind the other.
-/
import Derived.Test.YthcjcjfgdgnljabDoorGRuns
import Derived.Deep.QuietTactic
import Derived.BigQuiet
import Derived.Deep.RegionWith
import Derived.Deep.DeepCutAuto
namespace Go.Proofs.YthcjcjfgdgnljabDoor
open Go.RowKit

def clearTo (f : Nat → Int) (k j : Nat) : Nat → Int := fun i => if k ≤ i ∧ i < j then 0 else f i
theorem clearTo_start (f : Nat → Int) (k : Nat) {n : Nat} : ∀ i, i < n → clearTo f k k i = f i := fun i _ => by
  unfold clearTo; rw [if_neg (by omega)]
theorem clearTo_step (f : Nat → Int) {k j : Nat} (h : k ≤ j) {n : Nat} : ∀ i, i < n → clearTo f k (j + 1) i = upd (clearTo f k j) j 0 i := fun i _ => by
  unfold clearTo upd
  by_cases e : i = j
  · subst e; rw [if_pos (by omega), if_pos rfl]
  · rw [if_neg e]
    by_cases e2 : k ≤ i ∧ i < j
    · rw [if_pos (by omega)]; exact (if_pos e2).symm
    · rw [if_neg (by omega)]; exact (if_neg e2).symm
theorem clearTo_at (f : Nat → Int) (k j : Nat) : clearTo f k j j = f j := by unfold clearTo; rw [if_neg (by omega)]

theorem all_step {B : Nat → Int} {k j : Nat} {x : Int} (h : ∀ i, k ≤ i → i < j → B i = x) (hj : B j = x) : ∀ i, k ≤ i → i < j + 1 → B i = x := fun i h1 h2 => by
  by_cases e : i = j
  · subst e; exact hj
  · exact h i h1 (by omega)
theorem stop_at {B : Nat → Int} {j n : Nat} {x : Int} (hj : j ≤ n) (h : ¬ (j < n ∧ B j = x)) : j = n ∨ B j ≠ x := by
  by_cases e : B j = x
  · exact .inl (by have : ¬ j < n := fun hl => h ⟨hl, e⟩; omega)
  · exact .inr e
theorem lt_of_stop {B : Nat → Int} {k j n : Nat} {x : Int} (h1 : k ≤ j) (hk : k < n) (hb : B k = x) (h : j = n ∨ B j ≠ x) : k < j := by
  rcases h with h | h
  · omega
  · by_cases e : k = j
    · subst e; exact absurd hb h
    · omega

set_option maxHeartbeats 400000 in
theorem free_no (w : World) (p r n : Nat) (B V : Nat → Int) (a : Int) (h : HeapAt w p r n B V) (ht : takenB B n a = false) :
    Calls Tryd.prog 73 #[.pointer (some ⟨p, 0, none⟩), .int .i64 a] w fun e w' => e = .returned (.int .i64 7) ∧ w' = w := by
  go_enter Tryd.func73, Tryd.ntmps73
  go_wp2_with (go_at_call 75; refine (taken_any _ p r n B V a h).mono ?_; rintro e w' ⟨rfl, rfl⟩; rw [ht])
  go_ret
  exact ⟨rfl, rfl⟩

set_option maxHeartbeats 400000 in
theorem free_mid (w : World) (p r n : Nat) (B V : Nat → Int) (k : Nat) (h : HeapAt w p r n B V) (hk : k < n) (ht : B k ≠ 0) (hs : B k ≠ (k : Int) + 1) :
    Calls Tryd.prog 73 #[.pointer (some ⟨p, 0, none⟩), .int .i64 (k : Int)] w fun e w' => e = .returned (.int .i64 7) ∧ w' = w := by
  have hn := h.hi
  have hp := h.ptr
  have hc := h.blk k hk
  have hb : (B k != 0) = true := by simpa using ht
  have hs' : (B k != (k : Int) + 1) = true := by simpa using hs
  go_enter Tryd.func73, Tryd.ntmps73
  go_wp2_with (go_at_call 75; refine (taken_in _ p r n B V k h hk).mono ?_; rintro e w' ⟨rfl, rfl⟩; rw [hb])
  go_ret
  exact ⟨rfl, rfl⟩

set_option maxHeartbeats 1000000 in
theorem free_yes (w : World) (p r n : Nat) (B V : Nat → Int) (k : Nat) (h : HeapAt w p r n B V) (hk : k < n) (hs : B k = (k : Int) + 1) :
    Calls Tryd.prog 73 #[.pointer (some ⟨p, 0, none⟩), .int .i64 (k : Int)] w fun e w' => e = .returned (.int .i64 0) ∧
      ∃ z, k < z ∧ z ≤ n ∧ (∀ i, k ≤ i → i < z → B i = (k : Int) + 1) ∧ (z = n ∨ B z ≠ (k : Int) + 1) ∧ HeapAt w' p r n (clearTo B k z) (clearTo V k z) ∧ Fr (OneB r) w w' := by
  have hn := h.hi
  have hp := h.ptr
  have hc := h.blk k hk
  have hb : (B k != 0) = true := by simp [hs]; omega
  have hs' : (B k != (k : Int) + 1) = false := by simpa using hs
  have Hs : Hid (B k = (k : Int) + 1) := hs
  clear hs
  go_enter Tryd.func73, Tryd.ntmps73
  go_wp2_with (go_at_call 75; refine (taken_in _ p r n B V k h hk).mono ?_; rintro e w' ⟨rfl, hw⟩; have hw2 := hw.symm; clear hw; subst hw2; rw [hb])
  clear hc hp
  go_loopw [5] (fun t wq => ∃ j : Nat, k ≤ j ∧ j ≤ n ∧ t = .int .i64 j ∧ (∀ i, k ≤ i → i < j → B i = (k : Int) + 1) ∧ HeapAt wq p r n (clearTo B k j) (clearTo V k j) ∧ Fr (OneB r) w wq)
    (fun t _ => n - (intOf t).toNat)
  case atStart => exact ⟨k, Nat.le_refl _, by omega, rfl, fun i h1 h2 => absurd h2 (by omega), h.congr (clearTo_start B k) (clearTo_start V k), Fr.refl _ _⟩
  case round =>
    obtain ⟨j, hj1, hj2, rfl, hall, hq, hFq⟩ := hrel
    have Hall : Hid (∀ i, k ≤ i → i < j → B i = (k : Int) + 1) := hall
    clear hall
    by_cases hgo : j < n ∧ B j = (k : Int) + 1
    · obtain ⟨hjn, hjb⟩ := hgo
      have hqp := hq.ptr
      have hqb := hq.blk j hjn
      have hqv := hq.val j hjn
      have hqf := hq.frz (j * 2)
      have hqg := hq.frz (j * 2 + 1)
      rw [clearTo_at] at hqb
      have hjb' : (B j == (k : Int) + 1) = true := by simpa using hjb
      have Hjb : Hid (B j = (k : Int) + 1) := hjb
      clear hjb
      have hset := ((hq.setBlk hjn 0 (by omega) (by omega)).setVal hjn 0).congr (clearTo_step B hj1) (clearTo_step V hj1)
      have hFs := (hFq.setCell (p := ⟨r, j * 2, none⟩) (fun _ => rfl) (.int .i64 0)).setCell (p := ⟨r, j * 2 + 1, none⟩) (fun _ => rfl) (.int .i64 0)
      have H : Hid (HeapAt ((wr.setCell ⟨r, j * 2, none⟩ (.int .i64 0)).setCell ⟨r, j * 2 + 1, none⟩ (.int .i64 0)) p r n (clearTo B k (j + 1)) (clearTo V k (j + 1)) ∧ Fr (OneB r) w ((wr.setCell ⟨r, j * 2, none⟩ (.int .i64 0)).setCell ⟨r, j * 2 + 1, none⟩ (.int .i64 0))) := ⟨hset, hFs⟩
      clear hset hFs hq hFq
      go_wp2
      go_roundw
      case rel => exact ⟨j + 1, by omega, by omega, by go_num, all_step Hall.out Hjb.out, H.out.1, H.out.2⟩
      case measure => simp [intOf]; omega
    · have Hstop : Hid (j = n ∨ B j ≠ (k : Int) + 1) := stop_at hj2 hgo
      have hkj : k < j := lt_of_stop hj1 hk Hs.out Hstop.out
      have hqp := hq.ptr
      have hqb : j < n → wr.cell? ⟨r, j * 2, none⟩ = some (.int .i64 (B j)) := fun hjn => by have := hq.blk j hjn; rwa [clearTo_at] at this
      have hjb : j < n → (B j == (k : Int) + 1) = false := fun hjn => by
        rcases Hstop.out with h | h
        · omega
        · simpa using h
      clear hgo
      by_cases hjn : j < n
      all_goals
        go_wp2
        go_ret
        exact ⟨rfl, j, hkj, hj2, Hall.out, Hstop.out, hq, hFq⟩
end Go.Proofs.YthcjcjfgdgnljabDoor

namespace Go.Proofs.YthcjcjfgdgnljabDoor
open Go.RowKit

theorem Tryd.infoWord : (Tryd.prog.info? 113).map (fun i => (i.zero, i.size, i.bytes)) = some (some (.agg #[.int .i64 0, .int .i64 0]), 2, 16) := by kernel_rfl

theorem made_two (n j : Nat) (h : j < n) : (madeCells #[Value.int .i64 0, Value.int .i64 0] n)[j]? = some (.int .i64 0) := by
  unfold madeCells
  have h2 : j % 2 = 0 ∨ j % 2 = 1 := by omega
  rcases h2 with h2 | h2 <;> simp [h, h2]

/-- the words' cells, new -/
theorem words_made (n : Nat) (hn : n ≤ 4096) : ∃ C : Array Value, (∀ j, j < n * 2 → C[j]? = some (.int .i64 0)) ∧
    ∀ u : World, (Instr.makeSlice 67 (.int .i64 (n : Int)) (.int .i64 (n : Int))).run Tryd.prog u = .ok (.slice (some ⟨u.heap.size, 0, none⟩) n n) (u.alloc (.cells C 113)) := by
  obtain ⟨i0, hi, hz0, hz1, hz2⟩ := info_parts Tryd.infoWord
  refine ⟨madeCells #[Value.int .i64 0, Value.int .i64 0] (n * 2), fun j hj => made_two _ _ hj, fun u => ?_⟩
  have h := run_make (P := Tryd.prog) u 67 113 i0 (.agg #[.int .i64 0, .int .i64 0]) Tryd.underlying67 hi hz0 .i64 .i64 (n : Int) (n : Int) (by omega) (Int.le_refl _) (by rw [hz2]; omega) (by omega)
  simpa [hz1, Value.cells] using h

set_option maxHeartbeats 400000 in
theorem hnew_no (w : World) (a : Int) (ha : a < 1 ∨ 4096 < a) :
    Calls Tryd.prog 39 #[.int .i64 a] w fun e w' => e = .returned (.tuple #[.agg #[.slice none 0 0], .int .i64 5]) ∧ Fr NoB w w' := by
  rcases ha with ha | ha
  · go_enter Tryd.func39, Tryd.ntmps39
    go_wp2
    refine bodyPost_ret (v := .tuple #[.agg #[.slice none 0 0], .int .i64 5]) (by simp [results, Tryd.results39, go_sem]) rfl ⟨rfl, ?_⟩
    repeat (first | exact Fr.refl _ _ | refine Fr.setCell ?_ (fun h => absurd h (Nat.lt_irrefl _)) _ | refine Fr.alloc ?_ _)
  · have ha0 : ¬ a < 1 := by omega
    go_enter Tryd.func39, Tryd.ntmps39
    go_wp2
    refine bodyPost_ret (v := .tuple #[.agg #[.slice none 0 0], .int .i64 5]) (by simp [results, Tryd.results39, go_sem]) rfl ⟨rfl, ?_⟩
    repeat (first | exact Fr.refl _ _ | refine Fr.setCell ?_ (fun h => absurd h (Nat.lt_irrefl _)) _ | refine Fr.alloc ?_ _)

set_option maxHeartbeats 400000 in
theorem hnew_yes (w : World) (n : Nat) (h1 : 1 ≤ n) (h2 : n ≤ 4096) :
    Calls Tryd.prog 39 #[.int .i64 (n : Int)] w fun e w' => ∃ r, e = .returned (.tuple #[.agg #[.slice (some ⟨r, 0, none⟩) n n], .int .i64 0]) ∧ Fr NoB w w' ∧
      w.heap.size ≤ r ∧ r < w'.heap.size ∧ (∀ j, j < n * 2 → w'.cell? ⟨r, j, none⟩ = some (.int .i64 0)) ∧ (∀ o, w'.frozen? ⟨r, o, none⟩ = false) := by
  obtain ⟨C, hC, hmk⟩ := words_made n h2
  have HC : Hid (∀ j, j < n * 2 → C[j]? = some (.int .i64 0)) := hC
  clear hC
  go_enter Tryd.func39, Tryd.ntmps39
  go_wp2
  refine bodyPost_ret (v := .tuple #[.agg #[.slice (some ⟨w.heap.size + 1, 0, none⟩) n n], .int .i64 0]) (by simp [results, Tryd.results39, go_sem]) rfl ⟨w.heap.size + 1, rfl, ?_, by omega, by simp, ?_, ?_⟩
  · repeat (first | exact Fr.refl _ _ | refine Fr.setCell ?_ (fun h => absurd h (Nat.lt_irrefl _)) _ | refine Fr.alloc ?_ _)
  · intro j hj
    rw [World.cell?_alloc_at _ _ _ _ (by simp)]
    exact HC.out j hj
  · intro o
    rw [World.frozen?_alloc_at _ _ _ _ (by simp)]

/- The wrappers of package steward. -/
end Go.Proofs.YthcjcjfgdgnljabDoor

namespace Go.Proofs.YthcjcjfgdgnljabDoor
open Go.RowKit

structure RefAt (w : World) (q ri rh n : Nat) (I H : Nat → Int) (md : Int) : Prop where
  lo : 1 ≤ n
  hi : n ≤ 4096
  qi : q ≠ ri
  qh : q ≠ rh
  ih : ri ≠ rh
  c0 : w.cell? ⟨q, 0, none⟩ = some (.slice (some ⟨ri, 0, none⟩) n n)
  c1 : w.cell? ⟨q, 1, none⟩ = some (.slice (some ⟨rh, 0, none⟩) n n)
  c2 : w.cell? ⟨q, 2, none⟩ = some (.int .i64 md)
  ci : ∀ i, i < n → w.cell? ⟨ri, i, none⟩ = some (.int .i64 (I i))
  ch : ∀ i, i < n → w.cell? ⟨rh, i, none⟩ = some (.int .i64 (H i))
  fq : ∀ o, w.frozen? ⟨q, o, none⟩ = false
  fi : ∀ o, w.frozen? ⟨ri, o, none⟩ = false
  fh : ∀ o, w.frozen? ⟨rh, o, none⟩ = false

def RefS (q ri rh : Nat) : Nat → Prop := fun k => k = q ∨ k = ri ∨ k = rh

theorem RefAt.ql {w : World} {q ri rh n : Nat} {I H : Nat → Int} {md : Int} (h : RefAt w q ri rh n I H md) : q < w.heap.size := World.block_lt_of_cell? w _ h.c0
theorem RefAt.il {w : World} {q ri rh n : Nat} {I H : Nat → Int} {md : Int} (h : RefAt w q ri rh n I H md) : ri < w.heap.size := World.block_lt_of_cell? w _ (h.ci 0 (by have := h.lo; omega))
theorem RefAt.hl {w : World} {q ri rh n : Nat} {I H : Nat → Int} {md : Int} (h : RefAt w q ri rh n I H md) : rh < w.heap.size := World.block_lt_of_cell? w _ (h.ch 0 (by have := h.lo; omega))
theorem RefAt.fr {S : Nat → Prop} {w w' : World} {q ri rh n : Nat} {I H : Nat → Int} {md : Int} (h : RefAt w q ri rh n I H md) (hf : Fr S w w') (h1 : ¬ S q) (h2 : ¬ S ri) (h3 : ¬ S rh) : RefAt w' q ri rh n I H md :=
  ⟨h.lo, h.hi, h.qi, h.qh, h.ih, hf.cell_some h.c0 h1, hf.cell_some h.c1 h1, hf.cell_some h.c2 h1, fun i hi => hf.cell_some (h.ci i hi) h2, fun i hi => hf.cell_some (h.ch i hi) h3,
    fun o => (hf.frozen (p := ⟨q, o, none⟩) h.ql h1).trans (h.fq o), fun o => (hf.frozen (p := ⟨ri, o, none⟩) h.il h2).trans (h.fi o), fun o => (hf.frozen (p := ⟨rh, o, none⟩) h.hl h3).trans (h.fh o)⟩
theorem RefAt.no {w w' : World} {q ri rh n : Nat} {I H : Nat → Int} {md : Int} (h : RefAt w q ri rh n I H md) (hf : Fr NoB w w') : RefAt w' q ri rh n I H md := h.fr hf id id id
theorem RefAt.congr {w : World} {q ri rh n : Nat} {I H I' H' : Nat → Int} {md : Int} (h : RefAt w q ri rh n I H md) (hi : ∀ i, i < n → I' i = I i) (hh : ∀ i, i < n → H' i = H i) : RefAt w q ri rh n I' H' md :=
  ⟨h.lo, h.hi, h.qi, h.qh, h.ih, h.c0, h.c1, h.c2, fun i hl => by rw [hi i hl]; exact h.ci i hl, fun i hl => by rw [hh i hl]; exact h.ch i hl, h.fq, h.fi, h.fh⟩
theorem RefAt.setI {w : World} {q ri rh n : Nat} {I H : Nat → Int} {md : Int} (h : RefAt w q ri rh n I H md) {k : Nat} (hk : k < n) (u : Int) : RefAt (w.setCell ⟨ri, k, none⟩ (.int .i64 u)) q ri rh n (upd I k u) H md :=
  ⟨h.lo, h.hi, h.qi, h.qh, h.ih, (cell_other (.inl (Ne.symm h.qi))).trans h.c0, (cell_other (.inl (Ne.symm h.qi))).trans h.c1, (cell_other (.inl (Ne.symm h.qi))).trans h.c2,
    fun i hi => by
      by_cases e : i = k
      · subst e; rw [upd_at]; exact cell_same (h.ci i hi)
      · rw [upd_ne _ _ e]; exact (cell_other (.inr (by omega))).trans (h.ci i hi),
    fun i hi => (cell_other (.inl h.ih)).trans (h.ch i hi),
    fun o => by rw [World.frozen?_setCell]; exact h.fq o, fun o => by rw [World.frozen?_setCell]; exact h.fi o, fun o => by rw [World.frozen?_setCell]; exact h.fh o⟩
theorem RefAt.setH {w : World} {q ri rh n : Nat} {I H : Nat → Int} {md : Int} (h : RefAt w q ri rh n I H md) {k : Nat} (hk : k < n) (u : Int) : RefAt (w.setCell ⟨rh, k, none⟩ (.int .i64 u)) q ri rh n I (upd H k u) md :=
  ⟨h.lo, h.hi, h.qi, h.qh, h.ih, (cell_other (.inl (Ne.symm h.qh))).trans h.c0, (cell_other (.inl (Ne.symm h.qh))).trans h.c1, (cell_other (.inl (Ne.symm h.qh))).trans h.c2,
    fun i hi => (cell_other (.inl (Ne.symm h.ih))).trans (h.ci i hi),
    fun i hi => by
      by_cases e : i = k
      · subst e; rw [upd_at]; exact cell_same (h.ch i hi)
      · rw [upd_ne _ _ e]; exact (cell_other (.inr (by omega))).trans (h.ch i hi),
    fun o => by rw [World.frozen?_setCell]; exact h.fq o, fun o => by rw [World.frozen?_setCell]; exact h.fi o, fun o => by rw [World.frozen?_setCell]; exact h.fh o⟩
theorem RefAt.setM {w : World} {q ri rh n : Nat} {I H : Nat → Int} {md : Int} (h : RefAt w q ri rh n I H md) (u : Int) : RefAt (w.setCell ⟨q, 2, none⟩ (.int .i64 u)) q ri rh n I H u :=
  ⟨h.lo, h.hi, h.qi, h.qh, h.ih, (cell_other (.inr (by omega))).trans h.c0, (cell_other (.inr (by omega))).trans h.c1, cell_same h.c2,
    fun i hi => (cell_other (.inl h.qi)).trans (h.ci i hi), fun i hi => (cell_other (.inl h.qh)).trans (h.ch i hi),
    fun o => by rw [World.frozen?_setCell]; exact h.fq o, fun o => by rw [World.frozen?_setCell]; exact h.fi o, fun o => by rw [World.frozen?_setCell]; exact h.fh o⟩

def setTo (f : Nat → Int) (a j : Nat) (v : Int) : Nat → Int := fun i => if a ≤ i ∧ i < j then v else f i
theorem setTo_start (f : Nat → Int) (a : Nat) (v : Int) {n : Nat} : ∀ i, i < n → setTo f a a v i = f i := fun i _ => by
  unfold setTo; rw [if_neg (by omega)]
theorem setTo_step (f : Nat → Int) {a j : Nat} (v : Int) (h : a ≤ j) {n : Nat} : ∀ i, i < n → setTo f a (j + 1) v i = upd (setTo f a j v) j v i := fun i _ => by
  unfold setTo upd
  by_cases e : i = j
  · subst e; rw [if_pos (by omega), if_pos rfl]
  · rw [if_neg e]
    by_cases e2 : a ≤ i ∧ i < j
    · rw [if_pos (by omega)]; exact (if_pos e2).symm
    · rw [if_neg (by omega)]; exact (if_neg e2).symm

end Go.Proofs.YthcjcjfgdgnljabDoor

namespace Go.Proofs.YthcjcjfgdgnljabDoor
open Go.RowKit

theorem Fr.drewM {S : Nat → Prop} {a w : World} (h : Fr S a w) (n : Nat) : Fr S a (w.drewN n) := ⟨h.os, h.tape, h.output, h.size, h.block⟩

def clearEq (I : Nat → Int) (x : Int) (j : Nat) : Nat → Int := fun i => if i < j ∧ I i = x then 0 else I i
theorem clearEq_start (I : Nat → Int) (x : Int) {n : Nat} : ∀ i, i < n → clearEq I x 0 i = I i := fun i _ => by
  unfold clearEq; rw [if_neg (by omega)]
theorem clearEq_at (I : Nat → Int) (x : Int) (j : Nat) : clearEq I x j j = I j := by unfold clearEq; rw [if_neg (by omega)]
theorem clearEq_yes {I : Nat → Int} {x : Int} {j : Nat} (h : I j = x) {n : Nat} : ∀ i, i < n → clearEq I x (j + 1) i = upd (clearEq I x j) j 0 i := fun i _ => by
  unfold clearEq upd
  by_cases e : i = j
  · subst e; rw [if_pos ⟨by omega, h⟩, if_pos rfl]
  · rw [if_neg e]
    by_cases e2 : i < j ∧ I i = x
    · rw [if_pos ⟨by omega, e2.2⟩]; exact (if_pos e2).symm
    · rw [if_neg (fun g => e2 ⟨by omega, g.2⟩)]; exact (if_neg e2).symm
theorem clearEq_no {I : Nat → Int} {x : Int} {j : Nat} (h : I j ≠ x) {n : Nat} : ∀ i, i < n → clearEq I x (j + 1) i = clearEq I x j i := fun i _ => by
  unfold clearEq
  by_cases e : i = j
  · subst e; rw [if_neg (fun g => h g.2), if_neg (fun g => h g.2)]
  · by_cases e2 : i < j ∧ I i = x
    · rw [if_pos ⟨by omega, e2.2⟩, if_pos e2]
    · rw [if_neg (fun g => e2 ⟨by omega, g.2⟩), if_neg e2]

theorem skip_runs {I : Nat → Int} {n i : Nat} (h : n ≤ i ∨ I i ≠ 0) {M : List (Nat × Nat)} (hM : IsRuns I n (i + 1) M) : IsRuns I n i M := by
  cases M with
  | nil =>
    intro j h1 h2
    by_cases e : j = i
    · subst e; rcases h with h | h
      · omega
      · exact h
    · exact hM j (by omega) h2
  | cons s t =>
    obtain ⟨a, l⟩ := s
    obtain ⟨h1, h2, h3, h4, h5, h6, h7⟩ := hM
    refine ⟨by omega, h2, h3, fun j g1 g2 => ?_, h5, h6, h7⟩
    by_cases e : j = i
    · subst e; rcases h with h | h
      · omega
      · exact h
    · exact h4 j (by omega) g2
theorem close_run {I : Nat → Int} {n f i : Nat} {L : List (Nat × Nat)} (hi : i ≤ n) (hlt : f < i) (hfree : ∀ j, f ≤ j → j < i → I j = 0) (hstop : n ≤ i ∨ I i ≠ 0)
    (hL : ∀ M, IsRuns I n f M → IsRuns I n 0 (L ++ M)) : ∀ M, IsRuns I n (i + 1) M → IsRuns I n 0 ((L ++ [(f, i - f)]) ++ M) := fun M hM => by
  rw [List.append_assoc]
  apply hL
  have e : f + (i - f) = i := by omega
  refine ⟨Nat.le_refl _, by omega, by omega, fun j h1 h2 => absurd h2 (by omega), fun j h1 h2 => hfree j h1 (by omega), ?_, ?_⟩
  · rw [e]; rcases hstop with h | h
    · exact .inl (by omega)
    · exact .inr h
  · rw [e]; exact skip_runs hstop hM

theorem Tryd.infoIntR : (Tryd.prog.info? 3).map (fun i => (i.zero, i.size, i.bytes)) = some (some (.int .i64 0), 1, 8) := by kernel_rfl
theorem made_oneR (n j : Nat) (h : j < n) : (madeCells #[Value.int .i64 0] n)[j]? = some (.int .i64 0) := by
  unfold madeCells
  simp [h, Nat.mod_one]
theorem ints_madeR (n : Nat) (hn : n ≤ 4096) : ∃ C : Array Value, (∀ j, j < n → C[j]? = some (.int .i64 0)) ∧
    ∀ u : World, (Instr.makeSlice 46 (.int .i64 (n : Int)) (.int .i64 (n : Int))).run Tryd.prog u = .ok (.slice (some ⟨u.heap.size, 0, none⟩) n n) (u.alloc (.cells C 3)) := by
  obtain ⟨i0, hi, hz0, hz1, hz2⟩ := info_parts Tryd.infoIntR
  refine ⟨madeCells #[Value.int .i64 0] n, fun j hj => made_oneR _ _ hj, fun u => ?_⟩
  have h := run_make (P := Tryd.prog) u 46 3 i0 (.int .i64 0) Tryd.underlying46 hi hz0 .i64 .i64 (n : Int) (n : Int) (by omega) (Int.le_refl _) (by rw [hz2]; omega) (by omega)
  simpa [hz1, Value.cells] using h

end Go.Proofs.YthcjcjfgdgnljabDoor

namespace Go.Proofs.YthcjcjfgdgnljabDoor
open Go.RowKit

structure Rel (n : Nat) (B V I H : Nat → Int) (md : Int) : Prop where
  zz : ∀ i, i < n → (B i = 0 ↔ I i = 0)
  eqv : ∀ i j, i < n → j < n → I i ≠ 0 → (I i = I j ↔ B i = B j)
  vh : ∀ i, i < n → B i ≠ 0 → V i = H i
  zv : ∀ i, i < n → B i = 0 → V i = 0
  st : ∀ i, i < n → B i ≠ 0 → ∃ s : Nat, B i = (s : Int) + 1 ∧ s ≤ i ∧ ∀ j, s ≤ j → j ≤ i → B j = B i
  mx : ∀ i, i < n → I i ≤ md
  md0 : 0 ≤ md

theorem Rel.start (n : Nat) : Rel n (fun _ => 0) (fun _ => 0) (fun _ => 0) (fun _ => 0) 0 :=
  ⟨fun _ _ => Iff.rfl, fun _ _ _ _ h => absurd rfl h, fun _ _ h => absurd rfl h, fun _ _ _ => rfl, fun _ _ h => absurd rfl h, fun _ _ => Int.le_refl _, Int.le_refl _⟩

theorem Rel.freeAt {n : Nat} {B V I H : Nat → Int} {md : Int} (h : Rel n B V I H md) (k a : Nat) : FreeAt B n k a ↔ FreeAt I n k a :=
  ⟨fun ⟨h1, h2⟩ => ⟨h1, fun i g1 g2 => (h.zz i (by omega)).1 (h2 i g1 g2)⟩, fun ⟨h1, h2⟩ => ⟨h1, fun i g1 g2 => (h.zz i (by omega)).2 (h2 i g1 g2)⟩⟩
theorem Rel.taken {n : Nat} {B V I H : Nat → Int} {md : Int} (h : Rel n B V I H md) (a : Int) : takenB B n a = takenB I n a := by
  by_cases h0 : 0 ≤ a
  · obtain ⟨k, rfl⟩ := Int.eq_ofNat_of_zero_le h0
    by_cases hk : k < n
    · rw [takenB_in hk, takenB_in hk, Bool.eq_iff_iff]
      have := h.zz k hk
      simp only [bne_iff_ne, ne_eq, this]
    · rw [takenB_hi hk, takenB_hi hk]
  · rw [takenB_neg h0, takenB_neg h0]

theorem Rel.alloc {n : Nat} {B V I H : Nat → Int} {md : Int} (h : Rel n B V I H md) {k a : Nat} (hk : 1 ≤ k) (hf : FreeAt B n k a) : Rel n (markTo B a (a + k)) V (setTo I a (a + k) (md + 1)) (setTo H a (a + k) 0) (md + 1) := by
  have hm0 := h.md0
  have hin : ∀ i, (a ≤ i ∧ i < a + k) → markTo B a (a + k) i = (a : Int) + 1 := fun i e => by unfold markTo; rw [if_pos e]
  have hout : ∀ i, ¬ (a ≤ i ∧ i < a + k) → markTo B a (a + k) i = B i := fun i e => by unfold markTo; rw [if_neg e]
  have sin : ∀ (f : Nat → Int) (v : Int) i, (a ≤ i ∧ i < a + k) → setTo f a (a + k) v i = v := fun f v i e => by unfold setTo; rw [if_pos e]
  have sout : ∀ (f : Nat → Int) (v : Int) i, ¬ (a ≤ i ∧ i < a + k) → setTo f a (a + k) v i = f i := fun f v i e => by unfold setTo; rw [if_neg e]
  have hnew : ∀ j, j < n → ¬ (a ≤ j ∧ j < a + k) → B j ≠ (a : Int) + 1 := fun j hj e hb => by
    obtain ⟨s, h1, h2, h3⟩ := h.st j hj (by omega)
    have hs : s = a := by omega
    subst hs
    have := h3 s (Nat.le_refl _) h2
    have := hf.2 s (Nat.le_refl _) (by omega)
    omega
  refine ⟨fun i hi => ?_, fun i j hi hj hne => ?_, fun i hi hne => ?_, fun i hi hz => ?_, fun i hi hne => ?_, fun i hi => ?_, by omega⟩
  · by_cases e : a ≤ i ∧ i < a + k
    · rw [hin i e, sin I _ i e]; constructor <;> intro h <;> omega
    · rw [hout i e, sout I _ i e]; exact h.zz i hi
  · by_cases e : a ≤ i ∧ i < a + k <;> by_cases e2 : a ≤ j ∧ j < a + k
    · rw [hin i e, hin j e2, sin I _ i e, sin I _ j e2]; constructor <;> intro _ <;> rfl
    · rw [hin i e, hout j e2, sin I _ i e, sout I _ j e2]
      have h1 := h.mx j hj
      have h2 := hnew j hj e2
      constructor
      · intro g; omega
      · intro g; exact absurd g.symm h2
    · rw [hout i e, hin j e2, sout I _ i e, sin I _ j e2]
      have h1 := h.mx i hi
      have h2 := hnew i hi e
      constructor
      · intro g; omega
      · intro g; exact absurd g h2
    · rw [hout i e, hout j e2, sout I _ i e, sout I _ j e2]
      rw [sout I _ i e] at hne
      exact h.eqv i j hi hj hne
  · by_cases e : a ≤ i ∧ i < a + k
    · rw [sin H _ i e]; exact h.zv i hi (hf.2 i e.1 e.2)
    · rw [sout H _ i e]; rw [hout i e] at hne; exact h.vh i hi hne
  · by_cases e : a ≤ i ∧ i < a + k
    · rw [hin i e] at hz; omega
    · rw [hout i e] at hz; exact h.zv i hi hz
  · by_cases e : a ≤ i ∧ i < a + k
    · refine ⟨a, hin i e, e.1, fun j h1 h2 => ?_⟩
      rw [hin i e, hin j ⟨h1, by omega⟩]
    · rw [hout i e] at hne
      obtain ⟨s, h1, h2, h3⟩ := h.st i hi hne
      refine ⟨s, by rw [hout i e]; exact h1, h2, fun j g1 g2 => ?_⟩
      have e2 : ¬ (a ≤ j ∧ j < a + k) := fun e2 => by
        have := hf.2 j e2.1 e2.2
        rw [h3 j g1 g2] at this
        exact hne this
      rw [hout i e, hout j e2]
      exact h3 j g1 g2
  · by_cases e : a ≤ i ∧ i < a + k
    · rw [sin I _ i e]; omega
    · rw [sout I _ i e]; have := h.mx i hi; omega

theorem Rel.starts {n : Nat} {B V I H : Nat → Int} {md : Int} (h : Rel n B V I H md) {k : Nat} (hk : k < n) (hb : B k = (k : Int) + 1) : k = 0 ∨ (0 < k ∧ I (k - 1) ≠ I k) := by
  by_cases e : k = 0
  · exact .inl e
  · refine .inr ⟨by omega, fun he => ?_⟩
    have hi : I k ≠ 0 := fun hz => by have := (h.zz k hk).2 hz; omega
    have h1 := (h.eqv k (k - 1) hk (by omega) hi).1 he.symm
    obtain ⟨s, g1, g2, _⟩ := h.st (k - 1) (by omega) (by omega)
    omega
theorem Rel.inside {n : Nat} {B V I H : Nat → Int} {md : Int} (h : Rel n B V I H md) {k : Nat} (hk : k < n) (hb : B k ≠ 0) (hne : B k ≠ (k : Int) + 1) : 0 < k ∧ I (k - 1) = I k := by
  obtain ⟨s, g1, g2, g3⟩ := h.st k hk hb
  have hs : s < k := by
    by_cases e : s = k
    · subst e; exact absurd g1 hne
    · omega
  have hi : I k ≠ 0 := fun hz => hb ((h.zz k hk).2 hz)
  exact ⟨by omega, ((h.eqv k (k - 1) hk (by omega) hi).2 (g3 (k - 1) (by omega) (by omega)).symm).symm⟩

theorem Rel.free {n : Nat} {B V I H : Nat → Int} {md : Int} (h : Rel n B V I H md) {k z : Nat} (hk : k < n) (hb : B k = (k : Int) + 1) (hz1 : k < z)
    (hall : ∀ i, k ≤ i → i < z → B i = (k : Int) + 1) (hstop : z = n ∨ B z ≠ (k : Int) + 1) : Rel n (clearTo B k z) (clearTo V k z) (clearEq I (I k) n) H md := by
  have hik : I k ≠ 0 := fun hz => by have := (h.zz k hk).2 hz; omega
  have key : ∀ i, i < n → ((k ≤ i ∧ i < z) ↔ B i = (k : Int) + 1) := fun i hi => by
    constructor
    · intro e; exact hall i e.1 e.2
    · intro e
      obtain ⟨s, g1, g2, g3⟩ := h.st i hi (by omega)
      have hs : s = k := by omega
      subst hs
      refine ⟨g2, ?_⟩
      by_cases hiz : i < z
      · exact hiz
      · exfalso
        rcases hstop with h1 | h1
        · omega
        · have := g3 z (by omega) (by omega); rw [e] at this; exact h1 this
  have key2 : ∀ i, i < n → (I i = I k ↔ B i = (k : Int) + 1) := fun i hi => by
    have := h.eqv k i hk hi hik
    rw [hb] at this
    constructor
    · intro e; exact (this.1 e.symm).symm
    · intro e; exact (this.2 e.symm).symm
  have bin : ∀ i, i < n → B i = (k : Int) + 1 → (∀ f : Nat → Int, clearTo f k z i = 0) ∧ clearEq I (I k) n i = 0 := fun i hi e => by
    refine ⟨fun f => ?_, ?_⟩
    · unfold clearTo; rw [if_pos ((key i hi).2 e)]
    · unfold clearEq; rw [if_pos ⟨hi, (key2 i hi).2 e⟩]
  have bout : ∀ i, i < n → B i ≠ (k : Int) + 1 → (∀ f : Nat → Int, clearTo f k z i = f i) ∧ clearEq I (I k) n i = I i := fun i hi e => by
    refine ⟨fun f => ?_, ?_⟩
    · unfold clearTo; rw [if_neg (fun g => e ((key i hi).1 g))]
    · unfold clearEq; rw [if_neg (fun g => e ((key2 i hi).1 g.2))]
  refine ⟨fun i hi => ?_, fun i j hi hj hne => ?_, fun i hi hne => ?_, fun i hi hz => ?_, fun i hi hne => ?_, fun i hi => ?_, h.md0⟩
  · by_cases e : B i = (k : Int) + 1
    · rw [(bin i hi e).1 B, (bin i hi e).2]
    · rw [(bout i hi e).1 B, (bout i hi e).2]; exact h.zz i hi
  · by_cases e : B i = (k : Int) + 1
    · rw [(bin i hi e).2] at hne; exact absurd rfl hne
    · rw [(bout i hi e).2] at hne
      rw [(bout i hi e).1 B, (bout i hi e).2]
      by_cases e2 : B j = (k : Int) + 1
      · rw [(bin j hj e2).1 B, (bin j hj e2).2]
        exact (h.zz i hi).symm
      · rw [(bout j hj e2).1 B, (bout j hj e2).2]
        exact h.eqv i j hi hj hne
  · by_cases e : B i = (k : Int) + 1
    · rw [(bin i hi e).1 B] at hne; exact absurd rfl hne
    · rw [(bout i hi e).1 B] at hne; rw [(bout i hi e).1 V]; exact h.vh i hi hne
  · by_cases e : B i = (k : Int) + 1
    · exact (bin i hi e).1 V
    · rw [(bout i hi e).1 B] at hz; rw [(bout i hi e).1 V]; exact h.zv i hi hz
  · by_cases e : B i = (k : Int) + 1
    · rw [(bin i hi e).1 B] at hne; exact absurd rfl hne
    · rw [(bout i hi e).1 B] at hne
      obtain ⟨s, g1, g2, g3⟩ := h.st i hi hne
      refine ⟨s, by rw [(bout i hi e).1 B]; exact g1, g2, fun j q1 q2 => ?_⟩
      have hj := g3 j q1 q2
      rw [(bout i hi e).1 B, (bout j (by omega) (by rw [hj]; exact e)).1 B]
      exact hj
  · by_cases e : B i = (k : Int) + 1
    · rw [(bin i hi e).2]; exact h.md0
    · rw [(bout i hi e).2]; exact h.mx i hi

theorem Rel.store {n : Nat} {B V I H : Nat → Int} {md : Int} (h : Rel n B V I H md) {k : Nat} (hb : B k ≠ 0) (u : Int) : Rel n B (upd V k u) I (upd H k u) md :=
  ⟨h.zz, h.eqv, fun i hi hne => by
    by_cases e : i = k
    · subst e; rw [upd_at, upd_at]
    · rw [upd_ne _ _ e, upd_ne _ _ e]; exact h.vh i hi hne, fun i hi hz => by
    rw [upd_ne _ _ (fun e => by subst e; exact hb hz)]; exact h.zv i hi hz, h.st, h.mx, h.md0⟩

theorem runs_congr {B I : Nat → Int} {n : Nat} (hz : ∀ i, i < n → (B i = 0 ↔ I i = 0)) (L : List (Nat × Nat)) (lo : Nat) (h : IsRuns B n lo L) : IsRuns I n lo L := by
  induction L generalizing lo with
  | nil => exact fun i h1 h2 e => h i h1 h2 ((hz i h2).2 e)
  | cons s t ih =>
    obtain ⟨a, l⟩ := s
    obtain ⟨h1, h2, h3, h4, h5, h6, h7⟩ := h
    refine ⟨h1, h2, h3, fun i g1 g2 e => h4 i g1 g2 ((hz i (by omega)).2 e), fun i g1 g2 => (hz i (by omega)).1 (h5 i g1 g2), ?_, ih _ h7⟩
    rcases h6 with h6 | h6
    · exact .inl h6
    · by_cases e : a + l = n
      · exact .inl e
      · exact .inr (fun g => h6 ((hz _ (by omega)).2 g))
theorem runs_unique {B : Nat → Int} {n : Nat} (L M : List (Nat × Nat)) (lo : Nat) (h : IsRuns B n lo L) (g : IsRuns B n lo M) : L = M := by
  induction L generalizing lo M with
  | nil =>
    cases M with
    | nil => rfl
    | cons s t =>
      obtain ⟨a, l⟩ := s
      obtain ⟨h1, h2, h3, h4, h5, h6, h7⟩ := g
      exact absurd (h5 a (Nat.le_refl _) (by omega)) (h a h1 (by omega))
  | cons s t ih =>
    obtain ⟨a, l⟩ := s
    obtain ⟨h1, h2, h3, h4, h5, h6, h7⟩ := h
    cases M with
    | nil => exact absurd (h5 a (Nat.le_refl _) (by omega)) (g a h1 (by omega))
    | cons s' t' =>
      obtain ⟨a', l'⟩ := s'
      obtain ⟨g1, g2, g3, g4, g5, g6, g7⟩ := g
      have ha : a = a' := by
        by_cases e : a < a'
        · exact absurd (h5 a (Nat.le_refl _) (by omega)) (g4 a h1 e)
        · by_cases e2 : a' < a
          · exact absurd (g5 a' (Nat.le_refl _) (by omega)) (h4 a' g1 e2)
          · omega
      subst ha
      have hl : l = l' := by
        by_cases e : l < l'
        · rcases h6 with h6 | h6
          · omega
          · exact absurd (g5 (a + l) (by omega) (by omega)) h6
        · by_cases e2 : l' < l
          · rcases g6 with g6 | g6
            · omega
            · exact absurd (h5 (a + l') (by omega) (by omega)) g6
          · omega
      subst hl
      rw [ih t' (a + l) h7 g7]
end Go.Proofs.YthcjcjfgdgnljabDoor
