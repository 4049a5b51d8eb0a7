/-
  Free, New, AppK: one behind the other.
-/
import Derived.Test.YthcjcjfgdgnljaaGreatDoorGRuns
import Derived.Deep.DeepAppendWide
namespace Go.Proofs.YthcjcjfgdgnljaaGreatDoor
open Go.RowKit

def clearTo (f : Nat → Int) (k j : Nat) : Nat → Int := fun i => if k ≤ i ∧ i < j then 0 else f i
theorem clearTo_start (f : Nat → Int) (k : Nat) {n : Nat} : ∀ i, i < n → clearTo f k k i = f i := fun i _ => by
  unfold clearTo; rw [if_neg (by omega)]
theorem clearTo_step (f : Nat → Int) {k j : Nat} (h : k ≤ j) {n : Nat} : ∀ i, i < n → clearTo f k (j + 1) i = upd (clearTo f k j) j 0 i := fun i _ => by
  unfold clearTo upd
  by_cases e : i = j
  · subst e; rw [if_pos (by omega), if_pos rfl]
  · rw [if_neg e]
    by_cases e2 : k ≤ i ∧ i < j
    · rw [if_pos (by omega)]; exact (if_pos e2).symm
    · rw [if_neg (by omega)]; exact (if_neg e2).symm
theorem clearTo_at (f : Nat → Int) (k j : Nat) : clearTo f k j j = f j := by unfold clearTo; rw [if_neg (by omega)]

theorem all_step {B : Nat → Int} {k j : Nat} {x : Int} (h : ∀ i, k ≤ i → i < j → B i = x) (hj : B j = x) : ∀ i, k ≤ i → i < j + 1 → B i = x := fun i h1 h2 => by
  by_cases e : i = j
  · subst e; exact hj
  · exact h i h1 (by omega)
theorem stop_at {B : Nat → Int} {j n : Nat} {x : Int} (hj : j ≤ n) (h : ¬ (j < n ∧ B j = x)) : j = n ∨ B j ≠ x := by
  by_cases e : B j = x
  · exact .inl (by have : ¬ j < n := fun hl => h ⟨hl, e⟩; omega)
  · exact .inr e
theorem lt_of_stop {B : Nat → Int} {k j n : Nat} {x : Int} (h1 : k ≤ j) (hk : k < n) (hb : B k = x) (h : j = n ∨ B j ≠ x) : k < j := by
  rcases h with h | h
  · omega
  · by_cases e : k = j
    · subst e; exact absurd hb h
    · omega

set_option maxHeartbeats 400000 in
theorem free_no (w : World) (p r n : Nat) (B V : Nat → Int) (a : Int) (h : HeapAt w p r n B V) (ht : takenB B n a = false) :
    Calls Tryz.prog 94 #[.pointer (some ⟨p, 0, none⟩), .int .i64 a] w fun e w' => e = .returned (.int .i64 7) ∧ w' = w := by
  go_enter Tryz.func94, Tryz.ntmps94
  go_wp2_with (go_at_call 125; refine (taken_any _ p r n B V a h).mono ?_; rintro e w' ⟨rfl, rfl⟩; rw [ht])
  go_ret
  exact ⟨rfl, rfl⟩

set_option maxHeartbeats 400000 in
theorem free_mid (w : World) (p r n : Nat) (B V : Nat → Int) (k : Nat) (h : HeapAt w p r n B V) (hk : k < n) (ht : B k ≠ 0) (hs : B k ≠ (k : Int) + 1) :
    Calls Tryz.prog 94 #[.pointer (some ⟨p, 0, none⟩), .int .i64 (k : Int)] w fun e w' => e = .returned (.int .i64 7) ∧ w' = w := by
  have hn := h.hi
  have hp := h.ptr
  have hc := h.blk k hk
  have hb : (B k != 0) = true := by simpa using ht
  have hs' : (B k != (k : Int) + 1) = true := by simpa using hs
  go_enter Tryz.func94, Tryz.ntmps94
  go_wp2_with (go_at_call 125; refine (taken_in _ p r n B V k h hk).mono ?_; rintro e w' ⟨rfl, rfl⟩; rw [hb])
  go_ret
  exact ⟨rfl, rfl⟩

set_option maxHeartbeats 1000000 in
theorem free_yes (w : World) (p r n : Nat) (B V : Nat → Int) (k : Nat) (h : HeapAt w p r n B V) (hk : k < n) (hs : B k = (k : Int) + 1) :
    Calls Tryz.prog 94 #[.pointer (some ⟨p, 0, none⟩), .int .i64 (k : Int)] w fun e w' => e = .returned (.int .i64 0) ∧
      ∃ z, k < z ∧ z ≤ n ∧ (∀ i, k ≤ i → i < z → B i = (k : Int) + 1) ∧ (z = n ∨ B z ≠ (k : Int) + 1) ∧ HeapAt w' p r n (clearTo B k z) (clearTo V k z) ∧ Fr (OneB r) w w' := by
  have hn := h.hi
  have hp := h.ptr
  have hc := h.blk k hk
  have hb : (B k != 0) = true := by simp [hs]; omega
  have hs' : (B k != (k : Int) + 1) = false := by simpa using hs
  have Hs : Hid (B k = (k : Int) + 1) := hs
  clear hs
  go_enter Tryz.func94, Tryz.ntmps94
  go_wp2_with (go_at_call 125; refine (taken_in _ p r n B V k h hk).mono ?_; rintro e w' ⟨rfl, hw⟩; have hw2 := hw.symm; clear hw; subst hw2; rw [hb])
  clear hc hp
  go_loopw [5] (fun t wq => ∃ j : Nat, k ≤ j ∧ j ≤ n ∧ t = .int .i64 j ∧ (∀ i, k ≤ i → i < j → B i = (k : Int) + 1) ∧ HeapAt wq p r n (clearTo B k j) (clearTo V k j) ∧ Fr (OneB r) w wq)
    (fun t _ => n - (intOf t).toNat)
  case atStart => exact ⟨k, Nat.le_refl _, by omega, rfl, fun i h1 h2 => absurd h2 (by omega), h.congr (clearTo_start B k) (clearTo_start V k), Fr.refl _ _⟩
  case round =>
    obtain ⟨j, hj1, hj2, rfl, hall, hq, hFq⟩ := hrel
    have Hall : Hid (∀ i, k ≤ i → i < j → B i = (k : Int) + 1) := hall
    clear hall
    by_cases hgo : j < n ∧ B j = (k : Int) + 1
    · obtain ⟨hjn, hjb⟩ := hgo
      have hqp := hq.ptr
      have hqb := hq.blk j hjn
      have hqv := hq.val j hjn
      have hqf := hq.frz (j * 2)
      have hqg := hq.frz (j * 2 + 1)
      rw [clearTo_at] at hqb
      have hjb' : (B j == (k : Int) + 1) = true := by simpa using hjb
      have Hjb : Hid (B j = (k : Int) + 1) := hjb
      clear hjb
      have hset := ((hq.setBlk hjn 0 (by omega) (by omega)).setVal hjn 0).congr (clearTo_step B hj1) (clearTo_step V hj1)
      have hFs := (hFq.setCell (p := ⟨r, j * 2, none⟩) (fun _ => rfl) (.int .i64 0)).setCell (p := ⟨r, j * 2 + 1, none⟩) (fun _ => rfl) (.int .i64 0)
      have H : Hid (HeapAt ((wr.setCell ⟨r, j * 2, none⟩ (.int .i64 0)).setCell ⟨r, j * 2 + 1, none⟩ (.int .i64 0)) p r n (clearTo B k (j + 1)) (clearTo V k (j + 1)) ∧ Fr (OneB r) w ((wr.setCell ⟨r, j * 2, none⟩ (.int .i64 0)).setCell ⟨r, j * 2 + 1, none⟩ (.int .i64 0))) := ⟨hset, hFs⟩
      clear hset hFs hq hFq
      go_wp2
      go_roundw
      case rel => exact ⟨j + 1, by omega, by omega, by go_num, all_step Hall.out Hjb.out, H.out.1, H.out.2⟩
      case measure => simp [intOf]; omega
    · have Hstop : Hid (j = n ∨ B j ≠ (k : Int) + 1) := stop_at hj2 hgo
      have hkj : k < j := lt_of_stop hj1 hk Hs.out Hstop.out
      have hqp := hq.ptr
      have hqb : j < n → wr.cell? ⟨r, j * 2, none⟩ = some (.int .i64 (B j)) := fun hjn => by have := hq.blk j hjn; rwa [clearTo_at] at this
      have hjb : j < n → (B j == (k : Int) + 1) = false := fun hjn => by
        rcases Hstop.out with h | h
        · omega
        · simpa using h
      clear hgo
      by_cases hjn : j < n
      all_goals
        go_wp2
        go_ret
        exact ⟨rfl, j, hkj, hj2, Hall.out, Hstop.out, hq, hFq⟩
end Go.Proofs.YthcjcjfgdgnljaaGreatDoor

namespace Go.Proofs.YthcjcjfgdgnljaaGreatDoor
open Go.RowKit

theorem Tryz.infoWord : (Tryz.prog.info? 169).map (fun i => (i.zero, i.size, i.bytes)) = some (some (.agg #[.int .i64 0, .int .i64 0]), 2, 16) := by kernel_rfl

theorem made_two (n j : Nat) (h : j < n) : (madeCells #[Value.int .i64 0, Value.int .i64 0] n)[j]? = some (.int .i64 0) := by
  unfold madeCells
  have h2 : j % 2 = 0 ∨ j % 2 = 1 := by omega
  rcases h2 with h2 | h2 <;> simp [h, h2]

/-- the words' cells, new -/
theorem words_made (n : Nat) (hn : n ≤ 4096) : ∃ C : Array Value, (∀ j, j < n * 2 → C[j]? = some (.int .i64 0)) ∧
    ∀ u : World, (Instr.makeSlice 78 (.int .i64 (n : Int)) (.int .i64 (n : Int))).run Tryz.prog u = .ok (.slice (some ⟨u.heap.size, 0, none⟩) n n) (u.alloc (.cells C 169)) := by
  obtain ⟨i0, hi, hz0, hz1, hz2⟩ := info_parts Tryz.infoWord
  refine ⟨madeCells #[Value.int .i64 0, Value.int .i64 0] (n * 2), fun j hj => made_two _ _ hj, fun u => ?_⟩
  have h := run_make (P := Tryz.prog) u 78 169 i0 (.agg #[.int .i64 0, .int .i64 0]) Tryz.underlying78 hi hz0 .i64 .i64 (n : Int) (n : Int) (by omega) (Int.le_refl _) (by rw [hz2]; omega) (by omega)
  simpa [hz1, Value.cells] using h

set_option maxHeartbeats 400000 in
theorem hnew_no (w : World) (a : Int) (ha : a < 1 ∨ 4096 < a) :
    Calls Tryz.prog 47 #[.int .i64 a] w fun e w' => e = .returned (.tuple #[.agg #[.slice none 0 0], .int .i64 5]) ∧ Fr NoB w w' := by
  rcases ha with ha | ha
  · go_enter Tryz.func47, Tryz.ntmps47
    go_wp2
    refine bodyPost_ret (v := .tuple #[.agg #[.slice none 0 0], .int .i64 5]) (by simp [results, Tryz.results47, go_sem]) rfl ⟨rfl, ?_⟩
    repeat (first | exact Fr.refl _ _ | refine Fr.setCell ?_ (fun h => absurd h (Nat.lt_irrefl _)) _ | refine Fr.alloc ?_ _)
  · have ha0 : ¬ a < 1 := by omega
    go_enter Tryz.func47, Tryz.ntmps47
    go_wp2
    refine bodyPost_ret (v := .tuple #[.agg #[.slice none 0 0], .int .i64 5]) (by simp [results, Tryz.results47, go_sem]) rfl ⟨rfl, ?_⟩
    repeat (first | exact Fr.refl _ _ | refine Fr.setCell ?_ (fun h => absurd h (Nat.lt_irrefl _)) _ | refine Fr.alloc ?_ _)

set_option maxHeartbeats 400000 in
theorem hnew_yes (w : World) (n : Nat) (h1 : 1 ≤ n) (h2 : n ≤ 4096) :
    Calls Tryz.prog 47 #[.int .i64 (n : Int)] w fun e w' => ∃ r, e = .returned (.tuple #[.agg #[.slice (some ⟨r, 0, none⟩) n n], .int .i64 0]) ∧ Fr NoB w w' ∧
      w.heap.size ≤ r ∧ r < w'.heap.size ∧ (∀ j, j < n * 2 → w'.cell? ⟨r, j, none⟩ = some (.int .i64 0)) ∧ (∀ o, w'.frozen? ⟨r, o, none⟩ = false) := by
  obtain ⟨C, hC, hmk⟩ := words_made n h2
  have HC : Hid (∀ j, j < n * 2 → C[j]? = some (.int .i64 0)) := hC
  clear hC
  go_enter Tryz.func47, Tryz.ntmps47
  go_wp2
  refine bodyPost_ret (v := .tuple #[.agg #[.slice (some ⟨w.heap.size + 1, 0, none⟩) n n], .int .i64 0]) (by simp [results, Tryz.results47, go_sem]) rfl ⟨w.heap.size + 1, rfl, ?_, by omega, by simp, ?_, ?_⟩
  · repeat (first | exact Fr.refl _ _ | refine Fr.setCell ?_ (fun h => absurd h (Nat.lt_irrefl _)) _ | refine Fr.alloc ?_ _)
  · intro j hj
    rw [World.cell?_alloc_at _ _ _ _ (by simp)]
    exact HC.out j hj
  · intro o
    rw [World.frozen?_alloc_at _ _ _ _ (by simp)]

set_option maxHeartbeats 400000 in
theorem new_no (w : World) (a : Int) (ha : a < 1 ∨ 4096 < a) :
    Calls Tryz.prog 24 #[.int .i64 a] w fun e w' => e = .returned (.tuple #[.pointer none, .int .i64 5]) ∧ Fr NoB w w' := by
  go_enter Tryz.func24, Tryz.ntmps24
  go_wp2_with (go_at_call 47; refine (hnew_no _ a ha).mono ?_; rintro e w1 ⟨rfl, hf⟩)
  go_ret2
  refine ⟨rfl, ?_⟩
  repeat (first | exact hf | refine Fr.setCell ?_ (fun h => absurd h (by have := hf.size; simp; omega)) _ | refine Fr.alloc ?_ _)

set_option maxHeartbeats 400000 in
theorem new_yes (w : World) (n : Nat) (h1 : 1 ≤ n) (h2 : n ≤ 4096) :
    Calls Tryz.prog 24 #[.int .i64 (n : Int)] w fun e w' => ∃ p r, e = .returned (.tuple #[.pointer (some ⟨p, 0, none⟩), .int .i64 0]) ∧ Fr NoB w w' ∧
      w.heap.size ≤ p ∧ w.heap.size ≤ r ∧ HeapAt w' p r n (fun _ => 0) (fun _ => 0) := by
  go_enter Tryz.func24, Tryz.ntmps24
  go_wp2_with fail
  refine (hnew_yes _ n h1 h2).mono ?_
  rintro e w1 ⟨r, rfl, hf, hr1, hr2, hc, hz⟩
  have Hc : Hid (∀ j, j < n * 2 → w1.cell? ⟨r, j, none⟩ = some (.int .i64 0)) := hc
  have Hz : Hid (∀ o, w1.frozen? ⟨r, o, none⟩ = false) := hz
  clear hc hz
  go_wp2
  go_ret2
  have hs := hf.size
  refine ⟨w1.heap.size + 1, r, rfl, (hf.alloc _).alloc _, by omega, hr1, ?_⟩
  have hkeep : Fr NoB w1 ((w1.alloc (Obj.cells #[Value.slice (some { block := r, off := 0 }) n n] 80)).alloc (Obj.cells #[Value.slice (some { block := r, off := 0 }) n n] 113)) := ((Fr.refl _ _).alloc _).alloc _
  refine ⟨h1, h2, by omega, ?_, ?_, ?_, ?_, fun _ _ => Int.le_refl _, fun i _ => by omega⟩
  · rw [World.cell?_alloc_at _ _ _ _ (by simp)]; rfl
  · intro i hi; exact hkeep.cell_some (Hc.out (i * 2) (by omega)) id
  · intro i hi; exact hkeep.cell_some (Hc.out (i * 2 + 1) (by omega)) id
  · intro o; exact (hkeep.frozen (p := ⟨r, o, none⟩) hr2 id).trans (Hz.out o)

/- The wrappers of package steward. -/
set_option maxHeartbeats 400000 in
theorem sload_no (w : World) (p r n : Nat) (B V : Nat → Int) (a : Int) (h : HeapAt w p r n B V) (ht : takenB B n a = false) :
    Calls Tryz.prog 54 #[.pointer (some ⟨p, 0, none⟩), .int .i64 a] w fun e w' => e = .returned (.tuple #[.int .i64 0, .int .i64 7]) ∧ w' = w := by
  have hp := h.ptr
  go_enter Tryz.func54, Tryz.ntmps54
  go_wp2_with (go_at_call 96; refine (load_no _ p r n B V a h ht).mono ?_; rintro e w' ⟨rfl, rfl⟩)
  go_ret2
  exact ⟨rfl, rfl⟩
set_option maxHeartbeats 400000 in
theorem sload_yes (w : World) (p r n : Nat) (B V : Nat → Int) (k : Nat) (h : HeapAt w p r n B V) (hk : k < n) (ht : B k ≠ 0) :
    Calls Tryz.prog 54 #[.pointer (some ⟨p, 0, none⟩), .int .i64 (k : Int)] w fun e w' => e = .returned (.tuple #[.int .i64 (V k), .int .i64 0]) ∧ w' = w := by
  have hp := h.ptr
  go_enter Tryz.func54, Tryz.ntmps54
  go_wp2_with (go_at_call 96; refine (load_yes _ p r n B V k h hk ht).mono ?_; rintro e w' ⟨rfl, rfl⟩)
  go_ret2
  exact ⟨rfl, rfl⟩
set_option maxHeartbeats 400000 in
theorem sstore_no (w : World) (p r n : Nat) (B V : Nat → Int) (a u : Int) (h : HeapAt w p r n B V) (ht : takenB B n a = false) :
    Calls Tryz.prog 56 #[.pointer (some ⟨p, 0, none⟩), .int .i64 a, .int .i64 u] w fun e w' => e = .returned (.int .i64 7) ∧ w' = w := by
  have hp := h.ptr
  go_enter Tryz.func56, Tryz.ntmps56
  go_wp2_with (go_at_call 97; refine (store_no _ p r n B V a u h ht).mono ?_; rintro e w' ⟨rfl, rfl⟩)
  go_ret
  exact ⟨rfl, rfl⟩
set_option maxHeartbeats 400000 in
theorem sstore_arg (w : World) (p r n : Nat) (B V : Nat → Int) (k : Nat) (u : Int) (h : HeapAt w p r n B V) (hk : k < n) (ht : B k ≠ 0) (hu : u < 0 ∨ 1000 ≤ u) :
    Calls Tryz.prog 56 #[.pointer (some ⟨p, 0, none⟩), .int .i64 (k : Int), .int .i64 u] w fun e w' => e = .returned (.int .i64 5) ∧ w' = w := by
  have hp := h.ptr
  go_enter Tryz.func56, Tryz.ntmps56
  go_wp2_with (go_at_call 97; refine (store_arg _ p r n B V k u h hk ht hu).mono ?_; rintro e w' ⟨rfl, rfl⟩)
  go_ret
  exact ⟨rfl, rfl⟩
set_option maxHeartbeats 400000 in
theorem sstore_yes (w : World) (p r n : Nat) (B V : Nat → Int) (k : Nat) (u : Int) (h : HeapAt w p r n B V) (hk : k < n) (ht : B k ≠ 0) (hu0 : 0 ≤ u) (hu1 : u < 1000) :
    Calls Tryz.prog 56 #[.pointer (some ⟨p, 0, none⟩), .int .i64 (k : Int), .int .i64 u] w fun e w' => e = .returned (.int .i64 0) ∧ HeapAt w' p r n B (upd V k u) ∧ Fr (OneB r) w w' := by
  have hp := h.ptr
  have H : Hid (HeapAt (w.setCell ⟨r, k * 2 + 1, none⟩ (.int .i64 u)) p r n B (upd V k u) ∧ Fr (OneB r) w (w.setCell ⟨r, k * 2 + 1, none⟩ (.int .i64 u))) := ⟨h.setVal hk u, (Fr.refl (OneB r) w).setCell (p := ⟨r, k * 2 + 1, none⟩) (fun _ => rfl) _⟩
  go_enter Tryz.func56, Tryz.ntmps56
  go_wp2_with (go_at_call 97; refine (store_yes _ p r n B V k u h hk ht hu0 hu1).mono ?_; rintro e w' ⟨rfl, rfl⟩)
  go_ret
  exact ⟨rfl, H.out⟩
set_option maxHeartbeats 400000 in
theorem sfree_no (w : World) (p r n : Nat) (B V : Nat → Int) (a : Int) (h : HeapAt w p r n B V) (ht : takenB B n a = false) :
    Calls Tryz.prog 52 #[.pointer (some ⟨p, 0, none⟩), .int .i64 a] w fun e w' => e = .returned (.int .i64 7) ∧ w' = w := by
  have hp := h.ptr
  go_enter Tryz.func52, Tryz.ntmps52
  go_wp2_with (go_at_call 94; refine (free_no _ p r n B V a h ht).mono ?_; rintro e w' ⟨rfl, rfl⟩)
  go_ret
  exact ⟨rfl, rfl⟩
set_option maxHeartbeats 400000 in
theorem sfree_mid (w : World) (p r n : Nat) (B V : Nat → Int) (k : Nat) (h : HeapAt w p r n B V) (hk : k < n) (ht : B k ≠ 0) (hs : B k ≠ (k : Int) + 1) :
    Calls Tryz.prog 52 #[.pointer (some ⟨p, 0, none⟩), .int .i64 (k : Int)] w fun e w' => e = .returned (.int .i64 7) ∧ w' = w := by
  have hp := h.ptr
  go_enter Tryz.func52, Tryz.ntmps52
  go_wp2_with (go_at_call 94; refine (free_mid _ p r n B V k h hk ht hs).mono ?_; rintro e w' ⟨rfl, rfl⟩)
  go_ret
  exact ⟨rfl, rfl⟩
set_option maxHeartbeats 400000 in
theorem sfree_yes (w : World) (p r n : Nat) (B V : Nat → Int) (k : Nat) (h : HeapAt w p r n B V) (hk : k < n) (hs : B k = (k : Int) + 1) :
    Calls Tryz.prog 52 #[.pointer (some ⟨p, 0, none⟩), .int .i64 (k : Int)] w fun e w' => e = .returned (.int .i64 0) ∧
      ∃ z, k < z ∧ z ≤ n ∧ (∀ i, k ≤ i → i < z → B i = (k : Int) + 1) ∧ (z = n ∨ B z ≠ (k : Int) + 1) ∧ HeapAt w' p r n (clearTo B k z) (clearTo V k z) ∧ Fr (OneB r) w w' := by
  have hp := h.ptr
  have Hs : Hid (B k = (k : Int) + 1) := hs
  clear hs
  go_enter Tryz.func52, Tryz.ntmps52
  go_wp2_with fail
  refine (free_yes _ p r n B V k h hk Hs.out).mono ?_
  rintro e w' ⟨rfl, hq⟩
  have Hq := show Hid (∃ z, k < z ∧ z ≤ n ∧ (∀ i, k ≤ i → i < z → B i = (k : Int) + 1) ∧ (z = n ∨ B z ≠ (k : Int) + 1) ∧ HeapAt w' p r n (clearTo B k z) (clearTo V k z) ∧ Fr (OneB r) w w') from hq
  clear hq
  go_wp2
  go_ret
  exact ⟨rfl, Hq.out⟩
set_option maxHeartbeats 400000 in
theorem salloc_arg (w : World) (p r n : Nat) (B V : Nat → Int) (k : Int) (h : HeapAt w p r n B V) (hk : k < 1 ∨ 64 < k) :
    Calls Tryz.prog 50 #[.pointer (some ⟨p, 0, none⟩), .int .i64 k] w fun e w' => e = .returned (.tuple #[.int .i64 0, .int .i64 5]) ∧ w' = w := by
  have hp := h.ptr
  go_enter Tryz.func50, Tryz.ntmps50
  go_wp2_with (go_at_call 92; refine (alloc_arg _ p k hk).mono ?_; rintro e w' ⟨rfl, rfl⟩)
  go_ret2
  exact ⟨rfl, rfl⟩
set_option maxHeartbeats 400000 in
theorem salloc_any (w : World) (p r n : Nat) (B V : Nat → Int) (k : Nat) (h : HeapAt w p r n B V) (hk1 : 1 ≤ k) (hk2 : k ≤ 64) :
    Calls Tryz.prog 50 #[.pointer (some ⟨p, 0, none⟩), .int .i64 (k : Int)] w fun e w' =>
      (∃ a : Nat, FreeAt B n k a ∧ (∀ b, FreeAt B n k b → a ≤ b) ∧ e = .returned (.tuple #[.int .i64 (a : Int), .int .i64 0]) ∧ HeapAt w' p r n (markTo B a (a + k)) V ∧ Fr (OneB r) w w') ∨
      ((∀ b, ¬ FreeAt B n k b) ∧ e = .returned (.tuple #[.int .i64 0, .int .i64 6]) ∧ Fr NoB w w') := by
  have hp := h.ptr
  go_enter Tryz.func50, Tryz.ntmps50
  go_wp2_with fail
  refine (alloc_any _ p r n B V k h hk1 hk2).mono ?_
  intro e w' hq
  rcases hq with ⟨a, h1, h2, rfl, h4, h5⟩ | ⟨h1, rfl, h3⟩
  · have H : Hid (FreeAt B n k a ∧ (∀ b, FreeAt B n k b → a ≤ b) ∧ HeapAt w' p r n (markTo B a (a + k)) V ∧ Fr (OneB r) w w') := ⟨h1, h2, h4, h5⟩
    clear h1 h2 h4 h5
    go_wp2
    go_ret2
    exact .inl ⟨a, H.out.1, H.out.2.1, rfl, H.out.2.2⟩
  · have H : Hid ((∀ b, ¬ FreeAt B n k b) ∧ Fr NoB w w') := ⟨h1, h3⟩
    clear h1 h3
    go_wp2
    go_ret2
    exact .inr ⟨H.out.1, rfl, H.out.2⟩
set_option maxHeartbeats 400000 in
theorem sruns_any (w : World) (p r n : Nat) (B V : Nat → Int) (h : HeapAt w p r n B V) :
    Calls Tryz.prog 98 #[.pointer (some ⟨p, 0, none⟩)] w fun e w' =>
      ∃ v L, e = .returned v ∧ IsRuns B n 0 L ∧ w'.ownsRow w.heap.size 82 2 v L.length (spanCells L) ∧ Fr NoB w w' := by
  have hp := h.ptr
  go_enter Tryz.func98, Tryz.ntmps98
  go_wp2_with fail
  refine (runs_any _ p r n B V h).mono ?_
  rintro e w' ⟨v, L, rfl, h2, h3, h4⟩
  have H : Hid (IsRuns B n 0 L ∧ w'.ownsRow w.heap.size 82 2 v L.length (spanCells L) ∧ Fr NoB w w') := ⟨h2, h3, h4⟩
  clear h2 h3 h4
  go_wp2
  go_ret
  exact ⟨v, L, rfl, H.out⟩
end Go.Proofs.YthcjcjfgdgnljaaGreatDoor

namespace Go.Proofs.YthcjcjfgdgnljaaGreatDoor
open Go.RowKit

def AppKind (w w' : World) (v v' : Value) (n m : Nat) : Prop :=
  (∃ cap, v' = .slice (some ⟨w.heap.size, 0, none⟩) (n + m) cap ∧ w.grownBy w' none) ∨
  (∃ g cap, v = .slice (some ⟨g, 0, none⟩) n cap ∧ v' = .slice (some ⟨g, 0, none⟩) (n + m) cap ∧ w.grownBy w' (some g))

section
variable {P : Program} (w : World)

theorem run_append_kind (base : Nat) (t ty e : TypeId) (i : TypeInfo) (z : Value) (size bytes : Nat) (ht : P.underlying t = some (.slice e)) (hi : P.info? e = some i) (hz : i.zero = some z)
    (hsize : i.size = size) (hby : i.bytes = bytes) (hzs : z.cells.size = size) (hsz : 0 < size)
    (v : Value) (n : Nat) (xs : List Value) (hown : w.ownsRow base e size v n xs)
    (a : Addr) (m c : Nat) (news : List Value) (hm : 0 < m) (hl : news.length = m * size) (hnews : ∀ j u, news[j]? = some u → w.cell? (a.add j) = some u) (h1 : ∀ u ∈ news, u.oneCell' = true)
    (h63 : n + m ≤ maxLen) (hbytes : ((n + m) + (n + m) / 4 + 192) * bytes ≤ 281474976710656) (hbase : base ≤ w.heap.size) :
    ∃ v' w', (Builtin.append_ #[t, t] ty #[v, .slice (some a) m c]).run P w = .ok v' w' ∧ w'.ownsRow base e size v' (n + m) (xs ++ news) ∧ AppKind w w' v v' n m := by
  obtain ⟨v', w', hr, h2, h3, _⟩ := run_append_own_wide (P := P) w base t ty e i z size bytes ht hi hz hsize hby hzs hsz v n xs hown a m c news hl hnews h1 h63 hbytes hbase
  refine ⟨v', w', hr, h2, ?_⟩
  have hsmall : n + m ≤ 9223372036854775807 := by simp only [maxLen] at h63; omega
  subst hsize
  subst hby
  rcases hown.2 with ⟨rfl, rfl⟩ | ⟨g, cap, cur, rfl, hbg, hg, hnc, hcm, hcs, htake⟩
  · have h48 : m * i.bytes ≤ 281474976710656 := Nat.le_trans (Nat.mul_le_mul_right _ (by omega)) hbytes
    have hr2 := run_append_nil (P := P) w t ty e i z ht hi hz a m c news hl hnews hm (by omega) h48
    have he := hr.symm.trans hr2
    injection he with e1 e2
    refine .inl ⟨grownCap w m 0 e, by rw [e1]; simp, ?_⟩
    rw [e2]
    exact ⟨rfl, rfl, rfl, by simp, fun k hk _ => Below.heap_alloc w.drew _ k hk⟩
  · by_cases hroom : n + m ≤ cap
    · have hfit : n * i.size + news.length ≤ cur.size := by rw [hl, hcs, ← Nat.add_mul]; exact Nat.mul_le_mul_right _ hroom
      have hr2 := run_append_room (P := P) w t ty e i ht hi g n cap cur hg a m c news hl hnews h1 hroom hfit
      have he := hr.symm.trans hr2
      injection he with e1 e2
      exact .inr ⟨g, cap, rfl, e1, h3⟩
    · have holds : ∀ j u, xs[j]? = some u → w.cell? ((⟨g, 0, none⟩ : Addr).add j) = some u := hown.cells (g := g) rfl
      have hr2 := run_append_grow (P := P) w t ty e i z ht hi hz ⟨g, 0, none⟩ n cap xs hown.1 holds a m c news hl hnews (by omega) (by omega) (growslice_fits_wide (by omega) hbytes)
      have he := hr.symm.trans hr2
      injection he with e1 e2
      refine .inl ⟨grownCap w (n + m) cap e, e1, ?_⟩
      rw [e2]
      exact ⟨rfl, rfl, rfl, by simp, fun k hk _ => Below.heap_alloc w.drew _ k hk⟩

theorem wpList_append_kind {ops : Array Oper} {rest : List Oper} {o : Oper} {a : Act} {Q : Exit → Act → World → Prop} (hgd : o.guard = none) (s x : Operand) (t : TypeId)
    (ho : o.op = .call { callee := .builtin .append, args := #[s, x], argTypes := #[t, t] })
    (base : Nat) (e : TypeId) (i : TypeInfo) (z : Value) (size bytes : Nat) (ht : P.underlying t = some (.slice e)) (hi : P.info? e = some i) (hz : i.zero = some z)
    (hsize : i.size = size) (hby : i.bytes = bytes) (hzs : z.cells.size = size) (hsz : 0 < size)
    (v : Value) (n : Nat) (xs : List Value) (hs : a.eval s = v) (hown : w.ownsRow base e size v n xs)
    (ad : Addr) (m c : Nat) (news : List Value) (hm : 0 < m) (hx : a.eval x = .slice (some ad) m c) (hl : news.length = m * size) (hnews : ∀ j u, news[j]? = some u → w.cell? (ad.add j) = some u) (h1 : ∀ u ∈ news, u.oneCell' = true)
    (h63 : n + m ≤ maxLen) (hbytes : ((n + m) + (n + m) / 4 + 192) * bytes ≤ 281474976710656) (hbase : base ≤ w.heap.size)
    (h : ∀ v' w', w'.ownsRow base e size v' (n + m) (xs ++ news) → AppKind w w' v v' n m → wpList P ops Q rest (a.put o.dst v') w') : wpList P ops Q (o :: rest) a w := by
  refine wpList_plain hgd fun K hK => ?_
  obtain ⟨v', w', hr, h2, h3⟩ := run_append_kind (P := P) w base t o.type e i z size bytes ht hi hz hsize hby hzs hsz v n xs hown ad m c news hm hl hnews h1 h63 hbytes hbase
  unfold Oper.wp execOp
  simp only [ho, resolve, invoke, builtin, Sem.run_bind, Sem.run_pure, Result.andThen_ok, List.map_toArray, List.map_cons, List.map_nil, hs, hx, hr]
  exact hK _ _ (h v' w' h2 h3)
end

/-- what was owned is owned still -/
theorem AppKind.keep {w w' : World} {v v' : Value} {n m base : Nat} {e : TypeId} {size : Nat} {xs news : List Value} (h : AppKind w w' v v' n m) (ho : w.ownsRow base e size v n xs) (ho' : w'.ownsRow base e size v' (n + m) (xs ++ news)) : w'.ownsRow base e size v n xs := by
  rcases h with ⟨cap, _, hg⟩ | ⟨g, cap, rfl, rfl, hg⟩
  · exact ho.kept hg (by cases hv : v.ownBlock <;> simp)
  · refine ⟨ho.1, .inr ?_⟩
    rcases ho.2 with ⟨hv, _⟩ | ⟨g0, cap0, cur0, hv, hb0, _, hn0, hc0, _, _⟩
    · cases hv
    · cases hv
      rcases ho'.2 with ⟨hv, _⟩ | ⟨g1, cap1, cur1, hv, hb1, hh1, hn1, hc1, hs1, ht1⟩
      · cases hv
      · cases hv
        refine ⟨g, cap, cur1, rfl, hb0, hh1, hn0, hc0, hs1, ?_⟩
        have hx := ho.1
        have : cur1.toList.take (n * size) = (cur1.toList.take ((n + m) * size)).take (n * size) := by
          rw [List.take_take, Nat.min_eq_left (Nat.mul_le_mul_right _ (by omega))]
        rw [this, ht1, ← hx, List.take_left]
theorem AppKind.fr {w w' : World} {v v' : Value} {n m : Nat} (h : AppKind w w' v v' n m) : Fr (fun q => v.ownBlock = some q) w w' := by
  rcases h with ⟨cap, _, hg⟩ | ⟨g, cap, rfl, rfl, hg⟩
  · exact Fr.of_grown hg (fun k _ e => by cases e)
  · exact Fr.of_grown hg (fun k _ e => e)
/-- where the new row lies -/
theorem AppKind.place {w w' : World} {v v' : Value} {n m : Nat} (h : AppKind w w' v v' n m) : ∃ g cap, v' = .slice (some ⟨g, 0, none⟩) (n + m) cap ∧ (g = w.heap.size ∨ v.ownBlock = some g) := by
  rcases h with ⟨cap, hv, _⟩ | ⟨g, cap, rfl, hv, _⟩
  · exact ⟨_, cap, hv, .inl rfl⟩
  · exact ⟨g, cap, hv, .inr rfl⟩
end Go.Proofs.YthcjcjfgdgnljaaGreatDoor
