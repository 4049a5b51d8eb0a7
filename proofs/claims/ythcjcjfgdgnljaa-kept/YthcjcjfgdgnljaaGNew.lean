/-
  New: one behind the other.
-/
import Derived.Test.YthcjcjfgdgnljaaGFree
namespace Go.Proofs.Ythcjcjfgdgnljaa
open Go.RowKit

theorem Try.infoWord : (Try.prog.info? 80).map (fun i => (i.zero, i.size, i.bytes)) = some (some (.agg #[.int .i64 0, .int .i64 0]), 2, 16) := by kernel_rfl

theorem made_two (n j : Nat) (h : j < n) : (madeCells #[Value.int .i64 0, Value.int .i64 0] n)[j]? = some (.int .i64 0) := by
  unfold madeCells
  have h2 : j % 2 = 0 ∨ j % 2 = 1 := by omega
  rcases h2 with h2 | h2 <;> simp [h, h2]

/-- the words' cells, new -/
theorem words_made (n : Nat) (hn : n ≤ 4096) : ∃ C : Array Value, (∀ j, j < n * 2 → C[j]? = some (.int .i64 0)) ∧
    ∀ u : World, (Instr.makeSlice 55 (.int .i64 (n : Int)) (.int .i64 (n : Int))).run Try.prog u = .ok (.slice (some ⟨u.heap.size, 0, none⟩) n n) (u.alloc (.cells C 80)) := by
  obtain ⟨i0, hi, hz0, hz1, hz2⟩ := info_parts Try.infoWord
  refine ⟨madeCells #[Value.int .i64 0, Value.int .i64 0] (n * 2), fun j hj => made_two _ _ hj, fun u => ?_⟩
  have h := run_make (P := Try.prog) u 55 80 i0 (.agg #[.int .i64 0, .int .i64 0]) Try.underlying55 hi hz0 .i64 .i64 (n : Int) (n : Int) (by omega) (Int.le_refl _) (by rw [hz2]; omega) (by omega)
  simpa [hz1, Value.cells] using h

set_option maxHeartbeats 400000 in
theorem hnew_yes (w : World) (n : Nat) (h1 : 1 ≤ n) (h2 : n ≤ 4096) :
    Calls Try.prog 21 #[.int .i64 (n : Int)] w fun e w' => ∃ r, e = .returned (.tuple #[.agg #[.slice (some ⟨r, 0, none⟩) n n], .int .i64 0]) ∧ Fr NoB w w' ∧
      w.heap.size ≤ r ∧ r < w'.heap.size ∧ (∀ j, j < n * 2 → w'.cell? ⟨r, j, none⟩ = some (.int .i64 0)) ∧ (∀ o, w'.frozen? ⟨r, o, none⟩ = false) := by
  obtain ⟨C, hC, hmk⟩ := words_made n h2
  have HC : Hid (∀ j, j < n * 2 → C[j]? = some (.int .i64 0)) := hC
  clear hC
  go_enter Try.func21, Try.ntmps21
  go_wp2
  refine bodyPost_ret (v := .tuple #[.agg #[.slice (some ⟨w.heap.size + 1, 0, none⟩) n n], .int .i64 0]) (by simp [results, Try.results21, go_sem]) rfl ⟨w.heap.size + 1, rfl, ?_, by omega, by simp, ?_, ?_⟩
  · repeat (first | exact Fr.refl _ _ | refine Fr.setCell ?_ (fun h => absurd h (Nat.lt_irrefl _)) _ | refine Fr.alloc ?_ _)
  · intro j hj
    rw [World.cell?_alloc_at _ _ _ _ (by simp)]
    exact HC.out j hj
  · intro o
    rw [World.frozen?_alloc_at _ _ _ _ (by simp)]

set_option maxHeartbeats 400000 in
theorem new_yes (w : World) (n : Nat) (h1 : 1 ≤ n) (h2 : n ≤ 4096) :
    Calls Try.prog 7 #[.int .i64 (n : Int)] w fun e w' => ∃ p r, e = .returned (.tuple #[.pointer (some ⟨p, 0, none⟩), .int .i64 0]) ∧ Fr NoB w w' ∧
      w.heap.size ≤ p ∧ w.heap.size ≤ r ∧ HeapAt w' p r n (fun _ => 0) (fun _ => 0) := by
  go_enter Try.func7, Try.ntmps7
  go_wp2_with fail
  refine (hnew_yes _ n h1 h2).mono ?_
  rintro e w1 ⟨r, rfl, hf, hr1, hr2, hc, hz⟩
  have Hc : Hid (∀ j, j < n * 2 → w1.cell? ⟨r, j, none⟩ = some (.int .i64 0)) := hc
  have Hz : Hid (∀ o, w1.frozen? ⟨r, o, none⟩ = false) := hz
  clear hc hz
  go_wp2
  go_ret2
  have hs := hf.size
  refine ⟨w1.heap.size + 1, r, rfl, (hf.alloc _).alloc _, by omega, hr1, ?_⟩
  have hkeep : Fr NoB w1 ((w1.alloc (Obj.cells #[Value.slice (some { block := r, off := 0 }) n n] 57)).alloc (Obj.cells #[Value.slice (some { block := r, off := 0 }) n n] 61)) := ((Fr.refl _ _).alloc _).alloc _
  refine ⟨h1, h2, by omega, ?_, ?_, ?_, ?_, fun _ _ => Int.le_refl _, fun i _ => by omega⟩
  · rw [World.cell?_alloc_at _ _ _ _ (by simp)]; rfl
  · intro i hi; exact hkeep.cell_some (Hc.out (i * 2) (by omega)) id
  · intro i hi; exact hkeep.cell_some (Hc.out (i * 2 + 1) (by omega)) id
  · intro o; exact (hkeep.frozen (p := ⟨r, o, none⟩) hr2 id).trans (Hz.out o)

/- The wrappers of package steward. -/
set_option maxHeartbeats 400000 in
theorem sload_no (w : World) (p r n : Nat) (B V : Nat → Int) (a : Int) (h : HeapAt w p r n B V) (ht : takenB B n a = false) :
    Calls Try.prog 16 #[.pointer (some ⟨p, 0, none⟩), .int .i64 a] w fun e w' => e = .returned (.tuple #[.int .i64 0, .int .i64 7]) ∧ w' = w := by
  have hp := h.ptr
  go_enter Try.func16, Try.ntmps16
  go_wp2_with (go_at_call 28; refine (load_no _ p r n B V a h ht).mono ?_; rintro e w' ⟨rfl, rfl⟩)
  go_ret2
  exact ⟨rfl, rfl⟩
set_option maxHeartbeats 400000 in
theorem sload_yes (w : World) (p r n : Nat) (B V : Nat → Int) (k : Nat) (h : HeapAt w p r n B V) (hk : k < n) (ht : B k ≠ 0) :
    Calls Try.prog 16 #[.pointer (some ⟨p, 0, none⟩), .int .i64 (k : Int)] w fun e w' => e = .returned (.tuple #[.int .i64 (V k), .int .i64 0]) ∧ w' = w := by
  have hp := h.ptr
  go_enter Try.func16, Try.ntmps16
  go_wp2_with (go_at_call 28; refine (load_yes _ p r n B V k h hk ht).mono ?_; rintro e w' ⟨rfl, rfl⟩)
  go_ret2
  exact ⟨rfl, rfl⟩
set_option maxHeartbeats 400000 in
theorem sstore_yes (w : World) (p r n : Nat) (B V : Nat → Int) (k : Nat) (u : Int) (h : HeapAt w p r n B V) (hk : k < n) (ht : B k ≠ 0) (hu0 : 0 ≤ u) (hu1 : u < 1000) :
    Calls Try.prog 11 #[.pointer (some ⟨p, 0, none⟩), .int .i64 (k : Int), .int .i64 u] w fun e w' => e = .returned (.int .i64 0) ∧ HeapAt w' p r n B (upd V k u) ∧ Fr (OneB r) w w' := by
  have hp := h.ptr
  have H : Hid (HeapAt (w.setCell ⟨r, k * 2 + 1, none⟩ (.int .i64 u)) p r n B (upd V k u) ∧ Fr (OneB r) w (w.setCell ⟨r, k * 2 + 1, none⟩ (.int .i64 u))) := ⟨h.setVal hk u, (Fr.refl (OneB r) w).setCell (p := ⟨r, k * 2 + 1, none⟩) (fun _ => rfl) _⟩
  go_enter Try.func11, Try.ntmps11
  go_wp2_with (go_at_call 26; refine (store_yes _ p r n B V k u h hk ht hu0 hu1).mono ?_; rintro e w' ⟨rfl, rfl⟩)
  go_ret
  exact ⟨rfl, H.out⟩
set_option maxHeartbeats 400000 in
theorem sfree_no (w : World) (p r n : Nat) (B V : Nat → Int) (a : Int) (h : HeapAt w p r n B V) (ht : takenB B n a = false) :
    Calls Try.prog 8 #[.pointer (some ⟨p, 0, none⟩), .int .i64 a] w fun e w' => e = .returned (.int .i64 7) ∧ w' = w := by
  have hp := h.ptr
  go_enter Try.func8, Try.ntmps8
  go_wp2_with (go_at_call 22; refine (free_no _ p r n B V a h ht).mono ?_; rintro e w' ⟨rfl, rfl⟩)
  go_ret
  exact ⟨rfl, rfl⟩
set_option maxHeartbeats 400000 in
theorem sfree_yes (w : World) (p r n : Nat) (B V : Nat → Int) (k : Nat) (h : HeapAt w p r n B V) (hk : k < n) (hs : B k = (k : Int) + 1) :
    Calls Try.prog 8 #[.pointer (some ⟨p, 0, none⟩), .int .i64 (k : Int)] w fun e w' => e = .returned (.int .i64 0) ∧
      ∃ z, k < z ∧ z ≤ n ∧ (∀ i, k ≤ i → i < z → B i = (k : Int) + 1) ∧ (z = n ∨ B z ≠ (k : Int) + 1) ∧ HeapAt w' p r n (clearTo B k z) (clearTo V k z) ∧ Fr (OneB r) w w' := by
  have hp := h.ptr
  have Hs : Hid (B k = (k : Int) + 1) := hs
  clear hs
  go_enter Try.func8, Try.ntmps8
  go_wp2_with fail
  refine (free_yes _ p r n B V k h hk Hs.out).mono ?_
  rintro e w' ⟨rfl, hq⟩
  have Hq := show Hid (∃ z, k < z ∧ z ≤ n ∧ (∀ i, k ≤ i → i < z → B i = (k : Int) + 1) ∧ (z = n ∨ B z ≠ (k : Int) + 1) ∧ HeapAt w' p r n (clearTo B k z) (clearTo V k z) ∧ Fr (OneB r) w w') from hq
  clear hq
  go_wp2
  go_ret
  exact ⟨rfl, Hq.out⟩
set_option maxHeartbeats 400000 in
theorem salloc_any (w : World) (p r n : Nat) (B V : Nat → Int) (k : Nat) (h : HeapAt w p r n B V) (hk1 : 1 ≤ k) (hk2 : k ≤ 64) :
    Calls Try.prog 23 #[.pointer (some ⟨p, 0, none⟩), .int .i64 (k : Int)] w fun e w' =>
      (∃ a : Nat, FreeAt B n k a ∧ (∀ b, FreeAt B n k b → a ≤ b) ∧ e = .returned (.tuple #[.int .i64 (a : Int), .int .i64 0]) ∧ HeapAt w' p r n (markTo B a (a + k)) V ∧ Fr (OneB r) w w') ∨
      ((∀ b, ¬ FreeAt B n k b) ∧ e = .returned (.tuple #[.int .i64 0, .int .i64 6]) ∧ Fr NoB w w') := by
  have hp := h.ptr
  go_enter Try.func23, Try.ntmps23
  go_wp2_with fail
  refine (alloc_any _ p r n B V k h hk1 hk2).mono ?_
  intro e w' hq
  rcases hq with ⟨a, h1, h2, rfl, h4, h5⟩ | ⟨h1, rfl, h3⟩
  · have H : Hid (FreeAt B n k a ∧ (∀ b, FreeAt B n k b → a ≤ b) ∧ HeapAt w' p r n (markTo B a (a + k)) V ∧ Fr (OneB r) w w') := ⟨h1, h2, h4, h5⟩
    clear h1 h2 h4 h5
    go_wp2
    go_ret2
    exact .inl ⟨a, H.out.1, H.out.2.1, rfl, H.out.2.2⟩
  · have H : Hid ((∀ b, ¬ FreeAt B n k b) ∧ Fr NoB w w') := ⟨h1, h3⟩
    clear h1 h3
    go_wp2
    go_ret2
    exact .inr ⟨H.out.1, rfl, H.out.2⟩
set_option maxHeartbeats 400000 in
theorem sruns_any (w : World) (p r n : Nat) (B V : Nat → Int) (h : HeapAt w p r n B V) :
    Calls Try.prog 14 #[.pointer (some ⟨p, 0, none⟩)] w fun e w' =>
      ∃ v L, e = .returned v ∧ IsRuns B n 0 L ∧ w'.ownsRow w.heap.size 48 2 v L.length (spanCells L) ∧ Fr NoB w w' := by
  have hp := h.ptr
  go_enter Try.func14, Try.ntmps14
  go_wp2_with fail
  refine (runs_any _ p r n B V h).mono ?_
  rintro e w' ⟨v, L, rfl, h2, h3, h4⟩
  have H : Hid (IsRuns B n 0 L ∧ w'.ownsRow w.heap.size 48 2 v L.length (spanCells L) ∧ Fr NoB w w') := ⟨h2, h3, h4⟩
  clear h2 h3 h4
  go_wp2
  go_ret
  exact ⟨v, L, rfl, H.out⟩
end Go.Proofs.Ythcjcjfgdgnljaa
