import Derived.Test.YtcmnejcojphijaaGreatDoorNextRun
namespace Go.Proofs.YtcmnejcojphijaaGreatDoor
open Go.RowKit

def clearTo (f : Nat → Int) (k j : Nat) : Nat → Int := fun i => if k ≤ i ∧ i < j then 0 else f i
theorem clearTo_start (f : Nat → Int) (k : Nat) {n : Nat} : ∀ i, i < n → clearTo f k k i = f i := fun i _ => by
  unfold clearTo; rw [if_neg (by omega)]
theorem clearTo_step (f : Nat → Int) {k j : Nat} (h : k ≤ j) {n : Nat} : ∀ i, i < n → clearTo f k (j + 1) i = upd (clearTo f k j) j 0 i := fun i _ => by
  unfold clearTo upd
  by_cases e : i = j
  · subst e; rw [if_pos (by omega), if_pos rfl]
  · rw [if_neg e]
    by_cases e2 : k ≤ i ∧ i < j
    · rw [if_pos (by omega)]; exact (if_pos e2).symm
    · rw [if_neg (by omega)]; exact (if_neg e2).symm
theorem clearTo_at (f : Nat → Int) (k j : Nat) : clearTo f k j j = f j := by unfold clearTo; rw [if_neg (by omega)]

theorem all_step {B : Nat → Int} {k j : Nat} {x : Int} (h : ∀ i, k ≤ i → i < j → B i = x) (hj : B j = x) : ∀ i, k ≤ i → i < j + 1 → B i = x := fun i h1 h2 => by
  by_cases e : i = j
  · subst e; exact hj
  · exact h i h1 (by omega)
theorem stop_at {B : Nat → Int} {j n : Nat} {x : Int} (hj : j ≤ n) (h : ¬ (j < n ∧ B j = x)) : j = n ∨ B j ≠ x := by
  by_cases e : B j = x
  · exact .inl (by have : ¬ j < n := fun hl => h ⟨hl, e⟩; omega)
  · exact .inr e
theorem lt_of_stop {B : Nat → Int} {k j n : Nat} {x : Int} (h1 : k ≤ j) (hk : k < n) (hb : B k = x) (h : j = n ∨ B j ≠ x) : k < j := by
  rcases h with h | h
  · omega
  · by_cases e : k = j
    · subst e; exact absurd hb h
    · omega

set_option maxHeartbeats 400000 in
theorem free_no (w : World) (p r n : Nat) (B V : Nat → Int) (a : Int) (h : HeapAt w p r n B V) (ht : takenB B n a = false) :
    Calls Tryz.prog 94 #[.pointer (some ⟨p, 0, none⟩), .int .i64 a] w fun e w' => e = .returned (.int .i64 7) ∧ w' = w := by
  go_enter Tryz.func94, Tryz.ntmps94
  go_wp2_with (go_at_call 124; refine (taken_any _ p r n B V a h).mono ?_; rintro e w' ⟨rfl, rfl⟩; rw [ht])
  go_ret
  exact ⟨rfl, rfl⟩

set_option maxHeartbeats 400000 in
theorem free_mid (w : World) (p r n : Nat) (B V : Nat → Int) (k : Nat) (h : HeapAt w p r n B V) (hk : k < n) (ht : B k ≠ 0) (hs : B k ≠ (k : Int) + 1) :
    Calls Tryz.prog 94 #[.pointer (some ⟨p, 0, none⟩), .int .i64 (k : Int)] w fun e w' => e = .returned (.int .i64 7) ∧ w' = w := by
  have hn := h.hi
  have hp := h.ptr
  have hc := h.blk k hk
  have hb : (B k != 0) = true := by simpa using ht
  have hs' : (B k != (k : Int) + 1) = true := by simpa using hs
  go_enter Tryz.func94, Tryz.ntmps94
  go_wp2_with (go_at_call 124; refine (taken_in _ p r n B V k h hk).mono ?_; rintro e w' ⟨rfl, rfl⟩; rw [hb])
  go_ret
  exact ⟨rfl, rfl⟩

set_option maxHeartbeats 1000000 in
theorem free_yes (w : World) (p r n : Nat) (B V : Nat → Int) (k : Nat) (h : HeapAt w p r n B V) (hk : k < n) (hs : B k = (k : Int) + 1) :
    Calls Tryz.prog 94 #[.pointer (some ⟨p, 0, none⟩), .int .i64 (k : Int)] w fun e w' => e = .returned (.int .i64 0) ∧
      ∃ z, k < z ∧ z ≤ n ∧ (∀ i, k ≤ i → i < z → B i = (k : Int) + 1) ∧ (z = n ∨ B z ≠ (k : Int) + 1) ∧ HeapAt w' p r n (clearTo B k z) (clearTo V k z) ∧ Fr (OneB r) w w' := by
  have hn := h.hi
  have hp := h.ptr
  have hc := h.blk k hk
  have hb : (B k != 0) = true := by simp [hs]; omega
  have hs' : (B k != (k : Int) + 1) = false := by simpa using hs
  have Hs : Hid (B k = (k : Int) + 1) := hs
  clear hs
  go_enter Tryz.func94, Tryz.ntmps94
  go_wp2_with (go_at_call 124; refine (taken_in _ p r n B V k h hk).mono ?_; rintro e w' ⟨rfl, hw⟩; have hw2 := hw.symm; clear hw; subst hw2; rw [hb])
  clear hc hp
  go_loopw [5] (fun t wq => ∃ j : Nat, k ≤ j ∧ j ≤ n ∧ t = .int .i64 j ∧ (∀ i, k ≤ i → i < j → B i = (k : Int) + 1) ∧ HeapAt wq p r n (clearTo B k j) (clearTo V k j) ∧ Fr (OneB r) w wq)
    (fun t _ => n - (intOf t).toNat)
  case atStart => exact ⟨k, Nat.le_refl _, by omega, rfl, fun i h1 h2 => absurd h2 (by omega), h.congr (clearTo_start B k) (clearTo_start V k), Fr.refl _ _⟩
  case round =>
    obtain ⟨j, hj1, hj2, rfl, hall, hq, hFq⟩ := hrel
    have Hall : Hid (∀ i, k ≤ i → i < j → B i = (k : Int) + 1) := hall
    clear hall
    by_cases hgo : j < n ∧ B j = (k : Int) + 1
    · obtain ⟨hjn, hjb⟩ := hgo
      have hqp := hq.ptr
      have hqb := hq.blk j hjn
      have hqv := hq.val j hjn
      have hqf := hq.frz (j * 2)
      have hqg := hq.frz (j * 2 + 1)
      rw [clearTo_at] at hqb
      have hjb' : (B j == (k : Int) + 1) = true := by simpa using hjb
      have Hjb : Hid (B j = (k : Int) + 1) := hjb
      clear hjb
      have hset := ((hq.setBlk hjn 0 (by omega) (by omega)).setVal hjn 0).congr (clearTo_step B hj1) (clearTo_step V hj1)
      have hFs := (hFq.setCell (p := ⟨r, j * 2, none⟩) (fun _ => rfl) (.int .i64 0)).setCell (p := ⟨r, j * 2 + 1, none⟩) (fun _ => rfl) (.int .i64 0)
      have H : Hid (HeapAt ((wr.setCell ⟨r, j * 2, none⟩ (.int .i64 0)).setCell ⟨r, j * 2 + 1, none⟩ (.int .i64 0)) p r n (clearTo B k (j + 1)) (clearTo V k (j + 1)) ∧ Fr (OneB r) w ((wr.setCell ⟨r, j * 2, none⟩ (.int .i64 0)).setCell ⟨r, j * 2 + 1, none⟩ (.int .i64 0))) := ⟨hset, hFs⟩
      clear hset hFs hq hFq
      go_wp2
      go_roundw
      case rel => exact ⟨j + 1, by omega, by omega, by go_num, all_step Hall.out Hjb.out, H.out.1, H.out.2⟩
      case measure => simp [intOf]; omega
    · have Hstop : Hid (j = n ∨ B j ≠ (k : Int) + 1) := stop_at hj2 hgo
      have hkj : k < j := lt_of_stop hj1 hk Hs.out Hstop.out
      have hqp := hq.ptr
      have hqb : j < n → wr.cell? ⟨r, j * 2, none⟩ = some (.int .i64 (B j)) := fun hjn => by have := hq.blk j hjn; rwa [clearTo_at] at this
      have hjb : j < n → (B j == (k : Int) + 1) = false := fun hjn => by
        rcases Hstop.out with h | h
        · omega
        · simpa using h
      clear hgo
      by_cases hjn : j < n
      all_goals
        go_wp2
        go_ret
        exact ⟨rfl, j, hkj, hj2, Hall.out, Hstop.out, hq, hFq⟩
end Go.Proofs.YtcmnejcojphijaaGreatDoor
