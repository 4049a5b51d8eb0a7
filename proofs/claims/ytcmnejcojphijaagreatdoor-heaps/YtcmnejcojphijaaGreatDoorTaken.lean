import Derived.Test.YtcmnejcojphijaaGreatDoorBase
namespace Go.Proofs.YtcmnejcojphijaaGreatDoor
open Go.RowKit

theorem ret_bool {a b : Bool} (h : a = b) : Ending.returned (.bool a) = .returned (.bool b) := by rw [h]
theorem ret_int {k : IntKind} {a b : Int} (h : a = b) : Ending.returned (.int k a) = .returned (.int k b) := by rw [h]
theorem takenB_in {B : Nat → Int} {n k : Nat} (h : k < n) : takenB B n (k : Int) = (B k != 0) := by
  unfold takenB
  have h1 : (0 : Int) ≤ (k : Int) := by omega
  have h2 : (k : Int) < (n : Int) := by omega
  by_cases hb : B k = 0 <;> simp [h1, h2, hb]
theorem takenB_hi {B : Nat → Int} {n k : Nat} (h : ¬ k < n) : takenB B n (k : Int) = false := by
  unfold takenB
  have h2 : ¬ (k : Int) < (n : Int) := by omega
  simp [h2]
theorem takenB_neg {B : Nat → Int} {n : Nat} {a : Int} (h : ¬ 0 ≤ a) : takenB B n a = false := by
  unfold takenB
  simp [h]
theorem takenB_true {B : Nat → Int} {n : Nat} {a : Int} (h : takenB B n a = true) : ∃ k : Nat, a = (k : Int) ∧ k < n ∧ B k ≠ 0 := by
  unfold takenB at h
  simp at h
  refine ⟨a.toNat, by omega, by omega, h.2⟩

set_option maxHeartbeats 400000 in
theorem taken_any (w : World) (p r n : Nat) (B V : Nat → Int) (a : Int) (h : HeapAt w p r n B V) :
    Calls Tryz.prog 124 #[.pointer (some ⟨p, 0, none⟩), .int .i64 a] w fun e w' => e = .returned (.bool (takenB B n a)) ∧ w' = w := by
  have hn := h.hi
  have hp := h.ptr
  by_cases h0 : 0 ≤ a
  · obtain ⟨k, rfl⟩ := Int.eq_ofNat_of_zero_le h0
    by_cases h1 : k < n
    · have hc := h.blk k h1
      clear h
      go_enter Tryz.func124, Tryz.ntmps124
      go_wp2
      go_ret
      exact ⟨ret_bool (takenB_in h1).symm, rfl⟩
    · clear h
      go_enter Tryz.func124, Tryz.ntmps124
      go_wp2
      go_ret
      exact ⟨ret_bool (takenB_hi h1).symm, rfl⟩
  · clear h
    go_enter Tryz.func124, Tryz.ntmps124
    go_wp2
    go_ret
    exact ⟨ret_bool (takenB_neg (by omega)).symm, rfl⟩
/-- at a number that the caller holds as a natural one -/
theorem taken_in (w : World) (p r n : Nat) (B V : Nat → Int) (k : Nat) (h : HeapAt w p r n B V) (hk : k < n) :
    Calls Tryz.prog 124 #[.pointer (some ⟨p, 0, none⟩), .int .i64 (k : Int)] w fun e w' => e = .returned (.bool (B k != 0)) ∧ w' = w := by
  have := taken_any w p r n B V k h
  rwa [takenB_in hk] at this

set_option maxHeartbeats 400000 in
theorem load_no (w : World) (p r n : Nat) (B V : Nat → Int) (a : Int) (h : HeapAt w p r n B V) (ht : takenB B n a = false) :
    Calls Tryz.prog 96 #[.pointer (some ⟨p, 0, none⟩), .int .i64 a] w fun e w' => e = .returned (.tuple #[.int .i64 0, .int .i64 7]) ∧ w' = w := by
  go_enter Tryz.func96, Tryz.ntmps96
  go_wp2_with (go_at_call 124; refine (taken_any _ p r n B V a h).mono ?_; rintro e w' ⟨rfl, rfl⟩; rw [ht])
  go_ret2
  exact ⟨rfl, rfl⟩

set_option maxHeartbeats 400000 in
theorem load_yes (w : World) (p r n : Nat) (B V : Nat → Int) (k : Nat) (h : HeapAt w p r n B V) (hk : k < n) (ht : B k ≠ 0) :
    Calls Tryz.prog 96 #[.pointer (some ⟨p, 0, none⟩), .int .i64 (k : Int)] w fun e w' => e = .returned (.tuple #[.int .i64 (V k), .int .i64 0]) ∧ w' = w := by
  have hn := h.hi
  have hp := h.ptr
  have hc := h.val k hk
  have hb : (B k != 0) = true := by simpa using ht
  go_enter Tryz.func96, Tryz.ntmps96
  go_wp2_with (go_at_call 124; refine (taken_in _ p r n B V k h hk).mono ?_; rintro e w' ⟨rfl, rfl⟩; rw [hb])
  go_ret2
  exact ⟨rfl, rfl⟩

set_option maxHeartbeats 400000 in
theorem store_no (w : World) (p r n : Nat) (B V : Nat → Int) (a u : Int) (h : HeapAt w p r n B V) (ht : takenB B n a = false) :
    Calls Tryz.prog 97 #[.pointer (some ⟨p, 0, none⟩), .int .i64 a, .int .i64 u] w fun e w' => e = .returned (.int .i64 7) ∧ w' = w := by
  go_enter Tryz.func97, Tryz.ntmps97
  go_wp2_with (go_at_call 124; refine (taken_any _ p r n B V a h).mono ?_; rintro e w' ⟨rfl, rfl⟩; rw [ht])
  go_ret
  exact ⟨rfl, rfl⟩

set_option maxHeartbeats 400000 in
theorem store_arg (w : World) (p r n : Nat) (B V : Nat → Int) (k : Nat) (u : Int) (h : HeapAt w p r n B V) (hk : k < n) (ht : B k ≠ 0) (hu : u < 0 ∨ 1000 ≤ u) :
    Calls Tryz.prog 97 #[.pointer (some ⟨p, 0, none⟩), .int .i64 (k : Int), .int .i64 u] w fun e w' => e = .returned (.int .i64 5) ∧ w' = w := by
  have hb : (B k != 0) = true := by simpa using ht
  rcases hu with hu | hu
  · go_enter Tryz.func97, Tryz.ntmps97
    go_wp2_with (go_at_call 124; refine (taken_in _ p r n B V k h hk).mono ?_; rintro e w' ⟨rfl, rfl⟩; rw [hb])
    go_ret
    exact ⟨rfl, rfl⟩
  · have hu0 : ¬ u < 0 := by omega
    go_enter Tryz.func97, Tryz.ntmps97
    go_wp2_with (go_at_call 124; refine (taken_in _ p r n B V k h hk).mono ?_; rintro e w' ⟨rfl, rfl⟩; rw [hb])
    go_ret
    exact ⟨rfl, rfl⟩

set_option maxHeartbeats 400000 in
theorem store_yes (w : World) (p r n : Nat) (B V : Nat → Int) (k : Nat) (u : Int) (h : HeapAt w p r n B V) (hk : k < n) (ht : B k ≠ 0) (hu0 : 0 ≤ u) (hu1 : u < 1000) :
    Calls Tryz.prog 97 #[.pointer (some ⟨p, 0, none⟩), .int .i64 (k : Int), .int .i64 u] w fun e w' => e = .returned (.int .i64 0) ∧ w' = w.setCell ⟨r, k * 2 + 1, none⟩ (.int .i64 u) := by
  have hn := h.hi
  have hp := h.ptr
  have hc := h.val k hk
  have hf := h.frz (k * 2 + 1)
  have hb : (B k != 0) = true := by simpa using ht
  go_enter Tryz.func97, Tryz.ntmps97
  go_wp2_with (go_at_call 124; refine (taken_in _ p r n B V k h hk).mono ?_; rintro e w' ⟨rfl, rfl⟩; rw [hb])
  go_ret
  exact ⟨rfl, rfl⟩
end Go.Proofs.YtcmnejcojphijaaGreatDoor
