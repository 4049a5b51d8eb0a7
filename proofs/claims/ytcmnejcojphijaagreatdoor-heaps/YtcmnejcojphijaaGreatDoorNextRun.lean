import Derived.Test.YtcmnejcojphijaaGreatDoorTaken
namespace Go.Proofs.YtcmnejcojphijaaGreatDoor
open Go.RowKit

/-- a .. e: the first free run from f on. -/
structure RunFrom (B : Nat → Int) (n f a e : Nat) : Prop where
  fa : f ≤ a
  ae : a ≤ e
  en : e ≤ n
  skip : ∀ i, f ≤ i → i < a → B i ≠ 0
  free : ∀ i, a ≤ i → i < e → B i = 0
  top : a = n ∨ B a = 0
  stop : e = n ∨ B e ≠ 0

theorem grow_ne {B : Nat → Int} {f k : Nat} (h : ∀ i, f ≤ i → i < k → B i ≠ 0) (hk : B k ≠ 0) : ∀ i, f ≤ i → i < k + 1 → B i ≠ 0 := fun i h1 h2 => by
  by_cases e : i = k
  · subst e; exact hk
  · exact h i h1 (by omega)
theorem grow_eq {B : Nat → Int} {f k : Nat} (h : ∀ i, f ≤ i → i < k → B i = 0) (hk : B k = 0) : ∀ i, f ≤ i → i < k + 1 → B i = 0 := fun i h1 h2 => by
  by_cases e : i = k
  · subst e; exact hk
  · exact h i h1 (by omega)
theorem top_of {B : Nat → Int} {k n : Nat} (hk : k ≤ n) (h : ¬ (k < n ∧ B k ≠ 0)) : k = n ∨ B k = 0 := by
  by_cases e : B k = 0
  · exact .inr e
  · exact .inl (by have : ¬ k < n := fun hl => h ⟨hl, e⟩; omega)
theorem stop_of {B : Nat → Int} {k n : Nat} (hk : k ≤ n) (h : ¬ (k < n ∧ B k = 0)) : k = n ∨ B k ≠ 0 := by
  by_cases e : B k = 0
  · exact .inl (by have : ¬ k < n := fun hl => h ⟨hl, e⟩; omega)
  · exact .inr e

set_option maxHeartbeats 1000000 in
theorem nextRun_any (w : World) (p r n : Nat) (B V : Nat → Int) (f : Nat) (h : HeapAt w p r n B V) (hf : f ≤ n) :
    Calls Tryz.prog 123 #[.pointer (some ⟨p, 0, none⟩), .int .i64 (f : Int)] w fun e w' =>
      ∃ a z : Nat, e = .returned (.agg #[.int .i64 (a : Int), .int .i64 ((z : Int) - (a : Int))]) ∧ RunFrom B n f a z ∧ Fr NoB w w' := by
  have hn := h.hi
  have hpl := h.pl
  have hp := h.ptr
  go_enter Tryz.func123, Tryz.ntmps123
  go_wp2
  go_loop [5] (fun t => ∃ k : Nat, f ≤ k ∧ k ≤ n ∧ (∀ i, f ≤ i → i < k → B i ≠ 0) ∧ t = .int .i64 k) (fun t => n - (intOf t).toNat)
  case atStart => exact ⟨f, Nat.le_refl _, hf, fun i h1 h2 => absurd h2 (by omega), rfl⟩
  case round =>
    obtain ⟨k, hk1, hk2, hk3, rfl⟩ := hrel
    have h1 : HeapAt (w.alloc (.cells #[.int .i64 0, .int .i64 0] 82)) p r n B V := h.no ((Fr.refl _ _).alloc _)
    have Hk3 : Hid (∀ i, f ≤ i → i < k → B i ≠ 0) := hk3
    clear hk3
    by_cases hgo : k < n ∧ B k ≠ 0
    · obtain ⟨hlt, hb⟩ := hgo
      have hbb : (B k != 0) = true := by simpa using hb
      have Hb : Hid (B k ≠ 0) := hb
      clear hb
      go_wp2_with (go_at_call 124; refine (taken_in _ p r n B V k h1 hlt).mono ?_; rintro e w' ⟨rfl, rfl⟩; rw [hbb])
      go_round
      case rel => exact ⟨k + 1, by omega, by omega, grow_ne Hk3.out Hb.out, by go_num⟩
      case measure => simp [intOf]; omega
    · have Htop : Hid (k = n ∨ B k = 0) := top_of hk2 hgo
      have hbb : k < n → (B k != 0) = false := fun hlt => by
        rcases Htop.out with h | h
        · omega
        · simpa using h
      clear hgo
      by_cases hlt : k < n
      all_goals
        go_wp2_with (go_at_call 124; refine (taken_in _ p r n B V k h1 hlt).mono ?_; rintro e w' ⟨rfl, rfl⟩; rw [hbb hlt])
        go_loop [6] (fun t => ∃ z : Nat, k ≤ z ∧ z ≤ n ∧ (∀ i, k ≤ i → i < z → B i = 0) ∧ t = .int .i64 z) (fun t => n - (intOf t).toNat)
        case atStart => exact ⟨k, Nat.le_refl _, hk2, fun i h1 h2 => absurd h2 (by omega), rfl⟩
        case round =>
          obtain ⟨z, hz1, hz2, hz3, rfl⟩ := hrel
          have Hz3 : Hid (∀ i, k ≤ i → i < z → B i = 0) := hz3
          clear hz3
          by_cases hgo : z < n ∧ B z = 0
          · obtain ⟨hzl, hzb⟩ := hgo
            have hbz : (B z != 0) = false := by simpa using hzb
            have Hzb : Hid (B z = 0) := hzb
            clear hzb
            first
            | (exfalso; omega)
            | (go_wp2_with (go_at_call 124; refine (taken_in _ p r n B V z h1 hzl).mono ?_; rintro e w' ⟨rfl, rfl⟩; rw [hbz])
               go_round
               case rel => exact ⟨z + 1, by omega, by omega, grow_eq Hz3.out Hzb.out, by go_num⟩
               case measure => simp [intOf]; omega)
          · have Hstop : Hid (z = n ∨ B z ≠ 0) := stop_of hz2 hgo
            have hbz : z < n → (B z != 0) = true := fun hlt => by
              rcases Hstop.out with h | h
              · omega
              · simpa using h
            clear hgo
            by_cases hzl : z < n
            all_goals
              first
              | (exfalso; omega)
              | (go_wp2_with (go_at_call 124; refine (taken_in _ p r n B V z h1 hzl).mono ?_; rintro e w' ⟨rfl, rfl⟩; rw [hbz hzl])
                 refine bodyPost_ret (v := .agg #[.int .i64 (k : Int), .int .i64 ((z : Int) - (k : Int))]) (by simp [results, Tryz.results123, go_sem]) rfl ⟨k, z, rfl, ⟨hk1, hz1, hz2, Hk3.out, Hz3.out, Htop.out, Hstop.out⟩, ?_⟩
                 repeat (first | exact Fr.refl _ _ | refine Fr.setCell ?_ (fun h => absurd h (Nat.lt_irrefl _)) _ | refine Fr.alloc ?_ _))
end Go.Proofs.YtcmnejcojphijaaGreatDoor
