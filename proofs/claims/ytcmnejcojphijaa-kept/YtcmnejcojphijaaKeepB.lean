import Derived.Test.YtcmnejcojphijaaKeepA
namespace Go.Proofs.Ytcmnejcojphijaa
open Go.RowKit

def sumTo (N : Nat → Nat) : Nat → Nat
  | 0 => 0
  | i + 1 => sumTo N i + N i
theorem sumTo_le {N : Nat → Nat} {m c : Nat} (h : ∀ i, i < m → N i ≤ c) : sumTo N m ≤ m * c := by
  induction m with
  | zero => simp [sumTo]
  | succ m ih =>
    have h1 := ih (fun i hi => h i (by omega))
    have h2 := h m (by omega)
    have h3 : (m + 1) * c = m * c + c := Nat.succ_mul m c
    simp only [sumTo]
    omega

set_option maxHeartbeats 400000 in
theorem kused_any (w : World) (ao : Option Addr) (m cap : Nat) (A N : Nat → Nat) (S : Nat → Value) (h : HeldRow w ao m A N S) :
    Calls Try.prog 14 #[.slice ao m cap] w fun e w' => e = .returned (.int .i64 (sumTo N m : Nat)) ∧ w' = w := by
  have hm := h.hm
  go_enter Try.func14, Try.ntmps14
  go_wp2
  go_loop [3, 4] (fun t u => ∃ i : Nat, i ≤ m ∧ u = .int .i64 i ∧ t = .int .i64 (sumTo N i : Nat)) (fun _ u => m - (intOf u).toNat)
  case atStart => exact ⟨0, Nat.zero_le _, rfl, rfl⟩
  case round =>
    obtain ⟨i, hi, rfl, rfl⟩ := hrel
    by_cases hlt : i < m
    · obtain ⟨g, rfl⟩ := h.some_ (by omega)
      have h1 := h.c1 g i hlt rfl
      have hb := h.bd i hlt
      have hs := sumTo_le (N := N) (m := i) (c := 4096) (fun j hj => by have := h.bd j (by omega); omega)
      have hs2 : sumTo N i ≤ 16777216 := Nat.le_trans hs (Nat.mul_le_mul (show i ≤ 4096 by omega) (Nat.le_refl _))
      clear hs
      have HS : Hid (sumTo N (i + 1) = sumTo N i + N i) := rfl
      go_wp2
      go_round
      case rel => exact ⟨i + 1, by omega, by go_num, by rw [HS.out]; go_num⟩
      case measure => simp [intOf]; omega
    · have hie : i = m := by omega
      subst hie
      go_wp2
      go_ret
      exact ⟨rfl, rfl⟩

structure SpanRow (w : World) (ao : Option Addr) (m : Nat) (A N : Nat → Nat) : Prop where
  some_ : 0 < m → ∃ g, ao = some ⟨g, 0, none⟩
  c0 : ∀ g i, i < m → ao = some ⟨g, 0, none⟩ → w.cell? ⟨g, i * 2, none⟩ = some (.int .i64 (A i))
  c1 : ∀ g i, i < m → ao = some ⟨g, 0, none⟩ → w.cell? ⟨g, i * 2 + 1, none⟩ = some (.int .i64 (N i))
theorem SpanRow.no {w w' : World} {ao : Option Addr} {m : Nat} {A N : Nat → Nat} (h : SpanRow w ao m A N) (hf : Fr NoB w w') : SpanRow w' ao m A N :=
  ⟨h.some_, fun g i hi e => hf.cell_some (h.c0 g i hi e) id, fun g i hi e => hf.cell_some (h.c1 g i hi e) id⟩

set_option maxHeartbeats 1000000 in
theorem ksum_yes (w : World) (ao : Option Addr) (m cap n : Nat) (A N : Nat → Nat) (h : SpanRow w ao m A N) (hn : n ≤ 4096) (hm : m ≤ 4096)
    (hN : ∀ i, i < m → 1 ≤ N i ∧ A i + N i ≤ n) (hA : ∀ i, i + 1 < m → A i + N i + 1 ≤ A (i + 1)) :
    Calls Try.prog 12 #[.slice ao m cap, .int .i64 (n : Int)] w fun e w' => e = .returned (.tuple #[.int .i64 (sumTo N m : Nat), .bool true]) ∧ Fr NoB w w' := by
  have HA : Hid (∀ i, i + 1 < m → A i + N i + 1 ≤ A (i + 1)) := hA
  have HN : Hid (∀ i, i < m → 1 ≤ N i ∧ A i + N i ≤ n) := hN
  clear hA hN
  go_enter Try.func12, Try.ntmps12
  go_wp2
  go_loopw [6, 7, 8] (fun t q u wr => ∃ (i fr : Nat), i ≤ m ∧ u = .int .i64 i ∧ t = .int .i64 (sumTo N i : Nat) ∧ q = .int .i64 fr ∧ fr ≤ 4097 ∧ (i < m → fr ≤ A i) ∧ sumTo N i ≤ fr ∧ Fr NoB w wr) (fun _ _ u _ => m - (intOf u).toNat)
  case atStart => exact ⟨0, 0, Nat.zero_le _, rfl, rfl, rfl, by omega, fun _ => Nat.zero_le _, Nat.le_refl _, Fr.refl _ _⟩
  case round =>
    obtain ⟨i, fr, hi, rfl, rfl, rfl, hf1, hf2, hs, hF⟩ := hrel
    by_cases hlt : i < m
    · obtain ⟨g, rfl⟩ := h.some_ (by omega)
      have hr := h.no hF
      have h0 := hr.c0 g i hlt rfl
      have h1 := hr.c1 g i hlt rfl
      have hb := (HN.out i hlt).1
      have hb2 := (HN.out i hlt).2
      have hf := hf2 hlt
      clear hr hf2
      have HS : Hid (sumTo N (i + 1) = sumTo N i + N i) := rfl
      have hd1 : decide (A i < fr) = false := by simp; omega
      have hd2 : decide ((N i : Int) < 1) = false := by simp; omega
      have hd3 : decide ((n : Int) < (A i : Int) + (N i : Int)) = false := by simp; omega
      go_wp2
      go_quiet (fail)
      go_wp2
      go_quiet (fail)
      go_wp2
      go_roundw
      case rel =>
        exact ⟨i + 1, A i + N i + 1, by omega, by go_num, by rw [HS.out]; go_num, by go_num, by omega, fun h => HA.out i h, by rw [HS.out]; omega, by repeat (first | exact hF | refine Fr.drewN ?_ _)⟩
      case measure => simp [intOf]; omega
    · have hie : i = m := by omega
      subst hie
      go_wp2
      go_ret2
      exact ⟨rfl, hF⟩

set_option maxHeartbeats 1000000 in
theorem kapart_yes (w : World) (ao : Option Addr) (m cap n a k : Nat) (s : Value) (A N : Nat → Nat) (S : Nat → Value) (h : HeldRow w ao m A N S) (hn : n ≤ 4096) (hak : a + k ≤ n)
    (hap : ∀ i, i < m → ¬ (a < A i + N i ∧ A i < a + k)) :
    Calls Try.prog 22 #[.slice ao m cap, .agg #[.int .i64 (a : Int), .int .i64 (k : Int), s], .int .i64 (n : Int)] w fun e w' => e = .returned (.bool true) ∧ Fr NoB w w' := by
  have hm := h.hm
  have Hap : Hid (∀ i, i < m → ¬ (a < A i + N i ∧ A i < a + k)) := hap
  clear hap
  have hq1 : decide ((a : Int) < 0) = false := by simp
  have hq2 : decide ((n : Int) < (a : Int) + (k : Int)) = false := by simp; omega
  go_enter Try.func22, Try.ntmps22
  go_wp2
  go_loopw [7] (fun u wr => ∃ i : Nat, i ≤ m ∧ u = .int .i64 i ∧ wr.cell? ⟨w.heap.size, 0, none⟩ = some (.int .i64 a) ∧ wr.cell? ⟨w.heap.size, 1, none⟩ = some (.int .i64 k) ∧ Fr NoB w wr) (fun u _ => m - (intOf u).toNat)
  case atStart => exact ⟨0, Nat.zero_le _, rfl, by simp, by simp, (Fr.refl _ _).alloc _⟩
  case round =>
    obtain ⟨i, hi, rfl, hca, hck, hF⟩ := hrel
    by_cases hlt : i < m
    · obtain ⟨g, rfl⟩ := h.some_ (by omega)
      have hr := h.no hF
      have h0 := hr.c0 g i hlt rfl
      have h1 := hr.c1 g i hlt rfl
      have hb := h.bd i hlt
      have ha := Hap.out i hlt
      clear hr
      by_cases hg : a < A i + N i
      · have hg2 : ¬ A i < a + k := fun h => ha ⟨hg, h⟩
        have hgd : decide ((a : Int) < (A i : Int) + (N i : Int)) = true := by simp; omega
        clear ha
        go_wp2
        go_quiet (fail)
        go_wp2
        go_roundw
        case rel => exact ⟨i + 1, by omega, by go_num, by simpa using hca, by simpa using hck, by repeat (first | exact hF | refine Fr.drewN ?_ _)⟩
        case measure => simp [intOf]; omega
      · have hgd : decide ((a : Int) < (A i : Int) + (N i : Int)) = false := by simp; omega
        clear ha
        go_wp2
        go_quiet (fail)
        go_wp2
        go_roundw
        case rel => exact ⟨i + 1, by omega, by go_num, by simpa using hca, by simpa using hck, by repeat (first | exact hF | refine Fr.drewN ?_ _)⟩
        case measure => simp [intOf]; omega
    · go_wp2
      go_ret
      exact ⟨rfl, hF⟩
end Go.Proofs.Ytcmnejcojphijaa
