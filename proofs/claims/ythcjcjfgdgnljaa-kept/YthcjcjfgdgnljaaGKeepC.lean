/-
  KeepA, KeepB, KeepC: one behind the other.
-/
import Derived.Test.YthcjcjfgdgnljaaGNew
import Derived.Deep.QuietTactic
import Derived.BigQuiet
namespace Go.Proofs.Ythcjcjfgdgnljaa
open Go.RowKit

set_option maxHeartbeats 400000 in
theorem kpick_fn (w : World) (c : Int) (n : Nat) (hn : 1 ≤ n) (hn2 : n ≤ 4611686018427387904) (h1 : -9223372036854775808 ≤ c) (h2 : c ≤ 9223372036854775807) :
    Calls Try.prog 6 #[.int .i64 c, .int .i64 (n : Int)] w fun e w' => e = .returned (.int .i64 (pickZ c n : Nat)) ∧ w' = w := by
  by_cases hc : c < 0
  · have hm1 := Int.emod_nonneg (-(c + 1)) (show (n : Int) ≠ 0 by omega)
    have HP : Hid (pickZ c n = ((-(c + 1)) % (n : Int)).toNat) := by unfold pickZ; exact if_pos hc
    go_enter Try.func6, Try.ntmps6
    go_wp2
    go_ret
    have e : (c + 1).tmod (n : Int) = -((-(c + 1)) % n) := by
      rw [← Int.tmod_eq_emod_of_nonneg (by omega), Int.neg_tmod, Int.neg_neg]
    exact ⟨ret_int (by rw [HP.out]; omega), rfl⟩
  · have hm1 := Int.emod_nonneg c (show (n : Int) ≠ 0 by omega)
    have HP : Hid (pickZ c n = (c % (n : Int)).toNat) := by unfold pickZ; exact if_neg hc
    go_enter Try.func6, Try.ntmps6
    go_wp2
    go_ret
    exact ⟨ret_int (by rw [HP.out]; omega), rfl⟩
theorem kpick_any (w : World) (c : Int) (n : Nat) (hn : 1 ≤ n) (hn2 : n ≤ 1000000) (h1 : -9223372036854775808 ≤ c) (h2 : c ≤ 9223372036854775807) :
    Calls Try.prog 6 #[.int .i64 c, .int .i64 (n : Int)] w fun e w' => ∃ j : Nat, j < n ∧ e = .returned (.int .i64 (j : Int)) ∧ w' = w :=
  (kpick_fn w c n hn (by omega) h1 h2).mono (fun _ _ ⟨h1, h2⟩ => ⟨pickZ c n, pickZ_lt c hn, h1, h2⟩)

/-- a list of blocks in memory: m of them; at, length and words of each -/
structure HeldRow (w : World) (ao : Option Addr) (m : Nat) (A N : Nat → Nat) (S : Nat → Value) : Prop where
  some_ : 0 < m → ∃ g, ao = some ⟨g, 0, none⟩
  c0 : ∀ g i, i < m → ao = some ⟨g, 0, none⟩ → w.cell? ⟨g, i * 3, none⟩ = some (.int .i64 (A i))
  c1 : ∀ g i, i < m → ao = some ⟨g, 0, none⟩ → w.cell? ⟨g, i * 3 + 1, none⟩ = some (.int .i64 (N i))
  c2 : ∀ g i, i < m → ao = some ⟨g, 0, none⟩ → w.cell? ⟨g, i * 3 + 2, none⟩ = some (S i)
  bd : ∀ i, i < m → A i + N i ≤ 4096
  hm : m ≤ 4096

def TK (m : Nat) (A N : Nat → Nat) (p : Nat) : Prop := ∃ i, i < m ∧ A i ≤ p ∧ p < A i + N i

theorem HeldRow.fr {S' : Nat → Prop} {w w' : World} {ao : Option Addr} {m : Nat} {A N : Nat → Nat} {S : Nat → Value} (h : HeldRow w ao m A N S) (hf : Fr S' w w') (hs : ∀ g, ao = some ⟨g, 0, none⟩ → ¬ S' g) : HeldRow w' ao m A N S :=
  ⟨h.some_, fun g i hi e => hf.cell_some (h.c0 g i hi e) (hs g e), fun g i hi e => hf.cell_some (h.c1 g i hi e) (hs g e), fun g i hi e => hf.cell_some (h.c2 g i hi e) (hs g e), h.bd, h.hm⟩
theorem HeldRow.no {w w' : World} {ao : Option Addr} {m : Nat} {A N : Nat → Nat} {S : Nat → Value} (h : HeldRow w ao m A N S) (hf : Fr NoB w w') : HeldRow w' ao m A N S := h.fr hf (fun _ _ h => h)

theorem none_step {P : Nat → Prop} {i : Nat} (h : ∀ j, j < i → ¬ P j) (hi : ¬ P i) : ∀ j, j < i + 1 → ¬ P j := fun j hj => by
  by_cases e : j = i
  · subst e; exact hi
  · exact h j (by omega)

set_option maxHeartbeats 400000 in
theorem ktaken_any (w : World) (ao : Option Addr) (m cap : Nat) (A N : Nat → Nat) (S : Nat → Value) (p : Nat) (h : HeldRow w ao m A N S) (hp : p ≤ 8192) :
    Calls Try.prog 40 #[.slice ao m cap, .int .i64 (p : Int)] w fun e w' => ∃ b : Bool, e = .returned (.bool b) ∧ (b = true ↔ TK m A N p) ∧ Fr NoB w w' := by
  have hm := h.hm
  go_enter Try.func40, Try.ntmps40
  go_wp2
  go_loopw [5] (fun t wr => ∃ i : Nat, i ≤ m ∧ t = .int .i64 i ∧ (∀ j, j < i → ¬ (A j ≤ p ∧ p < A j + N j)) ∧ Fr NoB w wr) (fun t _ => m - (intOf t).toNat)
  case atStart => exact ⟨0, Nat.zero_le _, rfl, fun j hj => absurd hj (by omega), Fr.refl _ _⟩
  case round =>
    obtain ⟨i, hi, rfl, hno, hF⟩ := hrel
    have Hno : Hid (∀ j, j < i → ¬ (A j ≤ p ∧ p < A j + N j)) := hno
    clear hno
    by_cases hlt : i < m
    · obtain ⟨g, rfl⟩ := h.some_ (by omega)
      have hr := h.no hF
      have h0 := hr.c0 g i hlt rfl
      have h1 := hr.c1 g i hlt rfl
      have hb := h.bd i hlt
      clear hr
      by_cases hd : A i ≤ p
      · by_cases hd2 : p < A i + N i
        · have hyes : TK m A N p := ⟨i, hlt, hd, hd2⟩
          have Hyes : Hid (TK m A N p) := hyes
          clear hyes
          go_wp2
          go_quiet (fail)
          go_wp2
          go_ret
          exact ⟨true, rfl, ⟨fun _ => Hyes.out, fun _ => rfl⟩, by repeat (first | exact hF | refine Fr.drewN ?_ _)⟩
        · go_wp2
          go_quiet (fail)
          go_wp2
          go_roundw
          case rel => exact ⟨i + 1, by omega, by go_num, none_step Hno.out (by omega), by repeat (first | exact hF | refine Fr.drewN ?_ _)⟩
          case measure => simp [intOf]; omega
      · have hd' : decide ((A i : Int) ≤ (p : Int)) = false := by simp; omega
        go_wp2
        go_quiet (fail)
        go_wp2
        go_roundw
        case rel => exact ⟨i + 1, by omega, by go_num, none_step Hno.out (by omega), by repeat (first | exact hF | refine Fr.drewN ?_ _)⟩
        case measure => simp [intOf]; omega
    · go_wp2
      go_ret
      exact ⟨false, rfl, ⟨fun e => absurd e (by simp), fun ⟨j, hj, hp⟩ => absurd hp (Hno.out j (by omega))⟩, hF⟩

/-- k free words from a on, by the list -/
def RoomAt (m : Nat) (A N : Nat → Nat) (n k a : Nat) : Prop := a + k ≤ n ∧ ∀ i, a ≤ i → i < a + k → ¬ TK m A N i

theorem all_free_step {P : Nat → Prop} {a p : Nat} {f b : Bool} (ha : a ≤ p) (h : f = true ↔ ∀ i, a ≤ i → i < p → ¬ P i) (hb : b = true ↔ P p) : ((f && !b) = true) ↔ ∀ i, a ≤ i → i < p + 1 → ¬ P i := by
  constructor
  · intro e
    simp at e
    intro i h1 h2
    by_cases ei : i = p
    · subst ei; intro hp; have := hb.2 hp; rw [e.2] at this; cases this
    · exact (h.1 e.1) i h1 (by omega)
  · intro hall
    have h1 := h.2 (fun i h1 h2 => hall i h1 (by omega))
    have h2 : b = false := by
      cases b
      · rfl
      · exact absurd (hb.1 rfl) (hall p ha (by omega))
    simp [h1, h2]

set_option maxHeartbeats 1000000 in
theorem kroom_any (w : World) (ao : Option Addr) (m cap : Nat) (A N : Nat → Nat) (S : Nat → Value) (k n : Nat) (h : HeldRow w ao m A N S) (hk1 : 1 ≤ k) (hk : k ≤ 64) (hn : n ≤ 4096) :
    Calls Try.prog 24 #[.slice ao m cap, .int .i64 (k : Int), .int .i64 (n : Int)] w fun e w' =>
      ((∃ a : Nat, e = .returned (.int .i64 (a : Int)) ∧ RoomAt m A N n k a ∧ ∀ b, RoomAt m A N n k b → a ≤ b) ∨ (e = .returned (.int .i64 (-1)) ∧ ∀ b, ¬ RoomAt m A N n k b)) ∧ Fr NoB w w' := by
  go_enter Try.func24, Try.ntmps24
  go_wp2
  go_loopw [7] (fun t wr => ∃ a : Nat, a ≤ n + 1 ∧ t = .int .i64 a ∧ (∀ b, RoomAt m A N n k b → a ≤ b) ∧ Fr NoB w wr) (fun t _ => n + 1 - (intOf t).toNat)
  case atStart => exact ⟨0, Nat.zero_le _, rfl, fun b _ => Nat.zero_le _, Fr.refl _ _⟩
  case round =>
    obtain ⟨a, ha, rfl, hmin, hF⟩ := hrel
    have Hmin : Hid (∀ b, RoomAt m A N n k b → a ≤ b) := hmin
    clear hmin
    by_cases hlt : a + k ≤ n
    · have hdl : decide ((a : Int) + (k : Int) ≤ (n : Int)) = true := by simp; omega
      go_wp2
      go_loopw [8, 9] (fun t u wr => ∃ (f : Bool) (p : Nat), a ≤ p ∧ p ≤ a + k ∧ t = .bool f ∧ u = .int .i64 p ∧ (f = true ↔ ∀ i, a ≤ i → i < p → ¬ TK m A N i) ∧ Fr NoB w wr) (fun _ u _ => a + k - (intOf u).toNat)
      case atStart => exact ⟨true, a, Nat.le_refl _, by omega, rfl, rfl, ⟨fun _ i h1 h2 => absurd h2 (by omega), fun _ => rfl⟩, hF⟩
      case round =>
        obtain ⟨f, p, hp1, hp2, rfl, rfl, hf, hF2⟩ := hrel
        have Hf : Hid (f = true ↔ ∀ i, a ≤ i → i < p → ¬ TK m A N i) := hf
        clear hf
        by_cases hpl : p < a + k
        · go_wp2_with fail
          refine (ktaken_any _ ao m cap A N S p (h.no hF2) (by omega)).mono ?_
          rintro e w2 ⟨b, rfl, hb, hF3⟩
          have Hb : Hid (b = true ↔ TK m A N p) := hb
          clear hb
          have HN : Hid (((f && !b) = true) ↔ ∀ i, a ≤ i → i < p + 1 → ¬ TK m A N i) := all_free_step hp1 Hf.out Hb.out
          cases f
          all_goals
            go_wp2
            go_roundw
            case rel => exact ⟨_, p + 1, by omega, by omega, rfl, by go_num, HN.out, hF2.trans hF3⟩
            case measure => simp [intOf]; omega
        · have hpe : p = a + k := by omega
          subst hpe
          cases f
          · have hno : ∀ b, RoomAt m A N n k b → a + 1 ≤ b := fun b hb => by
              have h1 := Hmin.out b hb
              by_cases e : b = a
              · subst e; exact absurd (Hf.out.2 hb.2) (by simp)
              · omega
            have Hno : Hid (∀ b, RoomAt m A N n k b → a + 1 ≤ b) := hno
            clear hno
            go_wp2
            go_roundw
            case rel => exact ⟨a + 1, by omega, by go_num, Hno.out, hF2⟩
            case measure => simp [intOf]; omega
          · have hy : RoomAt m A N n k a := ⟨hlt, Hf.out.1 rfl⟩
            have Hy : Hid (RoomAt m A N n k a) := hy
            clear hy
            go_wp2
            go_ret
            exact ⟨.inl ⟨a, rfl, Hy.out, Hmin.out⟩, hF2⟩
    · go_wp2
      go_ret
      exact ⟨.inr ⟨rfl, fun b hb => by have h1 := Hmin.out b hb; have h2 := hb.1; omega⟩, hF⟩
end Go.Proofs.Ythcjcjfgdgnljaa

namespace Go.Proofs.Ythcjcjfgdgnljaa
open Go.RowKit

def sumTo (N : Nat → Nat) : Nat → Nat
  | 0 => 0
  | i + 1 => sumTo N i + N i
theorem sumTo_le {N : Nat → Nat} {m c : Nat} (h : ∀ i, i < m → N i ≤ c) : sumTo N m ≤ m * c := by
  induction m with
  | zero => simp [sumTo]
  | succ m ih =>
    have h1 := ih (fun i hi => h i (by omega))
    have h2 := h m (by omega)
    have h3 : (m + 1) * c = m * c + c := Nat.succ_mul m c
    simp only [sumTo]
    omega

set_option maxHeartbeats 400000 in
theorem kused_any (w : World) (ao : Option Addr) (m cap : Nat) (A N : Nat → Nat) (S : Nat → Value) (h : HeldRow w ao m A N S) :
    Calls Try.prog 15 #[.slice ao m cap] w fun e w' => e = .returned (.int .i64 (sumTo N m : Nat)) ∧ w' = w := by
  have hm := h.hm
  go_enter Try.func15, Try.ntmps15
  go_wp2
  go_loop [3, 4] (fun t u => ∃ i : Nat, i ≤ m ∧ u = .int .i64 i ∧ t = .int .i64 (sumTo N i : Nat)) (fun _ u => m - (intOf u).toNat)
  case atStart => exact ⟨0, Nat.zero_le _, rfl, rfl⟩
  case round =>
    obtain ⟨i, hi, rfl, rfl⟩ := hrel
    by_cases hlt : i < m
    · obtain ⟨g, rfl⟩ := h.some_ (by omega)
      have h1 := h.c1 g i hlt rfl
      have hb := h.bd i hlt
      have hs := sumTo_le (N := N) (m := i) (c := 4096) (fun j hj => by have := h.bd j (by omega); omega)
      have hs2 : sumTo N i ≤ 16777216 := Nat.le_trans hs (Nat.mul_le_mul (show i ≤ 4096 by omega) (Nat.le_refl _))
      clear hs
      have HS : Hid (sumTo N (i + 1) = sumTo N i + N i) := rfl
      go_wp2
      go_round
      case rel => exact ⟨i + 1, by omega, by go_num, by rw [HS.out]; go_num⟩
      case measure => simp [intOf]; omega
    · have hie : i = m := by omega
      subst hie
      go_wp2
      go_ret
      exact ⟨rfl, rfl⟩

structure SpanRow (w : World) (ao : Option Addr) (m : Nat) (A N : Nat → Nat) : Prop where
  some_ : 0 < m → ∃ g, ao = some ⟨g, 0, none⟩
  c0 : ∀ g i, i < m → ao = some ⟨g, 0, none⟩ → w.cell? ⟨g, i * 2, none⟩ = some (.int .i64 (A i))
  c1 : ∀ g i, i < m → ao = some ⟨g, 0, none⟩ → w.cell? ⟨g, i * 2 + 1, none⟩ = some (.int .i64 (N i))
theorem SpanRow.no {w w' : World} {ao : Option Addr} {m : Nat} {A N : Nat → Nat} (h : SpanRow w ao m A N) (hf : Fr NoB w w') : SpanRow w' ao m A N :=
  ⟨h.some_, fun g i hi e => hf.cell_some (h.c0 g i hi e) id, fun g i hi e => hf.cell_some (h.c1 g i hi e) id⟩

set_option maxHeartbeats 1000000 in
theorem ksum_yes (w : World) (ao : Option Addr) (m cap n : Nat) (A N : Nat → Nat) (h : SpanRow w ao m A N) (hn : n ≤ 4096) (hm : m ≤ 4096)
    (hN : ∀ i, i < m → 1 ≤ N i ∧ A i + N i ≤ n) (hA : ∀ i, i + 1 < m → A i + N i + 1 ≤ A (i + 1)) :
    Calls Try.prog 13 #[.slice ao m cap, .int .i64 (n : Int)] w fun e w' => e = .returned (.tuple #[.int .i64 (sumTo N m : Nat), .bool true]) ∧ Fr NoB w w' := by
  have HA : Hid (∀ i, i + 1 < m → A i + N i + 1 ≤ A (i + 1)) := hA
  have HN : Hid (∀ i, i < m → 1 ≤ N i ∧ A i + N i ≤ n) := hN
  clear hA hN
  go_enter Try.func13, Try.ntmps13
  go_wp2
  go_loopw [6, 7, 8] (fun t q u wr => ∃ (i fr : Nat), i ≤ m ∧ u = .int .i64 i ∧ t = .int .i64 (sumTo N i : Nat) ∧ q = .int .i64 fr ∧ fr ≤ 4097 ∧ (i < m → fr ≤ A i) ∧ sumTo N i ≤ fr ∧ Fr NoB w wr) (fun _ _ u _ => m - (intOf u).toNat)
  case atStart => exact ⟨0, 0, Nat.zero_le _, rfl, rfl, rfl, by omega, fun _ => Nat.zero_le _, Nat.le_refl _, Fr.refl _ _⟩
  case round =>
    obtain ⟨i, fr, hi, rfl, rfl, rfl, hf1, hf2, hs, hF⟩ := hrel
    by_cases hlt : i < m
    · obtain ⟨g, rfl⟩ := h.some_ (by omega)
      have hr := h.no hF
      have h0 := hr.c0 g i hlt rfl
      have h1 := hr.c1 g i hlt rfl
      have hb := (HN.out i hlt).1
      have hb2 := (HN.out i hlt).2
      have hf := hf2 hlt
      clear hr hf2
      have HS : Hid (sumTo N (i + 1) = sumTo N i + N i) := rfl
      have hd1 : decide (A i < fr) = false := by simp; omega
      have hd2 : decide ((N i : Int) < 1) = false := by simp; omega
      have hd3 : decide ((n : Int) < (A i : Int) + (N i : Int)) = false := by simp; omega
      go_wp2
      go_quiet (fail)
      go_wp2
      go_quiet (fail)
      go_wp2
      go_roundw
      case rel =>
        exact ⟨i + 1, A i + N i + 1, by omega, by go_num, by rw [HS.out]; go_num, by go_num, by omega, fun h => HA.out i h, by rw [HS.out]; omega, by repeat (first | exact hF | refine Fr.drewN ?_ _)⟩
      case measure => simp [intOf]; omega
    · have hie : i = m := by omega
      subst hie
      go_wp2
      go_ret2
      exact ⟨rfl, hF⟩

set_option maxHeartbeats 1000000 in
theorem kapart_yes (w : World) (ao : Option Addr) (m cap n a k : Nat) (s : Value) (A N : Nat → Nat) (S : Nat → Value) (h : HeldRow w ao m A N S) (hn : n ≤ 4096) (hak : a + k ≤ n)
    (hap : ∀ i, i < m → ¬ (a < A i + N i ∧ A i < a + k)) :
    Calls Try.prog 25 #[.slice ao m cap, .agg #[.int .i64 (a : Int), .int .i64 (k : Int), s], .int .i64 (n : Int)] w fun e w' => e = .returned (.bool true) ∧ Fr NoB w w' := by
  have hm := h.hm
  have Hap : Hid (∀ i, i < m → ¬ (a < A i + N i ∧ A i < a + k)) := hap
  clear hap
  have hq1 : decide ((a : Int) < 0) = false := by simp
  have hq2 : decide ((n : Int) < (a : Int) + (k : Int)) = false := by simp; omega
  go_enter Try.func25, Try.ntmps25
  go_wp2
  go_loopw [7] (fun u wr => ∃ i : Nat, i ≤ m ∧ u = .int .i64 i ∧ wr.cell? ⟨w.heap.size, 0, none⟩ = some (.int .i64 a) ∧ wr.cell? ⟨w.heap.size, 1, none⟩ = some (.int .i64 k) ∧ Fr NoB w wr) (fun u _ => m - (intOf u).toNat)
  case atStart => exact ⟨0, Nat.zero_le _, rfl, by simp, by simp, (Fr.refl _ _).alloc _⟩
  case round =>
    obtain ⟨i, hi, rfl, hca, hck, hF⟩ := hrel
    by_cases hlt : i < m
    · obtain ⟨g, rfl⟩ := h.some_ (by omega)
      have hr := h.no hF
      have h0 := hr.c0 g i hlt rfl
      have h1 := hr.c1 g i hlt rfl
      have hb := h.bd i hlt
      have ha := Hap.out i hlt
      clear hr
      by_cases hg : a < A i + N i
      · have hg2 : ¬ A i < a + k := fun h => ha ⟨hg, h⟩
        have hgd : decide ((a : Int) < (A i : Int) + (N i : Int)) = true := by simp; omega
        clear ha
        go_wp2
        go_quiet (fail)
        go_wp2
        go_roundw
        case rel => exact ⟨i + 1, by omega, by go_num, by simpa using hca, by simpa using hck, by repeat (first | exact hF | refine Fr.drewN ?_ _)⟩
        case measure => simp [intOf]; omega
      · have hgd : decide ((a : Int) < (A i : Int) + (N i : Int)) = false := by simp; omega
        clear ha
        go_wp2
        go_quiet (fail)
        go_wp2
        go_roundw
        case rel => exact ⟨i + 1, by omega, by go_num, by simpa using hca, by simpa using hck, by repeat (first | exact hF | refine Fr.drewN ?_ _)⟩
        case measure => simp [intOf]; omega
    · go_wp2
      go_ret
      exact ⟨rfl, hF⟩
end Go.Proofs.Ythcjcjfgdgnljaa

namespace Go.Proofs.Ythcjcjfgdgnljaa
open Go.RowKit

set_option maxHeartbeats 1000000 in
theorem kreads_yes (w : World) (p r n : Nat) (B V : Nat → Int) (a k b : Nat) (h : HeapAt w p r n B V) (hak : a + k ≤ n) (hB : ∀ j, j < k → B (a + j) ≠ 0)
    (hC : ∀ j, j < k → w.cell? ⟨b, j, none⟩ = some (.int .i64 (V (a + j)))) :
    Calls Try.prog 12 #[.pointer (some ⟨p, 0, none⟩), .agg #[.int .i64 (a : Int), .int .i64 (k : Int), .slice (some ⟨b, 0, none⟩) k k]] w fun e w' => e = .returned (.bool true) ∧ Fr NoB w w' := by
  have hn := h.hi
  have HB : Hid (∀ j, j < k → B (a + j) ≠ 0) := hB
  have HC : Hid (∀ j, j < k → w.cell? ⟨b, j, none⟩ = some (.int .i64 (V (a + j)))) := hC
  clear hB hC
  have h1 : HeapAt (w.alloc (.cells #[.int .i64 (a : Int), .int .i64 (k : Int), .slice (some ⟨b, 0, none⟩) k k] 34)) p r n B V := h.no ((Fr.refl _ _).alloc _)
  have HC1 : Hid (∀ j, j < k → (w.alloc (.cells #[.int .i64 (a : Int), .int .i64 (k : Int), .slice (some ⟨b, 0, none⟩) k k] 34)).cell? ⟨b, j, none⟩ = some (.int .i64 (V (a + j)))) :=
    fun j hj => ((Fr.refl NoB _).alloc _).cell_some (HC.out j hj) id
  go_enter Try.func12, Try.ntmps12
  go_wp2
  go_loop [5] (fun u => ∃ i : Nat, i ≤ k ∧ u = .int .i64 i) (fun u => k - (intOf u).toNat)
  case atStart => exact ⟨0, Nat.zero_le _, rfl⟩
  case round =>
    obtain ⟨i, hi, rfl⟩ := hrel
    by_cases hlt : i < k
    · have hc := HC1.out i hlt
      have hb := HB.out i hlt
      go_wp2_with fail
      rw [show (a : Int) + (i : Int) = ((a + i : Nat) : Int) from by omega]
      refine (sload_yes _ p r n B V (a + i) h1 (by omega) hb).mono ?_
      rintro e w' ⟨rfl, rfl⟩
      clear hb
      go_wp2
      go_round
      case rel => exact ⟨i + 1, by omega, by go_num⟩
      case measure => simp [intOf]; omega
    · go_wp2
      go_ret
      exact ⟨rfl, (Fr.refl _ _).alloc _⟩

structure Held where
  at_ : Nat
  n : Nat
  wb : Nat
def heldZ : Held := ⟨0, 0, 0⟩
def words (h : Held) : Value := .slice (some ⟨h.wb, 0, none⟩) h.n h.n
def hcells (h : Held) : List Value := [.int .i64 (h.at_ : Int), .int .i64 (h.n : Int), words h]
def heldCells (hs : List Held) : List Value := hs.flatMap hcells
theorem heldCells_snoc (hs : List Held) (h : Held) : heldCells (hs ++ [h]) = heldCells hs ++ [.int .i64 (h.at_ : Int), .int .i64 (h.n : Int), words h] := by simp [heldCells, hcells]
theorem heldCells_at (hs : List Held) (i : Nat) (hi : i < hs.length) : (heldCells hs)[i * 3]? = some (.int .i64 ((hs.getD i heldZ).at_ : Int)) ∧ (heldCells hs)[i * 3 + 1]? = some (.int .i64 ((hs.getD i heldZ).n : Int)) ∧ (heldCells hs)[i * 3 + 2]? = some (words (hs.getD i heldZ)) := by
  induction hs generalizing i with
  | nil => simp at hi
  | cons h t ih =>
    have e : heldCells (h :: t) = [.int .i64 (h.at_ : Int), .int .i64 (h.n : Int), words h] ++ heldCells t := by simp [heldCells, hcells]
    rw [e]
    cases i with
    | zero => simp
    | succ i =>
      have := ih i (by simpa using hi)
      have e1 : (i + 1) * 3 = i * 3 + 3 := by omega
      rw [e1]
      simpa [List.getElem?_cons] using this

/-- from what is owned to the row that the readers want -/
theorem heldRow_of {w : World} {base : Nat} {v : Value} {hs : List Held} (h : w.ownsRow base 34 3 v hs.length (heldCells hs)) (hbd : ∀ x ∈ hs, x.at_ + x.n ≤ 4096) (hm : hs.length ≤ 4096) :
    ∃ ao cap, v = .slice ao hs.length cap ∧ HeldRow w ao hs.length (fun i => (hs.getD i heldZ).at_) (fun i => (hs.getD i heldZ).n) (fun i => words (hs.getD i heldZ)) ∧ (∀ g, ao = some ⟨g, 0, none⟩ → v.ownBlock = some g) := by
  have hb : ∀ i, i < hs.length → (hs.getD i heldZ).at_ + (hs.getD i heldZ).n ≤ 4096 := fun i hi => by
    have : hs.getD i heldZ = hs[i] := by simp [hi]
    rw [this]; exact hbd _ (List.getElem_mem hi)
  rcases h.2 with ⟨rfl, hl⟩ | ⟨g, cap, cur, rfl, _, _, _, _, _, _⟩
  · rw [hl]
    refine ⟨none, 0, rfl, ⟨fun h => absurd h (by omega), fun _ i hi => absurd hi (by omega), fun _ i hi => absurd hi (by omega), fun _ i hi => absurd hi (by omega), fun i hi => absurd hi (by omega), by omega⟩, fun g e => by cases e⟩
  · have hc := h.cells (g := g) rfl
    have hadd : ∀ j, (⟨g, 0, none⟩ : Addr).add j = ⟨g, j, none⟩ := fun j => by unfold Addr.add; split <;> simp_all
    refine ⟨some ⟨g, 0, none⟩, cap, rfl, ⟨fun _ => ⟨g, rfl⟩, ?_, ?_, ?_, hb, hm⟩, fun g' e => by cases e; rfl⟩
    · intro g' i hi e; cases e; rw [← hadd]; exact hc _ _ (heldCells_at hs i hi).1
    · intro g' i hi e; cases e; rw [← hadd]; exact hc _ _ (heldCells_at hs i hi).2.1
    · intro g' i hi e; cases e; rw [← hadd]; exact hc _ _ (heldCells_at hs i hi).2.2

theorem Try.infoHeld : (Try.prog.info? 34).map (fun i => (i.zero, i.size, i.bytes)) = some (some (.agg #[.int .i64 0, .int .i64 0, .slice none 0 0]), 3, 40) := by kernel_rfl

theorem wo_step (hs : List Held) (k i : Nat) (hi : i < hs.length) : ((hs.take (i + 1)).eraseIdx k) = if i = k then (hs.take i).eraseIdx k else (hs.take i).eraseIdx k ++ [hs.getD i heldZ] := by
  have hl : (hs.take i).length = i := by simp; omega
  have e : hs.take (i + 1) = hs.take i ++ [hs.getD i heldZ] := by
    rw [List.take_succ_eq_append_getElem hi]; simp [hi]
  rw [e, List.eraseIdx_append, hl]
  by_cases h1 : k < i
  · rw [if_pos h1, if_neg (by omega)]
  · rw [if_neg h1]
    have h2 : (hs.take i).eraseIdx k = hs.take i := List.eraseIdx_of_length_le (by omega)
    by_cases h3 : i = k
    · subst h3; simp [h2]
    · rw [if_neg h3, h2]
      have : k - i = (k - i - 1) + 1 := by omega
      rw [this]; simp

set_option maxHeartbeats 1000000 in
theorem kwithout_any (w : World) (ao : Option Addr) (cap k : Nat) (hs : List Held) (h : HeldRow w ao hs.length (fun i => (hs.getD i heldZ).at_) (fun i => (hs.getD i heldZ).n) (fun i => words (hs.getD i heldZ))) :
    Calls Try.prog 9 #[.slice ao hs.length cap, .int .i64 (k : Int)] w fun e w' =>
      ∃ v, e = .returned v ∧ w'.ownsRow w.heap.size 34 3 v (hs.eraseIdx k).length (heldCells (hs.eraseIdx k)) ∧ Fr NoB w w' := by
  have hm := h.hm
  obtain ⟨i0, hi0, hz0, hz1, hz2⟩ := info_parts Try.infoHeld
  go_enter Try.func9, Try.ntmps9
  go_wp2
  go_loopw [5, 6] (fun t u wr => ∃ i : Nat, i ≤ hs.length ∧ u = .int .i64 i ∧ wr.ownsRow w.heap.size 34 3 t ((hs.take i).eraseIdx k).length (heldCells ((hs.take i).eraseIdx k)) ∧ Fr NoB w wr) (fun _ u _ => hs.length - (intOf u).toNat)
  case atStart => exact ⟨0, Nat.zero_le _, rfl, World.ownsRow_nil _ _ _ _, Fr.refl _ _⟩
  case round =>
    obtain ⟨i, hi, rfl, hown, hF⟩ := hrel
    have hle : ((hs.take i).eraseIdx k).length ≤ 4096 := Nat.le_trans (List.length_eraseIdx_le _ _) (by simp; omega)
    by_cases hlt : i < hs.length
    · obtain ⟨g, rfl⟩ := h.some_ (by omega)
      have HW := show Hid _ from wo_step hs k i hlt
      by_cases hk : i = k
      · have HW' : Hid ((hs.take (i + 1)).eraseIdx k = (hs.take i).eraseIdx k) := HW.out.trans (if_pos hk)
        clear HW
        have hkb : ((i : Int) != (k : Int)) = false := by simp; omega
        clear hk
        go_wp2
        go_roundw
        case rel => exact ⟨i + 1, by omega, by go_num, by rw [HW'.out]; exact hown, hF⟩
        case measure => simp [intOf]; omega
      · have HW' : Hid ((hs.take (i + 1)).eraseIdx k = (hs.take i).eraseIdx k ++ [hs.getD i heldZ]) := HW.out.trans (if_neg hk)
        clear HW
        have hkb : ((i : Int) != (k : Int)) = true := by simp; omega
        clear hk
        generalize hx : hs.getD i heldZ = x at *
        have hr := h.no hF
        have h0 := hr.c0 g i hlt rfl
        have h1 := hr.c1 g i hlt rfl
        have h2 := hr.c2 g i hlt rfl
        simp only [hx] at h0 h1 h2
        have Hx : Hid (hs.getD i heldZ = x) := hx
        clear hr hx
        generalize hl : (hs.take i).eraseIdx k = l at *
        clear hl
        have hsz := hF.size
        go_wp2_with (at_builtin; refine wpList_append_own _ rfl _ _ 28 rfl w.heap.size 34 i0 (.agg #[.int .i64 0, .int .i64 0, .slice none 0 0]) 3 40 Try.underlying28 hi0 hz0 hz1 hz2 rfl (by decide) _ _ _ rfl (hown.alloc _) ⟨wr.heap.size, 0, none⟩ 1 1 [.int .i64 (x.at_ : Int), .int .i64 (x.n : Int), words x] rfl rfl ?c1 ?c2 ?c3 ?c4 ?c5 ?_)
        case c1 =>
          intro j u hj
          match j, hj with
          | 0, hj => simp at hj; subst hj; simp [Addr.add]
          | 1, hj => simp at hj; subst hj; simp [Addr.add]
          | 2, hj => simp at hj; subst hj; simp [Addr.add]
        case c2 => intro u hu; simp at hu; rcases hu with rfl | rfl | rfl <;> rfl
        case c3 => unfold maxLen; omega
        case c4 => omega
        case c5 => simp; omega
        intro v' w2 hown' hgrow _
        have hlt2 := hown.lt
        have hF2 : Fr NoB w w2 := (hF.alloc _).then (Fr.of_grown (S := fun q => u5.ownBlock = some q) hgrow (fun k _ e => e)) (fun q hq e => by have := (hlt2 q e).1; omega)
        clear hgrow hown hlt2
        go_wp2
        go_roundw
        case rel => exact ⟨i + 1, by omega, by go_num, by rw [HW'.out, heldCells_snoc, List.length_append]; exact hown', hF2⟩
        case measure => simp [intOf]; omega
    · have hie : i = hs.length := by omega
      subst hie
      rw [List.take_length] at hown
      go_wp2
      go_ret
      exact ⟨_, rfl, hown, hF⟩
end Go.Proofs.Ythcjcjfgdgnljaa
