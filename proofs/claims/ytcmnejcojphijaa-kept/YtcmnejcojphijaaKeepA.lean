import Derived.Test.YtcmnejcojphijaaNew
import Derived.Deep.QuietTactic
import Derived.BigQuiet
namespace Go.Proofs.Ytcmnejcojphijaa
open Go.RowKit

set_option maxHeartbeats 400000 in
theorem kpick_fn (w : World) (c : Int) (n : Nat) (hn : 1 ≤ n) (hn2 : n ≤ 4611686018427387904) (h1 : -9223372036854775808 ≤ c) (h2 : c ≤ 9223372036854775807) :
    Calls Try.prog 5 #[.int .i64 c, .int .i64 (n : Int)] w fun e w' => e = .returned (.int .i64 (pickZ c n : Nat)) ∧ w' = w := by
  by_cases hc : c < 0
  · have hm1 := Int.emod_nonneg (-(c + 1)) (show (n : Int) ≠ 0 by omega)
    have HP : Hid (pickZ c n = ((-(c + 1)) % (n : Int)).toNat) := by unfold pickZ; exact if_pos hc
    go_enter Try.func5, Try.ntmps5
    go_wp2
    go_ret
    have e : (c + 1).tmod (n : Int) = -((-(c + 1)) % n) := by
      rw [← Int.tmod_eq_emod_of_nonneg (by omega), Int.neg_tmod, Int.neg_neg]
    exact ⟨ret_int (by rw [HP.out]; omega), rfl⟩
  · have hm1 := Int.emod_nonneg c (show (n : Int) ≠ 0 by omega)
    have HP : Hid (pickZ c n = (c % (n : Int)).toNat) := by unfold pickZ; exact if_neg hc
    go_enter Try.func5, Try.ntmps5
    go_wp2
    go_ret
    exact ⟨ret_int (by rw [HP.out]; omega), rfl⟩
theorem kpick_any (w : World) (c : Int) (n : Nat) (hn : 1 ≤ n) (hn2 : n ≤ 1000000) (h1 : -9223372036854775808 ≤ c) (h2 : c ≤ 9223372036854775807) :
    Calls Try.prog 5 #[.int .i64 c, .int .i64 (n : Int)] w fun e w' => ∃ j : Nat, j < n ∧ e = .returned (.int .i64 (j : Int)) ∧ w' = w :=
  (kpick_fn w c n hn (by omega) h1 h2).mono (fun _ _ ⟨h1, h2⟩ => ⟨pickZ c n, pickZ_lt c hn, h1, h2⟩)

/-- a list of blocks in memory: m of them; at, length and words of each -/
structure HeldRow (w : World) (ao : Option Addr) (m : Nat) (A N : Nat → Nat) (S : Nat → Value) : Prop where
  some_ : 0 < m → ∃ g, ao = some ⟨g, 0, none⟩
  c0 : ∀ g i, i < m → ao = some ⟨g, 0, none⟩ → w.cell? ⟨g, i * 3, none⟩ = some (.int .i64 (A i))
  c1 : ∀ g i, i < m → ao = some ⟨g, 0, none⟩ → w.cell? ⟨g, i * 3 + 1, none⟩ = some (.int .i64 (N i))
  c2 : ∀ g i, i < m → ao = some ⟨g, 0, none⟩ → w.cell? ⟨g, i * 3 + 2, none⟩ = some (S i)
  bd : ∀ i, i < m → A i + N i ≤ 4096
  hm : m ≤ 4096

def TK (m : Nat) (A N : Nat → Nat) (p : Nat) : Prop := ∃ i, i < m ∧ A i ≤ p ∧ p < A i + N i

theorem HeldRow.fr {S' : Nat → Prop} {w w' : World} {ao : Option Addr} {m : Nat} {A N : Nat → Nat} {S : Nat → Value} (h : HeldRow w ao m A N S) (hf : Fr S' w w') (hs : ∀ g, ao = some ⟨g, 0, none⟩ → ¬ S' g) : HeldRow w' ao m A N S :=
  ⟨h.some_, fun g i hi e => hf.cell_some (h.c0 g i hi e) (hs g e), fun g i hi e => hf.cell_some (h.c1 g i hi e) (hs g e), fun g i hi e => hf.cell_some (h.c2 g i hi e) (hs g e), h.bd, h.hm⟩
theorem HeldRow.no {w w' : World} {ao : Option Addr} {m : Nat} {A N : Nat → Nat} {S : Nat → Value} (h : HeldRow w ao m A N S) (hf : Fr NoB w w') : HeldRow w' ao m A N S := h.fr hf (fun _ _ h => h)

theorem none_step {P : Nat → Prop} {i : Nat} (h : ∀ j, j < i → ¬ P j) (hi : ¬ P i) : ∀ j, j < i + 1 → ¬ P j := fun j hj => by
  by_cases e : j = i
  · subst e; exact hi
  · exact h j (by omega)

set_option maxHeartbeats 400000 in
theorem ktaken_any (w : World) (ao : Option Addr) (m cap : Nat) (A N : Nat → Nat) (S : Nat → Value) (p : Nat) (h : HeldRow w ao m A N S) (hp : p ≤ 8192) :
    Calls Try.prog 33 #[.slice ao m cap, .int .i64 (p : Int)] w fun e w' => ∃ b : Bool, e = .returned (.bool b) ∧ (b = true ↔ TK m A N p) ∧ Fr NoB w w' := by
  have hm := h.hm
  go_enter Try.func33, Try.ntmps33
  go_wp2
  go_loopw [5] (fun t wr => ∃ i : Nat, i ≤ m ∧ t = .int .i64 i ∧ (∀ j, j < i → ¬ (A j ≤ p ∧ p < A j + N j)) ∧ Fr NoB w wr) (fun t _ => m - (intOf t).toNat)
  case atStart => exact ⟨0, Nat.zero_le _, rfl, fun j hj => absurd hj (by omega), Fr.refl _ _⟩
  case round =>
    obtain ⟨i, hi, rfl, hno, hF⟩ := hrel
    have Hno : Hid (∀ j, j < i → ¬ (A j ≤ p ∧ p < A j + N j)) := hno
    clear hno
    by_cases hlt : i < m
    · obtain ⟨g, rfl⟩ := h.some_ (by omega)
      have hr := h.no hF
      have h0 := hr.c0 g i hlt rfl
      have h1 := hr.c1 g i hlt rfl
      have hb := h.bd i hlt
      clear hr
      by_cases hd : A i ≤ p
      · by_cases hd2 : p < A i + N i
        · have hyes : TK m A N p := ⟨i, hlt, hd, hd2⟩
          have Hyes : Hid (TK m A N p) := hyes
          clear hyes
          go_wp2
          go_quiet (fail)
          go_wp2
          go_ret
          exact ⟨true, rfl, ⟨fun _ => Hyes.out, fun _ => rfl⟩, by repeat (first | exact hF | refine Fr.drewN ?_ _)⟩
        · go_wp2
          go_quiet (fail)
          go_wp2
          go_roundw
          case rel => exact ⟨i + 1, by omega, by go_num, none_step Hno.out (by omega), by repeat (first | exact hF | refine Fr.drewN ?_ _)⟩
          case measure => simp [intOf]; omega
      · have hd' : decide ((A i : Int) ≤ (p : Int)) = false := by simp; omega
        go_wp2
        go_quiet (fail)
        go_wp2
        go_roundw
        case rel => exact ⟨i + 1, by omega, by go_num, none_step Hno.out (by omega), by repeat (first | exact hF | refine Fr.drewN ?_ _)⟩
        case measure => simp [intOf]; omega
    · go_wp2
      go_ret
      exact ⟨false, rfl, ⟨fun e => absurd e (by simp), fun ⟨j, hj, hp⟩ => absurd hp (Hno.out j (by omega))⟩, hF⟩

/-- k free words from a on, by the list -/
def RoomAt (m : Nat) (A N : Nat → Nat) (n k a : Nat) : Prop := a + k ≤ n ∧ ∀ i, a ≤ i → i < a + k → ¬ TK m A N i

theorem all_free_step {P : Nat → Prop} {a p : Nat} {f b : Bool} (ha : a ≤ p) (h : f = true ↔ ∀ i, a ≤ i → i < p → ¬ P i) (hb : b = true ↔ P p) : ((f && !b) = true) ↔ ∀ i, a ≤ i → i < p + 1 → ¬ P i := by
  constructor
  · intro e
    simp at e
    intro i h1 h2
    by_cases ei : i = p
    · subst ei; intro hp; have := hb.2 hp; rw [e.2] at this; cases this
    · exact (h.1 e.1) i h1 (by omega)
  · intro hall
    have h1 := h.2 (fun i h1 h2 => hall i h1 (by omega))
    have h2 : b = false := by
      cases b
      · rfl
      · exact absurd (hb.1 rfl) (hall p ha (by omega))
    simp [h1, h2]

set_option maxHeartbeats 1000000 in
theorem kroom_any (w : World) (ao : Option Addr) (m cap : Nat) (A N : Nat → Nat) (S : Nat → Value) (k n : Nat) (h : HeldRow w ao m A N S) (hk1 : 1 ≤ k) (hk : k ≤ 64) (hn : n ≤ 4096) :
    Calls Try.prog 21 #[.slice ao m cap, .int .i64 (k : Int), .int .i64 (n : Int)] w fun e w' =>
      ((∃ a : Nat, e = .returned (.int .i64 (a : Int)) ∧ RoomAt m A N n k a ∧ ∀ b, RoomAt m A N n k b → a ≤ b) ∨ (e = .returned (.int .i64 (-1)) ∧ ∀ b, ¬ RoomAt m A N n k b)) ∧ Fr NoB w w' := by
  go_enter Try.func21, Try.ntmps21
  go_wp2
  go_loopw [7] (fun t wr => ∃ a : Nat, a ≤ n + 1 ∧ t = .int .i64 a ∧ (∀ b, RoomAt m A N n k b → a ≤ b) ∧ Fr NoB w wr) (fun t _ => n + 1 - (intOf t).toNat)
  case atStart => exact ⟨0, Nat.zero_le _, rfl, fun b _ => Nat.zero_le _, Fr.refl _ _⟩
  case round =>
    obtain ⟨a, ha, rfl, hmin, hF⟩ := hrel
    have Hmin : Hid (∀ b, RoomAt m A N n k b → a ≤ b) := hmin
    clear hmin
    by_cases hlt : a + k ≤ n
    · have hdl : decide ((a : Int) + (k : Int) ≤ (n : Int)) = true := by simp; omega
      go_wp2
      go_loopw [8, 9] (fun t u wr => ∃ (f : Bool) (p : Nat), a ≤ p ∧ p ≤ a + k ∧ t = .bool f ∧ u = .int .i64 p ∧ (f = true ↔ ∀ i, a ≤ i → i < p → ¬ TK m A N i) ∧ Fr NoB w wr) (fun _ u _ => a + k - (intOf u).toNat)
      case atStart => exact ⟨true, a, Nat.le_refl _, by omega, rfl, rfl, ⟨fun _ i h1 h2 => absurd h2 (by omega), fun _ => rfl⟩, hF⟩
      case round =>
        obtain ⟨f, p, hp1, hp2, rfl, rfl, hf, hF2⟩ := hrel
        have Hf : Hid (f = true ↔ ∀ i, a ≤ i → i < p → ¬ TK m A N i) := hf
        clear hf
        by_cases hpl : p < a + k
        · go_wp2_with fail
          refine (ktaken_any _ ao m cap A N S p (h.no hF2) (by omega)).mono ?_
          rintro e w2 ⟨b, rfl, hb, hF3⟩
          have Hb : Hid (b = true ↔ TK m A N p) := hb
          clear hb
          have HN : Hid (((f && !b) = true) ↔ ∀ i, a ≤ i → i < p + 1 → ¬ TK m A N i) := all_free_step hp1 Hf.out Hb.out
          cases f
          all_goals
            go_wp2
            go_roundw
            case rel => exact ⟨_, p + 1, by omega, by omega, rfl, by go_num, HN.out, hF2.trans hF3⟩
            case measure => simp [intOf]; omega
        · have hpe : p = a + k := by omega
          subst hpe
          cases f
          · have hno : ∀ b, RoomAt m A N n k b → a + 1 ≤ b := fun b hb => by
              have h1 := Hmin.out b hb
              by_cases e : b = a
              · subst e; exact absurd (Hf.out.2 hb.2) (by simp)
              · omega
            have Hno : Hid (∀ b, RoomAt m A N n k b → a + 1 ≤ b) := hno
            clear hno
            go_wp2
            go_roundw
            case rel => exact ⟨a + 1, by omega, by go_num, Hno.out, hF2⟩
            case measure => simp [intOf]; omega
          · have hy : RoomAt m A N n k a := ⟨hlt, Hf.out.1 rfl⟩
            have Hy : Hid (RoomAt m A N n k a) := hy
            clear hy
            go_wp2
            go_ret
            exact ⟨.inl ⟨a, rfl, Hy.out, Hmin.out⟩, hF2⟩
    · go_wp2
      go_ret
      exact ⟨.inr ⟨rfl, fun b hb => by have h1 := Hmin.out b hb; have h2 := hb.1; omega⟩, hF⟩
end Go.Proofs.Ytcmnejcojphijaa
