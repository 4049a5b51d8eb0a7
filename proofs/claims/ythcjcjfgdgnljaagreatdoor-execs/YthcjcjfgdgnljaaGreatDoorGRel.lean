/-
  Rel: one behind the other.
-/
import Derived.Test.YthcjcjfgdgnljaaGreatDoorGRefB
namespace Go.Proofs.YthcjcjfgdgnljaaGreatDoor
open Go.RowKit

structure Rel (n : Nat) (B V I H : Nat → Int) (md : Int) : Prop where
  zz : ∀ i, i < n → (B i = 0 ↔ I i = 0)
  eqv : ∀ i j, i < n → j < n → I i ≠ 0 → (I i = I j ↔ B i = B j)
  vh : ∀ i, i < n → B i ≠ 0 → V i = H i
  zv : ∀ i, i < n → B i = 0 → V i = 0
  st : ∀ i, i < n → B i ≠ 0 → ∃ s : Nat, B i = (s : Int) + 1 ∧ s ≤ i ∧ ∀ j, s ≤ j → j ≤ i → B j = B i
  mx : ∀ i, i < n → I i ≤ md
  md0 : 0 ≤ md

theorem Rel.start (n : Nat) : Rel n (fun _ => 0) (fun _ => 0) (fun _ => 0) (fun _ => 0) 0 :=
  ⟨fun _ _ => Iff.rfl, fun _ _ _ _ h => absurd rfl h, fun _ _ h => absurd rfl h, fun _ _ _ => rfl, fun _ _ h => absurd rfl h, fun _ _ => Int.le_refl _, Int.le_refl _⟩

theorem Rel.freeAt {n : Nat} {B V I H : Nat → Int} {md : Int} (h : Rel n B V I H md) (k a : Nat) : FreeAt B n k a ↔ FreeAt I n k a :=
  ⟨fun ⟨h1, h2⟩ => ⟨h1, fun i g1 g2 => (h.zz i (by omega)).1 (h2 i g1 g2)⟩, fun ⟨h1, h2⟩ => ⟨h1, fun i g1 g2 => (h.zz i (by omega)).2 (h2 i g1 g2)⟩⟩
theorem Rel.taken {n : Nat} {B V I H : Nat → Int} {md : Int} (h : Rel n B V I H md) (a : Int) : takenB B n a = takenB I n a := by
  by_cases h0 : 0 ≤ a
  · obtain ⟨k, rfl⟩ := Int.eq_ofNat_of_zero_le h0
    by_cases hk : k < n
    · rw [takenB_in hk, takenB_in hk, Bool.eq_iff_iff]
      have := h.zz k hk
      simp only [bne_iff_ne, ne_eq, this]
    · rw [takenB_hi hk, takenB_hi hk]
  · rw [takenB_neg h0, takenB_neg h0]

theorem Rel.alloc {n : Nat} {B V I H : Nat → Int} {md : Int} (h : Rel n B V I H md) {k a : Nat} (hk : 1 ≤ k) (hf : FreeAt B n k a) : Rel n (markTo B a (a + k)) V (setTo I a (a + k) (md + 1)) (setTo H a (a + k) 0) (md + 1) := by
  have hm0 := h.md0
  have hin : ∀ i, (a ≤ i ∧ i < a + k) → markTo B a (a + k) i = (a : Int) + 1 := fun i e => by unfold markTo; rw [if_pos e]
  have hout : ∀ i, ¬ (a ≤ i ∧ i < a + k) → markTo B a (a + k) i = B i := fun i e => by unfold markTo; rw [if_neg e]
  have sin : ∀ (f : Nat → Int) (v : Int) i, (a ≤ i ∧ i < a + k) → setTo f a (a + k) v i = v := fun f v i e => by unfold setTo; rw [if_pos e]
  have sout : ∀ (f : Nat → Int) (v : Int) i, ¬ (a ≤ i ∧ i < a + k) → setTo f a (a + k) v i = f i := fun f v i e => by unfold setTo; rw [if_neg e]
  have hnew : ∀ j, j < n → ¬ (a ≤ j ∧ j < a + k) → B j ≠ (a : Int) + 1 := fun j hj e hb => by
    obtain ⟨s, h1, h2, h3⟩ := h.st j hj (by omega)
    have hs : s = a := by omega
    subst hs
    have := h3 s (Nat.le_refl _) h2
    have := hf.2 s (Nat.le_refl _) (by omega)
    omega
  refine ⟨fun i hi => ?_, fun i j hi hj hne => ?_, fun i hi hne => ?_, fun i hi hz => ?_, fun i hi hne => ?_, fun i hi => ?_, by omega⟩
  · by_cases e : a ≤ i ∧ i < a + k
    · rw [hin i e, sin I _ i e]; constructor <;> intro h <;> omega
    · rw [hout i e, sout I _ i e]; exact h.zz i hi
  · by_cases e : a ≤ i ∧ i < a + k <;> by_cases e2 : a ≤ j ∧ j < a + k
    · rw [hin i e, hin j e2, sin I _ i e, sin I _ j e2]; constructor <;> intro _ <;> rfl
    · rw [hin i e, hout j e2, sin I _ i e, sout I _ j e2]
      have h1 := h.mx j hj
      have h2 := hnew j hj e2
      constructor
      · intro g; omega
      · intro g; exact absurd g.symm h2
    · rw [hout i e, hin j e2, sout I _ i e, sin I _ j e2]
      have h1 := h.mx i hi
      have h2 := hnew i hi e
      constructor
      · intro g; omega
      · intro g; exact absurd g h2
    · rw [hout i e, hout j e2, sout I _ i e, sout I _ j e2]
      rw [sout I _ i e] at hne
      exact h.eqv i j hi hj hne
  · by_cases e : a ≤ i ∧ i < a + k
    · rw [sin H _ i e]; exact h.zv i hi (hf.2 i e.1 e.2)
    · rw [sout H _ i e]; rw [hout i e] at hne; exact h.vh i hi hne
  · by_cases e : a ≤ i ∧ i < a + k
    · rw [hin i e] at hz; omega
    · rw [hout i e] at hz; exact h.zv i hi hz
  · by_cases e : a ≤ i ∧ i < a + k
    · refine ⟨a, hin i e, e.1, fun j h1 h2 => ?_⟩
      rw [hin i e, hin j ⟨h1, by omega⟩]
    · rw [hout i e] at hne
      obtain ⟨s, h1, h2, h3⟩ := h.st i hi hne
      refine ⟨s, by rw [hout i e]; exact h1, h2, fun j g1 g2 => ?_⟩
      have e2 : ¬ (a ≤ j ∧ j < a + k) := fun e2 => by
        have := hf.2 j e2.1 e2.2
        rw [h3 j g1 g2] at this
        exact hne this
      rw [hout i e, hout j e2]
      exact h3 j g1 g2
  · by_cases e : a ≤ i ∧ i < a + k
    · rw [sin I _ i e]; omega
    · rw [sout I _ i e]; have := h.mx i hi; omega

theorem Rel.starts {n : Nat} {B V I H : Nat → Int} {md : Int} (h : Rel n B V I H md) {k : Nat} (hk : k < n) (hb : B k = (k : Int) + 1) : k = 0 ∨ (0 < k ∧ I (k - 1) ≠ I k) := by
  by_cases e : k = 0
  · exact .inl e
  · refine .inr ⟨by omega, fun he => ?_⟩
    have hi : I k ≠ 0 := fun hz => by have := (h.zz k hk).2 hz; omega
    have h1 := (h.eqv k (k - 1) hk (by omega) hi).1 he.symm
    obtain ⟨s, g1, g2, _⟩ := h.st (k - 1) (by omega) (by omega)
    omega
theorem Rel.inside {n : Nat} {B V I H : Nat → Int} {md : Int} (h : Rel n B V I H md) {k : Nat} (hk : k < n) (hb : B k ≠ 0) (hne : B k ≠ (k : Int) + 1) : 0 < k ∧ I (k - 1) = I k := by
  obtain ⟨s, g1, g2, g3⟩ := h.st k hk hb
  have hs : s < k := by
    by_cases e : s = k
    · subst e; exact absurd g1 hne
    · omega
  have hi : I k ≠ 0 := fun hz => hb ((h.zz k hk).2 hz)
  exact ⟨by omega, ((h.eqv k (k - 1) hk (by omega) hi).2 (g3 (k - 1) (by omega) (by omega)).symm).symm⟩

theorem Rel.free {n : Nat} {B V I H : Nat → Int} {md : Int} (h : Rel n B V I H md) {k z : Nat} (hk : k < n) (hb : B k = (k : Int) + 1) (hz1 : k < z)
    (hall : ∀ i, k ≤ i → i < z → B i = (k : Int) + 1) (hstop : z = n ∨ B z ≠ (k : Int) + 1) : Rel n (clearTo B k z) (clearTo V k z) (clearEq I (I k) n) H md := by
  have hik : I k ≠ 0 := fun hz => by have := (h.zz k hk).2 hz; omega
  have key : ∀ i, i < n → ((k ≤ i ∧ i < z) ↔ B i = (k : Int) + 1) := fun i hi => by
    constructor
    · intro e; exact hall i e.1 e.2
    · intro e
      obtain ⟨s, g1, g2, g3⟩ := h.st i hi (by omega)
      have hs : s = k := by omega
      subst hs
      refine ⟨g2, ?_⟩
      by_cases hiz : i < z
      · exact hiz
      · exfalso
        rcases hstop with h1 | h1
        · omega
        · have := g3 z (by omega) (by omega); rw [e] at this; exact h1 this
  have key2 : ∀ i, i < n → (I i = I k ↔ B i = (k : Int) + 1) := fun i hi => by
    have := h.eqv k i hk hi hik
    rw [hb] at this
    constructor
    · intro e; exact (this.1 e.symm).symm
    · intro e; exact (this.2 e.symm).symm
  have bin : ∀ i, i < n → B i = (k : Int) + 1 → (∀ f : Nat → Int, clearTo f k z i = 0) ∧ clearEq I (I k) n i = 0 := fun i hi e => by
    refine ⟨fun f => ?_, ?_⟩
    · unfold clearTo; rw [if_pos ((key i hi).2 e)]
    · unfold clearEq; rw [if_pos ⟨hi, (key2 i hi).2 e⟩]
  have bout : ∀ i, i < n → B i ≠ (k : Int) + 1 → (∀ f : Nat → Int, clearTo f k z i = f i) ∧ clearEq I (I k) n i = I i := fun i hi e => by
    refine ⟨fun f => ?_, ?_⟩
    · unfold clearTo; rw [if_neg (fun g => e ((key i hi).1 g))]
    · unfold clearEq; rw [if_neg (fun g => e ((key2 i hi).1 g.2))]
  refine ⟨fun i hi => ?_, fun i j hi hj hne => ?_, fun i hi hne => ?_, fun i hi hz => ?_, fun i hi hne => ?_, fun i hi => ?_, h.md0⟩
  · by_cases e : B i = (k : Int) + 1
    · rw [(bin i hi e).1 B, (bin i hi e).2]
    · rw [(bout i hi e).1 B, (bout i hi e).2]; exact h.zz i hi
  · by_cases e : B i = (k : Int) + 1
    · rw [(bin i hi e).2] at hne; exact absurd rfl hne
    · rw [(bout i hi e).2] at hne
      rw [(bout i hi e).1 B, (bout i hi e).2]
      by_cases e2 : B j = (k : Int) + 1
      · rw [(bin j hj e2).1 B, (bin j hj e2).2]
        exact (h.zz i hi).symm
      · rw [(bout j hj e2).1 B, (bout j hj e2).2]
        exact h.eqv i j hi hj hne
  · by_cases e : B i = (k : Int) + 1
    · rw [(bin i hi e).1 B] at hne; exact absurd rfl hne
    · rw [(bout i hi e).1 B] at hne; rw [(bout i hi e).1 V]; exact h.vh i hi hne
  · by_cases e : B i = (k : Int) + 1
    · exact (bin i hi e).1 V
    · rw [(bout i hi e).1 B] at hz; rw [(bout i hi e).1 V]; exact h.zv i hi hz
  · by_cases e : B i = (k : Int) + 1
    · rw [(bin i hi e).1 B] at hne; exact absurd rfl hne
    · rw [(bout i hi e).1 B] at hne
      obtain ⟨s, g1, g2, g3⟩ := h.st i hi hne
      refine ⟨s, by rw [(bout i hi e).1 B]; exact g1, g2, fun j q1 q2 => ?_⟩
      have hj := g3 j q1 q2
      rw [(bout i hi e).1 B, (bout j (by omega) (by rw [hj]; exact e)).1 B]
      exact hj
  · by_cases e : B i = (k : Int) + 1
    · rw [(bin i hi e).2]; exact h.md0
    · rw [(bout i hi e).2]; exact h.mx i hi

theorem Rel.store {n : Nat} {B V I H : Nat → Int} {md : Int} (h : Rel n B V I H md) {k : Nat} (hb : B k ≠ 0) (u : Int) : Rel n B (upd V k u) I (upd H k u) md :=
  ⟨h.zz, h.eqv, fun i hi hne => by
    by_cases e : i = k
    · subst e; rw [upd_at, upd_at]
    · rw [upd_ne _ _ e, upd_ne _ _ e]; exact h.vh i hi hne, fun i hi hz => by
    rw [upd_ne _ _ (fun e => by subst e; exact hb hz)]; exact h.zv i hi hz, h.st, h.mx, h.md0⟩

theorem runs_congr {B I : Nat → Int} {n : Nat} (hz : ∀ i, i < n → (B i = 0 ↔ I i = 0)) (L : List (Nat × Nat)) (lo : Nat) (h : IsRuns B n lo L) : IsRuns I n lo L := by
  induction L generalizing lo with
  | nil => exact fun i h1 h2 e => h i h1 h2 ((hz i h2).2 e)
  | cons s t ih =>
    obtain ⟨a, l⟩ := s
    obtain ⟨h1, h2, h3, h4, h5, h6, h7⟩ := h
    refine ⟨h1, h2, h3, fun i g1 g2 e => h4 i g1 g2 ((hz i (by omega)).2 e), fun i g1 g2 => (hz i (by omega)).1 (h5 i g1 g2), ?_, ih _ h7⟩
    rcases h6 with h6 | h6
    · exact .inl h6
    · by_cases e : a + l = n
      · exact .inl e
      · exact .inr (fun g => h6 ((hz _ (by omega)).2 g))
theorem runs_unique {B : Nat → Int} {n : Nat} (L M : List (Nat × Nat)) (lo : Nat) (h : IsRuns B n lo L) (g : IsRuns B n lo M) : L = M := by
  induction L generalizing lo M with
  | nil =>
    cases M with
    | nil => rfl
    | cons s t =>
      obtain ⟨a, l⟩ := s
      obtain ⟨h1, h2, h3, h4, h5, h6, h7⟩ := g
      exact absurd (h5 a (Nat.le_refl _) (by omega)) (h a h1 (by omega))
  | cons s t ih =>
    obtain ⟨a, l⟩ := s
    obtain ⟨h1, h2, h3, h4, h5, h6, h7⟩ := h
    cases M with
    | nil => exact absurd (h5 a (Nat.le_refl _) (by omega)) (g a h1 (by omega))
    | cons s' t' =>
      obtain ⟨a', l'⟩ := s'
      obtain ⟨g1, g2, g3, g4, g5, g6, g7⟩ := g
      have ha : a = a' := by
        by_cases e : a < a'
        · exact absurd (h5 a (Nat.le_refl _) (by omega)) (g4 a h1 e)
        · by_cases e2 : a' < a
          · exact absurd (g5 a' (Nat.le_refl _) (by omega)) (h4 a' g1 e2)
          · omega
      subst ha
      have hl : l = l' := by
        by_cases e : l < l'
        · rcases h6 with h6 | h6
          · omega
          · exact absurd (g5 (a + l) (by omega) (by omega)) h6
        · by_cases e2 : l' < l
          · rcases g6 with g6 | g6
            · omega
            · exact absurd (h5 (a + l') (by omega) (by omega)) g6
          · omega
      subst hl
      rw [ih t' (a + l) h7 g7]
end Go.Proofs.YthcjcjfgdgnljaaGreatDoor
