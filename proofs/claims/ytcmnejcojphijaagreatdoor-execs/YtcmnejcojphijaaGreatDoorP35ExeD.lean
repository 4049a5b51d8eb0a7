/-
  Rel, ExeB, ExeC, ExeD: one behind the other.
-/
import Derived.Test.YtcmnejcojphijaaGreatDoorP34RefB
import Derived.Test.YtcmnejcojphijaaGreatDoorP33ExeA
import Derived.Test.YtcmnejcojphijaaGreatDoorP22RunO
import Derived.Test.YtcmnejcojphijaaGreatDoorP24RunT
namespace Go.Proofs.YtcmnejcojphijaaGreatDoor
open Go.RowKit

structure Rel (n : Nat) (B V I H : Nat → Int) (md : Int) : Prop where
  zz : ∀ i, i < n → (B i = 0 ↔ I i = 0)
  eqv : ∀ i j, i < n → j < n → I i ≠ 0 → (I i = I j ↔ B i = B j)
  vh : ∀ i, i < n → B i ≠ 0 → V i = H i
  zv : ∀ i, i < n → B i = 0 → V i = 0
  st : ∀ i, i < n → B i ≠ 0 → ∃ s : Nat, B i = (s : Int) + 1 ∧ s ≤ i ∧ ∀ j, s ≤ j → j ≤ i → B j = B i
  mx : ∀ i, i < n → I i ≤ md
  md0 : 0 ≤ md

theorem Rel.start (n : Nat) : Rel n (fun _ => 0) (fun _ => 0) (fun _ => 0) (fun _ => 0) 0 :=
  ⟨fun _ _ => Iff.rfl, fun _ _ _ _ h => absurd rfl h, fun _ _ h => absurd rfl h, fun _ _ _ => rfl, fun _ _ h => absurd rfl h, fun _ _ => Int.le_refl _, Int.le_refl _⟩

theorem Rel.freeAt {n : Nat} {B V I H : Nat → Int} {md : Int} (h : Rel n B V I H md) (k a : Nat) : FreeAt B n k a ↔ FreeAt I n k a :=
  ⟨fun ⟨h1, h2⟩ => ⟨h1, fun i g1 g2 => (h.zz i (by omega)).1 (h2 i g1 g2)⟩, fun ⟨h1, h2⟩ => ⟨h1, fun i g1 g2 => (h.zz i (by omega)).2 (h2 i g1 g2)⟩⟩
theorem Rel.taken {n : Nat} {B V I H : Nat → Int} {md : Int} (h : Rel n B V I H md) (a : Int) : takenB B n a = takenB I n a := by
  by_cases h0 : 0 ≤ a
  · obtain ⟨k, rfl⟩ := Int.eq_ofNat_of_zero_le h0
    by_cases hk : k < n
    · rw [takenB_in hk, takenB_in hk, Bool.eq_iff_iff]
      have := h.zz k hk
      simp only [bne_iff_ne, ne_eq, this]
    · rw [takenB_hi hk, takenB_hi hk]
  · rw [takenB_neg h0, takenB_neg h0]

theorem Rel.alloc {n : Nat} {B V I H : Nat → Int} {md : Int} (h : Rel n B V I H md) {k a : Nat} (hk : 1 ≤ k) (hf : FreeAt B n k a) : Rel n (markTo B a (a + k)) V (setTo I a (a + k) (md + 1)) (setTo H a (a + k) 0) (md + 1) := by
  have hm0 := h.md0
  have hin : ∀ i, (a ≤ i ∧ i < a + k) → markTo B a (a + k) i = (a : Int) + 1 := fun i e => by unfold markTo; rw [if_pos e]
  have hout : ∀ i, ¬ (a ≤ i ∧ i < a + k) → markTo B a (a + k) i = B i := fun i e => by unfold markTo; rw [if_neg e]
  have sin : ∀ (f : Nat → Int) (v : Int) i, (a ≤ i ∧ i < a + k) → setTo f a (a + k) v i = v := fun f v i e => by unfold setTo; rw [if_pos e]
  have sout : ∀ (f : Nat → Int) (v : Int) i, ¬ (a ≤ i ∧ i < a + k) → setTo f a (a + k) v i = f i := fun f v i e => by unfold setTo; rw [if_neg e]
  have hnew : ∀ j, j < n → ¬ (a ≤ j ∧ j < a + k) → B j ≠ (a : Int) + 1 := fun j hj e hb => by
    obtain ⟨s, h1, h2, h3⟩ := h.st j hj (by omega)
    have hs : s = a := by omega
    subst hs
    have := h3 s (Nat.le_refl _) h2
    have := hf.2 s (Nat.le_refl _) (by omega)
    omega
  refine ⟨fun i hi => ?_, fun i j hi hj hne => ?_, fun i hi hne => ?_, fun i hi hz => ?_, fun i hi hne => ?_, fun i hi => ?_, by omega⟩
  · by_cases e : a ≤ i ∧ i < a + k
    · rw [hin i e, sin I _ i e]; constructor <;> intro h <;> omega
    · rw [hout i e, sout I _ i e]; exact h.zz i hi
  · by_cases e : a ≤ i ∧ i < a + k <;> by_cases e2 : a ≤ j ∧ j < a + k
    · rw [hin i e, hin j e2, sin I _ i e, sin I _ j e2]; constructor <;> intro _ <;> rfl
    · rw [hin i e, hout j e2, sin I _ i e, sout I _ j e2]
      have h1 := h.mx j hj
      have h2 := hnew j hj e2
      constructor
      · intro g; omega
      · intro g; exact absurd g.symm h2
    · rw [hout i e, hin j e2, sout I _ i e, sin I _ j e2]
      have h1 := h.mx i hi
      have h2 := hnew i hi e
      constructor
      · intro g; omega
      · intro g; exact absurd g h2
    · rw [hout i e, hout j e2, sout I _ i e, sout I _ j e2]
      rw [sout I _ i e] at hne
      exact h.eqv i j hi hj hne
  · by_cases e : a ≤ i ∧ i < a + k
    · rw [sin H _ i e]; exact h.zv i hi (hf.2 i e.1 e.2)
    · rw [sout H _ i e]; rw [hout i e] at hne; exact h.vh i hi hne
  · by_cases e : a ≤ i ∧ i < a + k
    · rw [hin i e] at hz; omega
    · rw [hout i e] at hz; exact h.zv i hi hz
  · by_cases e : a ≤ i ∧ i < a + k
    · refine ⟨a, hin i e, e.1, fun j h1 h2 => ?_⟩
      rw [hin i e, hin j ⟨h1, by omega⟩]
    · rw [hout i e] at hne
      obtain ⟨s, h1, h2, h3⟩ := h.st i hi hne
      refine ⟨s, by rw [hout i e]; exact h1, h2, fun j g1 g2 => ?_⟩
      have e2 : ¬ (a ≤ j ∧ j < a + k) := fun e2 => by
        have := hf.2 j e2.1 e2.2
        rw [h3 j g1 g2] at this
        exact hne this
      rw [hout i e, hout j e2]
      exact h3 j g1 g2
  · by_cases e : a ≤ i ∧ i < a + k
    · rw [sin I _ i e]; omega
    · rw [sout I _ i e]; have := h.mx i hi; omega

theorem Rel.starts {n : Nat} {B V I H : Nat → Int} {md : Int} (h : Rel n B V I H md) {k : Nat} (hk : k < n) (hb : B k = (k : Int) + 1) : k = 0 ∨ (0 < k ∧ I (k - 1) ≠ I k) := by
  by_cases e : k = 0
  · exact .inl e
  · refine .inr ⟨by omega, fun he => ?_⟩
    have hi : I k ≠ 0 := fun hz => by have := (h.zz k hk).2 hz; omega
    have h1 := (h.eqv k (k - 1) hk (by omega) hi).1 he.symm
    obtain ⟨s, g1, g2, _⟩ := h.st (k - 1) (by omega) (by omega)
    omega
theorem Rel.inside {n : Nat} {B V I H : Nat → Int} {md : Int} (h : Rel n B V I H md) {k : Nat} (hk : k < n) (hb : B k ≠ 0) (hne : B k ≠ (k : Int) + 1) : 0 < k ∧ I (k - 1) = I k := by
  obtain ⟨s, g1, g2, g3⟩ := h.st k hk hb
  have hs : s < k := by
    by_cases e : s = k
    · subst e; exact absurd g1 hne
    · omega
  have hi : I k ≠ 0 := fun hz => hb ((h.zz k hk).2 hz)
  exact ⟨by omega, ((h.eqv k (k - 1) hk (by omega) hi).2 (g3 (k - 1) (by omega) (by omega)).symm).symm⟩

theorem Rel.free {n : Nat} {B V I H : Nat → Int} {md : Int} (h : Rel n B V I H md) {k z : Nat} (hk : k < n) (hb : B k = (k : Int) + 1) (hz1 : k < z)
    (hall : ∀ i, k ≤ i → i < z → B i = (k : Int) + 1) (hstop : z = n ∨ B z ≠ (k : Int) + 1) : Rel n (clearTo B k z) (clearTo V k z) (clearEq I (I k) n) H md := by
  have hik : I k ≠ 0 := fun hz => by have := (h.zz k hk).2 hz; omega
  have key : ∀ i, i < n → ((k ≤ i ∧ i < z) ↔ B i = (k : Int) + 1) := fun i hi => by
    constructor
    · intro e; exact hall i e.1 e.2
    · intro e
      obtain ⟨s, g1, g2, g3⟩ := h.st i hi (by omega)
      have hs : s = k := by omega
      subst hs
      refine ⟨g2, ?_⟩
      by_cases hiz : i < z
      · exact hiz
      · exfalso
        rcases hstop with h1 | h1
        · omega
        · have := g3 z (by omega) (by omega); rw [e] at this; exact h1 this
  have key2 : ∀ i, i < n → (I i = I k ↔ B i = (k : Int) + 1) := fun i hi => by
    have := h.eqv k i hk hi hik
    rw [hb] at this
    constructor
    · intro e; exact (this.1 e.symm).symm
    · intro e; exact (this.2 e.symm).symm
  have bin : ∀ i, i < n → B i = (k : Int) + 1 → (∀ f : Nat → Int, clearTo f k z i = 0) ∧ clearEq I (I k) n i = 0 := fun i hi e => by
    refine ⟨fun f => ?_, ?_⟩
    · unfold clearTo; rw [if_pos ((key i hi).2 e)]
    · unfold clearEq; rw [if_pos ⟨hi, (key2 i hi).2 e⟩]
  have bout : ∀ i, i < n → B i ≠ (k : Int) + 1 → (∀ f : Nat → Int, clearTo f k z i = f i) ∧ clearEq I (I k) n i = I i := fun i hi e => by
    refine ⟨fun f => ?_, ?_⟩
    · unfold clearTo; rw [if_neg (fun g => e ((key i hi).1 g))]
    · unfold clearEq; rw [if_neg (fun g => e ((key2 i hi).1 g.2))]
  refine ⟨fun i hi => ?_, fun i j hi hj hne => ?_, fun i hi hne => ?_, fun i hi hz => ?_, fun i hi hne => ?_, fun i hi => ?_, h.md0⟩
  · by_cases e : B i = (k : Int) + 1
    · rw [(bin i hi e).1 B, (bin i hi e).2]
    · rw [(bout i hi e).1 B, (bout i hi e).2]; exact h.zz i hi
  · by_cases e : B i = (k : Int) + 1
    · rw [(bin i hi e).2] at hne; exact absurd rfl hne
    · rw [(bout i hi e).2] at hne
      rw [(bout i hi e).1 B, (bout i hi e).2]
      by_cases e2 : B j = (k : Int) + 1
      · rw [(bin j hj e2).1 B, (bin j hj e2).2]
        exact (h.zz i hi).symm
      · rw [(bout j hj e2).1 B, (bout j hj e2).2]
        exact h.eqv i j hi hj hne
  · by_cases e : B i = (k : Int) + 1
    · rw [(bin i hi e).1 B] at hne; exact absurd rfl hne
    · rw [(bout i hi e).1 B] at hne; rw [(bout i hi e).1 V]; exact h.vh i hi hne
  · by_cases e : B i = (k : Int) + 1
    · exact (bin i hi e).1 V
    · rw [(bout i hi e).1 B] at hz; rw [(bout i hi e).1 V]; exact h.zv i hi hz
  · by_cases e : B i = (k : Int) + 1
    · rw [(bin i hi e).1 B] at hne; exact absurd rfl hne
    · rw [(bout i hi e).1 B] at hne
      obtain ⟨s, g1, g2, g3⟩ := h.st i hi hne
      refine ⟨s, by rw [(bout i hi e).1 B]; exact g1, g2, fun j q1 q2 => ?_⟩
      have hj := g3 j q1 q2
      rw [(bout i hi e).1 B, (bout j (by omega) (by rw [hj]; exact e)).1 B]
      exact hj
  · by_cases e : B i = (k : Int) + 1
    · rw [(bin i hi e).2]; exact h.md0
    · rw [(bout i hi e).2]; exact h.mx i hi

theorem Rel.store {n : Nat} {B V I H : Nat → Int} {md : Int} (h : Rel n B V I H md) {k : Nat} (hb : B k ≠ 0) (u : Int) : Rel n B (upd V k u) I (upd H k u) md :=
  ⟨h.zz, h.eqv, fun i hi hne => by
    by_cases e : i = k
    · subst e; rw [upd_at, upd_at]
    · rw [upd_ne _ _ e, upd_ne _ _ e]; exact h.vh i hi hne, fun i hi hz => by
    rw [upd_ne _ _ (fun e => by subst e; exact hb hz)]; exact h.zv i hi hz, h.st, h.mx, h.md0⟩

theorem runs_congr {B I : Nat → Int} {n : Nat} (hz : ∀ i, i < n → (B i = 0 ↔ I i = 0)) (L : List (Nat × Nat)) (lo : Nat) (h : IsRuns B n lo L) : IsRuns I n lo L := by
  induction L generalizing lo with
  | nil => exact fun i h1 h2 e => h i h1 h2 ((hz i h2).2 e)
  | cons s t ih =>
    obtain ⟨a, l⟩ := s
    obtain ⟨h1, h2, h3, h4, h5, h6, h7⟩ := h
    refine ⟨h1, h2, h3, fun i g1 g2 e => h4 i g1 g2 ((hz i (by omega)).2 e), fun i g1 g2 => (hz i (by omega)).1 (h5 i g1 g2), ?_, ih _ h7⟩
    rcases h6 with h6 | h6
    · exact .inl h6
    · by_cases e : a + l = n
      · exact .inl e
      · exact .inr (fun g => h6 ((hz _ (by omega)).2 g))
theorem runs_unique {B : Nat → Int} {n : Nat} (L M : List (Nat × Nat)) (lo : Nat) (h : IsRuns B n lo L) (g : IsRuns B n lo M) : L = M := by
  induction L generalizing lo M with
  | nil =>
    cases M with
    | nil => rfl
    | cons s t =>
      obtain ⟨a, l⟩ := s
      obtain ⟨h1, h2, h3, h4, h5, h6, h7⟩ := g
      exact absurd (h5 a (Nat.le_refl _) (by omega)) (h a h1 (by omega))
  | cons s t ih =>
    obtain ⟨a, l⟩ := s
    obtain ⟨h1, h2, h3, h4, h5, h6, h7⟩ := h
    cases M with
    | nil => exact absurd (h5 a (Nat.le_refl _) (by omega)) (g a h1 (by omega))
    | cons s' t' =>
      obtain ⟨a', l'⟩ := s'
      obtain ⟨g1, g2, g3, g4, g5, g6, g7⟩ := g
      have ha : a = a' := by
        by_cases e : a < a'
        · exact absurd (h5 a (Nat.le_refl _) (by omega)) (g4 a h1 e)
        · by_cases e2 : a' < a
          · exact absurd (g5 a' (Nat.le_refl _) (by omega)) (h4 a' g1 e2)
          · omega
      subst ha
      have hl : l = l' := by
        by_cases e : l < l'
        · rcases h6 with h6 | h6
          · omega
          · exact absurd (g5 (a + l) (by omega) (by omega)) h6
        · by_cases e2 : l' < l
          · rcases g6 with g6 | g6
            · omega
            · exact absurd (h5 (a + l') (by omega) (by omega)) g6
          · omega
      subst hl
      rw [ih t' (a + l) h7 g7]
end Go.Proofs.YtcmnejcojphijaaGreatDoor

namespace Go.Proofs.YtcmnejcojphijaaGreatDoor
open Go.RowKit
set_option linter.unusedVariables false

def rnE (σ : St) (q : Nat) : Rn := ⟨fun k => (σ.num k : Int), fun _ => .slice none 0 0, .pointer (some ⟨q, 0, none⟩), fun k => (σ.at_ k : Int), fun k => ((σ.bx k).length : Int), (σ.left : Int), (σ.status : Int), trB σ.tr, 0, (σ.peak : Int)⟩
structure ExA (w : World) (rp q ri rh n : Nat) (s : ByteArray) (σ : St) (I H B V : Nat → Int) (md : Int) : Prop where
  r : RunAt w rp s (rnE σ q)
  h : RefAt w q ri rh n I H md
  l : Rel n B V I H md
  b : HB n B V σ
  ap : Ap n σ
  ok : NumOk σ
  n1 : rp ≠ q
  n2 : rp ≠ ri
  n3 : rp ≠ rh
  m0 : 0 ≤ md
def ExF (rp q ri rh : Nat) : Nat → Prop := fun k => k = rp ∨ k = q ∨ k = ri ∨ k = rh
def ExR (w : World) (rp q ri rh n : Nat) (s : ByteArray) (σ : St) (m : Int) : Prop := ∃ I H B V md, ExA w rp q ri rh n s σ I H B V md ∧ md ≤ m
/-- how a sentence ends -/
def ExS (rp q ri rh n : Nat) (s : ByteArray) (m : Int) (x : St × Bool) (w : World) (e : Ending) (w' : World) : Prop := e = .returned (.bool x.2) ∧ ExR w' rp q ri rh n s x.1 m ∧ Fr (ExF rp q ri rh) w w'
theorem exF_one {w w' : World} {rp : Nat} (q ri rh : Nat) (h : Fr (OneB rp) w w') : Fr (ExF rp q ri rh) w w' := h.mono (fun k _ e => .inl e)
theorem exF_ref {w w' : World} {q ri rh : Nat} (rp : Nat) (h : Fr (RefS q ri rh) w w') : Fr (ExF rp q ri rh) w w' := h.mono (fun k _ e => .inr e)
section
variable {w w' : World} {rp q ri rh n : Nat} {s : ByteArray} {σ τ : St} {I H B V : Nat → Int} {md : Int}
theorem ExA.no (h : ExA w rp q ri rh n s σ I H B V md) (hF : Fr NoB w w') : ExA w' rp q ri rh n s σ I H B V md :=
  ⟨h.r.no hF, h.h.no hF, h.l, h.b, h.ap, h.ok, h.n1, h.n2, h.n3, h.m0⟩
/-- the run's own cells turn -/
theorem ExA.own (h : ExA w rp q ri rh n s σ I H B V md) (hF : Fr (OneB rp) w w') (hR : RunAt w' rp s (rnE τ q)) (hb : τ.bx = σ.bx) (ha : τ.at_ = σ.at_) (hok : NumOk τ) : ExA w' rp q ri rh n s τ I H B V md :=
  ⟨hR, h.h.fr hF (fun e => h.n1 (by unfold OneB at e; exact e.symm)) (fun e => h.n2 (by unfold OneB at e; exact e.symm)) (fun e => h.n3 (by unfold OneB at e; exact e.symm)), h.l, h.b.like hb ha, h.ap.keep hb ha, hok, h.n1, h.n2, h.n3, h.m0⟩
theorem ExA.ends (h : ExA w rp q ri rh n s σ I H B V md) {v : Nat} (hF : Fr (OneB rp) w w') (hR : RunAt w' rp s { rnE σ q with status := (v : Int) }) : ExA w' rp q ri rh n s { σ with status := v } I H B V md := h.own hF hR rfl rfl (h.ok.like rfl rfl)
theorem ExA.num (h : ExA w rp q ri rh n s σ I H B V md) {k v : Nat} (hv : v < 1000) (hF : Fr (OneB rp) w w') (hR : RunAt w' rp s { rnE σ q with num := updI (rnE σ q).num k (v : Int) }) : ExA w' rp q ri rh n s { σ with num := upN σ.num k v } I H B V md := by
  refine h.own hF ?_ rfl rfl (h.ok.set hv)
  have e : ({ rnE σ q with num := updI (rnE σ q).num k (v : Int) } : Rn) = rnE { σ with num := upN σ.num k v } q := by
    unfold rnE
    simp only [updI_cast]
  rw [← e]
  exact hR
/-- the heap turns, and the run's own cells behind it -/
theorem ExA.heap (h : ExA w rp q ri rh n s σ I H B V md) (hF : Fr (RefS q ri rh) w w') : RunAt w' rp s (rnE σ q) := h.r.fr hF (fun e => by
  unfold RefS at e
  rcases e with e | e | e
  · exact h.n1 e
  · exact h.n2 e
  · exact h.n3 e)
end
section
variable (w : World) (rp q ri rh n : Nat) (s : ByteArray) (σ : St) (I H B V : Nat → Int) (md : Int)
set_option maxHeartbeats 400000 in
theorem ehas (h : ExA w rp q ri rh n s σ I H B V md) (k : Nat) (hk : k < 26) :
    Calls Tryz.prog 119 #[.pointer (some ⟨rp, 0, none⟩), .int .i64 (k : Int)] w fun e w' => e = .returned (.int .i64 ((σ.bx k).length : Int)) ∧ w' = w := by
  have ch := h.r.ch
  have cl := h.r.cl k hk
  unfold rnE at ch cl
  simp only [] at ch cl
  clear h
  go_enter Tryz.func119, Tryz.ntmps119
  go_wp2
  go_ret
  exact ⟨rfl, rfl⟩
set_option maxHeartbeats 1000000 in
theorem elook (h : ExA w rp q ri rh n s σ I H B V md) (k i : Nat) (hk : k < 26) (hi : i < (σ.bx k).length) :
    Calls Tryz.prog 120 #[.pointer (some ⟨rp, 0, none⟩), .int .i64 (k : Int), .int .i64 (i : Int)] w fun e w' => e = .returned (.int .i64 (((σ.bx k).getD i 0 : Nat) : Int)) ∧ Fr NoB w w' := by
  have ch := h.r.ch
  have ca := h.r.ca k hk
  unfold rnE at ch ca
  simp only [] at ch ca
  have hne : σ.bx k ≠ [] := fun e => by rw [e] at hi; simp at hi
  have hin := h.ap.inn k hk hne
  have hon := h.b.on k hk i hi
  have hz := h.l.zz (σ.at_ k + i) (by omega)
  have hbn : B (σ.at_ k + i) ≠ 0 := by rw [hon.1]; omega
  have hhi := h.h.hi
  have HL : Hid (∀ W, Fr NoB w W → Calls Tryz.prog 55 #[.pointer (some ⟨q, 0, none⟩), .int .i64 ((σ.at_ k : Int) + (i : Int))] W fun e w' => e = .returned (.tuple #[.int .i64 (((σ.bx k).getD i 0 : Nat) : Int), .int .i64 0]) ∧ w' = W) := fun W hW => by
    have := rload_yes W q ri rh n I H md (σ.at_ k + i) (h.h.no hW) (by omega) (fun e => hbn (hz.2 e))
    rw [← h.l.vh _ (by omega) hbn, hon.2, Int.natCast_add] at this
    exact this
  generalize (σ.bx k).getD i 0 = X at *
  clear h hon hz hbn
  have hat : σ.at_ k ≤ 4096 := by omega
  have hi2 : i ≤ 4096 := by omega
  generalize σ.at_ k = a at *
  clear hin hne hi
  have Hwr : Hid (IntKind.i64.wrap ((a : Int) + (i : Int)) = (a : Int) + (i : Int)) := by show IntKind.i64.wrap _ = _; simp [IntKind.wrap, IntKind.signed, IntKind.bits]; omega
  go_enter Tryz.func120, Tryz.ntmps120
  go_wp2
  go_region_with (go_at_call 55; first | (rw [Hwr.out]; refine (HL.out _ ((Fr.refl _ _).drew)).mono ?_; rintro e w1 ⟨rfl, hw⟩; have hw2 := hw.symm; clear hw; subst hw2) | (refine (HL.out _ ((Fr.refl _ _).drew)).mono ?_; rintro e w1 ⟨rfl, hw⟩; have hw2 := hw.symm; clear hw; subst hw2))
  all_goals
    go_wp2
    go_ret
    exact ⟨rfl, (Fr.refl _ _).drew⟩
end
end Go.Proofs.YtcmnejcojphijaaGreatDoor

namespace Go.Proofs.YtcmnejcojphijaaGreatDoor
open Go.RowKit
set_option linter.unusedVariables false

theorem rnE_wv (σ : St) (q k : Nat) : ({ rnE σ q with wv := updV (rnE σ q).wv k (.slice none 0 0) } : Rn) = rnE σ q := by
  have e : updV (rnE σ q).wv k (.slice none 0 0) = (rnE σ q).wv := by
    funext j
    unfold updV rnE
    split <;> rfl
  rw [e]
theorem updI_len (f : Nat → List Nat) (k : Nat) (l : List Nat) : updI (fun j => ((f j).length : Int)) k (l.length : Int) = fun j => ((upB f k l j).length : Int) := by
  funext j
  unfold updI upB
  split <;> rfl
theorem updI_nat (f : Nat → Nat) (k v : Nat) : updI (fun j => (f j : Int)) k (v : Int) = fun j => (upN f k v j : Int) := by
  funext j
  unfold updI upN
  split <;> rfl
theorem rnE_len (σ : St) (q k : Nat) (l : List Nat) : ({ rnE σ q with len := updI (rnE σ q).len k (l.length : Int) } : Rn) = rnE { σ with bx := upB σ.bx k l } q := by
  unfold rnE
  simp only [updI_len]
theorem rnE_at (σ : St) (q k v : Nat) : ({ rnE σ q with at_ := updI (rnE σ q).at_ k (v : Int) } : Rn) = rnE { σ with at_ := upN σ.at_ k v } q := by
  unfold rnE
  simp only [updI_nat]
theorem toE {w' w : World} {rp q ri rh n : Nat} {s : ByteArray} {σ : St} {I H B V : Nat → Int} {md m : Int} (h : ExA w' rp q ri rh n s σ I H B V md) (hm : md ≤ m) : ExR w' rp q ri rh n s σ m := ⟨I, H, B, V, md, h, hm⟩

section
variable (w : World) (rp q ri rh n : Nat) (s : ByteArray) (σ : St) (I H B V : Nat → Int) (md : Int)
set_option maxHeartbeats 1000000 in
theorem edrop_no (h : ExA w rp q ri rh n s σ I H B V md) (i k : Nat) (hi : i + 1 < s.size) (hs : s.size ≤ 100000) (hk : k < 26) (hq : s[i + 1].toNat = k + 65) (he : σ.bx k = []) :
    Calls Tryz.prog 83 #[.pointer (some ⟨rp, 0, none⟩), .int .i64 (i : Int)] w fun e w' => ExS rp q ri rh n s md (ends σ 4) w e w' := by
  have cs := h.r.cs
  have HP : Hid (ExA w rp q ri rh n s σ I H B V md) := h
  have HH : Hid (Calls Tryz.prog 119 #[.pointer (some ⟨rp, 0, none⟩), .int .i64 (k : Int)] w fun e w' => e = .returned (.int .i64 0) ∧ w' = w) := by
    have := ehas w rp q ri rh n s σ I H B V md h k hk
    rwa [he] at this
  clear h
  go_enter Tryz.func83, Tryz.ntmps83
  go_wp2_with (first | (go_at_call 119; refine HH.out.mono ?_; rintro e w1 ⟨rfl, hw⟩; have hw2 := hw.symm; clear hw; subst hw2) | (go_at_call 78; refine (ends_fn _ rp s _ HP.out.r 4).mono ?_; rintro e w2 ⟨rfl, hR2, hF2⟩))
  go_ret
  exact ⟨rfl, toE (w := w) (HP.out.ends (v := 4) hF2 hR2) (Int.le_refl _), exF_one q ri rh hF2⟩
set_option maxHeartbeats 2000000 in
theorem edrop_yes (h : ExA w rp q ri rh n s σ I H B V md) (i k : Nat) (hi : i + 1 < s.size) (hs : s.size ≤ 100000) (hk : k < 26) (hq : s[i + 1].toNat = k + 65) (he : σ.bx k ≠ []) (hok : NumOk { σ with bx := upB σ.bx k [] }) :
    Calls Tryz.prog 83 #[.pointer (some ⟨rp, 0, none⟩), .int .i64 (i : Int)] w fun e w' => ExS rp q ri rh n s md ({ σ with bx := upB σ.bx k [] }, true) w e w' := by
  have cs := h.r.cs
  have cw := h.r.cw k hk
  have fz := h.r.fz (27 + k)
  have hl : 0 < (σ.bx k).length := List.length_pos_iff.2 he
  have hl2 : (σ.bx k).length ≤ 64 := h.ok.sz k
  have Hok : Hid _ := hok
  have HE : Hid _ := he
  have HP : Hid (ExA w rp q ri rh n s σ I H B V md) := h
  have HH : Hid _ := ehas w rp q ri rh n s σ I H B V md h k hk
  generalize hgl : (σ.bx k).length = L at HH hl hl2
  have HL : Hid _ := hgl
  clear h he hok hgl
  go_enter Tryz.func83, Tryz.ntmps83
  go_upto_region 5 with (first | (go_at_call 119; refine Calls.mono HH.out ?_; rintro e w1 ⟨rfl, hw⟩; have hw2 := hw.symm; clear hw; subst hw2))
  have HF2 : Hid (Fr (OneB rp) w (w.setCell ⟨rp, 27 + k, none⟩ (.slice none 0 0))) := (Fr.refl (OneB rp) w).setCell (p := ⟨rp, 27 + k, none⟩) (fun _ => rfl) _
  have HP2 : Hid (ExA (w.setCell ⟨rp, 27 + k, none⟩ (.slice none 0 0)) rp q ri rh n s σ I H B V md) := HP.out.own HF2.out (by have := HP.out.r.setWv hk (.slice none 0 0); rwa [rnE_wv] at this) rfl rfl HP.out.ok
  clear cs cw fz HH
  generalize w.setCell ⟨rp, 27 + k, none⟩ (.slice none 0 0) = W2 at *
  have ch := HP2.out.r.ch
  have ca := HP2.out.r.ca k hk
  have cl := HP2.out.r.cl k hk
  have fz := HP2.out.r.fz (80 + k)
  have hrl := HP2.out.r.lt
  have HN : Hid (¬ RefS q ri rh rp) := fun e => by
    unfold RefS at e
    rcases e with e | e | e
    · exact HP2.out.n1 e
    · exact HP2.out.n2 e
    · exact HP2.out.n3 e
  unfold rnE at ch ca cl
  simp only [] at ch ca cl
  have hin := HP2.out.ap.inn k hk HE.out
  have hlen : 0 < (σ.bx k).length := List.length_pos_iff.2 HE.out
  have hon := (HP2.out.b.on k hk 0 hlen).1
  rw [Nat.add_zero] at hon
  have hkn : σ.at_ k < n := by omega
  have hin0 : I (σ.at_ k) ≠ 0 := fun e => by have := (HP2.out.l.zz _ hkn).2 e; omega
  have HFr : Hid (∀ W, Fr NoB W2 W → Calls Tryz.prog 53 #[.pointer (some ⟨q, 0, none⟩), .int .i64 (σ.at_ k : Int)] W fun e w' => e = .returned (.int .i64 0) ∧ RefAt w' q ri rh n (clearEq I (I (σ.at_ k)) n) H md ∧ Fr (RefS q ri rh) W w') := fun W hW => rfr_yes W q ri rh n I H md (σ.at_ k) (HP2.out.h.no hW) hkn hin0 (HP2.out.l.starts hkn hon)
  have HRel : Hid (Rel n (clearTo B (σ.at_ k) (σ.at_ k + (σ.bx k).length)) (clearTo V (σ.at_ k) (σ.at_ k + (σ.bx k).length)) (clearEq I (I (σ.at_ k)) n) H md) := HP2.out.l.free hkn hon (by omega) (fun j h1 h2 => by
      have := (HP2.out.b.on k hk (j - σ.at_ k) (by omega)).1
      rwa [show σ.at_ k + (j - σ.at_ k) = j by omega] at this) (by
      by_cases e : σ.at_ k + (σ.bx k).length = n
      · exact .inl e
      · refine .inr (fun q => ?_)
        obtain ⟨s0, g1, g2, g3⟩ := HP2.out.l.st (σ.at_ k + (σ.bx k).length) (by omega) (by omega)
        have hz := HP2.out.b.off (σ.at_ k + (σ.bx k).length) (by omega) (fun j hj hb => ?_)
        · omega
        · by_cases ej : j = k
          · subst ej; exact .inr (Nat.le_refl _)
          · rcases HP2.out.ap.ap k j hk hj (fun x => ej x.symm) HE.out hb with g | g
            · by_cases ee : σ.at_ j = σ.at_ k + (σ.bx k).length
              · have hlj : 0 < (σ.bx j).length := List.length_pos_iff.2 hb
                have := (HP2.out.b.on j hj 0 hlj).1
                rw [Nat.add_zero, ee] at this
                omega
              · exact .inl (by omega)
            · exact .inr (by omega))
  clear hin hlen hon hkn hin0
  generalize hga : (σ.at_ k : Int) = A at ca HFr
  have HA : Hid _ := hga
  clear hga
  go_wp2
  go_region_with (go_at_call 53; refine (HFr.out _ ((Fr.refl _ _).drew)).mono ?_; rintro e w3 ⟨rfl, hR3, hF3⟩; have HR3 : Hid _ := hR3; have HF3 : Hid (Fr (RefS q ri rh) W2 w3) := (((Fr.refl _ _).drew)).trans hF3; have cl3 := HF3.out.cell_some cl HN.out; have fz3 : w3.frozen? ⟨rp, 80 + k, none⟩ = false := (HF3.out.frozen (p := ⟨rp, 80 + k, none⟩) hrl HN.out).trans fz; clear hR3 hF3)
  all_goals
    go_wp2
    go_ret
    have hF4 : Fr (OneB rp) w3 (w3.setCell ⟨rp, 80 + k, none⟩ (.int .i64 0)) := (Fr.refl (OneB rp) w3).setCell (p := ⟨rp, 80 + k, none⟩) (fun _ => rfl) _
    have hR4 := (HP2.out.heap HF3.out).setLen hk 0
    have e0 := rnE_len σ q k []
    rw [show ((([] : List Nat).length : Nat) : Int) = 0 from rfl] at e0
    rw [e0] at hR4
    refine ⟨rfl, toE (w := w) ⟨hR4, HR3.out.fr hF4 (fun e => HP2.out.n1 (by unfold OneB at e; exact e.symm)) (fun e => HP2.out.n2 (by unfold OneB at e; exact e.symm)) (fun e => HP2.out.n3 (by unfold OneB at e; exact e.symm)), HRel.out, HP2.out.b.lose HP2.out.ap hk HE.out, HP2.out.ap.drop k, Hok.out, HP2.out.n1, HP2.out.n2, HP2.out.n3, HP2.out.m0⟩ (Int.le_refl _), ((exF_one q ri rh HF2.out).trans (exF_ref rp HF3.out)).trans (exF_one q ri rh hF4)⟩
end
end Go.Proofs.YtcmnejcojphijaaGreatDoor

namespace Go.Proofs.YtcmnejcojphijaaGreatDoor
open Go.RowKit
set_option linter.unusedVariables false

section
variable (w : World) (rp q ri rh n : Nat) (s : ByteArray) (σ : St) (I H B V : Nat → Int) (md : Int)
set_option maxHeartbeats 1000000 in
theorem emoves_no (h : ExA w rp q ri rh n s σ I H B V md) (i k l : Nat) (hi : i + 2 < s.size) (hs : s.size ≤ 100000) (hk : k < 26) (hq : s[i].toNat = k + 65) (hl : l < 26) (hq2 : s[i + 2].toNat = l + 65) (he : σ.bx l = []) :
    Calls Tryz.prog 88 #[.pointer (some ⟨rp, 0, none⟩), .int .i64 (i : Int)] w fun e w' => ExS rp q ri rh n s md (ends σ 4) w e w' := by
  have cs := h.r.cs
  have HP : Hid (ExA w rp q ri rh n s σ I H B V md) := h
  have HH : Hid (Calls Tryz.prog 119 #[.pointer (some ⟨rp, 0, none⟩), .int .i64 (l : Int)] w fun e w' => e = .returned (.int .i64 0) ∧ w' = w) := by
    have := ehas w rp q ri rh n s σ I H B V md h l hl
    rwa [he] at this
  clear h
  go_enter Tryz.func88, Tryz.ntmps88
  go_wp2_with (first | (go_at_call 119; refine HH.out.mono ?_; rintro e w1 ⟨rfl, hw⟩; have hw2 := hw.symm; clear hw; subst hw2) | (go_at_call 78; refine (ends_fn _ rp s _ HP.out.r 4).mono ?_; rintro e w2 ⟨rfl, hR2, hF2⟩))
  go_ret
  exact ⟨rfl, toE (w := w) (HP.out.ends (v := 4) hF2 hR2) (Int.le_refl _), exF_one q ri rh hF2⟩
set_option maxHeartbeats 1000000 in
theorem emoves_same (h : ExA w rp q ri rh n s σ I H B V md) (i k : Nat) (hi : i + 2 < s.size) (hs : s.size ≤ 100000) (hk : k < 26) (hq : s[i].toNat = k + 65) (hq2 : s[i + 2].toNat = k + 65) (he : σ.bx k ≠ []) :
    Calls Tryz.prog 88 #[.pointer (some ⟨rp, 0, none⟩), .int .i64 (i : Int)] w fun e w' => ExS rp q ri rh n s md (σ, true) w e w' := by
  have cs := h.r.cs
  have ch := h.r.ch
  unfold rnE at ch
  simp only [] at ch
  have HP : Hid (ExA w rp q ri rh n s σ I H B V md) := h
  have hl : 0 < (σ.bx k).length := List.length_pos_iff.2 he
  have HH : Hid _ := ehas w rp q ri rh n s σ I H B V md h k hk
  generalize (σ.bx k).length = L at *
  clear h he
  go_enter Tryz.func88, Tryz.ntmps88
  go_wp2_with (first | (go_at_call 119; refine Calls.mono HH.out ?_; rintro e w1 ⟨rfl, hw⟩; have hw2 := hw.symm; clear hw; subst hw2))
  go_ret
  exact ⟨rfl, toE (w := w) HP.out (Int.le_refl _), Fr.refl _ _⟩
set_option maxHeartbeats 1000000 in
theorem emoves_full (h : ExA w rp q ri rh n s σ I H B V md) (i k l : Nat) (hi : i + 2 < s.size) (hs : s.size ≤ 100000) (hk : k < 26) (hq : s[i].toNat = k + 65) (hl : l < 26) (hq2 : s[i + 2].toNat = l + 65) (hkl : k ≠ l) (he : σ.bx l ≠ []) (hf : σ.bx k ≠ []) :
    Calls Tryz.prog 88 #[.pointer (some ⟨rp, 0, none⟩), .int .i64 (i : Int)] w fun e w' => ExS rp q ri rh n s md (ends σ 4) w e w' := by
  have cs := h.r.cs
  have ch := h.r.ch
  unfold rnE at ch
  simp only [] at ch
  have HP : Hid (ExA w rp q ri rh n s σ I H B V md) := h
  have hl1 : 0 < (σ.bx l).length := List.length_pos_iff.2 he
  have hl2 : 0 < (σ.bx k).length := List.length_pos_iff.2 hf
  have HH : Hid _ := ehas w rp q ri rh n s σ I H B V md h l hl
  have HK : Hid _ := ehas w rp q ri rh n s σ I H B V md h k hk
  generalize (σ.bx l).length = L at *
  generalize (σ.bx k).length = K at *
  have bkl : ((k : Int) != (l : Int)) = true := by rw [bne_iff_ne]; exact fun e => hkl (Int.ofNat.inj e)
  clear h he hf
  go_enter Tryz.func88, Tryz.ntmps88
  go_wp2_with (first | ((fail_if_success (have := HM1.out)); go_at_call 119; refine Calls.mono HH.out ?_; rintro e w1 ⟨rfl, hw⟩; have hw2 := hw.symm; clear hw; subst hw2; have HM1 : Hid True := trivial) | (go_at_call 119; refine Calls.mono HK.out ?_; rintro e w1 ⟨rfl, hw⟩; have hw2 := hw.symm; clear hw; subst hw2) | (go_at_call 78; refine (ends_fn _ rp s _ HP.out.r 4).mono ?_; rintro e w2 ⟨rfl, hR2, hF2⟩))
  go_ret
  exact ⟨rfl, toE (w := w) (HP.out.ends (v := 4) hF2 hR2) (Int.le_refl _), exF_one q ri rh hF2⟩
set_option maxHeartbeats 2000000 in
theorem emoves_yes (h : ExA w rp q ri rh n s σ I H B V md) (i k l : Nat) (hi : i + 2 < s.size) (hs : s.size ≤ 100000) (hk : k < 26) (hq : s[i].toNat = k + 65) (hl : l < 26) (hq2 : s[i + 2].toNat = l + 65) (hkl : k ≠ l) (he : σ.bx l ≠ []) (hf : σ.bx k = [])
    (hok : NumOk { σ with bx := upB (upB σ.bx k (σ.bx l)) l [], at_ := upN σ.at_ k (σ.at_ l) }) :
    Calls Tryz.prog 88 #[.pointer (some ⟨rp, 0, none⟩), .int .i64 (i : Int)] w fun e w' => ExS rp q ri rh n s md ({ σ with bx := upB (upB σ.bx k (σ.bx l)) l [], at_ := upN σ.at_ k (σ.at_ l) }, true) w e w' := by
  have cs := h.r.cs
  have ch := h.r.ch
  have cw := h.r.cw l hl
  have ca := h.r.ca l hl
  have cl := h.r.cl l hl
  have cwk := h.r.cw k hk
  have cak := h.r.ca k hk
  have clk := h.r.cl k hk
  unfold rnE at ch cw ca cl cwk cak clk
  simp only [] at ch cw ca cl cwk cak clk
  have f1 := h.r.fz (27 + k)
  have f2 := h.r.fz (27 + l)
  have f3 := h.r.fz (54 + k)
  have f4 := h.r.fz (80 + k)
  have f5 := h.r.fz (80 + l)
  have HP : Hid (ExA w rp q ri rh n s σ I H B V md) := h
  have hln : 0 < (σ.bx l).length := List.length_pos_iff.2 he
  have HH : Hid _ := ehas w rp q ri rh n s σ I H B V md h l hl
  have HK : Hid (Calls Tryz.prog 119 #[.pointer (some ⟨rp, 0, none⟩), .int .i64 (k : Int)] w fun e w' => e = .returned (.int .i64 0) ∧ w' = w) := by
    have := ehas w rp q ri rh n s σ I H B V md h k hk
    rwa [hf] at this
  have HOk : Hid _ := hok
  have HFk : Hid _ := hf
  rw [hf] at clk
  have bkl : ((k : Int) == (l : Int)) = false := beq_eq_false_iff_ne.2 (by omega)
  have bkl2 : ((k : Int) != (l : Int)) = true := by rw [bne_iff_ne]; exact fun e => hkl (Int.ofNat.inj e)
  clear h he hf hok
  generalize hL : (σ.bx l).length = L at *
  have HL : Hid _ := hL
  generalize hA : (σ.at_ l : Int) = A at *
  have HA : Hid _ := hA
  clear hL hA
  go_enter Tryz.func88, Tryz.ntmps88
  go_wp2_with (first | ((fail_if_success (have := HM1.out)); go_at_call 119; refine Calls.mono HH.out ?_; rintro e w1 ⟨rfl, hw⟩; have hw2 := hw.symm; clear hw; subst hw2; have HM1 : Hid True := trivial) | (go_at_call 119; refine Calls.mono HK.out ?_; rintro e w1 ⟨rfl, hw⟩; have hw2 := hw.symm; clear hw; subst hw2))
  go_region
  go_wp2
  go_region
  go_wp2
  go_region
  go_wp2
  go_ret
  have hF : Fr (OneB rp) w (((((w.setCell ⟨rp, 27 + k, none⟩ (Value.slice none 0 0)).setCell ⟨rp, 27 + l, none⟩ (Value.slice none 0 0)).setCell ⟨rp, 54 + k, none⟩ (Value.int IntKind.i64 A)).setCell ⟨rp, 80 + k, none⟩ (Value.int IntKind.i64 (L : Int))).setCell ⟨rp, 80 + l, none⟩ (Value.int IntKind.i64 0)).drew.drew.drew :=
    ((((((((Fr.refl (OneB rp) w).setCell (p := ⟨rp, 27 + k, none⟩) (fun _ => rfl) _).setCell (p := ⟨rp, 27 + l, none⟩) (fun _ => rfl) _).setCell (p := ⟨rp, 54 + k, none⟩) (fun _ => rfl) _).setCell (p := ⟨rp, 80 + k, none⟩) (fun _ => rfl) _).setCell (p := ⟨rp, 80 + l, none⟩) (fun _ => rfl) _).drew).drew).drew
  have r1 := HP.out.r.setWv hk (Value.slice none 0 0)
  rw [rnE_wv] at r1
  have r2 := r1.setWv hl (Value.slice none 0 0)
  rw [rnE_wv] at r2
  have r3 := r2.setAt hk (σ.at_ l : Int)
  rw [rnE_at] at r3
  have r4 := r3.setLen hk ((σ.bx l).length : Int)
  rw [rnE_len] at r4
  have r5 := r4.setLen hl ((([] : List Nat).length : Nat) : Int)
  rw [rnE_len] at r5
  have r6 := r5.no ((((Fr.refl NoB _).drew).drew).drew)
  rw [HA.out, HL.out] at r6
  have hap := HP.out.ap.move hk hl hkl
  have hhb := HP.out.b.move hk hl hkl HFk.out
  have nq : ¬ OneB rp q := fun e => HP.out.n1 (by unfold OneB at e; exact e.symm)
  have ni : ¬ OneB rp ri := fun e => HP.out.n2 (by unfold OneB at e; exact e.symm)
  have nh : ¬ OneB rp rh := fun e => HP.out.n3 (by unfold OneB at e; exact e.symm)
  exact ⟨rfl, toE (w := w) ⟨r6, HP.out.h.fr hF nq ni nh, HP.out.l, hhb, hap, HOk.out, HP.out.n1, HP.out.n2, HP.out.n3, HP.out.m0⟩ (Int.le_refl _), exF_one q ri rh hF⟩
end
end Go.Proofs.YtcmnejcojphijaaGreatDoor
