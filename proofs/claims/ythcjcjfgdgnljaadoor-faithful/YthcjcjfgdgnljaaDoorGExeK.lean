/-
  Rel, ExeB, ExeC, ExeE, ExeH, ExeI, ExeJ, ExeK: one behind the other.
-/
import Derived.Test.YthcjcjfgdgnljaaDoorGRefB
import Derived.Test.YthcjcjfgdgnljaaDoorGMchB
import Derived.Test.YthcjcjfgdgnljaaDoorGMchY
import Derived.Deep.RegionHeld3
namespace Go.Proofs.YthcjcjfgdgnljaaDoor
open Go.RowKit

structure Rel (n : Nat) (B V I H : Nat → Int) (md : Int) : Prop where
  zz : ∀ i, i < n → (B i = 0 ↔ I i = 0)
  eqv : ∀ i j, i < n → j < n → I i ≠ 0 → (I i = I j ↔ B i = B j)
  vh : ∀ i, i < n → B i ≠ 0 → V i = H i
  zv : ∀ i, i < n → B i = 0 → V i = 0
  st : ∀ i, i < n → B i ≠ 0 → ∃ s : Nat, B i = (s : Int) + 1 ∧ s ≤ i ∧ ∀ j, s ≤ j → j ≤ i → B j = B i
  mx : ∀ i, i < n → I i ≤ md
  md0 : 0 ≤ md

theorem Rel.start (n : Nat) : Rel n (fun _ => 0) (fun _ => 0) (fun _ => 0) (fun _ => 0) 0 :=
  ⟨fun _ _ => Iff.rfl, fun _ _ _ _ h => absurd rfl h, fun _ _ h => absurd rfl h, fun _ _ _ => rfl, fun _ _ h => absurd rfl h, fun _ _ => Int.le_refl _, Int.le_refl _⟩

theorem Rel.freeAt {n : Nat} {B V I H : Nat → Int} {md : Int} (h : Rel n B V I H md) (k a : Nat) : FreeAt B n k a ↔ FreeAt I n k a :=
  ⟨fun ⟨h1, h2⟩ => ⟨h1, fun i g1 g2 => (h.zz i (by omega)).1 (h2 i g1 g2)⟩, fun ⟨h1, h2⟩ => ⟨h1, fun i g1 g2 => (h.zz i (by omega)).2 (h2 i g1 g2)⟩⟩
theorem Rel.taken {n : Nat} {B V I H : Nat → Int} {md : Int} (h : Rel n B V I H md) (a : Int) : takenB B n a = takenB I n a := by
  by_cases h0 : 0 ≤ a
  · obtain ⟨k, rfl⟩ := Int.eq_ofNat_of_zero_le h0
    by_cases hk : k < n
    · rw [takenB_in hk, takenB_in hk, Bool.eq_iff_iff]
      have := h.zz k hk
      simp only [bne_iff_ne, ne_eq, this]
    · rw [takenB_hi hk, takenB_hi hk]
  · rw [takenB_neg h0, takenB_neg h0]

theorem Rel.alloc {n : Nat} {B V I H : Nat → Int} {md : Int} (h : Rel n B V I H md) {k a : Nat} (hk : 1 ≤ k) (hf : FreeAt B n k a) : Rel n (markTo B a (a + k)) V (setTo I a (a + k) (md + 1)) (setTo H a (a + k) 0) (md + 1) := by
  have hm0 := h.md0
  have hin : ∀ i, (a ≤ i ∧ i < a + k) → markTo B a (a + k) i = (a : Int) + 1 := fun i e => by unfold markTo; rw [if_pos e]
  have hout : ∀ i, ¬ (a ≤ i ∧ i < a + k) → markTo B a (a + k) i = B i := fun i e => by unfold markTo; rw [if_neg e]
  have sin : ∀ (f : Nat → Int) (v : Int) i, (a ≤ i ∧ i < a + k) → setTo f a (a + k) v i = v := fun f v i e => by unfold setTo; rw [if_pos e]
  have sout : ∀ (f : Nat → Int) (v : Int) i, ¬ (a ≤ i ∧ i < a + k) → setTo f a (a + k) v i = f i := fun f v i e => by unfold setTo; rw [if_neg e]
  have hnew : ∀ j, j < n → ¬ (a ≤ j ∧ j < a + k) → B j ≠ (a : Int) + 1 := fun j hj e hb => by
    obtain ⟨s, h1, h2, h3⟩ := h.st j hj (by omega)
    have hs : s = a := by omega
    subst hs
    have := h3 s (Nat.le_refl _) h2
    have := hf.2 s (Nat.le_refl _) (by omega)
    omega
  refine ⟨fun i hi => ?_, fun i j hi hj hne => ?_, fun i hi hne => ?_, fun i hi hz => ?_, fun i hi hne => ?_, fun i hi => ?_, by omega⟩
  · by_cases e : a ≤ i ∧ i < a + k
    · rw [hin i e, sin I _ i e]; constructor <;> intro h <;> omega
    · rw [hout i e, sout I _ i e]; exact h.zz i hi
  · by_cases e : a ≤ i ∧ i < a + k <;> by_cases e2 : a ≤ j ∧ j < a + k
    · rw [hin i e, hin j e2, sin I _ i e, sin I _ j e2]; constructor <;> intro _ <;> rfl
    · rw [hin i e, hout j e2, sin I _ i e, sout I _ j e2]
      have h1 := h.mx j hj
      have h2 := hnew j hj e2
      constructor
      · intro g; omega
      · intro g; exact absurd g.symm h2
    · rw [hout i e, hin j e2, sout I _ i e, sin I _ j e2]
      have h1 := h.mx i hi
      have h2 := hnew i hi e
      constructor
      · intro g; omega
      · intro g; exact absurd g h2
    · rw [hout i e, hout j e2, sout I _ i e, sout I _ j e2]
      rw [sout I _ i e] at hne
      exact h.eqv i j hi hj hne
  · by_cases e : a ≤ i ∧ i < a + k
    · rw [sin H _ i e]; exact h.zv i hi (hf.2 i e.1 e.2)
    · rw [sout H _ i e]; rw [hout i e] at hne; exact h.vh i hi hne
  · by_cases e : a ≤ i ∧ i < a + k
    · rw [hin i e] at hz; omega
    · rw [hout i e] at hz; exact h.zv i hi hz
  · by_cases e : a ≤ i ∧ i < a + k
    · refine ⟨a, hin i e, e.1, fun j h1 h2 => ?_⟩
      rw [hin i e, hin j ⟨h1, by omega⟩]
    · rw [hout i e] at hne
      obtain ⟨s, h1, h2, h3⟩ := h.st i hi hne
      refine ⟨s, by rw [hout i e]; exact h1, h2, fun j g1 g2 => ?_⟩
      have e2 : ¬ (a ≤ j ∧ j < a + k) := fun e2 => by
        have := hf.2 j e2.1 e2.2
        rw [h3 j g1 g2] at this
        exact hne this
      rw [hout i e, hout j e2]
      exact h3 j g1 g2
  · by_cases e : a ≤ i ∧ i < a + k
    · rw [sin I _ i e]; omega
    · rw [sout I _ i e]; have := h.mx i hi; omega

theorem Rel.starts {n : Nat} {B V I H : Nat → Int} {md : Int} (h : Rel n B V I H md) {k : Nat} (hk : k < n) (hb : B k = (k : Int) + 1) : k = 0 ∨ (0 < k ∧ I (k - 1) ≠ I k) := by
  by_cases e : k = 0
  · exact .inl e
  · refine .inr ⟨by omega, fun he => ?_⟩
    have hi : I k ≠ 0 := fun hz => by have := (h.zz k hk).2 hz; omega
    have h1 := (h.eqv k (k - 1) hk (by omega) hi).1 he.symm
    obtain ⟨s, g1, g2, _⟩ := h.st (k - 1) (by omega) (by omega)
    omega
theorem Rel.inside {n : Nat} {B V I H : Nat → Int} {md : Int} (h : Rel n B V I H md) {k : Nat} (hk : k < n) (hb : B k ≠ 0) (hne : B k ≠ (k : Int) + 1) : 0 < k ∧ I (k - 1) = I k := by
  obtain ⟨s, g1, g2, g3⟩ := h.st k hk hb
  have hs : s < k := by
    by_cases e : s = k
    · subst e; exact absurd g1 hne
    · omega
  have hi : I k ≠ 0 := fun hz => hb ((h.zz k hk).2 hz)
  exact ⟨by omega, ((h.eqv k (k - 1) hk (by omega) hi).2 (g3 (k - 1) (by omega) (by omega)).symm).symm⟩

theorem Rel.free {n : Nat} {B V I H : Nat → Int} {md : Int} (h : Rel n B V I H md) {k z : Nat} (hk : k < n) (hb : B k = (k : Int) + 1) (hz1 : k < z)
    (hall : ∀ i, k ≤ i → i < z → B i = (k : Int) + 1) (hstop : z = n ∨ B z ≠ (k : Int) + 1) : Rel n (clearTo B k z) (clearTo V k z) (clearEq I (I k) n) H md := by
  have hik : I k ≠ 0 := fun hz => by have := (h.zz k hk).2 hz; omega
  have key : ∀ i, i < n → ((k ≤ i ∧ i < z) ↔ B i = (k : Int) + 1) := fun i hi => by
    constructor
    · intro e; exact hall i e.1 e.2
    · intro e
      obtain ⟨s, g1, g2, g3⟩ := h.st i hi (by omega)
      have hs : s = k := by omega
      subst hs
      refine ⟨g2, ?_⟩
      by_cases hiz : i < z
      · exact hiz
      · exfalso
        rcases hstop with h1 | h1
        · omega
        · have := g3 z (by omega) (by omega); rw [e] at this; exact h1 this
  have key2 : ∀ i, i < n → (I i = I k ↔ B i = (k : Int) + 1) := fun i hi => by
    have := h.eqv k i hk hi hik
    rw [hb] at this
    constructor
    · intro e; exact (this.1 e.symm).symm
    · intro e; exact (this.2 e.symm).symm
  have bin : ∀ i, i < n → B i = (k : Int) + 1 → (∀ f : Nat → Int, clearTo f k z i = 0) ∧ clearEq I (I k) n i = 0 := fun i hi e => by
    refine ⟨fun f => ?_, ?_⟩
    · unfold clearTo; rw [if_pos ((key i hi).2 e)]
    · unfold clearEq; rw [if_pos ⟨hi, (key2 i hi).2 e⟩]
  have bout : ∀ i, i < n → B i ≠ (k : Int) + 1 → (∀ f : Nat → Int, clearTo f k z i = f i) ∧ clearEq I (I k) n i = I i := fun i hi e => by
    refine ⟨fun f => ?_, ?_⟩
    · unfold clearTo; rw [if_neg (fun g => e ((key i hi).1 g))]
    · unfold clearEq; rw [if_neg (fun g => e ((key2 i hi).1 g.2))]
  refine ⟨fun i hi => ?_, fun i j hi hj hne => ?_, fun i hi hne => ?_, fun i hi hz => ?_, fun i hi hne => ?_, fun i hi => ?_, h.md0⟩
  · by_cases e : B i = (k : Int) + 1
    · rw [(bin i hi e).1 B, (bin i hi e).2]
    · rw [(bout i hi e).1 B, (bout i hi e).2]; exact h.zz i hi
  · by_cases e : B i = (k : Int) + 1
    · rw [(bin i hi e).2] at hne; exact absurd rfl hne
    · rw [(bout i hi e).2] at hne
      rw [(bout i hi e).1 B, (bout i hi e).2]
      by_cases e2 : B j = (k : Int) + 1
      · rw [(bin j hj e2).1 B, (bin j hj e2).2]
        exact (h.zz i hi).symm
      · rw [(bout j hj e2).1 B, (bout j hj e2).2]
        exact h.eqv i j hi hj hne
  · by_cases e : B i = (k : Int) + 1
    · rw [(bin i hi e).1 B] at hne; exact absurd rfl hne
    · rw [(bout i hi e).1 B] at hne; rw [(bout i hi e).1 V]; exact h.vh i hi hne
  · by_cases e : B i = (k : Int) + 1
    · exact (bin i hi e).1 V
    · rw [(bout i hi e).1 B] at hz; rw [(bout i hi e).1 V]; exact h.zv i hi hz
  · by_cases e : B i = (k : Int) + 1
    · rw [(bin i hi e).1 B] at hne; exact absurd rfl hne
    · rw [(bout i hi e).1 B] at hne
      obtain ⟨s, g1, g2, g3⟩ := h.st i hi hne
      refine ⟨s, by rw [(bout i hi e).1 B]; exact g1, g2, fun j q1 q2 => ?_⟩
      have hj := g3 j q1 q2
      rw [(bout i hi e).1 B, (bout j (by omega) (by rw [hj]; exact e)).1 B]
      exact hj
  · by_cases e : B i = (k : Int) + 1
    · rw [(bin i hi e).2]; exact h.md0
    · rw [(bout i hi e).2]; exact h.mx i hi

theorem Rel.store {n : Nat} {B V I H : Nat → Int} {md : Int} (h : Rel n B V I H md) {k : Nat} (hb : B k ≠ 0) (u : Int) : Rel n B (upd V k u) I (upd H k u) md :=
  ⟨h.zz, h.eqv, fun i hi hne => by
    by_cases e : i = k
    · subst e; rw [upd_at, upd_at]
    · rw [upd_ne _ _ e, upd_ne _ _ e]; exact h.vh i hi hne, fun i hi hz => by
    rw [upd_ne _ _ (fun e => by subst e; exact hb hz)]; exact h.zv i hi hz, h.st, h.mx, h.md0⟩

theorem runs_congr {B I : Nat → Int} {n : Nat} (hz : ∀ i, i < n → (B i = 0 ↔ I i = 0)) (L : List (Nat × Nat)) (lo : Nat) (h : IsRuns B n lo L) : IsRuns I n lo L := by
  induction L generalizing lo with
  | nil => exact fun i h1 h2 e => h i h1 h2 ((hz i h2).2 e)
  | cons s t ih =>
    obtain ⟨a, l⟩ := s
    obtain ⟨h1, h2, h3, h4, h5, h6, h7⟩ := h
    refine ⟨h1, h2, h3, fun i g1 g2 e => h4 i g1 g2 ((hz i (by omega)).2 e), fun i g1 g2 => (hz i (by omega)).1 (h5 i g1 g2), ?_, ih _ h7⟩
    rcases h6 with h6 | h6
    · exact .inl h6
    · by_cases e : a + l = n
      · exact .inl e
      · exact .inr (fun g => h6 ((hz _ (by omega)).2 g))
theorem runs_unique {B : Nat → Int} {n : Nat} (L M : List (Nat × Nat)) (lo : Nat) (h : IsRuns B n lo L) (g : IsRuns B n lo M) : L = M := by
  induction L generalizing lo M with
  | nil =>
    cases M with
    | nil => rfl
    | cons s t =>
      obtain ⟨a, l⟩ := s
      obtain ⟨h1, h2, h3, h4, h5, h6, h7⟩ := g
      exact absurd (h5 a (Nat.le_refl _) (by omega)) (h a h1 (by omega))
  | cons s t ih =>
    obtain ⟨a, l⟩ := s
    obtain ⟨h1, h2, h3, h4, h5, h6, h7⟩ := h
    cases M with
    | nil => exact absurd (h5 a (Nat.le_refl _) (by omega)) (g a h1 (by omega))
    | cons s' t' =>
      obtain ⟨a', l'⟩ := s'
      obtain ⟨g1, g2, g3, g4, g5, g6, g7⟩ := g
      have ha : a = a' := by
        by_cases e : a < a'
        · exact absurd (h5 a (Nat.le_refl _) (by omega)) (g4 a h1 e)
        · by_cases e2 : a' < a
          · exact absurd (g5 a' (Nat.le_refl _) (by omega)) (h4 a' g1 e2)
          · omega
      subst ha
      have hl : l = l' := by
        by_cases e : l < l'
        · rcases h6 with h6 | h6
          · omega
          · exact absurd (g5 (a + l) (by omega) (by omega)) h6
        · by_cases e2 : l' < l
          · rcases g6 with g6 | g6
            · omega
            · exact absurd (h5 (a + l') (by omega) (by omega)) g6
          · omega
      subst hl
      rw [ih t' (a + l) h7 g7]
end Go.Proofs.YthcjcjfgdgnljaaDoor

namespace Go.Proofs.YthcjcjfgdgnljaaDoor
open Go.RowKit
set_option linter.unusedVariables false

def rnE (σ : St) (q : Nat) : Rn := ⟨fun k => (σ.num k : Int), fun _ => .slice none 0 0, .pointer (some ⟨q, 0, none⟩), fun k => (σ.at_ k : Int), fun k => ((σ.bx k).length : Int), (σ.left : Int), (σ.status : Int), trB σ.tr, 0, (σ.peak : Int)⟩
structure ExA (w : World) (rp q ri rh n : Nat) (s : ByteArray) (σ : St) (I H B V : Nat → Int) (md : Int) : Prop where
  r : RunAt w rp s (rnE σ q)
  h : RefAt w q ri rh n I H md
  l : Rel n B V I H md
  b : HB n B V σ
  ap : Ap n σ
  ok : NumOk σ
  n1 : rp ≠ q
  n2 : rp ≠ ri
  n3 : rp ≠ rh
  m0 : 0 ≤ md
def ExF (rp q ri rh : Nat) : Nat → Prop := fun k => k = rp ∨ k = q ∨ k = ri ∨ k = rh
def ExR (w : World) (rp q ri rh n : Nat) (s : ByteArray) (σ : St) (m : Int) : Prop := ∃ I H B V md, ExA w rp q ri rh n s σ I H B V md ∧ md ≤ m
/-- how a sentence ends -/
def ExS (rp q ri rh n : Nat) (s : ByteArray) (m : Int) (x : St × Bool) (w : World) (e : Ending) (w' : World) : Prop := e = .returned (.bool x.2) ∧ ExR w' rp q ri rh n s x.1 m ∧ Fr (ExF rp q ri rh) w w'
theorem exF_one {w w' : World} {rp : Nat} (q ri rh : Nat) (h : Fr (OneB rp) w w') : Fr (ExF rp q ri rh) w w' := h.mono (fun k _ e => .inl e)
theorem exF_ref {w w' : World} {q ri rh : Nat} (rp : Nat) (h : Fr (RefS q ri rh) w w') : Fr (ExF rp q ri rh) w w' := h.mono (fun k _ e => .inr e)
section
variable {w w' : World} {rp q ri rh n : Nat} {s : ByteArray} {σ τ : St} {I H B V : Nat → Int} {md : Int}
theorem ExA.no (h : ExA w rp q ri rh n s σ I H B V md) (hF : Fr NoB w w') : ExA w' rp q ri rh n s σ I H B V md :=
  ⟨h.r.no hF, h.h.no hF, h.l, h.b, h.ap, h.ok, h.n1, h.n2, h.n3, h.m0⟩
/-- the run's own cells turn -/
theorem ExA.own (h : ExA w rp q ri rh n s σ I H B V md) (hF : Fr (OneB rp) w w') (hR : RunAt w' rp s (rnE τ q)) (hb : τ.bx = σ.bx) (ha : τ.at_ = σ.at_) (hok : NumOk τ) : ExA w' rp q ri rh n s τ I H B V md :=
  ⟨hR, h.h.fr hF (fun e => h.n1 (by unfold OneB at e; exact e.symm)) (fun e => h.n2 (by unfold OneB at e; exact e.symm)) (fun e => h.n3 (by unfold OneB at e; exact e.symm)), h.l, h.b.like hb ha, h.ap.keep hb ha, hok, h.n1, h.n2, h.n3, h.m0⟩
theorem ExA.ends (h : ExA w rp q ri rh n s σ I H B V md) {v : Nat} (hF : Fr (OneB rp) w w') (hR : RunAt w' rp s { rnE σ q with status := (v : Int) }) : ExA w' rp q ri rh n s { σ with status := v } I H B V md := h.own hF hR rfl rfl (h.ok.like rfl rfl)
theorem ExA.num (h : ExA w rp q ri rh n s σ I H B V md) {k v : Nat} (hv : v < 1000) (hF : Fr (OneB rp) w w') (hR : RunAt w' rp s { rnE σ q with num := updI (rnE σ q).num k (v : Int) }) : ExA w' rp q ri rh n s { σ with num := upN σ.num k v } I H B V md := by
  refine h.own hF ?_ rfl rfl (h.ok.set hv)
  have e : ({ rnE σ q with num := updI (rnE σ q).num k (v : Int) } : Rn) = rnE { σ with num := upN σ.num k v } q := by
    unfold rnE
    simp only [updI_cast]
  rw [← e]
  exact hR
/-- the heap turns, and the run's own cells behind it -/
theorem ExA.heap (h : ExA w rp q ri rh n s σ I H B V md) (hF : Fr (RefS q ri rh) w w') : RunAt w' rp s (rnE σ q) := h.r.fr hF (fun e => by
  unfold RefS at e
  rcases e with e | e | e
  · exact h.n1 e
  · exact h.n2 e
  · exact h.n3 e)
end
section
variable (w : World) (rp q ri rh n : Nat) (s : ByteArray) (σ : St) (I H B V : Nat → Int) (md : Int)
end
end Go.Proofs.YthcjcjfgdgnljaaDoor

namespace Go.Proofs.YthcjcjfgdgnljaaDoor
open Go.RowKit
set_option linter.unusedVariables false

theorem rnE_wv (σ : St) (q k : Nat) : ({ rnE σ q with wv := updV (rnE σ q).wv k (.slice none 0 0) } : Rn) = rnE σ q := by
  have e : updV (rnE σ q).wv k (.slice none 0 0) = (rnE σ q).wv := by
    funext j
    unfold updV rnE
    split <;> rfl
  rw [e]
theorem updI_len (f : Nat → List Nat) (k : Nat) (l : List Nat) : updI (fun j => ((f j).length : Int)) k (l.length : Int) = fun j => ((upB f k l j).length : Int) := by
  funext j
  unfold updI upB
  split <;> rfl
theorem updI_nat (f : Nat → Nat) (k v : Nat) : updI (fun j => (f j : Int)) k (v : Int) = fun j => (upN f k v j : Int) := by
  funext j
  unfold updI upN
  split <;> rfl
theorem rnE_len (σ : St) (q k : Nat) (l : List Nat) : ({ rnE σ q with len := updI (rnE σ q).len k (l.length : Int) } : Rn) = rnE { σ with bx := upB σ.bx k l } q := by
  unfold rnE
  simp only [updI_len]
theorem rnE_at (σ : St) (q k v : Nat) : ({ rnE σ q with at_ := updI (rnE σ q).at_ k (v : Int) } : Rn) = rnE { σ with at_ := upN σ.at_ k v } q := by
  unfold rnE
  simp only [updI_nat]
theorem toE {w' w : World} {rp q ri rh n : Nat} {s : ByteArray} {σ : St} {I H B V : Nat → Int} {md m : Int} (h : ExA w' rp q ri rh n s σ I H B V md) (hm : md ≤ m) : ExR w' rp q ri rh n s σ m := ⟨I, H, B, V, md, h, hm⟩

section
variable (w : World) (rp q ri rh n : Nat) (s : ByteArray) (σ : St) (I H B V : Nat → Int) (md : Int)
end
end Go.Proofs.YthcjcjfgdgnljaaDoor

namespace Go.Proofs.YthcjcjfgdgnljaaDoor
open Go.RowKit
set_option linter.unusedVariables false

theorem RunAt.setPeak {w : World} {rp : Nat} {s : ByteArray} {x : Rn} (h : RunAt w rp s x) (v : Int) : RunAt (w.setCell ⟨rp, 110, none⟩ (.int .i64 v)) rp s { x with peak := v } :=
  ⟨cell_at h.cs (by omega), fun k hk => cell_at (h.cn k hk) (by omega), fun k hk => cell_at (h.cw k hk) (by omega), cell_at h.ch (by omega), fun k hk => cell_at (h.ca k hk) (by omega), fun k hk => cell_at (h.cl k hk) (by omega),
    cell_at h.cf (by omega), cell_at h.co (by omega), cell_at h.ct (by omega), cell_at h.cu (by omega), cell_same h.cp, fun o => by rw [World.frozen?_setCell]; exact h.fz o⟩

section
variable (w : World) (rp q ri rh n : Nat) (s : ByteArray) (σ : St) (I H B V : Nat → Int) (md : Int)
end
end Go.Proofs.YthcjcjfgdgnljaaDoor

namespace Go.Proofs.YthcjcjfgdgnljaaDoor
open Go.RowKit
set_option linter.unusedVariables false

theorem ExS.up {rp q ri rh n : Nat} {s : ByteArray} {m m' : Int} {x : St × Bool} {w : World} {e : Ending} {w' : World} (h : ExS rp q ri rh n s m x w e w') (hm : m ≤ m') : ExS rp q ri rh n s m' x w e w' := by
  obtain ⟨h1, ⟨I, H, B, V, md, h2, h3⟩, h4⟩ := h
  exact ⟨h1, ⟨I, H, B, V, md, h2, by omega⟩, h4⟩
section
variable (w : World) (rp q ri rh n : Nat) (s : ByteArray) (σ : St) (md : Int) (i m : Nat)
/-- what was reckoned -/
theorem calcE {k v : Nat} {I H B V : Nat → Int} {mm : Int} (hP : ExA w rp q ri rh n s σ I H B V mm) (hm : mm ≤ md) (hv : v < 1000) {e : Ending} {w' : World} (h : CalcS rp s true { rnE σ q with num := updI (rnE σ q).num k (v : Int) } w e w') : ExS rp q ri rh n s md ({ σ with num := upN σ.num k v }, true) w e w' :=
  ⟨h.1, toE (w := w) (hP.num hv h.2.2 h.2.1) hm, exF_one q ri rh h.2.2⟩
end
end Go.Proofs.YthcjcjfgdgnljaaDoor

namespace Go.Proofs.YthcjcjfgdgnljaaDoor
open Go.RowKit
set_option linter.unusedVariables false

theorem rnE_due (σ : St) (q : Nat) (h0 : σ.left ≠ 0) : ({ rnE σ q with left := (rnE σ q).left - 1 } : Rn) = rnE (due σ) q := by
  unfold rnE due
  simp only [Rn.mk.injEq, true_and, and_true]
  omega
section
variable (w : World) (rp q ri rh n : Nat) (s : ByteArray) (σ : St) (md : Int) (i m : Nat)
theorem ExR.run {w : World} {rp q ri rh n : Nat} {s : ByteArray} {σ : St} {md : Int} (h : ExR w rp q ri rh n s σ md) : RunAt w rp s (rnE σ q) := by
  obtain ⟨I, H, B, V, mm, hP, hm⟩ := h
  exact hP.r
theorem ExR.ok {w : World} {rp q ri rh n : Nat} {s : ByteArray} {σ : St} {md : Int} (h : ExR w rp q ri rh n s σ md) : NumOk σ := by
  obtain ⟨I, H, B, V, mm, hP, hm⟩ := h
  exact hP.ok
theorem ExR.pos {w : World} {rp q ri rh n : Nat} {s : ByteArray} {σ : St} {md : Int} (h : ExR w rp q ri rh n s σ md) : 0 ≤ md := by
  obtain ⟨I, H, B, V, mm, hP, hm⟩ := h
  have := hP.m0
  omega
theorem ExR.no {w w' : World} {rp q ri rh n : Nat} {s : ByteArray} {σ : St} {md : Int} (h : ExR w rp q ri rh n s σ md) (hF : Fr NoB w w') : ExR w' rp q ri rh n s σ md := by
  obtain ⟨I, H, B, V, mm, hP, hm⟩ := h
  exact ⟨I, H, B, V, mm, hP.no hF, hm⟩
/-- how a counted sentence ends -/
def ExT (rp q ri rh n : Nat) (s : ByteArray) (z : Int) (x : St × Bool) (w : World) (e : Ending) (w' : World) : Prop := e = .returned (.bool x.2) ∧ (∃ m, ExR w' rp q ri rh n s x.1 m ∧ m + x.1.left ≤ z) ∧ Fr (ExF rp q ri rh) w w'
theorem ExS.t {x : St × Bool} {e : Ending} {w' : World} {md z : Int} {rp q ri rh n : Nat} {s : ByteArray} {w : World} (h : ExS rp q ri rh n s md x w e w') (hz : md + x.1.left ≤ z) : ExT rp q ri rh n s z x w e w' := ⟨h.1, ⟨md, h.2.1, hz⟩, h.2.2⟩
end
/-- the document's Exec is a run in memory -/
def ExM (rp q ri rh n : Nat) (s : ByteArray) (W : World) (σ : St) : Prop := (∃ m, ExR W rp q ri rh n s σ m ∧ m + (σ.left : Int) ≤ 5000) ∧ TrOk σ
end Go.Proofs.YthcjcjfgdgnljaaDoor

namespace Go.Proofs.YthcjcjfgdgnljaaDoor
open Go.RowKit
set_option linter.unusedVariables false

theorem RunAt.setUsed {w : World} {rp : Nat} {s : ByteArray} {x : Rn} (h : RunAt w rp s x) (v : Int) : RunAt (w.setCell ⟨rp, 109, none⟩ (.int .i64 v)) rp s { x with used := v } :=
  ⟨cell_at h.cs (by omega), fun k hk => cell_at (h.cn k hk) (by omega), fun k hk => cell_at (h.cw k hk) (by omega), cell_at h.ch (by omega), fun k hk => cell_at (h.ca k hk) (by omega), fun k hk => cell_at (h.cl k hk) (by omega),
    cell_at h.cf (by omega), cell_at h.co (by omega), cell_at h.ct (by omega), cell_same h.cu, cell_at h.cp (by omega), fun o => by rw [World.frozen?_setCell]; exact h.fz o⟩
/-- the words of the first k boxes -/
def usedN (σ : St) : Nat → Nat
  | 0 => 0
  | k + 1 => usedN σ k + (σ.bx k).length
theorem used_le {σ : St} (h : NumOk σ) : ∀ k, usedN σ k ≤ 64 * k
  | 0 => Nat.le_refl _
  | k + 1 => by
    have := used_le h k
    have := h.sz k
    show usedN σ k + (σ.bx k).length ≤ 64 * (k + 1)
    omega
/-- the outcome of an Exec -/
def outE (σ : St) : Value := .agg #[.int .i64 (σ.status : Int), .string (trB σ.tr), .int .i64 (usedN σ 26 : Int), .int .i64 (σ.peak : Int)]
end Go.Proofs.YthcjcjfgdgnljaaDoor

namespace Go.Proofs.YthcjcjfgdgnljaaDoor
open Go.RowKit
set_option linter.unusedVariables false

theorem MacAt.setStrict {w : World} {mp : Nat} {pv : Value} {st : Bool} {x : Mx} (h : MacAt w mp pv st x) (v : Bool) : MacAt (w.setCell ⟨mp, 2, none⟩ (.bool v)) mp pv v x :=
  ⟨cell_at h.cp (by omega), cell_at h.cx (by omega), cell_same h.cs, cell_at h.cf (by omega), fun k hk => cell_at (h.cn k hk) (by omega), fun k hk => cell_at (h.ca k hk) (by omega), fun k hk => cell_at (h.cl k hk) (by omega), cell_at h.ck (by omega), cell_at h.ct (by omega), cell_at h.co (by omega), cell_at h.cu (by omega), fun o => by rw [World.frozen?_setCell]; exact h.fz o⟩
theorem MM.strict {w : World} {mp r n base nx : Nat} {pv tv : Value} {st ov : Bool} {σ : St} {B V : Nat → Int} (h : MM w mp r n base pv st σ nx ov B V tv) (v : Bool) : MM (w.setCell ⟨mp, 2, none⟩ (.bool v)) mp r n base pv v σ nx ov B V tv := by
  have hF := (Fr.refl (OneB mp) w).setCell (p := ⟨mp, 2, none⟩) (fun _ => rfl) (.bool v)
  have hr : ¬ OneB mp r := fun e => h.h.ne (by unfold OneB at e; exact e.symm)
  exact ⟨h.m.setStrict v, ⟨h.h.lo, h.h.hi, h.h.ne, cell_at h.h.ptr (by omega), fun i hi => hF.cell_some (h.h.blk i hi) hr, fun i hi => hF.cell_some (h.h.val i hi) hr, fun o => (hF.frozen (p := ⟨r, o, none⟩) h.h.rl hr).trans (h.h.frz o), h.h.b0, h.h.b1⟩, h.b, h.ap, h.ok, hF.owns h.tr (fun g hg e => h.nm g hg e), h.tk, h.mb, h.rb, h.nm, h.nr, h.nxb⟩
section
variable (w : World) (mp r n base nx : Nat) (pv tv : Value) (st ov : Bool) (σ : St) (B V : Nat → Int)
set_option maxHeartbeats 1000000 in
theorem bused_fn (h : MM w mp r n base pv st σ nx ov B V tv) :
    Calls Tryd.prog 32 #[.pointer (some ⟨mp, 30, none⟩)] w fun e w' => e = .returned (.int .i64 (usedN σ 26 : Int)) ∧ w' = w := by
  have HM : Hid _ := h
  clear h
  go_enter Tryd.func32, Tryd.ntmps32
  go_wp2
  go_loop [3, 4] (fun t u => ∃ k : Nat, k ≤ 26 ∧ t = .int .i64 (usedN σ k : Int) ∧ u = .int .i64 k) (fun _ u => 26 - (intOf u).toNat)
  case atStart => exact ⟨0, by omega, rfl, rfl⟩
  case round =>
    obtain ⟨k, hk, rfl, rfl⟩ := hrel
    have ub := used_le HM.out.ok k
    have lb := HM.out.ok.sz k
    by_cases hlt : k < 26
    · have cl := HM.out.m.cl k hlt
      unfold mxOf at cl
      simp only [] at cl
      have HX : Hid (usedN σ (k + 1) = usedN σ k + (σ.bx k).length) := rfl
      generalize usedN σ k = U at *
      generalize (σ.bx k).length = L at *
      go_wp2
      go_round
      case rel => exact ⟨k + 1, by omega, by rw [HX.out]; go_num, by go_num⟩
      case measure => simp [intOf]; omega
    · have hk26 : k = 26 := by omega
      subst hk26
      go_wp2
      go_ret
      exact ⟨rfl, rfl⟩
end
set_option maxRecDepth 100000 in
set_option maxHeartbeats 1000000 in
theorem rexec_arg (w : World) (ao : Option Addr) (np cap : Nat) (a f : Int) (hf : (a < 1 ∨ 4096 < a) ∨ (f < 0 ∨ 5000 < f)) :
    Calls Tryd.prog 23 #[.slice ao np cap, .int .i64 a, .int .i64 f] w fun e w' => e = .returned (.tuple #[out0, .int .i64 5]) ∧ Fr NoB w w' := by
  have HB : Hid (∀ W, ∃ A : Array Value, A.size = 87 ∧ (∀ v ∈ A.toList, v.oneCell' = true) ∧ Calls Tryd.prog 30 #[.slice ao np cap, .int .i64 a, .int .i64 f] W fun e w' => e = .returned (.tuple #[.agg A, .int .i64 5]) ∧ Fr NoB W w') := fun W => ⟨zMac, zMac_size, zMac_one, by
    by_cases ha : a < 1 ∨ 4096 < a
    · exact begin_no W (.slice ao np cap) a f ha
    · obtain ⟨k, rfl⟩ : ∃ k : Nat, a = (k : Int) := ⟨a.toNat, by omega⟩
      exact begin_arg W (.slice ao np cap) k f (by omega) (by omega) (by omega)⟩
  have HO : Hid _ := OutAt.new w 28 (.int .i64 0) (.string ⟨#[]⟩) (.int .i64 0) (.int .i64 0)
  have HF0 : Hid (Fr NoB w (w.alloc (.cells #[.int .i64 0, .string ⟨#[]⟩, .int .i64 0, .int .i64 0] 28))) := (Fr.refl _ _).alloc _
  clear hf
  go_enter Tryd.func23, Tryd.ntmps23
  go_upto_region 1 with fail
  generalize (w.alloc _) = W0 at *
  obtain ⟨A, hA1, hA2, hB⟩ := HB.out W0
  have HB0 : Hid _ := hB
  clear hB HB
  go_upto_region 2 with (go_at_call 30; refine Calls.mono HB0.out ?_; rintro e w1 ⟨rfl, hF1⟩; have HRm : Hid _ := Room.new w1 Tryd.zeroCells79 79 87 (by rw [zMac_is, zMac_size]; omega); have hst := room_store HRm.out hA1 hA2)
  have hF2 : Fr NoB W0 ((w1.alloc (.cells Tryd.zeroCells79 79)).setCells w1.heap.size 0 A.toList) := Fr.setCells (fun q => by have := hF1.size; omega) _ _ (hF1.alloc _)
  generalize ((w1.alloc (.cells Tryd.zeroCells79 79)).setCells w1.heap.size 0 A.toList) = W2 at *
  have HO1 : Hid _ := HO.out.fr hF2 id
  obtain ⟨c0, c1, c2, c3, hf⟩ := HO1.out
  have f0 := hf 0
  have f1 := hf 1
  have f2 := hf 2
  have f3 := hf 3
  clear hf hst
  go_wp2
  obtain ⟨k0, k1, k2, k3, kf⟩ := HO1.out.put (u0 := .int .i64 0) (u1 := .string ⟨#[]⟩) (u2 := .int .i64 0) (u3 := .int .i64 0)
  exact bodyPost_ret (v := .tuple #[out0, .int .i64 5]) (by simp [results, Tryd.results23, go_sem, k0, k1, k2, k3, out0]) rfl ⟨rfl, (HF0.out.trans hF2).put4 (fun q => absurd q (by omega)) _ _ _ _⟩
set_option maxRecDepth 100000 in
set_option maxHeartbeats 2000000 in
theorem rexec_ok (w : World) (ao : Option Addr) (np cap nw k m : Nat) (p : Nat → Pt) (C : Nat → Nat) (σf : St) (hw1 : 1 ≤ nw) (hw2 : nw ≤ 4096) (hk : k ≤ 5000) (hrow : PartRow w ao np p C) (hg : ∀ g, ao = some ⟨g, 0, none⟩ → g < w.heap.size) (hfl : FlatOk p np) (hC : ∀ i, i < np → C i < 99999) (hnp : np < 100000)
    (hsg : ∀ i, i < np → (p i).kind = 0 → (p i).sign = 0 ∨ sgOk (p i).sign) (hR : RunsIn (cE true nw) p C np m (0, st0 k, false) σf) (htab : ∀ W, Fr NoB w W → TabOk W) :
    Calls Tryd.prog 23 #[.slice ao np cap, .int .i64 (nw : Int), .int .i64 (k : Int)] w fun e w' => e = .returned (.tuple #[outE σf, .int .i64 0]) ∧ Fr NoB w w' := by
  have HB : Hid (∀ W, Calls Tryd.prog 30 #[.slice ao np cap, .int .i64 (nw : Int), .int .i64 (k : Int)] W fun e w' => ∃ r A, e = .returned (.tuple #[.agg A, .int .i64 0]) ∧ Hid (A = mac0 (.slice ao np cap) (.slice (some ⟨r, 0, none⟩) nw nw) k ∧ Fr NoB W w' ∧
      W.heap.size ≤ r ∧ r < w'.heap.size ∧ (∀ j, j < nw * 2 → w'.cell? ⟨r, j, none⟩ = some (.int .i64 0)) ∧ (∀ o, w'.frozen? ⟨r, o, none⟩ = false))) := fun W => (begin_ok W ao np cap nw k hw1 hw2 hk).mono fun e w' ⟨r, h1, h2⟩ => ⟨r, _, h1, ⟨rfl, h2⟩⟩
  have HO : Hid _ := OutAt.new w 28 (.int .i64 0) (.string ⟨#[]⟩) (.int .i64 0) (.int .i64 0)
  have HF0 : Hid (Fr NoB w (w.alloc (.cells #[.int .i64 0, .string ⟨#[]⟩, .int .i64 0, .int .i64 0] 28))) := (Fr.refl _ _).alloc _
  have hl0 : (w.alloc (.cells #[.int .i64 0, .string ⟨#[]⟩, .int .i64 0, .int .i64 0] 28)).heap.size = w.heap.size + 1 := by simp
  have HRf : Hid _ := And.intro hrow (And.intro hg (And.intro hfl (And.intro hC (And.intro hsg (And.intro hR htab)))))
  have Hby : Hid _ := ri_byte hR (fun y hy => by simp [st0] at hy)
  have HL0 : Hid _ := hl0
  clear hrow hg hfl hC hsg hR htab hl0
  go_enter Tryd.func23, Tryd.ntmps23
  go_upto_region 1 with fail
  generalize (w.alloc _) = W0 at *
  go_upto_region 2 with (go_at_call 30; refine (HB.out _).mono ?_; rintro e w1 ⟨r, A, rfl, HX⟩; have HRm : Hid _ := Room.new w1 Tryd.zeroCells79 79 87 (by rw [zMac_is, zMac_size]; omega); have hA1 : A.size = 87 := (by rw [HX.out.1]; exact mac0_size _ _ _); have hst := room_store HRm.out (A := A) hA1 (by rw [HX.out.1]; exact mac0_one rfl rfl))
  obtain ⟨hA, hF1, hr1, hr2, hr3, hr4⟩ := HX.out
  have hl1 : W0.heap.size ≤ w1.heap.size := hF1.size
  have hFa : Fr NoB w1 (w1.alloc (.cells Tryd.zeroCells79 79)) := (Fr.refl _ _).alloc _
  have hM := mm_new (ao := ao) (np := np) (cap := cap) (n := nw) (k := k) (base := W0.heap.size) (r := r) HRm.out hl1 hr1 (by omega) (by omega) (by omega) hk (Nat.lt_of_lt_of_le hr2 hFa.size) (fun j hj => hFa.cell_some (hr3 j hj) id) (fun o => (hFa.frozen (p := ⟨r, o, none⟩) hr2 id).trans (hr4 o))
  rw [← hA] at hM
  have hF2 : Fr NoB W0 ((w1.alloc (.cells Tryd.zeroCells79 79)).setCells w1.heap.size 0 A.toList) := Fr.setCells (fun q => by omega) _ _ (hF1.trans hFa)
  have HM : Hid _ := hM
  clear hM hA hr1 hr2 hr3 hr4 hFa hst HX HRm HB
  generalize ((w1.alloc (.cells Tryd.zeroCells79 79)).setCells w1.heap.size 0 A.toList) = W2 at *
  generalize w1.heap.size = mp at *
  have cst := HM.out.m.cs
  have fst := HM.out.m.fz 2
  go_upto_region 5 with fail
  have HM2 : Hid _ := HM.out.strict true
  have hF2b : Fr NoB W0 (W2.setCell ⟨mp, 2, none⟩ (.bool true)) := hF2.setCell (p := ⟨mp, 2, none⟩) (fun (q : mp < W0.heap.size) => by omega) _
  clear HM hF2 cst fst
  generalize W2.setCell ⟨mp, 2, none⟩ (.bool true) = W3 at *
  have HF2 : Hid _ := HF0.out.trans hF2b
  have HO2 : Hid _ := HO.out.fr hF2b id
  have HRn : Hid (Calls Tryd.prog 31 #[.pointer (some ⟨mp, 0, none⟩)] W3 fun e w' => e = .returned (.tuple #[]) ∧ RunE mp r nw W0.heap.size (.slice ao np cap) true σf W3 w') := by
    obtain ⟨q1, q2, q3, q4, q5, q6, q8⟩ := HRf.out
    exact run_fn W3 mp r nw W0.heap.size np cap ao p C true _ _ _ (st0 k) σf m HM2.out (q1.no HF2.out) (fun g e => by have := q2 g e; have := HL0.out; omega) q3 q4 hnp q5 q6 (by simp [st0]) (fun q => by cases q) (fun W hW => q8 W (HF2.out.then hW (fun j hj q => by unfold FrM at q; have := HL0.out; omega)))
  clear hF1 hF2b
  go_upto_region 6 with (go_at_call 31; refine Calls.mono HRn.out ?_; rintro e w3 ⟨rfl, hE⟩; have HE : Hid _ := hE; clear hE)
  obtain ⟨⟨nx, ov, B, V, tv, hM3⟩, hF3⟩ := HE.out
  have cu := hM3.m.cu
  have ct := hM3.m.ct
  have ck := hM3.m.ck
  unfold mxOf at cu ct ck
  simp only [] at cu ct ck
  have hob : w.heap.size < W0.heap.size := by have := HL0.out; omega
  have hom : w.heap.size < mp := Nat.lt_of_lt_of_le hob hM3.mb
  have HUs : Hid (∀ W, Fr NoB w3 W → Calls Tryd.prog 32 #[.pointer (some ⟨mp, 30, none⟩)] W fun e w' => e = .returned (.int .i64 (usedN σf 26 : Int)) ∧ w' = W) := fun W hW => bused_fn W mp r nw W0.heap.size nx _ tv true ov σf B V (hM3.no hW)
  have HK : Hid (∀ W, Fr (OneB w.heap.size) w3 W → W.cell? ⟨mp, 86, none⟩ = some (.int .i64 (σf.status : Int)) ∧ W.cell? ⟨mp, 84, none⟩ = some tv ∧ W.cell? ⟨mp, 83, none⟩ = some (.int .i64 (σf.peak : Int)) ∧ (convert 38 9 tv).run Tryd.prog W = .ok (.string (trB σf.tr)) W) := fun W hW => by
    have hnm : ¬ OneB w.heap.size mp := fun e => by unfold OneB at e; omega
    refine ⟨hW.cell_some cu hnm, hW.cell_some ct hnm, hW.cell_some ck hnm, conv_tr (hW.owns hM3.tr (fun g hg e => ?_)) Hby.out⟩
    unfold OneB at e
    rcases hM3.tr.2 with ⟨rfl, h0⟩ | ⟨g', cap', cur, rfl, hg', _⟩
    · simp [Value.ownBlock] at hg
    · simp [Value.ownBlock] at hg
      omega
  have HO3 : Hid _ := HO2.out.fr hF3 (fun q => by unfold FrM at q; omega)
  have HF4 : Hid (Fr NoB w w3) := HF2.out.then hF3 (fun j hj q => by unfold FrM at q; have := HL0.out; omega)
  obtain ⟨c0, c1, c2, c3, hf⟩ := HO3.out
  have f0 := hf 0
  have f1 := hf 1
  have f2 := hf 2
  have f3 := hf 3
  clear hf hF3 hM3 cu ct ck
  generalize hTR : trB σf.tr = TR at *
  generalize hUU : usedN σf 26 = U at *
  have HTR : Hid _ := hTR
  have HUU : Hid _ := hUU
  clear hTR hUU
  have HP4 : Hid (∀ u0 u1 u2 u3 : Value, Fr (OneB w.heap.size) w3 ((((w3.setCell ⟨w.heap.size, 0, none⟩ u0).setCell ⟨w.heap.size, 1, none⟩ u1).setCell ⟨w.heap.size, 2, none⟩ u2).setCell ⟨w.heap.size, 3, none⟩ u3)) := fun u0 u1 u2 u3 => Fr.put4 (S := OneB w.heap.size) (Fr.refl _ _) (fun _ => rfl) u0 u1 u2 u3
  go_region_held3 (fun W => W.cell? ⟨mp, 86, none⟩ = some (.int .i64 (σf.status : Int)) ∧ W.cell? ⟨mp, 84, none⟩ = some tv ∧ W.cell? ⟨mp, 83, none⟩ = some (.int .i64 (σf.peak : Int)) ∧ (convert 38 9 tv).run Tryd.prog W = .ok (.string TR) W) (exact HK.out _ (by repeat (first | exact Fr.refl _ _ | refine Fr.drew ?_ | exact HP4.out _ _ _ _))) ((go_at_call 32; refine (HUs.out _ ((Fr.refl _ _).drew)).mono ?_; rintro e w5 ⟨rfl, hw⟩; have hw2 := hw.symm; clear hw; subst hw2))
  all_goals
    obtain ⟨k0, k1, k2, k3, kf⟩ := HO3.out.put (u0 := .int .i64 (σf.status : Int)) (u1 := .string TR) (u2 := .int .i64 (U : Int)) (u3 := .int .i64 (σf.peak : Int))
    go_wp2
    exact bodyPost_ret (v := .tuple #[outE σf, .int .i64 0]) (by simp [results, Tryd.results23, go_sem, k0, k1, k2, k3, outE, HTR.out, HUU.out]) rfl ⟨rfl, (HF4.out.put4 (fun q => absurd q (by omega)) _ _ _ _).drew⟩
end Go.Proofs.YthcjcjfgdgnljaaDoor
