/-
  The program's reader in memory: its small calls.
-/
import Derived.Test.YtcmnejcojphijaaDevV
namespace Go.Proofs.Ytcmnejcojphijaa
open Go.RowKit
set_option linter.unusedVariables false

/-- the reader in memory -/
structure Rd (w : World) (kp : Nat) (s : ByteArray) (z : Nat × Nat) (pv ov : Value) : Prop where
  c0 : w.cell? ⟨kp, 0, none⟩ = some (.string s)
  c1 : w.cell? ⟨kp, 1, none⟩ = some (.int .i64 (z.1 : Int))
  c2 : w.cell? ⟨kp, 2, none⟩ = some pv
  c3 : w.cell? ⟨kp, 3, none⟩ = some ov
  c4 : w.cell? ⟨kp, 4, none⟩ = some (.int .i64 (z.2 : Int))
  f : ∀ o, w.frozen? ⟨kp, o, none⟩ = false
theorem Rd.lt {w : World} {kp : Nat} {s : ByteArray} {z : Nat × Nat} {pv ov : Value} (h : Rd w kp s z pv ov) : kp < w.heap.size := World.block_lt_of_cell? w _ h.c0
theorem Rd.fr {S : Nat → Prop} {w w' : World} {kp : Nat} {s : ByteArray} {z : Nat × Nat} {pv ov : Value} (h : Rd w kp s z pv ov) (hF : Fr S w w') (hS : ¬ S kp) : Rd w' kp s z pv ov :=
  ⟨hF.cell_some h.c0 hS, hF.cell_some h.c1 hS, hF.cell_some h.c2 hS, hF.cell_some h.c3 hS, hF.cell_some h.c4 hS, fun o => (hF.frozen (p := ⟨kp, o, none⟩) h.lt hS).trans (h.f o)⟩
theorem Rd.no {w w' : World} {kp : Nat} {s : ByteArray} {z : Nat × Nat} {pv ov : Value} (h : Rd w kp s z pv ov) (hF : Fr NoB w w') : Rd w' kp s z pv ov := h.fr hF id
theorem Rd.set1 {w : World} {kp : Nat} {s : ByteArray} {z : Nat × Nat} {pv ov : Value} (h : Rd w kp s z pv ov) (a : Nat) : Rd (w.setCell ⟨kp, 1, none⟩ (.int .i64 (a : Int))) kp s (a, z.2) pv ov :=
  ⟨(cell_other (.inr (by omega))).trans h.c0, cell_same h.c1, (cell_other (.inr (by omega))).trans h.c2, (cell_other (.inr (by omega))).trans h.c3, (cell_other (.inr (by omega))).trans h.c4, fun o => by rw [World.frozen?_setCell]; exact h.f o⟩
theorem Rd.set4 {w : World} {kp : Nat} {s : ByteArray} {z : Nat × Nat} {pv ov : Value} (h : Rd w kp s z pv ov) (a : Nat) : Rd (w.setCell ⟨kp, 4, none⟩ (.int .i64 (a : Int))) kp s (z.1, a) pv ov :=
  ⟨(cell_other (.inr (by omega))).trans h.c0, (cell_other (.inr (by omega))).trans h.c1, (cell_other (.inr (by omega))).trans h.c2, (cell_other (.inr (by omega))).trans h.c3, cell_same h.c4, fun o => by rw [World.frozen?_setCell]; exact h.f o⟩
theorem Rd.set2 {w : World} {kp : Nat} {s : ByteArray} {z : Nat × Nat} {pv ov : Value} (h : Rd w kp s z pv ov) (v : Value) : Rd (w.setCell ⟨kp, 2, none⟩ v) kp s z v ov :=
  ⟨(cell_other (.inr (by omega))).trans h.c0, (cell_other (.inr (by omega))).trans h.c1, cell_same h.c2, (cell_other (.inr (by omega))).trans h.c3, (cell_other (.inr (by omega))).trans h.c4, fun o => by rw [World.frozen?_setCell]; exact h.f o⟩
theorem Rd.set3 {w : World} {kp : Nat} {s : ByteArray} {z : Nat × Nat} {pv ov : Value} (h : Rd w kp s z pv ov) (v : Value) : Rd (w.setCell ⟨kp, 3, none⟩ v) kp s z pv v :=
  ⟨(cell_other (.inr (by omega))).trans h.c0, (cell_other (.inr (by omega))).trans h.c1, (cell_other (.inr (by omega))).trans h.c2, cell_same h.c3, (cell_other (.inr (by omega))).trans h.c4, fun o => by rw [World.frozen?_setCell]; exact h.f o⟩
/-- numbers in their bounds -/
structure Zb (s : ByteArray) (z : Nat × Nat) : Prop where
  i : In s z
  w : z.2 ≤ 3
  n : s.size ≤ 90000

section
variable (w : World) (kp : Nat) (s : ByteArray) (z : Nat × Nat) (pv ov : Value)
set_option maxHeartbeats 1000000 in
theorem peek_fn (h : Rd w kp s z pv ov) (hz : Zb s z) :
    Calls Try.prog 48 #[.pointer (some ⟨kp, 0, none⟩)] w fun e w' => e = .returned (.int .u8 (pk s z : Int)) ∧ Fr NoB w w' := by
  obtain ⟨c0, c1, _, _, c4, _⟩ := h
  have hi : z.1 ≤ s.size := hz.i
  have hn := hz.n
  by_cases h2 : z.2 = 0
  · have b1 : ((z.2 : Int) != 0) = false := by rw [h2]; rfl
    by_cases hl : z.1 < s.size
    · have hE : (pk s z : Int) = (s[z.1].toNat : Int) := by rw [pk_ok h2, bt_in hl]
      have b2 : decide ((s.size : Int) ≤ (z.1 : Int)) = false := decide_eq_false (by omega)
      rw [hE]
      clear hE h2
      go_enter Try.func48, Try.ntmps48
      go_wp2_with fail
      go_quiet (fail)
      go_wp2_with fail
      go_quiet (fail)
      go_wp2
      go_ret
      exact ⟨rfl, ((Fr.refl _ _).drewN _).drewN _⟩
    · have hE : (pk s z : Int) = 0 := by rw [pk_ok h2, bt_out hl]; rfl
      have b2 : decide ((s.size : Int) ≤ (z.1 : Int)) = true := decide_eq_true (by omega)
      rw [hE]
      clear hE h2
      go_enter Try.func48, Try.ntmps48
      go_wp2_with fail
      go_quiet (fail)
      go_wp2
      go_ret
      exact ⟨rfl, (Fr.refl _ _).drewN _⟩
  · have b1 : ((z.2 : Int) != 0) = true := bne_iff_ne.2 (by omega)
    have hE : (pk s z : Int) = 0 := by rw [pk_bad h2]; rfl
    rw [hE]
    clear hE h2
    go_enter Try.func48, Try.ntmps48
    go_wp2_with fail
    go_quiet (fail)
    go_wp2
    go_ret
    exact ⟨rfl, (Fr.refl _ _).drewN _⟩
end
end Go.Proofs.Ytcmnejcojphijaa
