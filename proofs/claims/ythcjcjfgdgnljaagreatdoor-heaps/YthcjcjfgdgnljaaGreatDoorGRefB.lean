/-
  RefA, RefB: one behind the other.
-/
import Derived.Test.YthcjcjfgdgnljaaGreatDoorGAppK
import Derived.Deep.QuietTactic
import Derived.BigQuiet
import Derived.Deep.RegionWith
import Derived.Deep.DeepCutAuto
namespace Go.Proofs.YthcjcjfgdgnljaaGreatDoor
open Go.RowKit

structure RefAt (w : World) (q ri rh n : Nat) (I H : Nat → Int) (md : Int) : Prop where
  lo : 1 ≤ n
  hi : n ≤ 4096
  qi : q ≠ ri
  qh : q ≠ rh
  ih : ri ≠ rh
  c0 : w.cell? ⟨q, 0, none⟩ = some (.slice (some ⟨ri, 0, none⟩) n n)
  c1 : w.cell? ⟨q, 1, none⟩ = some (.slice (some ⟨rh, 0, none⟩) n n)
  c2 : w.cell? ⟨q, 2, none⟩ = some (.int .i64 md)
  ci : ∀ i, i < n → w.cell? ⟨ri, i, none⟩ = some (.int .i64 (I i))
  ch : ∀ i, i < n → w.cell? ⟨rh, i, none⟩ = some (.int .i64 (H i))
  fq : ∀ o, w.frozen? ⟨q, o, none⟩ = false
  fi : ∀ o, w.frozen? ⟨ri, o, none⟩ = false
  fh : ∀ o, w.frozen? ⟨rh, o, none⟩ = false

def RefS (q ri rh : Nat) : Nat → Prop := fun k => k = q ∨ k = ri ∨ k = rh

theorem RefAt.ql {w : World} {q ri rh n : Nat} {I H : Nat → Int} {md : Int} (h : RefAt w q ri rh n I H md) : q < w.heap.size := World.block_lt_of_cell? w _ h.c0
theorem RefAt.il {w : World} {q ri rh n : Nat} {I H : Nat → Int} {md : Int} (h : RefAt w q ri rh n I H md) : ri < w.heap.size := World.block_lt_of_cell? w _ (h.ci 0 (by have := h.lo; omega))
theorem RefAt.hl {w : World} {q ri rh n : Nat} {I H : Nat → Int} {md : Int} (h : RefAt w q ri rh n I H md) : rh < w.heap.size := World.block_lt_of_cell? w _ (h.ch 0 (by have := h.lo; omega))
theorem RefAt.fr {S : Nat → Prop} {w w' : World} {q ri rh n : Nat} {I H : Nat → Int} {md : Int} (h : RefAt w q ri rh n I H md) (hf : Fr S w w') (h1 : ¬ S q) (h2 : ¬ S ri) (h3 : ¬ S rh) : RefAt w' q ri rh n I H md :=
  ⟨h.lo, h.hi, h.qi, h.qh, h.ih, hf.cell_some h.c0 h1, hf.cell_some h.c1 h1, hf.cell_some h.c2 h1, fun i hi => hf.cell_some (h.ci i hi) h2, fun i hi => hf.cell_some (h.ch i hi) h3,
    fun o => (hf.frozen (p := ⟨q, o, none⟩) h.ql h1).trans (h.fq o), fun o => (hf.frozen (p := ⟨ri, o, none⟩) h.il h2).trans (h.fi o), fun o => (hf.frozen (p := ⟨rh, o, none⟩) h.hl h3).trans (h.fh o)⟩
theorem RefAt.no {w w' : World} {q ri rh n : Nat} {I H : Nat → Int} {md : Int} (h : RefAt w q ri rh n I H md) (hf : Fr NoB w w') : RefAt w' q ri rh n I H md := h.fr hf id id id
theorem RefAt.congr {w : World} {q ri rh n : Nat} {I H I' H' : Nat → Int} {md : Int} (h : RefAt w q ri rh n I H md) (hi : ∀ i, i < n → I' i = I i) (hh : ∀ i, i < n → H' i = H i) : RefAt w q ri rh n I' H' md :=
  ⟨h.lo, h.hi, h.qi, h.qh, h.ih, h.c0, h.c1, h.c2, fun i hl => by rw [hi i hl]; exact h.ci i hl, fun i hl => by rw [hh i hl]; exact h.ch i hl, h.fq, h.fi, h.fh⟩
theorem RefAt.setI {w : World} {q ri rh n : Nat} {I H : Nat → Int} {md : Int} (h : RefAt w q ri rh n I H md) {k : Nat} (hk : k < n) (u : Int) : RefAt (w.setCell ⟨ri, k, none⟩ (.int .i64 u)) q ri rh n (upd I k u) H md :=
  ⟨h.lo, h.hi, h.qi, h.qh, h.ih, (cell_other (.inl (Ne.symm h.qi))).trans h.c0, (cell_other (.inl (Ne.symm h.qi))).trans h.c1, (cell_other (.inl (Ne.symm h.qi))).trans h.c2,
    fun i hi => by
      by_cases e : i = k
      · subst e; rw [upd_at]; exact cell_same (h.ci i hi)
      · rw [upd_ne _ _ e]; exact (cell_other (.inr (by omega))).trans (h.ci i hi),
    fun i hi => (cell_other (.inl h.ih)).trans (h.ch i hi),
    fun o => by rw [World.frozen?_setCell]; exact h.fq o, fun o => by rw [World.frozen?_setCell]; exact h.fi o, fun o => by rw [World.frozen?_setCell]; exact h.fh o⟩
theorem RefAt.setH {w : World} {q ri rh n : Nat} {I H : Nat → Int} {md : Int} (h : RefAt w q ri rh n I H md) {k : Nat} (hk : k < n) (u : Int) : RefAt (w.setCell ⟨rh, k, none⟩ (.int .i64 u)) q ri rh n I (upd H k u) md :=
  ⟨h.lo, h.hi, h.qi, h.qh, h.ih, (cell_other (.inl (Ne.symm h.qh))).trans h.c0, (cell_other (.inl (Ne.symm h.qh))).trans h.c1, (cell_other (.inl (Ne.symm h.qh))).trans h.c2,
    fun i hi => (cell_other (.inl (Ne.symm h.ih))).trans (h.ci i hi),
    fun i hi => by
      by_cases e : i = k
      · subst e; rw [upd_at]; exact cell_same (h.ch i hi)
      · rw [upd_ne _ _ e]; exact (cell_other (.inr (by omega))).trans (h.ch i hi),
    fun o => by rw [World.frozen?_setCell]; exact h.fq o, fun o => by rw [World.frozen?_setCell]; exact h.fi o, fun o => by rw [World.frozen?_setCell]; exact h.fh o⟩
theorem RefAt.setM {w : World} {q ri rh n : Nat} {I H : Nat → Int} {md : Int} (h : RefAt w q ri rh n I H md) (u : Int) : RefAt (w.setCell ⟨q, 2, none⟩ (.int .i64 u)) q ri rh n I H u :=
  ⟨h.lo, h.hi, h.qi, h.qh, h.ih, (cell_other (.inr (by omega))).trans h.c0, (cell_other (.inr (by omega))).trans h.c1, cell_same h.c2,
    fun i hi => (cell_other (.inl h.qi)).trans (h.ci i hi), fun i hi => (cell_other (.inl h.qh)).trans (h.ch i hi),
    fun o => by rw [World.frozen?_setCell]; exact h.fq o, fun o => by rw [World.frozen?_setCell]; exact h.fi o, fun o => by rw [World.frozen?_setCell]; exact h.fh o⟩

set_option maxHeartbeats 400000 in
theorem rtaken_any (w : World) (q ri rh n : Nat) (I H : Nat → Int) (md a : Int) (h : RefAt w q ri rh n I H md) :
    Calls Tryz.prog 95 #[.pointer (some ⟨q, 0, none⟩), .int .i64 a] w fun e w' => e = .returned (.bool (takenB I n a)) ∧ w' = w := by
  have hn := h.hi
  have hp := h.c0
  by_cases h0 : 0 ≤ a
  · obtain ⟨k, rfl⟩ := Int.eq_ofNat_of_zero_le h0
    by_cases h1 : k < n
    · have hc := h.ci k h1
      clear h
      go_enter Tryz.func95, Tryz.ntmps95
      go_wp2
      go_ret
      exact ⟨ret_bool (takenB_in h1).symm, rfl⟩
    · clear h
      go_enter Tryz.func95, Tryz.ntmps95
      go_wp2
      go_ret
      exact ⟨ret_bool (takenB_hi h1).symm, rfl⟩
  · clear h
    go_enter Tryz.func95, Tryz.ntmps95
    go_wp2
    go_ret
    exact ⟨ret_bool (takenB_neg (by omega)).symm, rfl⟩
theorem rtaken_in (w : World) (q ri rh n : Nat) (I H : Nat → Int) (md : Int) (k : Nat) (h : RefAt w q ri rh n I H md) (hk : k < n) :
    Calls Tryz.prog 95 #[.pointer (some ⟨q, 0, none⟩), .int .i64 (k : Int)] w fun e w' => e = .returned (.bool (I k != 0)) ∧ w' = w := by
  have := rtaken_any w q ri rh n I H md k h
  rwa [takenB_in hk] at this

set_option maxHeartbeats 400000 in
theorem rload_no (w : World) (q ri rh n : Nat) (I H : Nat → Int) (md a : Int) (h : RefAt w q ri rh n I H md) (ht : takenB I n a = false) :
    Calls Tryz.prog 55 #[.pointer (some ⟨q, 0, none⟩), .int .i64 a] w fun e w' => e = .returned (.tuple #[.int .i64 0, .int .i64 7]) ∧ w' = w := by
  go_enter Tryz.func55, Tryz.ntmps55
  go_wp2_with (go_at_call 95; refine (rtaken_any _ q ri rh n I H md a h).mono ?_; rintro e w' ⟨rfl, rfl⟩; rw [ht])
  go_ret2
  exact ⟨rfl, rfl⟩
set_option maxHeartbeats 400000 in
theorem rload_yes (w : World) (q ri rh n : Nat) (I H : Nat → Int) (md : Int) (k : Nat) (h : RefAt w q ri rh n I H md) (hk : k < n) (ht : I k ≠ 0) :
    Calls Tryz.prog 55 #[.pointer (some ⟨q, 0, none⟩), .int .i64 (k : Int)] w fun e w' => e = .returned (.tuple #[.int .i64 (H k), .int .i64 0]) ∧ w' = w := by
  have hn := h.hi
  have hp := h.c1
  have hc := h.ch k hk
  have hb : (I k != 0) = true := by simpa using ht
  go_enter Tryz.func55, Tryz.ntmps55
  go_wp2_with (go_at_call 95; refine (rtaken_in _ q ri rh n I H md k h hk).mono ?_; rintro e w' ⟨rfl, rfl⟩; rw [hb])
  go_ret2
  exact ⟨rfl, rfl⟩
set_option maxHeartbeats 400000 in
theorem rstore_no (w : World) (q ri rh n : Nat) (I H : Nat → Int) (md a u : Int) (h : RefAt w q ri rh n I H md) (ht : takenB I n a = false) :
    Calls Tryz.prog 57 #[.pointer (some ⟨q, 0, none⟩), .int .i64 a, .int .i64 u] w fun e w' => e = .returned (.int .i64 7) ∧ w' = w := by
  go_enter Tryz.func57, Tryz.ntmps57
  go_wp2_with (go_at_call 95; refine (rtaken_any _ q ri rh n I H md a h).mono ?_; rintro e w' ⟨rfl, rfl⟩; rw [ht])
  go_ret
  exact ⟨rfl, rfl⟩
set_option maxHeartbeats 400000 in
theorem rstore_arg (w : World) (q ri rh n : Nat) (I H : Nat → Int) (md : Int) (k : Nat) (u : Int) (h : RefAt w q ri rh n I H md) (hk : k < n) (ht : I k ≠ 0) (hu : u < 0 ∨ 1000 ≤ u) :
    Calls Tryz.prog 57 #[.pointer (some ⟨q, 0, none⟩), .int .i64 (k : Int), .int .i64 u] w fun e w' => e = .returned (.int .i64 5) ∧ w' = w := by
  have hb : (I k != 0) = true := by simpa using ht
  rcases hu with hu | hu
  · go_enter Tryz.func57, Tryz.ntmps57
    go_wp2_with (go_at_call 95; refine (rtaken_in _ q ri rh n I H md k h hk).mono ?_; rintro e w' ⟨rfl, rfl⟩; rw [hb])
    go_ret
    exact ⟨rfl, rfl⟩
  · have hu0 : ¬ u < 0 := by omega
    go_enter Tryz.func57, Tryz.ntmps57
    go_wp2_with (go_at_call 95; refine (rtaken_in _ q ri rh n I H md k h hk).mono ?_; rintro e w' ⟨rfl, rfl⟩; rw [hb])
    go_ret
    exact ⟨rfl, rfl⟩
set_option maxHeartbeats 400000 in
theorem rstore_yes (w : World) (q ri rh n : Nat) (I H : Nat → Int) (md : Int) (k : Nat) (u : Int) (h : RefAt w q ri rh n I H md) (hk : k < n) (ht : I k ≠ 0) (hu0 : 0 ≤ u) (hu1 : u < 1000) :
    Calls Tryz.prog 57 #[.pointer (some ⟨q, 0, none⟩), .int .i64 (k : Int), .int .i64 u] w fun e w' => e = .returned (.int .i64 0) ∧ RefAt w' q ri rh n I (upd H k u) md ∧ Fr (RefS q ri rh) w w' := by
  have hn := h.hi
  have hp := h.c1
  have hc := h.ch k hk
  have hf := h.fh k
  have hb : (I k != 0) = true := by simpa using ht
  have HE : Hid (RefAt (w.setCell ⟨rh, k, none⟩ (.int .i64 u)) q ri rh n I (upd H k u) md ∧ Fr (RefS q ri rh) w (w.setCell ⟨rh, k, none⟩ (.int .i64 u))) :=
    ⟨h.setH hk u, (Fr.refl (RefS q ri rh) w).setCell (p := ⟨rh, k, none⟩) (fun _ => .inr (.inr rfl)) _⟩
  go_enter Tryz.func57, Tryz.ntmps57
  go_wp2_with (go_at_call 95; refine (rtaken_in _ q ri rh n I H md k h hk).mono ?_; rintro e w' ⟨rfl, rfl⟩; rw [hb])
  go_ret
  exact ⟨rfl, HE.out⟩


set_option maxHeartbeats 1000000 in
theorem rfree_any (w : World) (q ri rh n : Nat) (I H : Nat → Int) (md : Int) (a k : Nat) (h : RefAt w q ri rh n I H md) (hak : a + k ≤ n) :
    Calls Tryz.prog 93 #[.pointer (some ⟨q, 0, none⟩), .int .i64 (a : Int), .int .i64 (k : Int)] w fun e w' => Says (FreeAt I n k a) e ∧ w' = w := by
  have hn := h.hi
  have hp := h.c0
  go_enter Tryz.func93, Tryz.ntmps93
  go_wp2
  go_loop [7] (fun t => ∃ i : Nat, a ≤ i ∧ i ≤ a + k ∧ t = .int .i64 i ∧ (∀ j, a ≤ j → j < i → I j = 0)) (fun t => a + k - (intOf t).toNat)
  case atStart => exact ⟨a, Nat.le_refl _, by omega, rfl, fun j h1 h2 => absurd h2 (by omega)⟩
  case round =>
    obtain ⟨i, hi1, hi2, rfl, hall⟩ := hrel
    have Hall : Hid (∀ j, a ≤ j → j < i → I j = 0) := hall
    clear hall
    by_cases hlt : i < a + k
    · have hc := h.ci i (by omega)
      by_cases hz : I i = 0
      · have hzb : (I i != 0) = false := by simpa using hz
        have Hz : Hid (I i = 0) := hz
        clear hz
        go_wp2
        go_round
        case rel => exact ⟨i + 1, by omega, by omega, by go_num, grow_eq Hall.out Hz.out⟩
        case measure => simp [intOf]; omega
      · have hzb : (I i != 0) = true := by simpa using hz
        have Hz : Hid (I i ≠ 0) := hz
        clear hz
        go_wp2
        go_ret
        exact ⟨⟨false, rfl, ⟨fun e => absurd e (by simp), fun e => absurd (e.2 i hi1 hlt) Hz.out⟩⟩, rfl⟩
    · have hie : i = a + k := by omega
      subst hie
      go_wp2
      go_ret
      exact ⟨⟨true, rfl, ⟨fun _ => ⟨hak, Hall.out⟩, fun _ => rfl⟩⟩, rfl⟩

set_option maxHeartbeats 400000 in
theorem ralloc_arg (w : World) (p : Nat) (k : Int) (hk : k < 1 ∨ 64 < k) :
    Calls Tryz.prog 51 #[.pointer (some ⟨p, 0, none⟩), .int .i64 k] w fun e w' => e = .returned (.tuple #[.int .i64 0, .int .i64 5]) ∧ w' = w := by
  rcases hk with hk | hk
  · go_enter Tryz.func51, Tryz.ntmps51
    go_wp2
    go_ret2
    exact ⟨rfl, rfl⟩
  · have hk0 : ¬ k < 1 := by omega
    go_enter Tryz.func51, Tryz.ntmps51
    go_wp2
    go_ret2
    exact ⟨rfl, rfl⟩

def setTo (f : Nat → Int) (a j : Nat) (v : Int) : Nat → Int := fun i => if a ≤ i ∧ i < j then v else f i
theorem setTo_start (f : Nat → Int) (a : Nat) (v : Int) {n : Nat} : ∀ i, i < n → setTo f a a v i = f i := fun i _ => by
  unfold setTo; rw [if_neg (by omega)]
theorem setTo_step (f : Nat → Int) {a j : Nat} (v : Int) (h : a ≤ j) {n : Nat} : ∀ i, i < n → setTo f a (j + 1) v i = upd (setTo f a j v) j v i := fun i _ => by
  unfold setTo upd
  by_cases e : i = j
  · subst e; rw [if_pos (by omega), if_pos rfl]
  · rw [if_neg e]
    by_cases e2 : a ≤ i ∧ i < j
    · rw [if_pos (by omega)]; exact (if_pos e2).symm
    · rw [if_neg (by omega)]; exact (if_neg e2).symm

set_option maxHeartbeats 1000000 in
theorem ralloc_any (w : World) (q ri rh n : Nat) (I H : Nat → Int) (md : Int) (k : Nat) (h : RefAt w q ri rh n I H md) (hk1 : 1 ≤ k) (hk2 : k ≤ 64) (hmd0 : 0 ≤ md) (hmd : md < 9223372036854775807) :
    Calls Tryz.prog 51 #[.pointer (some ⟨q, 0, none⟩), .int .i64 (k : Int)] w fun e w' =>
      (∃ a : Nat, FreeAt I n k a ∧ (∀ b, FreeAt I n k b → a ≤ b) ∧ e = .returned (.tuple #[.int .i64 (a : Int), .int .i64 0]) ∧ RefAt w' q ri rh n (setTo I a (a + k) (md + 1)) (setTo H a (a + k) 0) (md + 1) ∧ Fr (RefS q ri rh) w w') ∨
      ((∀ b, ¬ FreeAt I n k b) ∧ e = .returned (.tuple #[.int .i64 0, .int .i64 6]) ∧ w' = w) := by
  have hn := h.hi
  have hp := h.c0
  have hd1 : (decide ((k : Int) < 1)) = false := by simp; omega
  have hd2 : (decide ((64 : Int) < (k : Int))) = false := by simp; omega
  go_enter Tryz.func51, Tryz.ntmps51
  go_wp2_with fail
  go_loop [6] (fun t => ∃ a : Nat, a ≤ n + 1 ∧ t = .int .i64 a ∧ (∀ b, FreeAt I n k b → a ≤ b)) (fun t => n + 1 - (intOf t).toNat)
  case atStart => exact ⟨0, Nat.zero_le _, rfl, fun b _ => Nat.zero_le _⟩
  case round =>
    obtain ⟨a, ha, rfl, hmin⟩ := hrel
    have Hmin : Hid (∀ b, FreeAt I n k b → a ≤ b) := hmin
    clear hmin
    by_cases hlt : a + k ≤ n
    · have hdl : decide ((a : Int) + (k : Int) ≤ (n : Int)) = true := by simp; omega
      go_wp2_with fail
      refine (rfree_any _ q ri rh n I H md a k h hlt).mono ?_
      rintro e w2 ⟨⟨b, rfl, hb⟩, hw2⟩
      have hw2' := hw2.symm
      clear hw2
      subst hw2'
      cases b
      · have hno : ∀ b, FreeAt I n k b → a + 1 ≤ b := fun b hb2 => by
          have h1 := Hmin.out b hb2
          by_cases e : b = a
          · subst e; exact absurd (hb.2 hb2) (by simp)
          · omega
        have Hno : Hid (∀ b, FreeAt I n k b → a + 1 ≤ b) := hno
        clear hno hb
        go_wp2_with fail
        go_round
        case rel => exact ⟨a + 1, by omega, by go_num, Hno.out⟩
        case measure => simp [intOf]; omega
      · have Hyes : Hid (FreeAt I n k a) := hb.1 rfl
        clear hb
        have hcm := h.c2
        have hfm := h.fq 2
        go_wp2_with fail
        go_loopw [8] (fun t wq => ∃ j : Nat, a ≤ j ∧ j ≤ a + k ∧ t = .int .i64 j ∧ RefAt wq q ri rh n (setTo I a j (md + 1)) (setTo H a j 0) (md + 1) ∧ Fr (RefS q ri rh) w wq) (fun t _ => a + k - (intOf t).toNat)
        case atStart => exact ⟨a, Nat.le_refl _, by omega, rfl, (h.setM (md + 1)).congr (setTo_start I a _) (setTo_start H a _), (Fr.refl (RefS q ri rh) w).setCell (p := ⟨q, 2, none⟩) (fun _ => .inl rfl) _⟩
        case round =>
          obtain ⟨j, hj1, hj2, rfl, hr, hF⟩ := hrel
          clear hcm hfm
          by_cases hjl : j < a + k
          · have hjn : j < n := by omega
            have r0 := hr.c0
            have r1 := hr.c1
            have r2 := hr.c2
            have ri_ := hr.ci j hjn
            have rh_ := hr.ch j hjn
            have f1 := hr.fi j
            have f2 := hr.fh j
            have n1 := h.qi
            have n2 := h.qh
            have n3 := h.ih
            have hset := ((hr.setI hjn (md + 1)).setH hjn 0).congr (setTo_step I (md + 1) hj1) (setTo_step H 0 hj1)
            have hFs := (hF.setCell (p := ⟨ri, j, none⟩) (fun _ => .inr (.inl rfl)) (.int .i64 (md + 1))).setCell (p := ⟨rh, j, none⟩) (fun _ => .inr (.inr rfl)) (.int .i64 0)
            have HE : Hid (RefAt ((wr.setCell ⟨ri, j, none⟩ (.int .i64 (md + 1))).setCell ⟨rh, j, none⟩ (.int .i64 0)) q ri rh n (setTo I a (j + 1) (md + 1)) (setTo H a (j + 1) 0) (md + 1) ∧ Fr (RefS q ri rh) w ((wr.setCell ⟨ri, j, none⟩ (.int .i64 (md + 1))).setCell ⟨rh, j, none⟩ (.int .i64 0))) := ⟨hset, hFs⟩
            clear hset hFs hr hF
            go_wp2
            go_region
            all_goals
              go_wp2
              go_roundw
              case rel => exact ⟨j + 1, by omega, by omega, by go_num, HE.out.1.no ((Fr.refl _ _).drew), HE.out.2.drew⟩
              case measure => simp [intOf]; omega
          · have hja : j = a + k := by omega
            subst hja
            go_wp2
            go_ret2
            exact .inl ⟨a, Hyes.out, Hmin.out, rfl, hr, hF⟩
    · go_wp2
      go_ret2
      exact .inr ⟨fun b hb => by have h1 := Hmin.out b hb; have h2 := hb.1; omega, rfl, rfl⟩
end Go.Proofs.YthcjcjfgdgnljaaGreatDoor

namespace Go.Proofs.YthcjcjfgdgnljaaGreatDoor
open Go.RowKit

theorem Fr.drewM {S : Nat → Prop} {a w : World} (h : Fr S a w) (n : Nat) : Fr S a (w.drewN n) := ⟨h.os, h.tape, h.output, h.size, h.block⟩

def clearEq (I : Nat → Int) (x : Int) (j : Nat) : Nat → Int := fun i => if i < j ∧ I i = x then 0 else I i
theorem clearEq_start (I : Nat → Int) (x : Int) {n : Nat} : ∀ i, i < n → clearEq I x 0 i = I i := fun i _ => by
  unfold clearEq; rw [if_neg (by omega)]
theorem clearEq_at (I : Nat → Int) (x : Int) (j : Nat) : clearEq I x j j = I j := by unfold clearEq; rw [if_neg (by omega)]
theorem clearEq_yes {I : Nat → Int} {x : Int} {j : Nat} (h : I j = x) {n : Nat} : ∀ i, i < n → clearEq I x (j + 1) i = upd (clearEq I x j) j 0 i := fun i _ => by
  unfold clearEq upd
  by_cases e : i = j
  · subst e; rw [if_pos ⟨by omega, h⟩, if_pos rfl]
  · rw [if_neg e]
    by_cases e2 : i < j ∧ I i = x
    · rw [if_pos ⟨by omega, e2.2⟩]; exact (if_pos e2).symm
    · rw [if_neg (fun g => e2 ⟨by omega, g.2⟩)]; exact (if_neg e2).symm
theorem clearEq_no {I : Nat → Int} {x : Int} {j : Nat} (h : I j ≠ x) {n : Nat} : ∀ i, i < n → clearEq I x (j + 1) i = clearEq I x j i := fun i _ => by
  unfold clearEq
  by_cases e : i = j
  · subst e; rw [if_neg (fun g => h g.2), if_neg (fun g => h g.2)]
  · by_cases e2 : i < j ∧ I i = x
    · rw [if_pos ⟨by omega, e2.2⟩, if_pos e2]
    · rw [if_neg (fun g => e2 ⟨by omega, g.2⟩), if_neg e2]

set_option maxHeartbeats 400000 in
theorem rfr_no (w : World) (q ri rh n : Nat) (I H : Nat → Int) (md a : Int) (h : RefAt w q ri rh n I H md) (ht : takenB I n a = false) :
    Calls Tryz.prog 53 #[.pointer (some ⟨q, 0, none⟩), .int .i64 a] w fun e w' => e = .returned (.int .i64 7) ∧ Fr NoB w w' := by
  go_enter Tryz.func53, Tryz.ntmps53
  go_wp2_with fail
  refine (rtaken_any _ q ri rh n I H md a h).mono ?_
  rintro e w1 ⟨rfl, hw⟩
  have hw2 := hw.symm
  clear hw
  subst hw2
  rw [ht]
  clear ht
  go_wp2_with fail
  go_quiet (fail)
  go_wp2
  go_ret
  exact ⟨rfl, (Fr.refl _ _).drewM _⟩

set_option maxHeartbeats 400000 in
theorem rfr_mid (w : World) (q ri rh n : Nat) (I H : Nat → Int) (md : Int) (k : Nat) (h : RefAt w q ri rh n I H md) (hk : k < n) (ht : I k ≠ 0) (hk0 : 0 < k) (hs : I (k - 1) = I k) :
    Calls Tryz.prog 53 #[.pointer (some ⟨q, 0, none⟩), .int .i64 (k : Int)] w fun e w' => e = .returned (.int .i64 7) ∧ Fr NoB w w' := by
  have hn := h.hi
  have hp := h.c0
  have hc := h.ci k hk
  have hc1 := h.ci (k - 1) (by omega)
  have hb : (I k != 0) = true := by simpa using ht
  have hs' : (I (k - 1) == I k) = true := by simpa using hs
  have hd : decide ((0 : Int) < (k : Int)) = true := by simp; omega
  clear hs ht
  go_enter Tryz.func53, Tryz.ntmps53
  go_wp2_with fail
  refine (rtaken_in _ q ri rh n I H md k h hk).mono ?_
  rintro e w1 ⟨rfl, hw⟩
  have hw2 := hw.symm
  clear hw
  subst hw2
  rw [hb]
  go_wp2_with fail
  go_quiet (fail)
  go_wp2
  go_ret
  exact ⟨rfl, (Fr.refl _ _).drewM _⟩

set_option maxHeartbeats 1000000 in
theorem rfr_yes (w : World) (q ri rh n : Nat) (I H : Nat → Int) (md : Int) (k : Nat) (h : RefAt w q ri rh n I H md) (hk : k < n) (ht : I k ≠ 0) (hs : k = 0 ∨ (0 < k ∧ I (k - 1) ≠ I k)) :
    Calls Tryz.prog 53 #[.pointer (some ⟨q, 0, none⟩), .int .i64 (k : Int)] w fun e w' => e = .returned (.int .i64 0) ∧ RefAt w' q ri rh n (clearEq I (I k) n) H md ∧ Fr (RefS q ri rh) w w' := by
  have hn := h.hi
  have hp := h.c0
  have hc := h.ci k hk
  have hb : (I k != 0) = true := by simpa using ht
  clear ht
  go_enter Tryz.func53, Tryz.ntmps53
  go_wp2_with fail
  refine (rtaken_in _ q ri rh n I H md k h hk).mono ?_
  rintro e w1 ⟨rfl, hw⟩
  have hw2 := hw.symm
  clear hw
  subst hw2
  rw [hb]
  clear hb
  go_upto_region 2 with fail
  go_cut [34] (fun s wx => s = .bool false ∧ Fr NoB w wx)
  case first =>
    rcases hs with hs | ⟨hk0, hs⟩
    · subst hs
      go_quiet (fail)
      go_wp2_with fail
      go_meet
      case rel => exact ⟨rfl, (Fr.refl _ _).drewM _⟩
    · have hc1 := h.ci (k - 1) (by omega)
      have hs' : (I (k - 1) == I k) = false := by simpa using hs
      have hd : decide ((0 : Int) < (k : Int)) = true := by simp; omega
      clear hs
      go_quiet (fail)
      go_wp2_with fail
      go_meet
      case rel => exact ⟨rfl, (Fr.refl _ _).drewM _⟩
  case rest =>
    obtain ⟨rfl, hF0⟩ := hcut
    have h1 := h.no hF0
    have hp1 := h1.c0
    have hc1 := h1.ci k hk
    clear hp hc hs
    obtain ⟨x, hx⟩ : ∃ x, x = I k := ⟨_, rfl⟩
    rw [← hx] at hc1
    have Hx : Hid (x = I k) := hx
    clear hx
    go_wp2_with fail
    go_loopw [7] (fun t wq => ∃ j : Nat, j ≤ n ∧ t = .int .i64 j ∧ RefAt wq q ri rh n (clearEq I x j) H md ∧ Fr (RefS q ri rh) w wq) (fun t _ => n - (intOf t).toNat)
    case atStart => exact ⟨0, Nat.zero_le _, rfl, h1.congr (clearEq_start I x) (fun _ _ => rfl), hF0.of_no⟩
    case round =>
      obtain ⟨j, hj, rfl, hr, hF⟩ := hrel
      clear hp1 hc1 h1 hF0
      have r0 := hr.c0
      by_cases hjl : j < n
      · have rc := hr.ci j hjl
        rw [clearEq_at] at rc
        have rf := hr.fi j
        by_cases hjx : I j = x
        · have hjb : (I j == x) = true := by simpa using hjx
          have HE : Hid (RefAt (wr.setCell ⟨ri, j, none⟩ (.int .i64 0)) q ri rh n (clearEq I x (j + 1)) H md ∧ Fr (RefS q ri rh) w (wr.setCell ⟨ri, j, none⟩ (.int .i64 0))) :=
            ⟨(hr.setI hjl 0).congr (clearEq_yes hjx) (fun _ _ => rfl), hF.setCell (p := ⟨ri, j, none⟩) (fun _ => .inr (.inl rfl)) _⟩
          clear hjx hr hF
          go_wp2
          go_roundw
          case rel => exact ⟨j + 1, by omega, by go_num, HE.out⟩
          case measure => simp [intOf]; omega
        · have hjb : (I j == x) = false := by simpa using hjx
          have HE : Hid (RefAt wr q ri rh n (clearEq I x (j + 1)) H md ∧ Fr (RefS q ri rh) w wr) := ⟨hr.congr (clearEq_no hjx) (fun _ _ => rfl), hF⟩
          clear hjx hr hF
          go_wp2
          go_roundw
          case rel => exact ⟨j + 1, by omega, by go_num, HE.out⟩
          case measure => simp [intOf]; omega
      · have hje : j = n := by omega
        subst hje
        go_wp2
        go_ret
        exact ⟨rfl, by rw [← Hx.out]; exact hr, hF⟩

theorem skip_runs {I : Nat → Int} {n i : Nat} (h : n ≤ i ∨ I i ≠ 0) {M : List (Nat × Nat)} (hM : IsRuns I n (i + 1) M) : IsRuns I n i M := by
  cases M with
  | nil =>
    intro j h1 h2
    by_cases e : j = i
    · subst e; rcases h with h | h
      · omega
      · exact h
    · exact hM j (by omega) h2
  | cons s t =>
    obtain ⟨a, l⟩ := s
    obtain ⟨h1, h2, h3, h4, h5, h6, h7⟩ := hM
    refine ⟨by omega, h2, h3, fun j g1 g2 => ?_, h5, h6, h7⟩
    by_cases e : j = i
    · subst e; rcases h with h | h
      · omega
      · exact h
    · exact h4 j (by omega) g2
theorem close_run {I : Nat → Int} {n f i : Nat} {L : List (Nat × Nat)} (hi : i ≤ n) (hlt : f < i) (hfree : ∀ j, f ≤ j → j < i → I j = 0) (hstop : n ≤ i ∨ I i ≠ 0)
    (hL : ∀ M, IsRuns I n f M → IsRuns I n 0 (L ++ M)) : ∀ M, IsRuns I n (i + 1) M → IsRuns I n 0 ((L ++ [(f, i - f)]) ++ M) := fun M hM => by
  rw [List.append_assoc]
  apply hL
  have e : f + (i - f) = i := by omega
  refine ⟨Nat.le_refl _, by omega, by omega, fun j h1 h2 => absurd h2 (by omega), fun j h1 h2 => hfree j h1 (by omega), ?_, ?_⟩
  · rw [e]; rcases hstop with h | h
    · exact .inl (by omega)
    · exact .inr h
  · rw [e]; exact skip_runs hstop hM

set_option maxHeartbeats 1000000 in
theorem rruns_any (w : World) (q ri rh n : Nat) (I H : Nat → Int) (md : Int) (h : RefAt w q ri rh n I H md) :
    Calls Tryz.prog 99 #[.pointer (some ⟨q, 0, none⟩)] w fun e w' =>
      ∃ v L, e = .returned v ∧ IsRuns I n 0 L ∧ w'.ownsRow w.heap.size 82 2 v L.length (spanCells L) ∧ Fr NoB w w' := by
  have hn := h.hi
  obtain ⟨i0, hi0, hz0, hz1, hz2⟩ := info_parts Tryz.infoSpan
  go_enter Tryz.func99, Tryz.ntmps99
  go_wp2_with fail
  go_loopw [3, 4, 5] (fun t u s wr => ∃ (f i : Nat) (L : List (Nat × Nat)), i ≤ n + 1 ∧ f ≤ i ∧ (i ≤ n ∨ f = i) ∧ u = .int .i64 f ∧ s = .int .i64 i ∧ (∀ j, f ≤ j → j < i → I j = 0) ∧ (∀ M, IsRuns I n f M → IsRuns I n 0 (L ++ M)) ∧ L.length ≤ f ∧
      wr.ownsRow w.heap.size 82 2 t L.length (spanCells L) ∧ Fr NoB w wr) (fun _ _ s _ => n + 1 - (intOf s).toNat)
  case atStart => exact ⟨0, 0, [], by omega, Nat.le_refl _, .inl (Nat.zero_le _), rfl, rfl, fun j h1 h2 => absurd h2 (by omega), fun M hM => hM, Nat.le_refl _, World.ownsRow_nil _ _ _ _, Fr.refl _ _⟩
  case round =>
    obtain ⟨f, i, L, hi1, hi2, hi3, rfl, rfl, hfree, hL, hLl, hown, hF⟩ := hrel
    have Hfree : Hid (∀ j, f ≤ j → j < i → I j = 0) := hfree
    have HL : Hid (∀ M, IsRuns I n f M → IsRuns I n 0 (L ++ M)) := hL
    have hr := h.no hF
    have r0 := hr.c0
    clear hfree hL
    by_cases hin : i ≤ n
    · by_cases hgo : i < n ∧ I i = 0
      · obtain ⟨hlt, hz⟩ := hgo
        have rc := hr.ci i hlt
        have hzb : (I i == 0) = true := by simpa using hz
        have Hz : Hid (I i = 0) := hz
        clear hz hr hi3
        go_wp2
        go_roundw
        case rel => exact ⟨f, i + 1, L, by omega, by omega, .inl (by omega), rfl, by go_num, grow_eq Hfree.out Hz.out, HL.out, hLl, hown, hF⟩
        case measure => simp [intOf]; omega
      · have Hstop : Hid (n ≤ i ∨ I i ≠ 0) := by
          by_cases e : n ≤ i
          · exact .inl e
          · exact .inr (fun hz => hgo ⟨by omega, hz⟩)
        have rc : i < n → wr.cell? ⟨ri, i, none⟩ = some (.int .i64 (I i)) := hr.ci i
        have hzb : i < n → (I i == 0) = false := fun hlt => by
          rcases Hstop.out with h | h
          · omega
          · simpa using h
        clear hgo hr hi3
        by_cases hfi : f < i
        · have HC : Hid (∀ M, IsRuns I n (i + 1) M → IsRuns I n 0 ((L ++ [(f, i - f)]) ++ M)) := close_run hin hfi Hfree.out Hstop.out HL.out
          have hsz := hF.size
          by_cases hlt : i < n
          all_goals
            go_wp2_with (at_builtin; refine wpList_append_own _ rfl _ _ 67 rfl w.heap.size 82 i0 (.agg #[.int .i64 0, .int .i64 0]) 2 16 Tryz.underlying67 hi0 hz0 hz1 hz2 rfl (by decide) _ _ _ rfl (hown.alloc _) ⟨wr.heap.size, 0, none⟩ 1 1 [.int .i64 (f : Int), .int .i64 ((i : Int) - (f : Int))] rfl rfl ?_ ?_ ?_ ?_ ?_ ?_)
            · intro j u hj
              match j, hj with
              | 0, hj => simp at hj; subst hj; simp [Addr.add]
              | 1, hj => simp at hj; subst hj; simp [Addr.add]
            · intro u hu; simp at hu; rcases hu with rfl | rfl <;> rfl
            · unfold maxLen; omega
            · omega
            · simp; omega
            intro v' w2 hown' hgrow _
            have hlt2 := hown.lt
            have hF2 : Fr NoB w w2 := (hF.alloc _).then (Fr.of_grown (S := fun q => u3.ownBlock = some q) hgrow (fun k _ e => e)) (fun q hq e => by have := (hlt2 q e).1; omega)
            clear hgrow hown hlt2
            go_wp2
            go_roundw
            case rel =>
              refine ⟨i + 1, i + 1, L ++ [(f, i - f)], by omega, Nat.le_refl _, .inr rfl, by go_num, by go_num, fun j h1 h2 => absurd h2 (by omega), HC.out, by simp; omega, ?_, hF2⟩
              rw [spanCells_snoc, List.length_append, show ((i - f : Nat) : Int) = (i : Int) - (f : Int) from by omega]
              exact hown'
            case measure => simp [intOf]; omega
        · have hfe : f = i := by omega
          have HC : Hid (∀ M, IsRuns I n (i + 1) M → IsRuns I n 0 (L ++ M)) := fun M hM => HL.out M (by rw [hfe]; exact skip_runs Hstop.out hM)
          clear hfe
          by_cases hlt : i < n
          all_goals
            go_wp2
            go_roundw
            case rel => exact ⟨i + 1, i + 1, L, by omega, Nat.le_refl _, .inr rfl, by go_num, by go_num, fun j h1 h2 => absurd h2 (by omega), HC.out, by omega, hown, hF⟩
            case measure => simp [intOf]; omega
    · have hfi : f = n + 1 := by omega
      have Hend : Hid (IsRuns I n 0 L) := by
        have := HL.out [] (by intro j h1 h2; omega)
        show IsRuns I n 0 L
        simpa using this
      clear hr hi3 hfi
      go_wp2
      go_ret
      exact ⟨_, L, rfl, Hend.out, hown, hF⟩

theorem Tryz.infoIntR : (Tryz.prog.info? 3).map (fun i => (i.zero, i.size, i.bytes)) = some (some (.int .i64 0), 1, 8) := by kernel_rfl
theorem made_oneR (n j : Nat) (h : j < n) : (madeCells #[Value.int .i64 0] n)[j]? = some (.int .i64 0) := by
  unfold madeCells
  simp [h, Nat.mod_one]
theorem ints_madeR (n : Nat) (hn : n ≤ 4096) : ∃ C : Array Value, (∀ j, j < n → C[j]? = some (.int .i64 0)) ∧
    ∀ u : World, (Instr.makeSlice 52 (.int .i64 (n : Int)) (.int .i64 (n : Int))).run Tryz.prog u = .ok (.slice (some ⟨u.heap.size, 0, none⟩) n n) (u.alloc (.cells C 3)) := by
  obtain ⟨i0, hi, hz0, hz1, hz2⟩ := info_parts Tryz.infoIntR
  refine ⟨madeCells #[Value.int .i64 0] n, fun j hj => made_oneR _ _ hj, fun u => ?_⟩
  have h := run_make (P := Tryz.prog) u 52 3 i0 (.int .i64 0) Tryz.underlying52 hi hz0 .i64 .i64 (n : Int) (n : Int) (by omega) (Int.le_refl _) (by rw [hz2]; omega) (by omega)
  simpa [hz1, Value.cells] using h

set_option maxHeartbeats 400000 in
theorem rfits_no (w : World) (a : Int) (ha : a < 1 ∨ 4096 < a) :
    Calls Tryz.prog 46 #[.int .i64 a] w fun e w' => e = .returned (.bool false) ∧ w' = w := by
  rcases ha with ha | ha
  · go_enter Tryz.func46, Tryz.ntmps46
    go_wp2
    go_ret
    exact ⟨rfl, rfl⟩
  · have h1 : (1 : Int) ≤ a := by omega
    have h2 : decide (a ≤ 4096) = false := by simp; omega
    go_enter Tryz.func46, Tryz.ntmps46
    go_wp2
    go_ret
    exact ⟨rfl, rfl⟩
set_option maxHeartbeats 400000 in
theorem rfits_yes (w : World) (a : Int) (h1 : 1 ≤ a) (h2 : a ≤ 4096) :
    Calls Tryz.prog 46 #[.int .i64 a] w fun e w' => e = .returned (.bool true) ∧ w' = w := by
  have h3 : decide (a ≤ 4096) = true := by simp; omega
  go_enter Tryz.func46, Tryz.ntmps46
  go_wp2
  go_ret
  exact ⟨rfl, rfl⟩

set_option maxHeartbeats 400000 in
theorem rnew_no (w : World) (a : Int) (ha : a < 1 ∨ 4096 < a) :
    Calls Tryz.prog 23 #[.int .i64 a] w fun e w' => e = .returned (.tuple #[.pointer none, .int .i64 5]) ∧ w' = w := by
  go_enter Tryz.func23, Tryz.ntmps23
  go_wp2_with (go_at_call 46; refine (rfits_no _ a ha).mono ?_; rintro e w1 ⟨rfl, rfl⟩)
  go_ret2
  exact ⟨rfl, rfl⟩

theorem refAt_new {w : World} {C : Array Value} {n : Nat} (h1 : 1 ≤ n) (h2 : n ≤ 4096) (hC : ∀ j, j < n → C[j]? = some (.int .i64 0)) {ri rh : Nat} {w' : World}
    (hw : w' = ((w.alloc (.cells C 3)).alloc (.cells C 3)).alloc (.cells #[.slice (some ⟨ri, 0, none⟩) n n, .slice (some ⟨rh, 0, none⟩) n n, .int .i64 0] 109))
    (hr : (ri = w.heap.size ∧ rh = w.heap.size + 1) ∨ (ri = w.heap.size + 1 ∧ rh = w.heap.size)) : RefAt w' (w.heap.size + 2) ri rh n (fun _ => 0) (fun _ => 0) 0 ∧ Fr NoB w w' ∧ w.heap.size ≤ ri ∧ w.heap.size ≤ rh := by
  subst hw
  have ha : ∀ j, j < n → (((w.alloc (.cells C 3)).alloc (.cells C 3)).alloc (.cells #[.slice (some ⟨ri, 0, none⟩) n n, .slice (some ⟨rh, 0, none⟩) n n, .int .i64 0] 109)).cell? ⟨w.heap.size, j, none⟩ = some (.int .i64 0) := fun j hj => by
    rw [World.cell?_alloc_past _ _ _ (by simp; omega), World.cell?_alloc_past _ _ _ (by simp), World.cell?_alloc_at _ _ _ _ rfl]; exact hC j hj
  have hb : ∀ j, j < n → (((w.alloc (.cells C 3)).alloc (.cells C 3)).alloc (.cells #[.slice (some ⟨ri, 0, none⟩) n n, .slice (some ⟨rh, 0, none⟩) n n, .int .i64 0] 109)).cell? ⟨w.heap.size + 1, j, none⟩ = some (.int .i64 0) := fun j hj => by
    rw [World.cell?_alloc_past _ _ _ (by simp), World.cell?_alloc_at _ _ _ _ (by simp)]; exact hC j hj
  have fa : ∀ j, (((w.alloc (.cells C 3)).alloc (.cells C 3)).alloc (.cells #[.slice (some ⟨ri, 0, none⟩) n n, .slice (some ⟨rh, 0, none⟩) n n, .int .i64 0] 109)).frozen? ⟨w.heap.size, j, none⟩ = false := fun j => by
    rw [World.frozen?_alloc_past _ _ _ (by simp; omega), World.frozen?_alloc_past _ _ _ (by simp), World.frozen?_alloc_at _ _ _ _ rfl]
  have fb : ∀ j, (((w.alloc (.cells C 3)).alloc (.cells C 3)).alloc (.cells #[.slice (some ⟨ri, 0, none⟩) n n, .slice (some ⟨rh, 0, none⟩) n n, .int .i64 0] 109)).frozen? ⟨w.heap.size + 1, j, none⟩ = false := fun j => by
    rw [World.frozen?_alloc_past _ _ _ (by simp), World.frozen?_alloc_at _ _ _ _ (by simp)]
  refine ⟨?_, (((Fr.refl _ _).alloc _).alloc _).alloc _, by omega, by omega⟩
  refine ⟨h1, h2, by omega, by omega, by omega, ?_, ?_, ?_, ?_, ?_, ?_, ?_, ?_⟩
  · rw [World.cell?_alloc_at _ _ _ _ (by simp)]; rfl
  · rw [World.cell?_alloc_at _ _ _ _ (by simp)]; rfl
  · rw [World.cell?_alloc_at _ _ _ _ (by simp)]; rfl
  · intro i hi; rcases hr with ⟨rfl, rfl⟩ | ⟨rfl, rfl⟩
    · exact ha i hi
    · exact hb i hi
  · intro i hi; rcases hr with ⟨rfl, rfl⟩ | ⟨rfl, rfl⟩
    · exact hb i hi
    · exact ha i hi
  · intro o; rw [World.frozen?_alloc_at _ _ _ _ (by simp)]
  · intro o; rcases hr with ⟨rfl, rfl⟩ | ⟨rfl, rfl⟩
    · exact fa o
    · exact fb o
  · intro o; rcases hr with ⟨rfl, rfl⟩ | ⟨rfl, rfl⟩
    · exact fb o
    · exact fa o

set_option maxHeartbeats 1000000 in
theorem rnew_yes (w : World) (n : Nat) (h1 : 1 ≤ n) (h2 : n ≤ 4096) :
    Calls Tryz.prog 23 #[.int .i64 (n : Int)] w fun e w' => ∃ q ri rh, e = .returned (.tuple #[.pointer (some ⟨q, 0, none⟩), .int .i64 0]) ∧ Fr NoB w w' ∧
      w.heap.size ≤ q ∧ w.heap.size ≤ ri ∧ w.heap.size ≤ rh ∧ RefAt w' q ri rh n (fun _ => 0) (fun _ => 0) 0 := by
  obtain ⟨C, hC, hmk⟩ := ints_madeR n h2
  have HC : Hid (∀ j, j < n → C[j]? = some (.int .i64 0)) := hC
  clear hC
  go_enter Tryz.func23, Tryz.ntmps23
  go_wp2_with (go_at_call 46; refine (rfits_yes _ n (by omega) (by omega)).mono ?_; rintro e w1 ⟨rfl, rfl⟩)
  go_region
  all_goals
    go_wp2
    go_ret2
  · obtain ⟨hR, hF, g1, g2⟩ := refAt_new (w := w1) h1 h2 HC.out rfl (.inl ⟨rfl, rfl⟩)
    exact ⟨_, _, _, rfl, hF.drew, by omega, g1, g2, hR.no (Fr.refl _ _).drew⟩
  · obtain ⟨hR, hF, g1, g2⟩ := refAt_new (w := w1) h1 h2 HC.out rfl (.inr ⟨rfl, rfl⟩)
    exact ⟨_, _, _, rfl, hF.drew, by omega, g1, g2, hR.no (Fr.refl _ _).drew⟩
end Go.Proofs.YthcjcjfgdgnljaaGreatDoor
