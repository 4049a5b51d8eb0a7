/-
  The document's heap, in memory, and what its methods do.
-/
import Derived.Test.YtcmnejcojphijaaGreatDoorNew
import Derived.Deep.QuietTactic
import Derived.BigQuiet
import Derived.Deep.RegionWith
import Derived.Deep.DeepCutAuto
namespace Go.Proofs.YtcmnejcojphijaaGreatDoor
open Go.RowKit

structure RefAt (w : World) (q ri rh n : Nat) (I H : Nat → Int) (md : Int) : Prop where
  lo : 1 ≤ n
  hi : n ≤ 4096
  qi : q ≠ ri
  qh : q ≠ rh
  ih : ri ≠ rh
  c0 : w.cell? ⟨q, 0, none⟩ = some (.slice (some ⟨ri, 0, none⟩) n n)
  c1 : w.cell? ⟨q, 1, none⟩ = some (.slice (some ⟨rh, 0, none⟩) n n)
  c2 : w.cell? ⟨q, 2, none⟩ = some (.int .i64 md)
  ci : ∀ i, i < n → w.cell? ⟨ri, i, none⟩ = some (.int .i64 (I i))
  ch : ∀ i, i < n → w.cell? ⟨rh, i, none⟩ = some (.int .i64 (H i))
  fq : ∀ o, w.frozen? ⟨q, o, none⟩ = false
  fi : ∀ o, w.frozen? ⟨ri, o, none⟩ = false
  fh : ∀ o, w.frozen? ⟨rh, o, none⟩ = false

def RefS (q ri rh : Nat) : Nat → Prop := fun k => k = q ∨ k = ri ∨ k = rh

theorem RefAt.ql {w : World} {q ri rh n : Nat} {I H : Nat → Int} {md : Int} (h : RefAt w q ri rh n I H md) : q < w.heap.size := World.block_lt_of_cell? w _ h.c0
theorem RefAt.il {w : World} {q ri rh n : Nat} {I H : Nat → Int} {md : Int} (h : RefAt w q ri rh n I H md) : ri < w.heap.size := World.block_lt_of_cell? w _ (h.ci 0 (by have := h.lo; omega))
theorem RefAt.hl {w : World} {q ri rh n : Nat} {I H : Nat → Int} {md : Int} (h : RefAt w q ri rh n I H md) : rh < w.heap.size := World.block_lt_of_cell? w _ (h.ch 0 (by have := h.lo; omega))
theorem RefAt.fr {S : Nat → Prop} {w w' : World} {q ri rh n : Nat} {I H : Nat → Int} {md : Int} (h : RefAt w q ri rh n I H md) (hf : Fr S w w') (h1 : ¬ S q) (h2 : ¬ S ri) (h3 : ¬ S rh) : RefAt w' q ri rh n I H md :=
  ⟨h.lo, h.hi, h.qi, h.qh, h.ih, hf.cell_some h.c0 h1, hf.cell_some h.c1 h1, hf.cell_some h.c2 h1, fun i hi => hf.cell_some (h.ci i hi) h2, fun i hi => hf.cell_some (h.ch i hi) h3,
    fun o => (hf.frozen (p := ⟨q, o, none⟩) h.ql h1).trans (h.fq o), fun o => (hf.frozen (p := ⟨ri, o, none⟩) h.il h2).trans (h.fi o), fun o => (hf.frozen (p := ⟨rh, o, none⟩) h.hl h3).trans (h.fh o)⟩
theorem RefAt.no {w w' : World} {q ri rh n : Nat} {I H : Nat → Int} {md : Int} (h : RefAt w q ri rh n I H md) (hf : Fr NoB w w') : RefAt w' q ri rh n I H md := h.fr hf id id id
theorem RefAt.congr {w : World} {q ri rh n : Nat} {I H I' H' : Nat → Int} {md : Int} (h : RefAt w q ri rh n I H md) (hi : ∀ i, i < n → I' i = I i) (hh : ∀ i, i < n → H' i = H i) : RefAt w q ri rh n I' H' md :=
  ⟨h.lo, h.hi, h.qi, h.qh, h.ih, h.c0, h.c1, h.c2, fun i hl => by rw [hi i hl]; exact h.ci i hl, fun i hl => by rw [hh i hl]; exact h.ch i hl, h.fq, h.fi, h.fh⟩
theorem RefAt.setI {w : World} {q ri rh n : Nat} {I H : Nat → Int} {md : Int} (h : RefAt w q ri rh n I H md) {k : Nat} (hk : k < n) (u : Int) : RefAt (w.setCell ⟨ri, k, none⟩ (.int .i64 u)) q ri rh n (upd I k u) H md :=
  ⟨h.lo, h.hi, h.qi, h.qh, h.ih, (cell_other (.inl (Ne.symm h.qi))).trans h.c0, (cell_other (.inl (Ne.symm h.qi))).trans h.c1, (cell_other (.inl (Ne.symm h.qi))).trans h.c2,
    fun i hi => by
      by_cases e : i = k
      · subst e; rw [upd_at]; exact cell_same (h.ci i hi)
      · rw [upd_ne _ _ e]; exact (cell_other (.inr (by omega))).trans (h.ci i hi),
    fun i hi => (cell_other (.inl h.ih)).trans (h.ch i hi),
    fun o => by rw [World.frozen?_setCell]; exact h.fq o, fun o => by rw [World.frozen?_setCell]; exact h.fi o, fun o => by rw [World.frozen?_setCell]; exact h.fh o⟩
theorem RefAt.setH {w : World} {q ri rh n : Nat} {I H : Nat → Int} {md : Int} (h : RefAt w q ri rh n I H md) {k : Nat} (hk : k < n) (u : Int) : RefAt (w.setCell ⟨rh, k, none⟩ (.int .i64 u)) q ri rh n I (upd H k u) md :=
  ⟨h.lo, h.hi, h.qi, h.qh, h.ih, (cell_other (.inl (Ne.symm h.qh))).trans h.c0, (cell_other (.inl (Ne.symm h.qh))).trans h.c1, (cell_other (.inl (Ne.symm h.qh))).trans h.c2,
    fun i hi => (cell_other (.inl (Ne.symm h.ih))).trans (h.ci i hi),
    fun i hi => by
      by_cases e : i = k
      · subst e; rw [upd_at]; exact cell_same (h.ch i hi)
      · rw [upd_ne _ _ e]; exact (cell_other (.inr (by omega))).trans (h.ch i hi),
    fun o => by rw [World.frozen?_setCell]; exact h.fq o, fun o => by rw [World.frozen?_setCell]; exact h.fi o, fun o => by rw [World.frozen?_setCell]; exact h.fh o⟩
theorem RefAt.setM {w : World} {q ri rh n : Nat} {I H : Nat → Int} {md : Int} (h : RefAt w q ri rh n I H md) (u : Int) : RefAt (w.setCell ⟨q, 2, none⟩ (.int .i64 u)) q ri rh n I H u :=
  ⟨h.lo, h.hi, h.qi, h.qh, h.ih, (cell_other (.inr (by omega))).trans h.c0, (cell_other (.inr (by omega))).trans h.c1, cell_same h.c2,
    fun i hi => (cell_other (.inl h.qi)).trans (h.ci i hi), fun i hi => (cell_other (.inl h.qh)).trans (h.ch i hi),
    fun o => by rw [World.frozen?_setCell]; exact h.fq o, fun o => by rw [World.frozen?_setCell]; exact h.fi o, fun o => by rw [World.frozen?_setCell]; exact h.fh o⟩

set_option maxHeartbeats 400000 in
theorem rtaken_any (w : World) (q ri rh n : Nat) (I H : Nat → Int) (md a : Int) (h : RefAt w q ri rh n I H md) :
    Calls Tryz.prog 95 #[.pointer (some ⟨q, 0, none⟩), .int .i64 a] w fun e w' => e = .returned (.bool (takenB I n a)) ∧ w' = w := by
  have hn := h.hi
  have hp := h.c0
  by_cases h0 : 0 ≤ a
  · obtain ⟨k, rfl⟩ := Int.eq_ofNat_of_zero_le h0
    by_cases h1 : k < n
    · have hc := h.ci k h1
      clear h
      go_enter Tryz.func95, Tryz.ntmps95
      go_wp2
      go_ret
      exact ⟨ret_bool (takenB_in h1).symm, rfl⟩
    · clear h
      go_enter Tryz.func95, Tryz.ntmps95
      go_wp2
      go_ret
      exact ⟨ret_bool (takenB_hi h1).symm, rfl⟩
  · clear h
    go_enter Tryz.func95, Tryz.ntmps95
    go_wp2
    go_ret
    exact ⟨ret_bool (takenB_neg (by omega)).symm, rfl⟩
theorem rtaken_in (w : World) (q ri rh n : Nat) (I H : Nat → Int) (md : Int) (k : Nat) (h : RefAt w q ri rh n I H md) (hk : k < n) :
    Calls Tryz.prog 95 #[.pointer (some ⟨q, 0, none⟩), .int .i64 (k : Int)] w fun e w' => e = .returned (.bool (I k != 0)) ∧ w' = w := by
  have := rtaken_any w q ri rh n I H md k h
  rwa [takenB_in hk] at this

set_option maxHeartbeats 400000 in
theorem rload_no (w : World) (q ri rh n : Nat) (I H : Nat → Int) (md a : Int) (h : RefAt w q ri rh n I H md) (ht : takenB I n a = false) :
    Calls Tryz.prog 55 #[.pointer (some ⟨q, 0, none⟩), .int .i64 a] w fun e w' => e = .returned (.tuple #[.int .i64 0, .int .i64 7]) ∧ w' = w := by
  go_enter Tryz.func55, Tryz.ntmps55
  go_wp2_with (go_at_call 95; refine (rtaken_any _ q ri rh n I H md a h).mono ?_; rintro e w' ⟨rfl, rfl⟩; rw [ht])
  go_ret2
  exact ⟨rfl, rfl⟩
set_option maxHeartbeats 400000 in
theorem rload_yes (w : World) (q ri rh n : Nat) (I H : Nat → Int) (md : Int) (k : Nat) (h : RefAt w q ri rh n I H md) (hk : k < n) (ht : I k ≠ 0) :
    Calls Tryz.prog 55 #[.pointer (some ⟨q, 0, none⟩), .int .i64 (k : Int)] w fun e w' => e = .returned (.tuple #[.int .i64 (H k), .int .i64 0]) ∧ w' = w := by
  have hn := h.hi
  have hp := h.c1
  have hc := h.ch k hk
  have hb : (I k != 0) = true := by simpa using ht
  go_enter Tryz.func55, Tryz.ntmps55
  go_wp2_with (go_at_call 95; refine (rtaken_in _ q ri rh n I H md k h hk).mono ?_; rintro e w' ⟨rfl, rfl⟩; rw [hb])
  go_ret2
  exact ⟨rfl, rfl⟩
set_option maxHeartbeats 400000 in
theorem rstore_no (w : World) (q ri rh n : Nat) (I H : Nat → Int) (md a u : Int) (h : RefAt w q ri rh n I H md) (ht : takenB I n a = false) :
    Calls Tryz.prog 57 #[.pointer (some ⟨q, 0, none⟩), .int .i64 a, .int .i64 u] w fun e w' => e = .returned (.int .i64 7) ∧ w' = w := by
  go_enter Tryz.func57, Tryz.ntmps57
  go_wp2_with (go_at_call 95; refine (rtaken_any _ q ri rh n I H md a h).mono ?_; rintro e w' ⟨rfl, rfl⟩; rw [ht])
  go_ret
  exact ⟨rfl, rfl⟩
set_option maxHeartbeats 400000 in
theorem rstore_arg (w : World) (q ri rh n : Nat) (I H : Nat → Int) (md : Int) (k : Nat) (u : Int) (h : RefAt w q ri rh n I H md) (hk : k < n) (ht : I k ≠ 0) (hu : u < 0 ∨ 1000 ≤ u) :
    Calls Tryz.prog 57 #[.pointer (some ⟨q, 0, none⟩), .int .i64 (k : Int), .int .i64 u] w fun e w' => e = .returned (.int .i64 5) ∧ w' = w := by
  have hb : (I k != 0) = true := by simpa using ht
  rcases hu with hu | hu
  · go_enter Tryz.func57, Tryz.ntmps57
    go_wp2_with (go_at_call 95; refine (rtaken_in _ q ri rh n I H md k h hk).mono ?_; rintro e w' ⟨rfl, rfl⟩; rw [hb])
    go_ret
    exact ⟨rfl, rfl⟩
  · have hu0 : ¬ u < 0 := by omega
    go_enter Tryz.func57, Tryz.ntmps57
    go_wp2_with (go_at_call 95; refine (rtaken_in _ q ri rh n I H md k h hk).mono ?_; rintro e w' ⟨rfl, rfl⟩; rw [hb])
    go_ret
    exact ⟨rfl, rfl⟩
set_option maxHeartbeats 400000 in
theorem rstore_yes (w : World) (q ri rh n : Nat) (I H : Nat → Int) (md : Int) (k : Nat) (u : Int) (h : RefAt w q ri rh n I H md) (hk : k < n) (ht : I k ≠ 0) (hu0 : 0 ≤ u) (hu1 : u < 1000) :
    Calls Tryz.prog 57 #[.pointer (some ⟨q, 0, none⟩), .int .i64 (k : Int), .int .i64 u] w fun e w' => e = .returned (.int .i64 0) ∧ RefAt w' q ri rh n I (upd H k u) md ∧ Fr (RefS q ri rh) w w' := by
  have hn := h.hi
  have hp := h.c1
  have hc := h.ch k hk
  have hf := h.fh k
  have hb : (I k != 0) = true := by simpa using ht
  have HE : Hid (RefAt (w.setCell ⟨rh, k, none⟩ (.int .i64 u)) q ri rh n I (upd H k u) md ∧ Fr (RefS q ri rh) w (w.setCell ⟨rh, k, none⟩ (.int .i64 u))) :=
    ⟨h.setH hk u, (Fr.refl (RefS q ri rh) w).setCell (p := ⟨rh, k, none⟩) (fun _ => .inr (.inr rfl)) _⟩
  go_enter Tryz.func57, Tryz.ntmps57
  go_wp2_with (go_at_call 95; refine (rtaken_in _ q ri rh n I H md k h hk).mono ?_; rintro e w' ⟨rfl, rfl⟩; rw [hb])
  go_ret
  exact ⟨rfl, HE.out⟩


set_option maxHeartbeats 1000000 in
theorem rfree_any (w : World) (q ri rh n : Nat) (I H : Nat → Int) (md : Int) (a k : Nat) (h : RefAt w q ri rh n I H md) (hak : a + k ≤ n) :
    Calls Tryz.prog 93 #[.pointer (some ⟨q, 0, none⟩), .int .i64 (a : Int), .int .i64 (k : Int)] w fun e w' => Says (FreeAt I n k a) e ∧ w' = w := by
  have hn := h.hi
  have hp := h.c0
  go_enter Tryz.func93, Tryz.ntmps93
  go_wp2
  go_loop [7] (fun t => ∃ i : Nat, a ≤ i ∧ i ≤ a + k ∧ t = .int .i64 i ∧ (∀ j, a ≤ j → j < i → I j = 0)) (fun t => a + k - (intOf t).toNat)
  case atStart => exact ⟨a, Nat.le_refl _, by omega, rfl, fun j h1 h2 => absurd h2 (by omega)⟩
  case round =>
    obtain ⟨i, hi1, hi2, rfl, hall⟩ := hrel
    have Hall : Hid (∀ j, a ≤ j → j < i → I j = 0) := hall
    clear hall
    by_cases hlt : i < a + k
    · have hc := h.ci i (by omega)
      by_cases hz : I i = 0
      · have hzb : (I i != 0) = false := by simpa using hz
        have Hz : Hid (I i = 0) := hz
        clear hz
        go_wp2
        go_round
        case rel => exact ⟨i + 1, by omega, by omega, by go_num, grow_eq Hall.out Hz.out⟩
        case measure => simp [intOf]; omega
      · have hzb : (I i != 0) = true := by simpa using hz
        have Hz : Hid (I i ≠ 0) := hz
        clear hz
        go_wp2
        go_ret
        exact ⟨⟨false, rfl, ⟨fun e => absurd e (by simp), fun e => absurd (e.2 i hi1 hlt) Hz.out⟩⟩, rfl⟩
    · have hie : i = a + k := by omega
      subst hie
      go_wp2
      go_ret
      exact ⟨⟨true, rfl, ⟨fun _ => ⟨hak, Hall.out⟩, fun _ => rfl⟩⟩, rfl⟩

set_option maxHeartbeats 400000 in
theorem ralloc_arg (w : World) (p : Nat) (k : Int) (hk : k < 1 ∨ 64 < k) :
    Calls Tryz.prog 51 #[.pointer (some ⟨p, 0, none⟩), .int .i64 k] w fun e w' => e = .returned (.tuple #[.int .i64 0, .int .i64 5]) ∧ w' = w := by
  rcases hk with hk | hk
  · go_enter Tryz.func51, Tryz.ntmps51
    go_wp2
    go_ret2
    exact ⟨rfl, rfl⟩
  · have hk0 : ¬ k < 1 := by omega
    go_enter Tryz.func51, Tryz.ntmps51
    go_wp2
    go_ret2
    exact ⟨rfl, rfl⟩

def setTo (f : Nat → Int) (a j : Nat) (v : Int) : Nat → Int := fun i => if a ≤ i ∧ i < j then v else f i
theorem setTo_start (f : Nat → Int) (a : Nat) (v : Int) {n : Nat} : ∀ i, i < n → setTo f a a v i = f i := fun i _ => by
  unfold setTo; rw [if_neg (by omega)]
theorem setTo_step (f : Nat → Int) {a j : Nat} (v : Int) (h : a ≤ j) {n : Nat} : ∀ i, i < n → setTo f a (j + 1) v i = upd (setTo f a j v) j v i := fun i _ => by
  unfold setTo upd
  by_cases e : i = j
  · subst e; rw [if_pos (by omega), if_pos rfl]
  · rw [if_neg e]
    by_cases e2 : a ≤ i ∧ i < j
    · rw [if_pos (by omega)]; exact (if_pos e2).symm
    · rw [if_neg (by omega)]; exact (if_neg e2).symm

set_option maxHeartbeats 1000000 in
theorem ralloc_any (w : World) (q ri rh n : Nat) (I H : Nat → Int) (md : Int) (k : Nat) (h : RefAt w q ri rh n I H md) (hk1 : 1 ≤ k) (hk2 : k ≤ 64) (hmd0 : 0 ≤ md) (hmd : md < 9223372036854775807) :
    Calls Tryz.prog 51 #[.pointer (some ⟨q, 0, none⟩), .int .i64 (k : Int)] w fun e w' =>
      (∃ a : Nat, FreeAt I n k a ∧ (∀ b, FreeAt I n k b → a ≤ b) ∧ e = .returned (.tuple #[.int .i64 (a : Int), .int .i64 0]) ∧ RefAt w' q ri rh n (setTo I a (a + k) (md + 1)) (setTo H a (a + k) 0) (md + 1) ∧ Fr (RefS q ri rh) w w') ∨
      ((∀ b, ¬ FreeAt I n k b) ∧ e = .returned (.tuple #[.int .i64 0, .int .i64 6]) ∧ w' = w) := by
  have hn := h.hi
  have hp := h.c0
  have hd1 : (decide ((k : Int) < 1)) = false := by simp; omega
  have hd2 : (decide ((64 : Int) < (k : Int))) = false := by simp; omega
  go_enter Tryz.func51, Tryz.ntmps51
  go_wp2_with fail
  go_loop [6] (fun t => ∃ a : Nat, a ≤ n + 1 ∧ t = .int .i64 a ∧ (∀ b, FreeAt I n k b → a ≤ b)) (fun t => n + 1 - (intOf t).toNat)
  case atStart => exact ⟨0, Nat.zero_le _, rfl, fun b _ => Nat.zero_le _⟩
  case round =>
    obtain ⟨a, ha, rfl, hmin⟩ := hrel
    have Hmin : Hid (∀ b, FreeAt I n k b → a ≤ b) := hmin
    clear hmin
    by_cases hlt : a + k ≤ n
    · have hdl : decide ((a : Int) + (k : Int) ≤ (n : Int)) = true := by simp; omega
      go_wp2_with fail
      refine (rfree_any _ q ri rh n I H md a k h hlt).mono ?_
      rintro e w2 ⟨⟨b, rfl, hb⟩, hw2⟩
      have hw2' := hw2.symm
      clear hw2
      subst hw2'
      cases b
      · have hno : ∀ b, FreeAt I n k b → a + 1 ≤ b := fun b hb2 => by
          have h1 := Hmin.out b hb2
          by_cases e : b = a
          · subst e; exact absurd (hb.2 hb2) (by simp)
          · omega
        have Hno : Hid (∀ b, FreeAt I n k b → a + 1 ≤ b) := hno
        clear hno hb
        go_wp2_with fail
        go_round
        case rel => exact ⟨a + 1, by omega, by go_num, Hno.out⟩
        case measure => simp [intOf]; omega
      · have Hyes : Hid (FreeAt I n k a) := hb.1 rfl
        clear hb
        have hcm := h.c2
        have hfm := h.fq 2
        go_wp2_with fail
        go_loopw [8] (fun t wq => ∃ j : Nat, a ≤ j ∧ j ≤ a + k ∧ t = .int .i64 j ∧ RefAt wq q ri rh n (setTo I a j (md + 1)) (setTo H a j 0) (md + 1) ∧ Fr (RefS q ri rh) w wq) (fun t _ => a + k - (intOf t).toNat)
        case atStart => exact ⟨a, Nat.le_refl _, by omega, rfl, (h.setM (md + 1)).congr (setTo_start I a _) (setTo_start H a _), (Fr.refl (RefS q ri rh) w).setCell (p := ⟨q, 2, none⟩) (fun _ => .inl rfl) _⟩
        case round =>
          obtain ⟨j, hj1, hj2, rfl, hr, hF⟩ := hrel
          clear hcm hfm
          by_cases hjl : j < a + k
          · have hjn : j < n := by omega
            have r0 := hr.c0
            have r1 := hr.c1
            have r2 := hr.c2
            have ri_ := hr.ci j hjn
            have rh_ := hr.ch j hjn
            have f1 := hr.fi j
            have f2 := hr.fh j
            have n1 := h.qi
            have n2 := h.qh
            have n3 := h.ih
            have hset := ((hr.setI hjn (md + 1)).setH hjn 0).congr (setTo_step I (md + 1) hj1) (setTo_step H 0 hj1)
            have hFs := (hF.setCell (p := ⟨ri, j, none⟩) (fun _ => .inr (.inl rfl)) (.int .i64 (md + 1))).setCell (p := ⟨rh, j, none⟩) (fun _ => .inr (.inr rfl)) (.int .i64 0)
            have HE : Hid (RefAt ((wr.setCell ⟨ri, j, none⟩ (.int .i64 (md + 1))).setCell ⟨rh, j, none⟩ (.int .i64 0)) q ri rh n (setTo I a (j + 1) (md + 1)) (setTo H a (j + 1) 0) (md + 1) ∧ Fr (RefS q ri rh) w ((wr.setCell ⟨ri, j, none⟩ (.int .i64 (md + 1))).setCell ⟨rh, j, none⟩ (.int .i64 0))) := ⟨hset, hFs⟩
            clear hset hFs hr hF
            go_wp2
            go_region
            all_goals
              go_wp2
              go_roundw
              case rel => exact ⟨j + 1, by omega, by omega, by go_num, HE.out.1.no ((Fr.refl _ _).drew), HE.out.2.drew⟩
              case measure => simp [intOf]; omega
          · have hja : j = a + k := by omega
            subst hja
            go_wp2
            go_ret2
            exact .inl ⟨a, Hyes.out, Hmin.out, rfl, hr, hF⟩
    · go_wp2
      go_ret2
      exact .inr ⟨fun b hb => by have h1 := Hmin.out b hb; have h2 := hb.1; omega, rfl, rfl⟩
end Go.Proofs.YtcmnejcojphijaaGreatDoor
