/-
  HofA, SynA, SynB, AppK, SynC, SynD: one behind the other.
-/
import Derived.Test.YthcjcjfgdgnljaaDoorGAlloc
import Derived.Deep.QuietTactic
import Derived.BigQuiet
import Derived.Deep.RegionWith
import Derived.Deep.DeepAppendWide
import Derived.Deep.DeepCutAuto
import Derived.Deep.RegionHeldLaw
import Derived.Deep.RegionLaw
import Derived.Deep.LoopGhost
namespace Go.Proofs.YthcjcjfgdgnljaaDoor
open Go.RowKit
set_option linter.unusedVariables false

/-- A heap of the program, in memory: the pointer's block p, the words' block r, n words, of each its block's mark and its value. -/
structure HeapM (w : World) (p r n : Nat) (B V : Nat → Int) : Prop where
  lo : 1 ≤ n
  hi : n ≤ 4096
  ne : p ≠ r
  ptr : w.cell? ⟨p, 30, none⟩ = some (.slice (some ⟨r, 0, none⟩) n n)
  blk : ∀ i, i < n → w.cell? ⟨r, i * 2, none⟩ = some (.int .i64 (B i))
  val : ∀ i, i < n → w.cell? ⟨r, i * 2 + 1, none⟩ = some (.int .i64 (V i))
  frz : ∀ o, w.frozen? ⟨r, o, none⟩ = false
  b0 : ∀ i, i < n → 0 ≤ B i
  b1 : ∀ i, i < n → B i ≤ i + 1
theorem HeapM.pl {w : World} {p r n : Nat} {B V : Nat → Int} (h : HeapM w p r n B V) : p < w.heap.size := World.block_lt_of_cell? w _ h.ptr
theorem HeapM.rl {w : World} {p r n : Nat} {B V : Nat → Int} (h : HeapM w p r n B V) : r < w.heap.size := World.block_lt_of_cell? w _ (h.blk 0 (by have := h.lo; omega))
theorem HeapM.fr {S : Nat → Prop} {w w' : World} {p r n : Nat} {B V : Nat → Int} (h : HeapM w p r n B V) (hf : Fr S w w') (hp : ¬ S p) (hr : ¬ S r) : HeapM w' p r n B V :=
  ⟨h.lo, h.hi, h.ne, hf.cell_some h.ptr hp, fun i hi => hf.cell_some (h.blk i hi) hr, fun i hi => hf.cell_some (h.val i hi) hr,
    fun o => (hf.frozen (p := ⟨r, o, none⟩) h.rl hr).trans (h.frz o), h.b0, h.b1⟩
theorem HeapM.no {w w' : World} {p r n : Nat} {B V : Nat → Int} (h : HeapM w p r n B V) (hf : Fr NoB w w') : HeapM w' p r n B V := h.fr hf id id
theorem HeapM.congr {w : World} {p r n : Nat} {B V B' V' : Nat → Int} (h : HeapM w p r n B V) (hb : ∀ i, i < n → B' i = B i) (hv : ∀ i, i < n → V' i = V i) : HeapM w p r n B' V' :=
  ⟨h.lo, h.hi, h.ne, h.ptr, fun i hi => by rw [hb i hi]; exact h.blk i hi, fun i hi => by rw [hv i hi]; exact h.val i hi, h.frz,
    fun i hi => by rw [hb i hi]; exact h.b0 i hi, fun i hi => by rw [hb i hi]; exact h.b1 i hi⟩
theorem HeapM.setVal {w : World} {p r n : Nat} {B V : Nat → Int} (h : HeapM w p r n B V) {k : Nat} (hk : k < n) (u : Int) : HeapM (w.setCell ⟨r, k * 2 + 1, none⟩ (.int .i64 u)) p r n B (upd V k u) :=
  ⟨h.lo, h.hi, h.ne, (cell_other (.inl (Ne.symm h.ne))).trans h.ptr, fun i hi => (cell_other (.inr (by omega))).trans (h.blk i hi),
    fun i hi => by
      by_cases e : i = k
      · subst e; rw [upd_at]; exact cell_same (h.val i hi)
      · rw [upd_ne _ _ e]; exact (cell_other (.inr (by omega))).trans (h.val i hi),
    fun o => by rw [World.frozen?_setCell]; exact h.frz o, h.b0, h.b1⟩
theorem HeapM.setBlk {w : World} {p r n : Nat} {B V : Nat → Int} (h : HeapM w p r n B V) {k : Nat} (hk : k < n) (u : Int) (h0 : 0 ≤ u) (h1 : u ≤ k + 1) : HeapM (w.setCell ⟨r, k * 2, none⟩ (.int .i64 u)) p r n (upd B k u) V :=
  ⟨h.lo, h.hi, h.ne, (cell_other (.inl (Ne.symm h.ne))).trans h.ptr,
    fun i hi => by
      by_cases e : i = k
      · subst e; rw [upd_at]; exact cell_same (h.blk i hi)
      · rw [upd_ne _ _ e]; exact (cell_other (.inr (by omega))).trans (h.blk i hi),
    fun i hi => (cell_other (.inr (by omega))).trans (h.val i hi),
    fun o => by rw [World.frozen?_setCell]; exact h.frz o,
    fun i hi => by
      by_cases e : i = k
      · subst e; rw [upd_at]; exact h0
      · rw [upd_ne _ _ e]; exact h.b0 i hi,
    fun i hi => by
      by_cases e : i = k
      · subst e; rw [upd_at]; exact h1
      · rw [upd_ne _ _ e]; exact h.b1 i hi⟩
set_option maxHeartbeats 400000 in
theorem mtaken_any (w : World) (p r n : Nat) (B V : Nat → Int) (a : Int) (h : HeapM w p r n B V) :
    Calls Tryd.prog 84 #[.pointer (some ⟨p, 30, none⟩), .int .i64 a] w fun e w' => e = .returned (.bool (takenB B n a)) ∧ w' = w := by
  have hn := h.hi
  have hp := h.ptr
  by_cases h0 : 0 ≤ a
  · obtain ⟨k, rfl⟩ := Int.eq_ofNat_of_zero_le h0
    by_cases h1 : k < n
    · have hc := h.blk k h1
      clear h
      go_enter Tryd.func84, Tryd.ntmps84
      go_wp2
      go_ret
      exact ⟨ret_bool (takenB_in h1).symm, rfl⟩
    · clear h
      go_enter Tryd.func84, Tryd.ntmps84
      go_wp2
      go_ret
      exact ⟨ret_bool (takenB_hi h1).symm, rfl⟩
  · clear h
    go_enter Tryd.func84, Tryd.ntmps84
    go_wp2
    go_ret
    exact ⟨ret_bool (takenB_neg (by omega)).symm, rfl⟩
/-- at a number that the caller holds as a natural one -/
theorem mtaken_in (w : World) (p r n : Nat) (B V : Nat → Int) (k : Nat) (h : HeapM w p r n B V) (hk : k < n) :
    Calls Tryd.prog 84 #[.pointer (some ⟨p, 30, none⟩), .int .i64 (k : Int)] w fun e w' => e = .returned (.bool (B k != 0)) ∧ w' = w := by
  have := mtaken_any w p r n B V k h
  rwa [takenB_in hk] at this
set_option maxHeartbeats 400000 in
theorem mload_no (w : World) (p r n : Nat) (B V : Nat → Int) (a : Int) (h : HeapM w p r n B V) (ht : takenB B n a = false) :
    Calls Tryd.prog 78 #[.pointer (some ⟨p, 30, none⟩), .int .i64 a] w fun e w' => e = .returned (.tuple #[.int .i64 0, .int .i64 7]) ∧ w' = w := by
  go_enter Tryd.func78, Tryd.ntmps78
  go_wp2_with (go_at_call 84; refine (mtaken_any _ p r n B V a h).mono ?_; rintro e w' ⟨rfl, rfl⟩; rw [ht])
  go_ret2
  exact ⟨rfl, rfl⟩
set_option maxHeartbeats 400000 in
theorem mload_yes (w : World) (p r n : Nat) (B V : Nat → Int) (k : Nat) (h : HeapM w p r n B V) (hk : k < n) (ht : B k ≠ 0) :
    Calls Tryd.prog 78 #[.pointer (some ⟨p, 30, none⟩), .int .i64 (k : Int)] w fun e w' => e = .returned (.tuple #[.int .i64 (V k), .int .i64 0]) ∧ w' = w := by
  have hn := h.hi
  have hp := h.ptr
  have hc := h.val k hk
  have hb : (B k != 0) = true := by simpa using ht
  go_enter Tryd.func78, Tryd.ntmps78
  go_wp2_with (go_at_call 84; refine (mtaken_in _ p r n B V k h hk).mono ?_; rintro e w' ⟨rfl, rfl⟩; rw [hb])
  go_ret2
  exact ⟨rfl, rfl⟩
set_option maxHeartbeats 400000 in
theorem mstore_no (w : World) (p r n : Nat) (B V : Nat → Int) (a u : Int) (h : HeapM w p r n B V) (ht : takenB B n a = false) :
    Calls Tryd.prog 81 #[.pointer (some ⟨p, 30, none⟩), .int .i64 a, .int .i64 u] w fun e w' => e = .returned (.int .i64 7) ∧ w' = w := by
  go_enter Tryd.func81, Tryd.ntmps81
  go_wp2_with (go_at_call 84; refine (mtaken_any _ p r n B V a h).mono ?_; rintro e w' ⟨rfl, rfl⟩; rw [ht])
  go_ret
  exact ⟨rfl, rfl⟩
set_option maxHeartbeats 400000 in
theorem mstore_arg (w : World) (p r n : Nat) (B V : Nat → Int) (k : Nat) (u : Int) (h : HeapM w p r n B V) (hk : k < n) (ht : B k ≠ 0) (hu : u < 0 ∨ 1000 ≤ u) :
    Calls Tryd.prog 81 #[.pointer (some ⟨p, 30, none⟩), .int .i64 (k : Int), .int .i64 u] w fun e w' => e = .returned (.int .i64 5) ∧ w' = w := by
  have hb : (B k != 0) = true := by simpa using ht
  rcases hu with hu | hu
  · go_enter Tryd.func81, Tryd.ntmps81
    go_wp2_with (go_at_call 84; refine (mtaken_in _ p r n B V k h hk).mono ?_; rintro e w' ⟨rfl, rfl⟩; rw [hb])
    go_ret
    exact ⟨rfl, rfl⟩
  · have hu0 : ¬ u < 0 := by omega
    go_enter Tryd.func81, Tryd.ntmps81
    go_wp2_with (go_at_call 84; refine (mtaken_in _ p r n B V k h hk).mono ?_; rintro e w' ⟨rfl, rfl⟩; rw [hb])
    go_ret
    exact ⟨rfl, rfl⟩
set_option maxHeartbeats 400000 in
theorem mstore_yes (w : World) (p r n : Nat) (B V : Nat → Int) (k : Nat) (u : Int) (h : HeapM w p r n B V) (hk : k < n) (ht : B k ≠ 0) (hu0 : 0 ≤ u) (hu1 : u < 1000) :
    Calls Tryd.prog 81 #[.pointer (some ⟨p, 30, none⟩), .int .i64 (k : Int), .int .i64 u] w fun e w' => e = .returned (.int .i64 0) ∧ w' = w.setCell ⟨r, k * 2 + 1, none⟩ (.int .i64 u) := by
  have hn := h.hi
  have hp := h.ptr
  have hc := h.val k hk
  have hf := h.frz (k * 2 + 1)
  have hb : (B k != 0) = true := by simpa using ht
  go_enter Tryd.func81, Tryd.ntmps81
  go_wp2_with (go_at_call 84; refine (mtaken_in _ p r n B V k h hk).mono ?_; rintro e w' ⟨rfl, rfl⟩; rw [hb])
  go_ret
  exact ⟨rfl, rfl⟩
set_option maxHeartbeats 1000000 in
theorem mnextRun_any (w : World) (p r n : Nat) (B V : Nat → Int) (f : Nat) (h : HeapM w p r n B V) (hf : f ≤ n) :
    Calls Tryd.prog 87 #[.pointer (some ⟨p, 30, none⟩), .int .i64 (f : Int)] w fun e w' =>
      ∃ a z : Nat, e = .returned (.agg #[.int .i64 (a : Int), .int .i64 ((z : Int) - (a : Int))]) ∧ RunFrom B n f a z ∧ Fr NoB w w' := by
  have hn := h.hi
  have hpl := h.pl
  have hp := h.ptr
  go_enter Tryd.func87, Tryd.ntmps87
  go_wp2
  go_loop [5] (fun t => ∃ k : Nat, f ≤ k ∧ k ≤ n ∧ (∀ i, f ≤ i → i < k → B i ≠ 0) ∧ t = .int .i64 k) (fun t => n - (intOf t).toNat)
  case atStart => exact ⟨f, Nat.le_refl _, hf, fun i h1 h2 => absurd h2 (by omega), rfl⟩
  case round =>
    obtain ⟨k, hk1, hk2, hk3, rfl⟩ := hrel
    have h1 : HeapM (w.alloc (.cells #[.int .i64 0, .int .i64 0] 74)) p r n B V := h.no ((Fr.refl _ _).alloc _)
    have Hk3 : Hid (∀ i, f ≤ i → i < k → B i ≠ 0) := hk3
    clear hk3
    by_cases hgo : k < n ∧ B k ≠ 0
    · obtain ⟨hlt, hb⟩ := hgo
      have hbb : (B k != 0) = true := by simpa using hb
      have Hb : Hid (B k ≠ 0) := hb
      clear hb
      go_wp2_with (go_at_call 84; refine (mtaken_in _ p r n B V k h1 hlt).mono ?_; rintro e w' ⟨rfl, rfl⟩; rw [hbb])
      go_round
      case rel => exact ⟨k + 1, by omega, by omega, grow_ne Hk3.out Hb.out, by go_num⟩
      case measure => simp [intOf]; omega
    · have Htop : Hid (k = n ∨ B k = 0) := top_of hk2 hgo
      have hbb : k < n → (B k != 0) = false := fun hlt => by
        rcases Htop.out with h | h
        · omega
        · simpa using h
      clear hgo
      by_cases hlt : k < n
      all_goals
        go_wp2_with (go_at_call 84; refine (mtaken_in _ p r n B V k h1 hlt).mono ?_; rintro e w' ⟨rfl, rfl⟩; rw [hbb hlt])
        go_loop [6] (fun t => ∃ z : Nat, k ≤ z ∧ z ≤ n ∧ (∀ i, k ≤ i → i < z → B i = 0) ∧ t = .int .i64 z) (fun t => n - (intOf t).toNat)
        case atStart => exact ⟨k, Nat.le_refl _, hk2, fun i h1 h2 => absurd h2 (by omega), rfl⟩
        case round =>
          obtain ⟨z, hz1, hz2, hz3, rfl⟩ := hrel
          have Hz3 : Hid (∀ i, k ≤ i → i < z → B i = 0) := hz3
          clear hz3
          by_cases hgo : z < n ∧ B z = 0
          · obtain ⟨hzl, hzb⟩ := hgo
            have hbz : (B z != 0) = false := by simpa using hzb
            have Hzb : Hid (B z = 0) := hzb
            clear hzb
            first
            | (exfalso; omega)
            | (go_wp2_with (go_at_call 84; refine (mtaken_in _ p r n B V z h1 hzl).mono ?_; rintro e w' ⟨rfl, rfl⟩; rw [hbz])
               go_round
               case rel => exact ⟨z + 1, by omega, by omega, grow_eq Hz3.out Hzb.out, by go_num⟩
               case measure => simp [intOf]; omega)
          · have Hstop : Hid (z = n ∨ B z ≠ 0) := stop_of hz2 hgo
            have hbz : z < n → (B z != 0) = true := fun hlt => by
              rcases Hstop.out with h | h
              · omega
              · simpa using h
            clear hgo
            by_cases hzl : z < n
            all_goals
              first
              | (exfalso; omega)
              | (go_wp2_with (go_at_call 84; refine (mtaken_in _ p r n B V z h1 hzl).mono ?_; rintro e w' ⟨rfl, rfl⟩; rw [hbz hzl])
                 refine bodyPost_ret (v := .agg #[.int .i64 (k : Int), .int .i64 ((z : Int) - (k : Int))]) (by simp [results, Tryd.results87, go_sem]) rfl ⟨k, z, rfl, ⟨hk1, hz1, hz2, Hk3.out, Hz3.out, Htop.out, Hstop.out⟩, ?_⟩
                 repeat (first | exact Fr.refl _ _ | refine Fr.setCell ?_ (fun h => absurd h (Nat.lt_irrefl _)) _ | refine Fr.alloc ?_ _))
set_option maxHeartbeats 400000 in
theorem malloc_arg (w : World) (p : Nat) (k : Int) (hk : k < 1 ∨ 64 < k) :
    Calls Tryd.prog 85 #[.pointer (some ⟨p, 30, none⟩), .int .i64 k] w fun e w' => e = .returned (.tuple #[.int .i64 0, .int .i64 5]) ∧ w' = w := by
  rcases hk with hk | hk
  · go_enter Tryd.func85, Tryd.ntmps85
    go_wp2
    go_ret2
    exact ⟨rfl, rfl⟩
  · have hk0 : ¬ k < 1 := by omega
    go_enter Tryd.func85, Tryd.ntmps85
    go_wp2
    go_ret2
    exact ⟨rfl, rfl⟩
set_option maxHeartbeats 1000000 in
theorem malloc_any (w : World) (p r n : Nat) (B V : Nat → Int) (k : Nat) (h : HeapM w p r n B V) (hk1 : 1 ≤ k) (hk2 : k ≤ 64) :
    Calls Tryd.prog 85 #[.pointer (some ⟨p, 30, none⟩), .int .i64 (k : Int)] w fun e w' =>
      (∃ a : Nat, FreeAt B n k a ∧ (∀ b, FreeAt B n k b → a ≤ b) ∧ e = .returned (.tuple #[.int .i64 (a : Int), .int .i64 0]) ∧ HeapM w' p r n (markTo B a (a + k)) V ∧ Fr (OneB r) w w') ∨
      ((∀ b, ¬ FreeAt B n k b) ∧ e = .returned (.tuple #[.int .i64 0, .int .i64 6]) ∧ Fr NoB w w') := by
  have hn := h.hi
  have hd1 : (decide ((k : Int) < 1)) = false := by simp; omega
  have hd2 : (decide ((64 : Int) < (k : Int))) = false := by simp; omega
  go_enter Tryd.func85, Tryd.ntmps85
  go_wp2_with fail
  refine (mnextRun_any _ p r n B V 0 h (Nat.zero_le _)).mono ?_
  rintro e w1 ⟨a0, z0, rfl, hr0, hf0⟩
  go_wp2_with fail
  go_loopw [] (fun wr => ∃ f a z : Nat, RunFrom B n f a z ∧ (∀ b, FreeAt B n k b → a ≤ b) ∧ wr.cell? ⟨w1.heap.size, 0, none⟩ = some (.int .i64 a) ∧ wr.cell? ⟨w1.heap.size, 1, none⟩ = some (.int .i64 ((z : Int) - (a : Int))) ∧
      (∀ o, wr.frozen? ⟨w1.heap.size, o, none⟩ = false) ∧ Fr NoB w wr ∧ w1.heap.size < wr.heap.size)
    (fun wr => (2 * ((n : Int) - (cellInt wr w1.heap.size 0 + cellInt wr w1.heap.size 1)) + min (cellInt wr w1.heap.size 1) 1).toNat)
  case atStart => exact ⟨0, a0, z0, hr0, free_first hk1 hr0, by simp, by simp, fun o => by simp, hf0.alloc _, by simp⟩
  case round =>
    obtain ⟨f, a, z, hr, hfr, hc0, hc1, hfz, hF, hsz⟩ := hrel
    have hae := hr.ae
    have hen := hr.en
    have hW : HeapM wr p r n B V := h.no hF
    have Hfr : Hid (∀ b, FreeAt B n k b → a ≤ b) := hfr
    clear hfr
    by_cases hlen : a < z ∧ z < a + k
    · obtain ⟨hl1, hl2⟩ := hlen
      go_wp2_with fail
      rw [show (a : Int) + ((z : Int) - (a : Int)) = (z : Int) from by omega]
      refine (mnextRun_any _ p r n B V z hW hen).mono ?_
      rintro e w2 ⟨a', z', rfl, hr', hf'⟩
      have hlat := next_later hr hr'
      have hR := free_next hk1 hr hr' hl2 Hfr.out
      have hae' := hr'.ae
      have hen' := hr'.en
      have hc0' := hf'.cell_some hc0 id
      have hc1' := hf'.cell_some hc1 id
      have hfz' : ∀ o, w2.frozen? ⟨w1.heap.size, o, none⟩ = false := fun o => (hf'.frozen (p := ⟨w1.heap.size, o, none⟩) hsz id).trans (hfz o)
      have hfa := hfz' 0
      have hfb := hfz' 1
      have HR : Hid (∀ b, FreeAt B n k b → a' ≤ b) := hR
      have HL : Hid (z < z' ∨ (z = n ∧ a' = n ∧ z' = n)) := hlat
      have hs2 := hf'.size
      have hgw : w.heap.size ≤ w1.heap.size := hf0.size
      clear hR hlat
      go_wp2_with fail
      go_roundw
      case rel =>
        refine ⟨z, a', z', hr', HR.out, (two_set hc0' hc1').1, (two_set hc0' hc1').2, fun o => by simp [hfz'], ?_, by simp; omega⟩
        exact ((hF.trans hf').setCell (fun hlt => absurd hlt (by simp; omega)) _).setCell (fun hlt => absurd hlt (by simp; omega)) _
      case measure =>
        have hL := HL.out
        rw [cellInt_of hc0, cellInt_of hc1, cellInt_of (two_set hc0' hc1').1, cellInt_of (two_set hc0' hc1').2]
        omega
    · by_cases hz : a = z
      · have hno := no_room hk1 hr hz Hfr.out
        have Hno : Hid (∀ b, ¬ FreeAt B n k b) := hno
        clear hno hlen
        subst hz
        go_wp2
        go_ret2
        exact .inr ⟨Hno.out, rfl, hF⟩
      · have hge : a + k ≤ z := by omega
        have hyes := has_room hr hge
        have Hyes : Hid (FreeAt B n k a) := hyes
        clear hyes
        clear hlen
        have hlt : a < z := by omega
        go_wp2_with fail
        have hgw : w.heap.size ≤ w1.heap.size := hf0.size
        have hrl := h.rl
        have hne : r ≠ w1.heap.size := by omega
        go_loopw [7] (fun t wq => ∃ j : Nat, a ≤ j ∧ j ≤ a + k ∧ t = .int .i64 j ∧ HeapM wq p r n (markTo B a j) V ∧ wq.cell? ⟨w1.heap.size, 0, none⟩ = some (.int .i64 a) ∧ Fr (OneB r) w wq)
          (fun t _ => a + k - (intOf t).toNat)
        case atStart => exact ⟨a, Nat.le_refl _, by omega, rfl, hW.congr (markTo_start B a) (fun _ _ => rfl), hc0, hF.of_no⟩
        case round =>
          obtain ⟨j, hj1, hj2, rfl, hq, hcq, hFq⟩ := hrel
          by_cases hlt2 : j < a + k
          · have hjn : j < n := by omega
            have hqp := hq.ptr
            have hqb := hq.blk j hjn
            have hqf := hq.frz (j * 2)
            have hset := (hq.setBlk hjn ((a : Int) + 1) (by omega) (by omega)).congr (markTo_step B hj1) (fun _ _ => rfl)
            have hFs := hFq.setCell (p := ⟨r, j * 2, none⟩) (fun _ => rfl) (.int .i64 ((a : Int) + 1))
            have hcs : (wr.setCell ⟨r, j * 2, none⟩ (.int .i64 ((a : Int) + 1))).cell? ⟨w1.heap.size, 0, none⟩ = some (.int .i64 a) := (cell_other (.inl hne)).trans hcq
            have H : Hid (HeapM (wr.setCell ⟨r, j * 2, none⟩ (.int .i64 ((a : Int) + 1))) p r n (markTo B a (j + 1)) V ∧ Fr (OneB r) w (wr.setCell ⟨r, j * 2, none⟩ (.int .i64 ((a : Int) + 1))) ∧ (wr.setCell ⟨r, j * 2, none⟩ (.int .i64 ((a : Int) + 1))).cell? ⟨w1.heap.size, 0, none⟩ = some (.int .i64 a)) := ⟨hset, hFs, hcs⟩
            clear hset hFs hcs hq hFq
            go_wp2
            go_region
            all_goals
              go_wp2
              go_roundw
              case rel => exact ⟨j + 1, by omega, by omega, by go_num, H.out.1.no ((Fr.refl _ _).drew), H.out.2.2, H.out.2.1.drew⟩
              case measure => simp [intOf]; omega
          · have hja : j = a + k := by omega
            subst hja
            go_wp2
            go_ret2
            exact .inl ⟨a, Hyes.out, Hfr.out, rfl, hq, hFq⟩
set_option maxHeartbeats 400000 in
theorem mfree_no (w : World) (p r n : Nat) (B V : Nat → Int) (a : Int) (h : HeapM w p r n B V) (ht : takenB B n a = false) :
    Calls Tryd.prog 82 #[.pointer (some ⟨p, 30, none⟩), .int .i64 a] w fun e w' => e = .returned (.int .i64 7) ∧ w' = w := by
  go_enter Tryd.func82, Tryd.ntmps82
  go_wp2_with (go_at_call 84; refine (mtaken_any _ p r n B V a h).mono ?_; rintro e w' ⟨rfl, rfl⟩; rw [ht])
  go_ret
  exact ⟨rfl, rfl⟩
set_option maxHeartbeats 400000 in
theorem mfree_mid (w : World) (p r n : Nat) (B V : Nat → Int) (k : Nat) (h : HeapM w p r n B V) (hk : k < n) (ht : B k ≠ 0) (hs : B k ≠ (k : Int) + 1) :
    Calls Tryd.prog 82 #[.pointer (some ⟨p, 30, none⟩), .int .i64 (k : Int)] w fun e w' => e = .returned (.int .i64 7) ∧ w' = w := by
  have hn := h.hi
  have hp := h.ptr
  have hc := h.blk k hk
  have hb : (B k != 0) = true := by simpa using ht
  have hs' : (B k != (k : Int) + 1) = true := by simpa using hs
  go_enter Tryd.func82, Tryd.ntmps82
  go_wp2_with (go_at_call 84; refine (mtaken_in _ p r n B V k h hk).mono ?_; rintro e w' ⟨rfl, rfl⟩; rw [hb])
  go_ret
  exact ⟨rfl, rfl⟩
set_option maxHeartbeats 1000000 in
theorem mfree_yes (w : World) (p r n : Nat) (B V : Nat → Int) (k : Nat) (h : HeapM w p r n B V) (hk : k < n) (hs : B k = (k : Int) + 1) :
    Calls Tryd.prog 82 #[.pointer (some ⟨p, 30, none⟩), .int .i64 (k : Int)] w fun e w' => e = .returned (.int .i64 0) ∧
      ∃ z, k < z ∧ z ≤ n ∧ (∀ i, k ≤ i → i < z → B i = (k : Int) + 1) ∧ (z = n ∨ B z ≠ (k : Int) + 1) ∧ HeapM w' p r n (clearTo B k z) (clearTo V k z) ∧ Fr (OneB r) w w' := by
  have hn := h.hi
  have hp := h.ptr
  have hc := h.blk k hk
  have hb : (B k != 0) = true := by simp [hs]; omega
  have hs' : (B k != (k : Int) + 1) = false := by simpa using hs
  have Hs : Hid (B k = (k : Int) + 1) := hs
  clear hs
  go_enter Tryd.func82, Tryd.ntmps82
  go_wp2_with (go_at_call 84; refine (mtaken_in _ p r n B V k h hk).mono ?_; rintro e w' ⟨rfl, hw⟩; have hw2 := hw.symm; clear hw; subst hw2; rw [hb])
  clear hc hp
  go_loopw [5] (fun t wq => ∃ j : Nat, k ≤ j ∧ j ≤ n ∧ t = .int .i64 j ∧ (∀ i, k ≤ i → i < j → B i = (k : Int) + 1) ∧ HeapM wq p r n (clearTo B k j) (clearTo V k j) ∧ Fr (OneB r) w wq)
    (fun t _ => n - (intOf t).toNat)
  case atStart => exact ⟨k, Nat.le_refl _, by omega, rfl, fun i h1 h2 => absurd h2 (by omega), h.congr (clearTo_start B k) (clearTo_start V k), Fr.refl _ _⟩
  case round =>
    obtain ⟨j, hj1, hj2, rfl, hall, hq, hFq⟩ := hrel
    have Hall : Hid (∀ i, k ≤ i → i < j → B i = (k : Int) + 1) := hall
    clear hall
    by_cases hgo : j < n ∧ B j = (k : Int) + 1
    · obtain ⟨hjn, hjb⟩ := hgo
      have hqp := hq.ptr
      have hqb := hq.blk j hjn
      have hqv := hq.val j hjn
      have hqf := hq.frz (j * 2)
      have hqg := hq.frz (j * 2 + 1)
      rw [clearTo_at] at hqb
      have hjb' : (B j == (k : Int) + 1) = true := by simpa using hjb
      have Hjb : Hid (B j = (k : Int) + 1) := hjb
      clear hjb
      have hset := ((hq.setBlk hjn 0 (by omega) (by omega)).setVal hjn 0).congr (clearTo_step B hj1) (clearTo_step V hj1)
      have hFs := (hFq.setCell (p := ⟨r, j * 2, none⟩) (fun _ => rfl) (.int .i64 0)).setCell (p := ⟨r, j * 2 + 1, none⟩) (fun _ => rfl) (.int .i64 0)
      have H : Hid (HeapM ((wr.setCell ⟨r, j * 2, none⟩ (.int .i64 0)).setCell ⟨r, j * 2 + 1, none⟩ (.int .i64 0)) p r n (clearTo B k (j + 1)) (clearTo V k (j + 1)) ∧ Fr (OneB r) w ((wr.setCell ⟨r, j * 2, none⟩ (.int .i64 0)).setCell ⟨r, j * 2 + 1, none⟩ (.int .i64 0))) := ⟨hset, hFs⟩
      clear hset hFs hq hFq
      go_wp2
      go_roundw
      case rel => exact ⟨j + 1, by omega, by omega, by go_num, all_step Hall.out Hjb.out, H.out.1, H.out.2⟩
      case measure => simp [intOf]; omega
    · have Hstop : Hid (j = n ∨ B j ≠ (k : Int) + 1) := stop_at hj2 hgo
      have hkj : k < j := lt_of_stop hj1 hk Hs.out Hstop.out
      have hqp := hq.ptr
      have hqb : j < n → wr.cell? ⟨r, j * 2, none⟩ = some (.int .i64 (B j)) := fun hjn => by have := hq.blk j hjn; rwa [clearTo_at] at this
      have hjb : j < n → (B j == (k : Int) + 1) = false := fun hjn => by
        rcases Hstop.out with h | h
        · omega
        · simpa using h
      clear hgo
      by_cases hjn : j < n
      all_goals
        go_wp2
        go_ret
        exact ⟨rfl, j, hkj, hj2, Hall.out, Hstop.out, hq, hFq⟩
end Go.Proofs.YthcjcjfgdgnljaaDoor

namespace Go.Proofs.YthcjcjfgdgnljaaDoor
open Go.RowKit

def smallN (c : Nat) : Bool := decide (97 ≤ c) && decide (c ≤ 122)
def greatN (c : Nat) : Bool := decide (65 ≤ c) && decide (c ≤ 90)
def digitN (c : Nat) : Bool := decide (48 ≤ c) && decide (c ≤ 57)
/-- a text out of its bytes -/
def strN (l : List Nat) : Value := .string ⟨(l.map UInt8.ofNat).toArray⟩

theorem retb {a b : Bool} (h : a = b) : Ending.returned (.bool a) = .returned (.bool b) := by rw [h]

theorem foldl_push (l : List Nat) (r : ByteArray) : (l.map (fun b : Nat => (b : Int))).foldl (fun r n => r.push (UInt8.ofNat n.toNat)) r = ⟨r.data ++ (l.map UInt8.ofNat).toArray⟩ := by
  induction l generalizing r with
  | nil => cases r; simp
  | cons b t ih => simp only [List.map_cons, List.foldl_cons]; rw [ih]; cases r; simp [ByteArray.push]

theorem bytes_str (u : World) (bs : List Nat) : (convert 38 9 (.slice (some ⟨u.heap.size, 0, none⟩) bs.length bs.length)).run Tryd.prog (u.alloc (.cells (bs.map (fun b : Nat => Value.int .u8 (b : Int))).toArray 5)) =
    .ok (strN bs) (u.alloc (.cells (bs.map (fun b : Nat => Value.int .u8 (b : Int))).toArray 5)) := by
  rw [run_convert_bytes_string _ 38 9 5 _ _ _ Tryd.underlying38 Tryd.underlying5 Tryd.underlying9]
  rw [run_bytesToString _ _ _ _ (bs.map (fun b : Nat => (b : Int))) ?_]
  · rw [foldl_push]; simp [strN]
  · have h := run_loadCells_list (P := Tryd.prog) (w := u.alloc (.cells (bs.map (fun b : Nat => Value.int .u8 (b : Int))).toArray 5)) ⟨u.heap.size, 0, none⟩ (bs.map (fun b : Nat => Value.int .u8 (b : Int))) (fun j v hj => by
      have hadd : (⟨u.heap.size, 0, none⟩ : Addr).add j = ⟨u.heap.size, j, none⟩ := by unfold Addr.add; split <;> simp_all
      rw [hadd, World.cell?_alloc_at _ _ _ _ rfl]
      simpa using hj)
    simpa [Function.comp_def] using h

def stmtN (c : Nat) : List Nat :=
  if smallN c then [83, 59, 103, 61, c] else if greatN c then [83, 59, 112, c] else if c = 33 then [83, 59, 111, c] else if c = 126 then [83, 59, 86, c]
  else if c = 63 then [83, 125, 83, 123, 125, 83, 123, 111, c] else if c = 64 then [83, 125, 83, 123, 111, c] else []

theorem eqI {c k : Nat} (h : c = k) : ((c : Int) == (k : Int)) = true := beq_iff_eq.2 (by omega)
theorem neI {c k : Nat} (h : c ≠ k) : ((c : Int) == (k : Int)) = false := beq_eq_false_iff_ne.2 (by omega)

end Go.Proofs.YthcjcjfgdgnljaaDoor

namespace Go.Proofs.YthcjcjfgdgnljaaDoor
open Go.RowKit

def chosenN (top c : Nat) : List Nat × Bool :=
  if top = 83 then (stmtN c, true)
  else if top = 111 then (if digitN c then ([100, c], true) else ([c], smallN c))
  else if top = 100 then (if digitN c then ([101, c], true) else ([], true))
  else if top = 101 then (if digitN c then ([c], true) else ([], true))
  else if top = 86 then ([c], greatN c)
  else if top = 103 then (if c = 35 then ([86, c], true) else if greatN c then ([93, 111, 91, c], true) else ([116, 111], true))
  else if top = 116 then (if c = 43 ∨ c = 45 ∨ c = 42 ∨ c = 47 ∨ c = 60 then ([111, c], true) else ([], true))
  else if top = 71 then (if c = 91 then ([93, 111, c], true) else ([86], true))
  else (if c = 91 then ([111, 61, 93, 111, c], true) else ([71, 61], true))
theorem bytes_strW (W : World) (b : Nat) (bs : List Nat) (h : ∀ j v, (bs.map (fun b : Nat => Value.int .u8 (b : Int)))[j]? = some v → W.cell? ⟨b, j, none⟩ = some v) :
    (convert 38 9 (.slice (some ⟨b, 0, none⟩) bs.length bs.length)).run Tryd.prog W = .ok (strN bs) W := by
  rw [run_convert_bytes_string _ 38 9 5 _ _ _ Tryd.underlying38 Tryd.underlying5 Tryd.underlying9]
  rw [run_bytesToString _ _ _ _ (bs.map (fun b : Nat => (b : Int))) ?_]
  · rw [foldl_push]; simp [strN]
  · have g := run_loadCells_list (P := Tryd.prog) (w := W) ⟨b, 0, none⟩ (bs.map (fun b : Nat => Value.int .u8 (b : Int))) (fun j v hj => by
      have hadd : (⟨b, 0, none⟩ : Addr).add j = ⟨b, j, none⟩ := by unfold Addr.add; split <;> simp_all
      rw [hadd]; exact h j v hj)
    simpa [Function.comp_def] using g
def isPart (b : Nat) : Prop := b = 83 ∨ b = 111 ∨ b = 100 ∨ b = 101 ∨ b = 86 ∨ b = 103 ∨ b = 116 ∨ b = 71 ∨ b = 112

end Go.Proofs.YthcjcjfgdgnljaaDoor

namespace Go.Proofs.YthcjcjfgdgnljaaDoor
open Go.RowKit

def AppKind (w w' : World) (v v' : Value) (n m : Nat) : Prop :=
  (∃ cap, v' = .slice (some ⟨w.heap.size, 0, none⟩) (n + m) cap ∧ w.grownBy w' none) ∨
  (∃ g cap, v = .slice (some ⟨g, 0, none⟩) n cap ∧ v' = .slice (some ⟨g, 0, none⟩) (n + m) cap ∧ w.grownBy w' (some g))

section
variable {P : Program} (w : World)

theorem run_append_kind (base : Nat) (t ty e : TypeId) (i : TypeInfo) (z : Value) (size bytes : Nat) (ht : P.underlying t = some (.slice e)) (hi : P.info? e = some i) (hz : i.zero = some z)
    (hsize : i.size = size) (hby : i.bytes = bytes) (hzs : z.cells.size = size) (hsz : 0 < size)
    (v : Value) (n : Nat) (xs : List Value) (hown : w.ownsRow base e size v n xs)
    (a : Addr) (m c : Nat) (news : List Value) (hm : 0 < m) (hl : news.length = m * size) (hnews : ∀ j u, news[j]? = some u → w.cell? (a.add j) = some u) (h1 : ∀ u ∈ news, u.oneCell' = true)
    (h63 : n + m ≤ maxLen) (hbytes : ((n + m) + (n + m) / 4 + 192) * bytes ≤ 281474976710656) (hbase : base ≤ w.heap.size) :
    ∃ v' w', (Builtin.append_ #[t, t] ty #[v, .slice (some a) m c]).run P w = .ok v' w' ∧ w'.ownsRow base e size v' (n + m) (xs ++ news) ∧ AppKind w w' v v' n m := by
  obtain ⟨v', w', hr, h2, h3, _⟩ := run_append_own_wide (P := P) w base t ty e i z size bytes ht hi hz hsize hby hzs hsz v n xs hown a m c news hl hnews h1 h63 hbytes hbase
  refine ⟨v', w', hr, h2, ?_⟩
  have hsmall : n + m ≤ 9223372036854775807 := by simp only [maxLen] at h63; omega
  subst hsize
  subst hby
  rcases hown.2 with ⟨rfl, rfl⟩ | ⟨g, cap, cur, rfl, hbg, hg, hnc, hcm, hcs, htake⟩
  · have h48 : m * i.bytes ≤ 281474976710656 := Nat.le_trans (Nat.mul_le_mul_right _ (by omega)) hbytes
    have hr2 := run_append_nil (P := P) w t ty e i z ht hi hz a m c news hl hnews hm (by omega) h48
    have he := hr.symm.trans hr2
    injection he with e1 e2
    refine .inl ⟨grownCap w m 0 e, by rw [e1]; simp, ?_⟩
    rw [e2]
    exact ⟨rfl, rfl, rfl, by simp, fun k hk _ => Below.heap_alloc w.drew _ k hk⟩
  · by_cases hroom : n + m ≤ cap
    · have hfit : n * i.size + news.length ≤ cur.size := by rw [hl, hcs, ← Nat.add_mul]; exact Nat.mul_le_mul_right _ hroom
      have hr2 := run_append_room (P := P) w t ty e i ht hi g n cap cur hg a m c news hl hnews h1 hroom hfit
      have he := hr.symm.trans hr2
      injection he with e1 e2
      exact .inr ⟨g, cap, rfl, e1, h3⟩
    · have holds : ∀ j u, xs[j]? = some u → w.cell? ((⟨g, 0, none⟩ : Addr).add j) = some u := hown.cells (g := g) rfl
      have hr2 := run_append_grow (P := P) w t ty e i z ht hi hz ⟨g, 0, none⟩ n cap xs hown.1 holds a m c news hl hnews (by omega) (by omega) (growslice_fits_wide (by omega) hbytes)
      have he := hr.symm.trans hr2
      injection he with e1 e2
      refine .inl ⟨grownCap w (n + m) cap e, e1, ?_⟩
      rw [e2]
      exact ⟨rfl, rfl, rfl, by simp, fun k hk _ => Below.heap_alloc w.drew _ k hk⟩

theorem wpList_append_kind {ops : Array Oper} {rest : List Oper} {o : Oper} {a : Act} {Q : Exit → Act → World → Prop} (hgd : o.guard = none) (s x : Operand) (t : TypeId)
    (ho : o.op = .call { callee := .builtin .append, args := #[s, x], argTypes := #[t, t] })
    (base : Nat) (e : TypeId) (i : TypeInfo) (z : Value) (size bytes : Nat) (ht : P.underlying t = some (.slice e)) (hi : P.info? e = some i) (hz : i.zero = some z)
    (hsize : i.size = size) (hby : i.bytes = bytes) (hzs : z.cells.size = size) (hsz : 0 < size)
    (v : Value) (n : Nat) (xs : List Value) (hs : a.eval s = v) (hown : w.ownsRow base e size v n xs)
    (ad : Addr) (m c : Nat) (news : List Value) (hm : 0 < m) (hx : a.eval x = .slice (some ad) m c) (hl : news.length = m * size) (hnews : ∀ j u, news[j]? = some u → w.cell? (ad.add j) = some u) (h1 : ∀ u ∈ news, u.oneCell' = true)
    (h63 : n + m ≤ maxLen) (hbytes : ((n + m) + (n + m) / 4 + 192) * bytes ≤ 281474976710656) (hbase : base ≤ w.heap.size)
    (h : ∀ v' w', w'.ownsRow base e size v' (n + m) (xs ++ news) → AppKind w w' v v' n m → wpList P ops Q rest (a.put o.dst v') w') : wpList P ops Q (o :: rest) a w := by
  refine wpList_plain hgd fun K hK => ?_
  obtain ⟨v', w', hr, h2, h3⟩ := run_append_kind (P := P) w base t o.type e i z size bytes ht hi hz hsize hby hzs hsz v n xs hown ad m c news hm hl hnews h1 h63 hbytes hbase
  unfold Oper.wp execOp
  simp only [ho, resolve, invoke, builtin, Sem.run_bind, Sem.run_pure, Result.andThen_ok, List.map_toArray, List.map_cons, List.map_nil, hs, hx, hr]
  exact hK _ _ (h v' w' h2 h3)
end

/-- what was owned is owned still -/
theorem AppKind.keep {w w' : World} {v v' : Value} {n m base : Nat} {e : TypeId} {size : Nat} {xs news : List Value} (h : AppKind w w' v v' n m) (ho : w.ownsRow base e size v n xs) (ho' : w'.ownsRow base e size v' (n + m) (xs ++ news)) : w'.ownsRow base e size v n xs := by
  rcases h with ⟨cap, _, hg⟩ | ⟨g, cap, rfl, rfl, hg⟩
  · exact ho.kept hg (by cases hv : v.ownBlock <;> simp)
  · refine ⟨ho.1, .inr ?_⟩
    rcases ho.2 with ⟨hv, _⟩ | ⟨g0, cap0, cur0, hv, hb0, _, hn0, hc0, _, _⟩
    · cases hv
    · cases hv
      rcases ho'.2 with ⟨hv, _⟩ | ⟨g1, cap1, cur1, hv, hb1, hh1, hn1, hc1, hs1, ht1⟩
      · cases hv
      · cases hv
        refine ⟨g, cap, cur1, rfl, hb0, hh1, hn0, hc0, hs1, ?_⟩
        have hx := ho.1
        have : cur1.toList.take (n * size) = (cur1.toList.take ((n + m) * size)).take (n * size) := by
          rw [List.take_take, Nat.min_eq_left (Nat.mul_le_mul_right _ (by omega))]
        rw [this, ht1, ← hx, List.take_left]
theorem AppKind.fr {w w' : World} {v v' : Value} {n m : Nat} (h : AppKind w w' v v' n m) : Fr (fun q => v.ownBlock = some q) w w' := by
  rcases h with ⟨cap, _, hg⟩ | ⟨g, cap, rfl, rfl, hg⟩
  · exact Fr.of_grown hg (fun k _ e => by cases e)
  · exact Fr.of_grown hg (fun k _ e => e)
/-- where the new row lies -/
theorem AppKind.place {w w' : World} {v v' : Value} {n m : Nat} (h : AppKind w w' v v' n m) : ∃ g cap, v' = .slice (some ⟨g, 0, none⟩) (n + m) cap ∧ (g = w.heap.size ∨ v.ownBlock = some g) := by
  rcases h with ⟨cap, hv, _⟩ | ⟨g, cap, rfl, hv, _⟩
  · exact ⟨_, cap, hv, .inl rfl⟩
  · exact ⟨g, cap, hv, .inr rfl⟩
end Go.Proofs.YthcjcjfgdgnljaaDoor

namespace Go.Proofs.YthcjcjfgdgnljaaDoor
open Go.RowKit

def partB (b : Nat) : Bool := b == 83 || b == 111 || b == 100 || b == 101 || b == 86 || b == 103 || b == 116 || b == 71 || b == 112
theorem partB_iff (b : Nat) : partB b = true ↔ isPart b := by simp [partB, isPart, or_assoc]
/-- byte i of a text -/
def bt (s : ByteArray) (i : Nat) : Nat := if h : i < s.size then s[i].toNat else 0
theorem bt_in {s : ByteArray} {i : Nat} (h : i < s.size) : bt s i = s[i].toNat := by simp [bt, h]
theorem bt_lt (s : ByteArray) (i : Nat) : bt s i < 256 := by
  unfold bt; split
  · exact UInt8.toNat_lt _
  · omega

def entC (e : Nat × Bool) : List Value := [.int .u8 (e.1 : Int), .bool e.2]
/-- append as one step of a region that draws -/
theorem step_append_kind {P : Program} {ops : Array Oper} {o : Oper} {a : Act} {w : World} {K : Act → World → Prop} {Q : Exit → Act → World → Prop} {E : Prop}
    (hg : o.guard = none) (s x : Operand) (t : TypeId) (hop : o.op = Op.call { callee := Callee.builtin Builtin.append, args := #[s, x], argTypes := #[t, t] })
    (base : Nat) (e : TypeId) (i : TypeInfo) (z : Value) (size bytes : Nat) (ht : P.underlying t = some (.slice e)) (hi : P.info? e = some i) (hz : i.zero = some z)
    (hsize : i.size = size) (hby : i.bytes = bytes) (hzs : z.cells.size = size) (hsz : 0 < size)
    (v : Value) (n : Nat) (xs : List Value) (hs : a.eval s = v) (hown : w.ownsRow base e size v n xs)
    (ad : Addr) (m c : Nat) (news : List Value) (hm : 0 < m) (hx : a.eval x = .slice (some ad) m c) (hl : news.length = m * size) (hnews : ∀ j u, news[j]? = some u → w.cell? (ad.add j) = some u) (h1 : ∀ u ∈ news, u.oneCell' = true)
    (h63 : n + m ≤ maxLen) (hbytes : ((n + m) + (n + m) / 4 + 192) * bytes ≤ 281474976710656) (hbase : base ≤ w.heap.size)
    (hK : ∀ v' w', w'.ownsRow base e size v' (n + m) (xs ++ news) → AppKind w w' v v' n m → K (a.put o.dst v') w') :
    if Region.wanted o (yielded ops a.tmps) = true then Oper.wp P o a w K Q else E := by
  have hw : Region.wanted o (yielded ops a.tmps) = true := by simp [Region.wanted, hg]
  rw [if_pos hw]
  obtain ⟨v', w', hr, h2, h3⟩ := run_append_kind (P := P) w base t o.type e i z size bytes ht hi hz hsize hby hzs hsz v n xs hown ad m c news hm hl hnews h1 h63 hbytes hbase
  unfold Oper.wp execOp
  simp only [hop, resolve, invoke, builtin, Sem.run_bind, Sem.run_pure, Result.andThen_ok, List.map_toArray, List.map_cons, List.map_nil, hs, hx, hr]
  exact hK v' w' h2 h3
end Go.Proofs.YthcjcjfgdgnljaaDoor

namespace Go.Proofs.YthcjcjfgdgnljaaDoor
open Go.RowKit

def entS (s : ByteArray) (own : Bool) (j : Nat) : Nat × Bool := (bt s j, partB (bt s j) && !(own && (j + 1 == s.size)))
def pushS (s : ByteArray) (own : Bool) (i : Nat) : List (Nat × Bool) := (List.range i).map (entS s own)
theorem pushS_succ (s : ByteArray) (own : Bool) (i : Nat) : pushS s own (i + 1) = pushS s own i ++ [entS s own i] := by simp [pushS, List.range_succ]

end Go.Proofs.YthcjcjfgdgnljaaDoor
