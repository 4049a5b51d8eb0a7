/-
  HofA, RunM: one behind the other.
-/
import Derived.Test.YthcjcjfgdgnljabDoorGRel
import Derived.Test.YthcjcjfgdgnljabDoorGRuns
import Derived.Test.YthcjcjfgdgnljabDoorGLowA
namespace Go.Proofs.YthcjcjfgdgnljabDoor
open Go.RowKit
set_option linter.unusedVariables false

/-- A heap of the program, in memory: the pointer's block p, the words' block r, n words, of each its block's mark and its value. -/
structure HeapM (w : World) (p r n : Nat) (B V : Nat → Int) : Prop where
  lo : 1 ≤ n
  hi : n ≤ 4096
  ne : p ≠ r
  ptr : w.cell? ⟨p, 30, none⟩ = some (.slice (some ⟨r, 0, none⟩) n n)
  blk : ∀ i, i < n → w.cell? ⟨r, i * 2, none⟩ = some (.int .i64 (B i))
  val : ∀ i, i < n → w.cell? ⟨r, i * 2 + 1, none⟩ = some (.int .i64 (V i))
  frz : ∀ o, w.frozen? ⟨r, o, none⟩ = false
  b0 : ∀ i, i < n → 0 ≤ B i
  b1 : ∀ i, i < n → B i ≤ i + 1
theorem HeapM.pl {w : World} {p r n : Nat} {B V : Nat → Int} (h : HeapM w p r n B V) : p < w.heap.size := World.block_lt_of_cell? w _ h.ptr
theorem HeapM.rl {w : World} {p r n : Nat} {B V : Nat → Int} (h : HeapM w p r n B V) : r < w.heap.size := World.block_lt_of_cell? w _ (h.blk 0 (by have := h.lo; omega))
theorem HeapM.fr {S : Nat → Prop} {w w' : World} {p r n : Nat} {B V : Nat → Int} (h : HeapM w p r n B V) (hf : Fr S w w') (hp : ¬ S p) (hr : ¬ S r) : HeapM w' p r n B V :=
  ⟨h.lo, h.hi, h.ne, hf.cell_some h.ptr hp, fun i hi => hf.cell_some (h.blk i hi) hr, fun i hi => hf.cell_some (h.val i hi) hr,
    fun o => (hf.frozen (p := ⟨r, o, none⟩) h.rl hr).trans (h.frz o), h.b0, h.b1⟩
theorem HeapM.no {w w' : World} {p r n : Nat} {B V : Nat → Int} (h : HeapM w p r n B V) (hf : Fr NoB w w') : HeapM w' p r n B V := h.fr hf id id
theorem HeapM.congr {w : World} {p r n : Nat} {B V B' V' : Nat → Int} (h : HeapM w p r n B V) (hb : ∀ i, i < n → B' i = B i) (hv : ∀ i, i < n → V' i = V i) : HeapM w p r n B' V' :=
  ⟨h.lo, h.hi, h.ne, h.ptr, fun i hi => by rw [hb i hi]; exact h.blk i hi, fun i hi => by rw [hv i hi]; exact h.val i hi, h.frz,
    fun i hi => by rw [hb i hi]; exact h.b0 i hi, fun i hi => by rw [hb i hi]; exact h.b1 i hi⟩
theorem HeapM.setVal {w : World} {p r n : Nat} {B V : Nat → Int} (h : HeapM w p r n B V) {k : Nat} (hk : k < n) (u : Int) : HeapM (w.setCell ⟨r, k * 2 + 1, none⟩ (.int .i64 u)) p r n B (upd V k u) :=
  ⟨h.lo, h.hi, h.ne, (cell_other (.inl (Ne.symm h.ne))).trans h.ptr, fun i hi => (cell_other (.inr (by omega))).trans (h.blk i hi),
    fun i hi => by
      by_cases e : i = k
      · subst e; rw [upd_at]; exact cell_same (h.val i hi)
      · rw [upd_ne _ _ e]; exact (cell_other (.inr (by omega))).trans (h.val i hi),
    fun o => by rw [World.frozen?_setCell]; exact h.frz o, h.b0, h.b1⟩
theorem HeapM.setBlk {w : World} {p r n : Nat} {B V : Nat → Int} (h : HeapM w p r n B V) {k : Nat} (hk : k < n) (u : Int) (h0 : 0 ≤ u) (h1 : u ≤ k + 1) : HeapM (w.setCell ⟨r, k * 2, none⟩ (.int .i64 u)) p r n (upd B k u) V :=
  ⟨h.lo, h.hi, h.ne, (cell_other (.inl (Ne.symm h.ne))).trans h.ptr,
    fun i hi => by
      by_cases e : i = k
      · subst e; rw [upd_at]; exact cell_same (h.blk i hi)
      · rw [upd_ne _ _ e]; exact (cell_other (.inr (by omega))).trans (h.blk i hi),
    fun i hi => (cell_other (.inr (by omega))).trans (h.val i hi),
    fun o => by rw [World.frozen?_setCell]; exact h.frz o,
    fun i hi => by
      by_cases e : i = k
      · subst e; rw [upd_at]; exact h0
      · rw [upd_ne _ _ e]; exact h.b0 i hi,
    fun i hi => by
      by_cases e : i = k
      · subst e; rw [upd_at]; exact h1
      · rw [upd_ne _ _ e]; exact h.b1 i hi⟩
set_option maxHeartbeats 400000 in
theorem mtaken_any (w : World) (p r n : Nat) (B V : Nat → Int) (a : Int) (h : HeapM w p r n B V) :
    Calls Tryd.prog 75 #[.pointer (some ⟨p, 30, none⟩), .int .i64 a] w fun e w' => e = .returned (.bool (takenB B n a)) ∧ w' = w := by
  have hn := h.hi
  have hp := h.ptr
  by_cases h0 : 0 ≤ a
  · obtain ⟨k, rfl⟩ := Int.eq_ofNat_of_zero_le h0
    by_cases h1 : k < n
    · have hc := h.blk k h1
      clear h
      go_enter Tryd.func75, Tryd.ntmps75
      go_wp2
      go_ret
      exact ⟨ret_bool (takenB_in h1).symm, rfl⟩
    · clear h
      go_enter Tryd.func75, Tryd.ntmps75
      go_wp2
      go_ret
      exact ⟨ret_bool (takenB_hi h1).symm, rfl⟩
  · clear h
    go_enter Tryd.func75, Tryd.ntmps75
    go_wp2
    go_ret
    exact ⟨ret_bool (takenB_neg (by omega)).symm, rfl⟩
/-- at a number that the caller holds as a natural one -/
theorem mtaken_in (w : World) (p r n : Nat) (B V : Nat → Int) (k : Nat) (h : HeapM w p r n B V) (hk : k < n) :
    Calls Tryd.prog 75 #[.pointer (some ⟨p, 30, none⟩), .int .i64 (k : Int)] w fun e w' => e = .returned (.bool (B k != 0)) ∧ w' = w := by
  have := mtaken_any w p r n B V k h
  rwa [takenB_in hk] at this
set_option maxHeartbeats 400000 in
theorem mload_no (w : World) (p r n : Nat) (B V : Nat → Int) (a : Int) (h : HeapM w p r n B V) (ht : takenB B n a = false) :
    Calls Tryd.prog 69 #[.pointer (some ⟨p, 30, none⟩), .int .i64 a] w fun e w' => e = .returned (.tuple #[.int .i64 0, .int .i64 7]) ∧ w' = w := by
  go_enter Tryd.func69, Tryd.ntmps69
  go_wp2_with (go_at_call 75; refine (mtaken_any _ p r n B V a h).mono ?_; rintro e w' ⟨rfl, rfl⟩; rw [ht])
  go_ret2
  exact ⟨rfl, rfl⟩
set_option maxHeartbeats 400000 in
theorem mload_yes (w : World) (p r n : Nat) (B V : Nat → Int) (k : Nat) (h : HeapM w p r n B V) (hk : k < n) (ht : B k ≠ 0) :
    Calls Tryd.prog 69 #[.pointer (some ⟨p, 30, none⟩), .int .i64 (k : Int)] w fun e w' => e = .returned (.tuple #[.int .i64 (V k), .int .i64 0]) ∧ w' = w := by
  have hn := h.hi
  have hp := h.ptr
  have hc := h.val k hk
  have hb : (B k != 0) = true := by simpa using ht
  go_enter Tryd.func69, Tryd.ntmps69
  go_wp2_with (go_at_call 75; refine (mtaken_in _ p r n B V k h hk).mono ?_; rintro e w' ⟨rfl, rfl⟩; rw [hb])
  go_ret2
  exact ⟨rfl, rfl⟩
set_option maxHeartbeats 400000 in
theorem mstore_no (w : World) (p r n : Nat) (B V : Nat → Int) (a u : Int) (h : HeapM w p r n B V) (ht : takenB B n a = false) :
    Calls Tryd.prog 72 #[.pointer (some ⟨p, 30, none⟩), .int .i64 a, .int .i64 u] w fun e w' => e = .returned (.int .i64 7) ∧ w' = w := by
  go_enter Tryd.func72, Tryd.ntmps72
  go_wp2_with (go_at_call 75; refine (mtaken_any _ p r n B V a h).mono ?_; rintro e w' ⟨rfl, rfl⟩; rw [ht])
  go_ret
  exact ⟨rfl, rfl⟩
set_option maxHeartbeats 400000 in
theorem mstore_arg (w : World) (p r n : Nat) (B V : Nat → Int) (k : Nat) (u : Int) (h : HeapM w p r n B V) (hk : k < n) (ht : B k ≠ 0) (hu : u < 0 ∨ 1000 ≤ u) :
    Calls Tryd.prog 72 #[.pointer (some ⟨p, 30, none⟩), .int .i64 (k : Int), .int .i64 u] w fun e w' => e = .returned (.int .i64 5) ∧ w' = w := by
  have hb : (B k != 0) = true := by simpa using ht
  rcases hu with hu | hu
  · go_enter Tryd.func72, Tryd.ntmps72
    go_wp2_with (go_at_call 75; refine (mtaken_in _ p r n B V k h hk).mono ?_; rintro e w' ⟨rfl, rfl⟩; rw [hb])
    go_ret
    exact ⟨rfl, rfl⟩
  · have hu0 : ¬ u < 0 := by omega
    go_enter Tryd.func72, Tryd.ntmps72
    go_wp2_with (go_at_call 75; refine (mtaken_in _ p r n B V k h hk).mono ?_; rintro e w' ⟨rfl, rfl⟩; rw [hb])
    go_ret
    exact ⟨rfl, rfl⟩
set_option maxHeartbeats 400000 in
theorem mstore_yes (w : World) (p r n : Nat) (B V : Nat → Int) (k : Nat) (u : Int) (h : HeapM w p r n B V) (hk : k < n) (ht : B k ≠ 0) (hu0 : 0 ≤ u) (hu1 : u < 1000) :
    Calls Tryd.prog 72 #[.pointer (some ⟨p, 30, none⟩), .int .i64 (k : Int), .int .i64 u] w fun e w' => e = .returned (.int .i64 0) ∧ w' = w.setCell ⟨r, k * 2 + 1, none⟩ (.int .i64 u) := by
  have hn := h.hi
  have hp := h.ptr
  have hc := h.val k hk
  have hf := h.frz (k * 2 + 1)
  have hb : (B k != 0) = true := by simpa using ht
  go_enter Tryd.func72, Tryd.ntmps72
  go_wp2_with (go_at_call 75; refine (mtaken_in _ p r n B V k h hk).mono ?_; rintro e w' ⟨rfl, rfl⟩; rw [hb])
  go_ret
  exact ⟨rfl, rfl⟩
set_option maxHeartbeats 1000000 in
theorem mnextRun_any (w : World) (p r n : Nat) (B V : Nat → Int) (f : Nat) (h : HeapM w p r n B V) (hf : f ≤ n) :
    Calls Tryd.prog 78 #[.pointer (some ⟨p, 30, none⟩), .int .i64 (f : Int)] w fun e w' =>
      ∃ a z : Nat, e = .returned (.agg #[.int .i64 (a : Int), .int .i64 ((z : Int) - (a : Int))]) ∧ RunFrom B n f a z ∧ Fr NoB w w' := by
  have hn := h.hi
  have hpl := h.pl
  have hp := h.ptr
  go_enter Tryd.func78, Tryd.ntmps78
  go_wp2
  go_loop [5] (fun t => ∃ k : Nat, f ≤ k ∧ k ≤ n ∧ (∀ i, f ≤ i → i < k → B i ≠ 0) ∧ t = .int .i64 k) (fun t => n - (intOf t).toNat)
  case atStart => exact ⟨f, Nat.le_refl _, hf, fun i h1 h2 => absurd h2 (by omega), rfl⟩
  case round =>
    obtain ⟨k, hk1, hk2, hk3, rfl⟩ := hrel
    have h1 : HeapM (w.alloc (.cells #[.int .i64 0, .int .i64 0] 71)) p r n B V := h.no ((Fr.refl _ _).alloc _)
    have Hk3 : Hid (∀ i, f ≤ i → i < k → B i ≠ 0) := hk3
    clear hk3
    by_cases hgo : k < n ∧ B k ≠ 0
    · obtain ⟨hlt, hb⟩ := hgo
      have hbb : (B k != 0) = true := by simpa using hb
      have Hb : Hid (B k ≠ 0) := hb
      clear hb
      go_wp2_with (go_at_call 75; refine (mtaken_in _ p r n B V k h1 hlt).mono ?_; rintro e w' ⟨rfl, rfl⟩; rw [hbb])
      go_round
      case rel => exact ⟨k + 1, by omega, by omega, grow_ne Hk3.out Hb.out, by go_num⟩
      case measure => simp [intOf]; omega
    · have Htop : Hid (k = n ∨ B k = 0) := top_of hk2 hgo
      have hbb : k < n → (B k != 0) = false := fun hlt => by
        rcases Htop.out with h | h
        · omega
        · simpa using h
      clear hgo
      by_cases hlt : k < n
      all_goals
        go_wp2_with (go_at_call 75; refine (mtaken_in _ p r n B V k h1 hlt).mono ?_; rintro e w' ⟨rfl, rfl⟩; rw [hbb hlt])
        go_loop [6] (fun t => ∃ z : Nat, k ≤ z ∧ z ≤ n ∧ (∀ i, k ≤ i → i < z → B i = 0) ∧ t = .int .i64 z) (fun t => n - (intOf t).toNat)
        case atStart => exact ⟨k, Nat.le_refl _, hk2, fun i h1 h2 => absurd h2 (by omega), rfl⟩
        case round =>
          obtain ⟨z, hz1, hz2, hz3, rfl⟩ := hrel
          have Hz3 : Hid (∀ i, k ≤ i → i < z → B i = 0) := hz3
          clear hz3
          by_cases hgo : z < n ∧ B z = 0
          · obtain ⟨hzl, hzb⟩ := hgo
            have hbz : (B z != 0) = false := by simpa using hzb
            have Hzb : Hid (B z = 0) := hzb
            clear hzb
            first
            | (exfalso; omega)
            | (go_wp2_with (go_at_call 75; refine (mtaken_in _ p r n B V z h1 hzl).mono ?_; rintro e w' ⟨rfl, rfl⟩; rw [hbz])
               go_round
               case rel => exact ⟨z + 1, by omega, by omega, grow_eq Hz3.out Hzb.out, by go_num⟩
               case measure => simp [intOf]; omega)
          · have Hstop : Hid (z = n ∨ B z ≠ 0) := stop_of hz2 hgo
            have hbz : z < n → (B z != 0) = true := fun hlt => by
              rcases Hstop.out with h | h
              · omega
              · simpa using h
            clear hgo
            by_cases hzl : z < n
            all_goals
              first
              | (exfalso; omega)
              | (go_wp2_with (go_at_call 75; refine (mtaken_in _ p r n B V z h1 hzl).mono ?_; rintro e w' ⟨rfl, rfl⟩; rw [hbz hzl])
                 refine bodyPost_ret (v := .agg #[.int .i64 (k : Int), .int .i64 ((z : Int) - (k : Int))]) (by simp [results, Tryd.results78, go_sem]) rfl ⟨k, z, rfl, ⟨hk1, hz1, hz2, Hk3.out, Hz3.out, Htop.out, Hstop.out⟩, ?_⟩
                 repeat (first | exact Fr.refl _ _ | refine Fr.setCell ?_ (fun h => absurd h (Nat.lt_irrefl _)) _ | refine Fr.alloc ?_ _))
set_option maxHeartbeats 400000 in
theorem malloc_arg (w : World) (p : Nat) (k : Int) (hk : k < 1 ∨ 64 < k) :
    Calls Tryd.prog 76 #[.pointer (some ⟨p, 30, none⟩), .int .i64 k] w fun e w' => e = .returned (.tuple #[.int .i64 0, .int .i64 5]) ∧ w' = w := by
  rcases hk with hk | hk
  · go_enter Tryd.func76, Tryd.ntmps76
    go_wp2
    go_ret2
    exact ⟨rfl, rfl⟩
  · have hk0 : ¬ k < 1 := by omega
    go_enter Tryd.func76, Tryd.ntmps76
    go_wp2
    go_ret2
    exact ⟨rfl, rfl⟩
set_option maxHeartbeats 1000000 in
theorem malloc_any (w : World) (p r n : Nat) (B V : Nat → Int) (k : Nat) (h : HeapM w p r n B V) (hk1 : 1 ≤ k) (hk2 : k ≤ 64) :
    Calls Tryd.prog 76 #[.pointer (some ⟨p, 30, none⟩), .int .i64 (k : Int)] w fun e w' =>
      (∃ a : Nat, FreeAt B n k a ∧ (∀ b, FreeAt B n k b → a ≤ b) ∧ e = .returned (.tuple #[.int .i64 (a : Int), .int .i64 0]) ∧ HeapM w' p r n (markTo B a (a + k)) V ∧ Fr (OneB r) w w') ∨
      ((∀ b, ¬ FreeAt B n k b) ∧ e = .returned (.tuple #[.int .i64 0, .int .i64 6]) ∧ Fr NoB w w') := by
  have hn := h.hi
  have hd1 : (decide ((k : Int) < 1)) = false := by simp; omega
  have hd2 : (decide ((64 : Int) < (k : Int))) = false := by simp; omega
  go_enter Tryd.func76, Tryd.ntmps76
  go_wp2_with fail
  refine (mnextRun_any _ p r n B V 0 h (Nat.zero_le _)).mono ?_
  rintro e w1 ⟨a0, z0, rfl, hr0, hf0⟩
  go_wp2_with fail
  go_loopw [] (fun wr => ∃ f a z : Nat, RunFrom B n f a z ∧ (∀ b, FreeAt B n k b → a ≤ b) ∧ wr.cell? ⟨w1.heap.size, 0, none⟩ = some (.int .i64 a) ∧ wr.cell? ⟨w1.heap.size, 1, none⟩ = some (.int .i64 ((z : Int) - (a : Int))) ∧
      (∀ o, wr.frozen? ⟨w1.heap.size, o, none⟩ = false) ∧ Fr NoB w wr ∧ w1.heap.size < wr.heap.size)
    (fun wr => (2 * ((n : Int) - (cellInt wr w1.heap.size 0 + cellInt wr w1.heap.size 1)) + min (cellInt wr w1.heap.size 1) 1).toNat)
  case atStart => exact ⟨0, a0, z0, hr0, free_first hk1 hr0, by simp, by simp, fun o => by simp, hf0.alloc _, by simp⟩
  case round =>
    obtain ⟨f, a, z, hr, hfr, hc0, hc1, hfz, hF, hsz⟩ := hrel
    have hae := hr.ae
    have hen := hr.en
    have hW : HeapM wr p r n B V := h.no hF
    have Hfr : Hid (∀ b, FreeAt B n k b → a ≤ b) := hfr
    clear hfr
    by_cases hlen : a < z ∧ z < a + k
    · obtain ⟨hl1, hl2⟩ := hlen
      go_wp2_with fail
      rw [show (a : Int) + ((z : Int) - (a : Int)) = (z : Int) from by omega]
      refine (mnextRun_any _ p r n B V z hW hen).mono ?_
      rintro e w2 ⟨a', z', rfl, hr', hf'⟩
      have hlat := next_later hr hr'
      have hR := free_next hk1 hr hr' hl2 Hfr.out
      have hae' := hr'.ae
      have hen' := hr'.en
      have hc0' := hf'.cell_some hc0 id
      have hc1' := hf'.cell_some hc1 id
      have hfz' : ∀ o, w2.frozen? ⟨w1.heap.size, o, none⟩ = false := fun o => (hf'.frozen (p := ⟨w1.heap.size, o, none⟩) hsz id).trans (hfz o)
      have hfa := hfz' 0
      have hfb := hfz' 1
      have HR : Hid (∀ b, FreeAt B n k b → a' ≤ b) := hR
      have HL : Hid (z < z' ∨ (z = n ∧ a' = n ∧ z' = n)) := hlat
      have hs2 := hf'.size
      have hgw : w.heap.size ≤ w1.heap.size := hf0.size
      clear hR hlat
      go_wp2_with fail
      go_roundw
      case rel =>
        refine ⟨z, a', z', hr', HR.out, (two_set hc0' hc1').1, (two_set hc0' hc1').2, fun o => by simp [hfz'], ?_, by simp; omega⟩
        exact ((hF.trans hf').setCell (fun hlt => absurd hlt (by simp; omega)) _).setCell (fun hlt => absurd hlt (by simp; omega)) _
      case measure =>
        have hL := HL.out
        rw [cellInt_of hc0, cellInt_of hc1, cellInt_of (two_set hc0' hc1').1, cellInt_of (two_set hc0' hc1').2]
        omega
    · by_cases hz : a = z
      · have hno := no_room hk1 hr hz Hfr.out
        have Hno : Hid (∀ b, ¬ FreeAt B n k b) := hno
        clear hno hlen
        subst hz
        go_wp2
        go_ret2
        exact .inr ⟨Hno.out, rfl, hF⟩
      · have hge : a + k ≤ z := by omega
        have hyes := has_room hr hge
        have Hyes : Hid (FreeAt B n k a) := hyes
        clear hyes
        clear hlen
        have hlt : a < z := by omega
        go_wp2_with fail
        have hgw : w.heap.size ≤ w1.heap.size := hf0.size
        have hrl := h.rl
        have hne : r ≠ w1.heap.size := by omega
        go_loopw [7] (fun t wq => ∃ j : Nat, a ≤ j ∧ j ≤ a + k ∧ t = .int .i64 j ∧ HeapM wq p r n (markTo B a j) V ∧ wq.cell? ⟨w1.heap.size, 0, none⟩ = some (.int .i64 a) ∧ Fr (OneB r) w wq)
          (fun t _ => a + k - (intOf t).toNat)
        case atStart => exact ⟨a, Nat.le_refl _, by omega, rfl, hW.congr (markTo_start B a) (fun _ _ => rfl), hc0, hF.of_no⟩
        case round =>
          obtain ⟨j, hj1, hj2, rfl, hq, hcq, hFq⟩ := hrel
          by_cases hlt2 : j < a + k
          · have hjn : j < n := by omega
            have hqp := hq.ptr
            have hqb := hq.blk j hjn
            have hqf := hq.frz (j * 2)
            have hset := (hq.setBlk hjn ((a : Int) + 1) (by omega) (by omega)).congr (markTo_step B hj1) (fun _ _ => rfl)
            have hFs := hFq.setCell (p := ⟨r, j * 2, none⟩) (fun _ => rfl) (.int .i64 ((a : Int) + 1))
            have hcs : (wr.setCell ⟨r, j * 2, none⟩ (.int .i64 ((a : Int) + 1))).cell? ⟨w1.heap.size, 0, none⟩ = some (.int .i64 a) := (cell_other (.inl hne)).trans hcq
            have H : Hid (HeapM (wr.setCell ⟨r, j * 2, none⟩ (.int .i64 ((a : Int) + 1))) p r n (markTo B a (j + 1)) V ∧ Fr (OneB r) w (wr.setCell ⟨r, j * 2, none⟩ (.int .i64 ((a : Int) + 1))) ∧ (wr.setCell ⟨r, j * 2, none⟩ (.int .i64 ((a : Int) + 1))).cell? ⟨w1.heap.size, 0, none⟩ = some (.int .i64 a)) := ⟨hset, hFs, hcs⟩
            clear hset hFs hcs hq hFq
            go_wp2
            go_region
            all_goals
              go_wp2
              go_roundw
              case rel => exact ⟨j + 1, by omega, by omega, by go_num, H.out.1.no ((Fr.refl _ _).drew), H.out.2.2, H.out.2.1.drew⟩
              case measure => simp [intOf]; omega
          · have hja : j = a + k := by omega
            subst hja
            go_wp2
            go_ret2
            exact .inl ⟨a, Hyes.out, Hfr.out, rfl, hq, hFq⟩
set_option maxHeartbeats 400000 in
theorem mfree_no (w : World) (p r n : Nat) (B V : Nat → Int) (a : Int) (h : HeapM w p r n B V) (ht : takenB B n a = false) :
    Calls Tryd.prog 73 #[.pointer (some ⟨p, 30, none⟩), .int .i64 a] w fun e w' => e = .returned (.int .i64 7) ∧ w' = w := by
  go_enter Tryd.func73, Tryd.ntmps73
  go_wp2_with (go_at_call 75; refine (mtaken_any _ p r n B V a h).mono ?_; rintro e w' ⟨rfl, rfl⟩; rw [ht])
  go_ret
  exact ⟨rfl, rfl⟩
set_option maxHeartbeats 400000 in
theorem mfree_mid (w : World) (p r n : Nat) (B V : Nat → Int) (k : Nat) (h : HeapM w p r n B V) (hk : k < n) (ht : B k ≠ 0) (hs : B k ≠ (k : Int) + 1) :
    Calls Tryd.prog 73 #[.pointer (some ⟨p, 30, none⟩), .int .i64 (k : Int)] w fun e w' => e = .returned (.int .i64 7) ∧ w' = w := by
  have hn := h.hi
  have hp := h.ptr
  have hc := h.blk k hk
  have hb : (B k != 0) = true := by simpa using ht
  have hs' : (B k != (k : Int) + 1) = true := by simpa using hs
  go_enter Tryd.func73, Tryd.ntmps73
  go_wp2_with (go_at_call 75; refine (mtaken_in _ p r n B V k h hk).mono ?_; rintro e w' ⟨rfl, rfl⟩; rw [hb])
  go_ret
  exact ⟨rfl, rfl⟩
set_option maxHeartbeats 1000000 in
theorem mfree_yes (w : World) (p r n : Nat) (B V : Nat → Int) (k : Nat) (h : HeapM w p r n B V) (hk : k < n) (hs : B k = (k : Int) + 1) :
    Calls Tryd.prog 73 #[.pointer (some ⟨p, 30, none⟩), .int .i64 (k : Int)] w fun e w' => e = .returned (.int .i64 0) ∧
      ∃ z, k < z ∧ z ≤ n ∧ (∀ i, k ≤ i → i < z → B i = (k : Int) + 1) ∧ (z = n ∨ B z ≠ (k : Int) + 1) ∧ HeapM w' p r n (clearTo B k z) (clearTo V k z) ∧ Fr (OneB r) w w' := by
  have hn := h.hi
  have hp := h.ptr
  have hc := h.blk k hk
  have hb : (B k != 0) = true := by simp [hs]; omega
  have hs' : (B k != (k : Int) + 1) = false := by simpa using hs
  have Hs : Hid (B k = (k : Int) + 1) := hs
  clear hs
  go_enter Tryd.func73, Tryd.ntmps73
  go_wp2_with (go_at_call 75; refine (mtaken_in _ p r n B V k h hk).mono ?_; rintro e w' ⟨rfl, hw⟩; have hw2 := hw.symm; clear hw; subst hw2; rw [hb])
  clear hc hp
  go_loopw [5] (fun t wq => ∃ j : Nat, k ≤ j ∧ j ≤ n ∧ t = .int .i64 j ∧ (∀ i, k ≤ i → i < j → B i = (k : Int) + 1) ∧ HeapM wq p r n (clearTo B k j) (clearTo V k j) ∧ Fr (OneB r) w wq)
    (fun t _ => n - (intOf t).toNat)
  case atStart => exact ⟨k, Nat.le_refl _, by omega, rfl, fun i h1 h2 => absurd h2 (by omega), h.congr (clearTo_start B k) (clearTo_start V k), Fr.refl _ _⟩
  case round =>
    obtain ⟨j, hj1, hj2, rfl, hall, hq, hFq⟩ := hrel
    have Hall : Hid (∀ i, k ≤ i → i < j → B i = (k : Int) + 1) := hall
    clear hall
    by_cases hgo : j < n ∧ B j = (k : Int) + 1
    · obtain ⟨hjn, hjb⟩ := hgo
      have hqp := hq.ptr
      have hqb := hq.blk j hjn
      have hqv := hq.val j hjn
      have hqf := hq.frz (j * 2)
      have hqg := hq.frz (j * 2 + 1)
      rw [clearTo_at] at hqb
      have hjb' : (B j == (k : Int) + 1) = true := by simpa using hjb
      have Hjb : Hid (B j = (k : Int) + 1) := hjb
      clear hjb
      have hset := ((hq.setBlk hjn 0 (by omega) (by omega)).setVal hjn 0).congr (clearTo_step B hj1) (clearTo_step V hj1)
      have hFs := (hFq.setCell (p := ⟨r, j * 2, none⟩) (fun _ => rfl) (.int .i64 0)).setCell (p := ⟨r, j * 2 + 1, none⟩) (fun _ => rfl) (.int .i64 0)
      have H : Hid (HeapM ((wr.setCell ⟨r, j * 2, none⟩ (.int .i64 0)).setCell ⟨r, j * 2 + 1, none⟩ (.int .i64 0)) p r n (clearTo B k (j + 1)) (clearTo V k (j + 1)) ∧ Fr (OneB r) w ((wr.setCell ⟨r, j * 2, none⟩ (.int .i64 0)).setCell ⟨r, j * 2 + 1, none⟩ (.int .i64 0))) := ⟨hset, hFs⟩
      clear hset hFs hq hFq
      go_wp2
      go_roundw
      case rel => exact ⟨j + 1, by omega, by omega, by go_num, all_step Hall.out Hjb.out, H.out.1, H.out.2⟩
      case measure => simp [intOf]; omega
    · have Hstop : Hid (j = n ∨ B j ≠ (k : Int) + 1) := stop_at hj2 hgo
      have hkj : k < j := lt_of_stop hj1 hk Hs.out Hstop.out
      have hqp := hq.ptr
      have hqb : j < n → wr.cell? ⟨r, j * 2, none⟩ = some (.int .i64 (B j)) := fun hjn => by have := hq.blk j hjn; rwa [clearTo_at] at this
      have hjb : j < n → (B j == (k : Int) + 1) = false := fun hjn => by
        rcases Hstop.out with h | h
        · omega
        · simpa using h
      clear hgo
      by_cases hjn : j < n
      all_goals
        go_wp2
        go_ret
        exact ⟨rfl, j, hkj, hj2, Hall.out, Hstop.out, hq, hFq⟩
end Go.Proofs.YthcjcjfgdgnljabDoor

namespace Go.Proofs.YthcjcjfgdgnljabDoor
open Go.RowKit
set_option linter.unusedVariables false

def toI (l : List Nat) : List Int := l.map (fun n : Nat => (n : Int))
def trB (l : List Nat) : ByteArray := ⟨(l.map UInt8.ofNat).toArray⟩
def rnOf (σ : St) (wv : Nat → Value) (a l : Nat → Int) : Rn := ⟨fun k => (σ.num k : Int), wv, .pointer none, a, l, (σ.left : Int), (σ.status : Int), trB σ.tr, 0, 0⟩
/-- values are values, blocks are blocks -/
structure NumOk (σ : St) : Prop where
  num : ∀ k, σ.num k < 1000
  wd : ∀ k v, v ∈ σ.bx k → v < 1000
  sz : ∀ k, (σ.bx k).length ≤ 64
theorem val_ok {num : Nat → Nat} (h : ∀ k, num k < 1000) {o : Od} (ho : OdOk o) : valO num o < 1000 := by
  cases o with
  | n k => exact h k
  | v x => exact ho
theorem bin_ok {c x y r : Nat} (hx : x < 1000) (h : binN c x y = some r) : r < 1000 := by
  unfold binN at h
  repeat' split at h
  all_goals first | (cases h; done) | (injection h with h; subst h; first | omega | exact Nat.mod_lt _ (by decide) | exact Nat.lt_of_le_of_lt (Nat.div_le_self _ _) hx)
theorem upN_lt {f : Nat → Nat} {k v : Nat} (h : ∀ i, f i < 1000) (hv : v < 1000) : ∀ i, upN f k v i < 1000 := fun i => by
  unfold upN
  split
  · exact hv
  · exact h i
theorem upB_all {f : Nat → List Nat} {k : Nat} {l : List Nat} {p : List Nat → Prop} (h : ∀ i, p (f i)) (hl : p l) : ∀ i, p (upB f k l i) := fun i => by
  unfold upB
  split
  · exact hl
  · exact h i
theorem NumOk.set {σ : St} (h : NumOk σ) {k v : Nat} (hv : v < 1000) : NumOk { σ with num := upN σ.num k v } := ⟨upN_lt h.num hv, h.wd, h.sz⟩
theorem NumOk.box {σ : St} (h : NumOk σ) {k : Nat} {l : List Nat} (hl : ∀ v, v ∈ l → v < 1000) (hs : l.length ≤ 64) : NumOk { σ with bx := upB σ.bx k l } :=
  ⟨h.num, fun i => upB_all (p := fun l => ∀ v, v ∈ l → v < 1000) h.wd hl i, fun i => upB_all (p := fun l => l.length ≤ 64) h.sz hs i⟩
theorem NumOk.like {σ τ : St} (h : NumOk σ) (h1 : τ.num = σ.num) (h2 : τ.bx = σ.bx) : NumOk τ := ⟨by rw [h1]; exact h.num, by rw [h2]; exact h.wd, by rw [h2]; exact h.sz⟩
theorem act_ok {c : Cf} {a : Ac} {σ : St} (h : NumOk σ) (ha : AcOk a) : NumOk (act c a σ).1 := by
  cases a with
  | set v o => exact h.set (val_ok h.num ha.2)
  | bin v o k p =>
    simp only [act]
    cases hb : binN k (valO σ.num o) (valO σ.num p) with
    | none => exact h.like rfl rfl
    | some x => exact h.set (bin_ok (val_ok h.num ha.2.1) hb)
  | load v b o =>
    simp only [act]
    split
    · exact h.like rfl rfl
    · split
      · exact h.like rfl rfl
      · rename_i h1 h2
        refine h.set ?_
        have hlt : valO σ.num o < (σ.bx b).length := by omega
        rw [List.getD_eq_getElem?_getD, List.getElem?_eq_getElem hlt]
        exact h.wd b _ (List.getElem_mem hlt)
  | size v b =>
    simp only [act]
    split
    · exact h.like rfl rfl
    · exact h.set (Nat.lt_of_le_of_lt (h.sz b) (by decide))
  | make b o =>
    simp only [act]
    split
    · exact h.like rfl rfl
    · split
      · exact h.like rfl rfl
      · rename_i h1 h2
        split
        · exact (h.box (k := b) (l := []) (fun v hv => by cases hv) (by simp)).like rfl rfl
        · exact (h.box (k := b) (l := List.replicate (valO σ.num o) 0) (fun v hv => by rw [List.mem_replicate] at hv; omega) (by simp; omega)).like rfl rfl
  | move b d =>
    simp only [act]
    split
    · exact h.like rfl rfl
    · split
      · exact h
      · split
        · exact h.like rfl rfl
        · exact ((h.box (k := b) (l := σ.bx d) (h.wd d) (h.sz d)).box (k := d) (l := []) (fun v hv => by cases hv) (by simp)).like rfl rfl
  | store b o p =>
    simp only [act]
    split
    · exact h.like rfl rfl
    · split
      · exact h.like rfl rfl
      · refine h.box (fun v hv => ?_) (by rw [List.length_set]; exact h.sz b)
        rcases List.mem_or_eq_of_mem_set hv with q | q
        · exact h.wd b v q
        · rw [q]; exact val_ok h.num ha.2.2
  | drop b =>
    simp only [act]
    split
    · exact h.like rfl rfl
    · exact h.box (fun v hv => by cases hv) (by simp)
  | print o => exact h.like rfl rfl
theorem stp_ok {c : Cf} {a : Ac} {σ : St} (h : NumOk σ) (ha : AcOk a) : NumOk (stp c a σ).1 := by
  unfold stp
  split
  · split
    · exact h.like rfl rfl
    · exact act_ok (h.like rfl rfl) ha
  · exact act_ok h ha

/-- the plain run, as the document's Play has it in memory -/
def PlayR (w : World) (rp base : Nat) (s : ByteArray) (σ : St) : Prop := NumOk σ ∧ ∃ blk wv a l, PlayAt w rp base s (rnOf σ wv a l) (fun k => toI (σ.bx k)) blk
def FrP (rp base : Nat) : Nat → Prop := fun k => k = rp ∨ base ≤ k
def PlayS (rp base : Nat) (s : ByteArray) (b : Bool) (σ : St) (w : World) (e : Ending) (w' : World) : Prop := e = .returned (.bool b) ∧ PlayR w' rp base s σ ∧ Fr (FrP rp base) w w'
theorem toS {rp base : Nat} {s : ByteArray} {b : Bool} {x' : Rn} {bx' : Nat → List Int} {σ' : St} {w : World} {e : Ending} {w' : World} (h : PlaySays rp base s b x' bx' w e w') (hok : NumOk σ') (hx : ∀ wv a l, { x' with wv := wv, at_ := a, len := l } = rnOf σ' wv a l) (hb : bx' = fun k => toI (σ'.bx k)) : PlayS rp base s b σ' w e w' := by
  obtain ⟨h1, ⟨blk, wv, a, l, h2⟩, h3⟩ := h
  rw [hx, hb] at h2
  exact ⟨h1, ⟨hok, blk, wv, a, l, h2⟩, h3⟩
theorem updI_cast (f : Nat → Nat) (k v : Nat) : updI (fun k => (f k : Int)) k (v : Int) = fun i => (upN f k v i : Int) := by
  funext i
  unfold updI upN
  split <;> rfl
theorem updL_cast (f : Nat → List Nat) (k : Nat) (l : List Nat) : updL (fun k => toI (f k)) k (toI l) = fun i => toI (upB f k l i) := by
  funext i
  unfold updL upB
  split <;> rfl
theorem toI_nil {l : List Nat} : toI l = [] ↔ l = [] := by unfold toI; simp
theorem toI_len (l : List Nat) : (toI l).length = l.length := by unfold toI; simp
theorem toI_rep (n : Nat) : List.replicate n (0 : Int) = toI (List.replicate n 0) := by unfold toI; simp
theorem toI_set (l : List Nat) (q v : Nat) : (toI l).set q (v : Int) = toI (l.set q v) := by unfold toI; rw [List.map_set]
theorem toI_get {l : List Nat} {q : Nat} (h : q < l.length) : (toI l)[q]? = some ((l.getD q 0 : Nat) : Int) := by
  unfold toI
  rw [List.getElem?_map, List.getElem?_eq_getElem h, List.getD_eq_getElem?_getD, List.getElem?_eq_getElem h]
  rfl
theorem PlayR.no {w w' : World} {rp base : Nat} {s : ByteArray} {σ : St} (h : PlayR w rp base s σ) (hF : Fr NoB w w') : PlayR w' rp base s σ := by
  obtain ⟨h1, blk, wv, a, l, h2⟩ := h
  exact ⟨h1, blk, wv, a, l, h2.no hF⟩
end Go.Proofs.YthcjcjfgdgnljabDoor
