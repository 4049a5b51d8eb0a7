/-
  Taken, NextRun, Alloc, Runs, Free: one behind the other.
-/
import Derived.Test.YthcjcjfgdgnljaaGBase
namespace Go.Proofs.Ythcjcjfgdgnljaa
open Go.RowKit

theorem ret_bool {a b : Bool} (h : a = b) : Ending.returned (.bool a) = .returned (.bool b) := by rw [h]
theorem ret_int {k : IntKind} {a b : Int} (h : a = b) : Ending.returned (.int k a) = .returned (.int k b) := by rw [h]
theorem takenB_in {B : Nat → Int} {n k : Nat} (h : k < n) : takenB B n (k : Int) = (B k != 0) := by
  unfold takenB
  have h1 : (0 : Int) ≤ (k : Int) := by omega
  have h2 : (k : Int) < (n : Int) := by omega
  by_cases hb : B k = 0 <;> simp [h1, h2, hb]
theorem takenB_hi {B : Nat → Int} {n k : Nat} (h : ¬ k < n) : takenB B n (k : Int) = false := by
  unfold takenB
  have h2 : ¬ (k : Int) < (n : Int) := by omega
  simp [h2]
theorem takenB_neg {B : Nat → Int} {n : Nat} {a : Int} (h : ¬ 0 ≤ a) : takenB B n a = false := by
  unfold takenB
  simp [h]
set_option maxHeartbeats 400000 in
theorem taken_any (w : World) (p r n : Nat) (B V : Nat → Int) (a : Int) (h : HeapAt w p r n B V) :
    Calls Try.prog 38 #[.pointer (some ⟨p, 0, none⟩), .int .i64 a] w fun e w' => e = .returned (.bool (takenB B n a)) ∧ w' = w := by
  have hn := h.hi
  have hp := h.ptr
  by_cases h0 : 0 ≤ a
  · obtain ⟨k, rfl⟩ := Int.eq_ofNat_of_zero_le h0
    by_cases h1 : k < n
    · have hc := h.blk k h1
      clear h
      go_enter Try.func38, Try.ntmps38
      go_wp2
      go_ret
      exact ⟨ret_bool (takenB_in h1).symm, rfl⟩
    · clear h
      go_enter Try.func38, Try.ntmps38
      go_wp2
      go_ret
      exact ⟨ret_bool (takenB_hi h1).symm, rfl⟩
  · clear h
    go_enter Try.func38, Try.ntmps38
    go_wp2
    go_ret
    exact ⟨ret_bool (takenB_neg (by omega)).symm, rfl⟩
/-- at a number that the caller holds as a natural one -/
theorem taken_in (w : World) (p r n : Nat) (B V : Nat → Int) (k : Nat) (h : HeapAt w p r n B V) (hk : k < n) :
    Calls Try.prog 38 #[.pointer (some ⟨p, 0, none⟩), .int .i64 (k : Int)] w fun e w' => e = .returned (.bool (B k != 0)) ∧ w' = w := by
  have := taken_any w p r n B V k h
  rwa [takenB_in hk] at this

set_option maxHeartbeats 400000 in
theorem load_no (w : World) (p r n : Nat) (B V : Nat → Int) (a : Int) (h : HeapAt w p r n B V) (ht : takenB B n a = false) :
    Calls Try.prog 28 #[.pointer (some ⟨p, 0, none⟩), .int .i64 a] w fun e w' => e = .returned (.tuple #[.int .i64 0, .int .i64 7]) ∧ w' = w := by
  go_enter Try.func28, Try.ntmps28
  go_wp2_with (go_at_call 38; refine (taken_any _ p r n B V a h).mono ?_; rintro e w' ⟨rfl, rfl⟩; rw [ht])
  go_ret2
  exact ⟨rfl, rfl⟩

set_option maxHeartbeats 400000 in
theorem load_yes (w : World) (p r n : Nat) (B V : Nat → Int) (k : Nat) (h : HeapAt w p r n B V) (hk : k < n) (ht : B k ≠ 0) :
    Calls Try.prog 28 #[.pointer (some ⟨p, 0, none⟩), .int .i64 (k : Int)] w fun e w' => e = .returned (.tuple #[.int .i64 (V k), .int .i64 0]) ∧ w' = w := by
  have hn := h.hi
  have hp := h.ptr
  have hc := h.val k hk
  have hb : (B k != 0) = true := by simpa using ht
  go_enter Try.func28, Try.ntmps28
  go_wp2_with (go_at_call 38; refine (taken_in _ p r n B V k h hk).mono ?_; rintro e w' ⟨rfl, rfl⟩; rw [hb])
  go_ret2
  exact ⟨rfl, rfl⟩

set_option maxHeartbeats 400000 in
theorem store_yes (w : World) (p r n : Nat) (B V : Nat → Int) (k : Nat) (u : Int) (h : HeapAt w p r n B V) (hk : k < n) (ht : B k ≠ 0) (hu0 : 0 ≤ u) (hu1 : u < 1000) :
    Calls Try.prog 26 #[.pointer (some ⟨p, 0, none⟩), .int .i64 (k : Int), .int .i64 u] w fun e w' => e = .returned (.int .i64 0) ∧ w' = w.setCell ⟨r, k * 2 + 1, none⟩ (.int .i64 u) := by
  have hn := h.hi
  have hp := h.ptr
  have hc := h.val k hk
  have hf := h.frz (k * 2 + 1)
  have hb : (B k != 0) = true := by simpa using ht
  go_enter Try.func26, Try.ntmps26
  go_wp2_with (go_at_call 38; refine (taken_in _ p r n B V k h hk).mono ?_; rintro e w' ⟨rfl, rfl⟩; rw [hb])
  go_ret
  exact ⟨rfl, rfl⟩
end Go.Proofs.Ythcjcjfgdgnljaa

namespace Go.Proofs.Ythcjcjfgdgnljaa
open Go.RowKit

/-- a .. e: the first free run from f on. -/
structure RunFrom (B : Nat → Int) (n f a e : Nat) : Prop where
  fa : f ≤ a
  ae : a ≤ e
  en : e ≤ n
  skip : ∀ i, f ≤ i → i < a → B i ≠ 0
  free : ∀ i, a ≤ i → i < e → B i = 0
  top : a = n ∨ B a = 0
  stop : e = n ∨ B e ≠ 0

theorem grow_ne {B : Nat → Int} {f k : Nat} (h : ∀ i, f ≤ i → i < k → B i ≠ 0) (hk : B k ≠ 0) : ∀ i, f ≤ i → i < k + 1 → B i ≠ 0 := fun i h1 h2 => by
  by_cases e : i = k
  · subst e; exact hk
  · exact h i h1 (by omega)
theorem grow_eq {B : Nat → Int} {f k : Nat} (h : ∀ i, f ≤ i → i < k → B i = 0) (hk : B k = 0) : ∀ i, f ≤ i → i < k + 1 → B i = 0 := fun i h1 h2 => by
  by_cases e : i = k
  · subst e; exact hk
  · exact h i h1 (by omega)
theorem top_of {B : Nat → Int} {k n : Nat} (hk : k ≤ n) (h : ¬ (k < n ∧ B k ≠ 0)) : k = n ∨ B k = 0 := by
  by_cases e : B k = 0
  · exact .inr e
  · exact .inl (by have : ¬ k < n := fun hl => h ⟨hl, e⟩; omega)
theorem stop_of {B : Nat → Int} {k n : Nat} (hk : k ≤ n) (h : ¬ (k < n ∧ B k = 0)) : k = n ∨ B k ≠ 0 := by
  by_cases e : B k = 0
  · exact .inl (by have : ¬ k < n := fun hl => h ⟨hl, e⟩; omega)
  · exact .inr e

set_option maxHeartbeats 1000000 in
theorem nextRun_any (w : World) (p r n : Nat) (B V : Nat → Int) (f : Nat) (h : HeapAt w p r n B V) (hf : f ≤ n) :
    Calls Try.prog 41 #[.pointer (some ⟨p, 0, none⟩), .int .i64 (f : Int)] w fun e w' =>
      ∃ a z : Nat, e = .returned (.agg #[.int .i64 (a : Int), .int .i64 ((z : Int) - (a : Int))]) ∧ RunFrom B n f a z ∧ Fr NoB w w' := by
  have hn := h.hi
  have hpl := h.pl
  have hp := h.ptr
  go_enter Try.func41, Try.ntmps41
  go_wp2
  go_loop [5] (fun t => ∃ k : Nat, f ≤ k ∧ k ≤ n ∧ (∀ i, f ≤ i → i < k → B i ≠ 0) ∧ t = .int .i64 k) (fun t => n - (intOf t).toNat)
  case atStart => exact ⟨f, Nat.le_refl _, hf, fun i h1 h2 => absurd h2 (by omega), rfl⟩
  case round =>
    obtain ⟨k, hk1, hk2, hk3, rfl⟩ := hrel
    have h1 : HeapAt (w.alloc (.cells #[.int .i64 0, .int .i64 0] 48)) p r n B V := h.no ((Fr.refl _ _).alloc _)
    have Hk3 : Hid (∀ i, f ≤ i → i < k → B i ≠ 0) := hk3
    clear hk3
    by_cases hgo : k < n ∧ B k ≠ 0
    · obtain ⟨hlt, hb⟩ := hgo
      have hbb : (B k != 0) = true := by simpa using hb
      have Hb : Hid (B k ≠ 0) := hb
      clear hb
      go_wp2_with (go_at_call 38; refine (taken_in _ p r n B V k h1 hlt).mono ?_; rintro e w' ⟨rfl, rfl⟩; rw [hbb])
      go_round
      case rel => exact ⟨k + 1, by omega, by omega, grow_ne Hk3.out Hb.out, by go_num⟩
      case measure => simp [intOf]; omega
    · have Htop : Hid (k = n ∨ B k = 0) := top_of hk2 hgo
      have hbb : k < n → (B k != 0) = false := fun hlt => by
        rcases Htop.out with h | h
        · omega
        · simpa using h
      clear hgo
      by_cases hlt : k < n
      all_goals
        go_wp2_with (go_at_call 38; refine (taken_in _ p r n B V k h1 hlt).mono ?_; rintro e w' ⟨rfl, rfl⟩; rw [hbb hlt])
        go_loop [6] (fun t => ∃ z : Nat, k ≤ z ∧ z ≤ n ∧ (∀ i, k ≤ i → i < z → B i = 0) ∧ t = .int .i64 z) (fun t => n - (intOf t).toNat)
        case atStart => exact ⟨k, Nat.le_refl _, hk2, fun i h1 h2 => absurd h2 (by omega), rfl⟩
        case round =>
          obtain ⟨z, hz1, hz2, hz3, rfl⟩ := hrel
          have Hz3 : Hid (∀ i, k ≤ i → i < z → B i = 0) := hz3
          clear hz3
          by_cases hgo : z < n ∧ B z = 0
          · obtain ⟨hzl, hzb⟩ := hgo
            have hbz : (B z != 0) = false := by simpa using hzb
            have Hzb : Hid (B z = 0) := hzb
            clear hzb
            first
            | (exfalso; omega)
            | (go_wp2_with (go_at_call 38; refine (taken_in _ p r n B V z h1 hzl).mono ?_; rintro e w' ⟨rfl, rfl⟩; rw [hbz])
               go_round
               case rel => exact ⟨z + 1, by omega, by omega, grow_eq Hz3.out Hzb.out, by go_num⟩
               case measure => simp [intOf]; omega)
          · have Hstop : Hid (z = n ∨ B z ≠ 0) := stop_of hz2 hgo
            have hbz : z < n → (B z != 0) = true := fun hlt => by
              rcases Hstop.out with h | h
              · omega
              · simpa using h
            clear hgo
            by_cases hzl : z < n
            all_goals
              first
              | (exfalso; omega)
              | (go_wp2_with (go_at_call 38; refine (taken_in _ p r n B V z h1 hzl).mono ?_; rintro e w' ⟨rfl, rfl⟩; rw [hbz hzl])
                 refine bodyPost_ret (v := .agg #[.int .i64 (k : Int), .int .i64 ((z : Int) - (k : Int))]) (by simp [results, Try.results41, go_sem]) rfl ⟨k, z, rfl, ⟨hk1, hz1, hz2, Hk3.out, Hz3.out, Htop.out, Hstop.out⟩, ?_⟩
                 repeat (first | exact Fr.refl _ _ | refine Fr.setCell ?_ (fun h => absurd h (Nat.lt_irrefl _)) _ | refine Fr.alloc ?_ _))
end Go.Proofs.Ythcjcjfgdgnljaa

namespace Go.Proofs.Ythcjcjfgdgnljaa
open Go.RowKit

/-- k free words from a on -/
def FreeAt (B : Nat → Int) (n k a : Nat) : Prop := a + k ≤ n ∧ ∀ i, a ≤ i → i < a + k → B i = 0
def markTo (B : Nat → Int) (a j : Nat) : Nat → Int := fun i => if a ≤ i ∧ i < j then (a : Int) + 1 else B i
def cellInt (w : World) (b o : Nat) : Int := match w.cell? ⟨b, o, none⟩ with | some (.int _ q) => q | _ => 0
theorem cellInt_of {w : World} {b o : Nat} {q : Int} (h : w.cell? ⟨b, o, none⟩ = some (.int .i64 q)) : cellInt w b o = q := by simp [cellInt, h]

theorem free_first {B : Nat → Int} {n k a z : Nat} (hk : 1 ≤ k) (h : RunFrom B n 0 a z) : ∀ b, FreeAt B n k b → a ≤ b := fun b hb => by
  by_cases e : a ≤ b
  · exact e
  · exact absurd (hb.2 b (Nat.le_refl _) (by omega)) (h.skip b (Nat.zero_le _) (by omega))
theorem free_next {B : Nat → Int} {n k f a z a' z' : Nat} (hk : 1 ≤ k) (h : RunFrom B n f a z) (h' : RunFrom B n z a' z') (hlen : z < a + k) (hf : ∀ b, FreeAt B n k b → a ≤ b) : ∀ b, FreeAt B n k b → a' ≤ b := fun b hb => by
  have h1 := hf b hb
  have hz : z ≤ b := by
    by_cases e : z ≤ b
    · exact e
    · rcases h.stop with hs | hs
      · have := hb.1; omega
      · exact absurd (hb.2 z (by omega) (by omega)) hs
  by_cases e : a' ≤ b
  · exact e
  · exact absurd (hb.2 b (Nat.le_refl _) (by omega)) (h'.skip b hz (by omega))
theorem next_later {B : Nat → Int} {n f a z a' z' : Nat} (h : RunFrom B n f a z) (h' : RunFrom B n z a' z') : z < z' ∨ (z = n ∧ a' = n ∧ z' = n) := by
  have h1 := h'.fa
  have h2 := h'.ae
  have h3 := h'.en
  rcases h.stop with hs | hs
  · exact .inr ⟨hs, by omega, by omega⟩
  · rcases h'.top with ht | ht
    · have := h.en
      by_cases e : z < z'
      · exact .inl e
      · exact .inr ⟨by omega, by omega, by omega⟩
    · refine .inl ?_
      by_cases e : a' = z
      · subst e; exact absurd ht hs
      · omega
theorem no_room {B : Nat → Int} {n k f a z : Nat} (hk : 1 ≤ k) (h : RunFrom B n f a z) (hl : a = z) (hf : ∀ b, FreeAt B n k b → a ≤ b) : ∀ b, ¬ FreeAt B n k b := fun b hb => by
  have h1 := hf b hb
  have h2 := hb.1
  subst hl
  rcases h.stop with hs | hs
  · omega
  · rcases h.top with ht | ht
    · omega
    · exact hs ht
theorem has_room {B : Nat → Int} {n k f a z : Nat} (h : RunFrom B n f a z) (hl : a + k ≤ z) : FreeAt B n k a :=
  ⟨by have := h.en; omega, fun i h1 h2 => h.free i h1 (by omega)⟩

theorem markTo_start (B : Nat → Int) (a : Nat) {n : Nat} : ∀ i, i < n → markTo B a a i = B i := fun i _ => by
  unfold markTo; rw [if_neg (by omega)]
theorem markTo_step (B : Nat → Int) {a j : Nat} (h : a ≤ j) {n : Nat} : ∀ i, i < n → markTo B a (j + 1) i = upd (markTo B a j) j ((a : Int) + 1) i := fun i _ => by
  unfold markTo upd
  by_cases e : i = j
  · subst e; rw [if_pos (by omega), if_pos rfl]
  · rw [if_neg e]
    by_cases e2 : a ≤ i ∧ i < j
    · rw [if_pos (by omega)]; exact (if_pos e2).symm
    · rw [if_neg (by omega)]; exact (if_neg e2).symm

set_option maxHeartbeats 1000000 in
theorem alloc_any (w : World) (p r n : Nat) (B V : Nat → Int) (k : Nat) (h : HeapAt w p r n B V) (hk1 : 1 ≤ k) (hk2 : k ≤ 64) :
    Calls Try.prog 39 #[.pointer (some ⟨p, 0, none⟩), .int .i64 (k : Int)] w fun e w' =>
      (∃ a : Nat, FreeAt B n k a ∧ (∀ b, FreeAt B n k b → a ≤ b) ∧ e = .returned (.tuple #[.int .i64 (a : Int), .int .i64 0]) ∧ HeapAt w' p r n (markTo B a (a + k)) V ∧ Fr (OneB r) w w') ∨
      ((∀ b, ¬ FreeAt B n k b) ∧ e = .returned (.tuple #[.int .i64 0, .int .i64 6]) ∧ Fr NoB w w') := by
  have hn := h.hi
  have hd1 : (decide ((k : Int) < 1)) = false := by simp; omega
  have hd2 : (decide ((64 : Int) < (k : Int))) = false := by simp; omega
  go_enter Try.func39, Try.ntmps39
  go_wp2_with fail
  refine (nextRun_any _ p r n B V 0 h (Nat.zero_le _)).mono ?_
  rintro e w1 ⟨a0, z0, rfl, hr0, hf0⟩
  go_wp2_with fail
  go_loopw [] (fun wr => ∃ f a z : Nat, RunFrom B n f a z ∧ (∀ b, FreeAt B n k b → a ≤ b) ∧ wr.cell? ⟨w1.heap.size, 0, none⟩ = some (.int .i64 a) ∧ wr.cell? ⟨w1.heap.size, 1, none⟩ = some (.int .i64 ((z : Int) - (a : Int))) ∧
      (∀ o, wr.frozen? ⟨w1.heap.size, o, none⟩ = false) ∧ Fr NoB w wr ∧ w1.heap.size < wr.heap.size)
    (fun wr => (2 * ((n : Int) - (cellInt wr w1.heap.size 0 + cellInt wr w1.heap.size 1)) + min (cellInt wr w1.heap.size 1) 1).toNat)
  case atStart => exact ⟨0, a0, z0, hr0, free_first hk1 hr0, by simp, by simp, fun o => by simp, hf0.alloc _, by simp⟩
  case round =>
    obtain ⟨f, a, z, hr, hfr, hc0, hc1, hfz, hF, hsz⟩ := hrel
    have hae := hr.ae
    have hen := hr.en
    have hW : HeapAt wr p r n B V := h.no hF
    have Hfr : Hid (∀ b, FreeAt B n k b → a ≤ b) := hfr
    clear hfr
    by_cases hlen : a < z ∧ z < a + k
    · obtain ⟨hl1, hl2⟩ := hlen
      go_wp2_with fail
      rw [show (a : Int) + ((z : Int) - (a : Int)) = (z : Int) from by omega]
      refine (nextRun_any _ p r n B V z hW hen).mono ?_
      rintro e w2 ⟨a', z', rfl, hr', hf'⟩
      have hlat := next_later hr hr'
      have hR := free_next hk1 hr hr' hl2 Hfr.out
      have hae' := hr'.ae
      have hen' := hr'.en
      have hc0' := hf'.cell_some hc0 id
      have hc1' := hf'.cell_some hc1 id
      have hfz' : ∀ o, w2.frozen? ⟨w1.heap.size, o, none⟩ = false := fun o => (hf'.frozen (p := ⟨w1.heap.size, o, none⟩) hsz id).trans (hfz o)
      have hfa := hfz' 0
      have hfb := hfz' 1
      have HR : Hid (∀ b, FreeAt B n k b → a' ≤ b) := hR
      have HL : Hid (z < z' ∨ (z = n ∧ a' = n ∧ z' = n)) := hlat
      have hs2 := hf'.size
      have hgw : w.heap.size ≤ w1.heap.size := hf0.size
      clear hR hlat
      go_wp2_with fail
      go_roundw
      case rel =>
        refine ⟨z, a', z', hr', HR.out, (two_set hc0' hc1').1, (two_set hc0' hc1').2, fun o => by simp [hfz'], ?_, by simp; omega⟩
        exact ((hF.trans hf').setCell (fun hlt => absurd hlt (by simp; omega)) _).setCell (fun hlt => absurd hlt (by simp; omega)) _
      case measure =>
        have hL := HL.out
        rw [cellInt_of hc0, cellInt_of hc1, cellInt_of (two_set hc0' hc1').1, cellInt_of (two_set hc0' hc1').2]
        omega
    · by_cases hz : a = z
      · have hno := no_room hk1 hr hz Hfr.out
        have Hno : Hid (∀ b, ¬ FreeAt B n k b) := hno
        clear hno hlen
        subst hz
        go_wp2
        go_ret2
        exact .inr ⟨Hno.out, rfl, hF⟩
      · have hge : a + k ≤ z := by omega
        have hyes := has_room hr hge
        have Hyes : Hid (FreeAt B n k a) := hyes
        clear hyes
        clear hlen
        have hlt : a < z := by omega
        go_wp2_with fail
        have hgw : w.heap.size ≤ w1.heap.size := hf0.size
        have hrl := h.rl
        have hne : r ≠ w1.heap.size := by omega
        go_loopw [7] (fun t wq => ∃ j : Nat, a ≤ j ∧ j ≤ a + k ∧ t = .int .i64 j ∧ HeapAt wq p r n (markTo B a j) V ∧ wq.cell? ⟨w1.heap.size, 0, none⟩ = some (.int .i64 a) ∧ Fr (OneB r) w wq)
          (fun t _ => a + k - (intOf t).toNat)
        case atStart => exact ⟨a, Nat.le_refl _, by omega, rfl, hW.congr (markTo_start B a) (fun _ _ => rfl), hc0, hF.of_no⟩
        case round =>
          obtain ⟨j, hj1, hj2, rfl, hq, hcq, hFq⟩ := hrel
          by_cases hlt2 : j < a + k
          · have hjn : j < n := by omega
            have hqp := hq.ptr
            have hqb := hq.blk j hjn
            have hqf := hq.frz (j * 2)
            have hset := (hq.setBlk hjn ((a : Int) + 1) (by omega) (by omega)).congr (markTo_step B hj1) (fun _ _ => rfl)
            have hFs := hFq.setCell (p := ⟨r, j * 2, none⟩) (fun _ => rfl) (.int .i64 ((a : Int) + 1))
            have hcs : (wr.setCell ⟨r, j * 2, none⟩ (.int .i64 ((a : Int) + 1))).cell? ⟨w1.heap.size, 0, none⟩ = some (.int .i64 a) := (cell_other (.inl hne)).trans hcq
            have H : Hid (HeapAt (wr.setCell ⟨r, j * 2, none⟩ (.int .i64 ((a : Int) + 1))) p r n (markTo B a (j + 1)) V ∧ Fr (OneB r) w (wr.setCell ⟨r, j * 2, none⟩ (.int .i64 ((a : Int) + 1))) ∧ (wr.setCell ⟨r, j * 2, none⟩ (.int .i64 ((a : Int) + 1))).cell? ⟨w1.heap.size, 0, none⟩ = some (.int .i64 a)) := ⟨hset, hFs, hcs⟩
            clear hset hFs hcs hq hFq
            go_wp2
            go_region
            all_goals
              go_wp2
              go_roundw
              case rel => exact ⟨j + 1, by omega, by omega, by go_num, H.out.1.no ((Fr.refl _ _).drew), H.out.2.2, H.out.2.1.drew⟩
              case measure => simp [intOf]; omega
          · have hja : j = a + k := by omega
            subst hja
            go_wp2
            go_ret2
            exact .inl ⟨a, Hyes.out, Hfr.out, rfl, hq, hFq⟩
end Go.Proofs.Ythcjcjfgdgnljaa

namespace Go.Proofs.Ythcjcjfgdgnljaa
open Go.RowKit

/-- L: the free runs from lo on. -/
def IsRuns (B : Nat → Int) (n : Nat) : Nat → List (Nat × Nat) → Prop
  | lo, [] => ∀ i, lo ≤ i → i < n → B i ≠ 0
  | lo, (a, l) :: L => lo ≤ a ∧ 0 < l ∧ a + l ≤ n ∧ (∀ i, lo ≤ i → i < a → B i ≠ 0) ∧ (∀ i, a ≤ i → i < a + l → B i = 0) ∧ (a + l = n ∨ B (a + l) ≠ 0) ∧ IsRuns B n (a + l) L

def spanCells (L : List (Nat × Nat)) : List Value := L.flatMap (fun s => [.int .i64 (s.1 : Int), .int .i64 (s.2 : Int)])
theorem spanCells_snoc (L : List (Nat × Nat)) (a l : Nat) : spanCells (L ++ [(a, l)]) = spanCells L ++ [.int .i64 (a : Int), .int .i64 (l : Int)] := by simp [spanCells]

theorem owns_mono {w : World} {base base' : Nat} {e : TypeId} {size : Nat} {v : Value} {n : Nat} {xs : List Value} (h : w.ownsRow base e size v n xs) (hb : base' ≤ base) : w.ownsRow base' e size v n xs := by
  obtain ⟨h1, h2⟩ := h
  refine ⟨h1, ?_⟩
  rcases h2 with h2 | ⟨g, cap, cur, hv, hg, r⟩
  · exact .inl h2
  · exact .inr ⟨g, cap, cur, hv, by omega, r⟩

theorem Try.infoSpan : (Try.prog.info? 48).map (fun i => (i.zero, i.size, i.bytes)) = some (some (.agg #[.int .i64 0, .int .i64 0]), 2, 16) := by kernel_rfl

theorem runs_step {B : Nat → Int} {n f a z : Nat} {L : List (Nat × Nat)} (h : RunFrom B n f a z) (hlt : a < z) (hL : ∀ M, IsRuns B n f M → IsRuns B n 0 (L ++ M)) : ∀ M, IsRuns B n z M → IsRuns B n 0 ((L ++ [(a, z - a)]) ++ M) := fun M hM => by
  rw [List.append_assoc]
  apply hL
  have e : a + (z - a) = z := by omega
  have hen := h.en
  refine ⟨h.fa, by omega, by omega, h.skip, fun i h1 h2 => h.free i h1 (by omega), ?_, ?_⟩
  · rw [e]; exact h.stop
  · rw [e]; exact hM
theorem runs_end {B : Nat → Int} {n f a z : Nat} {L : List (Nat × Nat)} (h : RunFrom B n f a z) (he : a = z) (hL : ∀ M, IsRuns B n f M → IsRuns B n 0 (L ++ M)) : IsRuns B n 0 L := by
  have := hL [] (fun i h1 h2 => by
    by_cases e : i < a
    · exact h.skip i h1 e
    · exfalso
      subst he
      rcases h.stop with hs | hs
      · omega
      · rcases h.top with ht | ht
        · omega
        · exact hs ht)
  simpa using this

theorem runs_grown {w wr w2 : World} {o : Obj} {g : Nat} {e : TypeId} {size m : Nat} {v : Value} {xs : List Value} {x0 x1 : Value} (hF : Fr NoB w wr) (hgw : w.heap.size ≤ g)
    (hown : wr.ownsRow (g + 1) e size v m xs) (hg : (wr.alloc o).grownBy w2 v.ownBlock)
    (hc0 : wr.cell? ⟨g, 0, none⟩ = some x0) (hc1 : wr.cell? ⟨g, 1, none⟩ = some x1) (hfz : ∀ o, wr.frozen? ⟨g, o, none⟩ = false) (hsz : g < wr.heap.size) :
    Fr NoB w w2 ∧ w2.cell? ⟨g, 0, none⟩ = some x0 ∧ w2.cell? ⟨g, 1, none⟩ = some x1 ∧ (∀ o, w2.frozen? ⟨g, o, none⟩ = false) ∧ g < w2.heap.size := by
  have hlt := hown.lt
  have hfr : Fr (fun k => v.ownBlock = some k) wr w2 := ((Fr.refl _ wr).alloc o).then (Fr.of_grown (S := fun k => v.ownBlock = some k) hg (fun k _ e => e)) (fun _ _ h => h)
  have hng : ¬ v.ownBlock = some g := fun e => by have := (hlt g e).1; omega
  refine ⟨hF.then hfr (fun i hi e => by have := (hlt i e).1; omega), hfr.cell_some hc0 hng, hfr.cell_some hc1 hng, fun o => ?_, ?_⟩
  · exact (hfr.frozen (p := ⟨g, o, none⟩) hsz hng).trans (hfz o)
  · have := hfr.size; omega

set_option maxHeartbeats 1000000 in
theorem runs_any (w : World) (p r n : Nat) (B V : Nat → Int) (h : HeapAt w p r n B V) :
    Calls Try.prog 27 #[.pointer (some ⟨p, 0, none⟩)] w fun e w' =>
      ∃ v L, e = .returned v ∧ IsRuns B n 0 L ∧ w'.ownsRow w.heap.size 48 2 v L.length (spanCells L) ∧ Fr NoB w w' := by
  have hn := h.hi
  obtain ⟨i0, hi, hz0, hz1, hz2⟩ := info_parts Try.infoSpan
  go_enter Try.func27, Try.ntmps27
  go_wp2_with fail
  refine (nextRun_any _ p r n B V 0 h (Nat.zero_le _)).mono ?_
  rintro e w1 ⟨a0, z0, rfl, hr0, hf0⟩
  go_wp2_with fail
  go_loopw [3] (fun t wr => ∃ (f a z : Nat) (L : List (Nat × Nat)), RunFrom B n f a z ∧ (∀ M, IsRuns B n f M → IsRuns B n 0 (L ++ M)) ∧ L.length ≤ f ∧ wr.ownsRow (w1.heap.size + 1) 48 2 t L.length (spanCells L) ∧
      wr.cell? ⟨w1.heap.size, 0, none⟩ = some (.int .i64 a) ∧ wr.cell? ⟨w1.heap.size, 1, none⟩ = some (.int .i64 ((z : Int) - (a : Int))) ∧
      (∀ o, wr.frozen? ⟨w1.heap.size, o, none⟩ = false) ∧ Fr NoB w wr ∧ w1.heap.size < wr.heap.size)
    (fun _ wr => (2 * ((n : Int) - (cellInt wr w1.heap.size 0 + cellInt wr w1.heap.size 1)) + min (cellInt wr w1.heap.size 1) 1).toNat)
  case atStart => exact ⟨0, a0, z0, [], hr0, fun M hM => hM, Nat.zero_le _, World.ownsRow_nil _ _ _ _, by simp, by simp, fun o => by simp, hf0.alloc _, by simp⟩
  case round =>
    obtain ⟨f, a, z, L, hr, hL, hLl, hown, hc0, hc1, hfz, hF, hsz⟩ := hrel
    have hfa := hr.fa
    have hae := hr.ae
    have hen := hr.en
    have hgw : w.heap.size ≤ w1.heap.size := hf0.size
    have HL : Hid (∀ M, IsRuns B n f M → IsRuns B n 0 (L ++ M)) := hL
    clear hL
    by_cases hlt : a < z
    · have hW : HeapAt wr p r n B V := h.no hF
      have HOld : Hid (cellInt wr w1.heap.size 0 = (a : Int) ∧ cellInt wr w1.heap.size 1 = (z : Int) - (a : Int)) := ⟨cellInt_of hc0, cellInt_of hc1⟩
      go_wp2_with (at_builtin; refine wpList_append_own _ rfl _ _ 42 rfl (w1.heap.size + 1) 48 i0 (.agg #[.int .i64 0, .int .i64 0]) 2 16 Try.underlying42 hi hz0 hz1 hz2 rfl (by decide) _ _ _ rfl (hown.alloc _) ⟨wr.heap.size, 0, none⟩ 1 1 [.int .i64 (a : Int), .int .i64 ((z : Int) - (a : Int))] rfl rfl ?c1 ?c2 ?c3 ?c4 ?c5 ?_)
      case c1 =>
        intro j u hj
        match j, hj with
        | 0, hj => simp at hj; subst hj; simp [Addr.add]
        | 1, hj => simp at hj; subst hj; simp [Addr.add]
      case c2 => intro u hu; simp at hu; rcases hu with rfl | rfl <;> rfl
      case c3 => unfold maxLen; omega
      case c4 => omega
      case c5 => simp; omega
      intro v' w2 hown' hgrow _
      obtain ⟨hF2, hc0', hc1', hfz', hs2⟩ := runs_grown hF hgw hown hgrow hc0 hc1 hfz hsz
      have hW2 : HeapAt w2 p r n B V := h.no hF2
      have Hown' : Hid (w2.ownsRow (w1.heap.size + 1) 48 2 v' (L.length + 1) (spanCells L ++ [.int .i64 (a : Int), .int .i64 ((z : Int) - (a : Int))])) := hown'
      clear hown' hgrow hown hc0 hc1 hfz hW
      go_wp2_with fail
      rw [show (a : Int) + ((z : Int) - (a : Int)) = (z : Int) from by omega]
      refine (nextRun_any _ p r n B V z hW2 hen).mono ?_
      rintro e w3 ⟨a', z', rfl, hr', hf'⟩
      have HLat : Hid (z < z' ∨ (z = n ∧ a' = n ∧ z' = n)) := next_later hr hr'
      have hae' := hr'.ae
      have hen' := hr'.en
      have hd0 := hf'.cell_some hc0' id
      have hd1 := hf'.cell_some hc1' id
      have hdz : ∀ o, w3.frozen? ⟨w1.heap.size, o, none⟩ = false := fun o => (hf'.frozen (p := ⟨w1.heap.size, o, none⟩) hs2 id).trans (hfz' o)
      have hdza := hdz 0
      have hdzb := hdz 1
      have hs3 := hf'.size
      have Hold : Hid (cellInt wr w1.heap.size 0 = (a : Int) ∧ cellInt wr w1.heap.size 1 = (z : Int) - (a : Int)) := HOld
      clear HOld
      go_wp2_with fail
      go_roundw
      case rel =>
        refine ⟨z, a', z', L ++ [(a, z - a)], hr', runs_step hr hlt HL.out, by simp; omega, ?_, (two_set hd0 hd1).1, (two_set hd0 hd1).2, fun o => by simp [hdz], ?_, by simp; omega⟩
        · rw [spanCells_snoc, List.length_append, show ((z - a : Nat) : Int) = (z : Int) - (a : Int) from by omega]
          have ho := (hf'.owns Hown'.out (fun _ _ h => h))
          exact ownsRow_setCell_below (ownsRow_setCell_below ho (Nat.lt_succ_self _) _) (Nat.lt_succ_self _) _
        · exact ((hF2.trans hf').setCell (fun hlt => absurd hlt (by simp; omega)) _).setCell (fun hlt => absurd hlt (by simp; omega)) _
      case measure =>
        have hL := HLat.out
        rw [Hold.out.1, Hold.out.2, cellInt_of (two_set hd0 hd1).1, cellInt_of (two_set hd0 hd1).2]
        omega
    · have hz : a = z := by omega
      have hend := runs_end hr hz HL.out
      have Hend : Hid (IsRuns B n 0 L) := hend
      clear hend
      subst hz
      go_wp2
      go_ret
      exact ⟨_, L, rfl, Hend.out, owns_mono hown (by omega), hF⟩
end Go.Proofs.Ythcjcjfgdgnljaa

namespace Go.Proofs.Ythcjcjfgdgnljaa
open Go.RowKit

def clearTo (f : Nat → Int) (k j : Nat) : Nat → Int := fun i => if k ≤ i ∧ i < j then 0 else f i
theorem clearTo_start (f : Nat → Int) (k : Nat) {n : Nat} : ∀ i, i < n → clearTo f k k i = f i := fun i _ => by
  unfold clearTo; rw [if_neg (by omega)]
theorem clearTo_step (f : Nat → Int) {k j : Nat} (h : k ≤ j) {n : Nat} : ∀ i, i < n → clearTo f k (j + 1) i = upd (clearTo f k j) j 0 i := fun i _ => by
  unfold clearTo upd
  by_cases e : i = j
  · subst e; rw [if_pos (by omega), if_pos rfl]
  · rw [if_neg e]
    by_cases e2 : k ≤ i ∧ i < j
    · rw [if_pos (by omega)]; exact (if_pos e2).symm
    · rw [if_neg (by omega)]; exact (if_neg e2).symm
theorem clearTo_at (f : Nat → Int) (k j : Nat) : clearTo f k j j = f j := by unfold clearTo; rw [if_neg (by omega)]

theorem all_step {B : Nat → Int} {k j : Nat} {x : Int} (h : ∀ i, k ≤ i → i < j → B i = x) (hj : B j = x) : ∀ i, k ≤ i → i < j + 1 → B i = x := fun i h1 h2 => by
  by_cases e : i = j
  · subst e; exact hj
  · exact h i h1 (by omega)
theorem stop_at {B : Nat → Int} {j n : Nat} {x : Int} (hj : j ≤ n) (h : ¬ (j < n ∧ B j = x)) : j = n ∨ B j ≠ x := by
  by_cases e : B j = x
  · exact .inl (by have : ¬ j < n := fun hl => h ⟨hl, e⟩; omega)
  · exact .inr e
theorem lt_of_stop {B : Nat → Int} {k j n : Nat} {x : Int} (h1 : k ≤ j) (hk : k < n) (hb : B k = x) (h : j = n ∨ B j ≠ x) : k < j := by
  rcases h with h | h
  · omega
  · by_cases e : k = j
    · subst e; exact absurd hb h
    · omega

set_option maxHeartbeats 400000 in
theorem free_no (w : World) (p r n : Nat) (B V : Nat → Int) (a : Int) (h : HeapAt w p r n B V) (ht : takenB B n a = false) :
    Calls Try.prog 22 #[.pointer (some ⟨p, 0, none⟩), .int .i64 a] w fun e w' => e = .returned (.int .i64 7) ∧ w' = w := by
  go_enter Try.func22, Try.ntmps22
  go_wp2_with (go_at_call 38; refine (taken_any _ p r n B V a h).mono ?_; rintro e w' ⟨rfl, rfl⟩; rw [ht])
  go_ret
  exact ⟨rfl, rfl⟩

set_option maxHeartbeats 1000000 in
theorem free_yes (w : World) (p r n : Nat) (B V : Nat → Int) (k : Nat) (h : HeapAt w p r n B V) (hk : k < n) (hs : B k = (k : Int) + 1) :
    Calls Try.prog 22 #[.pointer (some ⟨p, 0, none⟩), .int .i64 (k : Int)] w fun e w' => e = .returned (.int .i64 0) ∧
      ∃ z, k < z ∧ z ≤ n ∧ (∀ i, k ≤ i → i < z → B i = (k : Int) + 1) ∧ (z = n ∨ B z ≠ (k : Int) + 1) ∧ HeapAt w' p r n (clearTo B k z) (clearTo V k z) ∧ Fr (OneB r) w w' := by
  have hn := h.hi
  have hp := h.ptr
  have hc := h.blk k hk
  have hb : (B k != 0) = true := by simp [hs]; omega
  have hs' : (B k != (k : Int) + 1) = false := by simpa using hs
  have Hs : Hid (B k = (k : Int) + 1) := hs
  clear hs
  go_enter Try.func22, Try.ntmps22
  go_wp2_with (go_at_call 38; refine (taken_in _ p r n B V k h hk).mono ?_; rintro e w' ⟨rfl, hw⟩; have hw2 := hw.symm; clear hw; subst hw2; rw [hb])
  clear hc hp
  go_loopw [5] (fun t wq => ∃ j : Nat, k ≤ j ∧ j ≤ n ∧ t = .int .i64 j ∧ (∀ i, k ≤ i → i < j → B i = (k : Int) + 1) ∧ HeapAt wq p r n (clearTo B k j) (clearTo V k j) ∧ Fr (OneB r) w wq)
    (fun t _ => n - (intOf t).toNat)
  case atStart => exact ⟨k, Nat.le_refl _, by omega, rfl, fun i h1 h2 => absurd h2 (by omega), h.congr (clearTo_start B k) (clearTo_start V k), Fr.refl _ _⟩
  case round =>
    obtain ⟨j, hj1, hj2, rfl, hall, hq, hFq⟩ := hrel
    have Hall : Hid (∀ i, k ≤ i → i < j → B i = (k : Int) + 1) := hall
    clear hall
    by_cases hgo : j < n ∧ B j = (k : Int) + 1
    · obtain ⟨hjn, hjb⟩ := hgo
      have hqp := hq.ptr
      have hqb := hq.blk j hjn
      have hqv := hq.val j hjn
      have hqf := hq.frz (j * 2)
      have hqg := hq.frz (j * 2 + 1)
      rw [clearTo_at] at hqb
      have hjb' : (B j == (k : Int) + 1) = true := by simpa using hjb
      have Hjb : Hid (B j = (k : Int) + 1) := hjb
      clear hjb
      have hset := ((hq.setBlk hjn 0 (by omega) (by omega)).setVal hjn 0).congr (clearTo_step B hj1) (clearTo_step V hj1)
      have hFs := (hFq.setCell (p := ⟨r, j * 2, none⟩) (fun _ => rfl) (.int .i64 0)).setCell (p := ⟨r, j * 2 + 1, none⟩) (fun _ => rfl) (.int .i64 0)
      have H : Hid (HeapAt ((wr.setCell ⟨r, j * 2, none⟩ (.int .i64 0)).setCell ⟨r, j * 2 + 1, none⟩ (.int .i64 0)) p r n (clearTo B k (j + 1)) (clearTo V k (j + 1)) ∧ Fr (OneB r) w ((wr.setCell ⟨r, j * 2, none⟩ (.int .i64 0)).setCell ⟨r, j * 2 + 1, none⟩ (.int .i64 0))) := ⟨hset, hFs⟩
      clear hset hFs hq hFq
      go_wp2
      go_roundw
      case rel => exact ⟨j + 1, by omega, by omega, by go_num, all_step Hall.out Hjb.out, H.out.1, H.out.2⟩
      case measure => simp [intOf]; omega
    · have Hstop : Hid (j = n ∨ B j ≠ (k : Int) + 1) := stop_at hj2 hgo
      have hkj : k < j := lt_of_stop hj1 hk Hs.out Hstop.out
      have hqp := hq.ptr
      have hqb : j < n → wr.cell? ⟨r, j * 2, none⟩ = some (.int .i64 (B j)) := fun hjn => by have := hq.blk j hjn; rwa [clearTo_at] at this
      have hjb : j < n → (B j == (k : Int) + 1) = false := fun hjn => by
        rcases Hstop.out with h | h
        · omega
        · simpa using h
      clear hgo
      by_cases hjn : j < n
      all_goals
        go_wp2
        go_ret
        exact ⟨rfl, j, hkj, hj2, Hall.out, Hstop.out, hq, hFq⟩
end Go.Proofs.Ythcjcjfgdgnljaa
