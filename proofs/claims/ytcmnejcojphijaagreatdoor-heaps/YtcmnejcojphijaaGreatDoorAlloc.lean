import Derived.Test.YtcmnejcojphijaaGreatDoorNextRun
namespace Go.Proofs.YtcmnejcojphijaaGreatDoor
open Go.RowKit

/-- k free words from a on -/
def FreeAt (B : Nat → Int) (n k a : Nat) : Prop := a + k ≤ n ∧ ∀ i, a ≤ i → i < a + k → B i = 0
def markTo (B : Nat → Int) (a j : Nat) : Nat → Int := fun i => if a ≤ i ∧ i < j then (a : Int) + 1 else B i
def cellInt (w : World) (b o : Nat) : Int := match w.cell? ⟨b, o, none⟩ with | some (.int _ q) => q | _ => 0
theorem cellInt_of {w : World} {b o : Nat} {q : Int} (h : w.cell? ⟨b, o, none⟩ = some (.int .i64 q)) : cellInt w b o = q := by simp [cellInt, h]

theorem free_first {B : Nat → Int} {n k a z : Nat} (hk : 1 ≤ k) (h : RunFrom B n 0 a z) : ∀ b, FreeAt B n k b → a ≤ b := fun b hb => by
  by_cases e : a ≤ b
  · exact e
  · exact absurd (hb.2 b (Nat.le_refl _) (by omega)) (h.skip b (Nat.zero_le _) (by omega))
theorem free_next {B : Nat → Int} {n k f a z a' z' : Nat} (hk : 1 ≤ k) (h : RunFrom B n f a z) (h' : RunFrom B n z a' z') (hlen : z < a + k) (hf : ∀ b, FreeAt B n k b → a ≤ b) : ∀ b, FreeAt B n k b → a' ≤ b := fun b hb => by
  have h1 := hf b hb
  have hz : z ≤ b := by
    by_cases e : z ≤ b
    · exact e
    · rcases h.stop with hs | hs
      · have := hb.1; omega
      · exact absurd (hb.2 z (by omega) (by omega)) hs
  by_cases e : a' ≤ b
  · exact e
  · exact absurd (hb.2 b (Nat.le_refl _) (by omega)) (h'.skip b hz (by omega))
theorem next_later {B : Nat → Int} {n f a z a' z' : Nat} (h : RunFrom B n f a z) (h' : RunFrom B n z a' z') : z < z' ∨ (z = n ∧ a' = n ∧ z' = n) := by
  have h1 := h'.fa
  have h2 := h'.ae
  have h3 := h'.en
  rcases h.stop with hs | hs
  · exact .inr ⟨hs, by omega, by omega⟩
  · rcases h'.top with ht | ht
    · have := h.en
      by_cases e : z < z'
      · exact .inl e
      · exact .inr ⟨by omega, by omega, by omega⟩
    · refine .inl ?_
      by_cases e : a' = z
      · subst e; exact absurd ht hs
      · omega
theorem no_room {B : Nat → Int} {n k f a z : Nat} (hk : 1 ≤ k) (h : RunFrom B n f a z) (hl : a = z) (hf : ∀ b, FreeAt B n k b → a ≤ b) : ∀ b, ¬ FreeAt B n k b := fun b hb => by
  have h1 := hf b hb
  have h2 := hb.1
  subst hl
  rcases h.stop with hs | hs
  · omega
  · rcases h.top with ht | ht
    · omega
    · exact hs ht
theorem has_room {B : Nat → Int} {n k f a z : Nat} (h : RunFrom B n f a z) (hl : a + k ≤ z) : FreeAt B n k a :=
  ⟨by have := h.en; omega, fun i h1 h2 => h.free i h1 (by omega)⟩

theorem markTo_start (B : Nat → Int) (a : Nat) {n : Nat} : ∀ i, i < n → markTo B a a i = B i := fun i _ => by
  unfold markTo; rw [if_neg (by omega)]
theorem markTo_step (B : Nat → Int) {a j : Nat} (h : a ≤ j) {n : Nat} : ∀ i, i < n → markTo B a (j + 1) i = upd (markTo B a j) j ((a : Int) + 1) i := fun i _ => by
  unfold markTo upd
  by_cases e : i = j
  · subst e; rw [if_pos (by omega), if_pos rfl]
  · rw [if_neg e]
    by_cases e2 : a ≤ i ∧ i < j
    · rw [if_pos (by omega)]; exact (if_pos e2).symm
    · rw [if_neg (by omega)]; exact (if_neg e2).symm

set_option maxHeartbeats 400000 in
theorem alloc_arg (w : World) (p : Nat) (k : Int) (hk : k < 1 ∨ 64 < k) :
    Calls Tryz.prog 92 #[.pointer (some ⟨p, 0, none⟩), .int .i64 k] w fun e w' => e = .returned (.tuple #[.int .i64 0, .int .i64 5]) ∧ w' = w := by
  rcases hk with hk | hk
  · go_enter Tryz.func92, Tryz.ntmps92
    go_wp2
    go_ret2
    exact ⟨rfl, rfl⟩
  · have hk0 : ¬ k < 1 := by omega
    go_enter Tryz.func92, Tryz.ntmps92
    go_wp2
    go_ret2
    exact ⟨rfl, rfl⟩

set_option maxHeartbeats 1000000 in
theorem alloc_any (w : World) (p r n : Nat) (B V : Nat → Int) (k : Nat) (h : HeapAt w p r n B V) (hk1 : 1 ≤ k) (hk2 : k ≤ 64) :
    Calls Tryz.prog 92 #[.pointer (some ⟨p, 0, none⟩), .int .i64 (k : Int)] w fun e w' =>
      (∃ a : Nat, FreeAt B n k a ∧ (∀ b, FreeAt B n k b → a ≤ b) ∧ e = .returned (.tuple #[.int .i64 (a : Int), .int .i64 0]) ∧ HeapAt w' p r n (markTo B a (a + k)) V ∧ Fr (OneB r) w w') ∨
      ((∀ b, ¬ FreeAt B n k b) ∧ e = .returned (.tuple #[.int .i64 0, .int .i64 6]) ∧ Fr NoB w w') := by
  have hn := h.hi
  have hd1 : (decide ((k : Int) < 1)) = false := by simp; omega
  have hd2 : (decide ((64 : Int) < (k : Int))) = false := by simp; omega
  go_enter Tryz.func92, Tryz.ntmps92
  go_wp2_with fail
  refine (nextRun_any _ p r n B V 0 h (Nat.zero_le _)).mono ?_
  rintro e w1 ⟨a0, z0, rfl, hr0, hf0⟩
  go_wp2_with fail
  go_loopw [] (fun wr => ∃ f a z : Nat, RunFrom B n f a z ∧ (∀ b, FreeAt B n k b → a ≤ b) ∧ wr.cell? ⟨w1.heap.size, 0, none⟩ = some (.int .i64 a) ∧ wr.cell? ⟨w1.heap.size, 1, none⟩ = some (.int .i64 ((z : Int) - (a : Int))) ∧
      (∀ o, wr.frozen? ⟨w1.heap.size, o, none⟩ = false) ∧ Fr NoB w wr ∧ w1.heap.size < wr.heap.size)
    (fun wr => (2 * ((n : Int) - (cellInt wr w1.heap.size 0 + cellInt wr w1.heap.size 1)) + min (cellInt wr w1.heap.size 1) 1).toNat)
  case atStart => exact ⟨0, a0, z0, hr0, free_first hk1 hr0, by simp, by simp, fun o => by simp, hf0.alloc _, by simp⟩
  case round =>
    obtain ⟨f, a, z, hr, hfr, hc0, hc1, hfz, hF, hsz⟩ := hrel
    have hae := hr.ae
    have hen := hr.en
    have hW : HeapAt wr p r n B V := h.no hF
    have Hfr : Hid (∀ b, FreeAt B n k b → a ≤ b) := hfr
    clear hfr
    by_cases hlen : a < z ∧ z < a + k
    · obtain ⟨hl1, hl2⟩ := hlen
      go_wp2_with fail
      rw [show (a : Int) + ((z : Int) - (a : Int)) = (z : Int) from by omega]
      refine (nextRun_any _ p r n B V z hW hen).mono ?_
      rintro e w2 ⟨a', z', rfl, hr', hf'⟩
      have hlat := next_later hr hr'
      have hR := free_next hk1 hr hr' hl2 Hfr.out
      have hae' := hr'.ae
      have hen' := hr'.en
      have hc0' := hf'.cell_some hc0 id
      have hc1' := hf'.cell_some hc1 id
      have hfz' : ∀ o, w2.frozen? ⟨w1.heap.size, o, none⟩ = false := fun o => (hf'.frozen (p := ⟨w1.heap.size, o, none⟩) hsz id).trans (hfz o)
      have hfa := hfz' 0
      have hfb := hfz' 1
      have HR : Hid (∀ b, FreeAt B n k b → a' ≤ b) := hR
      have HL : Hid (z < z' ∨ (z = n ∧ a' = n ∧ z' = n)) := hlat
      have hs2 := hf'.size
      have hgw : w.heap.size ≤ w1.heap.size := hf0.size
      clear hR hlat
      go_wp2_with fail
      go_roundw
      case rel =>
        refine ⟨z, a', z', hr', HR.out, (two_set hc0' hc1').1, (two_set hc0' hc1').2, fun o => by simp [hfz'], ?_, by simp; omega⟩
        exact ((hF.trans hf').setCell (fun hlt => absurd hlt (by simp; omega)) _).setCell (fun hlt => absurd hlt (by simp; omega)) _
      case measure =>
        have hL := HL.out
        rw [cellInt_of hc0, cellInt_of hc1, cellInt_of (two_set hc0' hc1').1, cellInt_of (two_set hc0' hc1').2]
        omega
    · by_cases hz : a = z
      · have hno := no_room hk1 hr hz Hfr.out
        have Hno : Hid (∀ b, ¬ FreeAt B n k b) := hno
        clear hno hlen
        subst hz
        go_wp2
        go_ret2
        exact .inr ⟨Hno.out, rfl, hF⟩
      · have hge : a + k ≤ z := by omega
        have hyes := has_room hr hge
        have Hyes : Hid (FreeAt B n k a) := hyes
        clear hyes
        clear hlen
        have hlt : a < z := by omega
        go_wp2_with fail
        have hgw : w.heap.size ≤ w1.heap.size := hf0.size
        have hrl := h.rl
        have hne : r ≠ w1.heap.size := by omega
        go_loopw [7] (fun t wq => ∃ j : Nat, a ≤ j ∧ j ≤ a + k ∧ t = .int .i64 j ∧ HeapAt wq p r n (markTo B a j) V ∧ wq.cell? ⟨w1.heap.size, 0, none⟩ = some (.int .i64 a) ∧ Fr (OneB r) w wq)
          (fun t _ => a + k - (intOf t).toNat)
        case atStart => exact ⟨a, Nat.le_refl _, by omega, rfl, hW.congr (markTo_start B a) (fun _ _ => rfl), hc0, hF.of_no⟩
        case round =>
          obtain ⟨j, hj1, hj2, rfl, hq, hcq, hFq⟩ := hrel
          by_cases hlt2 : j < a + k
          · have hjn : j < n := by omega
            have hqp := hq.ptr
            have hqb := hq.blk j hjn
            have hqf := hq.frz (j * 2)
            have hset := (hq.setBlk hjn ((a : Int) + 1) (by omega) (by omega)).congr (markTo_step B hj1) (fun _ _ => rfl)
            have hFs := hFq.setCell (p := ⟨r, j * 2, none⟩) (fun _ => rfl) (.int .i64 ((a : Int) + 1))
            have hcs : (wr.setCell ⟨r, j * 2, none⟩ (.int .i64 ((a : Int) + 1))).cell? ⟨w1.heap.size, 0, none⟩ = some (.int .i64 a) := (cell_other (.inl hne)).trans hcq
            have H : Hid (HeapAt (wr.setCell ⟨r, j * 2, none⟩ (.int .i64 ((a : Int) + 1))) p r n (markTo B a (j + 1)) V ∧ Fr (OneB r) w (wr.setCell ⟨r, j * 2, none⟩ (.int .i64 ((a : Int) + 1))) ∧ (wr.setCell ⟨r, j * 2, none⟩ (.int .i64 ((a : Int) + 1))).cell? ⟨w1.heap.size, 0, none⟩ = some (.int .i64 a)) := ⟨hset, hFs, hcs⟩
            clear hset hFs hcs hq hFq
            go_wp2
            go_region
            all_goals
              go_wp2
              go_roundw
              case rel => exact ⟨j + 1, by omega, by omega, by go_num, H.out.1.no ((Fr.refl _ _).drew), H.out.2.2, H.out.2.1.drew⟩
              case measure => simp [intOf]; omega
          · have hja : j = a + k := by omega
            subst hja
            go_wp2
            go_ret2
            exact .inl ⟨a, Hyes.out, Hfr.out, rfl, hq, hFq⟩
end Go.Proofs.YtcmnejcojphijaaGreatDoor
