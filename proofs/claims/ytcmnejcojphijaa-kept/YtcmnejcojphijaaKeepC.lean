import Derived.Test.YtcmnejcojphijaaKeepB
namespace Go.Proofs.Ytcmnejcojphijaa
open Go.RowKit

set_option maxHeartbeats 1000000 in
theorem kreads_yes (w : World) (p r n : Nat) (B V : Nat → Int) (a k b : Nat) (h : HeapAt w p r n B V) (hak : a + k ≤ n) (hB : ∀ j, j < k → B (a + j) ≠ 0)
    (hC : ∀ j, j < k → w.cell? ⟨b, j, none⟩ = some (.int .i64 (V (a + j)))) :
    Calls Try.prog 11 #[.pointer (some ⟨p, 0, none⟩), .agg #[.int .i64 (a : Int), .int .i64 (k : Int), .slice (some ⟨b, 0, none⟩) k k]] w fun e w' => e = .returned (.bool true) ∧ Fr NoB w w' := by
  have hn := h.hi
  have HB : Hid (∀ j, j < k → B (a + j) ≠ 0) := hB
  have HC : Hid (∀ j, j < k → w.cell? ⟨b, j, none⟩ = some (.int .i64 (V (a + j)))) := hC
  clear hB hC
  have h1 : HeapAt (w.alloc (.cells #[.int .i64 (a : Int), .int .i64 (k : Int), .slice (some ⟨b, 0, none⟩) k k] 34)) p r n B V := h.no ((Fr.refl _ _).alloc _)
  have HC1 : Hid (∀ j, j < k → (w.alloc (.cells #[.int .i64 (a : Int), .int .i64 (k : Int), .slice (some ⟨b, 0, none⟩) k k] 34)).cell? ⟨b, j, none⟩ = some (.int .i64 (V (a + j)))) :=
    fun j hj => ((Fr.refl NoB _).alloc _).cell_some (HC.out j hj) id
  go_enter Try.func11, Try.ntmps11
  go_wp2
  go_loop [5] (fun u => ∃ i : Nat, i ≤ k ∧ u = .int .i64 i) (fun u => k - (intOf u).toNat)
  case atStart => exact ⟨0, Nat.zero_le _, rfl⟩
  case round =>
    obtain ⟨i, hi, rfl⟩ := hrel
    by_cases hlt : i < k
    · have hc := HC1.out i hlt
      have hb := HB.out i hlt
      go_wp2_with fail
      rw [show (a : Int) + (i : Int) = ((a + i : Nat) : Int) from by omega]
      refine (sload_yes _ p r n B V (a + i) h1 (by omega) hb).mono ?_
      rintro e w' ⟨rfl, rfl⟩
      clear hb
      go_wp2
      go_round
      case rel => exact ⟨i + 1, by omega, by go_num⟩
      case measure => simp [intOf]; omega
    · go_wp2
      go_ret
      exact ⟨rfl, (Fr.refl _ _).alloc _⟩

structure Held where
  at_ : Nat
  n : Nat
  wb : Nat
def heldZ : Held := ⟨0, 0, 0⟩
def words (h : Held) : Value := .slice (some ⟨h.wb, 0, none⟩) h.n h.n
def hcells (h : Held) : List Value := [.int .i64 (h.at_ : Int), .int .i64 (h.n : Int), words h]
def heldCells (hs : List Held) : List Value := hs.flatMap hcells
theorem heldCells_snoc (hs : List Held) (h : Held) : heldCells (hs ++ [h]) = heldCells hs ++ [.int .i64 (h.at_ : Int), .int .i64 (h.n : Int), words h] := by simp [heldCells, hcells]
theorem heldCells_at (hs : List Held) (i : Nat) (hi : i < hs.length) : (heldCells hs)[i * 3]? = some (.int .i64 ((hs.getD i heldZ).at_ : Int)) ∧ (heldCells hs)[i * 3 + 1]? = some (.int .i64 ((hs.getD i heldZ).n : Int)) ∧ (heldCells hs)[i * 3 + 2]? = some (words (hs.getD i heldZ)) := by
  induction hs generalizing i with
  | nil => simp at hi
  | cons h t ih =>
    have e : heldCells (h :: t) = [.int .i64 (h.at_ : Int), .int .i64 (h.n : Int), words h] ++ heldCells t := by simp [heldCells, hcells]
    rw [e]
    cases i with
    | zero => simp
    | succ i =>
      have := ih i (by simpa using hi)
      have e1 : (i + 1) * 3 = i * 3 + 3 := by omega
      rw [e1]
      simpa [List.getElem?_cons] using this

/-- from what is owned to the row that the readers want -/
theorem heldRow_of {w : World} {base : Nat} {v : Value} {hs : List Held} (h : w.ownsRow base 34 3 v hs.length (heldCells hs)) (hbd : ∀ x ∈ hs, x.at_ + x.n ≤ 4096) (hm : hs.length ≤ 4096) :
    ∃ ao cap, v = .slice ao hs.length cap ∧ HeldRow w ao hs.length (fun i => (hs.getD i heldZ).at_) (fun i => (hs.getD i heldZ).n) (fun i => words (hs.getD i heldZ)) ∧ (∀ g, ao = some ⟨g, 0, none⟩ → v.ownBlock = some g) := by
  have hb : ∀ i, i < hs.length → (hs.getD i heldZ).at_ + (hs.getD i heldZ).n ≤ 4096 := fun i hi => by
    have : hs.getD i heldZ = hs[i] := by simp [hi]
    rw [this]; exact hbd _ (List.getElem_mem hi)
  rcases h.2 with ⟨rfl, hl⟩ | ⟨g, cap, cur, rfl, _, _, _, _, _, _⟩
  · rw [hl]
    refine ⟨none, 0, rfl, ⟨fun h => absurd h (by omega), fun _ i hi => absurd hi (by omega), fun _ i hi => absurd hi (by omega), fun _ i hi => absurd hi (by omega), fun i hi => absurd hi (by omega), by omega⟩, fun g e => by cases e⟩
  · have hc := h.cells (g := g) rfl
    have hadd : ∀ j, (⟨g, 0, none⟩ : Addr).add j = ⟨g, j, none⟩ := fun j => by unfold Addr.add; split <;> simp_all
    refine ⟨some ⟨g, 0, none⟩, cap, rfl, ⟨fun _ => ⟨g, rfl⟩, ?_, ?_, ?_, hb, hm⟩, fun g' e => by cases e; rfl⟩
    · intro g' i hi e; cases e; rw [← hadd]; exact hc _ _ (heldCells_at hs i hi).1
    · intro g' i hi e; cases e; rw [← hadd]; exact hc _ _ (heldCells_at hs i hi).2.1
    · intro g' i hi e; cases e; rw [← hadd]; exact hc _ _ (heldCells_at hs i hi).2.2

theorem Try.infoHeld : (Try.prog.info? 34).map (fun i => (i.zero, i.size, i.bytes)) = some (some (.agg #[.int .i64 0, .int .i64 0, .slice none 0 0]), 3, 40) := by kernel_rfl

theorem wo_step (hs : List Held) (k i : Nat) (hi : i < hs.length) : ((hs.take (i + 1)).eraseIdx k) = if i = k then (hs.take i).eraseIdx k else (hs.take i).eraseIdx k ++ [hs.getD i heldZ] := by
  have hl : (hs.take i).length = i := by simp; omega
  have e : hs.take (i + 1) = hs.take i ++ [hs.getD i heldZ] := by
    rw [List.take_succ_eq_append_getElem hi]; simp [hi]
  rw [e, List.eraseIdx_append, hl]
  by_cases h1 : k < i
  · rw [if_pos h1, if_neg (by omega)]
  · rw [if_neg h1]
    have h2 : (hs.take i).eraseIdx k = hs.take i := List.eraseIdx_of_length_le (by omega)
    by_cases h3 : i = k
    · subst h3; simp [h2]
    · rw [if_neg h3, h2]
      have : k - i = (k - i - 1) + 1 := by omega
      rw [this]; simp

set_option maxHeartbeats 1000000 in
theorem kwithout_any (w : World) (ao : Option Addr) (cap k : Nat) (hs : List Held) (h : HeldRow w ao hs.length (fun i => (hs.getD i heldZ).at_) (fun i => (hs.getD i heldZ).n) (fun i => words (hs.getD i heldZ))) :
    Calls Try.prog 8 #[.slice ao hs.length cap, .int .i64 (k : Int)] w fun e w' =>
      ∃ v, e = .returned v ∧ w'.ownsRow w.heap.size 34 3 v (hs.eraseIdx k).length (heldCells (hs.eraseIdx k)) ∧ Fr NoB w w' := by
  have hm := h.hm
  obtain ⟨i0, hi0, hz0, hz1, hz2⟩ := info_parts Try.infoHeld
  go_enter Try.func8, Try.ntmps8
  go_wp2
  go_loopw [5, 6] (fun t u wr => ∃ i : Nat, i ≤ hs.length ∧ u = .int .i64 i ∧ wr.ownsRow w.heap.size 34 3 t ((hs.take i).eraseIdx k).length (heldCells ((hs.take i).eraseIdx k)) ∧ Fr NoB w wr) (fun _ u _ => hs.length - (intOf u).toNat)
  case atStart => exact ⟨0, Nat.zero_le _, rfl, World.ownsRow_nil _ _ _ _, Fr.refl _ _⟩
  case round =>
    obtain ⟨i, hi, rfl, hown, hF⟩ := hrel
    have hle : ((hs.take i).eraseIdx k).length ≤ 4096 := Nat.le_trans (List.length_eraseIdx_le _ _) (by simp; omega)
    by_cases hlt : i < hs.length
    · obtain ⟨g, rfl⟩ := h.some_ (by omega)
      have HW := show Hid _ from wo_step hs k i hlt
      by_cases hk : i = k
      · have HW' : Hid ((hs.take (i + 1)).eraseIdx k = (hs.take i).eraseIdx k) := HW.out.trans (if_pos hk)
        clear HW
        have hkb : ((i : Int) != (k : Int)) = false := by simp; omega
        clear hk
        go_wp2
        go_roundw
        case rel => exact ⟨i + 1, by omega, by go_num, by rw [HW'.out]; exact hown, hF⟩
        case measure => simp [intOf]; omega
      · have HW' : Hid ((hs.take (i + 1)).eraseIdx k = (hs.take i).eraseIdx k ++ [hs.getD i heldZ]) := HW.out.trans (if_neg hk)
        clear HW
        have hkb : ((i : Int) != (k : Int)) = true := by simp; omega
        clear hk
        generalize hx : hs.getD i heldZ = x at *
        have hr := h.no hF
        have h0 := hr.c0 g i hlt rfl
        have h1 := hr.c1 g i hlt rfl
        have h2 := hr.c2 g i hlt rfl
        simp only [hx] at h0 h1 h2
        have Hx : Hid (hs.getD i heldZ = x) := hx
        clear hr hx
        generalize hl : (hs.take i).eraseIdx k = l at *
        clear hl
        have hsz := hF.size
        go_wp2_with (at_builtin; refine wpList_append_own _ rfl _ _ 28 rfl w.heap.size 34 i0 (.agg #[.int .i64 0, .int .i64 0, .slice none 0 0]) 3 40 Try.underlying28 hi0 hz0 hz1 hz2 rfl (by decide) _ _ _ rfl (hown.alloc _) ⟨wr.heap.size, 0, none⟩ 1 1 [.int .i64 (x.at_ : Int), .int .i64 (x.n : Int), words x] rfl rfl ?c1 ?c2 ?c3 ?c4 ?c5 ?_)
        case c1 =>
          intro j u hj
          match j, hj with
          | 0, hj => simp at hj; subst hj; simp [Addr.add]
          | 1, hj => simp at hj; subst hj; simp [Addr.add]
          | 2, hj => simp at hj; subst hj; simp [Addr.add]
        case c2 => intro u hu; simp at hu; rcases hu with rfl | rfl | rfl <;> rfl
        case c3 => unfold maxLen; omega
        case c4 => omega
        case c5 => simp; omega
        intro v' w2 hown' hgrow _
        have hlt2 := hown.lt
        have hF2 : Fr NoB w w2 := (hF.alloc _).then (Fr.of_grown (S := fun q => u5.ownBlock = some q) hgrow (fun k _ e => e)) (fun q hq e => by have := (hlt2 q e).1; omega)
        clear hgrow hown hlt2
        go_wp2
        go_roundw
        case rel => exact ⟨i + 1, by omega, by go_num, by rw [HW'.out, heldCells_snoc, List.length_append]; exact hown', hF2⟩
        case measure => simp [intOf]; omega
    · have hie : i = hs.length := by omega
      subst hie
      rw [List.take_length] at hown
      go_wp2
      go_ret
      exact ⟨_, rfl, hown, hF⟩
end Go.Proofs.Ytcmnejcojphijaa
