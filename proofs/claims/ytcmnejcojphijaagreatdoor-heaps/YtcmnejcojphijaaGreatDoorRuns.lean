import Derived.Test.YtcmnejcojphijaaGreatDoorAlloc
namespace Go.Proofs.YtcmnejcojphijaaGreatDoor
open Go.RowKit

/-- L: the free runs from lo on. -/
def IsRuns (B : Nat → Int) (n : Nat) : Nat → List (Nat × Nat) → Prop
  | lo, [] => ∀ i, lo ≤ i → i < n → B i ≠ 0
  | lo, (a, l) :: L => lo ≤ a ∧ 0 < l ∧ a + l ≤ n ∧ (∀ i, lo ≤ i → i < a → B i ≠ 0) ∧ (∀ i, a ≤ i → i < a + l → B i = 0) ∧ (a + l = n ∨ B (a + l) ≠ 0) ∧ IsRuns B n (a + l) L

def spanCells (L : List (Nat × Nat)) : List Value := L.flatMap (fun s => [.int .i64 (s.1 : Int), .int .i64 (s.2 : Int)])
theorem spanCells_snoc (L : List (Nat × Nat)) (a l : Nat) : spanCells (L ++ [(a, l)]) = spanCells L ++ [.int .i64 (a : Int), .int .i64 (l : Int)] := by simp [spanCells]

theorem owns_mono {w : World} {base base' : Nat} {e : TypeId} {size : Nat} {v : Value} {n : Nat} {xs : List Value} (h : w.ownsRow base e size v n xs) (hb : base' ≤ base) : w.ownsRow base' e size v n xs := by
  obtain ⟨h1, h2⟩ := h
  refine ⟨h1, ?_⟩
  rcases h2 with h2 | ⟨g, cap, cur, hv, hg, r⟩
  · exact .inl h2
  · exact .inr ⟨g, cap, cur, hv, by omega, r⟩

theorem Tryz.infoSpan : (Tryz.prog.info? 82).map (fun i => (i.zero, i.size, i.bytes)) = some (some (.agg #[.int .i64 0, .int .i64 0]), 2, 16) := by kernel_rfl

theorem runs_step {B : Nat → Int} {n f a z : Nat} {L : List (Nat × Nat)} (h : RunFrom B n f a z) (hlt : a < z) (hL : ∀ M, IsRuns B n f M → IsRuns B n 0 (L ++ M)) : ∀ M, IsRuns B n z M → IsRuns B n 0 ((L ++ [(a, z - a)]) ++ M) := fun M hM => by
  rw [List.append_assoc]
  apply hL
  have e : a + (z - a) = z := by omega
  have hen := h.en
  refine ⟨h.fa, by omega, by omega, h.skip, fun i h1 h2 => h.free i h1 (by omega), ?_, ?_⟩
  · rw [e]; exact h.stop
  · rw [e]; exact hM
theorem runs_end {B : Nat → Int} {n f a z : Nat} {L : List (Nat × Nat)} (h : RunFrom B n f a z) (he : a = z) (hL : ∀ M, IsRuns B n f M → IsRuns B n 0 (L ++ M)) : IsRuns B n 0 L := by
  have := hL [] (fun i h1 h2 => by
    by_cases e : i < a
    · exact h.skip i h1 e
    · exfalso
      subst he
      rcases h.stop with hs | hs
      · omega
      · rcases h.top with ht | ht
        · omega
        · exact hs ht)
  simpa using this

theorem runs_grown {w wr w2 : World} {o : Obj} {g : Nat} {e : TypeId} {size m : Nat} {v : Value} {xs : List Value} {x0 x1 : Value} (hF : Fr NoB w wr) (hgw : w.heap.size ≤ g)
    (hown : wr.ownsRow (g + 1) e size v m xs) (hg : (wr.alloc o).grownBy w2 v.ownBlock)
    (hc0 : wr.cell? ⟨g, 0, none⟩ = some x0) (hc1 : wr.cell? ⟨g, 1, none⟩ = some x1) (hfz : ∀ o, wr.frozen? ⟨g, o, none⟩ = false) (hsz : g < wr.heap.size) :
    Fr NoB w w2 ∧ w2.cell? ⟨g, 0, none⟩ = some x0 ∧ w2.cell? ⟨g, 1, none⟩ = some x1 ∧ (∀ o, w2.frozen? ⟨g, o, none⟩ = false) ∧ g < w2.heap.size := by
  have hlt := hown.lt
  have hfr : Fr (fun k => v.ownBlock = some k) wr w2 := ((Fr.refl _ wr).alloc o).then (Fr.of_grown (S := fun k => v.ownBlock = some k) hg (fun k _ e => e)) (fun _ _ h => h)
  have hng : ¬ v.ownBlock = some g := fun e => by have := (hlt g e).1; omega
  refine ⟨hF.then hfr (fun i hi e => by have := (hlt i e).1; omega), hfr.cell_some hc0 hng, hfr.cell_some hc1 hng, fun o => ?_, ?_⟩
  · exact (hfr.frozen (p := ⟨g, o, none⟩) hsz hng).trans (hfz o)
  · have := hfr.size; omega

set_option maxHeartbeats 1000000 in
theorem runs_any (w : World) (p r n : Nat) (B V : Nat → Int) (h : HeapAt w p r n B V) :
    Calls Tryz.prog 125 #[.pointer (some ⟨p, 0, none⟩)] w fun e w' =>
      ∃ v L, e = .returned v ∧ IsRuns B n 0 L ∧ w'.ownsRow w.heap.size 82 2 v L.length (spanCells L) ∧ Fr NoB w w' := by
  have hn := h.hi
  obtain ⟨i0, hi, hz0, hz1, hz2⟩ := info_parts Tryz.infoSpan
  go_enter Tryz.func125, Tryz.ntmps125
  go_wp2_with fail
  refine (nextRun_any _ p r n B V 0 h (Nat.zero_le _)).mono ?_
  rintro e w1 ⟨a0, z0, rfl, hr0, hf0⟩
  go_wp2_with fail
  go_loopw [3] (fun t wr => ∃ (f a z : Nat) (L : List (Nat × Nat)), RunFrom B n f a z ∧ (∀ M, IsRuns B n f M → IsRuns B n 0 (L ++ M)) ∧ L.length ≤ f ∧ wr.ownsRow (w1.heap.size + 1) 82 2 t L.length (spanCells L) ∧
      wr.cell? ⟨w1.heap.size, 0, none⟩ = some (.int .i64 a) ∧ wr.cell? ⟨w1.heap.size, 1, none⟩ = some (.int .i64 ((z : Int) - (a : Int))) ∧
      (∀ o, wr.frozen? ⟨w1.heap.size, o, none⟩ = false) ∧ Fr NoB w wr ∧ w1.heap.size < wr.heap.size)
    (fun _ wr => (2 * ((n : Int) - (cellInt wr w1.heap.size 0 + cellInt wr w1.heap.size 1)) + min (cellInt wr w1.heap.size 1) 1).toNat)
  case atStart => exact ⟨0, a0, z0, [], hr0, fun M hM => hM, Nat.zero_le _, World.ownsRow_nil _ _ _ _, by simp, by simp, fun o => by simp, hf0.alloc _, by simp⟩
  case round =>
    obtain ⟨f, a, z, L, hr, hL, hLl, hown, hc0, hc1, hfz, hF, hsz⟩ := hrel
    have hfa := hr.fa
    have hae := hr.ae
    have hen := hr.en
    have hgw : w.heap.size ≤ w1.heap.size := hf0.size
    have HL : Hid (∀ M, IsRuns B n f M → IsRuns B n 0 (L ++ M)) := hL
    clear hL
    by_cases hlt : a < z
    · have hW : HeapAt wr p r n B V := h.no hF
      have HOld : Hid (cellInt wr w1.heap.size 0 = (a : Int) ∧ cellInt wr w1.heap.size 1 = (z : Int) - (a : Int)) := ⟨cellInt_of hc0, cellInt_of hc1⟩
      go_wp2_with (at_builtin; refine wpList_append_own _ rfl _ _ 67 rfl (w1.heap.size + 1) 82 i0 (.agg #[.int .i64 0, .int .i64 0]) 2 16 Tryz.underlying67 hi hz0 hz1 hz2 rfl (by decide) _ _ _ rfl (hown.alloc _) ⟨wr.heap.size, 0, none⟩ 1 1 [.int .i64 (a : Int), .int .i64 ((z : Int) - (a : Int))] rfl rfl ?c1 ?c2 ?c3 ?c4 ?c5 ?_)
      case c1 =>
        intro j u hj
        match j, hj with
        | 0, hj => simp at hj; subst hj; simp [Addr.add]
        | 1, hj => simp at hj; subst hj; simp [Addr.add]
      case c2 => intro u hu; simp at hu; rcases hu with rfl | rfl <;> rfl
      case c3 => unfold maxLen; omega
      case c4 => omega
      case c5 => simp; omega
      intro v' w2 hown' hgrow _
      obtain ⟨hF2, hc0', hc1', hfz', hs2⟩ := runs_grown hF hgw hown hgrow hc0 hc1 hfz hsz
      have hW2 : HeapAt w2 p r n B V := h.no hF2
      have Hown' : Hid (w2.ownsRow (w1.heap.size + 1) 82 2 v' (L.length + 1) (spanCells L ++ [.int .i64 (a : Int), .int .i64 ((z : Int) - (a : Int))])) := hown'
      clear hown' hgrow hown hc0 hc1 hfz hW
      go_wp2_with fail
      rw [show (a : Int) + ((z : Int) - (a : Int)) = (z : Int) from by omega]
      refine (nextRun_any _ p r n B V z hW2 hen).mono ?_
      rintro e w3 ⟨a', z', rfl, hr', hf'⟩
      have HLat : Hid (z < z' ∨ (z = n ∧ a' = n ∧ z' = n)) := next_later hr hr'
      have hae' := hr'.ae
      have hen' := hr'.en
      have hd0 := hf'.cell_some hc0' id
      have hd1 := hf'.cell_some hc1' id
      have hdz : ∀ o, w3.frozen? ⟨w1.heap.size, o, none⟩ = false := fun o => (hf'.frozen (p := ⟨w1.heap.size, o, none⟩) hs2 id).trans (hfz' o)
      have hdza := hdz 0
      have hdzb := hdz 1
      have hs3 := hf'.size
      have Hold : Hid (cellInt wr w1.heap.size 0 = (a : Int) ∧ cellInt wr w1.heap.size 1 = (z : Int) - (a : Int)) := HOld
      clear HOld
      go_wp2_with fail
      go_roundw
      case rel =>
        refine ⟨z, a', z', L ++ [(a, z - a)], hr', runs_step hr hlt HL.out, by simp; omega, ?_, (two_set hd0 hd1).1, (two_set hd0 hd1).2, fun o => by simp [hdz], ?_, by simp; omega⟩
        · rw [spanCells_snoc, List.length_append, show ((z - a : Nat) : Int) = (z : Int) - (a : Int) from by omega]
          have ho := (hf'.owns Hown'.out (fun _ _ h => h))
          exact ownsRow_setCell_below (ownsRow_setCell_below ho (Nat.lt_succ_self _) _) (Nat.lt_succ_self _) _
        · exact ((hF2.trans hf').setCell (fun hlt => absurd hlt (by simp; omega)) _).setCell (fun hlt => absurd hlt (by simp; omega)) _
      case measure =>
        have hL := HLat.out
        rw [Hold.out.1, Hold.out.2, cellInt_of (two_set hd0 hd1).1, cellInt_of (two_set hd0 hd1).2]
        omega
    · have hz : a = z := by omega
      have hend := runs_end hr hz HL.out
      have Hend : Hid (IsRuns B n 0 L) := hend
      clear hend
      subst hz
      go_wp2
      go_ret
      exact ⟨_, L, rfl, Hend.out, owns_mono hown (by omega), hF⟩
end Go.Proofs.YtcmnejcojphijaaGreatDoor
