import Derived.Test.YtcmnejcojphijaaKeepM
namespace Go.Proofs.Ytcmnejcojphijaa
open Go.RowKit

theorem spanCells_at (L : List (Nat × Nat)) (i : Nat) (hi : i < L.length) : (spanCells L)[i * 2]? = some (.int .i64 ((L.getD i (0, 0)).1 : Int)) ∧ (spanCells L)[i * 2 + 1]? = some (.int .i64 ((L.getD i (0, 0)).2 : Int)) := by
  induction L generalizing i with
  | nil => simp at hi
  | cons s t ih =>
    have e : spanCells (s :: t) = [.int .i64 (s.1 : Int), .int .i64 (s.2 : Int)] ++ spanCells t := by simp [spanCells]
    rw [e]
    cases i with
    | zero => simp
    | succ i =>
      have := ih i (by simpa using hi)
      have e1 : (i + 1) * 2 = i * 2 + 2 := by omega
      rw [e1]
      simpa [List.getElem?_cons] using this

theorem spanRow_of {w : World} {base : Nat} {v : Value} {L : List (Nat × Nat)} (h : w.ownsRow base 48 2 v L.length (spanCells L)) :
    ∃ ao cap, v = .slice ao L.length cap ∧ SpanRow w ao L.length (fun i => (L.getD i (0, 0)).1) (fun i => (L.getD i (0, 0)).2) := by
  rcases h.2 with ⟨rfl, hl⟩ | ⟨g, cap, cur, rfl, _, _, _, _, _, _⟩
  · rw [hl]
    exact ⟨none, 0, rfl, ⟨fun h => absurd h (by omega), fun _ i hi => absurd hi (by omega), fun _ i hi => absurd hi (by omega)⟩⟩
  · have hc := h.cells (g := g) rfl
    have hadd : ∀ j, (⟨g, 0, none⟩ : Addr).add j = ⟨g, j, none⟩ := fun j => by unfold Addr.add; split <;> simp_all
    refine ⟨some ⟨g, 0, none⟩, cap, rfl, ⟨fun _ => ⟨g, rfl⟩, ?_, ?_⟩⟩
    · intro g' i hi e; cases e; rw [← hadd]; exact hc _ _ (spanCells_at L i hi).1
    · intro g' i hi e; cases e; rw [← hadd]; exact hc _ _ (spanCells_at L i hi).2

/-- one more of the rest ends -/
theorem rest_step {n q : Nat} {B V : Nat → Int} {hs : List Held} (hi : Inv n B V (hs.drop q)) (hq : q < hs.length) :
    hs[q].at_ < n ∧ B hs[q].at_ = (hs[q].at_ : Int) + 1 ∧ ∀ z, hs[q].at_ < z → z ≤ n → (∀ i, hs[q].at_ ≤ i → i < z → B i = (hs[q].at_ : Int) + 1) → (z = n ∨ B z ≠ (hs[q].at_ : Int) + 1) →
      Inv n (clearTo B hs[q].at_ z) (clearTo V hs[q].at_ z) (hs.drop (q + 1)) := by
  have hd : hs.drop q = hs[q] :: hs.drop (q + 1) := List.drop_eq_getElem_cons hq
  have hm : hs[q] ∈ hs.drop q := by rw [hd]; exact List.mem_cons_self
  have hp := hi.pos _ hm
  refine ⟨by omega, hi.own _ hm _ (Nat.le_refl _) (by omega), fun z h1 h2 h3 h4 => ?_⟩
  have hl : 0 < (hs.drop q).length := by rw [List.length_drop]; omega
  have h0 : (hs.drop q)[0] = hs[q] := by simp
  have hz := hi.end_ hl (z := z) (by rw [h0]; exact h1) h2 (by rw [h0]; exact h3) (by rw [h0]; exact h4)
  have hf := hi.free hl
  have he : (hs.drop q).eraseIdx 0 = hs.drop (q + 1) := by simp
  rw [he, h0] at hf
  rw [h0] at hz
  rw [hz]
  exact hf
theorem rest_end {n : Nat} {B V : Nat → Int} (hi : Inv n B V []) : ∀ i, i < n → B i = 0 := fun i h => by
  by_cases e : B i = 0
  · exact e
  · obtain ⟨x, hx, _⟩ := hi.cov i h e
    simp at hx
end Go.Proofs.Ytcmnejcojphijaa
