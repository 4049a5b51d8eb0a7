/-
  The document's syntax: a byte of the text comes to the top of the stack.
-/
import Derived.Test.YtcmnejcojphijaaSynT
namespace Go.Proofs.Ytcmnejcojphijaa
open Go.RowKit
set_option linter.unusedVariables false

theorem owns_cell {w : World} {base : Nat} {e : TypeId} {size g n cap : Nat} {xs : List Value} (h : w.ownsRow base e size (.slice (some ⟨g, 0, none⟩) n cap) n xs) {k : Nat} {u : Value} (hk : xs[k]? = some u) : w.cell? ⟨g, k, none⟩ = some u := by
  rcases h.2 with ⟨h0, _⟩ | ⟨g', cap', cur, hv, hb, hg, hn, hc, hs, ht⟩
  · cases h0
  · cases hv
    have hkl : k < xs.length := (List.getElem?_eq_some_iff.1 hk).1
    rw [h.1] at hkl
    rw [← ht, List.getElem?_take_of_lt hkl] at hk
    have : cur[k]? = some u := by simpa using hk
    simp [World.cell?, hg, this]

theorem StkAt.top {w : World} {kp base : Nat} {v : Value} {stk : List (Nat × Bool)} {e : Nat × Bool} (h : StkAt w kp base v (stk ++ [e])) :
    ∃ g cap, v = .slice (some ⟨g, 0, none⟩) (stk.length + 1) cap ∧ g ≠ kp ∧ base ≤ g ∧ g < w.heap.size ∧ stk.length + 1 ≤ cap ∧ cap ≤ maxLen ∧
      w.cell? ⟨g, stk.length * 2, none⟩ = some (.int .u8 (e.1 : Int)) ∧ w.cell? ⟨g, stk.length * 2 + 1, none⟩ = some (.bool e.2) := by
  have hr := h.row
  have hl : (stk ++ [e]).length = stk.length + 1 := by simp
  rw [hl] at hr
  have hlen : (stk.flatMap entC).length = stk.length * 2 := by
    have := hr.1
    simp [entC] at this ⊢
    omega
  have hx : (stk ++ [e]).flatMap entC = stk.flatMap entC ++ [.int .u8 (e.1 : Int), .bool e.2] := by simp [entC]
  rw [hx] at hr
  have hr0 := hr
  rcases hr.2 with ⟨_, h0⟩ | ⟨g, cap, cur, rfl, hb, hg, hn, hc, hs, ht⟩
  · omega
  · refine ⟨g, cap, rfl, fun e2 => h.ne (by rw [e2]; rfl), hb, (Array.getElem?_eq_some_iff.1 hg).1, hn, hc, owns_cell hr0 ?_, owns_cell hr0 ?_⟩
    · rw [List.getElem?_append_right (by omega), hlen, Nat.sub_self]; rfl
    · rw [List.getElem?_append_right (by omega), hlen, show stk.length * 2 + 1 - stk.length * 2 = 1 by omega]; rfl

theorem StkAt.pop {w w2 : World} {kp base g cap : Nat} {stk : List (Nat × Bool)} {e : Nat × Bool} (h : StkAt w kp base (.slice (some ⟨g, 0, none⟩) (stk.length + 1) cap) (stk ++ [e])) (hF : Fr NoB w w2) :
    StkAt (w2.setCell ⟨kp, 0, none⟩ (.slice (some ⟨g, 0, none⟩) stk.length cap)) kp base (.slice (some ⟨g, 0, none⟩) stk.length cap) stk := by
  have hkl : kp < w.heap.size := World.block_lt_of_cell? _ _ h.c
  have hne : g ≠ kp := fun e2 => h.ne (by rw [e2]; rfl)
  refine ⟨cell_same (hF.cell_some h.c id), fun o => by rw [World.frozen?_setCell]; exact (hF.frozen (p := ⟨kp, o, none⟩) hkl id).trans (h.f o), ?_, fun e2 => hne (by simpa [Value.ownBlock] using e2)⟩
  have hr := h.row
  have hl : (stk ++ [e]).length = stk.length + 1 := by simp
  rw [hl] at hr
  have hx : (stk ++ [e]).flatMap entC = stk.flatMap entC ++ entC e := by simp
  rw [hx] at hr
  have hlen : (stk.flatMap entC).length = stk.length * 2 := by
    have := hr.1
    simp [entC] at this ⊢
    omega
  have h2 := ownsRow_pop hlen hr
  exact ((Fr.refl (OneB kp) w2).setCell (p := ⟨kp, 0, none⟩) (fun _ => rfl) _).owns (hF.owns h2 (fun k _ => id)) (fun k hk2 e2 => by have e3 : k = kp := e2; subst e3; exact hne (by simpa [Value.ownBlock] using hk2))

theorem StkAt.no {w w2 : World} {kp base : Nat} {v : Value} {stk : List (Nat × Bool)} (h : StkAt w kp base v stk) (hF : Fr NoB w w2) : StkAt w2 kp base v stk :=
  ⟨hF.cell_some h.c id, fun o => (hF.frozen (p := ⟨kp, o, none⟩) (show kp < w.heap.size from World.block_lt_of_cell? w ⟨kp, 0, none⟩ h.c) id).trans (h.f o), hF.owns h.row (fun k _ => id), h.ne⟩
theorem StkAt.form {w : World} {kp base : Nat} {v : Value} {stk : List (Nat × Bool)} (h : StkAt w kp base v stk) : ∃ ao cap, v = .slice ao stk.length cap := by
  rcases h.row.2 with ⟨hv, h0⟩ | ⟨g, cap, cur, hv, _⟩
  · exact ⟨none, 0, by rw [hv, h0]⟩
  · exact ⟨_, _, hv⟩

def StkS (kp base : Nat) : Nat → Prop := fun k => k = kp ∨ base ≤ k

theorem cell_new (w : World) (cs : Array Value) (ty : TypeId) {k n : Nat} {u : Value} (hn : n = w.heap.size) (h : cs[k]? = some u) : (w.alloc (.cells cs ty)).cell? ⟨n, k, none⟩ = some u := by
  subst hn
  rw [World.cell?_alloc_at _ _ _ _ rfl]
  exact h
theorem setCell_size (w : World) (p : Addr) (u : Value) : (w.setCell p u).heap.size = w.heap.size := by simp [World.setCell]

theorem StkS.sub {w : World} {kp base : Nat} {v : Value} {stk : List (Nat × Bool)} (h : StkAt w kp base v stk) {k : Nat} (e : k = kp ∨ v.ownBlock = some k) : StkS kp base k := by
  rcases e with e | e
  · exact .inl e
  · rcases h.row.2 with ⟨hv, _⟩ | ⟨g, cap, cur, hv, hb, _⟩
    · rw [hv] at e; simp [Value.ownBlock] at e
    · rw [hv] at e; simp [Value.ownBlock] at e; exact .inr (by omega)
theorem bt_str {b c : Nat} {s : ByteArray} (hs : s = ⟨((chosenN b c).1.map UInt8.ofNat).toArray⟩) (hc : c < 256) {j : Nat} (hj : j < s.size) : bt s j = (chosenN b c).1.getD j 0 := by
  have hz : s.size = (chosenN b c).1.length := by rw [hs]; simp [ByteArray.size]
  rw [bt_in hj]
  have hl : j < (chosenN b c).1.length := by omega
  have hm := chosenN_lt (b := b) hc _ (List.getElem_mem hl)
  simp [hl]
  subst hs
  show (((chosenN b c).1.map UInt8.ofNat).toArray[j]).toNat = _
  simp
  omega
theorem bytes_some {s : ByteArray} {n : Nat} (hn : s.size = n + 1) : s.toList.isEmpty = false := by
  rw [ByteArray.toList_eq]
  cases s
  simp [ByteArray.size] at hn ⊢
  intro e
  rw [e] at hn
  simp at hn
theorem stmtN_len (c : Nat) : (stmtN c).length ≤ 9 := by
  unfold stmtN
  repeat' split
  all_goals simp
theorem chosenN_len (b c : Nat) : (chosenN b c).1.length ≤ 9 := by
  unfold chosenN
  repeat' split
  · exact stmtN_len c
  all_goals simp

/-- what a text of a part becomes, in the stack's order -/
theorem push_exp {b c : Nat} {es : List (Nat × Bool)} (h : expand b c = some es) (s : ByteArray) (hs : s = ⟨((chosenN b c).1.map UInt8.ofNat).toArray⟩) (hc : c < 256) : pushS s (ownL (chosenN b c).1 c) s.size = es.reverse := by
  have hz : s.size = (chosenN b c).1.length := by rw [hs]; simp [ByteArray.size]
  have hbt : ∀ j, j < s.size → bt s j = (chosenN b c).1.getD j 0 := fun j hj => by
    rw [bt_in hj]
    have hl : j < (chosenN b c).1.length := by omega
    have hm := chosenN_lt (b := b) hc _ (List.getElem_mem hl)
    simp [hl]
    subst hs
    show (((chosenN b c).1.map UInt8.ofNat).toArray[j]).toNat = _
    simp
    omega
  unfold expand at h
  split at h
  · injection h with h
    rw [← h, List.reverse_reverse]
    unfold pushS pushL
    rw [hz]
    apply List.map_congr_left
    intro j hj
    rw [List.mem_range] at hj
    unfold entS entL
    rw [hbt j (by omega), hz]
  · cases h
end Go.Proofs.Ytcmnejcojphijaa
