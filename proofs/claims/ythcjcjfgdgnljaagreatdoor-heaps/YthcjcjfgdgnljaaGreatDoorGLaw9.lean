/-
  Law9: one behind the other.
-/
import Derived.Test.YthcjcjfgdgnljaaGreatDoorGLaw8e
namespace Go.Proofs.YthcjcjfgdgnljaaGreatDoor
open Go.RowKit

theorem lmade_any (w0 w : World) (wp bd : Nat) (a : Int) (h : WOkH w0 w wp bd) (hbd : bd ≤ 2932031007402) :
    Calls Tryz.prog 12 #[.pointer (some ⟨wp, 0, none⟩), .int .i64 a] w fun e w' => e = .returned (.bool true) ∧ WOkH w0 w' wp (bd + 1) := by
  obtain ⟨own, hv, lv, hs, ls, hW, hpos⟩ := h
  by_cases ha : a < 1 ∨ 4096 < a
  · refine (lmade_no w wp a ha).mono ?_
    rintro e w' ⟨rfl, hF⟩
    exact ⟨rfl, hW.okH hF hpos⟩
  · obtain ⟨n, rfl⟩ := Int.eq_ofNat_of_zero_le (show 0 ≤ a by omega)
    exact lmade_yes w0 w wp own bd hv lv hs ls n (by omega) (by omega) hW hbd

set_option maxHeartbeats 1000000 in
theorem lheap1 (w0 w : World) (wp bd : Nat) (hI a b : Int) (s : ByteArray) (h : WOkH w0 w wp bd) (hbd : bd ≤ 2932031007402) :
    Calls Tryz.prog 25 #[.pointer (some ⟨wp, 0, none⟩), .agg #[.int .i64 1, .int .i64 hI, .int .i64 a, .int .i64 b, .string s]] w fun e w' => e = .returned (.bool true) ∧ WOkH w0 w' wp (bd + 1) := by
  have HM : Hid (∀ W : World, Fr NoB w W → Calls Tryz.prog 12 #[.pointer (some ⟨wp, 0, none⟩), .int .i64 a] W fun e w' => e = .returned (.bool true) ∧ WOkH w0 w' wp (bd + 1)) := fun W hF => by
    obtain ⟨own, hv, lv, hs, ls, hW, hpos⟩ := h
    exact lmade_any w0 W wp bd a ⟨own, hv, lv, hs, ls, hW.no hF, hpos⟩ hbd
  clear h
  go_enter Tryz.func25, Tryz.ntmps25
  go_wp2_with fail
  refine (HM.out _ ((Fr.refl _ _).alloc _)).mono ?_
  rintro e w1 ⟨rfl, hE⟩
  have HE : Hid (WOkH w0 w1 wp (bd + 1)) := hE
  clear hE
  go_wp2
  go_ret
  exact ⟨rfl, HE.out⟩

set_option maxHeartbeats 1000000 in
theorem lheap7 (w0 w : World) (wp bd : Nat) (hI a b : Int) (s : ByteArray) (h : WOkH w0 w wp bd) (hbd : bd ≤ 2932031007402) (h1 : -9223372036854775808 ≤ a) (h2 : a ≤ 9223372036854775807) :
    Calls Tryz.prog 25 #[.pointer (some ⟨wp, 0, none⟩), .agg #[.int .i64 7, .int .i64 hI, .int .i64 a, .int .i64 b, .string s]] w fun e w' => e = .returned (.bool true) ∧ WOkH w0 w' wp (bd + 1) := by
  have HM : Hid (∀ W : World, Fr NoB w W → Calls Tryz.prog 48 #[.pointer (some ⟨wp, 0, none⟩), .int .i64 a] W fun e w' => e = .returned (.tuple #[]) ∧ WOkH w0 w' wp (bd + 1)) := fun W hF => by
    obtain ⟨own, hv, lv, hs, ls, hW, hpos⟩ := h
    refine (lover_any w0 W wp own bd hv lv hs ls a (hW.no hF) hbd h1 h2).mono ?_
    rintro e w' ⟨he, ls', hW'⟩
    exact ⟨he, own, hv, lv, hs, ls', hW'.mono (by omega), hpos⟩
  clear h
  go_enter Tryz.func25, Tryz.ntmps25
  go_wp2_with fail
  refine (HM.out _ ((Fr.refl _ _).alloc _)).mono ?_
  rintro e w1 ⟨rfl, hE⟩
  have HE : Hid (WOkH w0 w1 wp (bd + 1)) := hE
  clear hE
  go_wp2
  go_ret
  exact ⟨rfl, HE.out⟩

theorem lheap_any (w0 w : World) (wp bd : Nat) (k hI a b : Int) (s : ByteArray) (h : WOkH w0 w wp bd) (hbd : bd ≤ 2932031007402) (hk1 : 1 ≤ k) (hk2 : k ≤ 7) (h1 : -9223372036854775808 ≤ hI) (h2 : hI ≤ 9223372036854775807) (h3 : -9223372036854775808 ≤ a) (h4 : a ≤ 9223372036854775807) :
    Calls Tryz.prog 25 #[.pointer (some ⟨wp, 0, none⟩), .agg #[.int .i64 k, .int .i64 hI, .int .i64 a, .int .i64 b, .string s]] w fun e w' => e = .returned (.bool true) ∧ WOkH w0 w' wp (bd + 1) := by
  have hk : k = 1 ∨ k = 2 ∨ k = 3 ∨ k = 4 ∨ k = 5 ∨ k = 6 ∨ k = 7 := by omega
  rcases hk with rfl | rfl | rfl | rfl | rfl | rfl | rfl
  · exact lheap1 w0 w wp bd hI a b s h hbd
  · obtain ⟨own, hv, lv, hs, ls, hW, hpos⟩ := h
    exact lheap2 w0 w wp own bd hv lv hs ls hI a b s hW hpos hbd h1 h2
  · obtain ⟨own, hv, lv, hs, ls, hW, hpos⟩ := h
    exact lheap3 w0 w wp own bd hv lv hs ls hI a b s hW hpos hbd h1 h2
  · obtain ⟨own, hv, lv, hs, ls, hW, hpos⟩ := h
    exact lheap4 w0 w wp own bd hv lv hs ls hI a b s hW hpos hbd h1 h2
  · obtain ⟨own, hv, lv, hs, ls, hW, hpos⟩ := h
    exact lheap5 w0 w wp own bd hv lv hs ls hI a b s hW hpos hbd h1 h2
  · obtain ⟨own, hv, lv, hs, ls, hW, hpos⟩ := h
    exact lheap6 w0 w wp own bd hv lv hs ls hI a b s hW hpos hbd h1 h2
  · exact lheap7 w0 w wp bd hI a b s h hbd h3 h4

set_option maxHeartbeats 2000000 in
theorem lstep_any (w0 w : World) (wp bd : Nat) (k hI a b : Int) (s : ByteArray) (h : WOkH w0 w wp bd) (hbd : bd ≤ 2932031007402) (hk2 : k ≤ 7) (h1 : -9223372036854775808 ≤ hI) (h2 : hI ≤ 9223372036854775807) (h3 : -9223372036854775808 ≤ a) (h4 : a ≤ 9223372036854775807) :
    Calls Tryz.prog 13 #[.pointer (some ⟨wp, 0, none⟩), .agg #[.int .i64 k, .int .i64 hI, .int .i64 a, .int .i64 b, .string s]] w fun e w' => e = .returned (.bool true) ∧ WOkH w0 w' wp (bd + 1) := by
  by_cases hk1 : 1 ≤ k
  · have HM : Hid (∀ W : World, Fr NoB w W → Calls Tryz.prog 25 #[.pointer (some ⟨wp, 0, none⟩), .agg #[.int .i64 k, .int .i64 hI, .int .i64 a, .int .i64 b, .string s]] W fun e w' => e = .returned (.bool true) ∧ WOkH w0 w' wp (bd + 1)) := fun W hF => by
      obtain ⟨own, hv, lv, hs, ls, hW, hpos⟩ := h
      exact lheap_any w0 W wp bd k hI a b s ⟨own, hv, lv, hs, ls, hW.no hF, hpos⟩ hbd hk1 hk2 h1 h2 h3 h4
    clear h
    have hk : k = 1 ∨ k = 2 ∨ k = 3 ∨ k = 4 ∨ k = 5 ∨ k = 6 ∨ k = 7 := by omega
    rcases hk with rfl | rfl | rfl | rfl | rfl | rfl | rfl
    all_goals
      go_enter Tryz.func13, Tryz.ntmps13
      go_wp2_with fail
      refine (HM.out _ ((Fr.refl _ _).alloc _)).mono ?_
      rintro e w1 ⟨rfl, hE⟩
      have HE : Hid (WOkH w0 w1 wp (bd + 1)) := hE
      clear hE
      go_wp2
      go_ret
      exact ⟨rfl, HE.out⟩
  · have HE : Hid (∀ W, Fr NoB w W → WOkH w0 W wp (bd + 1)) := fun W hF => by
      obtain ⟨own, hv, lv, hs, ls, hW, hpos⟩ := h
      exact hW.okH hF hpos
    clear h
    go_enter Tryz.func13, Tryz.ntmps13
    go_wp2
    go_ret
    exact ⟨rfl, HE.out _ ((Fr.refl _ _).alloc _)⟩

/-- the script that came in -/
structure OpRow (w : World) (ao : Option Addr) (m : Nat) (K Hh A B : Nat → Int) (S : Nat → ByteArray) : Prop where
  some_ : 0 < m → ∃ b off, ao = some ⟨b, off, none⟩
  c0 : ∀ b off i, i < m → ao = some ⟨b, off, none⟩ → w.cell? ⟨b, off + i * 5, none⟩ = some (.int .i64 (K i))
  c1 : ∀ b off i, i < m → ao = some ⟨b, off, none⟩ → w.cell? ⟨b, off + i * 5 + 1, none⟩ = some (.int .i64 (Hh i))
  c2 : ∀ b off i, i < m → ao = some ⟨b, off, none⟩ → w.cell? ⟨b, off + i * 5 + 2, none⟩ = some (.int .i64 (A i))
  c3 : ∀ b off i, i < m → ao = some ⟨b, off, none⟩ → w.cell? ⟨b, off + i * 5 + 3, none⟩ = some (.int .i64 (B i))
  c4 : ∀ b off i, i < m → ao = some ⟨b, off, none⟩ → w.cell? ⟨b, off + i * 5 + 4, none⟩ = some (.string (S i))
  rH : ∀ i, i < m → -9223372036854775808 ≤ Hh i ∧ Hh i ≤ 9223372036854775807
  rA : ∀ i, i < m → -9223372036854775808 ≤ A i ∧ A i ≤ 9223372036854775807
  rS : ∀ i, i < m → (S i).size ≤ 9223372036854775807
  hm : m ≤ 2932031007317
theorem OpRow.no {w w' : World} {ao : Option Addr} {m : Nat} {K Hh A B : Nat → Int} {S : Nat → ByteArray} (h : OpRow w ao m K Hh A B S) (hf : Fr NoB w w') : OpRow w' ao m K Hh A B S :=
  ⟨h.some_, fun b off i hi e => hf.cell_some (h.c0 b off i hi e) id, fun b off i hi e => hf.cell_some (h.c1 b off i hi e) id, fun b off i hi e => hf.cell_some (h.c2 b off i hi e) id,
    fun b off i hi e => hf.cell_some (h.c3 b off i hi e) id, fun b off i hi e => hf.cell_some (h.c4 b off i hi e) id, h.rH, h.rA, h.rS, h.hm⟩

theorem WOkH.fr {w0 w : World} {wp bd : Nat} (h : WOkH w0 w wp bd) : Fr NoB w0 w := by
  obtain ⟨own, hv, lv, hs, ls, hW, hpos⟩ := h
  exact hW.fr

theorem world_start (w : World) : WSt w (w.alloc (.cells #[.slice none 0 0, .slice none 0 0] 38)) w.heap.size (fun k => if k < w.heap.size then 0 else 1) 0 (.slice none 0 0) (.slice none 0 0) [] [] := by
  refine ⟨by simp, by simp, fun o => by simp, by simp, World.ownsRow_nil _ _ _ _, World.ownsRow_nil _ _ _ _, fun g hg => by simp [Value.ownBlock] at hg, fun g hg => by simp [Value.ownBlock] at hg, fun i e he => by simp at he, fun i e he => by simp at he, fun k hk => if_pos hk, (Fr.refl _ _).alloc _, by simp, by simp⟩

set_option maxRecDepth 20000 in
set_option maxHeartbeats 2000000 in
theorem lplayed_any (w : World) (ao : Option Addr) (m cap : Nat) (K Hh A B : Nat → Int) (S : Nat → ByteArray) (last : Int) (h : OpRow w ao m K Hh A B S)
    (HSt : ∀ (wr : World) (bd i : Nat), i < m → K i ≤ last → WOkH w wr w.heap.size bd → bd ≤ 2932031007402 → Calls Tryz.prog 13 #[.pointer (some ⟨w.heap.size, 0, none⟩), .agg #[.int .i64 (K i), .int .i64 (Hh i), .int .i64 (A i), .int .i64 (B i), .string (S i)]] wr fun e w' => e = .returned (.bool true) ∧ WOkH w w' w.heap.size (bd + 1)) :
    Calls Tryz.prog 6 #[.slice ao m cap, .int .i64 last] w fun e w' => e = .returned (.bool true) ∧ Fr NoB w w' := by
  have hm := h.hm
  have HS : Hid _ := HSt
  clear HSt
  go_enter Tryz.func6, Tryz.ntmps6
  go_wp2_with fail
  refine (lmade_yes w _ w.heap.size _ 0 _ _ [] [] 10 (by omega) (by omega) (world_start w) (by omega)).mono ?_
  rintro e w1 ⟨rfl, hO⟩
  have HO : Hid (WOkH w w1 w.heap.size 1) := hO
  clear hO
  go_wp2_with fail
  go_loopw [7] (fun u wr => ∃ i : Nat, i ≤ m ∧ u = .int .i64 i ∧ WOkH w wr w.heap.size (i + 1)) (fun u _ => m - (intOf u).toNat)
  case atStart => exact ⟨0, Nat.zero_le _, rfl, HO.out⟩
  case round =>
    obtain ⟨i, hi, rfl, hW⟩ := hrel
    clear HO
    by_cases hlt : i < m
    · obtain ⟨b, off, rfl⟩ := h.some_ (by omega)
      have hr := h.no hW.fr
      have c0 := hr.c0 b off i hlt rfl
      have c1 := hr.c1 b off i hlt rfl
      have c2 := hr.c2 b off i hlt rfl
      have c3 := hr.c3 b off i hlt rfl
      have c4 := hr.c4 b off i hlt rfl
      have HW : Hid (WOkH w wr w.heap.size (i + 1)) := hW
      clear hr hW
      by_cases hk : last < K i
      · have HE : Hid (WOkH w wr w.heap.size (i + 1 + 1)) := by
          obtain ⟨own, hv, lv, hs, ls, hW, hpos⟩ := HW.out
          exact hW.okH (Fr.refl _ _) hpos
        go_wp2
        go_roundw
        case rel => exact ⟨i + 1, by omega, by go_num, HE.out⟩
        case measure => simp [intOf]; omega
      · go_wp2_with fail
        refine (HS.out _ (i + 1) i hlt (by omega) HW.out (by omega)).mono ?_
        rintro e w2 ⟨rfl, hO2⟩
        obtain ⟨own, hv, lv, hs, ls, hW2, hpos⟩ := hO2
        have HW2 : Hid (WSt w w2 w.heap.size own (i + 1 + 1) hv lv hs ls ∧ 0 < hs.length) := ⟨hW2, hpos⟩
        clear hW2 hpos HW c0 c1 c2 c3 c4
        go_wp2_with fail
        refine (llooks_yes w _ w.heap.size own (i + 1 + 1) hv lv hs ls HW2.out.1 (by omega)).mono ?_
        rintro e w3 ⟨rfl, hF3⟩
        have HE : Hid (WOkH w w3 w.heap.size (i + 1 + 1)) := ⟨own, hv, lv, hs, ls, HW2.out.1.no hF3, HW2.out.2⟩
        clear hF3
        go_wp2
        go_roundw
        case rel => exact ⟨i + 1, by omega, by go_num, HE.out⟩
        case measure => simp [intOf]; omega
    · have HE : Hid (Fr NoB w wr) := hW.fr
      clear hW
      go_wp2
      go_ret
      exact ⟨rfl, HE.out⟩

set_option maxHeartbeats 400000 in
theorem lheaps_any (w : World) (ao : Option Addr) (m cap : Nat) (K Hh A B : Nat → Int) (S : Nat → ByteArray) (h : OpRow w ao m K Hh A B S) :
    Calls Tryz.prog 3 #[.slice ao m cap] w fun e w' => e = .returned (.bool true) ∧ Fr NoB w w' := by
  go_enter Tryz.func3, Tryz.ntmps3
  go_wp2_with fail
  refine (lplayed_any w ao m cap K Hh A B S 7 h (fun wr bd i hi hk hW hb => lstep_any w wr w.heap.size bd (K i) (Hh i) (A i) (B i) (S i) hW hb hk (h.rH i hi).1 (h.rH i hi).2 (h.rA i hi).1 (h.rA i hi).2)).mono ?_
  rintro e w1 ⟨rfl, hF⟩
  have HF : Hid (Fr NoB w w1) := hF
  clear hF
  go_wp2
  go_ret
  exact ⟨rfl, HF.out⟩
end Go.Proofs.YthcjcjfgdgnljaaGreatDoor
