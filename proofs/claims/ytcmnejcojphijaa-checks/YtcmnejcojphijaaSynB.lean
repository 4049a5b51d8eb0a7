import Derived.Test.YtcmnejcojphijaaSynA
import Derived.Deep.RegionWith
namespace Go.Proofs.Ytcmnejcojphijaa
open Go.RowKit

def chosenN (top c : Nat) : List Nat × Bool :=
  if top = 83 then (stmtN c, true)
  else if top = 111 then (if digitN c then ([100, c], true) else ([c], smallN c))
  else if top = 100 then (if digitN c then ([101, c], true) else ([], true))
  else if top = 101 then (if digitN c then ([c], true) else ([], true))
  else if top = 86 then ([c], greatN c)
  else if top = 103 then (if c = 35 then ([86, c], true) else if greatN c then ([93, 111, 91, c], true) else ([116, 111], true))
  else if top = 116 then (if c = 43 ∨ c = 45 ∨ c = 42 ∨ c = 47 ∨ c = 60 then ([111, c], true) else ([], true))
  else if top = 71 then (if c = 91 then ([93, 111, c], true) else ([86], true))
  else (if c = 91 then ([111, 61, 93, 111, c], true) else ([71, 61], true))
theorem bytes_strW (W : World) (b : Nat) (bs : List Nat) (h : ∀ j v, (bs.map (fun b : Nat => Value.int .u8 (b : Int)))[j]? = some v → W.cell? ⟨b, j, none⟩ = some v) :
    (convert 98 9 (.slice (some ⟨b, 0, none⟩) bs.length bs.length)).run Try.prog W = .ok (strN bs) W := by
  rw [run_convert_bytes_string _ 98 9 5 _ _ _ Try.underlying98 Try.underlying5 Try.underlying9]
  rw [run_bytesToString _ _ _ _ (bs.map (fun b : Nat => (b : Int))) ?_]
  · rw [foldl_push]; simp [strN]
  · have g := run_loadCells_list (P := Try.prog) (w := W) ⟨b, 0, none⟩ (bs.map (fun b : Nat => Value.int .u8 (b : Int))) (fun j v hj => by
      have hadd : (⟨b, 0, none⟩ : Addr).add j = ⟨b, j, none⟩ := by unfold Addr.add; split <;> simp_all
      rw [hadd]; exact h j v hj)
    simpa [Function.comp_def] using g
def isPart (b : Nat) : Prop := b = 83 ∨ b = 111 ∨ b = 100 ∨ b = 101 ∨ b = 86 ∨ b = 103 ∨ b = 116 ∨ b = 71 ∨ b = 112

set_option maxRecDepth 8000 in
set_option maxHeartbeats 1000000 in
theorem ch_more (w : World) (c : Nat) (hc : c < 256) :
    Calls Try.prog 60 #[.int .u8 83, .int .u8 (c : Int)] w fun e w' => e = .returned (.tuple #[strN (stmtN c), .bool true]) ∧ Fr NoB w w' := by
  generalize hl : stmtN c = l
  have HS : Hid (∀ W : World, Calls Try.prog 77 #[.int .u8 (c : Int)] W fun e w' => e = .returned (strN l) ∧ Fr NoB W w') := fun W => by rw [← hl]; exact stmt_fn W c hc
  clear hl
  unfold strN at HS ⊢
  go_enter Try.func60, Try.ntmps60
  go_wp2_with fail
  refine (HS.out _).mono ?_
  rintro e w1 ⟨rfl, hF⟩
  go_wp2
  go_ret2
  exact ⟨rfl, hF⟩

set_option maxRecDepth 8000 in
set_option maxHeartbeats 1000000 in
theorem ch_o1 (w : World) (c : Nat) (hc : c < 256) (hd : digitN c = true) :
    Calls Try.prog 60 #[.int .u8 111, .int .u8 (c : Int)] w fun e w' => e = .returned (.tuple #[strN [100, c], .bool true]) ∧ Fr NoB w w' := by
  have hv : ∀ u : World, (convert 98 9 (.slice (some ⟨u.heap.size, 0, none⟩) 2 2)).run Try.prog (u.alloc (.cells #[.int .u8 100, .int .u8 (c : Int)] 5)) = .ok (strN [100, c]) (u.alloc (.cells #[.int .u8 100, .int .u8 (c : Int)] 5)) :=
    fun u => bytes_str u [100, c]
  go_enter Try.func60, Try.ntmps60
  go_wp2_with (first | (go_at_call 78; refine (digit_fn _ c (by omega)).mono ?_; rintro e w1 ⟨rfl, hw⟩; have hw2 := hw.symm; clear hw; subst hw2; rw [hd]))
  go_ret2
  exact ⟨rfl, by repeat (first | exact Fr.refl _ _ | refine Fr.alloc ?_ _)⟩

set_option maxRecDepth 8000 in
set_option maxHeartbeats 1000000 in
theorem ch_o2 (w : World) (c : Nat) (hc : c < 256) (hd : digitN c = false) :
    Calls Try.prog 60 #[.int .u8 111, .int .u8 (c : Int)] w fun e w' => e = .returned (.tuple #[strN [c], .bool (smallN c)]) ∧ Fr NoB w w' := by
  have hv : ∀ u : World, (convert 98 9 (.slice (some ⟨u.heap.size, 0, none⟩) 1 1)).run Try.prog (u.alloc (.cells #[.int .u8 (c : Int)] 5)) = .ok (strN [c]) (u.alloc (.cells #[.int .u8 (c : Int)] 5)) :=
    fun u => bytes_str u [c]
  have hv2 : ∀ u : World, (convert 98 9 (.slice (some ⟨u.heap.size, 0, none⟩) 1 1)).run Try.prog (u.alloc (.cells #[.int .u8 (c : Int)] 5)).drew = .ok (strN [c]) (u.alloc (.cells #[.int .u8 (c : Int)] 5)).drew := fun u => bytes_strW _ u.heap.size [c] (fun j v hj => by match j, hj with | 0, hj => (simp at hj; subst hj; simp))
  go_enter Try.func60, Try.ntmps60
  go_wp2_with (first | (go_at_call 78; refine (digit_fn _ c (by omega)).mono ?_; rintro e w1 ⟨rfl, hw⟩; have hw2 := hw.symm; clear hw; subst hw2; rw [hd]))
  go_region_with (go_at_call 67; refine (small_fn _ c hc).mono ?_; rintro e w' ⟨rfl, rfl⟩)
  all_goals
    go_wp2
    go_ret2
    exact ⟨rfl, by repeat (first | exact Fr.refl _ _ | refine Fr.drew ?_ | refine Fr.alloc ?_ _)⟩

set_option maxRecDepth 8000 in
set_option maxHeartbeats 1000000 in
theorem ch_d1 (w : World) (c : Nat) (hc : c < 256) (hd : digitN c = true) :
    Calls Try.prog 60 #[.int .u8 100, .int .u8 (c : Int)] w fun e w' => e = .returned (.tuple #[strN [101, c], .bool true]) ∧ Fr NoB w w' := by
  have hv : ∀ u : World, (convert 98 9 (.slice (some ⟨u.heap.size, 0, none⟩) 2 2)).run Try.prog (u.alloc (.cells #[.int .u8 101, .int .u8 (c : Int)] 5)) = .ok (strN [101, c]) (u.alloc (.cells #[.int .u8 101, .int .u8 (c : Int)] 5)) :=
    fun u => bytes_str u [101, c]
  go_enter Try.func60, Try.ntmps60
  go_wp2_with (first | (go_at_call 78; refine (digit_fn _ c (by omega)).mono ?_; rintro e w1 ⟨rfl, hw⟩; have hw2 := hw.symm; clear hw; subst hw2; rw [hd]))
  go_ret2
  exact ⟨rfl, by repeat (first | exact Fr.refl _ _ | refine Fr.alloc ?_ _)⟩

set_option maxRecDepth 8000 in
set_option maxHeartbeats 1000000 in
theorem ch_d2 (w : World) (c : Nat) (hc : c < 256) (hd : digitN c = false) :
    Calls Try.prog 60 #[.int .u8 100, .int .u8 (c : Int)] w fun e w' => e = .returned (.tuple #[strN [], .bool true]) ∧ Fr NoB w w' := by
  go_enter Try.func60, Try.ntmps60
  go_wp2_with (first | (go_at_call 78; refine (digit_fn _ c (by omega)).mono ?_; rintro e w1 ⟨rfl, hw⟩; have hw2 := hw.symm; clear hw; subst hw2; rw [hd]))
  go_ret2
  exact ⟨rfl, by repeat (first | exact Fr.refl _ _ | refine Fr.alloc ?_ _)⟩

set_option maxRecDepth 8000 in
set_option maxHeartbeats 1000000 in
theorem ch_e1 (w : World) (c : Nat) (hc : c < 256) (hd : digitN c = true) :
    Calls Try.prog 60 #[.int .u8 101, .int .u8 (c : Int)] w fun e w' => e = .returned (.tuple #[strN [c], .bool true]) ∧ Fr NoB w w' := by
  have hv : ∀ u : World, (convert 98 9 (.slice (some ⟨u.heap.size, 0, none⟩) 1 1)).run Try.prog (u.alloc (.cells #[.int .u8 (c : Int)] 5)) = .ok (strN [c]) (u.alloc (.cells #[.int .u8 (c : Int)] 5)) :=
    fun u => bytes_str u [c]
  go_enter Try.func60, Try.ntmps60
  go_wp2_with (first | (go_at_call 78; refine (digit_fn _ c (by omega)).mono ?_; rintro e w1 ⟨rfl, hw⟩; have hw2 := hw.symm; clear hw; subst hw2; rw [hd]))
  go_ret2
  exact ⟨rfl, by repeat (first | exact Fr.refl _ _ | refine Fr.alloc ?_ _)⟩

set_option maxRecDepth 8000 in
set_option maxHeartbeats 1000000 in
theorem ch_e2 (w : World) (c : Nat) (hc : c < 256) (hd : digitN c = false) :
    Calls Try.prog 60 #[.int .u8 101, .int .u8 (c : Int)] w fun e w' => e = .returned (.tuple #[strN [], .bool true]) ∧ Fr NoB w w' := by
  go_enter Try.func60, Try.ntmps60
  go_wp2_with (first | (go_at_call 78; refine (digit_fn _ c (by omega)).mono ?_; rintro e w1 ⟨rfl, hw⟩; have hw2 := hw.symm; clear hw; subst hw2; rw [hd]))
  go_ret2
  exact ⟨rfl, by repeat (first | exact Fr.refl _ _ | refine Fr.alloc ?_ _)⟩

set_option maxRecDepth 8000 in
set_option maxHeartbeats 1000000 in
theorem ch_V (w : World) (c : Nat) (hc : c < 256) :
    Calls Try.prog 60 #[.int .u8 86, .int .u8 (c : Int)] w fun e w' => e = .returned (.tuple #[strN [c], .bool (greatN c)]) ∧ Fr NoB w w' := by
  have hv : ∀ u : World, (convert 98 9 (.slice (some ⟨u.heap.size, 0, none⟩) 1 1)).run Try.prog (u.alloc (.cells #[.int .u8 (c : Int)] 5)) = .ok (strN [c]) (u.alloc (.cells #[.int .u8 (c : Int)] 5)) :=
    fun u => bytes_str u [c]
  have hv2 : ∀ u : World, (convert 98 9 (.slice (some ⟨u.heap.size, 0, none⟩) 1 1)).run Try.prog (u.alloc (.cells #[.int .u8 (c : Int)] 5)).drew = .ok (strN [c]) (u.alloc (.cells #[.int .u8 (c : Int)] 5)).drew := fun u => bytes_strW _ u.heap.size [c] (fun j v hj => by match j, hj with | 0, hj => (simp at hj; subst hj; simp))
  go_enter Try.func60, Try.ntmps60
  go_wp2_with fail
  go_region_with (go_at_call 66; refine (great_fn _ c hc).mono ?_; rintro e w' ⟨rfl, rfl⟩)
  all_goals
    go_wp2
    go_ret2
    exact ⟨rfl, by repeat (first | exact Fr.refl _ _ | refine Fr.drew ?_ | refine Fr.alloc ?_ _)⟩

set_option maxRecDepth 8000 in
set_option maxHeartbeats 1000000 in
theorem ch_g1 (w : World) :
    Calls Try.prog 60 #[.int .u8 103, .int .u8 35] w fun e w' => e = .returned (.tuple #[strN [86, 35], .bool true]) ∧ Fr NoB w w' := by
  have hv : ∀ u : World, (convert 98 9 (.slice (some ⟨u.heap.size, 0, none⟩) 2 2)).run Try.prog (u.alloc (.cells #[.int .u8 86, .int .u8 35] 5)) = .ok (strN [86, 35]) (u.alloc (.cells #[.int .u8 86, .int .u8 35] 5)) :=
    fun u => bytes_str u [86, 35]
  go_enter Try.func60, Try.ntmps60
  go_wp2_with fail
  go_ret2
  exact ⟨rfl, by repeat (first | exact Fr.refl _ _ | refine Fr.alloc ?_ _)⟩

set_option maxRecDepth 8000 in
set_option maxHeartbeats 1000000 in
theorem ch_g2 (w : World) (c : Nat) (hc : c < 256) (b1 : ((c : Int) == 35) = false) (hg : greatN c = true) :
    Calls Try.prog 60 #[.int .u8 103, .int .u8 (c : Int)] w fun e w' => e = .returned (.tuple #[strN [93, 111, 91, c], .bool true]) ∧ Fr NoB w w' := by
  have hv : ∀ u : World, (convert 98 9 (.slice (some ⟨u.heap.size, 0, none⟩) 4 4)).run Try.prog (u.alloc (.cells #[.int .u8 93, .int .u8 111, .int .u8 91, .int .u8 (c : Int)] 5)) = .ok (strN [93, 111, 91, c]) (u.alloc (.cells #[.int .u8 93, .int .u8 111, .int .u8 91, .int .u8 (c : Int)] 5)) :=
    fun u => bytes_str u [93, 111, 91, c]
  go_enter Try.func60, Try.ntmps60
  go_wp2_with (first | (go_at_call 66; refine (great_fn _ c (by omega)).mono ?_; rintro e w1 ⟨rfl, hw⟩; have hw2 := hw.symm; clear hw; subst hw2; rw [hg]))
  go_ret2
  exact ⟨rfl, by repeat (first | exact Fr.refl _ _ | refine Fr.alloc ?_ _)⟩

set_option maxRecDepth 8000 in
set_option maxHeartbeats 1000000 in
theorem ch_g3 (w : World) (c : Nat) (hc : c < 256) (b1 : ((c : Int) == 35) = false) (hg : greatN c = false) :
    Calls Try.prog 60 #[.int .u8 103, .int .u8 (c : Int)] w fun e w' => e = .returned (.tuple #[strN [116, 111], .bool true]) ∧ Fr NoB w w' := by
  have hv : ∀ u : World, (convert 98 9 (.slice (some ⟨u.heap.size, 0, none⟩) 2 2)).run Try.prog (u.alloc (.cells #[.int .u8 116, .int .u8 111] 5)) = .ok (strN [116, 111]) (u.alloc (.cells #[.int .u8 116, .int .u8 111] 5)) :=
    fun u => bytes_str u [116, 111]
  go_enter Try.func60, Try.ntmps60
  go_wp2_with (first | (go_at_call 66; refine (great_fn _ c (by omega)).mono ?_; rintro e w1 ⟨rfl, hw⟩; have hw2 := hw.symm; clear hw; subst hw2; rw [hg]))
  go_ret2
  exact ⟨rfl, by repeat (first | exact Fr.refl _ _ | refine Fr.alloc ?_ _)⟩

set_option maxRecDepth 8000 in
set_option maxHeartbeats 1000000 in
theorem ch_t43 (w : World) :
    Calls Try.prog 60 #[.int .u8 116, .int .u8 43] w fun e w' => e = .returned (.tuple #[strN [111, 43], .bool true]) ∧ Fr NoB w w' := by
  have hv : ∀ u : World, (convert 98 9 (.slice (some ⟨u.heap.size, 0, none⟩) 2 2)).run Try.prog (u.alloc (.cells #[.int .u8 111, .int .u8 43] 5)) = .ok (strN [111, 43]) (u.alloc (.cells #[.int .u8 111, .int .u8 43] 5)) :=
    fun u => bytes_str u [111, 43]
  go_enter Try.func60, Try.ntmps60
  go_wp2_with fail
  go_ret2
  exact ⟨rfl, by repeat (first | exact Fr.refl _ _ | refine Fr.alloc ?_ _)⟩

set_option maxRecDepth 8000 in
set_option maxHeartbeats 1000000 in
theorem ch_t45 (w : World) :
    Calls Try.prog 60 #[.int .u8 116, .int .u8 45] w fun e w' => e = .returned (.tuple #[strN [111, 45], .bool true]) ∧ Fr NoB w w' := by
  have hv : ∀ u : World, (convert 98 9 (.slice (some ⟨u.heap.size, 0, none⟩) 2 2)).run Try.prog (u.alloc (.cells #[.int .u8 111, .int .u8 45] 5)) = .ok (strN [111, 45]) (u.alloc (.cells #[.int .u8 111, .int .u8 45] 5)) :=
    fun u => bytes_str u [111, 45]
  go_enter Try.func60, Try.ntmps60
  go_wp2_with fail
  go_ret2
  exact ⟨rfl, by repeat (first | exact Fr.refl _ _ | refine Fr.alloc ?_ _)⟩

set_option maxRecDepth 8000 in
set_option maxHeartbeats 1000000 in
theorem ch_t42 (w : World) :
    Calls Try.prog 60 #[.int .u8 116, .int .u8 42] w fun e w' => e = .returned (.tuple #[strN [111, 42], .bool true]) ∧ Fr NoB w w' := by
  have hv : ∀ u : World, (convert 98 9 (.slice (some ⟨u.heap.size, 0, none⟩) 2 2)).run Try.prog (u.alloc (.cells #[.int .u8 111, .int .u8 42] 5)) = .ok (strN [111, 42]) (u.alloc (.cells #[.int .u8 111, .int .u8 42] 5)) :=
    fun u => bytes_str u [111, 42]
  go_enter Try.func60, Try.ntmps60
  go_wp2_with fail
  go_ret2
  exact ⟨rfl, by repeat (first | exact Fr.refl _ _ | refine Fr.alloc ?_ _)⟩

set_option maxRecDepth 8000 in
set_option maxHeartbeats 1000000 in
theorem ch_t47 (w : World) :
    Calls Try.prog 60 #[.int .u8 116, .int .u8 47] w fun e w' => e = .returned (.tuple #[strN [111, 47], .bool true]) ∧ Fr NoB w w' := by
  have hv : ∀ u : World, (convert 98 9 (.slice (some ⟨u.heap.size, 0, none⟩) 2 2)).run Try.prog (u.alloc (.cells #[.int .u8 111, .int .u8 47] 5)) = .ok (strN [111, 47]) (u.alloc (.cells #[.int .u8 111, .int .u8 47] 5)) :=
    fun u => bytes_str u [111, 47]
  go_enter Try.func60, Try.ntmps60
  go_wp2_with fail
  go_ret2
  exact ⟨rfl, by repeat (first | exact Fr.refl _ _ | refine Fr.alloc ?_ _)⟩

set_option maxRecDepth 8000 in
set_option maxHeartbeats 1000000 in
theorem ch_t60 (w : World) :
    Calls Try.prog 60 #[.int .u8 116, .int .u8 60] w fun e w' => e = .returned (.tuple #[strN [111, 60], .bool true]) ∧ Fr NoB w w' := by
  have hv : ∀ u : World, (convert 98 9 (.slice (some ⟨u.heap.size, 0, none⟩) 2 2)).run Try.prog (u.alloc (.cells #[.int .u8 111, .int .u8 60] 5)) = .ok (strN [111, 60]) (u.alloc (.cells #[.int .u8 111, .int .u8 60] 5)) :=
    fun u => bytes_str u [111, 60]
  go_enter Try.func60, Try.ntmps60
  go_wp2_with fail
  go_ret2
  exact ⟨rfl, by repeat (first | exact Fr.refl _ _ | refine Fr.alloc ?_ _)⟩

set_option maxRecDepth 8000 in
set_option maxHeartbeats 1000000 in
theorem ch_t (w : World) (c : Nat) (_hc : c < 256) (b43 : ((c : Int) == 43) = false) (b45 : ((c : Int) == 45) = false) (b42 : ((c : Int) == 42) = false) (b47 : ((c : Int) == 47) = false) (b60 : ((c : Int) == 60) = false) :
    Calls Try.prog 60 #[.int .u8 116, .int .u8 (c : Int)] w fun e w' => e = .returned (.tuple #[strN [], .bool true]) ∧ Fr NoB w w' := by
  go_enter Try.func60, Try.ntmps60
  go_wp2_with fail
  go_ret2
  exact ⟨rfl, by repeat (first | exact Fr.refl _ _ | refine Fr.alloc ?_ _)⟩

set_option maxRecDepth 8000 in
set_option maxHeartbeats 1000000 in
theorem ch_G1 (w : World) :
    Calls Try.prog 60 #[.int .u8 71, .int .u8 91] w fun e w' => e = .returned (.tuple #[strN [93, 111, 91], .bool true]) ∧ Fr NoB w w' := by
  have hv : ∀ u : World, (convert 98 9 (.slice (some ⟨u.heap.size, 0, none⟩) 3 3)).run Try.prog (u.alloc (.cells #[.int .u8 93, .int .u8 111, .int .u8 91] 5)) = .ok (strN [93, 111, 91]) (u.alloc (.cells #[.int .u8 93, .int .u8 111, .int .u8 91] 5)) :=
    fun u => bytes_str u [93, 111, 91]
  go_enter Try.func60, Try.ntmps60
  go_wp2_with fail
  go_ret2
  exact ⟨rfl, by repeat (first | exact Fr.refl _ _ | refine Fr.alloc ?_ _)⟩

set_option maxRecDepth 8000 in
set_option maxHeartbeats 1000000 in
theorem ch_G2 (w : World) (c : Nat) (_hc : c < 256) (b1 : ((c : Int) == 91) = false) :
    Calls Try.prog 60 #[.int .u8 71, .int .u8 (c : Int)] w fun e w' => e = .returned (.tuple #[strN [86], .bool true]) ∧ Fr NoB w w' := by
  have hv : ∀ u : World, (convert 98 9 (.slice (some ⟨u.heap.size, 0, none⟩) 1 1)).run Try.prog (u.alloc (.cells #[.int .u8 86] 5)) = .ok (strN [86]) (u.alloc (.cells #[.int .u8 86] 5)) :=
    fun u => bytes_str u [86]
  go_enter Try.func60, Try.ntmps60
  go_wp2_with fail
  go_ret2
  exact ⟨rfl, by repeat (first | exact Fr.refl _ _ | refine Fr.alloc ?_ _)⟩

set_option maxRecDepth 8000 in
set_option maxHeartbeats 1000000 in
theorem ch_p1 (w : World) :
    Calls Try.prog 60 #[.int .u8 112, .int .u8 91] w fun e w' => e = .returned (.tuple #[strN [111, 61, 93, 111, 91], .bool true]) ∧ Fr NoB w w' := by
  have hv : ∀ u : World, (convert 98 9 (.slice (some ⟨u.heap.size, 0, none⟩) 5 5)).run Try.prog (u.alloc (.cells #[.int .u8 111, .int .u8 61, .int .u8 93, .int .u8 111, .int .u8 91] 5)) = .ok (strN [111, 61, 93, 111, 91]) (u.alloc (.cells #[.int .u8 111, .int .u8 61, .int .u8 93, .int .u8 111, .int .u8 91] 5)) :=
    fun u => bytes_str u [111, 61, 93, 111, 91]
  go_enter Try.func60, Try.ntmps60
  go_wp2_with fail
  go_ret2
  exact ⟨rfl, by repeat (first | exact Fr.refl _ _ | refine Fr.alloc ?_ _)⟩

set_option maxRecDepth 8000 in
set_option maxHeartbeats 1000000 in
theorem ch_p2 (w : World) (c : Nat) (_hc : c < 256) (b1 : ((c : Int) == 91) = false) :
    Calls Try.prog 60 #[.int .u8 112, .int .u8 (c : Int)] w fun e w' => e = .returned (.tuple #[strN [71, 61], .bool true]) ∧ Fr NoB w w' := by
  have hv : ∀ u : World, (convert 98 9 (.slice (some ⟨u.heap.size, 0, none⟩) 2 2)).run Try.prog (u.alloc (.cells #[.int .u8 71, .int .u8 61] 5)) = .ok (strN [71, 61]) (u.alloc (.cells #[.int .u8 71, .int .u8 61] 5)) :=
    fun u => bytes_str u [71, 61]
  go_enter Try.func60, Try.ntmps60
  go_wp2_with fail
  go_ret2
  exact ⟨rfl, by repeat (first | exact Fr.refl _ _ | refine Fr.alloc ?_ _)⟩

theorem chosen_fn (w : World) (t c : Nat) (hc : c < 256) (ht : isPart t) :
    Calls Try.prog 60 #[.int .u8 (t : Int), .int .u8 (c : Int)] w fun e w' => e = .returned (.tuple #[strN (chosenN t c).1, .bool (chosenN t c).2]) ∧ Fr NoB w w' := by
  rcases ht with rfl | rfl | rfl | rfl | rfl | rfl | rfl | rfl | rfl
  · exact ch_more w c hc
  · cases hd : digitN c
    · have e : chosenN 111 c = ([c], smallN c) := by simp [chosenN, hd]
      rw [e]; exact ch_o2 w c hc hd
    · have e : chosenN 111 c = ([100, c], true) := by simp [chosenN, hd]
      rw [e]; exact ch_o1 w c hc hd
  · cases hd : digitN c
    · have e : chosenN 100 c = ([], true) := by simp [chosenN, hd]
      rw [e]; exact ch_d2 w c hc hd
    · have e : chosenN 100 c = ([101, c], true) := by simp [chosenN, hd]
      rw [e]; exact ch_d1 w c hc hd
  · cases hd : digitN c
    · have e : chosenN 101 c = ([], true) := by simp [chosenN, hd]
      rw [e]; exact ch_e2 w c hc hd
    · have e : chosenN 101 c = ([c], true) := by simp [chosenN, hd]
      rw [e]; exact ch_e1 w c hc hd
  · exact ch_V w c hc
  · by_cases h : c = 35
    · subst h; exact ch_g1 w
    · cases hg : greatN c
      · have e : chosenN 103 c = ([116, 111], true) := by simp [chosenN, h, hg]
        rw [e]; exact ch_g3 w c hc (neI h) hg
      · have e : chosenN 103 c = ([93, 111, 91, c], true) := by simp [chosenN, h, hg]
        rw [e]; exact ch_g2 w c hc (neI h) hg
  · by_cases h1 : c = 43
    · subst h1; exact ch_t43 w
    · by_cases h2 : c = 45
      · subst h2; exact ch_t45 w
      · by_cases h3 : c = 42
        · subst h3; exact ch_t42 w
        · by_cases h4 : c = 47
          · subst h4; exact ch_t47 w
          · by_cases h5 : c = 60
            · subst h5; exact ch_t60 w
            · have e : chosenN 116 c = ([], true) := by simp [chosenN, h1, h2, h3, h4, h5]
              rw [e]; exact ch_t w c hc (neI h1) (neI h2) (neI h3) (neI h4) (neI h5)
  · by_cases h : c = 91
    · subst h; exact ch_G1 w
    · have e : chosenN 71 c = ([86], true) := by simp [chosenN, h]
      rw [e]; exact ch_G2 w c hc (neI h)
  · by_cases h : c = 91
    · subst h; exact ch_p1 w
    · have e : chosenN 112 c = ([71, 61], true) := by simp [chosenN, h]
      rw [e]; exact ch_p2 w c hc (neI h)
end Go.Proofs.Ytcmnejcojphijaa
