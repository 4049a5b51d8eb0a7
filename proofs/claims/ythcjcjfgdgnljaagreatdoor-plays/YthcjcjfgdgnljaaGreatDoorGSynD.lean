/-
  SynB, SynC, SynD: one behind the other.
-/
import Derived.Test.YthcjcjfgdgnljaaGreatDoorGSynA
import Derived.Deep.RegionWith
import Derived.Test.YthcjcjfgdgnljaaGreatDoorGAppK
import Derived.Deep.DeepCutAuto
import Derived.Deep.RegionHeldLaw
import Derived.Deep.RegionLaw
import Derived.Deep.LoopGhost
namespace Go.Proofs.YthcjcjfgdgnljaaGreatDoor
open Go.RowKit

def chosenN (top c : Nat) : List Nat × Bool :=
  if top = 83 then (stmtN c, true)
  else if top = 111 then (if digitN c then ([100, c], true) else ([c], smallN c))
  else if top = 100 then (if digitN c then ([101, c], true) else ([], true))
  else if top = 101 then (if digitN c then ([c], true) else ([], true))
  else if top = 86 then ([c], greatN c)
  else if top = 103 then (if c = 35 then ([86, c], true) else if greatN c then ([93, 111, 91, c], true) else ([116, 111], true))
  else if top = 116 then (if c = 43 ∨ c = 45 ∨ c = 42 ∨ c = 47 ∨ c = 60 then ([111, c], true) else ([], true))
  else if top = 71 then (if c = 91 then ([93, 111, c], true) else ([86], true))
  else (if c = 91 then ([111, 61, 93, 111, c], true) else ([71, 61], true))
theorem bytes_strW (W : World) (b : Nat) (bs : List Nat) (h : ∀ j v, (bs.map (fun b : Nat => Value.int .u8 (b : Int)))[j]? = some v → W.cell? ⟨b, j, none⟩ = some v) :
    (convert 86 9 (.slice (some ⟨b, 0, none⟩) bs.length bs.length)).run Tryz.prog W = .ok (strN bs) W := by
  rw [run_convert_bytes_string _ 86 9 5 _ _ _ Tryz.underlying86 Tryz.underlying5 Tryz.underlying9]
  rw [run_bytesToString _ _ _ _ (bs.map (fun b : Nat => (b : Int))) ?_]
  · rw [foldl_push]; simp [strN]
  · have g := run_loadCells_list (P := Tryz.prog) (w := W) ⟨b, 0, none⟩ (bs.map (fun b : Nat => Value.int .u8 (b : Int))) (fun j v hj => by
      have hadd : (⟨b, 0, none⟩ : Addr).add j = ⟨b, j, none⟩ := by unfold Addr.add; split <;> simp_all
      rw [hadd]; exact h j v hj)
    simpa [Function.comp_def] using g
def isPart (b : Nat) : Prop := b = 83 ∨ b = 111 ∨ b = 100 ∨ b = 101 ∨ b = 86 ∨ b = 103 ∨ b = 116 ∨ b = 71 ∨ b = 112

set_option maxRecDepth 8000 in
set_option maxHeartbeats 1000000 in
theorem ch_more (w : World) (c : Nat) (hc : c < 256) :
    Calls Tryz.prog 90 #[.int .u8 83, .int .u8 (c : Int)] w fun e w' => e = .returned (.tuple #[strN (stmtN c), .bool true]) ∧ Fr NoB w w' := by
  generalize hl : stmtN c = l
  have HS : Hid (∀ W : World, Calls Tryz.prog 123 #[.int .u8 (c : Int)] W fun e w' => e = .returned (strN l) ∧ Fr NoB W w') := fun W => by rw [← hl]; exact stmt_fn W c hc
  clear hl
  unfold strN at HS ⊢
  go_enter Tryz.func90, Tryz.ntmps90
  go_wp2_with fail
  refine (HS.out _).mono ?_
  rintro e w1 ⟨rfl, hF⟩
  go_wp2
  go_ret2
  exact ⟨rfl, hF⟩

set_option maxRecDepth 8000 in
set_option maxHeartbeats 1000000 in
theorem ch_o1 (w : World) (c : Nat) (hc : c < 256) (hd : digitN c = true) :
    Calls Tryz.prog 90 #[.int .u8 111, .int .u8 (c : Int)] w fun e w' => e = .returned (.tuple #[strN [100, c], .bool true]) ∧ Fr NoB w w' := by
  have hv : ∀ u : World, (convert 86 9 (.slice (some ⟨u.heap.size, 0, none⟩) 2 2)).run Tryz.prog (u.alloc (.cells #[.int .u8 100, .int .u8 (c : Int)] 5)) = .ok (strN [100, c]) (u.alloc (.cells #[.int .u8 100, .int .u8 (c : Int)] 5)) :=
    fun u => bytes_str u [100, c]
  go_enter Tryz.func90, Tryz.ntmps90
  go_wp2_with (first | (go_at_call 82; refine (digit_fn _ c (by omega)).mono ?_; rintro e w1 ⟨rfl, hw⟩; have hw2 := hw.symm; clear hw; subst hw2; rw [hd]))
  go_ret2
  exact ⟨rfl, by repeat (first | exact Fr.refl _ _ | refine Fr.alloc ?_ _)⟩

set_option maxRecDepth 8000 in
set_option maxHeartbeats 1000000 in
theorem ch_o2 (w : World) (c : Nat) (hc : c < 256) (hd : digitN c = false) :
    Calls Tryz.prog 90 #[.int .u8 111, .int .u8 (c : Int)] w fun e w' => e = .returned (.tuple #[strN [c], .bool (smallN c)]) ∧ Fr NoB w w' := by
  have hv : ∀ u : World, (convert 86 9 (.slice (some ⟨u.heap.size, 0, none⟩) 1 1)).run Tryz.prog (u.alloc (.cells #[.int .u8 (c : Int)] 5)) = .ok (strN [c]) (u.alloc (.cells #[.int .u8 (c : Int)] 5)) :=
    fun u => bytes_str u [c]
  have hv2 : ∀ u : World, (convert 86 9 (.slice (some ⟨u.heap.size, 0, none⟩) 1 1)).run Tryz.prog (u.alloc (.cells #[.int .u8 (c : Int)] 5)).drew = .ok (strN [c]) (u.alloc (.cells #[.int .u8 (c : Int)] 5)).drew := fun u => bytes_strW _ u.heap.size [c] (fun j v hj => by match j, hj with | 0, hj => (simp at hj; subst hj; simp))
  go_enter Tryz.func90, Tryz.ntmps90
  go_wp2_with (first | (go_at_call 82; refine (digit_fn _ c (by omega)).mono ?_; rintro e w1 ⟨rfl, hw⟩; have hw2 := hw.symm; clear hw; subst hw2; rw [hd]))
  go_region_with (go_at_call 81; refine (small_fn _ c hc).mono ?_; rintro e w' ⟨rfl, rfl⟩)
  all_goals
    go_wp2
    go_ret2
    exact ⟨rfl, by repeat (first | exact Fr.refl _ _ | refine Fr.drew ?_ | refine Fr.alloc ?_ _)⟩

set_option maxRecDepth 8000 in
set_option maxHeartbeats 1000000 in
theorem ch_d1 (w : World) (c : Nat) (hc : c < 256) (hd : digitN c = true) :
    Calls Tryz.prog 90 #[.int .u8 100, .int .u8 (c : Int)] w fun e w' => e = .returned (.tuple #[strN [101, c], .bool true]) ∧ Fr NoB w w' := by
  have hv : ∀ u : World, (convert 86 9 (.slice (some ⟨u.heap.size, 0, none⟩) 2 2)).run Tryz.prog (u.alloc (.cells #[.int .u8 101, .int .u8 (c : Int)] 5)) = .ok (strN [101, c]) (u.alloc (.cells #[.int .u8 101, .int .u8 (c : Int)] 5)) :=
    fun u => bytes_str u [101, c]
  go_enter Tryz.func90, Tryz.ntmps90
  go_wp2_with (first | (go_at_call 82; refine (digit_fn _ c (by omega)).mono ?_; rintro e w1 ⟨rfl, hw⟩; have hw2 := hw.symm; clear hw; subst hw2; rw [hd]))
  go_ret2
  exact ⟨rfl, by repeat (first | exact Fr.refl _ _ | refine Fr.alloc ?_ _)⟩

set_option maxRecDepth 8000 in
set_option maxHeartbeats 1000000 in
theorem ch_d2 (w : World) (c : Nat) (hc : c < 256) (hd : digitN c = false) :
    Calls Tryz.prog 90 #[.int .u8 100, .int .u8 (c : Int)] w fun e w' => e = .returned (.tuple #[strN [], .bool true]) ∧ Fr NoB w w' := by
  go_enter Tryz.func90, Tryz.ntmps90
  go_wp2_with (first | (go_at_call 82; refine (digit_fn _ c (by omega)).mono ?_; rintro e w1 ⟨rfl, hw⟩; have hw2 := hw.symm; clear hw; subst hw2; rw [hd]))
  go_ret2
  exact ⟨rfl, by repeat (first | exact Fr.refl _ _ | refine Fr.alloc ?_ _)⟩

set_option maxRecDepth 8000 in
set_option maxHeartbeats 1000000 in
theorem ch_e1 (w : World) (c : Nat) (hc : c < 256) (hd : digitN c = true) :
    Calls Tryz.prog 90 #[.int .u8 101, .int .u8 (c : Int)] w fun e w' => e = .returned (.tuple #[strN [c], .bool true]) ∧ Fr NoB w w' := by
  have hv : ∀ u : World, (convert 86 9 (.slice (some ⟨u.heap.size, 0, none⟩) 1 1)).run Tryz.prog (u.alloc (.cells #[.int .u8 (c : Int)] 5)) = .ok (strN [c]) (u.alloc (.cells #[.int .u8 (c : Int)] 5)) :=
    fun u => bytes_str u [c]
  go_enter Tryz.func90, Tryz.ntmps90
  go_wp2_with (first | (go_at_call 82; refine (digit_fn _ c (by omega)).mono ?_; rintro e w1 ⟨rfl, hw⟩; have hw2 := hw.symm; clear hw; subst hw2; rw [hd]))
  go_ret2
  exact ⟨rfl, by repeat (first | exact Fr.refl _ _ | refine Fr.alloc ?_ _)⟩

set_option maxRecDepth 8000 in
set_option maxHeartbeats 1000000 in
theorem ch_e2 (w : World) (c : Nat) (hc : c < 256) (hd : digitN c = false) :
    Calls Tryz.prog 90 #[.int .u8 101, .int .u8 (c : Int)] w fun e w' => e = .returned (.tuple #[strN [], .bool true]) ∧ Fr NoB w w' := by
  go_enter Tryz.func90, Tryz.ntmps90
  go_wp2_with (first | (go_at_call 82; refine (digit_fn _ c (by omega)).mono ?_; rintro e w1 ⟨rfl, hw⟩; have hw2 := hw.symm; clear hw; subst hw2; rw [hd]))
  go_ret2
  exact ⟨rfl, by repeat (first | exact Fr.refl _ _ | refine Fr.alloc ?_ _)⟩

set_option maxRecDepth 8000 in
set_option maxHeartbeats 1000000 in
theorem ch_V (w : World) (c : Nat) (hc : c < 256) :
    Calls Tryz.prog 90 #[.int .u8 86, .int .u8 (c : Int)] w fun e w' => e = .returned (.tuple #[strN [c], .bool (greatN c)]) ∧ Fr NoB w w' := by
  have hv : ∀ u : World, (convert 86 9 (.slice (some ⟨u.heap.size, 0, none⟩) 1 1)).run Tryz.prog (u.alloc (.cells #[.int .u8 (c : Int)] 5)) = .ok (strN [c]) (u.alloc (.cells #[.int .u8 (c : Int)] 5)) :=
    fun u => bytes_str u [c]
  have hv2 : ∀ u : World, (convert 86 9 (.slice (some ⟨u.heap.size, 0, none⟩) 1 1)).run Tryz.prog (u.alloc (.cells #[.int .u8 (c : Int)] 5)).drew = .ok (strN [c]) (u.alloc (.cells #[.int .u8 (c : Int)] 5)).drew := fun u => bytes_strW _ u.heap.size [c] (fun j v hj => by match j, hj with | 0, hj => (simp at hj; subst hj; simp))
  go_enter Tryz.func90, Tryz.ntmps90
  go_wp2_with fail
  go_region_with (go_at_call 119; refine (great_fn _ c hc).mono ?_; rintro e w' ⟨rfl, rfl⟩)
  all_goals
    go_wp2
    go_ret2
    exact ⟨rfl, by repeat (first | exact Fr.refl _ _ | refine Fr.drew ?_ | refine Fr.alloc ?_ _)⟩

set_option maxRecDepth 8000 in
set_option maxHeartbeats 1000000 in
theorem ch_g1 (w : World) :
    Calls Tryz.prog 90 #[.int .u8 103, .int .u8 35] w fun e w' => e = .returned (.tuple #[strN [86, 35], .bool true]) ∧ Fr NoB w w' := by
  have hv : ∀ u : World, (convert 86 9 (.slice (some ⟨u.heap.size, 0, none⟩) 2 2)).run Tryz.prog (u.alloc (.cells #[.int .u8 86, .int .u8 35] 5)) = .ok (strN [86, 35]) (u.alloc (.cells #[.int .u8 86, .int .u8 35] 5)) :=
    fun u => bytes_str u [86, 35]
  go_enter Tryz.func90, Tryz.ntmps90
  go_wp2_with fail
  go_ret2
  exact ⟨rfl, by repeat (first | exact Fr.refl _ _ | refine Fr.alloc ?_ _)⟩

set_option maxRecDepth 8000 in
set_option maxHeartbeats 1000000 in
theorem ch_g2 (w : World) (c : Nat) (hc : c < 256) (b1 : ((c : Int) == 35) = false) (hg : greatN c = true) :
    Calls Tryz.prog 90 #[.int .u8 103, .int .u8 (c : Int)] w fun e w' => e = .returned (.tuple #[strN [93, 111, 91, c], .bool true]) ∧ Fr NoB w w' := by
  have hv : ∀ u : World, (convert 86 9 (.slice (some ⟨u.heap.size, 0, none⟩) 4 4)).run Tryz.prog (u.alloc (.cells #[.int .u8 93, .int .u8 111, .int .u8 91, .int .u8 (c : Int)] 5)) = .ok (strN [93, 111, 91, c]) (u.alloc (.cells #[.int .u8 93, .int .u8 111, .int .u8 91, .int .u8 (c : Int)] 5)) :=
    fun u => bytes_str u [93, 111, 91, c]
  go_enter Tryz.func90, Tryz.ntmps90
  go_wp2_with (first | (go_at_call 119; refine (great_fn _ c (by omega)).mono ?_; rintro e w1 ⟨rfl, hw⟩; have hw2 := hw.symm; clear hw; subst hw2; rw [hg]))
  go_ret2
  exact ⟨rfl, by repeat (first | exact Fr.refl _ _ | refine Fr.alloc ?_ _)⟩

set_option maxRecDepth 8000 in
set_option maxHeartbeats 1000000 in
theorem ch_g3 (w : World) (c : Nat) (hc : c < 256) (b1 : ((c : Int) == 35) = false) (hg : greatN c = false) :
    Calls Tryz.prog 90 #[.int .u8 103, .int .u8 (c : Int)] w fun e w' => e = .returned (.tuple #[strN [116, 111], .bool true]) ∧ Fr NoB w w' := by
  have hv : ∀ u : World, (convert 86 9 (.slice (some ⟨u.heap.size, 0, none⟩) 2 2)).run Tryz.prog (u.alloc (.cells #[.int .u8 116, .int .u8 111] 5)) = .ok (strN [116, 111]) (u.alloc (.cells #[.int .u8 116, .int .u8 111] 5)) :=
    fun u => bytes_str u [116, 111]
  go_enter Tryz.func90, Tryz.ntmps90
  go_wp2_with (first | (go_at_call 119; refine (great_fn _ c (by omega)).mono ?_; rintro e w1 ⟨rfl, hw⟩; have hw2 := hw.symm; clear hw; subst hw2; rw [hg]))
  go_ret2
  exact ⟨rfl, by repeat (first | exact Fr.refl _ _ | refine Fr.alloc ?_ _)⟩

set_option maxRecDepth 8000 in
set_option maxHeartbeats 1000000 in
theorem ch_t43 (w : World) :
    Calls Tryz.prog 90 #[.int .u8 116, .int .u8 43] w fun e w' => e = .returned (.tuple #[strN [111, 43], .bool true]) ∧ Fr NoB w w' := by
  have hv : ∀ u : World, (convert 86 9 (.slice (some ⟨u.heap.size, 0, none⟩) 2 2)).run Tryz.prog (u.alloc (.cells #[.int .u8 111, .int .u8 43] 5)) = .ok (strN [111, 43]) (u.alloc (.cells #[.int .u8 111, .int .u8 43] 5)) :=
    fun u => bytes_str u [111, 43]
  go_enter Tryz.func90, Tryz.ntmps90
  go_wp2_with fail
  go_ret2
  exact ⟨rfl, by repeat (first | exact Fr.refl _ _ | refine Fr.alloc ?_ _)⟩

set_option maxRecDepth 8000 in
set_option maxHeartbeats 1000000 in
theorem ch_t45 (w : World) :
    Calls Tryz.prog 90 #[.int .u8 116, .int .u8 45] w fun e w' => e = .returned (.tuple #[strN [111, 45], .bool true]) ∧ Fr NoB w w' := by
  have hv : ∀ u : World, (convert 86 9 (.slice (some ⟨u.heap.size, 0, none⟩) 2 2)).run Tryz.prog (u.alloc (.cells #[.int .u8 111, .int .u8 45] 5)) = .ok (strN [111, 45]) (u.alloc (.cells #[.int .u8 111, .int .u8 45] 5)) :=
    fun u => bytes_str u [111, 45]
  go_enter Tryz.func90, Tryz.ntmps90
  go_wp2_with fail
  go_ret2
  exact ⟨rfl, by repeat (first | exact Fr.refl _ _ | refine Fr.alloc ?_ _)⟩

set_option maxRecDepth 8000 in
set_option maxHeartbeats 1000000 in
theorem ch_t42 (w : World) :
    Calls Tryz.prog 90 #[.int .u8 116, .int .u8 42] w fun e w' => e = .returned (.tuple #[strN [111, 42], .bool true]) ∧ Fr NoB w w' := by
  have hv : ∀ u : World, (convert 86 9 (.slice (some ⟨u.heap.size, 0, none⟩) 2 2)).run Tryz.prog (u.alloc (.cells #[.int .u8 111, .int .u8 42] 5)) = .ok (strN [111, 42]) (u.alloc (.cells #[.int .u8 111, .int .u8 42] 5)) :=
    fun u => bytes_str u [111, 42]
  go_enter Tryz.func90, Tryz.ntmps90
  go_wp2_with fail
  go_ret2
  exact ⟨rfl, by repeat (first | exact Fr.refl _ _ | refine Fr.alloc ?_ _)⟩

set_option maxRecDepth 8000 in
set_option maxHeartbeats 1000000 in
theorem ch_t47 (w : World) :
    Calls Tryz.prog 90 #[.int .u8 116, .int .u8 47] w fun e w' => e = .returned (.tuple #[strN [111, 47], .bool true]) ∧ Fr NoB w w' := by
  have hv : ∀ u : World, (convert 86 9 (.slice (some ⟨u.heap.size, 0, none⟩) 2 2)).run Tryz.prog (u.alloc (.cells #[.int .u8 111, .int .u8 47] 5)) = .ok (strN [111, 47]) (u.alloc (.cells #[.int .u8 111, .int .u8 47] 5)) :=
    fun u => bytes_str u [111, 47]
  go_enter Tryz.func90, Tryz.ntmps90
  go_wp2_with fail
  go_ret2
  exact ⟨rfl, by repeat (first | exact Fr.refl _ _ | refine Fr.alloc ?_ _)⟩

set_option maxRecDepth 8000 in
set_option maxHeartbeats 1000000 in
theorem ch_t60 (w : World) :
    Calls Tryz.prog 90 #[.int .u8 116, .int .u8 60] w fun e w' => e = .returned (.tuple #[strN [111, 60], .bool true]) ∧ Fr NoB w w' := by
  have hv : ∀ u : World, (convert 86 9 (.slice (some ⟨u.heap.size, 0, none⟩) 2 2)).run Tryz.prog (u.alloc (.cells #[.int .u8 111, .int .u8 60] 5)) = .ok (strN [111, 60]) (u.alloc (.cells #[.int .u8 111, .int .u8 60] 5)) :=
    fun u => bytes_str u [111, 60]
  go_enter Tryz.func90, Tryz.ntmps90
  go_wp2_with fail
  go_ret2
  exact ⟨rfl, by repeat (first | exact Fr.refl _ _ | refine Fr.alloc ?_ _)⟩

set_option maxRecDepth 8000 in
set_option maxHeartbeats 1000000 in
theorem ch_t (w : World) (c : Nat) (_hc : c < 256) (b43 : ((c : Int) == 43) = false) (b45 : ((c : Int) == 45) = false) (b42 : ((c : Int) == 42) = false) (b47 : ((c : Int) == 47) = false) (b60 : ((c : Int) == 60) = false) :
    Calls Tryz.prog 90 #[.int .u8 116, .int .u8 (c : Int)] w fun e w' => e = .returned (.tuple #[strN [], .bool true]) ∧ Fr NoB w w' := by
  go_enter Tryz.func90, Tryz.ntmps90
  go_wp2_with fail
  go_ret2
  exact ⟨rfl, by repeat (first | exact Fr.refl _ _ | refine Fr.alloc ?_ _)⟩

set_option maxRecDepth 8000 in
set_option maxHeartbeats 1000000 in
theorem ch_G1 (w : World) :
    Calls Tryz.prog 90 #[.int .u8 71, .int .u8 91] w fun e w' => e = .returned (.tuple #[strN [93, 111, 91], .bool true]) ∧ Fr NoB w w' := by
  have hv : ∀ u : World, (convert 86 9 (.slice (some ⟨u.heap.size, 0, none⟩) 3 3)).run Tryz.prog (u.alloc (.cells #[.int .u8 93, .int .u8 111, .int .u8 91] 5)) = .ok (strN [93, 111, 91]) (u.alloc (.cells #[.int .u8 93, .int .u8 111, .int .u8 91] 5)) :=
    fun u => bytes_str u [93, 111, 91]
  go_enter Tryz.func90, Tryz.ntmps90
  go_wp2_with fail
  go_ret2
  exact ⟨rfl, by repeat (first | exact Fr.refl _ _ | refine Fr.alloc ?_ _)⟩

set_option maxRecDepth 8000 in
set_option maxHeartbeats 1000000 in
theorem ch_G2 (w : World) (c : Nat) (_hc : c < 256) (b1 : ((c : Int) == 91) = false) :
    Calls Tryz.prog 90 #[.int .u8 71, .int .u8 (c : Int)] w fun e w' => e = .returned (.tuple #[strN [86], .bool true]) ∧ Fr NoB w w' := by
  have hv : ∀ u : World, (convert 86 9 (.slice (some ⟨u.heap.size, 0, none⟩) 1 1)).run Tryz.prog (u.alloc (.cells #[.int .u8 86] 5)) = .ok (strN [86]) (u.alloc (.cells #[.int .u8 86] 5)) :=
    fun u => bytes_str u [86]
  go_enter Tryz.func90, Tryz.ntmps90
  go_wp2_with fail
  go_ret2
  exact ⟨rfl, by repeat (first | exact Fr.refl _ _ | refine Fr.alloc ?_ _)⟩

set_option maxRecDepth 8000 in
set_option maxHeartbeats 1000000 in
theorem ch_p1 (w : World) :
    Calls Tryz.prog 90 #[.int .u8 112, .int .u8 91] w fun e w' => e = .returned (.tuple #[strN [111, 61, 93, 111, 91], .bool true]) ∧ Fr NoB w w' := by
  have hv : ∀ u : World, (convert 86 9 (.slice (some ⟨u.heap.size, 0, none⟩) 5 5)).run Tryz.prog (u.alloc (.cells #[.int .u8 111, .int .u8 61, .int .u8 93, .int .u8 111, .int .u8 91] 5)) = .ok (strN [111, 61, 93, 111, 91]) (u.alloc (.cells #[.int .u8 111, .int .u8 61, .int .u8 93, .int .u8 111, .int .u8 91] 5)) :=
    fun u => bytes_str u [111, 61, 93, 111, 91]
  go_enter Tryz.func90, Tryz.ntmps90
  go_wp2_with fail
  go_ret2
  exact ⟨rfl, by repeat (first | exact Fr.refl _ _ | refine Fr.alloc ?_ _)⟩

set_option maxRecDepth 8000 in
set_option maxHeartbeats 1000000 in
theorem ch_p2 (w : World) (c : Nat) (_hc : c < 256) (b1 : ((c : Int) == 91) = false) :
    Calls Tryz.prog 90 #[.int .u8 112, .int .u8 (c : Int)] w fun e w' => e = .returned (.tuple #[strN [71, 61], .bool true]) ∧ Fr NoB w w' := by
  have hv : ∀ u : World, (convert 86 9 (.slice (some ⟨u.heap.size, 0, none⟩) 2 2)).run Tryz.prog (u.alloc (.cells #[.int .u8 71, .int .u8 61] 5)) = .ok (strN [71, 61]) (u.alloc (.cells #[.int .u8 71, .int .u8 61] 5)) :=
    fun u => bytes_str u [71, 61]
  go_enter Tryz.func90, Tryz.ntmps90
  go_wp2_with fail
  go_ret2
  exact ⟨rfl, by repeat (first | exact Fr.refl _ _ | refine Fr.alloc ?_ _)⟩

theorem chosen_fn (w : World) (t c : Nat) (hc : c < 256) (ht : isPart t) :
    Calls Tryz.prog 90 #[.int .u8 (t : Int), .int .u8 (c : Int)] w fun e w' => e = .returned (.tuple #[strN (chosenN t c).1, .bool (chosenN t c).2]) ∧ Fr NoB w w' := by
  rcases ht with rfl | rfl | rfl | rfl | rfl | rfl | rfl | rfl | rfl
  · exact ch_more w c hc
  · cases hd : digitN c
    · have e : chosenN 111 c = ([c], smallN c) := by simp [chosenN, hd]
      rw [e]; exact ch_o2 w c hc hd
    · have e : chosenN 111 c = ([100, c], true) := by simp [chosenN, hd]
      rw [e]; exact ch_o1 w c hc hd
  · cases hd : digitN c
    · have e : chosenN 100 c = ([], true) := by simp [chosenN, hd]
      rw [e]; exact ch_d2 w c hc hd
    · have e : chosenN 100 c = ([101, c], true) := by simp [chosenN, hd]
      rw [e]; exact ch_d1 w c hc hd
  · cases hd : digitN c
    · have e : chosenN 101 c = ([], true) := by simp [chosenN, hd]
      rw [e]; exact ch_e2 w c hc hd
    · have e : chosenN 101 c = ([c], true) := by simp [chosenN, hd]
      rw [e]; exact ch_e1 w c hc hd
  · exact ch_V w c hc
  · by_cases h : c = 35
    · subst h; exact ch_g1 w
    · cases hg : greatN c
      · have e : chosenN 103 c = ([116, 111], true) := by simp [chosenN, h, hg]
        rw [e]; exact ch_g3 w c hc (neI h) hg
      · have e : chosenN 103 c = ([93, 111, 91, c], true) := by simp [chosenN, h, hg]
        rw [e]; exact ch_g2 w c hc (neI h) hg
  · by_cases h1 : c = 43
    · subst h1; exact ch_t43 w
    · by_cases h2 : c = 45
      · subst h2; exact ch_t45 w
      · by_cases h3 : c = 42
        · subst h3; exact ch_t42 w
        · by_cases h4 : c = 47
          · subst h4; exact ch_t47 w
          · by_cases h5 : c = 60
            · subst h5; exact ch_t60 w
            · have e : chosenN 116 c = ([], true) := by simp [chosenN, h1, h2, h3, h4, h5]
              rw [e]; exact ch_t w c hc (neI h1) (neI h2) (neI h3) (neI h4) (neI h5)
  · by_cases h : c = 91
    · subst h; exact ch_G1 w
    · have e : chosenN 71 c = ([86], true) := by simp [chosenN, h]
      rw [e]; exact ch_G2 w c hc (neI h)
  · by_cases h : c = 91
    · subst h; exact ch_p1 w
    · have e : chosenN 112 c = ([71, 61], true) := by simp [chosenN, h]
      rw [e]; exact ch_p2 w c hc (neI h)
end Go.Proofs.YthcjcjfgdgnljaaGreatDoor

namespace Go.Proofs.YthcjcjfgdgnljaaGreatDoor
open Go.RowKit

def partB (b : Nat) : Bool := b == 83 || b == 111 || b == 100 || b == 101 || b == 86 || b == 103 || b == 116 || b == 71 || b == 112
theorem partB_iff (b : Nat) : partB b = true ↔ isPart b := by simp [partB, isPart, or_assoc]
/-- byte i of a text -/
def bt (s : ByteArray) (i : Nat) : Nat := if h : i < s.size then s[i].toNat else 0
theorem bt_in {s : ByteArray} {i : Nat} (h : i < s.size) : bt s i = s[i].toNat := by simp [bt, h]
theorem bt_lt (s : ByteArray) (i : Nat) : bt s i < 256 := by
  unfold bt; split
  · exact UInt8.toNat_lt _
  · omega

set_option maxHeartbeats 400000 in
theorem among_any (w : World) (c : Nat) (s : ByteArray) (hs : s.size ≤ 1000) :
    Calls Tryz.prog 89 #[.int .u8 (c : Int), .string s] w fun e w' => Says (∃ i, i < s.size ∧ bt s i = c) e ∧ w' = w := by
  go_enter Tryz.func89, Tryz.ntmps89
  go_wp2
  go_loop [5] (fun t => ∃ i : Nat, i ≤ s.size ∧ t = .int .i64 i ∧ (∀ j, j < i → bt s j ≠ c)) (fun t => s.size - (intOf t).toNat)
  case atStart => exact ⟨0, Nat.zero_le _, rfl, fun j hj => absurd hj (by omega)⟩
  case round =>
    obtain ⟨i, hi, rfl, hno⟩ := hrel
    have Hno : Hid (∀ j, j < i → bt s j ≠ c) := hno
    clear hno
    by_cases hlt : i < s.size
    · have Hbt : Hid (bt s i = s[i].toNat) := bt_in hlt
      by_cases he : s[i].toNat = c
      · have heb : ((s[i].toNat : Int) == (c : Int)) = true := beq_iff_eq.2 (by omega)
        have He : Hid (bt s i = c) := Hbt.out.trans he
        clear he
        go_wp2
        go_ret
        exact ⟨⟨true, rfl, ⟨fun _ => ⟨i, hlt, He.out⟩, fun _ => rfl⟩⟩, rfl⟩
      · have heb : ((s[i].toNat : Int) == (c : Int)) = false := beq_eq_false_iff_ne.2 (by omega)
        have He : Hid (bt s i ≠ c) := by show bt s i ≠ c; rw [Hbt.out]; exact he
        clear he
        go_wp2
        go_round
        case rel => exact ⟨i + 1, by omega, by go_num, fun j hj => by
          by_cases e : j = i
          · subst e; exact He.out
          · exact Hno.out j (by omega)⟩
        case measure => simp [intOf]; omega
    · go_wp2
      go_ret
      exact ⟨⟨false, rfl, ⟨fun e => absurd e (by simp), fun ⟨j, hj, h⟩ => absurd h (Hno.out j (by omega))⟩⟩, rfl⟩

theorem among_part (w : World) (c : Nat) :
    Calls Tryz.prog 89 #[.int .u8 (c : Int), .string ⟨#[83, 111, 100, 101, 86, 103, 116, 71, 112]⟩] w fun e w' => e = .returned (.bool (partB c)) ∧ w' = w := by
  refine (among_any w c ⟨#[83, 111, 100, 101, 86, 103, 116, 71, 112]⟩ (by decide)).mono ?_
  rintro e w' ⟨⟨b, rfl, hb⟩, hw⟩
  have key : (∃ i, i < (⟨#[83, 111, 100, 101, 86, 103, 116, 71, 112]⟩ : ByteArray).size ∧ bt ⟨#[83, 111, 100, 101, 86, 103, 116, 71, 112]⟩ i = c) ↔ isPart c := by
    constructor
    · rintro ⟨i, hi, rfl⟩
      have hi' : i < 9 := hi
      match i, hi' with
      | 0, _ => exact (partB_iff _).1 rfl
      | 1, _ => exact (partB_iff _).1 rfl
      | 2, _ => exact (partB_iff _).1 rfl
      | 3, _ => exact (partB_iff _).1 rfl
      | 4, _ => exact (partB_iff _).1 rfl
      | 5, _ => exact (partB_iff _).1 rfl
      | 6, _ => exact (partB_iff _).1 rfl
      | 7, _ => exact (partB_iff _).1 rfl
      | 8, _ => exact (partB_iff _).1 rfl
    · rintro (rfl | rfl | rfl | rfl | rfl | rfl | rfl | rfl | rfl)
      · exact ⟨0, by decide, rfl⟩
      · exact ⟨1, by decide, rfl⟩
      · exact ⟨2, by decide, rfl⟩
      · exact ⟨3, by decide, rfl⟩
      · exact ⟨4, by decide, rfl⟩
      · exact ⟨5, by decide, rfl⟩
      · exact ⟨6, by decide, rfl⟩
      · exact ⟨7, by decide, rfl⟩
      · exact ⟨8, by decide, rfl⟩
  have : b = partB c := by
    rw [Bool.eq_iff_iff, hb, key, partB_iff]
  rw [this]
  exact ⟨rfl, hw⟩

def entC (e : Nat × Bool) : List Value := [.int .u8 (e.1 : Int), .bool e.2]
theorem Tryz.infoExp : (Tryz.prog.info? 107).map (fun i => (i.zero, i.size, i.bytes)) = some (some (.agg #[.int .u8 0, .bool false]), 2, 2) := by kernel_rfl

/-- what is expected, in memory: the first of it last -/
structure StkAt (w : World) (kp base : Nat) (v : Value) (stk : List (Nat × Bool)) : Prop where
  c : w.cell? ⟨kp, 0, none⟩ = some v
  f : ∀ o, w.frozen? ⟨kp, o, none⟩ = false
  row : w.ownsRow base 107 2 v stk.length (stk.flatMap entC)
  ne : v.ownBlock ≠ some kp

/-- append as one step of a region that draws -/
theorem step_append_kind {P : Program} {ops : Array Oper} {o : Oper} {a : Act} {w : World} {K : Act → World → Prop} {Q : Exit → Act → World → Prop} {E : Prop}
    (hg : o.guard = none) (s x : Operand) (t : TypeId) (hop : o.op = Op.call { callee := Callee.builtin Builtin.append, args := #[s, x], argTypes := #[t, t] })
    (base : Nat) (e : TypeId) (i : TypeInfo) (z : Value) (size bytes : Nat) (ht : P.underlying t = some (.slice e)) (hi : P.info? e = some i) (hz : i.zero = some z)
    (hsize : i.size = size) (hby : i.bytes = bytes) (hzs : z.cells.size = size) (hsz : 0 < size)
    (v : Value) (n : Nat) (xs : List Value) (hs : a.eval s = v) (hown : w.ownsRow base e size v n xs)
    (ad : Addr) (m c : Nat) (news : List Value) (hm : 0 < m) (hx : a.eval x = .slice (some ad) m c) (hl : news.length = m * size) (hnews : ∀ j u, news[j]? = some u → w.cell? (ad.add j) = some u) (h1 : ∀ u ∈ news, u.oneCell' = true)
    (h63 : n + m ≤ maxLen) (hbytes : ((n + m) + (n + m) / 4 + 192) * bytes ≤ 281474976710656) (hbase : base ≤ w.heap.size)
    (hK : ∀ v' w', w'.ownsRow base e size v' (n + m) (xs ++ news) → AppKind w w' v v' n m → K (a.put o.dst v') w') :
    if Region.wanted o (yielded ops a.tmps) = true then Oper.wp P o a w K Q else E := by
  have hw : Region.wanted o (yielded ops a.tmps) = true := by simp [Region.wanted, hg]
  rw [if_pos hw]
  obtain ⟨v', w', hr, h2, h3⟩ := run_append_kind (P := P) w base t o.type e i z size bytes ht hi hz hsize hby hzs hsz v n xs hown ad m c news hm hl hnews h1 h63 hbytes hbase
  unfold Oper.wp execOp
  simp only [hop, resolve, invoke, builtin, Sem.run_bind, Sem.run_pure, Result.andThen_ok, List.map_toArray, List.map_cons, List.map_nil, hs, hx, hr]
  exact hK v' w' h2 h3
end Go.Proofs.YthcjcjfgdgnljaaGreatDoor

namespace Go.Proofs.YthcjcjfgdgnljaaGreatDoor
open Go.RowKit

def entS (s : ByteArray) (own : Bool) (j : Nat) : Nat × Bool := (bt s j, partB (bt s j) && !(own && (j + 1 == s.size)))
def pushS (s : ByteArray) (own : Bool) (i : Nat) : List (Nat × Bool) := (List.range i).map (entS s own)
theorem pushS_succ (s : ByteArray) (own : Bool) (i : Nat) : pushS s own (i + 1) = pushS s own i ++ [entS s own i] := by simp [pushS, List.range_succ]

theorem StkAt.grow {w wr w2 : World} {o : Obj} {kp base : Nat} {v v' : Value} {stk : List (Nat × Bool)} {e : Nat × Bool} (h : StkAt wr kp base v stk) (hk : AppKind (wr.alloc o).drew w2 v v' stk.length 1)
    (hown : w2.ownsRow base 107 2 v' (stk.length + 1) (stk.flatMap entC ++ [.int .u8 (e.1 : Int), .bool e.2])) :
    w2.cell? ⟨kp, 0, none⟩ = some v ∧ w2.frozen? ⟨kp, 0, none⟩ = false ∧ StkAt (w2.setCell ⟨kp, 0, none⟩ v') kp base v' (stk ++ [e]) ∧ (∀ S : Nat → Prop, Fr S w wr → (∀ k, k < w.heap.size → (k = kp ∨ v.ownBlock = some k) → S k) → Fr S w (w2.setCell ⟨kp, 0, none⟩ v')) ∧
      (∀ k, v'.ownBlock = some k → wr.heap.size ≤ k ∨ v.ownBlock = some k) := by
  have hF : Fr (fun k => v.ownBlock = some k) wr w2 := (((Fr.refl _ wr).alloc o).drew).trans hk.fr
  have hkl : kp < wr.heap.size := World.block_lt_of_cell? _ _ h.c
  have c2 := hF.cell_some h.c h.ne
  have f2 : ∀ x, w2.frozen? ⟨kp, x, none⟩ = false := fun x => (hF.frozen (p := ⟨kp, x, none⟩) hkl h.ne).trans (h.f x)
  have hpl : ∀ k, v'.ownBlock = some k → wr.heap.size ≤ k ∨ v.ownBlock = some k := fun k hk2 => by
    obtain ⟨g2, cap2, rfl, hp⟩ := hk.place
    have e3 : g2 = k := by simpa [Value.ownBlock] using hk2
    subst e3
    rcases hp with q | q
    · exact .inl (by simp at q; omega)
    · exact .inr q
  have hne : v'.ownBlock ≠ some kp := fun e => by
    rcases hpl kp e with q | q
    · omega
    · exact h.ne q
  refine ⟨c2, f2 0, ⟨cell_same c2, fun x => by rw [World.frozen?_setCell]; exact f2 x, ?_, hne⟩, fun S hS hsub => ?_, hpl⟩
  · have hx : (stk ++ [e]).flatMap entC = stk.flatMap entC ++ [.int .u8 (e.1 : Int), .bool e.2] := by simp [entC]
    rw [hx, List.length_append]
    exact ((Fr.refl (OneB kp) w2).setCell (p := ⟨kp, 0, none⟩) (fun _ => rfl) _).owns hown (fun k hk2 e => by have e' : k = kp := e; subst e'; exact hne hk2)
  · exact (hS.then hF (fun k hk2 e => hsub k hk2 (.inr e))).setCell (p := ⟨kp, 0, none⟩) (fun hlt => hsub _ hlt (.inl rfl)) _

set_option maxRecDepth 8000 in
set_option maxHeartbeats 2000000 in
theorem push_any (w : World) (kp base : Nat) (v : Value) (stk : List (Nat × Bool)) (s : ByteArray) (own : Bool) (h : StkAt w kp base v stk) (hb : base ≤ w.heap.size) (hs : s.size ≤ 1000) (hl : stk.length ≤ 1000000) :
    Calls Tryz.prog 44 #[.pointer (some ⟨kp, 0, none⟩), .string s, .bool own] w fun e w' => e = .returned (.tuple #[]) ∧ ∃ v', StkAt w' kp base v' (stk ++ pushS s own s.size) ∧ Fr (fun k => k = kp ∨ v.ownBlock = some k) w w' := by
  obtain ⟨i0, hi0, hz0, hz1, hz2⟩ := info_parts Tryz.infoExp
  go_enter Tryz.func44, Tryz.ntmps44
  go_wp2
  go_loopw [6] (fun t wr => ∃ (i : Nat) (v' : Value), i ≤ s.size ∧ t = .int .i64 i ∧ StkAt wr kp base v' (stk ++ pushS s own i) ∧ Fr (fun k => k = kp ∨ v.ownBlock = some k) w wr ∧ (∀ k, v'.ownBlock = some k → w.heap.size ≤ k ∨ v.ownBlock = some k)) (fun t _ => s.size - (intOf t).toNat)
  case atStart => exact ⟨0, v, Nat.zero_le _, rfl, by simpa [pushS] using h, Fr.refl _ _, fun k hk => .inr hk⟩
  case round =>
    obtain ⟨i, v1, hi, rfl, hS, hF, hv⟩ := hrel
    by_cases hlt : i < s.size
    · have Hbt : Hid (bt s i = s[i].toNat) := bt_in hlt
      have HP : Hid (∀ W : World, Calls Tryz.prog 89 #[.int .u8 (s[i].toNat : Int), .string ⟨#[83, 111, 100, 101, 86, 103, 116, 71, 112]⟩] W fun e w' => e = .returned (.bool (partB (bt s i))) ∧ w' = W) := fun W => by
        rw [Hbt.out]; exact among_part W _
      obtain ⟨pb, hpb⟩ : ∃ pb, pb = partB (bt s i) := ⟨_, rfl⟩
      rw [← hpb] at HP
      have HE : Hid (entS s own i = (s[i].toNat, pb && !(own && (i + 1 == s.size)))) := by show entS s own i = _; unfold entS; rw [Hbt.out, ← Hbt.out, ← hpb]
      clear hpb
      go_upto_region 3 with fail
      go_cut [7] (fun t wx => t = .bool (entS s own i).2 ∧ wx = wr)
      case first =>
        go_wp2_with fail
        refine (HP.out _).mono ?_
        rintro e w1 ⟨rfl, hw⟩
        have hw2 := hw.symm
        clear hw
        subst hw2
        cases pb
        · go_wp2_with fail
          go_meet
          case rel => exact ⟨by rw [HE.out]; rfl, rfl⟩
        · cases own
          · go_wp2_with fail
            go_meet
            case rel => exact ⟨by rw [HE.out]; rfl, rfl⟩
          · by_cases hlast : i + 1 = s.size
            · have hb1 : ((i : Int) == (s.size : Int) - 1) = true := beq_iff_eq.2 (by omega)
              have hb2 : (i + 1 == s.size) = true := beq_iff_eq.2 hlast
              have Hb2 : Hid _ := hb2
              clear hb2
              clear hlast
              go_wp2_with fail
              go_meet
              case rel => exact ⟨by rw [HE.out, Hb2.out]; rfl, rfl⟩
            · have hb1 : ((i : Int) == (s.size : Int) - 1) = false := beq_eq_false_iff_ne.2 (by omega)
              have hb2 : (i + 1 == s.size) = false := beq_eq_false_iff_ne.2 hlast
              have Hb2 : Hid _ := hb2
              clear hb2
              clear hlast
              go_wp2_with fail
              go_meet
              case rel => exact ⟨by rw [HE.out, Hb2.out]; rfl, rfl⟩
      case rest =>
        obtain ⟨rfl, rfl⟩ := hcut
        have hc := hS.c
        have hrow := hS.row
        have hkl : kp < wc.heap.size := World.block_lt_of_cell? _ _ hc
        have hlen : (stk ++ pushS s own i).length = stk.length + i := by simp [pushS]
        have hsz := hF.size
        obtain ⟨q, hq⟩ : ∃ q, q = (entS s own i).2 := ⟨_, rfl⟩
        have HEE : Hid (entS s own i = (s[i].toNat, q)) := by show _ = _; rw [hq, HE.out]
        have HSt : Hid (StkAt wc kp base v1 (stk ++ pushS s own i)) := hS
        have HPS : Hid (stk ++ pushS s own (i + 1) = (stk ++ pushS s own i) ++ [(s[i].toNat, q)]) := by show _ = _; rw [pushS_succ, HEE.out, List.append_assoc]
        generalize hst : stk ++ pushS s own i = st at *
        rw [← hq]
        clear hq HE HP hS hst HEE
        have Hv : Hid (∀ k, v1.ownBlock = some k → w.heap.size ≤ k ∨ v.ownBlock = some k) := hv
        clear hv
        have hln : st.length ≤ 1001000 := by omega
        clear hlen
        go_upto_region 4 with fail
        go_region_law ((refine step_append_kind rfl _ _ 100 rfl base 107 i0 (.agg #[.int .u8 0, .bool false]) 2 2 Tryz.underlying100 hi0 hz0 hz1 hz2 rfl (by decide) _ _ _ rfl ((hrow.alloc _).drew) ⟨wc.heap.size, 0, none⟩ 1 1 [.int .u8 (s[i].toNat : Int), .bool q] (by decide) rfl rfl (by intro j u hj; match j, hj with | 0, hj => (simp at hj; subst hj; simp [Addr.add]) | 1, hj => (simp at hj; subst hj; simp [Addr.add])) (by intro u hu; simp at hu; rcases hu with rfl | rfl <;> rfl) (by unfold maxLen; omega) (by omega) (by simp; omega) ?_; intro v2 w2 hown2 hk2; obtain ⟨g1, g2, g3, g4, g5⟩ := HSt.out.grow (w := w) (e := (s[i].toNat, q)) hk2 hown2; obtain ⟨gb, cb, hve, _⟩ := hk2.place; subst hve; have HG := show Hid (_ ∧ _ ∧ _) from ⟨g3, g4, g5⟩; clear g3 g4 g5 hown2 hk2))
        all_goals
          go_wp2
          go_roundw
          case rel =>
            refine ⟨i + 1, _, by omega, by go_num, by rw [HPS.out]; exact HG.out.1, HG.out.2.1 _ hF (fun k hk e => ?_), fun k hk => ?_⟩
            · rcases e with e | e
              · exact .inl e
              · rcases Hv.out k e with e2 | e2
                · omega
                · exact .inr e2
            · rcases HG.out.2.2 k hk with e | e
              · exact .inl (by omega)
              · exact Hv.out k e
          case measure => simp [intOf]; omega
    · have hie : i = s.size := by omega
      subst hie
      go_wp2
      go_end0
      exact ⟨rfl, v1, hS, hF⟩
end Go.Proofs.YthcjcjfgdgnljaaGreatDoor
