/-
  SynA, SynB, AppK: one behind the other.
-/
import Derived.Test.YthcjcjfgdgnljaaGBase
import Derived.Deep.QuietTactic
import Derived.BigQuiet
import Derived.Deep.RegionWith
import Derived.Deep.DeepAppendWide
namespace Go.Proofs.Ythcjcjfgdgnljaa
open Go.RowKit

def smallN (c : Nat) : Bool := decide (97 ≤ c) && decide (c ≤ 122)
def greatN (c : Nat) : Bool := decide (65 ≤ c) && decide (c ≤ 90)
def digitN (c : Nat) : Bool := decide (48 ≤ c) && decide (c ≤ 57)
/-- a text out of its bytes -/
def strN (l : List Nat) : Value := .string ⟨(l.map UInt8.ofNat).toArray⟩

theorem retb {a b : Bool} (h : a = b) : Ending.returned (.bool a) = .returned (.bool b) := by rw [h]

set_option maxHeartbeats 400000 in
theorem small_fn (w : World) (c : Nat) (hc : c < 256) : Calls Try.prog 76 #[.int .u8 (c : Int)] w fun e w' => e = .returned (.bool (smallN c)) ∧ w' = w := by
  by_cases h1 : 97 ≤ c
  · have hd : smallN c = decide ((c : Int) ≤ 122) := by
      have : decide ((c : Int) ≤ 122) = decide (c ≤ 122) := by simp; omega
      rw [this]; simp [smallN, h1]
    rw [hd]
    clear hd
    go_enter Try.func76, Try.ntmps76
    go_wp2
    go_ret
    exact ⟨rfl, rfl⟩
  · have hd : smallN c = false := by simp [smallN]; omega
    rw [hd]
    clear hd
    go_enter Try.func76, Try.ntmps76
    go_wp2
    go_ret
    exact ⟨rfl, rfl⟩

theorem foldl_push (l : List Nat) (r : ByteArray) : (l.map (fun b : Nat => (b : Int))).foldl (fun r n => r.push (UInt8.ofNat n.toNat)) r = ⟨r.data ++ (l.map UInt8.ofNat).toArray⟩ := by
  induction l generalizing r with
  | nil => cases r; simp
  | cons b t ih => simp only [List.map_cons, List.foldl_cons]; rw [ih]; cases r; simp [ByteArray.push]

theorem bytes_str (u : World) (bs : List Nat) : (convert 104 9 (.slice (some ⟨u.heap.size, 0, none⟩) bs.length bs.length)).run Try.prog (u.alloc (.cells (bs.map (fun b : Nat => Value.int .u8 (b : Int))).toArray 5)) =
    .ok (strN bs) (u.alloc (.cells (bs.map (fun b : Nat => Value.int .u8 (b : Int))).toArray 5)) := by
  rw [run_convert_bytes_string _ 104 9 5 _ _ _ Try.underlying104 Try.underlying5 Try.underlying9]
  rw [run_bytesToString _ _ _ _ (bs.map (fun b : Nat => (b : Int))) ?_]
  · rw [foldl_push]; simp [strN]
  · have h := run_loadCells_list (P := Try.prog) (w := u.alloc (.cells (bs.map (fun b : Nat => Value.int .u8 (b : Int))).toArray 5)) ⟨u.heap.size, 0, none⟩ (bs.map (fun b : Nat => Value.int .u8 (b : Int))) (fun j v hj => by
      have hadd : (⟨u.heap.size, 0, none⟩ : Addr).add j = ⟨u.heap.size, j, none⟩ := by unfold Addr.add; split <;> simp_all
      rw [hadd, World.cell?_alloc_at _ _ _ _ rfl]
      simpa using hj)
    simpa [Function.comp_def] using h

set_option maxHeartbeats 400000 in
theorem great_fn (w : World) (c : Nat) (hc : c < 256) : Calls Try.prog 58 #[.int .u8 (c : Int)] w fun e w' => e = .returned (.bool (greatN c)) ∧ w' = w := by
  by_cases h1 : 65 ≤ c
  · have hd : greatN c = decide ((c : Int) ≤ 90) := by
      have : decide ((c : Int) ≤ 90) = decide (c ≤ 90) := by simp; omega
      rw [this]; simp [greatN, h1]
    rw [hd]
    clear hd
    go_enter Try.func58, Try.ntmps58
    go_wp2
    go_ret
    exact ⟨rfl, rfl⟩
  · have hd : greatN c = false := by simp [greatN]; omega
    rw [hd]
    clear hd
    go_enter Try.func58, Try.ntmps58
    go_wp2
    go_ret
    exact ⟨rfl, rfl⟩

set_option maxHeartbeats 400000 in
theorem digit_fn (w : World) (c : Nat) (hc : c < 256) : Calls Try.prog 88 #[.int .u8 (c : Int)] w fun e w' => e = .returned (.bool (digitN c)) ∧ w' = w := by
  by_cases h1 : 48 ≤ c
  · have hd : digitN c = decide ((c : Int) ≤ 57) := by
      have : decide ((c : Int) ≤ 57) = decide (c ≤ 57) := by simp; omega
      rw [this]; simp [digitN, h1]
    rw [hd]
    clear hd
    go_enter Try.func88, Try.ntmps88
    go_wp2
    go_ret
    exact ⟨rfl, rfl⟩
  · have hd : digitN c = false := by simp [digitN]; omega
    rw [hd]
    clear hd
    go_enter Try.func88, Try.ntmps88
    go_wp2
    go_ret
    exact ⟨rfl, rfl⟩

def stmtN (c : Nat) : List Nat :=
  if smallN c then [83, 59, 103, 61, c] else if greatN c then [83, 59, 112, c] else if c = 33 then [83, 59, 111, c] else if c = 126 then [83, 59, 86, c]
  else if c = 63 then [83, 125, 83, 123, 125, 83, 123, 111, c] else if c = 64 then [83, 125, 83, 123, 111, c] else []

theorem neI {c k : Nat} (h : c ≠ k) : ((c : Int) == (k : Int)) = false := beq_eq_false_iff_ne.2 (by omega)

set_option maxRecDepth 8000 in
set_option maxHeartbeats 1000000 in
theorem stmt_33 (w : World) :
    Calls Try.prog 87 #[.int .u8 33] w fun e w' => e = .returned (strN [83, 59, 111, 33]) ∧ Fr NoB w w' := by
  have hv : ∀ u : World, (convert 104 9 (.slice (some ⟨u.heap.size, 0, none⟩) 4 4)).run Try.prog (u.alloc (.cells #[.int .u8 83, .int .u8 59, .int .u8 111, .int .u8 33] 5)) = .ok (strN [83, 59, 111, 33]) (u.alloc (.cells #[.int .u8 83, .int .u8 59, .int .u8 111, .int .u8 33] 5)) :=
    fun u => bytes_str u [83, 59, 111, 33]
  have hs : smallN 33 = false := rfl
  have hg : greatN 33 = false := rfl
  go_enter Try.func87, Try.ntmps87
  go_wp2_with (first | (go_at_call 76; refine (small_fn _ 33 (by omega)).mono ?_; rintro e w1 ⟨rfl, hw⟩; have hw2 := hw.symm; clear hw; subst hw2; rw [hs]) | (go_at_call 58; refine (great_fn _ 33 (by omega)).mono ?_; rintro e w1 ⟨rfl, hw⟩; have hw2 := hw.symm; clear hw; subst hw2; rw [hg]))
  go_ret
  exact ⟨rfl, by repeat (first | exact Fr.refl _ _ | refine Fr.alloc ?_ _)⟩

set_option maxRecDepth 8000 in
set_option maxHeartbeats 1000000 in
theorem stmt_126 (w : World) :
    Calls Try.prog 87 #[.int .u8 126] w fun e w' => e = .returned (strN [83, 59, 86, 126]) ∧ Fr NoB w w' := by
  have hv : ∀ u : World, (convert 104 9 (.slice (some ⟨u.heap.size, 0, none⟩) 4 4)).run Try.prog (u.alloc (.cells #[.int .u8 83, .int .u8 59, .int .u8 86, .int .u8 126] 5)) = .ok (strN [83, 59, 86, 126]) (u.alloc (.cells #[.int .u8 83, .int .u8 59, .int .u8 86, .int .u8 126] 5)) :=
    fun u => bytes_str u [83, 59, 86, 126]
  have hs : smallN 126 = false := rfl
  have hg : greatN 126 = false := rfl
  go_enter Try.func87, Try.ntmps87
  go_wp2_with (first | (go_at_call 76; refine (small_fn _ 126 (by omega)).mono ?_; rintro e w1 ⟨rfl, hw⟩; have hw2 := hw.symm; clear hw; subst hw2; rw [hs]) | (go_at_call 58; refine (great_fn _ 126 (by omega)).mono ?_; rintro e w1 ⟨rfl, hw⟩; have hw2 := hw.symm; clear hw; subst hw2; rw [hg]))
  go_ret
  exact ⟨rfl, by repeat (first | exact Fr.refl _ _ | refine Fr.alloc ?_ _)⟩

set_option maxRecDepth 8000 in
set_option maxHeartbeats 1000000 in
theorem stmt_63 (w : World) :
    Calls Try.prog 87 #[.int .u8 63] w fun e w' => e = .returned (strN [83, 125, 83, 123, 125, 83, 123, 111, 63]) ∧ Fr NoB w w' := by
  have hv : ∀ u : World, (convert 104 9 (.slice (some ⟨u.heap.size, 0, none⟩) 9 9)).run Try.prog (u.alloc (.cells #[.int .u8 83, .int .u8 125, .int .u8 83, .int .u8 123, .int .u8 125, .int .u8 83, .int .u8 123, .int .u8 111, .int .u8 63] 5)) = .ok (strN [83, 125, 83, 123, 125, 83, 123, 111, 63]) (u.alloc (.cells #[.int .u8 83, .int .u8 125, .int .u8 83, .int .u8 123, .int .u8 125, .int .u8 83, .int .u8 123, .int .u8 111, .int .u8 63] 5)) :=
    fun u => bytes_str u [83, 125, 83, 123, 125, 83, 123, 111, 63]
  have hs : smallN 63 = false := rfl
  have hg : greatN 63 = false := rfl
  go_enter Try.func87, Try.ntmps87
  go_wp2_with (first | (go_at_call 76; refine (small_fn _ 63 (by omega)).mono ?_; rintro e w1 ⟨rfl, hw⟩; have hw2 := hw.symm; clear hw; subst hw2; rw [hs]) | (go_at_call 58; refine (great_fn _ 63 (by omega)).mono ?_; rintro e w1 ⟨rfl, hw⟩; have hw2 := hw.symm; clear hw; subst hw2; rw [hg]))
  go_ret
  exact ⟨rfl, by repeat (first | exact Fr.refl _ _ | refine Fr.alloc ?_ _)⟩

set_option maxRecDepth 8000 in
set_option maxHeartbeats 1000000 in
theorem stmt_64 (w : World) :
    Calls Try.prog 87 #[.int .u8 64] w fun e w' => e = .returned (strN [83, 125, 83, 123, 111, 64]) ∧ Fr NoB w w' := by
  have hv : ∀ u : World, (convert 104 9 (.slice (some ⟨u.heap.size, 0, none⟩) 6 6)).run Try.prog (u.alloc (.cells #[.int .u8 83, .int .u8 125, .int .u8 83, .int .u8 123, .int .u8 111, .int .u8 64] 5)) = .ok (strN [83, 125, 83, 123, 111, 64]) (u.alloc (.cells #[.int .u8 83, .int .u8 125, .int .u8 83, .int .u8 123, .int .u8 111, .int .u8 64] 5)) :=
    fun u => bytes_str u [83, 125, 83, 123, 111, 64]
  have hs : smallN 64 = false := rfl
  have hg : greatN 64 = false := rfl
  go_enter Try.func87, Try.ntmps87
  go_wp2_with (first | (go_at_call 76; refine (small_fn _ 64 (by omega)).mono ?_; rintro e w1 ⟨rfl, hw⟩; have hw2 := hw.symm; clear hw; subst hw2; rw [hs]) | (go_at_call 58; refine (great_fn _ 64 (by omega)).mono ?_; rintro e w1 ⟨rfl, hw⟩; have hw2 := hw.symm; clear hw; subst hw2; rw [hg]))
  go_ret
  exact ⟨rfl, by repeat (first | exact Fr.refl _ _ | refine Fr.alloc ?_ _)⟩

set_option maxRecDepth 8000 in
set_option maxHeartbeats 1000000 in
theorem stmt_small (w : World) (c : Nat) (hc : c < 256) (hs : smallN c = true) :
    Calls Try.prog 87 #[.int .u8 (c : Int)] w fun e w' => e = .returned (strN [83, 59, 103, 61, c]) ∧ Fr NoB w w' := by
  have hv : ∀ u : World, (convert 104 9 (.slice (some ⟨u.heap.size, 0, none⟩) 5 5)).run Try.prog (u.alloc (.cells #[.int .u8 83, .int .u8 59, .int .u8 103, .int .u8 61, .int .u8 (c : Int)] 5)) = .ok (strN [83, 59, 103, 61, c]) (u.alloc (.cells #[.int .u8 83, .int .u8 59, .int .u8 103, .int .u8 61, .int .u8 (c : Int)] 5)) :=
    fun u => bytes_str u [83, 59, 103, 61, c]
  go_enter Try.func87, Try.ntmps87
  go_wp2_with (first | (go_at_call 76; refine (small_fn _ c (by omega)).mono ?_; rintro e w1 ⟨rfl, hw⟩; have hw2 := hw.symm; clear hw; subst hw2; rw [hs]))
  go_ret
  exact ⟨rfl, by repeat (first | exact Fr.refl _ _ | refine Fr.alloc ?_ _)⟩

set_option maxRecDepth 8000 in
set_option maxHeartbeats 1000000 in
theorem stmt_great (w : World) (c : Nat) (hc : c < 256) (hs : smallN c = false) (hg : greatN c = true) :
    Calls Try.prog 87 #[.int .u8 (c : Int)] w fun e w' => e = .returned (strN [83, 59, 112, c]) ∧ Fr NoB w w' := by
  have hv : ∀ u : World, (convert 104 9 (.slice (some ⟨u.heap.size, 0, none⟩) 4 4)).run Try.prog (u.alloc (.cells #[.int .u8 83, .int .u8 59, .int .u8 112, .int .u8 (c : Int)] 5)) = .ok (strN [83, 59, 112, c]) (u.alloc (.cells #[.int .u8 83, .int .u8 59, .int .u8 112, .int .u8 (c : Int)] 5)) :=
    fun u => bytes_str u [83, 59, 112, c]
  go_enter Try.func87, Try.ntmps87
  go_wp2_with (first | (go_at_call 76; refine (small_fn _ c (by omega)).mono ?_; rintro e w1 ⟨rfl, hw⟩; have hw2 := hw.symm; clear hw; subst hw2; rw [hs]) | (go_at_call 58; refine (great_fn _ c (by omega)).mono ?_; rintro e w1 ⟨rfl, hw⟩; have hw2 := hw.symm; clear hw; subst hw2; rw [hg]))
  go_ret
  exact ⟨rfl, by repeat (first | exact Fr.refl _ _ | refine Fr.alloc ?_ _)⟩

set_option maxRecDepth 8000 in
set_option maxHeartbeats 1000000 in
theorem stmt_none (w : World) (c : Nat) (hc : c < 256) (hs : smallN c = false) (hg : greatN c = false) (b1 : ((c : Int) == 33) = false) (b2 : ((c : Int) == 126) = false) (b3 : ((c : Int) == 63) = false) (b4 : ((c : Int) == 64) = false) :
    Calls Try.prog 87 #[.int .u8 (c : Int)] w fun e w' => e = .returned (strN []) ∧ Fr NoB w w' := by
  go_enter Try.func87, Try.ntmps87
  go_wp2_with (first | (go_at_call 76; refine (small_fn _ c (by omega)).mono ?_; rintro e w1 ⟨rfl, hw⟩; have hw2 := hw.symm; clear hw; subst hw2; rw [hs]) | (go_at_call 58; refine (great_fn _ c (by omega)).mono ?_; rintro e w1 ⟨rfl, hw⟩; have hw2 := hw.symm; clear hw; subst hw2; rw [hg]))
  go_ret
  exact ⟨rfl, by repeat (first | exact Fr.refl _ _ | refine Fr.alloc ?_ _)⟩

theorem stmt_fn (w : World) (c : Nat) (hc : c < 256) : Calls Try.prog 87 #[.int .u8 (c : Int)] w fun e w' => e = .returned (strN (stmtN c)) ∧ Fr NoB w w' := by
  cases hs : smallN c
  · cases hg : greatN c
    · by_cases h1 : c = 33
      · subst h1; exact stmt_33 w
      · by_cases h2 : c = 126
        · subst h2; exact stmt_126 w
        · by_cases h3 : c = 63
          · subst h3; exact stmt_63 w
          · by_cases h4 : c = 64
            · subst h4; exact stmt_64 w
            · have e : stmtN c = [] := by simp [stmtN, hs, hg, h1, h2, h3, h4]
              rw [e]
              exact stmt_none w c hc hs hg (neI h1) (neI h2) (neI h3) (neI h4)
    · have e : stmtN c = [83, 59, 112, c] := by simp [stmtN, hs, hg]
      rw [e]
      exact stmt_great w c hc hs hg
  · have e : stmtN c = [83, 59, 103, 61, c] := by simp [stmtN, hs]
    rw [e]
    exact stmt_small w c hc hs
end Go.Proofs.Ythcjcjfgdgnljaa

namespace Go.Proofs.Ythcjcjfgdgnljaa
open Go.RowKit

def chosenN (top c : Nat) : List Nat × Bool :=
  if top = 83 then (stmtN c, true)
  else if top = 111 then (if digitN c then ([100, c], true) else ([c], smallN c))
  else if top = 100 then (if digitN c then ([101, c], true) else ([], true))
  else if top = 101 then (if digitN c then ([c], true) else ([], true))
  else if top = 86 then ([c], greatN c)
  else if top = 103 then (if c = 35 then ([86, c], true) else if greatN c then ([93, 111, 91, c], true) else ([116, 111], true))
  else if top = 116 then (if c = 43 ∨ c = 45 ∨ c = 42 ∨ c = 47 ∨ c = 60 then ([111, c], true) else ([], true))
  else if top = 71 then (if c = 91 then ([93, 111, c], true) else ([86], true))
  else (if c = 91 then ([111, 61, 93, 111, c], true) else ([71, 61], true))
theorem bytes_strW (W : World) (b : Nat) (bs : List Nat) (h : ∀ j v, (bs.map (fun b : Nat => Value.int .u8 (b : Int)))[j]? = some v → W.cell? ⟨b, j, none⟩ = some v) :
    (convert 104 9 (.slice (some ⟨b, 0, none⟩) bs.length bs.length)).run Try.prog W = .ok (strN bs) W := by
  rw [run_convert_bytes_string _ 104 9 5 _ _ _ Try.underlying104 Try.underlying5 Try.underlying9]
  rw [run_bytesToString _ _ _ _ (bs.map (fun b : Nat => (b : Int))) ?_]
  · rw [foldl_push]; simp [strN]
  · have g := run_loadCells_list (P := Try.prog) (w := W) ⟨b, 0, none⟩ (bs.map (fun b : Nat => Value.int .u8 (b : Int))) (fun j v hj => by
      have hadd : (⟨b, 0, none⟩ : Addr).add j = ⟨b, j, none⟩ := by unfold Addr.add; split <;> simp_all
      rw [hadd]; exact h j v hj)
    simpa [Function.comp_def] using g
def isPart (b : Nat) : Prop := b = 83 ∨ b = 111 ∨ b = 100 ∨ b = 101 ∨ b = 86 ∨ b = 103 ∨ b = 116 ∨ b = 71 ∨ b = 112

set_option maxRecDepth 8000 in
set_option maxHeartbeats 1000000 in
theorem ch_more (w : World) (c : Nat) (hc : c < 256) :
    Calls Try.prog 71 #[.int .u8 83, .int .u8 (c : Int)] w fun e w' => e = .returned (.tuple #[strN (stmtN c), .bool true]) ∧ Fr NoB w w' := by
  generalize hl : stmtN c = l
  have HS : Hid (∀ W : World, Calls Try.prog 87 #[.int .u8 (c : Int)] W fun e w' => e = .returned (strN l) ∧ Fr NoB W w') := fun W => by rw [← hl]; exact stmt_fn W c hc
  clear hl
  unfold strN at HS ⊢
  go_enter Try.func71, Try.ntmps71
  go_wp2_with fail
  refine (HS.out _).mono ?_
  rintro e w1 ⟨rfl, hF⟩
  go_wp2
  go_ret2
  exact ⟨rfl, hF⟩

set_option maxRecDepth 8000 in
set_option maxHeartbeats 1000000 in
theorem ch_o1 (w : World) (c : Nat) (hc : c < 256) (hd : digitN c = true) :
    Calls Try.prog 71 #[.int .u8 111, .int .u8 (c : Int)] w fun e w' => e = .returned (.tuple #[strN [100, c], .bool true]) ∧ Fr NoB w w' := by
  have hv : ∀ u : World, (convert 104 9 (.slice (some ⟨u.heap.size, 0, none⟩) 2 2)).run Try.prog (u.alloc (.cells #[.int .u8 100, .int .u8 (c : Int)] 5)) = .ok (strN [100, c]) (u.alloc (.cells #[.int .u8 100, .int .u8 (c : Int)] 5)) :=
    fun u => bytes_str u [100, c]
  go_enter Try.func71, Try.ntmps71
  go_wp2_with (first | (go_at_call 88; refine (digit_fn _ c (by omega)).mono ?_; rintro e w1 ⟨rfl, hw⟩; have hw2 := hw.symm; clear hw; subst hw2; rw [hd]))
  go_ret2
  exact ⟨rfl, by repeat (first | exact Fr.refl _ _ | refine Fr.alloc ?_ _)⟩

set_option maxRecDepth 8000 in
set_option maxHeartbeats 1000000 in
theorem ch_o2 (w : World) (c : Nat) (hc : c < 256) (hd : digitN c = false) :
    Calls Try.prog 71 #[.int .u8 111, .int .u8 (c : Int)] w fun e w' => e = .returned (.tuple #[strN [c], .bool (smallN c)]) ∧ Fr NoB w w' := by
  have hv : ∀ u : World, (convert 104 9 (.slice (some ⟨u.heap.size, 0, none⟩) 1 1)).run Try.prog (u.alloc (.cells #[.int .u8 (c : Int)] 5)) = .ok (strN [c]) (u.alloc (.cells #[.int .u8 (c : Int)] 5)) :=
    fun u => bytes_str u [c]
  have hv2 : ∀ u : World, (convert 104 9 (.slice (some ⟨u.heap.size, 0, none⟩) 1 1)).run Try.prog (u.alloc (.cells #[.int .u8 (c : Int)] 5)).drew = .ok (strN [c]) (u.alloc (.cells #[.int .u8 (c : Int)] 5)).drew := fun u => bytes_strW _ u.heap.size [c] (fun j v hj => by match j, hj with | 0, hj => (simp at hj; subst hj; simp))
  go_enter Try.func71, Try.ntmps71
  go_wp2_with (first | (go_at_call 88; refine (digit_fn _ c (by omega)).mono ?_; rintro e w1 ⟨rfl, hw⟩; have hw2 := hw.symm; clear hw; subst hw2; rw [hd]))
  go_region_with (go_at_call 76; refine (small_fn _ c hc).mono ?_; rintro e w' ⟨rfl, rfl⟩)
  all_goals
    go_wp2
    go_ret2
    exact ⟨rfl, by repeat (first | exact Fr.refl _ _ | refine Fr.drew ?_ | refine Fr.alloc ?_ _)⟩

set_option maxRecDepth 8000 in
set_option maxHeartbeats 1000000 in
theorem ch_d1 (w : World) (c : Nat) (hc : c < 256) (hd : digitN c = true) :
    Calls Try.prog 71 #[.int .u8 100, .int .u8 (c : Int)] w fun e w' => e = .returned (.tuple #[strN [101, c], .bool true]) ∧ Fr NoB w w' := by
  have hv : ∀ u : World, (convert 104 9 (.slice (some ⟨u.heap.size, 0, none⟩) 2 2)).run Try.prog (u.alloc (.cells #[.int .u8 101, .int .u8 (c : Int)] 5)) = .ok (strN [101, c]) (u.alloc (.cells #[.int .u8 101, .int .u8 (c : Int)] 5)) :=
    fun u => bytes_str u [101, c]
  go_enter Try.func71, Try.ntmps71
  go_wp2_with (first | (go_at_call 88; refine (digit_fn _ c (by omega)).mono ?_; rintro e w1 ⟨rfl, hw⟩; have hw2 := hw.symm; clear hw; subst hw2; rw [hd]))
  go_ret2
  exact ⟨rfl, by repeat (first | exact Fr.refl _ _ | refine Fr.alloc ?_ _)⟩

set_option maxRecDepth 8000 in
set_option maxHeartbeats 1000000 in
theorem ch_d2 (w : World) (c : Nat) (hc : c < 256) (hd : digitN c = false) :
    Calls Try.prog 71 #[.int .u8 100, .int .u8 (c : Int)] w fun e w' => e = .returned (.tuple #[strN [], .bool true]) ∧ Fr NoB w w' := by
  go_enter Try.func71, Try.ntmps71
  go_wp2_with (first | (go_at_call 88; refine (digit_fn _ c (by omega)).mono ?_; rintro e w1 ⟨rfl, hw⟩; have hw2 := hw.symm; clear hw; subst hw2; rw [hd]))
  go_ret2
  exact ⟨rfl, by repeat (first | exact Fr.refl _ _ | refine Fr.alloc ?_ _)⟩

set_option maxRecDepth 8000 in
set_option maxHeartbeats 1000000 in
theorem ch_e1 (w : World) (c : Nat) (hc : c < 256) (hd : digitN c = true) :
    Calls Try.prog 71 #[.int .u8 101, .int .u8 (c : Int)] w fun e w' => e = .returned (.tuple #[strN [c], .bool true]) ∧ Fr NoB w w' := by
  have hv : ∀ u : World, (convert 104 9 (.slice (some ⟨u.heap.size, 0, none⟩) 1 1)).run Try.prog (u.alloc (.cells #[.int .u8 (c : Int)] 5)) = .ok (strN [c]) (u.alloc (.cells #[.int .u8 (c : Int)] 5)) :=
    fun u => bytes_str u [c]
  go_enter Try.func71, Try.ntmps71
  go_wp2_with (first | (go_at_call 88; refine (digit_fn _ c (by omega)).mono ?_; rintro e w1 ⟨rfl, hw⟩; have hw2 := hw.symm; clear hw; subst hw2; rw [hd]))
  go_ret2
  exact ⟨rfl, by repeat (first | exact Fr.refl _ _ | refine Fr.alloc ?_ _)⟩

set_option maxRecDepth 8000 in
set_option maxHeartbeats 1000000 in
theorem ch_e2 (w : World) (c : Nat) (hc : c < 256) (hd : digitN c = false) :
    Calls Try.prog 71 #[.int .u8 101, .int .u8 (c : Int)] w fun e w' => e = .returned (.tuple #[strN [], .bool true]) ∧ Fr NoB w w' := by
  go_enter Try.func71, Try.ntmps71
  go_wp2_with (first | (go_at_call 88; refine (digit_fn _ c (by omega)).mono ?_; rintro e w1 ⟨rfl, hw⟩; have hw2 := hw.symm; clear hw; subst hw2; rw [hd]))
  go_ret2
  exact ⟨rfl, by repeat (first | exact Fr.refl _ _ | refine Fr.alloc ?_ _)⟩

set_option maxRecDepth 8000 in
set_option maxHeartbeats 1000000 in
theorem ch_V (w : World) (c : Nat) (hc : c < 256) :
    Calls Try.prog 71 #[.int .u8 86, .int .u8 (c : Int)] w fun e w' => e = .returned (.tuple #[strN [c], .bool (greatN c)]) ∧ Fr NoB w w' := by
  have hv : ∀ u : World, (convert 104 9 (.slice (some ⟨u.heap.size, 0, none⟩) 1 1)).run Try.prog (u.alloc (.cells #[.int .u8 (c : Int)] 5)) = .ok (strN [c]) (u.alloc (.cells #[.int .u8 (c : Int)] 5)) :=
    fun u => bytes_str u [c]
  have hv2 : ∀ u : World, (convert 104 9 (.slice (some ⟨u.heap.size, 0, none⟩) 1 1)).run Try.prog (u.alloc (.cells #[.int .u8 (c : Int)] 5)).drew = .ok (strN [c]) (u.alloc (.cells #[.int .u8 (c : Int)] 5)).drew := fun u => bytes_strW _ u.heap.size [c] (fun j v hj => by match j, hj with | 0, hj => (simp at hj; subst hj; simp))
  go_enter Try.func71, Try.ntmps71
  go_wp2_with fail
  go_region_with (go_at_call 58; refine (great_fn _ c hc).mono ?_; rintro e w' ⟨rfl, rfl⟩)
  all_goals
    go_wp2
    go_ret2
    exact ⟨rfl, by repeat (first | exact Fr.refl _ _ | refine Fr.drew ?_ | refine Fr.alloc ?_ _)⟩

set_option maxRecDepth 8000 in
set_option maxHeartbeats 1000000 in
theorem ch_g1 (w : World) :
    Calls Try.prog 71 #[.int .u8 103, .int .u8 35] w fun e w' => e = .returned (.tuple #[strN [86, 35], .bool true]) ∧ Fr NoB w w' := by
  have hv : ∀ u : World, (convert 104 9 (.slice (some ⟨u.heap.size, 0, none⟩) 2 2)).run Try.prog (u.alloc (.cells #[.int .u8 86, .int .u8 35] 5)) = .ok (strN [86, 35]) (u.alloc (.cells #[.int .u8 86, .int .u8 35] 5)) :=
    fun u => bytes_str u [86, 35]
  go_enter Try.func71, Try.ntmps71
  go_wp2_with fail
  go_ret2
  exact ⟨rfl, by repeat (first | exact Fr.refl _ _ | refine Fr.alloc ?_ _)⟩

set_option maxRecDepth 8000 in
set_option maxHeartbeats 1000000 in
theorem ch_g2 (w : World) (c : Nat) (hc : c < 256) (b1 : ((c : Int) == 35) = false) (hg : greatN c = true) :
    Calls Try.prog 71 #[.int .u8 103, .int .u8 (c : Int)] w fun e w' => e = .returned (.tuple #[strN [93, 111, 91, c], .bool true]) ∧ Fr NoB w w' := by
  have hv : ∀ u : World, (convert 104 9 (.slice (some ⟨u.heap.size, 0, none⟩) 4 4)).run Try.prog (u.alloc (.cells #[.int .u8 93, .int .u8 111, .int .u8 91, .int .u8 (c : Int)] 5)) = .ok (strN [93, 111, 91, c]) (u.alloc (.cells #[.int .u8 93, .int .u8 111, .int .u8 91, .int .u8 (c : Int)] 5)) :=
    fun u => bytes_str u [93, 111, 91, c]
  go_enter Try.func71, Try.ntmps71
  go_wp2_with (first | (go_at_call 58; refine (great_fn _ c (by omega)).mono ?_; rintro e w1 ⟨rfl, hw⟩; have hw2 := hw.symm; clear hw; subst hw2; rw [hg]))
  go_ret2
  exact ⟨rfl, by repeat (first | exact Fr.refl _ _ | refine Fr.alloc ?_ _)⟩

set_option maxRecDepth 8000 in
set_option maxHeartbeats 1000000 in
theorem ch_g3 (w : World) (c : Nat) (hc : c < 256) (b1 : ((c : Int) == 35) = false) (hg : greatN c = false) :
    Calls Try.prog 71 #[.int .u8 103, .int .u8 (c : Int)] w fun e w' => e = .returned (.tuple #[strN [116, 111], .bool true]) ∧ Fr NoB w w' := by
  have hv : ∀ u : World, (convert 104 9 (.slice (some ⟨u.heap.size, 0, none⟩) 2 2)).run Try.prog (u.alloc (.cells #[.int .u8 116, .int .u8 111] 5)) = .ok (strN [116, 111]) (u.alloc (.cells #[.int .u8 116, .int .u8 111] 5)) :=
    fun u => bytes_str u [116, 111]
  go_enter Try.func71, Try.ntmps71
  go_wp2_with (first | (go_at_call 58; refine (great_fn _ c (by omega)).mono ?_; rintro e w1 ⟨rfl, hw⟩; have hw2 := hw.symm; clear hw; subst hw2; rw [hg]))
  go_ret2
  exact ⟨rfl, by repeat (first | exact Fr.refl _ _ | refine Fr.alloc ?_ _)⟩

set_option maxRecDepth 8000 in
set_option maxHeartbeats 1000000 in
theorem ch_t43 (w : World) :
    Calls Try.prog 71 #[.int .u8 116, .int .u8 43] w fun e w' => e = .returned (.tuple #[strN [111, 43], .bool true]) ∧ Fr NoB w w' := by
  have hv : ∀ u : World, (convert 104 9 (.slice (some ⟨u.heap.size, 0, none⟩) 2 2)).run Try.prog (u.alloc (.cells #[.int .u8 111, .int .u8 43] 5)) = .ok (strN [111, 43]) (u.alloc (.cells #[.int .u8 111, .int .u8 43] 5)) :=
    fun u => bytes_str u [111, 43]
  go_enter Try.func71, Try.ntmps71
  go_wp2_with fail
  go_ret2
  exact ⟨rfl, by repeat (first | exact Fr.refl _ _ | refine Fr.alloc ?_ _)⟩

set_option maxRecDepth 8000 in
set_option maxHeartbeats 1000000 in
theorem ch_t45 (w : World) :
    Calls Try.prog 71 #[.int .u8 116, .int .u8 45] w fun e w' => e = .returned (.tuple #[strN [111, 45], .bool true]) ∧ Fr NoB w w' := by
  have hv : ∀ u : World, (convert 104 9 (.slice (some ⟨u.heap.size, 0, none⟩) 2 2)).run Try.prog (u.alloc (.cells #[.int .u8 111, .int .u8 45] 5)) = .ok (strN [111, 45]) (u.alloc (.cells #[.int .u8 111, .int .u8 45] 5)) :=
    fun u => bytes_str u [111, 45]
  go_enter Try.func71, Try.ntmps71
  go_wp2_with fail
  go_ret2
  exact ⟨rfl, by repeat (first | exact Fr.refl _ _ | refine Fr.alloc ?_ _)⟩

set_option maxRecDepth 8000 in
set_option maxHeartbeats 1000000 in
theorem ch_t42 (w : World) :
    Calls Try.prog 71 #[.int .u8 116, .int .u8 42] w fun e w' => e = .returned (.tuple #[strN [111, 42], .bool true]) ∧ Fr NoB w w' := by
  have hv : ∀ u : World, (convert 104 9 (.slice (some ⟨u.heap.size, 0, none⟩) 2 2)).run Try.prog (u.alloc (.cells #[.int .u8 111, .int .u8 42] 5)) = .ok (strN [111, 42]) (u.alloc (.cells #[.int .u8 111, .int .u8 42] 5)) :=
    fun u => bytes_str u [111, 42]
  go_enter Try.func71, Try.ntmps71
  go_wp2_with fail
  go_ret2
  exact ⟨rfl, by repeat (first | exact Fr.refl _ _ | refine Fr.alloc ?_ _)⟩

set_option maxRecDepth 8000 in
set_option maxHeartbeats 1000000 in
theorem ch_t47 (w : World) :
    Calls Try.prog 71 #[.int .u8 116, .int .u8 47] w fun e w' => e = .returned (.tuple #[strN [111, 47], .bool true]) ∧ Fr NoB w w' := by
  have hv : ∀ u : World, (convert 104 9 (.slice (some ⟨u.heap.size, 0, none⟩) 2 2)).run Try.prog (u.alloc (.cells #[.int .u8 111, .int .u8 47] 5)) = .ok (strN [111, 47]) (u.alloc (.cells #[.int .u8 111, .int .u8 47] 5)) :=
    fun u => bytes_str u [111, 47]
  go_enter Try.func71, Try.ntmps71
  go_wp2_with fail
  go_ret2
  exact ⟨rfl, by repeat (first | exact Fr.refl _ _ | refine Fr.alloc ?_ _)⟩

set_option maxRecDepth 8000 in
set_option maxHeartbeats 1000000 in
theorem ch_t60 (w : World) :
    Calls Try.prog 71 #[.int .u8 116, .int .u8 60] w fun e w' => e = .returned (.tuple #[strN [111, 60], .bool true]) ∧ Fr NoB w w' := by
  have hv : ∀ u : World, (convert 104 9 (.slice (some ⟨u.heap.size, 0, none⟩) 2 2)).run Try.prog (u.alloc (.cells #[.int .u8 111, .int .u8 60] 5)) = .ok (strN [111, 60]) (u.alloc (.cells #[.int .u8 111, .int .u8 60] 5)) :=
    fun u => bytes_str u [111, 60]
  go_enter Try.func71, Try.ntmps71
  go_wp2_with fail
  go_ret2
  exact ⟨rfl, by repeat (first | exact Fr.refl _ _ | refine Fr.alloc ?_ _)⟩

set_option maxRecDepth 8000 in
set_option maxHeartbeats 1000000 in
theorem ch_t (w : World) (c : Nat) (_hc : c < 256) (b43 : ((c : Int) == 43) = false) (b45 : ((c : Int) == 45) = false) (b42 : ((c : Int) == 42) = false) (b47 : ((c : Int) == 47) = false) (b60 : ((c : Int) == 60) = false) :
    Calls Try.prog 71 #[.int .u8 116, .int .u8 (c : Int)] w fun e w' => e = .returned (.tuple #[strN [], .bool true]) ∧ Fr NoB w w' := by
  go_enter Try.func71, Try.ntmps71
  go_wp2_with fail
  go_ret2
  exact ⟨rfl, by repeat (first | exact Fr.refl _ _ | refine Fr.alloc ?_ _)⟩

set_option maxRecDepth 8000 in
set_option maxHeartbeats 1000000 in
theorem ch_G1 (w : World) :
    Calls Try.prog 71 #[.int .u8 71, .int .u8 91] w fun e w' => e = .returned (.tuple #[strN [93, 111, 91], .bool true]) ∧ Fr NoB w w' := by
  have hv : ∀ u : World, (convert 104 9 (.slice (some ⟨u.heap.size, 0, none⟩) 3 3)).run Try.prog (u.alloc (.cells #[.int .u8 93, .int .u8 111, .int .u8 91] 5)) = .ok (strN [93, 111, 91]) (u.alloc (.cells #[.int .u8 93, .int .u8 111, .int .u8 91] 5)) :=
    fun u => bytes_str u [93, 111, 91]
  go_enter Try.func71, Try.ntmps71
  go_wp2_with fail
  go_ret2
  exact ⟨rfl, by repeat (first | exact Fr.refl _ _ | refine Fr.alloc ?_ _)⟩

set_option maxRecDepth 8000 in
set_option maxHeartbeats 1000000 in
theorem ch_G2 (w : World) (c : Nat) (_hc : c < 256) (b1 : ((c : Int) == 91) = false) :
    Calls Try.prog 71 #[.int .u8 71, .int .u8 (c : Int)] w fun e w' => e = .returned (.tuple #[strN [86], .bool true]) ∧ Fr NoB w w' := by
  have hv : ∀ u : World, (convert 104 9 (.slice (some ⟨u.heap.size, 0, none⟩) 1 1)).run Try.prog (u.alloc (.cells #[.int .u8 86] 5)) = .ok (strN [86]) (u.alloc (.cells #[.int .u8 86] 5)) :=
    fun u => bytes_str u [86]
  go_enter Try.func71, Try.ntmps71
  go_wp2_with fail
  go_ret2
  exact ⟨rfl, by repeat (first | exact Fr.refl _ _ | refine Fr.alloc ?_ _)⟩

set_option maxRecDepth 8000 in
set_option maxHeartbeats 1000000 in
theorem ch_p1 (w : World) :
    Calls Try.prog 71 #[.int .u8 112, .int .u8 91] w fun e w' => e = .returned (.tuple #[strN [111, 61, 93, 111, 91], .bool true]) ∧ Fr NoB w w' := by
  have hv : ∀ u : World, (convert 104 9 (.slice (some ⟨u.heap.size, 0, none⟩) 5 5)).run Try.prog (u.alloc (.cells #[.int .u8 111, .int .u8 61, .int .u8 93, .int .u8 111, .int .u8 91] 5)) = .ok (strN [111, 61, 93, 111, 91]) (u.alloc (.cells #[.int .u8 111, .int .u8 61, .int .u8 93, .int .u8 111, .int .u8 91] 5)) :=
    fun u => bytes_str u [111, 61, 93, 111, 91]
  go_enter Try.func71, Try.ntmps71
  go_wp2_with fail
  go_ret2
  exact ⟨rfl, by repeat (first | exact Fr.refl _ _ | refine Fr.alloc ?_ _)⟩

set_option maxRecDepth 8000 in
set_option maxHeartbeats 1000000 in
theorem ch_p2 (w : World) (c : Nat) (_hc : c < 256) (b1 : ((c : Int) == 91) = false) :
    Calls Try.prog 71 #[.int .u8 112, .int .u8 (c : Int)] w fun e w' => e = .returned (.tuple #[strN [71, 61], .bool true]) ∧ Fr NoB w w' := by
  have hv : ∀ u : World, (convert 104 9 (.slice (some ⟨u.heap.size, 0, none⟩) 2 2)).run Try.prog (u.alloc (.cells #[.int .u8 71, .int .u8 61] 5)) = .ok (strN [71, 61]) (u.alloc (.cells #[.int .u8 71, .int .u8 61] 5)) :=
    fun u => bytes_str u [71, 61]
  go_enter Try.func71, Try.ntmps71
  go_wp2_with fail
  go_ret2
  exact ⟨rfl, by repeat (first | exact Fr.refl _ _ | refine Fr.alloc ?_ _)⟩

theorem chosen_fn (w : World) (t c : Nat) (hc : c < 256) (ht : isPart t) :
    Calls Try.prog 71 #[.int .u8 (t : Int), .int .u8 (c : Int)] w fun e w' => e = .returned (.tuple #[strN (chosenN t c).1, .bool (chosenN t c).2]) ∧ Fr NoB w w' := by
  rcases ht with rfl | rfl | rfl | rfl | rfl | rfl | rfl | rfl | rfl
  · exact ch_more w c hc
  · cases hd : digitN c
    · have e : chosenN 111 c = ([c], smallN c) := by simp [chosenN, hd]
      rw [e]; exact ch_o2 w c hc hd
    · have e : chosenN 111 c = ([100, c], true) := by simp [chosenN, hd]
      rw [e]; exact ch_o1 w c hc hd
  · cases hd : digitN c
    · have e : chosenN 100 c = ([], true) := by simp [chosenN, hd]
      rw [e]; exact ch_d2 w c hc hd
    · have e : chosenN 100 c = ([101, c], true) := by simp [chosenN, hd]
      rw [e]; exact ch_d1 w c hc hd
  · cases hd : digitN c
    · have e : chosenN 101 c = ([], true) := by simp [chosenN, hd]
      rw [e]; exact ch_e2 w c hc hd
    · have e : chosenN 101 c = ([c], true) := by simp [chosenN, hd]
      rw [e]; exact ch_e1 w c hc hd
  · exact ch_V w c hc
  · by_cases h : c = 35
    · subst h; exact ch_g1 w
    · cases hg : greatN c
      · have e : chosenN 103 c = ([116, 111], true) := by simp [chosenN, h, hg]
        rw [e]; exact ch_g3 w c hc (neI h) hg
      · have e : chosenN 103 c = ([93, 111, 91, c], true) := by simp [chosenN, h, hg]
        rw [e]; exact ch_g2 w c hc (neI h) hg
  · by_cases h1 : c = 43
    · subst h1; exact ch_t43 w
    · by_cases h2 : c = 45
      · subst h2; exact ch_t45 w
      · by_cases h3 : c = 42
        · subst h3; exact ch_t42 w
        · by_cases h4 : c = 47
          · subst h4; exact ch_t47 w
          · by_cases h5 : c = 60
            · subst h5; exact ch_t60 w
            · have e : chosenN 116 c = ([], true) := by simp [chosenN, h1, h2, h3, h4, h5]
              rw [e]; exact ch_t w c hc (neI h1) (neI h2) (neI h3) (neI h4) (neI h5)
  · by_cases h : c = 91
    · subst h; exact ch_G1 w
    · have e : chosenN 71 c = ([86], true) := by simp [chosenN, h]
      rw [e]; exact ch_G2 w c hc (neI h)
  · by_cases h : c = 91
    · subst h; exact ch_p1 w
    · have e : chosenN 112 c = ([71, 61], true) := by simp [chosenN, h]
      rw [e]; exact ch_p2 w c hc (neI h)
end Go.Proofs.Ythcjcjfgdgnljaa

namespace Go.Proofs.Ythcjcjfgdgnljaa
open Go.RowKit

def AppKind (w w' : World) (v v' : Value) (n m : Nat) : Prop :=
  (∃ cap, v' = .slice (some ⟨w.heap.size, 0, none⟩) (n + m) cap ∧ w.grownBy w' none) ∨
  (∃ g cap, v = .slice (some ⟨g, 0, none⟩) n cap ∧ v' = .slice (some ⟨g, 0, none⟩) (n + m) cap ∧ w.grownBy w' (some g))

section
variable {P : Program} (w : World)

theorem run_append_kind (base : Nat) (t ty e : TypeId) (i : TypeInfo) (z : Value) (size bytes : Nat) (ht : P.underlying t = some (.slice e)) (hi : P.info? e = some i) (hz : i.zero = some z)
    (hsize : i.size = size) (hby : i.bytes = bytes) (hzs : z.cells.size = size) (hsz : 0 < size)
    (v : Value) (n : Nat) (xs : List Value) (hown : w.ownsRow base e size v n xs)
    (a : Addr) (m c : Nat) (news : List Value) (hm : 0 < m) (hl : news.length = m * size) (hnews : ∀ j u, news[j]? = some u → w.cell? (a.add j) = some u) (h1 : ∀ u ∈ news, u.oneCell' = true)
    (h63 : n + m ≤ maxLen) (hbytes : ((n + m) + (n + m) / 4 + 192) * bytes ≤ 281474976710656) (hbase : base ≤ w.heap.size) :
    ∃ v' w', (Builtin.append_ #[t, t] ty #[v, .slice (some a) m c]).run P w = .ok v' w' ∧ w'.ownsRow base e size v' (n + m) (xs ++ news) ∧ AppKind w w' v v' n m := by
  obtain ⟨v', w', hr, h2, h3, _⟩ := run_append_own_wide (P := P) w base t ty e i z size bytes ht hi hz hsize hby hzs hsz v n xs hown a m c news hl hnews h1 h63 hbytes hbase
  refine ⟨v', w', hr, h2, ?_⟩
  have hsmall : n + m ≤ 9223372036854775807 := by simp only [maxLen] at h63; omega
  subst hsize
  subst hby
  rcases hown.2 with ⟨rfl, rfl⟩ | ⟨g, cap, cur, rfl, hbg, hg, hnc, hcm, hcs, htake⟩
  · have h48 : m * i.bytes ≤ 281474976710656 := Nat.le_trans (Nat.mul_le_mul_right _ (by omega)) hbytes
    have hr2 := run_append_nil (P := P) w t ty e i z ht hi hz a m c news hl hnews hm (by omega) h48
    have he := hr.symm.trans hr2
    injection he with e1 e2
    refine .inl ⟨grownCap w m 0 e, by rw [e1]; simp, ?_⟩
    rw [e2]
    exact ⟨rfl, rfl, rfl, by simp, fun k hk _ => Below.heap_alloc w.drew _ k hk⟩
  · by_cases hroom : n + m ≤ cap
    · have hfit : n * i.size + news.length ≤ cur.size := by rw [hl, hcs, ← Nat.add_mul]; exact Nat.mul_le_mul_right _ hroom
      have hr2 := run_append_room (P := P) w t ty e i ht hi g n cap cur hg a m c news hl hnews h1 hroom hfit
      have he := hr.symm.trans hr2
      injection he with e1 e2
      exact .inr ⟨g, cap, rfl, e1, h3⟩
    · have holds : ∀ j u, xs[j]? = some u → w.cell? ((⟨g, 0, none⟩ : Addr).add j) = some u := hown.cells (g := g) rfl
      have hr2 := run_append_grow (P := P) w t ty e i z ht hi hz ⟨g, 0, none⟩ n cap xs hown.1 holds a m c news hl hnews (by omega) (by omega) (growslice_fits_wide (by omega) hbytes)
      have he := hr.symm.trans hr2
      injection he with e1 e2
      refine .inl ⟨grownCap w (n + m) cap e, e1, ?_⟩
      rw [e2]
      exact ⟨rfl, rfl, rfl, by simp, fun k hk _ => Below.heap_alloc w.drew _ k hk⟩

theorem wpList_append_kind {ops : Array Oper} {rest : List Oper} {o : Oper} {a : Act} {Q : Exit → Act → World → Prop} (hgd : o.guard = none) (s x : Operand) (t : TypeId)
    (ho : o.op = .call { callee := .builtin .append, args := #[s, x], argTypes := #[t, t] })
    (base : Nat) (e : TypeId) (i : TypeInfo) (z : Value) (size bytes : Nat) (ht : P.underlying t = some (.slice e)) (hi : P.info? e = some i) (hz : i.zero = some z)
    (hsize : i.size = size) (hby : i.bytes = bytes) (hzs : z.cells.size = size) (hsz : 0 < size)
    (v : Value) (n : Nat) (xs : List Value) (hs : a.eval s = v) (hown : w.ownsRow base e size v n xs)
    (ad : Addr) (m c : Nat) (news : List Value) (hm : 0 < m) (hx : a.eval x = .slice (some ad) m c) (hl : news.length = m * size) (hnews : ∀ j u, news[j]? = some u → w.cell? (ad.add j) = some u) (h1 : ∀ u ∈ news, u.oneCell' = true)
    (h63 : n + m ≤ maxLen) (hbytes : ((n + m) + (n + m) / 4 + 192) * bytes ≤ 281474976710656) (hbase : base ≤ w.heap.size)
    (h : ∀ v' w', w'.ownsRow base e size v' (n + m) (xs ++ news) → AppKind w w' v v' n m → wpList P ops Q rest (a.put o.dst v') w') : wpList P ops Q (o :: rest) a w := by
  refine wpList_plain hgd fun K hK => ?_
  obtain ⟨v', w', hr, h2, h3⟩ := run_append_kind (P := P) w base t o.type e i z size bytes ht hi hz hsize hby hzs hsz v n xs hown ad m c news hm hl hnews h1 h63 hbytes hbase
  unfold Oper.wp execOp
  simp only [ho, resolve, invoke, builtin, Sem.run_bind, Sem.run_pure, Result.andThen_ok, List.map_toArray, List.map_cons, List.map_nil, hs, hx, hr]
  exact hK _ _ (h v' w' h2 h3)
end

/-- what was owned is owned still -/
theorem AppKind.keep {w w' : World} {v v' : Value} {n m base : Nat} {e : TypeId} {size : Nat} {xs news : List Value} (h : AppKind w w' v v' n m) (ho : w.ownsRow base e size v n xs) (ho' : w'.ownsRow base e size v' (n + m) (xs ++ news)) : w'.ownsRow base e size v n xs := by
  rcases h with ⟨cap, _, hg⟩ | ⟨g, cap, rfl, rfl, hg⟩
  · exact ho.kept hg (by cases hv : v.ownBlock <;> simp)
  · refine ⟨ho.1, .inr ?_⟩
    rcases ho.2 with ⟨hv, _⟩ | ⟨g0, cap0, cur0, hv, hb0, _, hn0, hc0, _, _⟩
    · cases hv
    · cases hv
      rcases ho'.2 with ⟨hv, _⟩ | ⟨g1, cap1, cur1, hv, hb1, hh1, hn1, hc1, hs1, ht1⟩
      · cases hv
      · cases hv
        refine ⟨g, cap, cur1, rfl, hb0, hh1, hn0, hc0, hs1, ?_⟩
        have hx := ho.1
        have : cur1.toList.take (n * size) = (cur1.toList.take ((n + m) * size)).take (n * size) := by
          rw [List.take_take, Nat.min_eq_left (Nat.mul_le_mul_right _ (by omega))]
        rw [this, ht1, ← hx, List.take_left]
theorem AppKind.fr {w w' : World} {v v' : Value} {n m : Nat} (h : AppKind w w' v v' n m) : Fr (fun q => v.ownBlock = some q) w w' := by
  rcases h with ⟨cap, _, hg⟩ | ⟨g, cap, rfl, rfl, hg⟩
  · exact Fr.of_grown hg (fun k _ e => by cases e)
  · exact Fr.of_grown hg (fun k _ e => e)
/-- where the new row lies -/
theorem AppKind.place {w w' : World} {v v' : Value} {n m : Nat} (h : AppKind w w' v v' n m) : ∃ g cap, v' = .slice (some ⟨g, 0, none⟩) (n + m) cap ∧ (g = w.heap.size ∨ v.ownBlock = some g) := by
  rcases h with ⟨cap, hv, _⟩ | ⟨g, cap, rfl, hv, _⟩
  · exact ⟨_, cap, hv, .inl rfl⟩
  · exact ⟨g, cap, hv, .inr rfl⟩
end Go.Proofs.Ythcjcjfgdgnljaa
