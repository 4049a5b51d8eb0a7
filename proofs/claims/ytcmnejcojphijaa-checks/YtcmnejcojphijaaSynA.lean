/-
  The document's syntax: its small functions.
-/
import Derived.Test.YtcmnejcojphijaaBase
import Derived.Deep.QuietTactic
import Derived.BigQuiet
namespace Go.Proofs.Ytcmnejcojphijaa
open Go.RowKit

def smallN (c : Nat) : Bool := decide (97 ≤ c) && decide (c ≤ 122)
def greatN (c : Nat) : Bool := decide (65 ≤ c) && decide (c ≤ 90)
def digitN (c : Nat) : Bool := decide (48 ≤ c) && decide (c ≤ 57)
/-- a text out of its bytes -/
def strN (l : List Nat) : Value := .string ⟨(l.map UInt8.ofNat).toArray⟩

theorem retb {a b : Bool} (h : a = b) : Ending.returned (.bool a) = .returned (.bool b) := by rw [h]

set_option maxHeartbeats 400000 in
theorem small_fn (w : World) (c : Nat) (hc : c < 256) : Calls Try.prog 67 #[.int .u8 (c : Int)] w fun e w' => e = .returned (.bool (smallN c)) ∧ w' = w := by
  by_cases h1 : 97 ≤ c
  · have hd : smallN c = decide ((c : Int) ≤ 122) := by
      have : decide ((c : Int) ≤ 122) = decide (c ≤ 122) := by simp; omega
      rw [this]; simp [smallN, h1]
    rw [hd]
    clear hd
    go_enter Try.func67, Try.ntmps67
    go_wp2
    go_ret
    exact ⟨rfl, rfl⟩
  · have hd : smallN c = false := by simp [smallN]; omega
    rw [hd]
    clear hd
    go_enter Try.func67, Try.ntmps67
    go_wp2
    go_ret
    exact ⟨rfl, rfl⟩

theorem foldl_push (l : List Nat) (r : ByteArray) : (l.map (fun b : Nat => (b : Int))).foldl (fun r n => r.push (UInt8.ofNat n.toNat)) r = ⟨r.data ++ (l.map UInt8.ofNat).toArray⟩ := by
  induction l generalizing r with
  | nil => cases r; simp
  | cons b t ih => simp only [List.map_cons, List.foldl_cons]; rw [ih]; cases r; simp [ByteArray.push]

theorem bytes_str (u : World) (bs : List Nat) : (convert 98 9 (.slice (some ⟨u.heap.size, 0, none⟩) bs.length bs.length)).run Try.prog (u.alloc (.cells (bs.map (fun b : Nat => Value.int .u8 (b : Int))).toArray 5)) =
    .ok (strN bs) (u.alloc (.cells (bs.map (fun b : Nat => Value.int .u8 (b : Int))).toArray 5)) := by
  rw [run_convert_bytes_string _ 98 9 5 _ _ _ Try.underlying98 Try.underlying5 Try.underlying9]
  rw [run_bytesToString _ _ _ _ (bs.map (fun b : Nat => (b : Int))) ?_]
  · rw [foldl_push]; simp [strN]
  · have h := run_loadCells_list (P := Try.prog) (w := u.alloc (.cells (bs.map (fun b : Nat => Value.int .u8 (b : Int))).toArray 5)) ⟨u.heap.size, 0, none⟩ (bs.map (fun b : Nat => Value.int .u8 (b : Int))) (fun j v hj => by
      have hadd : (⟨u.heap.size, 0, none⟩ : Addr).add j = ⟨u.heap.size, j, none⟩ := by unfold Addr.add; split <;> simp_all
      rw [hadd, World.cell?_alloc_at _ _ _ _ rfl]
      simpa using hj)
    simpa [Function.comp_def] using h

set_option maxHeartbeats 400000 in
theorem great_fn (w : World) (c : Nat) (hc : c < 256) : Calls Try.prog 66 #[.int .u8 (c : Int)] w fun e w' => e = .returned (.bool (greatN c)) ∧ w' = w := by
  by_cases h1 : 65 ≤ c
  · have hd : greatN c = decide ((c : Int) ≤ 90) := by
      have : decide ((c : Int) ≤ 90) = decide (c ≤ 90) := by simp; omega
      rw [this]; simp [greatN, h1]
    rw [hd]
    clear hd
    go_enter Try.func66, Try.ntmps66
    go_wp2
    go_ret
    exact ⟨rfl, rfl⟩
  · have hd : greatN c = false := by simp [greatN]; omega
    rw [hd]
    clear hd
    go_enter Try.func66, Try.ntmps66
    go_wp2
    go_ret
    exact ⟨rfl, rfl⟩

set_option maxHeartbeats 400000 in
theorem digit_fn (w : World) (c : Nat) (hc : c < 256) : Calls Try.prog 78 #[.int .u8 (c : Int)] w fun e w' => e = .returned (.bool (digitN c)) ∧ w' = w := by
  by_cases h1 : 48 ≤ c
  · have hd : digitN c = decide ((c : Int) ≤ 57) := by
      have : decide ((c : Int) ≤ 57) = decide (c ≤ 57) := by simp; omega
      rw [this]; simp [digitN, h1]
    rw [hd]
    clear hd
    go_enter Try.func78, Try.ntmps78
    go_wp2
    go_ret
    exact ⟨rfl, rfl⟩
  · have hd : digitN c = false := by simp [digitN]; omega
    rw [hd]
    clear hd
    go_enter Try.func78, Try.ntmps78
    go_wp2
    go_ret
    exact ⟨rfl, rfl⟩

def stmtN (c : Nat) : List Nat :=
  if smallN c then [83, 59, 103, 61, c] else if greatN c then [83, 59, 112, c] else if c = 33 then [83, 59, 111, c] else if c = 126 then [83, 59, 86, c]
  else if c = 63 then [83, 125, 83, 123, 125, 83, 123, 111, c] else if c = 64 then [83, 125, 83, 123, 111, c] else []

theorem eqI {c k : Nat} (h : c = k) : ((c : Int) == (k : Int)) = true := beq_iff_eq.2 (by omega)
theorem neI {c k : Nat} (h : c ≠ k) : ((c : Int) == (k : Int)) = false := beq_eq_false_iff_ne.2 (by omega)

set_option maxRecDepth 8000 in
set_option maxHeartbeats 1000000 in
theorem stmt_33 (w : World) :
    Calls Try.prog 77 #[.int .u8 33] w fun e w' => e = .returned (strN [83, 59, 111, 33]) ∧ Fr NoB w w' := by
  have hv : ∀ u : World, (convert 98 9 (.slice (some ⟨u.heap.size, 0, none⟩) 4 4)).run Try.prog (u.alloc (.cells #[.int .u8 83, .int .u8 59, .int .u8 111, .int .u8 33] 5)) = .ok (strN [83, 59, 111, 33]) (u.alloc (.cells #[.int .u8 83, .int .u8 59, .int .u8 111, .int .u8 33] 5)) :=
    fun u => bytes_str u [83, 59, 111, 33]
  have hs : smallN 33 = false := rfl
  have hg : greatN 33 = false := rfl
  go_enter Try.func77, Try.ntmps77
  go_wp2_with (first | (go_at_call 67; refine (small_fn _ 33 (by omega)).mono ?_; rintro e w1 ⟨rfl, hw⟩; have hw2 := hw.symm; clear hw; subst hw2; rw [hs]) | (go_at_call 66; refine (great_fn _ 33 (by omega)).mono ?_; rintro e w1 ⟨rfl, hw⟩; have hw2 := hw.symm; clear hw; subst hw2; rw [hg]))
  go_ret
  exact ⟨rfl, by repeat (first | exact Fr.refl _ _ | refine Fr.alloc ?_ _)⟩

set_option maxRecDepth 8000 in
set_option maxHeartbeats 1000000 in
theorem stmt_126 (w : World) :
    Calls Try.prog 77 #[.int .u8 126] w fun e w' => e = .returned (strN [83, 59, 86, 126]) ∧ Fr NoB w w' := by
  have hv : ∀ u : World, (convert 98 9 (.slice (some ⟨u.heap.size, 0, none⟩) 4 4)).run Try.prog (u.alloc (.cells #[.int .u8 83, .int .u8 59, .int .u8 86, .int .u8 126] 5)) = .ok (strN [83, 59, 86, 126]) (u.alloc (.cells #[.int .u8 83, .int .u8 59, .int .u8 86, .int .u8 126] 5)) :=
    fun u => bytes_str u [83, 59, 86, 126]
  have hs : smallN 126 = false := rfl
  have hg : greatN 126 = false := rfl
  go_enter Try.func77, Try.ntmps77
  go_wp2_with (first | (go_at_call 67; refine (small_fn _ 126 (by omega)).mono ?_; rintro e w1 ⟨rfl, hw⟩; have hw2 := hw.symm; clear hw; subst hw2; rw [hs]) | (go_at_call 66; refine (great_fn _ 126 (by omega)).mono ?_; rintro e w1 ⟨rfl, hw⟩; have hw2 := hw.symm; clear hw; subst hw2; rw [hg]))
  go_ret
  exact ⟨rfl, by repeat (first | exact Fr.refl _ _ | refine Fr.alloc ?_ _)⟩

set_option maxRecDepth 8000 in
set_option maxHeartbeats 1000000 in
theorem stmt_63 (w : World) :
    Calls Try.prog 77 #[.int .u8 63] w fun e w' => e = .returned (strN [83, 125, 83, 123, 125, 83, 123, 111, 63]) ∧ Fr NoB w w' := by
  have hv : ∀ u : World, (convert 98 9 (.slice (some ⟨u.heap.size, 0, none⟩) 9 9)).run Try.prog (u.alloc (.cells #[.int .u8 83, .int .u8 125, .int .u8 83, .int .u8 123, .int .u8 125, .int .u8 83, .int .u8 123, .int .u8 111, .int .u8 63] 5)) = .ok (strN [83, 125, 83, 123, 125, 83, 123, 111, 63]) (u.alloc (.cells #[.int .u8 83, .int .u8 125, .int .u8 83, .int .u8 123, .int .u8 125, .int .u8 83, .int .u8 123, .int .u8 111, .int .u8 63] 5)) :=
    fun u => bytes_str u [83, 125, 83, 123, 125, 83, 123, 111, 63]
  have hs : smallN 63 = false := rfl
  have hg : greatN 63 = false := rfl
  go_enter Try.func77, Try.ntmps77
  go_wp2_with (first | (go_at_call 67; refine (small_fn _ 63 (by omega)).mono ?_; rintro e w1 ⟨rfl, hw⟩; have hw2 := hw.symm; clear hw; subst hw2; rw [hs]) | (go_at_call 66; refine (great_fn _ 63 (by omega)).mono ?_; rintro e w1 ⟨rfl, hw⟩; have hw2 := hw.symm; clear hw; subst hw2; rw [hg]))
  go_ret
  exact ⟨rfl, by repeat (first | exact Fr.refl _ _ | refine Fr.alloc ?_ _)⟩

set_option maxRecDepth 8000 in
set_option maxHeartbeats 1000000 in
theorem stmt_64 (w : World) :
    Calls Try.prog 77 #[.int .u8 64] w fun e w' => e = .returned (strN [83, 125, 83, 123, 111, 64]) ∧ Fr NoB w w' := by
  have hv : ∀ u : World, (convert 98 9 (.slice (some ⟨u.heap.size, 0, none⟩) 6 6)).run Try.prog (u.alloc (.cells #[.int .u8 83, .int .u8 125, .int .u8 83, .int .u8 123, .int .u8 111, .int .u8 64] 5)) = .ok (strN [83, 125, 83, 123, 111, 64]) (u.alloc (.cells #[.int .u8 83, .int .u8 125, .int .u8 83, .int .u8 123, .int .u8 111, .int .u8 64] 5)) :=
    fun u => bytes_str u [83, 125, 83, 123, 111, 64]
  have hs : smallN 64 = false := rfl
  have hg : greatN 64 = false := rfl
  go_enter Try.func77, Try.ntmps77
  go_wp2_with (first | (go_at_call 67; refine (small_fn _ 64 (by omega)).mono ?_; rintro e w1 ⟨rfl, hw⟩; have hw2 := hw.symm; clear hw; subst hw2; rw [hs]) | (go_at_call 66; refine (great_fn _ 64 (by omega)).mono ?_; rintro e w1 ⟨rfl, hw⟩; have hw2 := hw.symm; clear hw; subst hw2; rw [hg]))
  go_ret
  exact ⟨rfl, by repeat (first | exact Fr.refl _ _ | refine Fr.alloc ?_ _)⟩

set_option maxRecDepth 8000 in
set_option maxHeartbeats 1000000 in
theorem stmt_small (w : World) (c : Nat) (hc : c < 256) (hs : smallN c = true) :
    Calls Try.prog 77 #[.int .u8 (c : Int)] w fun e w' => e = .returned (strN [83, 59, 103, 61, c]) ∧ Fr NoB w w' := by
  have hv : ∀ u : World, (convert 98 9 (.slice (some ⟨u.heap.size, 0, none⟩) 5 5)).run Try.prog (u.alloc (.cells #[.int .u8 83, .int .u8 59, .int .u8 103, .int .u8 61, .int .u8 (c : Int)] 5)) = .ok (strN [83, 59, 103, 61, c]) (u.alloc (.cells #[.int .u8 83, .int .u8 59, .int .u8 103, .int .u8 61, .int .u8 (c : Int)] 5)) :=
    fun u => bytes_str u [83, 59, 103, 61, c]
  go_enter Try.func77, Try.ntmps77
  go_wp2_with (first | (go_at_call 67; refine (small_fn _ c (by omega)).mono ?_; rintro e w1 ⟨rfl, hw⟩; have hw2 := hw.symm; clear hw; subst hw2; rw [hs]))
  go_ret
  exact ⟨rfl, by repeat (first | exact Fr.refl _ _ | refine Fr.alloc ?_ _)⟩

set_option maxRecDepth 8000 in
set_option maxHeartbeats 1000000 in
theorem stmt_great (w : World) (c : Nat) (hc : c < 256) (hs : smallN c = false) (hg : greatN c = true) :
    Calls Try.prog 77 #[.int .u8 (c : Int)] w fun e w' => e = .returned (strN [83, 59, 112, c]) ∧ Fr NoB w w' := by
  have hv : ∀ u : World, (convert 98 9 (.slice (some ⟨u.heap.size, 0, none⟩) 4 4)).run Try.prog (u.alloc (.cells #[.int .u8 83, .int .u8 59, .int .u8 112, .int .u8 (c : Int)] 5)) = .ok (strN [83, 59, 112, c]) (u.alloc (.cells #[.int .u8 83, .int .u8 59, .int .u8 112, .int .u8 (c : Int)] 5)) :=
    fun u => bytes_str u [83, 59, 112, c]
  go_enter Try.func77, Try.ntmps77
  go_wp2_with (first | (go_at_call 67; refine (small_fn _ c (by omega)).mono ?_; rintro e w1 ⟨rfl, hw⟩; have hw2 := hw.symm; clear hw; subst hw2; rw [hs]) | (go_at_call 66; refine (great_fn _ c (by omega)).mono ?_; rintro e w1 ⟨rfl, hw⟩; have hw2 := hw.symm; clear hw; subst hw2; rw [hg]))
  go_ret
  exact ⟨rfl, by repeat (first | exact Fr.refl _ _ | refine Fr.alloc ?_ _)⟩

set_option maxRecDepth 8000 in
set_option maxHeartbeats 1000000 in
theorem stmt_none (w : World) (c : Nat) (hc : c < 256) (hs : smallN c = false) (hg : greatN c = false) (b1 : ((c : Int) == 33) = false) (b2 : ((c : Int) == 126) = false) (b3 : ((c : Int) == 63) = false) (b4 : ((c : Int) == 64) = false) :
    Calls Try.prog 77 #[.int .u8 (c : Int)] w fun e w' => e = .returned (strN []) ∧ Fr NoB w w' := by
  go_enter Try.func77, Try.ntmps77
  go_wp2_with (first | (go_at_call 67; refine (small_fn _ c (by omega)).mono ?_; rintro e w1 ⟨rfl, hw⟩; have hw2 := hw.symm; clear hw; subst hw2; rw [hs]) | (go_at_call 66; refine (great_fn _ c (by omega)).mono ?_; rintro e w1 ⟨rfl, hw⟩; have hw2 := hw.symm; clear hw; subst hw2; rw [hg]))
  go_ret
  exact ⟨rfl, by repeat (first | exact Fr.refl _ _ | refine Fr.alloc ?_ _)⟩

theorem stmt_fn (w : World) (c : Nat) (hc : c < 256) : Calls Try.prog 77 #[.int .u8 (c : Int)] w fun e w' => e = .returned (strN (stmtN c)) ∧ Fr NoB w w' := by
  cases hs : smallN c
  · cases hg : greatN c
    · by_cases h1 : c = 33
      · subst h1; exact stmt_33 w
      · by_cases h2 : c = 126
        · subst h2; exact stmt_126 w
        · by_cases h3 : c = 63
          · subst h3; exact stmt_63 w
          · by_cases h4 : c = 64
            · subst h4; exact stmt_64 w
            · have e : stmtN c = [] := by simp [stmtN, hs, hg, h1, h2, h3, h4]
              rw [e]
              exact stmt_none w c hc hs hg (neI h1) (neI h2) (neI h3) (neI h4)
    · have e : stmtN c = [83, 59, 112, c] := by simp [stmtN, hs, hg]
      rw [e]
      exact stmt_great w c hc hs hg
  · have e : stmtN c = [83, 59, 103, 61, c] := by simp [stmtN, hs]
    rw [e]
    exact stmt_small w c hc hs
end Go.Proofs.Ytcmnejcojphijaa
