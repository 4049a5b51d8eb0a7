/-
  The document's Check, as a plain function of the text.
-/
import Derived.Test.YtcmnejcojphijaaFulF
namespace Go.Proofs.Ytcmnejcojphijaa
open Go.RowKit
set_option linter.unusedVariables false

theorem mis_fn (s : ByteArray) (hs : s.size ≤ 100000) (F : Nat) : ∀ i j, Prog s F i j → MisIs s i j (misN s F i j) := by
  induction F using Nat.strongRecOn with
  | _ F ih =>
    intro i j hp
    exact mis_step s hs F ih i j hp

theorem runN_zero (s : ByteArray) : ∀ (m : Nat) (S : List (Nat × Bool)) (i : Nat) (d : Int), (runN s m S i d).1 = 0 → runN s m S i d = (0, 0)
  | 0, S, i, d, h => by
    unfold runN at h ⊢
    split at h
    · simp at h
    · rename_i hn
      rw [if_neg hn]
  | m + 1, S, i, d, h => by
    unfold runN at h ⊢
    split at h
    · simp at h
    · rename_i hn
      rw [if_neg hn]
      split at h
      · rename_i h1
        rw [if_pos h1]
        split at h
        · simp at h
        · rename_i h2
          rw [if_neg h2]
          exact runN_zero s m _ _ _ h
      · rename_i h1
        rw [if_neg h1]
        exact runN_zero s m _ _ _ h
theorem run_zero {s : ByteArray} {S : List (Nat × Bool)} {i : Nat} {d : Int} (h : (run s S i d).1 = 0) : run s S i d = (0, 0) := runN_zero s _ _ _ _ h

/-- the first place at which a box is used that is not full; -1: there is none -/
def misT (s : ByteArray) : Int := misN s (s.size + 1) 0 s.size (fun _ => false)
/-- P6 and P7, as a function of the text -/
def checkN (s : ByteArray) : Nat × Int :=
  if 400 < s.size then (1, 0)
  else if (run s [(83, true)] 0 0).1 ≠ 0 then ((run s [(83, true)] 0 0).1, ((run s [(83, true)] 0 0).2 : Int))
  else if 0 ≤ misT s then (4, misT s) else (0, 0)

set_option maxRecDepth 8000 in
set_option maxHeartbeats 2000000 in
theorem refCheck_fn (w : World) (s : ByteArray) (hs : s.size ≤ 9223372036854775807) :
    Calls Try.prog 17 #[.string s] w fun e w' => e = .returned (.tuple #[.int .i64 ((checkN s).1 : Nat), .int .i64 (checkN s).2]) ∧ Fr NoB w w' := by
  by_cases h4 : 400 < s.size
  · have hc : checkN s = (1, 0) := by unfold checkN; rw [if_pos h4]
    rw [hc]
    clear hc
    go_enter Try.func17, Try.ntmps17
    go_wp2
    go_ret2
    exact ⟨rfl, Fr.refl _ _⟩
  · have HW : Hid _ := fun X => wrong_fn X s (by omega)
    by_cases hr : (run s [(83, true)] 0 0).1 = 0
    · have hz := run_zero hr
      rw [hz] at HW
      have hp := prog_of_ok hz
      have hM : ∀ X : World, Calls Try.prog 30 #[.string s, .int .i64 0, .int .i64 (s.size : Int), .agg zrs] X fun e w' => e = .returned (.int .i64 (misT s)) ∧ Fr NoB X w' := fun X => mis_fn s (by omega) _ 0 s.size hp X (fun _ => false) clean_none
      unfold zrs at hM
      have HM : Hid _ := hM
      clear hM hp hz
      by_cases hm : 0 ≤ misT s
      · have hc : checkN s = (4, misT s) := by unfold checkN; rw [if_neg h4, if_neg (fun q => q hr), if_pos hm]
        rw [hc]
        generalize misT s = M at *
        clear hc hr
        go_enter Try.func17, Try.ntmps17
        go_wp2_with (first
          | (go_at_call 29; refine (HW.out _).mono ?_; rintro e w1 ⟨rfl, hF1⟩)
          | (go_at_call 30; refine (HM.out _).mono ?_; rintro e w2 ⟨rfl, hF2⟩))
        go_ret2
        exact ⟨rfl, hF1.trans hF2⟩
      · have hc : checkN s = (0, 0) := by unfold checkN; rw [if_neg h4, if_neg (fun q => q hr), if_neg hm]
        rw [hc]
        generalize misT s = M at *
        clear hc hr
        go_enter Try.func17, Try.ntmps17
        go_wp2_with (first
          | (go_at_call 29; refine (HW.out _).mono ?_; rintro e w1 ⟨rfl, hF1⟩)
          | (go_at_call 30; refine (HM.out _).mono ?_; rintro e w2 ⟨rfl, hF2⟩))
        go_ret2
        exact ⟨rfl, hF1.trans hF2⟩
    · have hc : checkN s = ((run s [(83, true)] 0 0).1, ((run s [(83, true)] 0 0).2 : Int)) := by unfold checkN; rw [if_neg h4, if_pos hr]
      rw [hc]
      have hb : (((run s [(83, true)] 0 0).1 : Int) != 0) = true := bne_iff_ne.2 (by omega)
      generalize run s [(83, true)] 0 0 = R at *
      clear hc hr
      go_enter Try.func17, Try.ntmps17
      go_wp2_with (first
        | (go_at_call 29; refine (HW.out _).mono ?_; rintro e w1 ⟨rfl, hF1⟩))
      go_ret2
      exact ⟨rfl, hF1⟩
end Go.Proofs.Ytcmnejcojphijaa
