/-
  What operands are worth, as plain functions of the text. (No walk here.)
-/
import Derived.Test.YtcmnejcojphijaaFulG
namespace Go.Proofs.Ytcmnejcojphijaa
open Go.RowKit
set_option linter.unusedVariables false

/-- the number of n digits from place i on -/
def decN (s : ByteArray) (i : Nat) : Nat → Nat
  | 0 => 0
  | n + 1 => 10 * decN s i n + (bt s (i + n) - 48)
theorem decN_lt {s : ByteArray} {i : Nat} : ∀ {n : Nat}, (∀ k, i ≤ k → k < i + n → digitN (bt s k) = true) → decN s i n < 10 ^ n
  | 0, _ => by simp [decN]
  | n + 1, h => by
    have h1 := decN_lt (n := n) (fun k a b => h k a (by omega))
    have h2 := h (i + n) (by omega) (by omega)
    simp [digitN] at h2
    have h3 : 10 ^ (n + 1) = 10 * 10 ^ n := by rw [Nat.pow_succ, Nat.mul_comm]
    show 10 * decN s i n + (bt s (i + n) - 48) < 10 ^ (n + 1)
    rw [h3]
    omega
/-- what an operand from i up to j is worth -/
def valN (s : ByteArray) (num : Nat → Int) (i j : Nat) : Int := if smallN (bt s i) = true then num (bt s i - 97) else (decN s i (j - i) : Int)
end Go.Proofs.Ytcmnejcojphijaa
