/-
  SmdA: one behind the other.
-/
import Derived.Test.YthcjcjfgdgnljabDoorGSmdD
import Derived.Test.YthcjcjfgdgnljabDoorGLonB
namespace Go.Proofs.YthcjcjfgdgnljabDoor
open Go.RowKit Go.Lib
set_option linter.unusedVariables false

theorem mulN (n : Nat) (hn : n ≤ 64) : n * (n - 1) ≤ 4096 := by
  have h1 : n * (n - 1) ≤ 64 * 64 := Nat.mul_le_mul hn (by omega)
  omega
theorem sum_num (z k : Nat) (hz : z < 64) (hk : k < 1000) : ((wrap64 (wrap64 ((wrap64 ((1 + (z : Int)) * (1 + (z : Int) - 1))).tdiv 2) * (k : Int))).tmod 1000) = (((1 + z) * (1 + z - 1) / 2 * k % 1000 : Nat) : Int) := by
  have h0 : (1 + (z : Int)) * (1 + (z : Int) - 1) = (((1 + z) * (1 + z - 1) : Nat) : Int) := by
    rw [Int.natCast_mul]
    congr 1
    omega
  have h1 := mulN (1 + z) (by omega)
  generalize (1 + z) * (1 + z - 1) = N at *
  have w1 : ∀ x : Int, 0 ≤ x → x ≤ 100000000 → wrap64 x = x := fun x a b => by
    unfold wrap64
    omega
  have h2 : N / 2 * k ≤ 4096 * 1000 := Nat.mul_le_mul (by omega) (by omega)
  have a1 : wrap64 (N : Int) = (N : Int) := w1 _ (by omega) (by omega)
  have a2 : (N : Int).tdiv 2 = ((N / 2 : Nat) : Int) := by rw [Int.tdiv_eq_ediv_of_nonneg (by omega)]; omega
  have a3 : wrap64 ((N / 2 : Nat) : Int) = ((N / 2 : Nat) : Int) := w1 _ (by omega) (by omega)
  have a4 : wrap64 ((N / 2 * k : Nat) : Int) = ((N / 2 * k : Nat) : Int) := w1 _ (by omega) (by omega)
  rw [h0, a1, a2, a3, ← Int.natCast_mul, a4, Int.tmod_eq_emod_of_nonneg (by omega)]
  omega
theorem mulK (n k : Nat) (hn : n ≤ 64) (hk : k < 1000) : n * (n - 1) / 2 * k ≤ 4096 * 1000 := by
  have h1 := mulN n hn
  exact Nat.mul_le_mul (by omega) (by omega)
set_option maxRecDepth 8000 in
set_option maxHeartbeats 4000000 in
theorem summed_walk (w : World) (wo ti : Int) (z k : Nat) (S DN DK DR : ByteArray) (hz : z < 64) (hk : k < 1000)
    (h1 : DN.size ≤ 100) (h2 : DK.size ≤ 100) (h3 : DR.size ≤ 100)
    (HP1 : ∀ W, Calls Tryd.prog 4 #[.int .i64 wo, .int .i64 64] W fun e w' => e = .returned (.int .i64 (z : Int)) ∧ w' = W)
    (HP2 : ∀ W, Calls Tryd.prog 4 #[.int .i64 ti, .int .i64 1000] W fun e w' => e = .returned (.int .i64 (k : Int)) ∧ w' = W)
    (HD1 : ∀ W, Calls Tryd.prog 5 #[.int .i64 (1 + (z : Int))] W fun e w' => e = .returned (.string DN) ∧ Fr NoB W w')
    (HD2 : ∀ W, Calls Tryd.prog 5 #[.int .i64 (k : Int)] W fun e w' => e = .returned (.string DK) ∧ Fr NoB W w')
    (HD3 : ∀ W, Calls Tryd.prog 5 #[.int .i64 ((wrap64 (wrap64 ((wrap64 ((1 + (z : Int)) * (1 + (z : Int) - 1))).tdiv 2) * (k : Int))).tmod 1000)] W fun e w' => e = .returned (.string DR) ∧ Fr NoB W w')
    (hS : (⟨#[110, 61]⟩ : ByteArray) ++ DN ++ ⟨#[59, 65, 61, 91, 110, 93, 59, 105, 61, 110, 59, 64, 105, 123, 105, 61, 105, 45, 49, 59, 97, 61, 105, 42]⟩ ++ DK ++ ⟨#[59, 65, 91, 105, 93, 61, 97, 59, 125, 66, 61, 65, 59, 64, 110, 123, 110, 61, 110, 45, 49, 59, 97, 61, 66, 91, 110, 93, 59, 116, 61, 116, 43, 97, 59, 125, 33, 116, 59]⟩ = S) (hSs : S.size ≤ 400)
    (HL : ∀ W, Calls Tryd.prog 6 #[.string S] W fun e w' => e = .returned (.tuple #[.string (S ++ ⟨#[126, 66, 59]⟩), .int .i64 0]) ∧ Fr NoB W w')
    (HX : ∀ W, Fr NoB w W → Calls Tryd.prog 7 #[.string S, .int .i64 5000] W fun e w' => e = .returned (.tuple #[.agg #[.int .i64 0, .string (DR ++ ⟨#[59]⟩), .int .i64 0, .int .i64 0], .int .i64 0]) ∧ Fr NoB W w')
    (HY : ∀ W, Fr NoB w W → Calls Tryd.prog 8 #[.string (S ++ ⟨#[126, 66, 59]⟩), .int .i64 (1 + (z : Int)), .int .i64 5000] W fun e w' => e = .returned (.tuple #[.agg #[.int .i64 0, .string (DR ++ ⟨#[59]⟩), .int .i64 0, .int .i64 (1 + (z : Int))], .int .i64 0]) ∧ Fr NoB W w') :
    Calls Tryd.prog 3 #[.int .i64 wo, .int .i64 ti] w fun e w' => e = .returned (.bool true) ∧ Fr NoB w w' := by
  have G1 : Hid _ := HP1
  have G2 : Hid _ := HP2
  have G3 : Hid _ := HD1
  have G4 : Hid _ := HD2
  have G5 : Hid _ := HD3
  have G6 : Hid _ := HL
  have G7 : Hid _ := HX
  have G8 : Hid _ := HY
  clear HP1 HP2 HD1 HD2 HD3 HL HX HY
  go_enter Tryd.func3, Tryd.ntmps3
  go_upto_region 2 with (go_at_call 4; refine (G1.out _).mono ?_; rintro e w6 ⟨rfl, hw⟩; have hw2 := hw.symm; clear hw; subst hw2)
  go_upto_region 3 with (go_at_call 4; refine (G2.out _).mono ?_; rintro e w6 ⟨rfl, hw⟩; have hw2 := hw.symm; clear hw; subst hw2)
  go_upto_region 4 with (first | ((fail_if_success (have := HM1.out)); go_at_call 5; refine (G3.out _).mono ?_; rintro e w1 ⟨rfl, hF1⟩; have HM1 : Hid True := trivial) | (go_at_call 5; refine (G4.out _).mono ?_; rintro e w2 ⟨rfl, hF2⟩))
  have HF2 : Hid _ := hF1.trans hF2
  clear hF1 hF2 hS
  go_upto_region 5 with (go_at_call 6; refine (G6.out _).mono ?_; rintro e w3 ⟨rfl, hF3⟩)
  have HF3 : Hid _ := HF2.out.trans hF3
  clear hF3
  go_upto_region 6 with (go_at_call 7; refine (G7.out _ HF3.out).mono ?_; rintro e w4 ⟨rfl, hF4⟩)
  have HO : Hid _ := OutAt.new w4 28 (.int .i64 0) (.string (DR ++ ⟨#[59]⟩)) (.int .i64 0) (.int .i64 0)
  have HFb : Hid (Fr NoB w (w4.alloc (.cells #[.int .i64 0, .string (DR ++ ⟨#[59]⟩), .int .i64 0, .int .i64 0] 28))) := (HF3.out.trans hF4).alloc _
  clear hF4
  generalize (w4.alloc _) = W4 at *
  generalize w4.heap.size = o1 at *
  go_upto_region 7 with (go_at_call 8; refine (G8.out _ HFb.out).mono ?_; rintro e w5 ⟨rfl, hF5⟩)
  have HO5 : Hid _ := OutAt.new w5 28 (.int .i64 0) (.string (DR ++ ⟨#[59]⟩)) (.int .i64 0) (.int .i64 (1 + (z : Int)))
  have hFc : Fr NoB w5 (w5.alloc (.cells #[.int .i64 0, .string (DR ++ ⟨#[59]⟩), .int .i64 0, .int .i64 (1 + (z : Int))] 28)) := (Fr.refl _ _).alloc _
  have HO3 : Hid _ := (HO.out.fr hF5 id).fr hFc id
  have HFd : Hid _ := (HFb.out.trans hF5).trans hFc
  clear hF5 hFc
  generalize (w5.alloc _) = W5 at *
  generalize w5.heap.size = o2 at *
  obtain ⟨c0, c1, c2, c3, _⟩ := HO3.out
  obtain ⟨d0, d1, d2, d3, _⟩ := HO5.out
  go_wp2_with (go_at_call 5; refine (G5.out _).mono ?_; rintro e w6 ⟨rfl, hF6⟩; have c0' := hF6.cell_some c0 id; have c1' := hF6.cell_some c1 id; have d0' := hF6.cell_some d0 id; have d1' := hF6.cell_some d1 id; have d2' := hF6.cell_some d2 id; have d3' := hF6.cell_some d3 id)
  go_ret
  exact ⟨by simp, HFd.out.trans hF6⟩
/-- the law -/
theorem summed_any (w : World) (wo ti : Int) (g1 : -9223372036854775808 ≤ wo ∧ wo ≤ 9223372036854775807) (g2 : -9223372036854775808 ≤ ti ∧ ti ≤ 9223372036854775807) (htab : ∀ W, Fr NoB w W → TabOk W) :
    Calls Tryd.prog 3 #[.int .i64 wo, .int .i64 ti] w fun e w' => e = .returned (.bool true) ∧ Fr NoB w w' := by
  have hz : pickZ wo 64 < 64 := pickZ_lt wo (by omega)
  have hk : pickZ ti 1000 < 1000 := pickZ_lt ti (by omega)
  have P1 : ∀ W, Calls Tryd.prog 4 #[.int .i64 wo, .int .i64 64] W fun e w' => e = .returned (.int .i64 (pickZ wo 64 : Int)) ∧ w' = W := fun W => kpick_fn W wo 64 (by omega) (by omega) g1.1 g1.2
  have P2 : ∀ W, Calls Tryd.prog 4 #[.int .i64 ti, .int .i64 1000] W fun e w' => e = .returned (.int .i64 (pickZ ti 1000 : Int)) ∧ w' = W := fun W => kpick_fn W ti 1000 (by omega) (by omega) g2.1 g2.2
  generalize pickZ wo 64 = z at *
  generalize pickZ ti 1000 = k at *
  have e1 : ((1 + z : Nat) : Int) = 1 + (z : Int) := by omega
  have hc := sum_check (n := 1 + z) (k := k) (by omega) hk
  have hl := sum_lower (n := 1 + z) (k := k) (by omega) hk
  obtain ⟨σ, hE, hσ1, hσ2⟩ := sum_play (n := 1 + z) (k := k) (by omega) (by omega) hk
  obtain ⟨τ, hE2, hτ1, hτ2, hτ3, hτ4⟩ := sum_exec (n := 1 + z) (k := k) (by omega) (by omega) hk
  obtain ⟨_, _, hrt, h20⟩ := settled_text hc
  have hR : (1 + z) * (1 + z - 1) / 2 * k % 1000 < 1000 := Nat.mod_lt _ (by omega)
  have hlen : ∀ m, m < 1000 → (trB (digF 3 m)).size ≤ 100 := fun m hm => by
    rw [trB_len]
    rcases dig_cases hm with ⟨_, e⟩ | ⟨_, _, e⟩ | ⟨_, e⟩ <;> (rw [e]; simp)
  have hexp : ((wrap64 (wrap64 ((wrap64 ((1 + (z : Int)) * (1 + (z : Int) - 1))).tdiv 2) * (k : Int))).tmod 1000) = (((1 + z) * (1 + z - 1) / 2 * k % 1000 : Nat) : Int) := sum_num z k hz hk
  have happ : ∀ a b : List Nat, trB (a ++ b) = trB a ++ trB b := fun a b => by
    unfold trB
    rw [← dig_app]
  refine summed_walk w wo ti z k (sumS (1 + z) k) (trB (digF 3 (1 + z))) (trB (digF 3 k)) (trB (digF 3 ((1 + z) * (1 + z - 1) / 2 * k % 1000))) hz hk (hlen _ (by omega)) (hlen _ hk) (hlen _ hR) P1 P2 (fun W => ?_) (fun W => digits_fn W k hk) (fun W => ?_) ?_ ?_ (fun W => ?_) (fun W hW => ?_) (fun W hW => ?_)
  · rw [← e1]
    exact digits_fn W (1 + z) (by omega)
  · rw [hexp]
    exact digits_fn W _ hR
  · unfold sumS
    rw [happ, happ, happ, happ]
    rfl
  · have := sum_size (n := 1 + z) (k := k)
    omega
  · have := devLower_ok W (sumS (1 + z) k) hc
    rw [hl] at this
    exact this
  · have := dplay_ends W (sumS (1 + z) k) 5000 hc (by omega) σ hE (fun W2 hW2 => htab W2 (hW.trans hW2))
    unfold outP at this
    rw [hσ1, hσ2, happ] at this
    exact this
  · have := dexec_ends W (lowTT (sumS (1 + z) k)) (1 + z) 5000 h20 hrt (by omega) (by omega) (by omega) τ hE2 (fun W2 hW2 => htab W2 (hW.trans hW2))
    unfold outE at this
    rw [hτ1, hτ2, hτ3, hτ4, happ, hl, e1] at this
    exact this
end Go.Proofs.YthcjcjfgdgnljabDoor
