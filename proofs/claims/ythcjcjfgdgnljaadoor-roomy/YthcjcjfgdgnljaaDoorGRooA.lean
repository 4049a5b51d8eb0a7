/-
  RooA: one behind the other.
-/
import Derived.Test.YthcjcjfgdgnljaaDoorGFaiA
namespace Go.Proofs.YthcjcjfgdgnljaaDoor
open Go.RowKit Go.Lib
set_option linter.unusedVariables false

set_option maxRecDepth 8000 in
set_option maxHeartbeats 2000000 in
theorem roomy_walk (w : World) (s s2 t : ByteArray) (mo fu ec pc : Int) (z n x0 y2 y3 : Nat) (X : ByteArray) (hz : z < 833) (hn : n ≤ 5000)
    (HB : Calls Tryd.prog 15 #[] w fun e w' => e = .returned (.bool true) ∧ Fr NoB w w')
    (HP1 : ∀ W, Calls Tryd.prog 10 #[.int .i64 mo, .int .i64 833] W fun e w' => e = .returned (.int .i64 (z : Int)) ∧ w' = W)
    (HP2 : ∀ W, Calls Tryd.prog 10 #[.int .i64 fu, .int .i64 5001] W fun e w' => e = .returned (.int .i64 (n : Int)) ∧ w' = W)
    (HC : ∀ W, Calls Tryd.prog 11 #[.string s] W fun e w' => e = .returned (.tuple #[.int .i64 ec, .int .i64 pc]) ∧ Fr NoB W w')
    (hs2 : (ec = 0 ∧ s2 = s) ∨ (ec ≠ 0 ∧ s2 = smT))
    (HL : ∀ W, Calls Tryd.prog 16 #[.string s2] W fun e w' => e = .returned (.tuple #[.string t, .int .i64 0]) ∧ Fr NoB W w')
    (HX : ∀ W, Fr NoB w W → Calls Tryd.prog 12 #[.string s2, .int .i64 (n : Int)] W fun e w' => e = .returned (.tuple #[.agg #[.int .i64 (x0 : Int), .string X, .int .i64 0, .int .i64 0], .int .i64 0]) ∧ Fr NoB W w')
    (HY : ∀ W, Fr NoB w W → Calls Tryd.prog 14 #[.string t, .int .i64 (3264 + (z : Int)), .int .i64 (n : Int)] W fun e w' => e = .returned (.tuple #[.agg #[.int .i64 (x0 : Int), .string X, .int .i64 (y2 : Int), .int .i64 (y3 : Int)], .int .i64 0]) ∧ Fr NoB W w') :
    Calls Tryd.prog 6 #[.string s, .int .i64 mo, .int .i64 fu] w fun e w' => e = .returned (.bool true) ∧ Fr NoB w w' := by
  have G1 : Hid _ := HB
  have G2 : Hid _ := HP1
  have G3 : Hid _ := HP2
  have G4 : Hid _ := HC
  have G5 : Hid _ := HL
  have G6 : Hid _ := HX
  have G7 : Hid _ := HY
  clear HB HP1 HP2 HC HL HX HY
  go_enter Tryd.func6, Tryd.ntmps6
  go_upto_region 5 with (first | (go_at_call 15; refine Calls.mono G1.out ?_; rintro e w1 ⟨rfl, hF1⟩) | (go_at_call 10; refine (G2.out _).mono ?_; rintro e w6 ⟨rfl, hw⟩; have hw2 := hw.symm; clear hw; subst hw2))
  go_upto_region 7 with (first | (go_at_call 10; refine (G3.out _).mono ?_; rintro e w6 ⟨rfl, hw⟩; have hw2 := hw.symm; clear hw; subst hw2) | (go_at_call 11; refine (G4.out _).mono ?_; rintro e w2 ⟨rfl, hF2⟩))
  have HF2 : Hid _ := hF1.trans hF2
  clear hF1 hF2
  have hb1 : (ec != 0) = false ∨ (ec != 0) = true := by cases (ec != 0) <;> simp
  have key : s2 = (if (ec != 0) = true then smT else s) := by
    rcases hs2 with ⟨h1, h2⟩ | ⟨h1, h2⟩
    · rw [h1, h2]; rfl
    · rw [h2, if_pos (bne_iff_ne.2 h1)]
  have Hk : Hid _ := key
  clear key hs2
  rcases hb1 with b1 | b1
  · have hs2 : s2 = s := by rw [Hk.out, if_neg (by rw [b1]; simp)]
    subst hs2
    clear Hk
    go_upto_region 10 with (go_at_call 16; refine (G5.out _).mono ?_; rintro e w3 ⟨rfl, hF3⟩)
    have HF3 : Hid _ := HF2.out.trans hF3
    clear hF3
    go_upto_region 11 with (go_at_call 12; refine (G6.out _ HF3.out).mono ?_; rintro e w4 ⟨rfl, hF4⟩)
    have HO : Hid _ := OutAt.new w4 28 (.int .i64 (x0 : Int)) (.string X) (.int .i64 0) (.int .i64 0)
    have HFb : Hid (Fr NoB w (w4.alloc (.cells #[.int .i64 (x0 : Int), .string X, .int .i64 0, .int .i64 0] 28))) := (HF3.out.trans hF4).alloc _
    clear hF4
    generalize (w4.alloc _) = W4 at *
    generalize w4.heap.size = o1 at *
    go_upto_region 12 with (go_at_call 14; refine (G7.out _ HFb.out).mono ?_; rintro e w5 ⟨rfl, hF5⟩)
    have HO5 : Hid _ := OutAt.new w5 28 (.int .i64 (x0 : Int)) (.string X) (.int .i64 (y2 : Int)) (.int .i64 (y3 : Int))
    have hFc : Fr NoB w5 (w5.alloc (.cells #[.int .i64 (x0 : Int), .string X, .int .i64 (y2 : Int), .int .i64 (y3 : Int)] 28)) := (Fr.refl _ _).alloc _
    have HO3 : Hid _ := (HO.out.fr hF5 id).fr hFc id
    have HFd : Hid _ := (HFb.out.trans hF5).trans hFc
    clear hF5 hFc
    generalize (w5.alloc _) = W5 at *
    generalize w5.heap.size = o2 at *
    obtain ⟨c0, c1, c2, c3, _⟩ := HO3.out
    obtain ⟨d0, d1, d2, d3, _⟩ := HO5.out
    go_wp2
    go_ret
    exact ⟨by simp, HFd.out⟩
  · have hs2 : s2 = smT := by rw [Hk.out, if_pos b1]
    subst hs2
    clear Hk
    go_upto_region 10 with (go_at_call 16; refine (G5.out _).mono ?_; rintro e w3 ⟨rfl, hF3⟩)
    have HF3 : Hid _ := HF2.out.trans hF3
    clear hF3
    go_upto_region 11 with (go_at_call 12; refine (G6.out _ HF3.out).mono ?_; rintro e w4 ⟨rfl, hF4⟩)
    have HO : Hid _ := OutAt.new w4 28 (.int .i64 (x0 : Int)) (.string X) (.int .i64 0) (.int .i64 0)
    have HFb : Hid (Fr NoB w (w4.alloc (.cells #[.int .i64 (x0 : Int), .string X, .int .i64 0, .int .i64 0] 28))) := (HF3.out.trans hF4).alloc _
    clear hF4
    generalize (w4.alloc _) = W4 at *
    generalize w4.heap.size = o1 at *
    go_upto_region 12 with (go_at_call 14; refine (G7.out _ HFb.out).mono ?_; rintro e w5 ⟨rfl, hF5⟩)
    have HO5 : Hid _ := OutAt.new w5 28 (.int .i64 (x0 : Int)) (.string X) (.int .i64 (y2 : Int)) (.int .i64 (y3 : Int))
    have hFc : Fr NoB w5 (w5.alloc (.cells #[.int .i64 (x0 : Int), .string X, .int .i64 (y2 : Int), .int .i64 (y3 : Int)] 28)) := (Fr.refl _ _).alloc _
    have HO3 : Hid _ := (HO.out.fr hF5 id).fr hFc id
    have HFd : Hid _ := (HFb.out.trans hF5).trans hFc
    clear hF5 hFc
    generalize (w5.alloc _) = W5 at *
    generalize w5.heap.size = o2 at *
    obtain ⟨c0, c1, c2, c3, _⟩ := HO3.out
    obtain ⟨d0, d1, d2, d3, _⟩ := HO5.out
    go_wp2
    go_ret
    exact ⟨by simp, HFd.out⟩
/-- the law -/
theorem roomy_any (w : World) (s : ByteArray) (mo fu : Int) (hs : s.size ≤ 9223372036854775807) (g1 : -9223372036854775808 ≤ mo ∧ mo ≤ 9223372036854775807) (g2 : -9223372036854775808 ≤ fu ∧ fu ≤ 9223372036854775807) (htab : ∀ W, Fr NoB w W → TabOk W) :
    Calls Tryd.prog 6 #[.string s, .int .i64 mo, .int .i64 fu] w fun e w' => e = .returned (.bool true) ∧ Fr NoB w w' := by
  have hz : pickZ mo 833 < 833 := pickZ_lt mo (by omega)
  have hn : pickZ fu 5001 < 5001 := pickZ_lt fu (by omega)
  have P1 : ∀ W, Calls Tryd.prog 10 #[.int .i64 mo, .int .i64 833] W fun e w' => e = .returned (.int .i64 (pickZ mo 833 : Int)) ∧ w' = W := fun W => kpick_fn W mo 833 (by omega) (by omega) g1.1 g1.2
  have P2 : ∀ W, Calls Tryd.prog 10 #[.int .i64 fu, .int .i64 5001] W fun e w' => e = .returned (.int .i64 (pickZ fu 5001 : Int)) ∧ w' = W := fun W => kpick_fn W fu 5001 (by omega) (by omega) g2.1 g2.2
  generalize pickZ mo 833 = z at *
  generalize pickZ fu 5001 = n at *
  obtain ⟨s2, hc, hs2⟩ : ∃ s2, checkN s2 = (0, 0) ∧ ((((checkN s).1 : Int) = 0 ∧ s2 = s) ∨ (((checkN s).1 : Int) ≠ 0 ∧ s2 = smT)) := by
    rcases check_cases s with hc | hc
    · exact ⟨smT, smT_check, .inr ⟨by omega, rfl⟩⟩
    · exact ⟨s, hc, .inl ⟨by rw [hc]; rfl, rfl⟩⟩
  obtain ⟨_, _, hrt, h20⟩ := settled_text hc
  obtain ⟨σ, b, hE⟩ := Ex.total cP n (pgN s2 (s2.size + 1) 0 s2.size) (st0 n) (Nat.le_refl _)
  obtain ⟨τ, hE2, hor, hu, hp, h4n, h33⟩ := faith hc (3264 + z) n ⟨b, hE⟩
  have hq : τ.status = σ.status ∧ τ.tr = σ.tr := by
    rcases hor with ⟨q1, q2, _⟩ | ⟨q1, _⟩
    · exact ⟨q1, q2⟩
    · exact absurd q1 (h33 (by omega))
  refine roomy_walk w s s2 (lowTT s2) mo fu _ _ z n σ.status (usedN τ 26) τ.peak (trB σ.tr) hz (by omega) (begun_fn w htab) P1 P2 (fun W => devCheck_fn W s hs (partIs2 s)) hs2 (fun W => devLower_ok W s2 hc)
    (fun W hW => dplay_ends W s2 n hc (by omega) σ ⟨b, hE⟩ (fun W2 hW2 => htab W2 (hW.trans hW2))) (fun W hW => ?_)
  have := dexec_ends W (lowTT s2) (3264 + z) n h20 hrt (by omega) (by omega) (by omega) τ hE2 (fun W2 hW2 => htab W2 (hW.trans hW2))
  unfold outE at this
  rw [hq.1, hq.2, show ((3264 + z : Nat) : Int) = 3264 + (z : Int) by omega] at this
  exact this
end Go.Proofs.YthcjcjfgdgnljaaDoor
