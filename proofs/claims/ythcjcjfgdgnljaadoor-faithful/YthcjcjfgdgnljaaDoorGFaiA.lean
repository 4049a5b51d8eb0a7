/-
  FaiA: one behind the other.
-/
import Derived.Test.YthcjcjfgdgnljaaDoorGTxtG
import Derived.Test.YthcjcjfgdgnljaaDoorGLonB
namespace Go.Proofs.YthcjcjfgdgnljaaDoor
open Go.RowKit Go.Lib
set_option linter.unusedVariables false

set_option maxRecDepth 8000 in
set_option maxHeartbeats 2000000 in
theorem faith_bad (w : World) (s : ByteArray) (wo fu ec pc : Int) (z n : Nat) (hec : ec ≠ 0)
    (HB : Calls Tryd.prog 15 #[] w fun e w' => e = .returned (.bool true) ∧ Fr NoB w w')
    (HP1 : ∀ W, Calls Tryd.prog 10 #[.int .i64 wo, .int .i64 4096] W fun e w' => e = .returned (.int .i64 (z : Int)) ∧ w' = W)
    (HP2 : ∀ W, Calls Tryd.prog 10 #[.int .i64 fu, .int .i64 5001] W fun e w' => e = .returned (.int .i64 (n : Int)) ∧ w' = W)
    (hz : z < 4096)
    (HC : ∀ W, Calls Tryd.prog 11 #[.string s] W fun e w' => e = .returned (.tuple #[.int .i64 ec, .int .i64 pc]) ∧ Fr NoB W w')
    (HL : ∀ W, Calls Tryd.prog 16 #[.string s] W fun e w' => e = .returned (.tuple #[.string ⟨#[]⟩, .int .i64 ec]) ∧ Fr NoB W w')
    (HX : ∀ W, Calls Tryd.prog 12 #[.string s, .int .i64 (n : Int)] W fun e w' => e = .returned (.tuple #[.agg #[.int .i64 0, .string ⟨#[]⟩, .int .i64 0, .int .i64 0], .int .i64 ec]) ∧ Fr NoB W w') :
    Calls Tryd.prog 5 #[.string s, .int .i64 wo, .int .i64 fu] w fun e w' => e = .returned (.bool true) ∧ Fr NoB w w' := by
  have G1 : Hid _ := HB
  have G2 : Hid _ := HP1
  have G3 : Hid _ := HP2
  have G4 : Hid _ := HC
  have G5 : Hid _ := HL
  have G6 : Hid _ := HX
  have b1 : (ec != 0) = true := bne_iff_ne.2 hec
  clear HB HP1 HP2 HC HL HX hec
  go_enter Tryd.func5, Tryd.ntmps5
  go_upto_region 5 with (first | (go_at_call 15; refine Calls.mono G1.out ?_; rintro e w1 ⟨rfl, hF1⟩) | (go_at_call 10; refine (G2.out _).mono ?_; rintro e w6 ⟨rfl, hw⟩; have hw2 := hw.symm; clear hw; subst hw2))
  go_upto_region 8 with (first | (go_at_call 10; refine (G3.out _).mono ?_; rintro e w6 ⟨rfl, hw⟩; have hw2 := hw.symm; clear hw; subst hw2) | (go_at_call 11; refine (G4.out _).mono ?_; rintro e w2 ⟨rfl, hF2⟩) | (go_at_call 16; refine (G5.out _).mono ?_; rintro e w3 ⟨rfl, hF3⟩))
  have HF3 : Hid _ := (hF1.trans hF2).trans hF3
  clear hF1 hF2 hF3
  go_upto_region 9 with (go_at_call 12; refine (G6.out _).mono ?_; rintro e w4 ⟨rfl, hF4⟩)
  have HO : Hid _ := OutAt.new w4 28 (.int .i64 0) (.string ⟨#[]⟩) (.int .i64 0) (.int .i64 0)
  have HFb : Hid (Fr NoB w (w4.alloc (.cells #[.int .i64 0, .string ⟨#[]⟩, .int .i64 0, .int .i64 0] 28))) := (HF3.out.trans hF4).alloc _
  clear hF4 HF3
  generalize (w4.alloc _) = W4 at *
  generalize w4.heap.size = o1 at *
  obtain ⟨c0, c1, c2, c3, _⟩ := HO.out
  go_wp2
  go_ret
  exact ⟨by simp, HFb.out⟩
set_option maxRecDepth 8000 in
set_option maxHeartbeats 4000000 in
theorem faith_walk (w : World) (s t : ByteArray) (wo fu : Int) (z n x0 y0 y2 y3 : Nat) (X Y : ByteArray) (hz : z < 4096) (hn : n ≤ 5000) (hX : X.size ≤ 100000) (hY : Y.size ≤ 100000)
    (HB : Calls Tryd.prog 15 #[] w fun e w' => e = .returned (.bool true) ∧ Fr NoB w w')
    (HP1 : ∀ W, Calls Tryd.prog 10 #[.int .i64 wo, .int .i64 4096] W fun e w' => e = .returned (.int .i64 (z : Int)) ∧ w' = W)
    (HP2 : ∀ W, Calls Tryd.prog 10 #[.int .i64 fu, .int .i64 5001] W fun e w' => e = .returned (.int .i64 (n : Int)) ∧ w' = W)
    (HC : ∀ W, Calls Tryd.prog 11 #[.string s] W fun e w' => e = .returned (.tuple #[.int .i64 0, .int .i64 0]) ∧ Fr NoB W w')
    (HL : ∀ W, Calls Tryd.prog 16 #[.string s] W fun e w' => e = .returned (.tuple #[.string t, .int .i64 0]) ∧ Fr NoB W w')
    (HX : ∀ W, Fr NoB w W → Calls Tryd.prog 12 #[.string s, .int .i64 (n : Int)] W fun e w' => e = .returned (.tuple #[.agg #[.int .i64 (x0 : Int), .string X, .int .i64 0, .int .i64 0], .int .i64 0]) ∧ Fr NoB W w')
    (HY : ∀ W, Fr NoB w W → Calls Tryd.prog 14 #[.string t, .int .i64 (1 + (z : Int)), .int .i64 (n : Int)] W fun e w' => e = .returned (.tuple #[.agg #[.int .i64 (y0 : Int), .string Y, .int .i64 (y2 : Int), .int .i64 (y3 : Int)], .int .i64 0]) ∧ Fr NoB W w')
    (hfin : y0 ≠ 4 ∧ ((y0 = 3 ∧ Y.size ≤ X.size ∧ X.extract 0 Y.size = Y ∧ y2 ≤ 1 + z) ∨ (y0 ≠ 3 ∧ (y0 = 0 → y2 = 0) ∧ x0 = y0 ∧ X = Y ∧ y2 ≤ y3 ∧ y3 ≤ 1 + z))) :
    Calls Tryd.prog 5 #[.string s, .int .i64 wo, .int .i64 fu] w fun e w' => e = .returned (.bool true) ∧ Fr NoB w w' := by
  have G1 : Hid _ := HB
  have G2 : Hid _ := HP1
  have G3 : Hid _ := HP2
  have G4 : Hid _ := HC
  have G5 : Hid _ := HL
  have G6 : Hid _ := HX
  have G7 : Hid _ := HY
  have Hfin : Hid _ := hfin
  clear HB HP1 HP2 HC HL HX HY hfin
  go_enter Tryd.func5, Tryd.ntmps5
  go_upto_region 5 with (first | (go_at_call 15; refine Calls.mono G1.out ?_; rintro e w1 ⟨rfl, hF1⟩) | (go_at_call 10; refine (G2.out _).mono ?_; rintro e w6 ⟨rfl, hw⟩; have hw2 := hw.symm; clear hw; subst hw2))
  go_upto_region 8 with (first | (go_at_call 10; refine (G3.out _).mono ?_; rintro e w6 ⟨rfl, hw⟩; have hw2 := hw.symm; clear hw; subst hw2) | (go_at_call 11; refine (G4.out _).mono ?_; rintro e w2 ⟨rfl, hF2⟩) | (go_at_call 16; refine (G5.out _).mono ?_; rintro e w3 ⟨rfl, hF3⟩))
  have HF3 : Hid _ := (hF1.trans hF2).trans hF3
  clear hF1 hF2 hF3
  go_upto_region 9 with (go_at_call 12; refine (G6.out _ HF3.out).mono ?_; rintro e w4 ⟨rfl, hF4⟩)
  have HO : Hid _ := OutAt.new w4 28 (.int .i64 (x0 : Int)) (.string X) (.int .i64 0) (.int .i64 0)
  have HFb : Hid (Fr NoB w (w4.alloc (.cells #[.int .i64 (x0 : Int), .string X, .int .i64 0, .int .i64 0] 28))) := (HF3.out.trans hF4).alloc _
  clear hF4 HF3
  generalize (w4.alloc _) = W4 at *
  generalize w4.heap.size = o1 at *
  go_upto_region 12 with (go_at_call 14; refine (G7.out _ HFb.out).mono ?_; rintro e w5 ⟨rfl, hF5⟩)
  have HO5 : Hid _ := OutAt.new w5 28 (.int .i64 (y0 : Int)) (.string Y) (.int .i64 (y2 : Int)) (.int .i64 (y3 : Int))
  have hFc : Fr NoB w5 (w5.alloc (.cells #[.int .i64 (y0 : Int), .string Y, .int .i64 (y2 : Int), .int .i64 (y3 : Int)] 28)) := (Fr.refl _ _).alloc _
  have HO3 : Hid _ := (HO.out.fr hF5 id).fr hFc id
  have HFd : Hid _ := (HFb.out.trans hF5).trans hFc
  clear hF5 hFc
  generalize (w5.alloc _) = W5 at *
  generalize w5.heap.size = o2 at *
  obtain ⟨c0, c1, c2, c3, _⟩ := HO3.out
  obtain ⟨d0, d1, d2, d3, _⟩ := HO5.out
  have b4 : ((y0 : Int) == 4) = false := beq_eq_false_iff_ne.2 (by have := Hfin.out.1; omega)
  rcases Hfin.out.2 with ⟨h3, hl, hx, h2⟩ | ⟨h3, h0, hxy, hXY, h23, h3z⟩
  · subst h3
    have bl : decide ((Y.size : Int) ≤ (X.size : Int)) = true := decide_eq_true (by omega)
    have bu : decide ((y2 : Int) ≤ 1 + (z : Int)) = true := decide_eq_true (by omega)
    clear h2
    go_upto_region 15 with fail
    go_quiet (fail)
    go_wp2
    go_ret
    exact ⟨by simp, HFd.out.drewN _⟩
  · subst hxy hXY
    have b3 : ((x0 : Int) == 3) = false := beq_eq_false_iff_ne.2 (by omega)
    by_cases hz0 : x0 = 0
    · have hy2 := h0 hz0
      subst hz0 hy2
      clear h0 h3 b3 b4
      go_wp2
      go_ret
      exact ⟨by simp; omega, HFd.out⟩
    · have b0 : ((x0 : Int) == 0) = false := beq_eq_false_iff_ne.2 (by omega)
      clear h0 h3
      go_wp2
      go_ret
      exact ⟨by simp; omega, HFd.out⟩
/-- the law -/
theorem faithful_any (w : World) (s : ByteArray) (wo fu : Int) (hs : s.size ≤ 9223372036854775807) (g1 : -9223372036854775808 ≤ wo ∧ wo ≤ 9223372036854775807) (g2 : -9223372036854775808 ≤ fu ∧ fu ≤ 9223372036854775807) (htab : ∀ W, Fr NoB w W → TabOk W) :
    Calls Tryd.prog 5 #[.string s, .int .i64 wo, .int .i64 fu] w fun e w' => e = .returned (.bool true) ∧ Fr NoB w w' := by
  have hz : pickZ wo 4096 < 4096 := pickZ_lt wo (by omega)
  have hn : pickZ fu 5001 < 5001 := pickZ_lt fu (by omega)
  have P1 : ∀ W, Calls Tryd.prog 10 #[.int .i64 wo, .int .i64 4096] W fun e w' => e = .returned (.int .i64 (pickZ wo 4096 : Int)) ∧ w' = W := fun W => kpick_fn W wo 4096 (by omega) (by omega) g1.1 g1.2
  have P2 : ∀ W, Calls Tryd.prog 10 #[.int .i64 fu, .int .i64 5001] W fun e w' => e = .returned (.int .i64 (pickZ fu 5001 : Int)) ∧ w' = W := fun W => kpick_fn W fu 5001 (by omega) (by omega) g2.1 g2.2
  generalize pickZ wo 4096 = z at *
  generalize pickZ fu 5001 = n at *
  rcases check_cases s with hc | hc
  · exact faith_bad w s wo fu _ _ z n (by omega) (begun_fn w htab) P1 P2 hz (fun W => devCheck_fn W s hs (partIs2 s)) (fun W => devLower_bad W s hs hc) (fun W => dplay_bad W s n hs hc)
  · obtain ⟨h4, hpr, _⟩ := check_ok hc
    obtain ⟨_, _, _, h20⟩ := settled_text hc
    obtain ⟨_, _, hrt, _⟩ := settled_text hc
    obtain ⟨σ, b, hE⟩ := Ex.total cP n (pgN s (s.size + 1) 0 s.size) (st0 n) (Nat.le_refl _)
    obtain ⟨τ, hE2, hor, hu, hp, h4n, _⟩ := faith hc (1 + z) n ⟨b, hE⟩
    have ht1 := (hE.trOk (show TrOk (st0 n) by unfold TrOk st0; show 0 + 5 * n ≤ 25000; omega))
    have hE2' := hE2
    obtain ⟨b2, hE3⟩ := hE2'
    have ht2 := (hE3.trOk (show TrOk (st0 n) by unfold TrOk st0; show 0 + 5 * n ≤ 25000; omega))
    have hzs : ∀ l : List Nat, (trB l).size = l.length := fun l => by simp [trB, ByteArray.size]
    refine faith_walk w s (lowTT s) wo fu z n σ.status τ.status (usedN τ 26) τ.peak (trB σ.tr) (trB τ.tr) hz (by omega) (by rw [hzs]; unfold TrOk at ht1; omega) (by rw [hzs]; unfold TrOk at ht2; omega) (begun_fn w htab) P1 P2
      (fun W => by have := devCheck_fn W s hs (partIs2 s); rwa [hc] at this) (fun W => devLower_ok W s hc)
      (fun W hW => dplay_ends W s n hc (by omega) σ ⟨b, hE⟩ (fun W2 hW2 => htab W2 (hW.trans hW2)))
      (fun W hW => by
        have := dexec_ends W (lowTT s) (1 + z) n h20 hrt (by omega) (by omega) (by omega) τ hE2 (fun W2 hW2 => htab W2 (hW.trans hW2))
        rwa [show ((1 + z : Nat) : Int) = 1 + (z : Int) by omega] at this) ?_
    refine ⟨?_, ?_⟩
    · rcases hor with ⟨q1, _⟩ | ⟨q1, _⟩
      · rw [q1]; exact h4n
      · rw [q1]; decide
    · rcases hor with ⟨q1, q2, q3⟩ | ⟨q1, q2⟩
      · by_cases q : τ.status = 3
        · refine .inl ⟨q, ?_⟩
          rw [q2]
          exact ⟨Nat.le_refl _, (trB_pre (List.prefix_refl _)).2, by omega⟩
        · exact .inr ⟨q, q3, q1.symm, by rw [q2], hu, hp⟩
      · obtain ⟨p1, p2⟩ := trB_pre q2
        exact .inl ⟨q1, p1, p2, by omega⟩
end Go.Proofs.YthcjcjfgdgnljaaDoor
