/-
  SetA: one behind the other.
-/
import Derived.Test.YthcjcjfgdgnljaaDoorGFaiA
namespace Go.Proofs.YthcjcjfgdgnljaaDoor
open Go.RowKit Go.Lib
set_option linter.unusedVariables false

set_option maxRecDepth 8000 in
set_option maxHeartbeats 2000000 in
theorem settled_bad (w : World) (s : ByteArray) (fu ec pc : Int) (n : Nat) (hec : ec ≠ 0)
    (HB : Calls Tryd.prog 15 #[] w fun e w' => e = .returned (.bool true) ∧ Fr NoB w w')
    (HP : ∀ W, Calls Tryd.prog 10 #[.int .i64 fu, .int .i64 5001] W fun e w' => e = .returned (.int .i64 (n : Int)) ∧ w' = W)
    (HC : ∀ W, Calls Tryd.prog 11 #[.string s] W fun e w' => e = .returned (.tuple #[.int .i64 ec, .int .i64 pc]) ∧ Fr NoB W w')
    (HL : ∀ W, Calls Tryd.prog 16 #[.string s] W fun e w' => e = .returned (.tuple #[.string ⟨#[]⟩, .int .i64 ec]) ∧ Fr NoB W w') :
    Calls Tryd.prog 7 #[.string s, .int .i64 fu] w fun e w' => e = .returned (.bool true) ∧ Fr NoB w w' := by
  have G1 : Hid _ := HB
  have G3 : Hid _ := HP
  have G4 : Hid _ := HC
  have G5 : Hid _ := HL
  have b1 : (ec != 0) = true := bne_iff_ne.2 hec
  clear HB HP HC HL hec
  go_enter Tryd.func7, Tryd.ntmps7
  go_wp2_with (first | (go_at_call 15; refine Calls.mono G1.out ?_; rintro e w1 ⟨rfl, hF1⟩) | (go_at_call 10; refine (G3.out _).mono ?_; rintro e w6 ⟨rfl, hw⟩; have hw2 := hw.symm; clear hw; subst hw2) | (go_at_call 11; refine (G4.out _).mono ?_; rintro e w3 ⟨rfl, hF3⟩) | (go_at_call 16; refine (G5.out _).mono ?_; rintro e w2 ⟨rfl, hF2⟩))
  go_ret
  exact ⟨by simp, (hF1.trans hF2).trans hF3⟩
set_option maxRecDepth 8000 in
set_option maxHeartbeats 4000000 in
theorem settled_walk (w : World) (s t u : ByteArray) (fu ct pt fl hp : Int) (n x0 y0 : Nat) (X Y : ByteArray) (hn : n ≤ 5000) (ht : t.size ≤ 20000)
    (HB : Calls Tryd.prog 15 #[] w fun e w' => e = .returned (.bool true) ∧ Fr NoB w w')
    (HP : ∀ W, Calls Tryd.prog 10 #[.int .i64 fu, .int .i64 5001] W fun e w' => e = .returned (.int .i64 (n : Int)) ∧ w' = W)
    (HL : ∀ W, Calls Tryd.prog 16 #[.string s] W fun e w' => e = .returned (.tuple #[.string t, .int .i64 0]) ∧ Fr NoB W w')
    (HC : ∀ W, Calls Tryd.prog 11 #[.string t] W fun e w' => e = .returned (.tuple #[.int .i64 ct, .int .i64 pt]) ∧ Fr NoB W w')
    (HM : ∀ W, Calls Tryd.prog 16 #[.string t] W fun e w' => e = .returned (.tuple #[.string u, .int .i64 fl]) ∧ Fr NoB W w')
    (HX : ∀ W, Fr NoB w W → Calls Tryd.prog 12 #[.string s, .int .i64 (n : Int)] W fun e w' => e = .returned (.tuple #[.agg #[.int .i64 (x0 : Int), .string X, .int .i64 0, .int .i64 0], .int .i64 0]) ∧ Fr NoB W w')
    (HY : ∀ W, Fr NoB w W → Calls Tryd.prog 12 #[.string t, .int .i64 (n : Int)] W fun e w' => e = .returned (.tuple #[.agg #[.int .i64 (y0 : Int), .string Y, .int .i64 0, .int .i64 0], .int .i64 hp]) ∧ Fr NoB W w')
    (hfin : (400 < t.size ∧ ct = 1 ∧ fl = 1 ∧ hp = 1) ∨ (t.size ≤ 400 ∧ ct = 0 ∧ fl = 0 ∧ hp = 0 ∧ u = t ∧ y0 = x0 ∧ Y = X)) :
    Calls Tryd.prog 7 #[.string s, .int .i64 fu] w fun e w' => e = .returned (.bool true) ∧ Fr NoB w w' := by
  have G1 : Hid _ := HB
  have G3 : Hid _ := HP
  have G4 : Hid _ := HC
  have G5 : Hid _ := HL
  have G6 : Hid _ := HM
  have G7 : Hid _ := HX
  have G8 : Hid _ := HY
  have Hfin : Hid _ := hfin
  clear HB HP HC HL HM HX HY hfin
  go_enter Tryd.func7, Tryd.ntmps7
  go_upto_region 9 with (first | (go_at_call 15; refine Calls.mono G1.out ?_; rintro e w1 ⟨rfl, hF1⟩) | (go_at_call 10; refine (G3.out _).mono ?_; rintro e w6 ⟨rfl, hw⟩; have hw2 := hw.symm; clear hw; subst hw2) | (go_at_call 16; refine (G5.out _).mono ?_; rintro e w2 ⟨rfl, hF2⟩))
  go_upto_region 11 with (first | (go_at_call 11; refine (G4.out _).mono ?_; rintro e w3 ⟨rfl, hF3⟩) | (go_at_call 16; refine (G6.out _).mono ?_; rintro e w4 ⟨rfl, hF4⟩))
  have HF4 : Hid _ := ((hF1.trans hF2).trans hF3).trans hF4
  clear hF1 hF2 hF3 hF4
  go_upto_region 12 with (go_at_call 12; refine (G7.out _ HF4.out).mono ?_; rintro e w5 ⟨rfl, hF5⟩)
  have HO : Hid _ := OutAt.new w5 28 (.int .i64 (x0 : Int)) (.string X) (.int .i64 0) (.int .i64 0)
  have HFb : Hid (Fr NoB w (w5.alloc (.cells #[.int .i64 (x0 : Int), .string X, .int .i64 0, .int .i64 0] 28))) := (HF4.out.trans hF5).alloc _
  clear hF5
  generalize (w5.alloc _) = W5 at *
  generalize w5.heap.size = o1 at *
  go_upto_region 13 with (go_at_call 12; refine (G8.out _ HFb.out).mono ?_; rintro e w6 ⟨rfl, hF6⟩)
  have HO5 : Hid _ := OutAt.new w6 28 (.int .i64 (y0 : Int)) (.string Y) (.int .i64 0) (.int .i64 0)
  have hFc : Fr NoB w6 (w6.alloc (.cells #[.int .i64 (y0 : Int), .string Y, .int .i64 0, .int .i64 0] 28)) := (Fr.refl _ _).alloc _
  have HO3 : Hid _ := (HO.out.fr hF6 id).fr hFc id
  have HFd : Hid _ := (HFb.out.trans hF6).trans hFc
  clear hF6 hFc
  generalize (w6.alloc _) = W6 at *
  generalize w6.heap.size = o2 at *
  obtain ⟨c0, c1, c2, c3, _⟩ := HO3.out
  obtain ⟨d0, d1, d2, d3, _⟩ := HO5.out
  rcases Hfin.out with ⟨h4, hc, hf, hh⟩ | ⟨h4, hc, hf, hh, hu, hy, hY⟩
  · subst hc hf hh
    go_wp2
    go_ret
    exact ⟨by simp; omega, HFd.out⟩
  · subst hc hf hh hu hy hY
    go_wp2
    go_ret
    exact ⟨by simp, HFd.out⟩
/-- the law -/
theorem settled_any (w : World) (s : ByteArray) (fu : Int) (hs : s.size ≤ 9223372036854775807) (g2 : -9223372036854775808 ≤ fu ∧ fu ≤ 9223372036854775807) (htab : ∀ W, Fr NoB w W → TabOk W) :
    Calls Tryd.prog 7 #[.string s, .int .i64 fu] w fun e w' => e = .returned (.bool true) ∧ Fr NoB w w' := by
  have hn : pickZ fu 5001 < 5001 := pickZ_lt fu (by omega)
  have P2 : ∀ W, Calls Tryd.prog 10 #[.int .i64 fu, .int .i64 5001] W fun e w' => e = .returned (.int .i64 (pickZ fu 5001 : Int)) ∧ w' = W := fun W => kpick_fn W fu 5001 (by omega) (by omega) g2.1 g2.2
  generalize pickZ fu 5001 = n at *
  rcases check_cases s with hc | hc
  · exact settled_bad w s fu _ _ n (by omega) (begun_fn w htab) P2 (fun W => devCheck_fn W s hs (partIs2 s)) (fun W => devLower_bad W s hs hc)
  · obtain ⟨hfx, hck, hrt, h20⟩ := settled_text hc
    obtain ⟨σ, b, hE⟩ := Ex.total cP n (pgN s (s.size + 1) 0 s.size) (st0 n) (Nat.le_refl _)
    obtain ⟨τ, hE2, hq1, hq2⟩ := settled_play hc n ⟨b, hE⟩
    have hPl : ∀ W, Fr NoB w W → Calls Tryd.prog 12 #[.string s, .int .i64 (n : Int)] W fun e w' => e = .returned (.tuple #[outP σ, .int .i64 0]) ∧ Fr NoB W w' := fun W hW => dplay_ends W s n hc (by omega) σ ⟨b, hE⟩ (fun W2 hW2 => htab W2 (hW.trans hW2))
    have hts : (lowTT s).size ≤ 9223372036854775807 := by omega
    have hCk := fun W => devCheck_fn W (lowTT s) hts (partIs2 _)
    by_cases h4 : 400 < (lowTT s).size
    · rw [if_pos h4] at hck
      have hne : (checkN (lowTT s)).1 ≠ 0 := by rw [hck]; decide
      have hLb := fun W => devLower_bad W (lowTT s) hts hne
      have hPb := fun W => dplay_bad W (lowTT s) (n : Int) hts hne
      rw [hck] at hCk hLb hPb
      exact settled_walk w s (lowTT s) _ fu 1 0 1 1 n σ.status 0 (trB σ.tr) ⟨#[]⟩ (by omega) h20 (begun_fn w htab) P2 (fun W => devLower_ok W s hc) hCk hLb hPl (fun W _ => hPb W) (.inl ⟨h4, rfl, rfl, rfl⟩)
    · rw [if_neg h4] at hck
      rw [hck] at hCk
      have hLo := fun W => devLower_ok W (lowTT s) hck
      rw [hfx] at hLo
      refine settled_walk w s (lowTT s) (lowTT s) fu 0 0 0 0 n σ.status σ.status (trB σ.tr) (trB σ.tr) (by omega) h20 (begun_fn w htab) P2 (fun W => devLower_ok W s hc) hCk hLo hPl (fun W hW => ?_) (.inr ⟨by omega, rfl, rfl, rfl, rfl, rfl, rfl⟩)
      have := dplay_ends W (lowTT s) n hck (by omega) τ hE2 (fun W2 hW2 => htab W2 (hW.trans hW2))
      unfold outP at this
      rw [hq1, hq2] at this
      exact this
end Go.Proofs.YthcjcjfgdgnljaaDoor
