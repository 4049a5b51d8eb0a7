/-
  EndA, EndB: one behind the other.
-/
import Derived.Test.YthcjcjfgdgnljaaDoorGTxtG
import Derived.Test.YthcjcjfgdgnljaaDoorGLonB
import Derived.Deep.QuietTactic
import Derived.BigQuiet
namespace Go.Proofs.YthcjcjfgdgnljaaDoor
open Go.RowKit Go.Lib
set_option linter.unusedVariables false

theorem Kp.le {s t : ByteArray} {i j : Nat} (h : Kp s t i j) : i ≤ s.size := by
  induction h with
  | fin h => exact Nat.le_refl _
  | eq h hc hr ih => exact Nat.le_of_lt hc.1
  | dr h hc h0 h1 h2 hr ih => exact ih
set_option maxRecDepth 8000 in
set_option maxHeartbeats 4000000 in
theorem kept_fn (w : World) (s t : ByteArray) (hs : s.size ≤ 1000) (ht : t.size ≤ 100000) (h : Kp s t 0 0) :
    Calls Tryd.prog 17 #[.string s, .string t] w fun e w' => e = .returned (.bool true) ∧ Fr NoB w w' := by
  have H0 : Hid _ := h
  clear h
  go_enter Tryd.func17, Tryd.ntmps17
  go_wp2
  go_loopg [5, 6] t.size (fun q a b wr => ∃ i j : Nat, q + j = t.size ∧ a = .int .i64 i ∧ b = .int .i64 j ∧ Kp s t i j ∧ Fr NoB w wr)
  case atStart => exact ⟨0, 0, by omega, rfl, rfl, H0.out, Fr.refl _ _⟩
  case round =>
    obtain ⟨i, j, hq, rfl, rfl, hK, hF⟩ := hrel
    have hi := hK.le
    have HF : Hid _ := hF
    clear hF H0
    by_cases hlt : j < t.size
    · have w1 : IntKind.i64.wrap ((j : Int) + 1) = (j : Int) + 1 := by rw [IntKind.wrap_i64]; omega
      have w2 : IntKind.i64.wrap ((i : Int) + 1) = (i : Int) + 1 := by rw [IntKind.wrap_i64]; omega
      have w3 : IntKind.i64.wrap ((s.size : Int) - (i : Int)) = (s.size : Int) - (i : Int) := by rw [IntKind.wrap_i64]; omega
      have xt := fun W => str_at W t j (j : Int) hlt rfl
      cases hK with
      | fin hn => exact absurd hlt hn
      | eq hl hc hr =>
        obtain ⟨his, he, hor⟩ := hc
        have HN : Hid (Kp s t (i + 1) (j + 1)) := hr
        clear hr
        rw [bt_in his, bt_in hlt] at he
        rw [bt_in hlt] at hor
        have bi : decide ((i : Int) < (s.size : Int)) = true := decide_eq_true (by omega)
        have xs := fun W => str_at W s i (i : Int) his rfl
        have e1 : ((s[i].toNat : Int) == (t[j].toNat : Int)) = true := beq_iff_eq.2 (by omega)
        by_cases h126 : t[j].toNat = 126
        · rcases hor with q | ⟨q1, q2, q3⟩
          · exact absurd h126 q
          · have e2 : ((t[j].toNat : Int) != 126) = false := by rw [h126]; rfl
            have b1 : decide (1 < (s.size : Int) - (i : Int)) = true := decide_eq_true (by omega)
            have b2 : decide ((j : Int) + 1 < (t.size : Int)) = true := decide_eq_true (by omega)
            have xs1 := fun W => str_at W s (i + 1) ((i : Int) + 1) (by omega) rfl
            have xt1 := fun W => str_at W t (j + 1) ((j : Int) + 1) q2 rfl
            have e3 : ((s[i + 1].toNat : Int) == (t[j + 1].toNat : Int)) = true := by
              rw [bt_in (by omega : i + 1 < s.size), bt_in q2] at q3
              exact beq_iff_eq.2 (by omega)
            clear q3 he h126
            go_upto_region 4 with fail
            go_quiet (fail)
            go_wp2
            go_roundg (t.size - (j + 1))
            case measure => omega
            case rel => exact ⟨i + 1, j + 1, by omega, by go_num, by go_num, HN.out, (HF.out).drewN _⟩
        · have e2 : ((t[j].toNat : Int) != 126) = true := bne_iff_ne.2 (by omega)
          clear hor he h126
          go_upto_region 4 with fail
          go_quiet (fail)
          go_wp2
          go_roundg (t.size - (j + 1))
          case measure => omega
          case rel => exact ⟨i + 1, j + 1, by omega, by go_num, by go_num, HN.out, (HF.out).drewN _⟩
      | dr hl hc h0 hg h2 hr =>
        have HN : Hid (Kp s t i (j + 3)) := hr
        clear hr
        have g1 : t[j + 1].toNat ≥ 65 ∧ t[j + 1].toNat ≤ 90 := by
          rw [bt_in (by omega : j + 1 < t.size)] at hg
          simp [greatN] at hg
          omega
        obtain ⟨g1, g2⟩ := g1
        have g3 : ((t[j + 2].toNat : Int) != 59) = false := by
          rw [bt_in hl] at h2
          rw [h2]
          rfl
        rw [bt_in hlt] at h0
        have e2 : ((t[j].toNat : Int) != 126) = false := by rw [h0]; rfl
        clear hg h2
        by_cases his : i < s.size
        · have bi : decide ((i : Int) < (s.size : Int)) = true := decide_eq_true (by omega)
          have xs := fun W => str_at W s i (i : Int) his rfl
          by_cases he : s[i].toNat = t[j].toNat
          · have e1 : ((s[i].toNat : Int) == (t[j].toNat : Int)) = true := beq_iff_eq.2 (by omega)
            by_cases q1 : 1 < s.size - i
            · have p1 : i + 1 < s.size := by omega
              have p2 : j + 1 < t.size := by omega
              have xs1 := fun W => str_at W s (i + 1) ((i : Int) + 1) p1 rfl
              have xt1 := fun W => str_at W t (j + 1) ((j : Int) + 1) p2 rfl
              have b1 : decide (1 < (s.size : Int) - (i : Int)) = true := decide_eq_true (by omega)
              have b2 : decide ((j : Int) + 1 < (t.size : Int)) = true := decide_eq_true (by omega)
              have hne : ¬ s[i + 1].toNat = t[j + 1].toNat := fun q => hc ⟨his, by rw [bt_in his, bt_in hlt]; exact he, .inr ⟨q1, p2, by rw [bt_in p1, bt_in p2]; exact q⟩⟩
              have e3 : ((s[i + 1].toNat : Int) == (t[j + 1].toNat : Int)) = false := beq_eq_false_iff_ne.2 (by omega)
              clear hc he hne h0
              go_upto_region 4 with fail
              go_quiet (fail)
              go_wp2
              go_roundg (t.size - (j + 3))
              case measure => omega
              case rel => exact ⟨i, j + 3, by omega, by go_num, by go_num, HN.out, (HF.out).drewN _⟩
            · have b1 : decide (1 < (s.size : Int) - (i : Int)) = false := decide_eq_false (by omega)
              clear hc he h0
              go_upto_region 4 with fail
              go_quiet (fail)
              go_wp2
              go_roundg (t.size - (j + 3))
              case measure => omega
              case rel => exact ⟨i, j + 3, by omega, by go_num, by go_num, HN.out, (HF.out).drewN _⟩
          · have e1 : ((s[i].toNat : Int) == (t[j].toNat : Int)) = false := beq_eq_false_iff_ne.2 (by omega)
            clear hc he h0
            go_upto_region 4 with fail
            go_quiet (fail)
            go_wp2
            go_roundg (t.size - (j + 3))
            case measure => omega
            case rel => exact ⟨i, j + 3, by omega, by go_num, by go_num, HN.out, (HF.out).drewN _⟩
        · have bi : decide ((i : Int) < (s.size : Int)) = false := decide_eq_false (by omega)
          clear hc h0
          go_upto_region 4 with fail
          go_quiet (fail)
          go_wp2
          go_roundg (t.size - (j + 3))
          case measure => omega
          case rel => exact ⟨i, j + 3, by omega, by go_num, by go_num, HN.out, (HF.out).drewN _⟩
    · have hie : i = s.size := by
        cases hK with
        | fin hn => rfl
        | eq hl hc hr => exact absurd hl hlt
        | dr hl hc h0 hg h2 hr => exact absurd (by omega) hlt
      subst hie
      go_wp2
      go_ret
      exact ⟨by simp, HF.out⟩
end Go.Proofs.YthcjcjfgdgnljaaDoor

namespace Go.Proofs.YthcjcjfgdgnljaaDoor
open Go.RowKit Go.Lib
set_option linter.unusedVariables false

theorem str_from (W : World) (t H D : ByteArray) (i : Int) (ht : t = H ++ D) (hi : i = (H.size : Int)) : (Instr.slice 9 (.string t) (some (.int .i64 i)) none none).run Tryd.prog W = .ok (.string D) W := by
  have hsz : t.size = H.size + D.size := by rw [ht, ByteArray.size_append]
  rw [run_slice_string_from_if _ _ _ _ _ Tryd.underlying9, if_pos ⟨by omega, by omega⟩]
  have e : t.extract i.toNat t.size = D := by
    rw [hi, Int.toNat_natCast, hsz, ht]
    apply ByteArray.ext
    have e1 : H.size = H.data.size := rfl
    have e2 : D.size = D.data.size := rfl
    rw [ByteArray.data_extract, ByteArray.data_append, Array.extract_append, e1, e2, Array.extract_eq_empty_of_le (by omega), Array.empty_append, Nat.sub_self, Nat.add_sub_cancel_left, Array.extract_eq_self_of_le (Nat.le_refl _)]
  rw [e]
theorem str_to (W : World) (t H D : ByteArray) (i : Int) (ht : t = H ++ D) (hi : i = (H.size : Int)) : (Instr.slice 9 (.string t) none (some (.int .i64 i)) none).run Tryd.prog W = .ok (.string H) W := by
  have hsz : t.size = H.size + D.size := by rw [ht, ByteArray.size_append]
  rw [run_slice_string_to_if _ _ _ _ _ Tryd.underlying9, if_pos ⟨by omega, by omega⟩]
  have e : t.extract 0 i.toNat = H := by
    rw [hi, Int.toNat_natCast, ht]
    apply ByteArray.ext
    have e1 : H.size = H.data.size := rfl
    rw [ByteArray.data_extract, ByteArray.data_append, Array.extract_append, e1]
    simp
  rw [e]
set_option maxRecDepth 8000 in
set_option maxHeartbeats 2000000 in
theorem ends_bad (w : World) (s t : ByteArray) (ec pc : Int) (hec : ec ≠ 0)
    (HB : Calls Tryd.prog 15 #[] w fun e w' => e = .returned (.bool true) ∧ Fr NoB w w')
    (HL : ∀ W, Calls Tryd.prog 16 #[.string s] W fun e w' => e = .returned (.tuple #[.string t, .int .i64 ec]) ∧ Fr NoB W w')
    (HC : ∀ W, Calls Tryd.prog 11 #[.string s] W fun e w' => e = .returned (.tuple #[.int .i64 ec, .int .i64 pc]) ∧ Fr NoB W w') :
    Calls Tryd.prog 8 #[.string s] w fun e w' => e = .returned (.bool true) ∧ Fr NoB w w' := by
  have G1 : Hid _ := HB
  have G2 : Hid _ := HL
  have G3 : Hid _ := HC
  have b1 : (ec != 0) = true := bne_iff_ne.2 hec
  clear HB HL HC hec
  go_enter Tryd.func8, Tryd.ntmps8
  go_wp2_with (first | (go_at_call 15; refine Calls.mono G1.out ?_; rintro e w1 ⟨rfl, hF1⟩) | (go_at_call 16; refine (G2.out _).mono ?_; rintro e w2 ⟨rfl, hF2⟩) | (go_at_call 11; refine (G3.out _).mono ?_; rintro e w3 ⟨rfl, hF3⟩))
  go_ret
  exact ⟨by simp, (hF1.trans hF2).trans hF3⟩
set_option maxRecDepth 8000 in
set_option maxHeartbeats 2000000 in
theorem ends_long (w : World) (s t : ByteArray) (pc : Int) (h : 397 < s.size) (hs : s.size ≤ 400)
    (HB : Calls Tryd.prog 15 #[] w fun e w' => e = .returned (.bool true) ∧ Fr NoB w w')
    (HL : ∀ W, Calls Tryd.prog 16 #[.string s] W fun e w' => e = .returned (.tuple #[.string t, .int .i64 0]) ∧ Fr NoB W w')
    (HC : ∀ W, Calls Tryd.prog 11 #[.string s] W fun e w' => e = .returned (.tuple #[.int .i64 0, .int .i64 pc]) ∧ Fr NoB W w') :
    Calls Tryd.prog 8 #[.string s] w fun e w' => e = .returned (.bool true) ∧ Fr NoB w w' := by
  have G1 : Hid _ := HB
  have G2 : Hid _ := HL
  have G3 : Hid _ := HC
  clear HB HL HC
  go_enter Tryd.func8, Tryd.ntmps8
  go_wp2_with (first | (go_at_call 15; refine Calls.mono G1.out ?_; rintro e w1 ⟨rfl, hF1⟩) | (go_at_call 16; refine (G2.out _).mono ?_; rintro e w2 ⟨rfl, hF2⟩) | (go_at_call 11; refine (G3.out _).mono ?_; rintro e w3 ⟨rfl, hF3⟩))
  go_ret
  exact ⟨by simp, (hF1.trans hF2).trans hF3⟩
set_option maxRecDepth 8000 in
set_option maxHeartbeats 4000000 in
theorem ends_walk (w : World) (s t H : ByteArray) (f : Nat → Bool) (ch ph : Int) (hs : s.size ≤ 397) (htl : t.size ≤ 20000) (ht : t = H ++ drsB (minL f noF))
    (HB : Calls Tryd.prog 15 #[] w fun e w' => e = .returned (.bool true) ∧ Fr NoB w w')
    (HL : ∀ W, Calls Tryd.prog 16 #[.string s] W fun e w' => e = .returned (.tuple #[.string t, .int .i64 0]) ∧ Fr NoB W w')
    (HC : ∀ W v, v < 26 → Calls Tryd.prog 11 #[.string (s ++ drB v)] W fun e w' => e = .returned (if f v = true then .tuple #[.int .i64 0, .int .i64 0] else .tuple #[.int .i64 4, .int .i64 ((s.size : Int) + 1)]) ∧ Fr NoB W w')
    (HH : ∀ W, Calls Tryd.prog 11 #[.string H] W fun e w' => e = .returned (.tuple #[.int .i64 ch, .int .i64 ph]) ∧ Fr NoB W w')
    (HK : ∀ W, Calls Tryd.prog 17 #[.string s, .string t] W fun e w' => e = .returned (.bool true) ∧ Fr NoB W w')
    (hch : ch = 0 ∨ (ch ≠ 0 ∧ 400 < t.size)) :
    Calls Tryd.prog 8 #[.string s] w fun e w' => e = .returned (.bool true) ∧ Fr NoB w w' := by
  have G1 : Hid _ := HB
  have G2 : Hid _ := HL
  have G3 : Hid _ := HC
  have G4 : Hid _ := HH
  have G5 : Hid _ := HK
  have Ht : Hid _ := ht
  have Hch : Hid _ := hch
  clear HB HL HC HH HK ht hch
  go_enter Tryd.func8, Tryd.ntmps8
  go_wp2_with (first | (go_at_call 15; refine Calls.mono G1.out ?_; rintro e w1 ⟨rfl, hF1⟩) | (go_at_call 16; refine (G2.out _).mono ?_; rintro e w2 ⟨rfl, hF2⟩))
  have HF2 : Hid _ := hF1.trans hF2
  clear hF1 hF2
  go_loopg [8, 9] 26 (fun q a b wr => ∃ v : Nat, q + v = 26 ∧ a = .string (drsB (minT f noF v)) ∧ b = .int .i64 v ∧ Fr NoB w wr)
  case atStart => exact ⟨0, rfl, rfl, rfl, HF2.out⟩
  case round =>
    obtain ⟨v, hq, rfl, rfl, hF⟩ := hrel
    have HF : Hid _ := hF
    have hsz := drsT_size f noF v
    clear hF HF2
    by_cases hlt : v < 26
    · have HY : Hid ((f v && !noF v) = true → drsB (minT f noF (v + 1)) = drsB (minT f noF v) ++ (⟨#[126]⟩ ++ ⟨([65 + v].map UInt8.ofNat).toArray⟩ ++ ⟨#[59]⟩)) := fun h => by rw [minT_yes h, drsB_snoc]; rfl
      have HN : Hid ((f v && !noF v) = false → drsB (minT f noF (v + 1)) = drsB (minT f noF v)) := fun h => by rw [minT_no h]
      have hv := let_str v
      unfold strN at hv
      have hS1 : (⟨([65 + v].map UInt8.ofNat).toArray⟩ : ByteArray).size = 1 := rfl
      have HC2 : Hid (∀ W, Calls Tryd.prog 11 #[.string (s ++ (⟨#[126]⟩ ++ ⟨([65 + v].map UInt8.ofNat).toArray⟩ ++ ⟨#[59]⟩))] W fun e w' => e = .returned (if f v = true then .tuple #[.int .i64 0, .int .i64 0] else .tuple #[.int .i64 4, .int .i64 ((s.size : Int) + 1)]) ∧ Fr NoB W w') := fun W => G3.out W v hlt
      generalize (⟨([65 + v].map UInt8.ofNat).toArray⟩ : ByteArray) = L at *
      generalize drsB (minT f noF v) = T at *
      cases hfv : f v
      · rw [hfv] at HC2 HN
        have HC3 : Hid (∀ W, Calls Tryd.prog 11 #[.string (s ++ (⟨#[126]⟩ ++ L ++ ⟨#[59]⟩))] W fun e w' => e = .returned (.tuple #[.int .i64 4, .int .i64 ((s.size : Int) + 1)]) ∧ Fr NoB W w') := HC2.out
        clear HC2 HY hfv
        go_wp2_with (go_at_call 11; refine (HC3.out _).mono ?_; rintro e w3 ⟨rfl, hF3⟩)
        go_roundg (25 - v)
        case measure => omega
        case rel => exact ⟨v + 1, by omega, by rw [HN.out rfl], by go_num, (HF.out.alloc _).trans hF3⟩
      · rw [hfv] at HC2 HY
        have HC3 : Hid (∀ W, Calls Tryd.prog 11 #[.string (s ++ (⟨#[126]⟩ ++ L ++ ⟨#[59]⟩))] W fun e w' => e = .returned (.tuple #[.int .i64 0, .int .i64 0]) ∧ Fr NoB W w') := HC2.out
        clear HC2 HN hfv
        go_wp2_with (go_at_call 11; refine (HC3.out _).mono ?_; rintro e w3 ⟨rfl, hF3⟩)
        go_roundg (25 - v)
        case measure => omega
        case rel => exact ⟨v + 1, by omega, by rw [HY.out rfl], by go_num, (HF.out.alloc _).trans hF3⟩
    · have hve : v = 26 := by omega
      subst hve
      have ht2 : t = H ++ drsB (minT f noF 26) := Ht.out
      generalize drsB (minT f noF 26) = D at *
      have hsz2 : t.size = H.size + D.size := by rw [ht2, ByteArray.size_append]
      have x1 := fun W => str_from W t H D ((t.size : Int) - (D.size : Int)) ht2 (by omega)
      have x2 := fun W => str_to W t H D ((t.size : Int) - (D.size : Int)) ht2 (by omega)
      have hle : D.size ≤ t.size := by omega
      clear ht2 hsz2 Ht G3
      rcases Hch.out with h0 | ⟨h0, h4⟩
      · subst h0
        go_wp2_with (first | (go_at_call 11; refine (G4.out _).mono ?_; rintro e w3 ⟨rfl, hF3⟩) | (go_at_call 17; refine (G5.out _).mono ?_; rintro e w4 ⟨rfl, hF4⟩))
        go_ret
        exact ⟨by simp, (HF.out.trans hF3).trans hF4⟩
      · have b1 : (ch == 0) = false := beq_eq_false_iff_ne.2 h0
        clear h0
        go_wp2_with (first | (go_at_call 11; refine (G4.out _).mono ?_; rintro e w3 ⟨rfl, hF3⟩) | (go_at_call 17; refine (G5.out _).mono ?_; rintro e w4 ⟨rfl, hF4⟩))
        go_ret
        exact ⟨by simp; omega, (HF.out.trans hF3).trans hF4⟩
/-- the law -/
theorem ends_any (w : World) (s : ByteArray) (hs : s.size ≤ 9223372036854775807) (htab : ∀ W, Fr NoB w W → TabOk W) :
    Calls Tryd.prog 8 #[.string s] w fun e w' => e = .returned (.bool true) ∧ Fr NoB w w' := by
  rcases check_cases s with hc | hc
  · exact ends_bad w s _ _ _ (by omega) (begun_fn w htab) (fun W => devLower_bad W s hs hc) (fun W => devCheck_fn W s hs (partIs2 s))
  · obtain ⟨h4, hr, hp, hok, ho⟩ := check_tree hc
    have hCk := fun W => devCheck_fn W s hs (partIs2 s)
    rw [hc] at hCk
    by_cases h397 : 397 < s.size
    · exact ends_long w s _ _ h397 h4 (begun_fn w htab) (fun W => devLower_ok W s hc) hCk
    · have h3 : s.size ≤ 397 := by omega
      have hal : alongF s (s.size + 1) 0 s.size noF = aftG (pgN s (s.size + 1) 0 s.size) noF := by rw [(along_pg _ _ _ hp).1]
      have hlow : lowTT s = lowT s (s.size + 1) 0 s.size noF ++ drsB (minL (aftG (pgN s (s.size + 1) 0 s.size) noF) noF) := by rw [← hal]; rfl
      have hts := low_size hp h4
      have hH := check_head hc
      have hHs : (lowT s (s.size + 1) 0 s.size noF).size ≤ (lowTT s).size := by rw [hlow, ByteArray.size_append]; omega
      have hsd : ∀ v, (s ++ drB v).size ≤ 9223372036854775807 := fun v => by
        have : (s ++ drB v).size = s.size + 3 := ByteArray.size_append
        omega
      have hHc := fun W => devCheck_fn W (lowT s (s.size + 1) 0 s.size noF) (by omega) (partIs2 _)
      refine ends_walk w s (lowTT s) (lowT s (s.size + 1) 0 s.size noF) (aftG (pgN s (s.size + 1) 0 s.size) noF) _ _ h3 hts hlow (begun_fn w htab) (fun W => devLower_ok W s hc) (fun W v hv => ?_) hHc (fun W => kept_fn W s (lowTT s) (by omega) (by omega) (kp_top hp)) ?_
      · have := devCheck_fn W (s ++ drB v) (hsd v) (partIs2 _)
        rw [check_last hc h3 hv] at this
        by_cases hf : aftG (pgN s (s.size + 1) 0 s.size) noF v = true
        · rw [if_pos hf] at this ⊢
          exact this
        · rw [if_neg hf] at this ⊢
          exact this
      · rw [hH]
        by_cases hb : 400 < (lowT s (s.size + 1) 0 s.size noF).size
        · rw [if_pos hb]
          exact .inr ⟨by decide, by omega⟩
        · rw [if_neg hb]
          exact .inl rfl
end Go.Proofs.YthcjcjfgdgnljaaDoor
