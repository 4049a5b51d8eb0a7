/-
  TrdA, TrdB: one behind the other.
-/
import Derived.Test.YthcjcjfgdgnljaaDoorGTurC
import Derived.Test.YthcjcjfgdgnljaaDoorGLonB
namespace Go.Proofs.YthcjcjfgdgnljaaDoor
open Go.RowKit
set_option linter.unusedVariables false

theorem lett_lt {a b c : Nat} (h : c < 256) : lettN a b c < 256 := by
  unfold lettN
  split
  · omega
  · split <;> omega
set_option maxHeartbeats 1000000 in
theorem tbyte_fn (w : World) (c a b : Nat) (hc : c < 256) (ha : a < 26) (hb : b < 26) :
    Calls Tryd.prog 22 #[.int .u8 (c : Int), .int .i64 (a : Int), .int .i64 (b : Int)] w fun e w' => e = .returned (.int .u8 (lettN a b c : Int)) ∧ w' = w := by
  by_cases h1 : 97 ≤ c ∧ c ≤ 122
  · have HT : Hid (lettN a b c = 97 + (c - 97 + a) % 26) := by unfold lettN; exact if_pos (by simp [smallN]; omega)
    obtain ⟨k, rfl⟩ : ∃ k, c = 97 + k := ⟨c - 97, by omega⟩
    have hk : k < 26 := by omega
    have HT2 : Hid (lettN a b (97 + k) = 97 + (k + a) % 26) := by show lettN a b (97 + k) = _; rw [HT.out]; omega
    clear h1 hc HT
    go_enter Tryd.func22, Tryd.ntmps22
    go_wp2
    go_ret
    refine ⟨?_, rfl⟩
    rw [HT2.out]
    go_num
  · by_cases h2 : 65 ≤ c ∧ c ≤ 90
    · have HT : Hid (lettN a b c = 65 + (c - 65 + b) % 26) := by unfold lettN; show (if _ then _ else if _ then _ else _) = _; rw [if_neg (by simp [smallN]; omega)]; exact if_pos (by simp [greatN]; omega)
      obtain ⟨k, rfl⟩ : ∃ k, c = 65 + k := ⟨c - 65, by omega⟩
      have hk : k < 26 := by omega
      have HT2 : Hid (lettN a b (65 + k) = 65 + (k + b) % 26) := by show lettN a b (65 + k) = _; rw [HT.out]; omega
      clear h1 h2 hc HT
      go_enter Tryd.func22, Tryd.ntmps22
      go_wp2
      go_ret
      refine ⟨?_, rfl⟩
      rw [HT2.out]
      go_num
    · have HT : Hid (lettN a b c = c) := lett_no (by simp [letN, smallN, greatN]; omega)
      by_cases h3 : 97 ≤ c
      · have h4 : ¬ c ≤ 122 := by omega
        have h5 : 65 ≤ c := by omega
        have h6 : ¬ c ≤ 90 := by omega
        clear h1 h2
        go_enter Tryd.func22, Tryd.ntmps22
        go_wp2
        go_ret
        exact ⟨by rw [HT.out] <;> rfl, rfl⟩
      · by_cases h5 : 65 ≤ c
        · have h6 : ¬ c ≤ 90 := by omega
          clear h1 h2
          go_enter Tryd.func22, Tryd.ntmps22
          go_wp2
          go_ret
          exact ⟨by rw [HT.out] <;> rfl, rfl⟩
        · clear h1 h2
          go_enter Tryd.func22, Tryd.ntmps22
          go_wp2
          go_ret
          exact ⟨by rw [HT.out] <;> rfl, rfl⟩
/-- the text under other letters -/
def turnT (a b : Nat) (s : ByteArray) : List UInt8 := (List.range s.size).map (fun i => UInt8.ofNat (lettN a b (bt s i)))
theorem turnT_len (a b : Nat) (s : ByteArray) : (turnT a b s).length = s.size := by simp [turnT]
theorem turnT_get {a b : Nat} {s : ByteArray} {j : Nat} (hj : j < s.size) : (turnT a b s)[j]? = some (UInt8.ofNat (lettN a b (bt s j))) := by
  unfold turnT
  rw [List.getElem?_map, List.getElem?_range hj]
  rfl
theorem turnT_at {a b : Nat} {s : ByteArray} {j : Nat} (hj : j < (turnT a b s).length) : ((turnT a b s)[j]).toNat = lettN a b (bt s j) := by
  have hj2 : j < s.size := by rw [turnT_len] at hj; exact hj
  have h := turnT_get (a := a) (b := b) hj2
  rw [List.getElem?_eq_getElem hj] at h
  injection h with h
  rw [h]
  exact Nat.mod_eq_of_lt (lett_lt (bt_lt s j))
theorem turnT_trn (a b : Nat) (s : ByteArray) : Trn a b s ⟨(turnT a b s).toArray⟩ := by
  have hz : (⟨(turnT a b s).toArray⟩ : ByteArray).size = s.size := by
    show (turnT a b s).toArray.size = s.size
    simp [turnT]
  refine ⟨hz, fun i => ?_⟩
  by_cases hi : i < s.size
  · rw [bt_in (by rw [hz]; exact hi)]
    show ((turnT a b s).toArray[i]'(by simpa [turnT] using hi)).toNat = _
    have := turnT_at (a := a) (b := b) (s := s) (j := i) (by simpa [turnT] using hi)
    simpa using this
  · rw [bt_out (by rw [hz]; exact hi), bt_out hi]
    rfl
/-- the bytes of a text, in memory, the first k of them turned -/
structure TrnAt (w : World) (g n k a b : Nat) (s : ByteArray) : Prop where
  c : ∀ j, j < n → w.cell? ⟨g, j, none⟩ = some (.int .u8 ((if j < k then lettN a b (bt s j) else bt s j : Nat) : Int))
  f : ∀ j, j < n → w.frozen? ⟨g, j, none⟩ = false
theorem TrnAt.step {w : World} {g n k a b : Nat} {s : ByteArray} (h : TrnAt w g n k a b s) (hk : k < n) : TrnAt (w.setCell ⟨g, k, none⟩ (.int .u8 (lettN a b (bt s k) : Int))) g n (k + 1) a b s := by
  refine ⟨fun j hj => ?_, fun j hj => by rw [World.frozen?_setCell]; exact h.f j hj⟩
  by_cases e : j = k
  · subst e
    rw [if_pos (by omega)]
    exact cell_same (h.c j hj)
  · have := cell_at (o := k) (u := .int .u8 (lettN a b (bt s k) : Int)) (h.c j hj) (fun q => e q.symm)
    rw [this]
    by_cases e2 : j < k
    · rw [if_pos e2, if_pos (by omega)]
    · rw [if_neg e2, if_neg (by omega)]
theorem trn_new (w : World) (s : ByteArray) (cap a b : Nat) : TrnAt (w.alloc (.cells (bytesRow s cap) 5 ((bytesRow s cap).size, (bytesRow s cap).size + 1))) w.heap.size s.size 0 a b s := by
  refine ⟨fun j hj => ?_, fun j hj => ?_⟩
  · rw [World.cell?_alloc_mark, bytesRow_at s cap j hj, if_neg (by omega), bt_in hj]
    rfl
  · rw [World.frozen?_alloc_mark]
    have : s.size ≤ (bytesRow s cap).size := by
      unfold bytesRow
      rw [Array.size_append, Array.size_map]
      exact Nat.le_add_right _ _
    simp
    omega
set_option maxRecDepth 8000 in
set_option maxHeartbeats 1000000 in
theorem turned_fn (w : World) (s : ByteArray) (a b : Nat) (hs : s.size ≤ 9223372036854775807) (ha : a < 26) (hb : b < 26) :
    Calls Tryd.prog 13 #[.string s, .int .i64 (a : Int), .int .i64 (b : Int)] w fun e w' => e = .returned (.string ⟨(turnT a b s).toArray⟩) ∧ Fr NoB w w' := by
  have hcv := run_bytes_of_string (P := Tryd.prog) w 9 38 5 s Tryd.underlying9 Tryd.underlying38 Tryd.underlying5
  generalize hcap : grownCap w s.size 0 5 = cap at hcv
  have HN : Hid (TrnAt (w.alloc (.cells (bytesRow s cap) 5 ((bytesRow s cap).size, (bytesRow s cap).size + 1))).drew w.heap.size s.size 0 a b s) := trn_new w.drew s cap a b
  have HF : Hid (Fr NoB w (w.alloc (.cells (bytesRow s cap) 5 ((bytesRow s cap).size, (bytesRow s cap).size + 1))).drew) := ((Fr.refl NoB w).alloc _).drew
  have HB : Hid (∀ W (c : Nat), c < 256 → Calls Tryd.prog 22 #[.int .u8 (c : Int), .int .i64 (a : Int), .int .i64 (b : Int)] W fun e w' => e = .returned (.int .u8 (lettN a b c : Int)) ∧ w' = W) := fun W c hc => tbyte_fn W c a b hc ha hb
  clear hcap
  go_enter Tryd.func13, Tryd.ntmps13
  go_upto_region 3 with fail
  generalize (w.alloc _).drew = W0 at *
  have hg0 : w.heap.size ≤ w.heap.size := Nat.le_refl _
  generalize hgg : w.heap.size = g at *
  clear hcv
  go_loopg [8] s.size (fun q t wr => ∃ k : Nat, q + k = s.size ∧ t = .int .i64 k ∧ TrnAt wr g s.size k a b s ∧ Fr NoB w wr)
  case atStart => exact ⟨0, rfl, rfl, HN.out, HF.out⟩
  case round =>
    obtain ⟨k, hk, rfl, hT, hF⟩ := hrel
    have HT : Hid _ := hT
    have HFr : Hid _ := hF
    by_cases hlt : k < s.size
    · have cc := hT.c k hlt
      rw [if_neg (by omega)] at cc
      have ff := hT.f k hlt
      have hc := bt_lt s k
      have HB2 : Hid _ := fun W => HB.out W (bt s k) hc
      have HS : Hid (TrnAt (wr.setCell ⟨g, k, none⟩ (.int .u8 (lettN a b (bt s k) : Int))) g s.size (k + 1) a b s) := hT.step hlt
      generalize bt s k = c at *
      clear hT hF HB
      go_wp2_with (go_at_call 22; refine (HB2.out _).mono ?_; rintro e w6 ⟨rfl, hw⟩; have hw2 := hw.symm; clear hw; subst hw2)
      go_roundg (s.size - (k + 1))
      case measure => omega
      case rel => exact ⟨k + 1, by omega, by go_num, HS.out, HFr.out.setCell (p := ⟨g, k, none⟩) (fun (q : g < w.heap.size) => absurd q (by omega)) _⟩
    · have hks : k = s.size := by omega
      subst hks
      have hcb := run_convert_bytes_back (P := Tryd.prog) wr 38 9 5 ⟨g, 0, none⟩ cap (turnT a b s) Tryd.underlying38 Tryd.underlying5 Tryd.underlying9 (fun j hj => by
        have hj2 : j < s.size := by rw [turnT_len] at hj; exact hj
        have := hT.c j hj2
        rw [if_pos hj2] at this
        rw [turnT_at hj]
        rw [show (⟨g, 0, none⟩ : Addr).add j = ⟨g, j, none⟩ by simp [Addr.add]; exact fun e => e.symm]
        exact this)
      rw [turnT_len] at hcb
      clear hT hF
      generalize hR : (⟨(turnT a b s).toArray⟩ : ByteArray) = R at hcb
      have HRr : Hid _ := hR
      clear hR
      go_wp2
      go_ret
      exact ⟨by rw [HRr.out] <;> rfl, HFr.out⟩
end Go.Proofs.YthcjcjfgdgnljaaDoor

namespace Go.Proofs.YthcjcjfgdgnljaaDoor
open Go.RowKit
set_option linter.unusedVariables false

set_option maxRecDepth 8000 in
set_option maxHeartbeats 4000000 in
theorem turned_walk (w : World) (s t : ByteArray) (nu bo wo fu ec pc ep ee : Int) (a b z n : Nat) (X Y : ByteArray) (x0 y0 y2 y3 : Int) (hz : z < 4096) (hn : n ≤ 5000)
    (HR : ∀ W, Fr NoB w W → Calls Tryd.prog 9 #[] W fun e w' => e = .returned (.bool true) ∧ Fr NoB W w')
    (HP1 : ∀ W, Calls Tryd.prog 10 #[.int .i64 wo, .int .i64 4096] W fun e w' => e = .returned (.int .i64 (z : Int)) ∧ w' = W)
    (HP2 : ∀ W, Calls Tryd.prog 10 #[.int .i64 fu, .int .i64 5001] W fun e w' => e = .returned (.int .i64 (n : Int)) ∧ w' = W)
    (HP3 : ∀ W, Calls Tryd.prog 10 #[.int .i64 nu, .int .i64 26] W fun e w' => e = .returned (.int .i64 (a : Int)) ∧ w' = W)
    (HP4 : ∀ W, Calls Tryd.prog 10 #[.int .i64 bo, .int .i64 26] W fun e w' => e = .returned (.int .i64 (b : Int)) ∧ w' = W)
    (HT : ∀ W, Calls Tryd.prog 13 #[.string s, .int .i64 (a : Int), .int .i64 (b : Int)] W fun e w' => e = .returned (.string t) ∧ Fr NoB W w')
    (HC : ∀ W, Calls Tryd.prog 11 #[.string s] W fun e w' => e = .returned (.tuple #[.int .i64 ec, .int .i64 pc]) ∧ Fr NoB W w')
    (HD : ∀ W, Calls Tryd.prog 11 #[.string t] W fun e w' => e = .returned (.tuple #[.int .i64 ec, .int .i64 pc]) ∧ Fr NoB W w')
    (HX : ∀ W, Fr NoB w W → Calls Tryd.prog 12 #[.string s, .int .i64 (n : Int)] W fun e w' => e = .returned (.tuple #[.agg #[.int .i64 x0, .string X, .int .i64 0, .int .i64 0], .int .i64 ep]) ∧ Fr NoB W w')
    (HX2 : ∀ W, Fr NoB w W → Calls Tryd.prog 12 #[.string t, .int .i64 (n : Int)] W fun e w' => e = .returned (.tuple #[.agg #[.int .i64 x0, .string X, .int .i64 0, .int .i64 0], .int .i64 ep]) ∧ Fr NoB W w')
    (HY : ∀ W, Fr NoB w W → Calls Tryd.prog 14 #[.string s, .int .i64 (1 + (z : Int)), .int .i64 (n : Int)] W fun e w' => e = .returned (.tuple #[.agg #[.int .i64 y0, .string Y, .int .i64 y2, .int .i64 y3], .int .i64 ee]) ∧ Fr NoB W w')
    (HY2 : ∀ W, Fr NoB w W → Calls Tryd.prog 14 #[.string t, .int .i64 (1 + (z : Int)), .int .i64 (n : Int)] W fun e w' => e = .returned (.tuple #[.agg #[.int .i64 y0, .string Y, .int .i64 y2, .int .i64 y3], .int .i64 ee]) ∧ Fr NoB W w') :
    Calls Tryd.prog 4 #[.string s, .int .i64 nu, .int .i64 bo, .int .i64 wo, .int .i64 fu] w fun e w' => e = .returned (.bool true) ∧ Fr NoB w w' := by
  have G1 : Hid _ := HR
  have G2 : Hid _ := HP1
  have G3 : Hid _ := HP2
  have G4 : Hid _ := HP3
  have G5 : Hid _ := HP4
  have G6 : Hid _ := HT
  have G7 : Hid _ := HC
  have G8 : Hid _ := HD
  have G9 : Hid _ := HX
  have G10 : Hid _ := HX2
  have G11 : Hid _ := HY
  have G12 : Hid _ := HY2
  clear HR HP1 HP2 HP3 HP4 HT HC HD HX HX2 HY HY2
  go_enter Tryd.func4, Tryd.ntmps4
  go_upto_region 4 with (go_at_call 9; refine (G1.out _ (Fr.refl _ _)).mono ?_; rintro e w1 ⟨rfl, hF1⟩)
  have HF1 : Hid _ := hF1
  clear hF1
  go_upto_region 5 with (go_at_call 10; refine (G2.out _).mono ?_; rintro e w6 ⟨rfl, hw⟩; have hw2 := hw.symm; clear hw; subst hw2)
  go_upto_region 6 with (go_at_call 10; refine (G3.out _).mono ?_; rintro e w6 ⟨rfl, hw⟩; have hw2 := hw.symm; clear hw; subst hw2)
  go_upto_region 7 with (first | ((fail_if_success (have := HM1.out)); go_at_call 10; refine (G4.out _).mono ?_; rintro e w6 ⟨rfl, hw⟩; have hw2 := hw.symm; clear hw; subst hw2; have HM1 : Hid True := trivial) | (go_at_call 10; refine (G5.out _).mono ?_; rintro e w6 ⟨rfl, hw⟩; have hw2 := hw.symm; clear hw; subst hw2) | (go_at_call 13; refine (G6.out _).mono ?_; rintro e w2 ⟨rfl, hF2⟩))
  have HF2 : Hid (Fr NoB w w2) := HF1.out.trans hF2
  clear hF2 HF1 G1 G2 G3 G4 G5 G6
  go_upto_region 8 with (go_at_call 11; refine (G7.out _).mono ?_; rintro e w3 ⟨rfl, hF3⟩)
  go_upto_region 9 with (go_at_call 11; refine (G8.out _).mono ?_; rintro e w4 ⟨rfl, hF4⟩)
  have HF4 : Hid (Fr NoB w w4) := (HF2.out.trans hF3).trans hF4
  clear hF3 hF4 HF2 G7 G8
  go_upto_region 10 with (go_at_call 12; refine (G9.out _ HF4.out).mono ?_; rintro e w5 ⟨rfl, hF5⟩)
  have HO1 : Hid _ := OutAt.new w5 28 (.int .i64 x0) (.string X) (.int .i64 0) (.int .i64 0)
  have HF5 : Hid (Fr NoB w (w5.alloc (.cells #[.int .i64 x0, .string X, .int .i64 0, .int .i64 0] 28))) := (HF4.out.trans hF5).alloc _
  clear hF5
  generalize (w5.alloc _) = W5 at *
  generalize w5.heap.size = o1 at *
  go_upto_region 11 with (go_at_call 12; refine (G10.out _ HF5.out).mono ?_; rintro e w6 ⟨rfl, hF6⟩)
  have HO2 : Hid _ := OutAt.new w6 28 (.int .i64 x0) (.string X) (.int .i64 0) (.int .i64 0)
  have hA6 : Fr NoB w6 (w6.alloc (.cells #[.int .i64 x0, .string X, .int .i64 0, .int .i64 0] 28)) := (Fr.refl _ _).alloc _
  have HO1b : Hid _ := (HO1.out.fr hF6 id).fr hA6 id
  have HF6 : Hid _ := (HF5.out.trans hF6).trans hA6
  clear hF6 hA6 HO1
  generalize (w6.alloc _) = W6 at *
  generalize w6.heap.size = o2 at *
  go_upto_region 12 with (go_at_call 14; refine (G11.out _ HF6.out).mono ?_; rintro e w7 ⟨rfl, hF7⟩)
  have HO3 : Hid _ := OutAt.new w7 28 (.int .i64 y0) (.string Y) (.int .i64 y2) (.int .i64 y3)
  have hA7 : Fr NoB w7 (w7.alloc (.cells #[.int .i64 y0, .string Y, .int .i64 y2, .int .i64 y3] 28)) := (Fr.refl _ _).alloc _
  have HO1c : Hid _ := (HO1b.out.fr hF7 id).fr hA7 id
  have HO2c : Hid _ := (HO2.out.fr hF7 id).fr hA7 id
  have HF7 : Hid _ := (HF6.out.trans hF7).trans hA7
  clear hF7 hA7 HO1b HO2
  generalize (w7.alloc _) = W7 at *
  generalize w7.heap.size = o3 at *
  go_upto_region 13 with (go_at_call 14; refine (G12.out _ HF7.out).mono ?_; rintro e w8 ⟨rfl, hF8⟩)
  have HO4 : Hid _ := OutAt.new w8 28 (.int .i64 y0) (.string Y) (.int .i64 y2) (.int .i64 y3)
  have hA8 : Fr NoB w8 (w8.alloc (.cells #[.int .i64 y0, .string Y, .int .i64 y2, .int .i64 y3] 28)) := (Fr.refl _ _).alloc _
  have HO1d : Hid _ := (HO1c.out.fr hF8 id).fr hA8 id
  have HO2d : Hid _ := (HO2c.out.fr hF8 id).fr hA8 id
  have HO3d : Hid _ := (HO3.out.fr hF8 id).fr hA8 id
  have HF8 : Hid _ := (HF7.out.trans hF8).trans hA8
  clear hF8 hA8 HO1c HO2c HO3
  generalize (w8.alloc _) = W8 at *
  generalize w8.heap.size = o4 at *
  obtain ⟨a0, a1, a2, a3, _⟩ := HO1d.out
  obtain ⟨b0, b1, b2, b3, _⟩ := HO2d.out
  obtain ⟨c0, c1, c2, c3, _⟩ := HO3d.out
  obtain ⟨d0, d1, d2, d3, _⟩ := HO4.out
  go_wp2
  go_ret
  exact ⟨by simp, HF8.out⟩
/-- the law -/
theorem turned_any (w : World) (s : ByteArray) (nu bo wo fu : Int) (hs : s.size ≤ 9223372036854775807) (g1 : -9223372036854775808 ≤ nu ∧ nu ≤ 9223372036854775807) (g2 : -9223372036854775808 ≤ bo ∧ bo ≤ 9223372036854775807) (g3 : -9223372036854775808 ≤ wo ∧ wo ≤ 9223372036854775807) (g4 : -9223372036854775808 ≤ fu ∧ fu ≤ 9223372036854775807) (htab : ∀ W, Fr NoB w W → TabOk W) :
    Calls Tryd.prog 4 #[.string s, .int .i64 nu, .int .i64 bo, .int .i64 wo, .int .i64 fu] w fun e w' => e = .returned (.bool true) ∧ Fr NoB w w' := by
  have ha : pickZ nu 26 < 26 := pickZ_lt nu (by omega)
  have hb : pickZ bo 26 < 26 := pickZ_lt bo (by omega)
  have hz : pickZ wo 4096 < 4096 := pickZ_lt wo (by omega)
  have hn : pickZ fu 5001 < 5001 := pickZ_lt fu (by omega)
  have P1 : ∀ W, Calls Tryd.prog 10 #[.int .i64 wo, .int .i64 4096] W fun e w' => e = .returned (.int .i64 (pickZ wo 4096 : Int)) ∧ w' = W := fun W => kpick_fn W wo 4096 (by omega) (by omega) g3.1 g3.2
  have P2 : ∀ W, Calls Tryd.prog 10 #[.int .i64 fu, .int .i64 5001] W fun e w' => e = .returned (.int .i64 (pickZ fu 5001 : Int)) ∧ w' = W := fun W => kpick_fn W fu 5001 (by omega) (by omega) g4.1 g4.2
  have P3 : ∀ W, Calls Tryd.prog 10 #[.int .i64 nu, .int .i64 26] W fun e w' => e = .returned (.int .i64 (pickZ nu 26 : Int)) ∧ w' = W := fun W => kpick_fn W nu 26 (by omega) (by omega) g1.1 g1.2
  have P4 : ∀ W, Calls Tryd.prog 10 #[.int .i64 bo, .int .i64 26] W fun e w' => e = .returned (.int .i64 (pickZ bo 26 : Int)) ∧ w' = W := fun W => kpick_fn W bo 26 (by omega) (by omega) g2.1 g2.2
  generalize pickZ nu 26 = a at *
  generalize pickZ bo 26 = b at *
  generalize pickZ wo 4096 = z at *
  generalize pickZ fu 5001 = n at *
  have hT := turnT_trn a b s
  have PT : ∀ W, Calls Tryd.prog 13 #[.string s, .int .i64 (a : Int), .int .i64 (b : Int)] W fun e w' => e = .returned (.string ⟨(turnT a b s).toArray⟩) ∧ Fr NoB W w' := fun W => turned_fn W s a b hs ha hb
  generalize (⟨(turnT a b s).toArray⟩ : ByteArray) = t at *
  have hst : t.size ≤ 9223372036854775807 := by rw [hT.sz]; exact hs
  -- Play
  have hPl : ∃ (x0 : Int) (X : ByteArray) (ep : Int), (∀ W, Fr NoB w W → Calls Tryd.prog 12 #[.string s, .int .i64 (n : Int)] W fun e w' => e = .returned (.tuple #[.agg #[.int .i64 x0, .string X, .int .i64 0, .int .i64 0], .int .i64 ep]) ∧ Fr NoB W w') ∧
      (∀ W, Fr NoB w W → Calls Tryd.prog 12 #[.string t, .int .i64 (n : Int)] W fun e w' => e = .returned (.tuple #[.agg #[.int .i64 x0, .string X, .int .i64 0, .int .i64 0], .int .i64 ep]) ∧ Fr NoB W w') := by
    by_cases hc : (checkN s).1 ≠ 0
    · refine ⟨0, ⟨#[]⟩, ((checkN s).1 : Int), fun W _ => dplay_bad W s n hs hc, fun W _ => ?_⟩
      have := dplay_bad W t n hst (by rw [hT.check]; exact hc)
      rw [hT.check] at this
      exact this
    · have hc0 : checkN s = (0, 0) := check_zero (by omega)
      obtain ⟨h4, hpr, _⟩ := check_ok hc0
      obtain ⟨σ, bb, hE⟩ := Ex.total cP n (pgN s (s.size + 1) 0 s.size) (st0 n) (Nat.le_refl _)
      obtain ⟨τ, hE2, hRS⟩ := hT.ends (alP a b) hpr ⟨bb, hE⟩
      refine ⟨_, _, _, fun W hW => dplay_ends W s n hc0 (by omega) σ ⟨bb, hE⟩ (fun W2 hW2 => htab W2 (hW.trans hW2)), fun W hW => ?_⟩
      have := dplay_ends W t n (by rw [hT.check]; exact hc0) (by omega) τ hE2 (fun W2 hW2 => htab W2 (hW.trans hW2))
      unfold outP at this
      rw [hRS.status, hRS.tr] at this
      exact this
  -- Exec
  have hEx : ∃ (y0 y2 y3 : Int) (Y : ByteArray) (ee : Int), (∀ W, Fr NoB w W → Calls Tryd.prog 14 #[.string s, .int .i64 (1 + (z : Int)), .int .i64 (n : Int)] W fun e w' => e = .returned (.tuple #[.agg #[.int .i64 y0, .string Y, .int .i64 y2, .int .i64 y3], .int .i64 ee]) ∧ Fr NoB W w') ∧
      (∀ W, Fr NoB w W → Calls Tryd.prog 14 #[.string t, .int .i64 (1 + (z : Int)), .int .i64 (n : Int)] W fun e w' => e = .returned (.tuple #[.agg #[.int .i64 y0, .string Y, .int .i64 y2, .int .i64 y3], .int .i64 ee]) ∧ Fr NoB W w') := by
    by_cases hl : 20000 < s.size
    · exact ⟨0, 0, 0, ⟨#[]⟩, 1, fun W _ => dexec_long W s _ n hl hs, fun W _ => dexec_long W t _ n (by rw [hT.sz]; exact hl) hst⟩
    · have h2 : s.size ≤ 20000 := by omega
      have h2t : t.size ≤ 20000 := by rw [hT.sz]; exact h2
      by_cases hc : (run s [(83, true)] 0 0).1 ≠ 0
      · refine ⟨0, 0, 0, ⟨#[]⟩, ((run s [(83, true)] 0 0).1 : Int), fun W _ => dexec_bad W s _ n h2 hc, fun W _ => ?_⟩
        have := dexec_bad W t (1 + (z : Int)) n h2t (by rw [hT.run]; exact hc)
        rw [hT.run] at this
        exact this
      · have hc0 : run s [(83, true)] 0 0 = (0, 0) := run_zero (by omega)
        obtain ⟨σ, bb, hE⟩ := Ex.total (cE true (1 + z)) n (pgN s (s.size + 1) 0 s.size) (st0 n) (Nat.le_refl _)
        obtain ⟨τ, hE2, hRS⟩ := hT.ends (alE a b true (1 + z)) (prog_of_ok hc0) ⟨bb, hE⟩
        have e1 : (1 + (z : Int)) = ((1 + z : Nat) : Int) := by omega
        rw [e1]
        refine ⟨_, _, _, _, _, fun W hW => dexec_ends W s (1 + z) n h2 hc0 (by omega) (by omega) (by omega) σ ⟨bb, hE⟩ (fun W2 hW2 => htab W2 (hW.trans hW2)), fun W hW => ?_⟩
        have := dexec_ends W t (1 + z) n h2t (by rw [hT.run]; exact hc0) (by omega) (by omega) (by omega) τ hE2 (fun W2 hW2 => htab W2 (hW.trans hW2))
        unfold outE at this
        rw [hRS.status, hRS.tr, hRS.used, hRS.peak] at this
        exact this
  obtain ⟨x0, X, ep, q1, q2⟩ := hPl
  obtain ⟨y0, y2, y3, Y, ee, q3, q4⟩ := hEx
  refine turned_walk w s t nu bo wo fu ((checkN s).1 : Int) (checkN s).2 ep ee a b z n X Y x0 y0 y2 y3 hz (by omega) (fun W hW => runs_fn W (fun W2 hW2 => htab W2 (hW.trans hW2))) P1 P2 P3 P4 PT (fun W => devCheck_fn W s hs (partIs2 s)) (fun W => ?_) q1 q2 q3 q4
  have := devCheck_fn W t hst (partIs2 t)
  rw [hT.check] at this
  exact this
end Go.Proofs.YthcjcjfgdgnljaaDoor
