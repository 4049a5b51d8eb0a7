/-
  ExeA: one behind the other.
-/
import Derived.Test.YtcmnejcojphijaaGreatDoorP11MacA
namespace Go.Proofs.YtcmnejcojphijaaGreatDoor
open Go.RowKit
set_option linter.unusedVariables false

def CalcS (rp : Nat) (s : ByteArray) (b : Bool) (x : Rn) (w : World) (e : Ending) (w' : World) : Prop := e = .returned (.bool b) ∧ RunAt w' rp s x ∧ Fr (OneB rp) w w'


section
variable (w : World) (rp : Nat) (s : ByteArray) (x : Rn)
set_option maxHeartbeats 1000000 in
theorem ecalc_set (h : RunAt w rp s x) (i j k : Nat) (hs : s.size ≤ 100000) (hk : k < 26) (ho : Opnd s i j) (hj : j < s.size) (h59 : s[j].toNat = 59) :
    Calls Tryz.prog 121 #[.pointer (some ⟨rp, 0, none⟩), .int .i64 (k : Int), .int .i64 (i : Int)] w fun e w' => CalcS rp s true { x with num := updI x.num k (valN s x.num i j) } w e w' := by
  have cs := h.cs
  have cn := h.cn k hk
  have fz := h.fz (1 + k)
  have hrl := h.lt
  have hd : digitN (bt s j) = false := by rw [bt_in hj, h59]; rfl
  have HP : Hid (RunAt w rp s x) := h
  have HV : Hid (Calls Tryz.prog 40 #[.pointer (some ⟨rp, 0, none⟩), .int .i64 (i : Int)] w fun e w' => e = .returned (.int .i64 (valN s x.num i j)) ∧ Fr NoB w w') := value_fn w rp s x h i j ho hj hs hd
  have HO : Hid (∀ W, Calls Tryz.prog 79 #[.string s, .int .i64 (i : Int)] W fun e w' => e = .returned (.int .i64 (j : Int)) ∧ w' = W) := fun W => bop_fn W s i j ho hj hs hd
  generalize valN s x.num i j = v at *
  clear h ho hd
  go_enter Tryz.func121, Tryz.ntmps121
  go_wp2_with (first | (go_at_call 40; refine HV.out.mono ?_; rintro e w1 ⟨rfl, hF1⟩; have HP1 : Hid _ := HP.out.no hF1; have cs1 := hF1.cell_some cs id; have cn1 := hF1.cell_some cn id; have fz1 : w1.frozen? ⟨rp, 1 + k, none⟩ = false := (hF1.frozen (p := ⟨rp, 1 + k, none⟩) hrl id).trans fz) | (go_at_call 79; refine (HO.out _).mono ?_; rintro e w6 ⟨rfl, hw⟩; have hw2 := hw.symm; clear hw; subst hw2))
  go_ret
  have hF := (Fr.refl (OneB rp) w1).setCell (p := ⟨rp, 1 + k, none⟩) (fun _ => rfl) (.int .i64 v)
  exact ⟨rfl, (HP1.out.setNum hk v), hF1.of_no.trans (hF)⟩
set_option maxHeartbeats 1000000 in
theorem ecalc_add (h : RunAt w rp s x) (i j l k a b : Nat) (hs : s.size ≤ 100000) (hk : k < 26) (ho : Opnd s i j) (hj : j < s.size) (hc : s[j].toNat = 43) (ho2 : Opnd s (j + 1) l) (hj2 : l < s.size) (hd2 : digitN (bt s l) = false) (hva : valN s x.num i j = (a : Int)) (hvb : valN s x.num (j + 1) l = (b : Int)) (ha : a < 1000) (hb : b < 1000) :
    Calls Tryz.prog 121 #[.pointer (some ⟨rp, 0, none⟩), .int .i64 (k : Int), .int .i64 (i : Int)] w fun e w' => CalcS rp s true { x with num := updI x.num k (((a : Int) + (b : Int)).tmod 1000) } w e w' := by
  have cs := h.cs
  have cn := h.cn k hk
  have fz := h.fz (1 + k)
  have hrl := h.lt
  have hd : digitN (bt s j) = false := by rw [bt_in hj, hc]; rfl
  have HP : Hid (RunAt w rp s x) := h
  have HV : Hid (Calls Tryz.prog 40 #[.pointer (some ⟨rp, 0, none⟩), .int .i64 (i : Int)] w fun e w' => e = .returned (.int .i64 (a : Int)) ∧ Fr NoB w w') := by
    have := value_fn w rp s x h i j ho hj hs hd
    rwa [hva] at this
  have HO : Hid (∀ W, Calls Tryz.prog 79 #[.string s, .int .i64 (i : Int)] W fun e w' => e = .returned (.int .i64 (j : Int)) ∧ w' = W) := fun W => bop_fn W s i j ho hj hs hd
  have HU : Hid (∀ W, RunAt W rp s x → Calls Tryz.prog 40 #[.pointer (some ⟨rp, 0, none⟩), .int .i64 ((j : Int) + 1)] W fun e w' => e = .returned (.int .i64 (b : Int)) ∧ Fr NoB W w') := fun W hW => by
    have := value_fn W rp s x hW (j + 1) l ho2 hj2 hs hd2
    rwa [hvb] at this
  clear h ho hd hva hvb ho2 hd2
  go_enter Tryz.func121, Tryz.ntmps121
  go_wp2_with (first | ((fail_if_success (have := HP1.out)); go_at_call 40; refine HV.out.mono ?_; rintro e w1 ⟨rfl, hF1⟩; have HP1 : Hid _ := HP.out.no hF1; have cs1 := hF1.cell_some cs id) | (go_at_call 79; refine (HO.out _).mono ?_; rintro e w6 ⟨rfl, hw⟩; have hw2 := hw.symm; clear hw; subst hw2) | (go_at_call 40; refine (HU.out _ HP1.out).mono ?_; rintro e w2 ⟨rfl, hF2⟩; have HP2 : Hid _ := HP1.out.no hF2; have cs2 := hF2.cell_some cs1 id; have cn2 := (hF1.trans hF2).cell_some cn id; have fz2 : w2.frozen? ⟨rp, 1 + k, none⟩ = false := ((hF1.trans hF2).frozen (p := ⟨rp, 1 + k, none⟩) hrl id).trans fz))
  go_ret
  have hF := (Fr.refl (OneB rp) w2).setCell (p := ⟨rp, 1 + k, none⟩) (fun _ => rfl) (.int .i64 (((a : Int) + (b : Int)).tmod 1000))
  exact ⟨rfl, (HP2.out.setNum hk _), (hF1.trans hF2).of_no.trans (hF)⟩
set_option maxHeartbeats 1000000 in
theorem ecalc_sub (h : RunAt w rp s x) (i j l k a b : Nat) (hs : s.size ≤ 100000) (hk : k < 26) (ho : Opnd s i j) (hj : j < s.size) (hc : s[j].toNat = 45) (ho2 : Opnd s (j + 1) l) (hj2 : l < s.size) (hd2 : digitN (bt s l) = false) (hva : valN s x.num i j = (a : Int)) (hvb : valN s x.num (j + 1) l = (b : Int)) (ha : a < 1000) (hb : b < 1000) :
    Calls Tryz.prog 121 #[.pointer (some ⟨rp, 0, none⟩), .int .i64 (k : Int), .int .i64 (i : Int)] w fun e w' => CalcS rp s true { x with num := updI x.num k (((a : Int) + 1000 - (b : Int)) % 1000) } w e w' := by
  have cs := h.cs
  have cn := h.cn k hk
  have fz := h.fz (1 + k)
  have hrl := h.lt
  have hd : digitN (bt s j) = false := by rw [bt_in hj, hc]; rfl
  have HP : Hid (RunAt w rp s x) := h
  have HV : Hid (Calls Tryz.prog 40 #[.pointer (some ⟨rp, 0, none⟩), .int .i64 (i : Int)] w fun e w' => e = .returned (.int .i64 (a : Int)) ∧ Fr NoB w w') := by
    have := value_fn w rp s x h i j ho hj hs hd
    rwa [hva] at this
  have HO : Hid (∀ W, Calls Tryz.prog 79 #[.string s, .int .i64 (i : Int)] W fun e w' => e = .returned (.int .i64 (j : Int)) ∧ w' = W) := fun W => bop_fn W s i j ho hj hs hd
  have HU : Hid (∀ W, RunAt W rp s x → Calls Tryz.prog 40 #[.pointer (some ⟨rp, 0, none⟩), .int .i64 ((j : Int) + 1)] W fun e w' => e = .returned (.int .i64 (b : Int)) ∧ Fr NoB W w') := fun W hW => by
    have := value_fn W rp s x hW (j + 1) l ho2 hj2 hs hd2
    rwa [hvb] at this
  clear h ho hd hva hvb ho2 hd2
  go_enter Tryz.func121, Tryz.ntmps121
  go_wp2_with (first | ((fail_if_success (have := HP1.out)); go_at_call 40; refine HV.out.mono ?_; rintro e w1 ⟨rfl, hF1⟩; have HP1 : Hid _ := HP.out.no hF1; have cs1 := hF1.cell_some cs id) | (go_at_call 79; refine (HO.out _).mono ?_; rintro e w6 ⟨rfl, hw⟩; have hw2 := hw.symm; clear hw; subst hw2) | (go_at_call 40; refine (HU.out _ HP1.out).mono ?_; rintro e w2 ⟨rfl, hF2⟩; have HP2 : Hid _ := HP1.out.no hF2; have cs2 := hF2.cell_some cs1 id; have cn2 := (hF1.trans hF2).cell_some cn id; have fz2 : w2.frozen? ⟨rp, 1 + k, none⟩ = false := ((hF1.trans hF2).frozen (p := ⟨rp, 1 + k, none⟩) hrl id).trans fz))
  go_ret
  have hF := (Fr.refl (OneB rp) w2).setCell (p := ⟨rp, 1 + k, none⟩) (fun _ => rfl) (.int .i64 (((a : Int) + 1000 - (b : Int)) % 1000))
  exact ⟨rfl, (HP2.out.setNum hk _), (hF1.trans hF2).of_no.trans (hF)⟩
set_option maxHeartbeats 1000000 in
theorem ecalc_mul (h : RunAt w rp s x) (i j l k a b : Nat) (hs : s.size ≤ 100000) (hk : k < 26) (ho : Opnd s i j) (hj : j < s.size) (hc : s[j].toNat = 42) (ho2 : Opnd s (j + 1) l) (hj2 : l < s.size) (hd2 : digitN (bt s l) = false) (hva : valN s x.num i j = (a : Int)) (hvb : valN s x.num (j + 1) l = (b : Int)) (ha : a < 1000) (hb : b < 1000) :
    Calls Tryz.prog 121 #[.pointer (some ⟨rp, 0, none⟩), .int .i64 (k : Int), .int .i64 (i : Int)] w fun e w' => CalcS rp s true { x with num := updI x.num k (((a : Int) * (b : Int)).tmod 1000) } w e w' := by
  have cs := h.cs
  have cn := h.cn k hk
  have fz := h.fz (1 + k)
  have hrl := h.lt
  have hd : digitN (bt s j) = false := by rw [bt_in hj, hc]; rfl
  have HP : Hid (RunAt w rp s x) := h
  have HV : Hid (Calls Tryz.prog 40 #[.pointer (some ⟨rp, 0, none⟩), .int .i64 (i : Int)] w fun e w' => e = .returned (.int .i64 (a : Int)) ∧ Fr NoB w w') := by
    have := value_fn w rp s x h i j ho hj hs hd
    rwa [hva] at this
  have HO : Hid (∀ W, Calls Tryz.prog 79 #[.string s, .int .i64 (i : Int)] W fun e w' => e = .returned (.int .i64 (j : Int)) ∧ w' = W) := fun W => bop_fn W s i j ho hj hs hd
  have HU : Hid (∀ W, RunAt W rp s x → Calls Tryz.prog 40 #[.pointer (some ⟨rp, 0, none⟩), .int .i64 ((j : Int) + 1)] W fun e w' => e = .returned (.int .i64 (b : Int)) ∧ Fr NoB W w') := fun W hW => by
    have := value_fn W rp s x hW (j + 1) l ho2 hj2 hs hd2
    rwa [hvb] at this
  have hm : wrap64 ((a : Int) * (b : Int)) = (a : Int) * (b : Int) := by
    have h1 : a * b ≤ 999 * 999 := Nat.mul_le_mul (by omega) (by omega)
    have h2 : ((a * b : Nat) : Int) = (a : Int) * (b : Int) := Int.natCast_mul a b
    rw [← h2]
    unfold wrap64; omega
  clear h ho hd hva hvb ho2 hd2
  go_enter Tryz.func121, Tryz.ntmps121
  go_wp2_with (first | ((fail_if_success (have := HP1.out)); go_at_call 40; refine HV.out.mono ?_; rintro e w1 ⟨rfl, hF1⟩; have HP1 : Hid _ := HP.out.no hF1; have cs1 := hF1.cell_some cs id) | (go_at_call 79; refine (HO.out _).mono ?_; rintro e w6 ⟨rfl, hw⟩; have hw2 := hw.symm; clear hw; subst hw2) | (go_at_call 40; refine (HU.out _ HP1.out).mono ?_; rintro e w2 ⟨rfl, hF2⟩; have HP2 : Hid _ := HP1.out.no hF2; have cs2 := hF2.cell_some cs1 id; have cn2 := (hF1.trans hF2).cell_some cn id; have fz2 : w2.frozen? ⟨rp, 1 + k, none⟩ = false := ((hF1.trans hF2).frozen (p := ⟨rp, 1 + k, none⟩) hrl id).trans fz))
  rw [hm]
  go_ret
  have hF := (Fr.refl (OneB rp) w2).setCell (p := ⟨rp, 1 + k, none⟩) (fun _ => rfl) (.int .i64 (((a : Int) * (b : Int)).tmod 1000))
  exact ⟨rfl, (HP2.out.setNum hk _), (hF1.trans hF2).of_no.trans (hF)⟩
set_option maxHeartbeats 1000000 in
theorem ecalc_ge (h : RunAt w rp s x) (i j l k a b : Nat) (hs : s.size ≤ 100000) (hk : k < 26) (ho : Opnd s i j) (hj : j < s.size) (hc : s[j].toNat = 60) (ho2 : Opnd s (j + 1) l) (hj2 : l < s.size) (hd2 : digitN (bt s l) = false) (hva : valN s x.num i j = (a : Int)) (hvb : valN s x.num (j + 1) l = (b : Int)) (ha : a < 1000) (hb : b < 1000) (hab : b ≤ a) :
    Calls Tryz.prog 121 #[.pointer (some ⟨rp, 0, none⟩), .int .i64 (k : Int), .int .i64 (i : Int)] w fun e w' => CalcS rp s true { x with num := updI x.num k (0) } w e w' := by
  have cs := h.cs
  have cn := h.cn k hk
  have fz := h.fz (1 + k)
  have hrl := h.lt
  have hd : digitN (bt s j) = false := by rw [bt_in hj, hc]; rfl
  have HP : Hid (RunAt w rp s x) := h
  have HV : Hid (Calls Tryz.prog 40 #[.pointer (some ⟨rp, 0, none⟩), .int .i64 (i : Int)] w fun e w' => e = .returned (.int .i64 (a : Int)) ∧ Fr NoB w w') := by
    have := value_fn w rp s x h i j ho hj hs hd
    rwa [hva] at this
  have HO : Hid (∀ W, Calls Tryz.prog 79 #[.string s, .int .i64 (i : Int)] W fun e w' => e = .returned (.int .i64 (j : Int)) ∧ w' = W) := fun W => bop_fn W s i j ho hj hs hd
  have HU : Hid (∀ W, RunAt W rp s x → Calls Tryz.prog 40 #[.pointer (some ⟨rp, 0, none⟩), .int .i64 ((j : Int) + 1)] W fun e w' => e = .returned (.int .i64 (b : Int)) ∧ Fr NoB W w') := fun W hW => by
    have := value_fn W rp s x hW (j + 1) l ho2 hj2 hs hd2
    rwa [hvb] at this
  clear h ho hd hva hvb ho2 hd2
  go_enter Tryz.func121, Tryz.ntmps121
  go_wp2_with (first | ((fail_if_success (have := HP1.out)); go_at_call 40; refine HV.out.mono ?_; rintro e w1 ⟨rfl, hF1⟩; have HP1 : Hid _ := HP.out.no hF1; have cs1 := hF1.cell_some cs id) | (go_at_call 79; refine (HO.out _).mono ?_; rintro e w6 ⟨rfl, hw⟩; have hw2 := hw.symm; clear hw; subst hw2) | (go_at_call 40; refine (HU.out _ HP1.out).mono ?_; rintro e w2 ⟨rfl, hF2⟩; have HP2 : Hid _ := HP1.out.no hF2; have cs2 := hF2.cell_some cs1 id; have cn2 := (hF1.trans hF2).cell_some cn id; have fz2 : w2.frozen? ⟨rp, 1 + k, none⟩ = false := ((hF1.trans hF2).frozen (p := ⟨rp, 1 + k, none⟩) hrl id).trans fz))
  go_ret
  have hF := (Fr.refl (OneB rp) w2).setCell (p := ⟨rp, 1 + k, none⟩) (fun _ => rfl) (.int .i64 (0))
  exact ⟨rfl, (HP2.out.setNum hk _), (hF1.trans hF2).of_no.trans (hF)⟩
set_option maxHeartbeats 1000000 in
theorem ecalc_lt (h : RunAt w rp s x) (i j l k a b : Nat) (hs : s.size ≤ 100000) (hk : k < 26) (ho : Opnd s i j) (hj : j < s.size) (hc : s[j].toNat = 60) (ho2 : Opnd s (j + 1) l) (hj2 : l < s.size) (hd2 : digitN (bt s l) = false) (hva : valN s x.num i j = (a : Int)) (hvb : valN s x.num (j + 1) l = (b : Int)) (ha : a < 1000) (hb : b < 1000) (hab : a < b) :
    Calls Tryz.prog 121 #[.pointer (some ⟨rp, 0, none⟩), .int .i64 (k : Int), .int .i64 (i : Int)] w fun e w' => CalcS rp s true { x with num := updI x.num k (1) } w e w' := by
  have cs := h.cs
  have cn := h.cn k hk
  have fz := h.fz (1 + k)
  have hrl := h.lt
  have hd : digitN (bt s j) = false := by rw [bt_in hj, hc]; rfl
  have HP : Hid (RunAt w rp s x) := h
  have HV : Hid (Calls Tryz.prog 40 #[.pointer (some ⟨rp, 0, none⟩), .int .i64 (i : Int)] w fun e w' => e = .returned (.int .i64 (a : Int)) ∧ Fr NoB w w') := by
    have := value_fn w rp s x h i j ho hj hs hd
    rwa [hva] at this
  have HO : Hid (∀ W, Calls Tryz.prog 79 #[.string s, .int .i64 (i : Int)] W fun e w' => e = .returned (.int .i64 (j : Int)) ∧ w' = W) := fun W => bop_fn W s i j ho hj hs hd
  have HU : Hid (∀ W, RunAt W rp s x → Calls Tryz.prog 40 #[.pointer (some ⟨rp, 0, none⟩), .int .i64 ((j : Int) + 1)] W fun e w' => e = .returned (.int .i64 (b : Int)) ∧ Fr NoB W w') := fun W hW => by
    have := value_fn W rp s x hW (j + 1) l ho2 hj2 hs hd2
    rwa [hvb] at this
  clear h ho hd hva hvb ho2 hd2
  go_enter Tryz.func121, Tryz.ntmps121
  go_wp2_with (first | ((fail_if_success (have := HP1.out)); go_at_call 40; refine HV.out.mono ?_; rintro e w1 ⟨rfl, hF1⟩; have HP1 : Hid _ := HP.out.no hF1; have cs1 := hF1.cell_some cs id) | (go_at_call 79; refine (HO.out _).mono ?_; rintro e w6 ⟨rfl, hw⟩; have hw2 := hw.symm; clear hw; subst hw2) | (go_at_call 40; refine (HU.out _ HP1.out).mono ?_; rintro e w2 ⟨rfl, hF2⟩; have HP2 : Hid _ := HP1.out.no hF2; have cs2 := hF2.cell_some cs1 id; have cn2 := (hF1.trans hF2).cell_some cn id; have fz2 : w2.frozen? ⟨rp, 1 + k, none⟩ = false := ((hF1.trans hF2).frozen (p := ⟨rp, 1 + k, none⟩) hrl id).trans fz))
  go_ret
  have hF := ((Fr.refl (OneB rp) w2).setCell (p := ⟨rp, 1 + k, none⟩) (fun _ => rfl) (.int .i64 (0))).setCell (p := ⟨rp, 1 + k, none⟩) (fun _ => rfl) (.int .i64 (1))
  exact ⟨rfl, (by have q := (HP2.out.setNum hk 0).setNum hk 1; rwa [updI_two] at q), (hF1.trans hF2).of_no.trans (hF)⟩
end


section
variable (w : World) (rp : Nat) (s : ByteArray) (x : Rn)
set_option maxHeartbeats 1000000 in
theorem ecalc_div0 (h : RunAt w rp s x) (i j l k a : Nat) (hs : s.size ≤ 100000) (hk : k < 26) (ho : Opnd s i j) (hj : j < s.size) (hc : s[j].toNat = 47) (ho2 : Opnd s (j + 1) l) (hj2 : l < s.size) (hd2 : digitN (bt s l) = false) (hva : valN s x.num i j = (a : Int)) (hvb : valN s x.num (j + 1) l = 0) (ha : a < 1000) :
    Calls Tryz.prog 121 #[.pointer (some ⟨rp, 0, none⟩), .int .i64 (k : Int), .int .i64 (i : Int)] w fun e w' => CalcS rp s false { x with status := 1 } w e w' := by
  have cs := h.cs
  have cn := h.cn k hk
  have fz := h.fz (1 + k)
  have hrl := h.lt
  have hd : digitN (bt s j) = false := by rw [bt_in hj, hc]; rfl
  have HP : Hid (RunAt w rp s x) := h
  have HV : Hid (Calls Tryz.prog 40 #[.pointer (some ⟨rp, 0, none⟩), .int .i64 (i : Int)] w fun e w' => e = .returned (.int .i64 (a : Int)) ∧ Fr NoB w w') := by
    have := value_fn w rp s x h i j ho hj hs hd
    rwa [hva] at this
  have HO : Hid (∀ W, Calls Tryz.prog 79 #[.string s, .int .i64 (i : Int)] W fun e w' => e = .returned (.int .i64 (j : Int)) ∧ w' = W) := fun W => bop_fn W s i j ho hj hs hd
  have HU : Hid (∀ W, RunAt W rp s x → Calls Tryz.prog 40 #[.pointer (some ⟨rp, 0, none⟩), .int .i64 ((j : Int) + 1)] W fun e w' => e = .returned (.int .i64 0) ∧ Fr NoB W w') := fun W hW => by
    have := value_fn W rp s x hW (j + 1) l ho2 hj2 hs hd2
    rwa [hvb] at this
  clear h ho hd hva hvb ho2 hd2
  go_enter Tryz.func121, Tryz.ntmps121
  go_wp2_with (first | ((fail_if_success (have := HP1.out)); go_at_call 40; refine HV.out.mono ?_; rintro e w1 ⟨rfl, hF1⟩; have HP1 : Hid _ := HP.out.no hF1; have cs1 := hF1.cell_some cs id) | (go_at_call 79; refine (HO.out _).mono ?_; rintro e w6 ⟨rfl, hw⟩; have hw2 := hw.symm; clear hw; subst hw2) | (go_at_call 40; refine (HU.out _ HP1.out).mono ?_; rintro e w2 ⟨rfl, hF2⟩; have HP2 : Hid _ := HP1.out.no hF2; have cs2 := hF2.cell_some cs1 id; have cn2 := (hF1.trans hF2).cell_some cn id; have fz2 : w2.frozen? ⟨rp, 1 + k, none⟩ = false := ((hF1.trans hF2).frozen (p := ⟨rp, 1 + k, none⟩) hrl id).trans fz) | (go_at_call 78; refine (ends_fn _ rp s x HP2.out 1).mono ?_; rintro e w3 ⟨rfl, hR3, hF3⟩))
  go_ret
  exact ⟨rfl, hR3, (hF1.trans hF2).of_no.trans (hF3)⟩
end


section
variable (w : World) (rp : Nat) (s : ByteArray) (x : Rn)
set_option maxHeartbeats 1000000 in
theorem ecalc_div (h : RunAt w rp s x) (i j l k a b : Nat) (hs : s.size ≤ 100000) (hk : k < 26) (ho : Opnd s i j) (hj : j < s.size) (hc : s[j].toNat = 47) (ho2 : Opnd s (j + 1) l) (hj2 : l < s.size) (hd2 : digitN (bt s l) = false) (hva : valN s x.num i j = (a : Int)) (hvb : valN s x.num (j + 1) l = (b : Int)) (ha : a < 1000) (hb : b < 1000) (hb0 : 0 < b) :
    Calls Tryz.prog 121 #[.pointer (some ⟨rp, 0, none⟩), .int .i64 (k : Int), .int .i64 (i : Int)] w fun e w' => CalcS rp s true { x with num := updI x.num k ((a / b : Nat) : Int) } w e w' := by
  have cs := h.cs
  have cn := h.cn k hk
  have fz := h.fz (1 + k)
  have hrl := h.lt
  have hd : digitN (bt s j) = false := by rw [bt_in hj, hc]; rfl
  have HP : Hid (RunAt w rp s x) := h
  have HV : Hid (Calls Tryz.prog 40 #[.pointer (some ⟨rp, 0, none⟩), .int .i64 (i : Int)] w fun e w' => e = .returned (.int .i64 (a : Int)) ∧ Fr NoB w w') := by
    have := value_fn w rp s x h i j ho hj hs hd
    rwa [hva] at this
  have HO : Hid (∀ W, Calls Tryz.prog 79 #[.string s, .int .i64 (i : Int)] W fun e w' => e = .returned (.int .i64 (j : Int)) ∧ w' = W) := fun W => bop_fn W s i j ho hj hs hd
  have HU : Hid (∀ W, RunAt W rp s x → Calls Tryz.prog 40 #[.pointer (some ⟨rp, 0, none⟩), .int .i64 ((j : Int) + 1)] W fun e w' => e = .returned (.int .i64 (b : Int)) ∧ Fr NoB W w') := fun W hW => by
    have := value_fn W rp s x hW (j + 1) l ho2 hj2 hs hd2
    rwa [hvb] at this
  generalize hq : a / b = q
  have Hq : Hid (a / b = q) := hq
  clear hq
  have by0 : ((b : Int) == 0) = false := beq_eq_false_iff_ne.2 (by omega)
  have HB : Hid (a < 1000 ∧ b < 1000 ∧ 0 < b) := ⟨ha, hb, hb0⟩
  clear h ho hd hva hvb ho2 hd2
  go_enter Tryz.func121, Tryz.ntmps121
  go_wp2_with (first | ((fail_if_success (have := HP1.out)); go_at_call 40; refine HV.out.mono ?_; rintro e w1 ⟨rfl, hF1⟩; have HP1 : Hid _ := HP.out.no hF1; have cs1 := hF1.cell_some cs id) | (go_at_call 79; refine (HO.out _).mono ?_; rintro e w6 ⟨rfl, hw⟩; have hw2 := hw.symm; clear hw; subst hw2) | (go_at_call 40; refine (HU.out _ HP1.out).mono ?_; rintro e w2 ⟨rfl, hF2⟩; have HP2 : Hid _ := HP1.out.no hF2; have cs2 := hF2.cell_some cs1 id; have cn2 := (hF1.trans hF2).cell_some cn id; have fz2 : w2.frozen? ⟨rp, 1 + k, none⟩ = false := ((hF1.trans hF2).frozen (p := ⟨rp, 1 + k, none⟩) hrl id).trans fz))
  have HF12 : Hid _ := hF1.trans hF2
  clear hF1 hF2 HV HO HU HP HP1 cs cs1 cs2 cn fz ha hb hb0 by0
  go_loop [10] (fun t => ∃ n : Nat, n * b ≤ a ∧ t = .int .i64 n) (fun t => a - (intOf t).toNat * b)
  case atStart => exact ⟨0, by omega, rfl⟩
  case round =>
    obtain ⟨n, hn, rfl⟩ := hrel
    obtain ⟨ha, hb, hb0⟩ := HB.out
    have hw := div_wrap ha hb hn hb0
    have hs1 : (n + 1) * b = n * b + b := Nat.succ_mul n b
    have hn2 : n ≤ a := Nat.le_trans (Nat.le_mul_of_pos_right n hb0) hn
    by_cases hd : (n + 1) * b ≤ a
    · have b1 : decide (wrap64 (((n : Int) + 1) * (b : Int)) ≤ (a : Int)) = true := by rw [hw]; exact decide_eq_true (by omega)
      have HN : Hid ((n + 1) * b ≤ a ∧ (n + 1) * b = n * b + b ∧ 0 < b) := ⟨hd, hs1, hb0⟩
      have hn3 : n < 1000 := by omega
      clear hw hs1 hd hn ha hb hb0 hn2
      go_wp2
      go_round
      case rel => exact ⟨n + 1, HN.out.1, by go_num⟩
      case measure =>
        obtain ⟨h1, h2, h3⟩ := HN.out
        show a - (intOf (Value.int IntKind.i64 ((n : Int) + 1))).toNat * b < a - (intOf (Value.int IntKind.i64 (n : Int))).toNat * b
        have e : (intOf (Value.int IntKind.i64 ((n : Int) + 1))).toNat = n + 1 := by simp [intOf]
        have e2 : (intOf (Value.int IntKind.i64 (n : Int))).toNat = n := by simp [intOf]
        rw [e, e2, h2]
        rw [h2] at h1
        omega
    · have b1 : decide (wrap64 (((n : Int) + 1) * (b : Int)) ≤ (a : Int)) = false := by rw [hw]; exact decide_eq_false (by omega)
      have HN : Hid (n = q) := by
        show n = q
        rw [← Hq.out]
        exact (Nat.div_eq_of_lt_le (by rw [Nat.mul_comm] at hn; rw [Nat.mul_comm]; exact hn) (by omega)).symm
      have hn3 : n < 1000 := by omega
      clear hw hs1 hd hn ha hb hb0 hn2
      go_wp2
      go_ret
      have hF := (Fr.refl (OneB rp) w2).setCell (p := ⟨rp, 1 + k, none⟩) (fun _ => rfl) (.int .i64 (n : Int))
      exact ⟨rfl, (by rw [← HN.out]; exact HP2.out.setNum hk _), HF12.out.of_no.trans (hF)⟩
end
end Go.Proofs.YtcmnejcojphijaaGreatDoor
