/-
  The document's syntax: the first thing that is wrong in a text.
-/
import Derived.Test.YtcmnejcojphijaaSynU
namespace Go.Proofs.Ytcmnejcojphijaa
open Go.RowKit
set_option linter.unusedVariables false

theorem opened_zero {S : List (Nat × Bool)} (c : Nat) (h : mu S = 0) : (opened S c).1 = S := by
  rcases S with _ | ⟨⟨b, q⟩, t⟩
  · rfl
  · cases q
    · rfl
    · have : rank b + mu t = 0 := h
      have := rank_pos b
      omega
theorem opened_facts {c : Nat} (hc : c < 256) : ∀ (n : Nat) (S : List (Nat × Bool)), mu S ≤ n → OkS S → OkS (opened S c).1 ∧ wt (opened S c).1 ≤ wt S + 11 ∧ ((opened S c).2.1 = true → ∃ x t, (opened S c).1 = (x, false) :: t) := by
  intro n
  induction n with
  | zero =>
    intro S hS hO
    rw [opened_zero c (by omega)]
    refine ⟨hO, by omega, fun h => ?_⟩
    rcases S with _ | ⟨⟨b, q⟩, t⟩
    · rw [opened_nil] at h; simp at h
    · cases q
      · exact ⟨b, t, rfl⟩
      · have : rank b + mu t ≤ 0 := hS
        have := rank_pos b
        omega
  | succ n ih =>
    intro S hS hO
    rcases S with _ | ⟨⟨b, q⟩, t⟩
    · refine ⟨hO, by rw [opened_nil]; exact Nat.le_add_right _ _, fun h => ?_⟩
      rw [opened_nil] at h; simp at h
    · cases q
      · rw [opened_byte]
        exact ⟨hO, Nat.le_add_right _ _, fun _ => ⟨b, t, rfl⟩⟩
      · have hOt : OkS t := fun e he => hO e (List.mem_cons_of_mem _ he)
        have hw : wt ((b, true) :: t) = wtE (b, true) + wt t := rfl
        have hm : rank b + mu t ≤ n + 1 := hS
        cases he : expand b c with
        | none =>
          rw [opened_none t he]
          exact ⟨hOt, show wt t ≤ _ by omega, fun h => absurd h (by simp)⟩
        | some es =>
          rw [opened_some t he]
          have hp : isPart b := (hO (b, true) (by simp)).2 rfl
          have h1 := expand_step hp he
          have h2 := h1.hm t
          have hO2 : OkS (es ++ t) := fun e q => by
            rcases List.mem_append.1 q with q | q
            · exact expand_ok hc he e q
            · exact hOt e q
          have h3 := ih (es ++ t) (by omega) hO2
          refine ⟨h3.1, ?_, h3.2.2⟩
          rcases h1.hw with q | ⟨q1, q2⟩
          · have := h3.2.1
            rw [wt_append] at this
            omega
          · rw [opened_zero c (q1 t), wt_append]
            omega

set_option maxRecDepth 8000 in
set_option maxHeartbeats 4000000 in
theorem wrong_fn (w : World) (s : ByteArray) (hs : s.size ≤ 20000) :
    Calls Try.prog 29 #[.string s] w fun e w' => e = .returned (.tuple #[.int .i64 ((run s [(83, true)] 0 0).1 : Nat), .int .i64 ((run s [(83, true)] 0 0).2 : Nat)]) ∧ Fr NoB w w' := by
  have hv : (convert 98 9 (.slice (some ⟨w.heap.size + 1, 0, none⟩) 1 1)).run Try.prog ((w.alloc (.cells #[.slice none 0 0] 96)).alloc (.cells #[.int .u8 83] 5)) = .ok (.string ⟨#[83]⟩) ((w.alloc (.cells #[.slice none 0 0] 96)).alloc (.cells #[.int .u8 83] 5)) :=
    bytes_strW _ (w.heap.size + 1) [83] (fun j v hj => by match j, hj with | 0, hj => (simp at hj; subst hj; exact cell_new _ _ _ (by simp) rfl))
  have hpu : pushS ⟨#[83]⟩ false 1 = [(83, true)] := by decide
  have hS0 : StkAt ((w.alloc (.cells #[.slice none 0 0] 96)).alloc (.cells #[.int .u8 83] 5)) w.heap.size (w.heap.size + 1) (.slice none 0 0) [] := by
    refine StkAt.no (w := w.alloc (.cells #[.slice none 0 0] 96)) ⟨cell_new _ _ _ rfl rfl, fun o => ?_, ⟨rfl, .inl ⟨rfl, rfl⟩⟩, by simp [Value.ownBlock]⟩ ((Fr.refl _ _).alloc _)
    exact World.frozen?_alloc_at _ _ _ _ rfl
  have HS0 : Hid _ := hS0
  clear hS0
  generalize hR0 : run s [(83, true)] 0 0 = R
  have HR0 : Hid _ := hR0
  clear hR0
  go_enter Try.func29, Try.ntmps29
  go_wp2_with (go_at_call 40; refine (push_any _ w.heap.size (w.heap.size + 1) (.slice none 0 0) [] ⟨#[83]⟩ false HS0.out (by simp) (by decide) (by simp)).mono ?_; rintro e w1 ⟨rfl, v1, hS1, hF1⟩)
  have hS1' : StkAt w1 w.heap.size (w.heap.size + 1) v1 [(83, true)] := by rw [← hpu]; exact hS1
  have hF1' : Fr NoB w w1 := ((((Fr.refl NoB w).alloc _).alloc _).then hF1 (fun k hk e => by
    rcases e with e | e
    · omega
    · simp [Value.ownBlock] at e))
  clear hS1 hF1 hpu hv HS0
  have hO1 : OkS [(83, true)] := fun e he => by simp at he; subst he; exact ⟨by decide, fun _ => .inl rfl⟩
  go_loopw [5, 6] (fun td ti wr => ∃ (i : Nat) (d : Int) (S : List (Nat × Bool)) (v : Value), i ≤ s.size ∧ ti = .int .i64 i ∧ td = .int .i64 d ∧ -(i : Int) ≤ d ∧ d ≤ 8 ∧ StkAt wr w.heap.size (w.heap.size + 1) v S.reverse ∧ Fr NoB w wr ∧ w1.heap.size ≤ wr.heap.size ∧ OkS S ∧ wt S ≤ 1 + 11 * i ∧ R = run s S i d) (fun _ t _ => s.size - (intOf t).toNat)
  case atStart => exact ⟨0, 0, [(83, true)], v1, Nat.zero_le _, rfl, rfl, by omega, by omega, hS1', hF1', Nat.le_refl _, hO1, by decide, HR0.out.symm⟩
  case round =>
    obtain ⟨i, d, S, v, hi, rfl, rfl, hd1, hd2, hS, hF, hsz, hO, hwS, hrun⟩ := hrel
    have hw1 : w.heap.size + 1 ≤ w1.heap.size := World.block_lt_of_cell? _ _ hS1'.c
    have HS : Hid _ := hS
    have HF : Hid _ := hF
    have HO : Hid _ := hO
    have HR : Hid (R = run s S i d) := hrun
    clear hS hF hO hrun
    by_cases hlt : i < s.size
    · have Hbt : Hid (bt s i = s[i].toNat) := bt_in hlt
      have Hfacts : Hid _ := opened_facts (bt_lt s i) _ S (Nat.le_refl _) HO.out
      have HC : Hid (Calls Try.prog 41 #[.pointer (some ⟨w.heap.size, 0, none⟩), .int .u8 (s[i].toNat : Int)] wr fun e w' => e = .returned (.tuple #[.bool (opened S (bt s i)).2.1, .bool (opened S (bt s i)).2.2]) ∧
          (∃ v', StkAt w' w.heap.size (w.heap.size + 1) v' (opened S (bt s i)).1.reverse) ∧ Fr (StkS w.heap.size (w.heap.size + 1)) wr w') := by
        have := opened_any wr w.heap.size (w.heap.size + 1) v S (bt s i) (bt_lt s i) HS.out (by omega) (by omega) HO.out
        rw [Hbt.out] at this ⊢
        exact this
      have HRin : Hid _ := run_in S d hlt
      generalize opened S (bt s i) = P at HC HRin Hfacts
      obtain ⟨S2, th, bd⟩ := P
      have HF0 : Hid (∀ w2 : World, Fr (StkS w.heap.size (w.heap.size + 1)) wr w2 → Fr NoB w w2 ∧ w1.heap.size ≤ w2.heap.size) := fun w2 q =>
        ⟨HF.out.then q (fun k hk e => by unfold StkS at e; omega), Nat.le_trans hsz q.size⟩
      go_upto_region 8 with (go_at_call 41; refine HC.out.mono ?_; rintro e w2 ⟨rfl, ⟨v2, hS2⟩, hF2⟩)
      have hF3 := HF0.out w2 hF2
      have HF3 : Hid _ := hF3.1
      have hsz2 := hF3.2
      clear hF3 hF2 HC HF0 HF HS hsz
      cases bd
      · cases th
        · have HRR : Hid (R = (2, i)) := by show R = _; rw [HR.out, HRin.out]; rfl
          clear HRin HR
          go_quiet (fail)
          go_wp2
          go_ret2
          rw [HRR.out]
          exact ⟨rfl, HF3.out.drewN _⟩
        · obtain ⟨x, t, hxt⟩ := Hfacts.out.2.2 rfl
          have hxt2 : S2 = (x, false) :: t := hxt
          subst hxt2
          clear hxt
          have hO2 := Hfacts.out.1
          have hw2 : wt ((x, false) :: t) ≤ wt S + 11 := Hfacts.out.2.1
          clear Hfacts
          simp only [List.reverse_cons] at hS2
          obtain ⟨g, cap, rfl, hgk, hbg, hgl, hc1, hc2, hc3, hc4⟩ := hS2.top
          have hcell := hS2.c
          have hfrz := hS2.f 0
          have hlen : t.reverse.length = t.length := by simp
          rw [hlen] at hcell hc3 hc4 hc1
          unfold maxLen at hc2
          have hkl : w.heap.size < w2.heap.size := World.block_lt_of_cell? _ _ hcell
          have HS2 : Hid _ := hS2
          clear hS2 hlen hc4
          by_cases hx : x = s[i].toNat
          · have hxb : decide ((x : Int) = (s[i].toNat : Int)) = true := decide_eq_true (by omega)
            have HRR : Hid (R = if s[i].toNat = 123 then (if 8 < d + 1 then (3, i) else run s t (i + 1) (d + 1)) else run s t (i + 1) (if s[i].toNat = 125 then d - 1 else d)) := by
              show R = _
              rw [HR.out, HRin.out, Hbt.out]
              have : (x == s[i].toNat) = true := beq_iff_eq.2 hx
              simp [this]
            have HO2 : Hid (OkS t ∧ wt t ≤ 1 + 11 * (i + 1)) := ⟨fun e he => hO2 e (List.mem_cons_of_mem _ he), by
              have : wt ((x, false) :: t) = wtE (x, false) + wt t := rfl
              omega⟩
            clear HRin HR hO2 hw2 hwS
            go_quiet (fail)
            go_upto_region 10 with fail
            go_region
            have HS3 : Hid (StkAt ((w2.drewN (nq + 1)).setCell ⟨w.heap.size, 0, none⟩ (Value.slice (some ⟨g, 0, none⟩) t.length cap)) w.heap.size (w.heap.size + 1) (Value.slice (some ⟨g, 0, none⟩) t.length cap) t.reverse) := by
              have := HS2.out
              have hlen : t.reverse.length = t.length := by simp
              show StkAt _ _ _ _ _
              rw [← hlen]
              exact this.pop ((Fr.refl _ w2).drewN _)
            have HF4 : Hid (Fr NoB w ((w2.drewN (nq + 1)).setCell ⟨w.heap.size, 0, none⟩ (Value.slice (some ⟨g, 0, none⟩) t.length cap))) :=
              (HF3.out.drewN _).setCell (p := ⟨w.heap.size, 0, none⟩) (fun q => absurd q (by simp)) _
            have hsz4 : w1.heap.size ≤ ((w2.drewN (nq + 1)).setCell ⟨w.heap.size, 0, none⟩ (Value.slice (some ⟨g, 0, none⟩) t.length cap)).heap.size := by
              rw [setCell_size]; exact hsz2
            generalize ((w2.drewN (nq + 1)).setCell ⟨w.heap.size, 0, none⟩ (Value.slice (some ⟨g, 0, none⟩) t.length cap)) = W3 at *
            clear HS2 hcell hfrz hc3 HF3
            by_cases h123 : s[i].toNat = 123
            · have b1 : ((s[i].toNat : Int) == 123) = true := beq_iff_eq.2 (by omega)
              have b2 : ((s[i].toNat : Int) == 125) = false := beq_eq_false_iff_ne.2 (by omega)
              by_cases h8 : 8 < d + 1
              · have HE : Hid (R = (3, i)) := by show R = _; rw [HRR.out, if_pos h123, if_pos h8]
                clear HRR h123 hx hxb
                go_wp2
                go_ret2
                rw [HE.out]
                exact ⟨rfl, HF4.out⟩
              · have HE : Hid (R = run s t (i + 1) (d + 1)) := by show R = _; rw [HRR.out, if_pos h123, if_neg h8]
                clear HRR h123 hx hxb
                go_wp2
                go_roundw
                case rel => exact ⟨i + 1, d + 1, t, _, by omega, by go_num, by go_num, by omega, by omega, HS3.out, HF4.out, hsz4, HO2.out.1, HO2.out.2, HE.out⟩
                case measure => simp [intOf]; omega
            · have b1 : ((s[i].toNat : Int) == 123) = false := beq_eq_false_iff_ne.2 (by omega)
              by_cases h125 : s[i].toNat = 125
              · have b2 : ((s[i].toNat : Int) == 125) = true := beq_iff_eq.2 (by omega)
                have HE : Hid (R = run s t (i + 1) (d - 1)) := by show R = _; rw [HRR.out, if_neg h123, if_pos h125]
                clear HRR h123 h125 hx hxb
                go_wp2
                go_roundw
                case rel => exact ⟨i + 1, d - 1, t, _, by omega, by go_num, by go_num, by omega, by omega, HS3.out, HF4.out, hsz4, HO2.out.1, HO2.out.2, HE.out⟩
                case measure => simp [intOf]; omega
              · have b2 : ((s[i].toNat : Int) == 125) = false := beq_eq_false_iff_ne.2 (by omega)
                have HE : Hid (R = run s t (i + 1) d) := by show R = _; rw [HRR.out, if_neg h123, if_neg h125]
                clear HRR h123 h125 hx hxb
                go_wp2
                go_roundw
                case rel => exact ⟨i + 1, d, t, _, by omega, by go_num, rfl, by omega, by omega, HS3.out, HF4.out, hsz4, HO2.out.1, HO2.out.2, HE.out⟩
                case measure => simp [intOf]; omega
          · have hxb : decide ((x : Int) = (s[i].toNat : Int)) = false := decide_eq_false (by omega)
            have HRR : Hid (R = (2, i)) := by
              show R = _
              rw [HR.out, HRin.out, Hbt.out]
              have : (x == s[i].toNat) = false := beq_eq_false_iff_ne.2 hx
              simp [this]
            clear HRin HR
            go_quiet (fail)
            go_wp2
            go_ret2
            rw [HRR.out]
            exact ⟨rfl, HF3.out.drewN _⟩
      · have HRR : Hid (R = (2, i)) := by show R = _; rw [HR.out, HRin.out]; rfl
        clear HRin HR
        go_quiet (fail)
        go_wp2
        go_ret2
        rw [HRR.out]
        exact ⟨rfl, HF3.out.drewN _⟩
    · have hie : i = s.size := by omega
      subst hie
      have HC : Hid (Calls Try.prog 41 #[.pointer (some ⟨w.heap.size, 0, none⟩), .int .u8 0] wr fun e w' => e = .returned (.tuple #[.bool (opened S 0).2.1, .bool (opened S 0).2.2]) ∧
          (∃ v', StkAt w' w.heap.size (w.heap.size + 1) v' (opened S 0).1.reverse) ∧ Fr (StkS w.heap.size (w.heap.size + 1)) wr w') :=
        opened_any wr w.heap.size (w.heap.size + 1) v S 0 (by omega) HS.out (by omega) (by omega) HO.out
      have HRin : Hid _ := run_end s S d
      generalize opened S 0 = P at HC HRin
      obtain ⟨S2, th, bd⟩ := P
      have HF0 : Hid (∀ w2 : World, Fr (StkS w.heap.size (w.heap.size + 1)) wr w2 → Fr NoB w w2) := fun w2 q =>
        HF.out.then q (fun k hk e => by unfold StkS at e; omega)
      have HRR : Hid (R = if th || bd then (2, s.size) else (0, 0)) := by show R = _; rw [HR.out, HRin.out]
      clear HRin HR HF HS
      cases th
      · cases bd
        · go_wp2_with (go_at_call 41; refine HC.out.mono ?_; rintro e w2 ⟨rfl, ⟨v2, hS2⟩, hF2⟩)
          go_ret2
          rw [HRR.out]
          exact ⟨rfl, HF0.out _ hF2⟩
        · go_wp2_with (go_at_call 41; refine HC.out.mono ?_; rintro e w2 ⟨rfl, ⟨v2, hS2⟩, hF2⟩)
          go_ret2
          rw [HRR.out]
          exact ⟨rfl, HF0.out _ hF2⟩
      · go_wp2_with (go_at_call 41; refine HC.out.mono ?_; rintro e w2 ⟨rfl, ⟨v2, hS2⟩, hF2⟩)
        go_ret2
        rw [HRR.out]
        exact ⟨rfl, HF0.out _ hF2⟩
end Go.Proofs.Ytcmnejcojphijaa
