import Derived.Test.YtcmnejcojphijaaSynO
namespace Go.Proofs.Ytcmnejcojphijaa
open Go.RowKit
set_option linter.unusedVariables false

/-- what the loop of 'opened' holds: the stack opens as the first one did -/
structure OpInv (S0 S : List (Nat × Bool)) (c : Nat) : Prop where
  ok : OkS S
  same : opened S0 c = opened S c
  w : wt S ≤ wt S0 ∨ (mu S = 0 ∧ wt S ≤ wt S0 + 11)

set_option maxRecDepth 8000 in
set_option maxHeartbeats 2000000 in
theorem opened_any (w : World) (kp base : Nat) (v : Value) (S0 : List (Nat × Bool)) (c : Nat) (hc : c < 256) (h : StkAt w kp base v S0.reverse) (hb : base ≤ w.heap.size) (hl : wt S0 ≤ 900000) (ho : OkS S0) :
    Calls Try.prog 41 #[.pointer (some ⟨kp, 0, none⟩), .int .u8 (c : Int)] w fun e w' => e = .returned (.tuple #[.bool (opened S0 c).2.1, .bool (opened S0 c).2.2]) ∧
      (∃ v', StkAt w' kp base v' (opened S0 c).1.reverse) ∧ Fr (StkS kp base) w w' := by
  go_enter Try.func41, Try.ntmps41
  go_wp2
  go_loopg [6] (mu S0) (fun k _ wr => ∃ (S : List (Nat × Bool)) (v' : Value), mu S ≤ k ∧ OpInv S0 S c ∧ StkAt wr kp base v' S.reverse ∧ Fr (StkS kp base) w wr)
  case atStart => exact ⟨S0, v, Nat.le_refl _, ⟨ho, rfl, .inl (Nat.le_refl _)⟩, h, Fr.refl _ _⟩
  case round =>
    obtain ⟨S, v1, hmu, hI, hS, hF⟩ := hrel
    rcases S with _ | ⟨⟨b, q⟩, t⟩
    · obtain ⟨ao, cap, rfl⟩ := hS.form
      have hcell := hS.c
      simp only [List.reverse_nil, List.length_nil] at hcell
      have HI : Hid _ := hI
      have HS : Hid _ := hS
      clear hI hS
      go_wp2
      go_ret2
      rw [HI.out.same, opened_nil]
      exact ⟨rfl, ⟨_, HS.out⟩, hF⟩
    · simp only [List.reverse_cons] at hS
      obtain ⟨g, cap, rfl, hgk, hbg, hgl, hc1, hc2, hc3, hc4⟩ := hS.top
      have hcell := hS.c
      have hfrz := hS.f 0
      have hlen : t.reverse.length = t.length := by simp
      rw [hlen] at hcell hc3 hc4 hc1
      unfold maxLen at hc2
      have hkl : kp < wr.heap.size := World.block_lt_of_cell? _ _ hcell
      have HI : Hid _ := hI
      have HS : Hid _ := hS
      clear hI hS hlen h
      go_upto_region 2 with fail
      go_region
      cases q
      · go_wp2
        go_ret2
        rw [HI.out.same, opened_byte]
        exact ⟨rfl, ⟨_, (by simpa using HS.out.no (((Fr.refl _ wr).alloc _).drew))⟩, (hF.alloc _).drew⟩
      · have HF : Hid _ := hF
        clear hF
        go_upto_region 5 with fail
        go_region
        have hS2 : StkAt (((wr.setCell ⟨kp, 0, none⟩ (Value.slice (some ⟨g, 0, none⟩) t.length cap)).alloc (Obj.cells #[Value.int IntKind.u8 (b : Int), Value.bool true] 102)).drew.drew) kp base (Value.slice (some ⟨g, 0, none⟩) t.length cap) t.reverse := by
          have := HS.out
          have hlen : t.reverse.length = t.length := by simp
          rw [← hlen]
          exact (this.pop (Fr.refl _ wr)).no (((Fr.refl _ _).alloc _).drew.drew)
        have hF2 : Fr (StkS kp base) w (((wr.setCell ⟨kp, 0, none⟩ (Value.slice (some ⟨g, 0, none⟩) t.length cap)).alloc (Obj.cells #[Value.int IntKind.u8 (b : Int), Value.bool true] 102)).drew.drew) :=
          ((HF.out.setCell (p := ⟨kp, 0, none⟩) (fun _ => .inl rfl) _).alloc _).drew.drew
        have hx : (((wr.setCell ⟨kp, 0, none⟩ (Value.slice (some ⟨g, 0, none⟩) t.length cap)).alloc (Obj.cells #[Value.int IntKind.u8 (b : Int), Value.bool true] 102)).drew.drew).cell? ⟨wr.heap.size, 0, none⟩ = some (.int .u8 (b : Int)) := cell_new _ _ _ (setCell_size _ _ _).symm rfl
        generalize (((wr.setCell ⟨kp, 0, none⟩ (Value.slice (some ⟨g, 0, none⟩) t.length cap)).alloc (Obj.cells #[Value.int IntKind.u8 (b : Int), Value.bool true] 102)).drew.drew) = W at *
        have hb2 := Nat.le_trans hb hF2.size
        have HS2 : Hid _ := hS2
        have HF2 : Hid _ := hF2
        clear hS2 hF2 HF HS hc3 hc4 hcell hfrz
        have hpart : isPart b := (HI.out.ok (b, true) (by simp)).2 rfl
        have HC : Hid (∀ X : World, Calls Try.prog 60 #[.int .u8 (b : Int), .int .u8 (c : Int)] X fun e w' => e = .returned (.tuple #[strN (chosenN b c).1, .bool (chosenN b c).2]) ∧ Fr NoB X w') := fun X => chosen_fn X b c hc hpart
        cases hex : expand b c with
        | none =>
          have hch : (chosenN b c).2 = false := by
            unfold expand at hex
            split at hex
            · cases hex
            · exact Bool.eq_false_iff.2 (by assumption)
          have Hop : Hid (opened S0 c = (t, false, true)) := by show opened S0 c = _; rw [HI.out.same, opened_none t hex]
          rw [hch] at HC
          clear hex hch
          unfold strN at HC
          generalize (⟨((chosenN b c).1.map UInt8.ofNat).toArray⟩ : ByteArray) = str at HC
          go_wp2_with (go_at_call 60; refine (HC.out _).mono ?_; rintro e w1 ⟨rfl, hF1⟩)
          go_ret2
          rw [Hop.out]
          exact ⟨rfl, ⟨_, HS2.out.no hF1⟩, HF2.out.trans hF1.of_no⟩
        | some es =>
          have hch : (chosenN b c).2 = true := by
            unfold expand at hex
            split at hex
            · assumption
            · cases hex
          rw [hch] at HC
          have Hrel : Hid (mu (es ++ t) < gk ∧ OpInv S0 (es ++ t) c) := by
            have h1 := expand_mu hex t
            have h2 : rank b + mu t ≤ gk := hmu
            have h3 := HI.out
            have h4 := expand_step hpart hex
            refine ⟨by omega, ⟨fun e he => ?_, h3.same.trans (opened_some t hex), ?_⟩⟩
            · rcases List.mem_append.1 he with q | q
              · exact expand_ok hc hex e q
              · exact h3.ok e (List.mem_cons_of_mem _ q)
            · have h5 := h3.w
              have h6 := rank_pos b
              have h7 : wt ((b, true) :: t) = wtE (b, true) + wt t := rfl
              have h8 : mu ((b, true) :: t) = rank b + mu t := rfl
              rw [wt_append]
              rcases h4.hw with q | ⟨q1, q2⟩
              · left; omega
              · right; exact ⟨q1 t, by omega⟩
          have hwt : t.length ≤ 1000000 := by
            have h5 := HI.out.w
            have h6 := len_le_wt t
            have h7 : wt ((b, true) :: t) = wtE (b, true) + wt t := rfl
            omega
          obtain ⟨str, hstr⟩ : ∃ str : ByteArray, str = ⟨((chosenN b c).1.map UInt8.ofNat).toArray⟩ := ⟨_, rfl⟩
          have Hpush : Hid (pushS str (ownL (chosenN b c).1 c) str.size = es.reverse) := push_exp hex str hstr hc
          unfold strN at HC
          rw [← hstr] at HC
          clear hch hex
          have hb1 : ∀ w1 : World, Fr NoB W w1 → base ≤ w1.heap.size := fun w1 q => Nat.le_trans hb2 q.size
          by_cases hl0 : (chosenN b c).1 = []
          · rw [hl0] at hstr Hpush
            have hstr2 : str = ⟨#[]⟩ := hstr
            subst hstr2
            have hown : ownL [] c = false := rfl
            rw [hown] at Hpush
            clear hl0 hown hstr
            go_wp2_with (first | (go_at_call 60; refine (HC.out _).mono ?_; rintro e w1 ⟨rfl, hF1⟩) | (go_at_call 40; refine (push_any _ kp base _ _ _ _ (HS2.out.no hF1) (hb1 _ hF1) (by decide) (by simpa using hwt)).mono ?_; rintro e w2 ⟨rfl, v3, hS3, hF3⟩))
            go_roundg (mu (es ++ t))
            case measure => exact Hrel.out.1
            case rel => exact ⟨es ++ t, v3, Nat.le_refl _, Hrel.out.2, by rw [List.reverse_append, ← Hpush.out]; exact hS3, (HF2.out.trans hF1.of_no).then hF3 (fun k _ e => StkS.sub (HS2.out.no hF1) e)⟩
          · have hlast : ∃ n, str.size = n + 1 ∧ bt str n = (chosenN b c).1.getLast?.getD 0 := by
              have h0 : 0 < (chosenN b c).1.length := List.length_pos_iff.2 hl0
              refine ⟨(chosenN b c).1.length - 1, by rw [hstr]; simp [ByteArray.size]; omega, ?_⟩
              have hj : (chosenN b c).1.length - 1 < str.size := by rw [hstr]; simp [ByteArray.size]; omega
              rw [bt_str hstr hc hj]
              simp [List.getLast?_eq_getElem?]
            obtain ⟨n, hn, hbt⟩ := hlast
            have hn9 : n ≤ 9 := by
              have := chosenN_len b c
              have h2 : str.size = (chosenN b c).1.length := by rw [hstr]; simp [ByteArray.size]
              omega
            have hnl : n < str.size := by omega
            have hne2 : str.toList.isEmpty = false := bytes_some hn
            have hemp : (chosenN b c).1.isEmpty = false := by simpa using hl0
            have hown : ownL (chosenN b c).1 c = ((bt str n == c) && !(c == 0)) := by unfold ownL; rw [hbt, hemp]; rfl
            rw [bt_in hnl] at hown
            rw [hown] at Hpush
            clear hown hemp hbt hstr hl0
            by_cases q1 : str[n].toNat = c
            · have q1b : ((str[n].toNat : Int) == (c : Int)) = true := beq_iff_eq.2 (by omega)
              have q1c : (str[n].toNat == c) = true := beq_iff_eq.2 q1
              by_cases q2 : c = 0
              · have q2b : ((c : Int) != 0) = false := by rw [q2]; rfl
                rw [q1c, show (c == 0) = true from beq_iff_eq.2 q2] at Hpush
                clear q1 q2 q1c
                go_wp2_with (first | (go_at_call 60; refine (HC.out _).mono ?_; rintro e w1 ⟨rfl, hF1⟩) | (go_at_call 40; refine (push_any _ kp base _ _ _ _ (HS2.out.no hF1) (hb1 _ hF1) (by omega) (by simpa using hwt)).mono ?_; rintro e w2 ⟨rfl, v3, hS3, hF3⟩))
                go_roundg (mu (es ++ t))
                case measure => exact Hrel.out.1
                case rel => exact ⟨es ++ t, v3, Nat.le_refl _, Hrel.out.2, by rw [List.reverse_append, ← Hpush.out]; exact hS3, (HF2.out.trans hF1.of_no).then hF3 (fun k _ e => StkS.sub (HS2.out.no hF1) e)⟩
              · have q2b : ((c : Int) != 0) = true := bne_iff_ne.2 (by omega)
                rw [q1c, show (c == 0) = false from beq_eq_false_iff_ne.2 q2] at Hpush
                clear q1 q2 q1c
                go_wp2_with (first | (go_at_call 60; refine (HC.out _).mono ?_; rintro e w1 ⟨rfl, hF1⟩) | (go_at_call 40; refine (push_any _ kp base _ _ _ _ (HS2.out.no hF1) (hb1 _ hF1) (by omega) (by simpa using hwt)).mono ?_; rintro e w2 ⟨rfl, v3, hS3, hF3⟩))
                go_roundg (mu (es ++ t))
                case measure => exact Hrel.out.1
                case rel => exact ⟨es ++ t, v3, Nat.le_refl _, Hrel.out.2, by rw [List.reverse_append, ← Hpush.out]; exact hS3, (HF2.out.trans hF1.of_no).then hF3 (fun k _ e => StkS.sub (HS2.out.no hF1) e)⟩
            · have q1b : ((str[n].toNat : Int) == (c : Int)) = false := beq_eq_false_iff_ne.2 (by omega)
              have q1c : (str[n].toNat == c) = false := beq_eq_false_iff_ne.2 q1
              rw [q1c] at Hpush
              clear q1 q1c
              go_wp2_with (first | (go_at_call 60; refine (HC.out _).mono ?_; rintro e w1 ⟨rfl, hF1⟩) | (go_at_call 40; refine (push_any _ kp base _ _ _ _ (HS2.out.no hF1) (hb1 _ hF1) (by omega) (by simpa using hwt)).mono ?_; rintro e w2 ⟨rfl, v3, hS3, hF3⟩))
              go_roundg (mu (es ++ t))
              case measure => exact Hrel.out.1
              case rel => exact ⟨es ++ t, v3, Nat.le_refl _, Hrel.out.2, by rw [List.reverse_append, ← Hpush.out]; exact hS3, (HF2.out.trans hF1.of_no).then hF3 (fun k _ e => StkS.sub (HS2.out.no hF1) e)⟩
end Go.Proofs.Ytcmnejcojphijaa
