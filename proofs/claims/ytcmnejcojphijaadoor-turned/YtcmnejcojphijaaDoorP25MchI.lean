/-
  MchN, MchP, MchF, MchI: one behind the other.
-/
import Derived.Test.YtcmnejcojphijaaDoorP24MchG
import Derived.Test.YtcmnejcojphijaaDoorP23MchE
import Derived.Shelf.Strconv.Itoa3
import Derived.Shelf.Lay
namespace Go.Proofs.YtcmnejcojphijaaDoor
open Go.RowKit
set_option linter.unusedVariables false

def sgOk (c : Nat) : Prop := c = 43 ∨ c = 45 ∨ c = 42 ∨ c = 47 ∨ c = 60
/-- what the program reckons -/
def recN (c x y : Nat) : Option Nat := if c = 0 then some x else binN c x y
section
variable (w : World) (mp r n base nx : Nat) (pv tv : Value) (st ov : Bool) (σ : St) (B V : Nat → Int)
set_option maxHeartbeats 1000000 in
theorem reckoned_fn (c x y : Nat) (hx : x < 1000) (hy : y < 1000) (hc : c = 0 ∨ sgOk c) :
    Calls Tryd.prog 64 #[.int .i64 (x : Int), .int .u8 (c : Int), .int .i64 (y : Int)] w fun e w' => e = .returned (.tuple #[.int .i64 ((recN c x y).getD 0 : Nat), .bool (recN c x y).isSome]) ∧ w' = w := by
  rcases hc with rfl | rfl | rfl | rfl | rfl | rfl
  · rw [show recN 0 x y = some x from rfl]
    go_enter Tryd.func64, Tryd.ntmps64
    go_wp2
    go_ret2
    exact ⟨rfl, rfl⟩
  · rw [show recN 43 x y = some ((x + y) % 1000) from rfl]
    have e : ((x : Int) + (y : Int)).tmod 1000 = (((x + y) % 1000 : Nat) : Int) := by rw [Int.tmod_eq_emod_of_nonneg (by omega)]; omega
    show Calls _ _ _ _ fun e w' => e = .returned (.tuple #[.int .i64 (((x + y) % 1000 : Nat) : Int), .bool true]) ∧ w' = w
    rw [← e]
    clear e
    go_enter Tryd.func64, Tryd.ntmps64
    go_wp2
    go_ret2
    exact ⟨rfl, rfl⟩
  · rw [show recN 45 x y = some ((x + 1000 - y) % 1000) from rfl]
    have e : ((x : Int) - (y : Int) + 1000) % 1000 = (((x + 1000 - y) % 1000 : Nat) : Int) := by omega
    show Calls _ _ _ _ fun e w' => e = .returned (.tuple #[.int .i64 (((x + 1000 - y) % 1000 : Nat) : Int), .bool true]) ∧ w' = w
    rw [← e]
    clear e
    go_enter Tryd.func64, Tryd.ntmps64
    go_wp2
    go_ret2
    exact ⟨rfl, rfl⟩
  · rw [show recN 42 x y = some (x * y % 1000) from rfl]
    have hb : (x : Int) * (y : Int) ≤ 1000000 := by
      have : x * y ≤ 1000 * 1000 := Nat.mul_le_mul (by omega) (by omega)
      have h2 : ((x * y : Nat) : Int) ≤ 1000000 := by omega
      simpa using h2
    have hb0 : 0 ≤ (x : Int) * (y : Int) := by
      have h2 : (0 : Int) ≤ ((x * y : Nat) : Int) := by omega
      simpa using h2
    have e : ((x : Int) * (y : Int)).tmod 1000 = ((x * y % 1000 : Nat) : Int) := by rw [Int.tmod_eq_emod_of_nonneg hb0]; simp
    show Calls _ _ _ _ fun e w' => e = .returned (.tuple #[.int .i64 ((x * y % 1000 : Nat) : Int), .bool true]) ∧ w' = w
    rw [← e]
    clear e
    go_enter Tryd.func64, Tryd.ntmps64
    go_wp2
    go_ret2
    exact ⟨rfl, rfl⟩
  · by_cases h0 : y = 0
    · subst h0
      rw [show recN 47 x 0 = none from rfl]
      show Calls _ _ _ _ fun e w' => e = .returned (.tuple #[.int .i64 0, .bool false]) ∧ w' = w
      go_enter Tryd.func64, Tryd.ntmps64
      go_wp2
      go_ret2
      exact ⟨rfl, rfl⟩
    · rw [show recN 47 x y = some (x / y) by unfold recN binN; simp [h0]]
      have y0 : ((y : Int) == 0) = false := beq_eq_false_iff_ne.2 (by omega)
      have e : wrap64 ((x : Int) / (y : Int)) = ((x / y : Nat) : Int) := by
        have h1 : ((x / y : Nat) : Int) = (x : Int) / (y : Int) := by simp
        have h2 : x / y ≤ x := Nat.div_le_self _ _
        rw [← h1]
        generalize x / y = q at *
        simp [wrap64]
        omega
      show Calls _ _ _ _ fun e w' => e = .returned (.tuple #[.int .i64 ((x / y : Nat) : Int), .bool true]) ∧ w' = w
      rw [← e]
      clear e
      go_enter Tryd.func64, Tryd.ntmps64
      go_wp2
      go_ret2
      exact ⟨rfl, rfl⟩
  · by_cases h0 : x < y
    · rw [show recN 60 x y = some 1 by unfold recN binN; simp [h0]]
      have y0 : decide (x < y) = true := by simp; omega
      show Calls _ _ _ _ fun e w' => e = .returned (.tuple #[.int .i64 1, .bool true]) ∧ w' = w
      clear h0
      go_enter Tryd.func64, Tryd.ntmps64
      go_wp2
      go_ret2
      exact ⟨rfl, rfl⟩
    · rw [show recN 60 x y = some 0 by unfold recN binN; simp [h0]]
      have y0 : decide (x < y) = false := by simp; omega
      show Calls _ _ _ _ fun e w' => e = .returned (.tuple #[.int .i64 0, .bool true]) ∧ w' = w
      clear h0
      go_enter Tryd.func64, Tryd.ntmps64
      go_wp2
      go_ret2
      exact ⟨rfl, rfl⟩
theorem rec_ok {c x y z : Nat} (hx : x < 1000) (h : recN c x y = some z) : z < 1000 := by
  unfold recN at h
  split at h
  · cases h; exact hx
  · exact bin_ok hx h
set_option maxHeartbeats 1000000 in
theorem reckon_no (h : MM w mp r n base pv st σ nx false B V tv) (t : Pt) (clo : Nat) (ht : PtOk t) (hc : t.sign = 0 ∨ sgOk t.sign) (hl : recN t.sign (valO σ.num t.o1) (valO σ.num t.o2) = none) :
    Calls Tryd.prog 55 #[.pointer (some ⟨mp, 0, none⟩), ptV t clo] w fun e w' => MS mp r n base pv st nx (ends σ 1) w e w' := by
  have hv1 := val_lt σ h.ok ht.o1
  have hv2 := val_lt σ h.ok ht.o2
  have HV1 : Hid (∀ W, Fr NoB w W → _) := fun W hW => mvalue_fn W mp r n base nx pv tv st false σ B V (h.no hW) t.o1 ht.o1
  have HV2 : Hid (∀ W, Fr NoB w W → _) := fun W hW => mvalue_fn W mp r n base nx pv tv st false σ B V (h.no hW) t.o2 ht.o2
  have HR : Hid (∀ W, Calls Tryd.prog 64 #[.int .i64 (valO σ.num t.o1 : Int), .int .u8 (t.sign : Int), .int .i64 (valO σ.num t.o2 : Int)] W fun e w' => e = .returned (.tuple #[.int .i64 0, .bool false]) ∧ w' = W) := fun W => by
    have := reckoned_fn W t.sign _ _ hv1 hv2 hc
    rwa [hl] at this
  have HS : Hid (∀ W, Fr NoB w W → Calls Tryd.prog 48 #[.pointer (some ⟨mp, 0, none⟩), .int .i64 1] W fun e w' => MS mp r n base pv st nx (ends σ 1) w e w') := fun W hW => (stop_fn W mp r n base nx pv tv st false σ B V (h.no hW) 1).mono fun e w' hh => ⟨hh.1, ⟨_, _, _, hh.2.1⟩, (frM_no hW).trans hh.2.2⟩
  unfold ptV
  obtain ⟨kind, place, num, box, src, o1, sign, o2, opn⟩ := t
  simp only [] at *
  generalize valO σ.num o1 = v at *
  generalize valO σ.num o2 = v2 at *
  generalize odB o1 = b1 at *
  generalize odI o1 = x1 at *
  generalize odB o2 = b2 at *
  generalize odI o2 = x2 at *
  clear h ht hl hc
  go_enter Tryd.func55, Tryd.ntmps55
  go_upto_region 1 with fail
  obtain ⟨hFA, HPA⟩ := box_new w kind place num box src b1 x1 sign b2 x2 opn clo
  generalize w.alloc (Obj.cells #[.int .i64 (kind : Int), .int .i64 (place : Int), .int .i64 (num : Int), .int .i64 (box : Int), .int .i64 (src : Int), .bool b1, .int .i64 (x1 : Int), .int .u8 (sign : Int), .bool b2, .int .i64 (x2 : Int), .int .i64 (opn : Int), .int .i64 (clo : Int)] 60) = W1 at hFA HPA ⊢
  generalize w.heap.size = q at *
  have c5 := HPA.out.c5
  have c6 := HPA.out.c6
  have c7 := HPA.out.c7
  have c8 := HPA.out.c8
  have c9 := HPA.out.c9
  go_wp2_with (first | ((fail_if_success (have := hF2)); go_at_call 57; refine (HV1.out _ hFA).mono ?_; rintro e w2 ⟨rfl, hF2⟩; have d7 := hF2.cell_some c7 id; have d8 := hF2.cell_some c8 id; have d9 := hF2.cell_some c9 id) | (go_at_call 57; refine (HV2.out _ (hFA.trans hF2)).mono ?_; rintro e w3 ⟨rfl, hF3⟩; have e7 := hF3.cell_some d7 id) | (go_at_call 64; refine (HR.out _).mono ?_; rintro e w4 ⟨rfl, hw⟩; have hw2 := hw.symm; clear hw; subst hw2) | (go_at_call 48; refine (HS.out _ ((hFA.trans hF2).trans hF3)).mono ?_; rintro e w4 ⟨rfl, hh⟩; have HH : Hid _ := hh; clear hh))
  go_end0
  exact ⟨rfl, HH.out⟩
set_option maxHeartbeats 1000000 in
theorem reckon_yes (h : MM w mp r n base pv st σ nx false B V tv) (t : Pt) (clo z : Nat) (ht : PtOk t) (hc : t.sign = 0 ∨ sgOk t.sign) (hl : recN t.sign (valO σ.num t.o1) (valO σ.num t.o2) = some z) :
    Calls Tryd.prog 55 #[.pointer (some ⟨mp, 0, none⟩), ptV t clo] w fun e w' => MS mp r n base pv st nx ({ σ with num := upN σ.num t.num z }, true) w e w' := by
  have hv1 := val_lt σ h.ok ht.o1
  have hv2 := val_lt σ h.ok ht.o2
  have hz := rec_ok hv1 hl
  have HV1 : Hid (∀ W, Fr NoB w W → _) := fun W hW => mvalue_fn W mp r n base nx pv tv st false σ B V (h.no hW) t.o1 ht.o1
  have HV2 : Hid (∀ W, Fr NoB w W → _) := fun W hW => mvalue_fn W mp r n base nx pv tv st false σ B V (h.no hW) t.o2 ht.o2
  have HR : Hid (∀ W, Calls Tryd.prog 64 #[.int .i64 (valO σ.num t.o1 : Int), .int .u8 (t.sign : Int), .int .i64 (valO σ.num t.o2 : Int)] W fun e w' => e = .returned (.tuple #[.int .i64 (z : Int), .bool true]) ∧ w' = W) := fun W => by
    have := reckoned_fn W t.sign _ _ hv1 hv2 hc
    rwa [hl] at this
  have HM : Hid _ := h
  have hn : t.num < 26 := ht.n
  unfold ptV
  obtain ⟨kind, place, num, box, src, o1, sign, o2, opn⟩ := t
  simp only [] at *
  generalize valO σ.num o1 = v at *
  generalize valO σ.num o2 = v2 at *
  generalize odB o1 = b1 at *
  generalize odI o1 = x1 at *
  generalize odB o2 = b2 at *
  generalize odI o2 = x2 at *
  clear h ht hl hc
  go_enter Tryd.func55, Tryd.ntmps55
  go_upto_region 1 with fail
  obtain ⟨hFA, HPA⟩ := box_new w kind place num box src b1 x1 sign b2 x2 opn clo
  generalize w.alloc (Obj.cells #[.int .i64 (kind : Int), .int .i64 (place : Int), .int .i64 (num : Int), .int .i64 (box : Int), .int .i64 (src : Int), .bool b1, .int .i64 (x1 : Int), .int .u8 (sign : Int), .bool b2, .int .i64 (x2 : Int), .int .i64 (opn : Int), .int .i64 (clo : Int)] 60) = W1 at hFA HPA ⊢
  generalize w.heap.size = q at *
  have c2 := HPA.out.c2
  have c5 := HPA.out.c5
  have c6 := HPA.out.c6
  have c7 := HPA.out.c7
  have c8 := HPA.out.c8
  have c9 := HPA.out.c9
  go_upto_region 6 with (first | ((fail_if_success (have := hF2)); go_at_call 57; refine (HV1.out _ hFA).mono ?_; rintro e w2 ⟨rfl, hF2⟩; have d2 := hF2.cell_some c2 id; have d7 := hF2.cell_some c7 id; have d8 := hF2.cell_some c8 id; have d9 := hF2.cell_some c9 id) | (go_at_call 57; refine (HV2.out _ (hFA.trans hF2)).mono ?_; rintro e w3 ⟨rfl, hF3⟩; have e7 := hF3.cell_some d7 id; have e2 := hF3.cell_some d2 id) | (go_at_call 64; refine (HR.out _).mono ?_; rintro e w4 ⟨rfl, hw⟩; have hw2 := hw.symm; clear hw; subst hw2))
  have hFX : Fr NoB w w3 := (hFA.trans hF2).trans hF3
  have HM3 : Hid _ := HM.out.no hFX
  have cn := HM3.out.m.cn num hn
  have fz := HM3.out.m.fz (4 + num)
  go_region
  go_wp2
  go_end0
  exact ⟨rfl, ⟨_, _, _, (HM3.out.setNum hn hz).no ((Fr.refl _ _).drew)⟩, ((frM_no hFX).trans (frM_one ((Fr.refl (OneB mp) w3).setCell (p := ⟨mp, 4 + num, none⟩) (fun _ => rfl) _) HM.out.mb)).drew⟩
end
end Go.Proofs.YtcmnejcojphijaaDoor

namespace Go.Proofs.YtcmnejcojphijaaDoor
open Go.RowKit
set_option linter.unusedVariables false

/-- a sentence does not break the run -/
def Fit (c : Cf) : Ac → St → Prop
  | .load _ b _, σ => σ.bx b ≠ []
  | .size _ b, σ => σ.bx b ≠ []
  | .make b _, σ => ¬ (c.strict = true ∧ σ.bx b ≠ [])
  | .move b d, σ => σ.bx d ≠ [] ∧ (b = d ∨ ¬ (c.strict = true ∧ σ.bx b ≠ []))
  | .store b _ _, σ => σ.bx b ≠ []
  | .drop b, σ => σ.bx b ≠ []
  | _, _ => True
theorem act_unfit {c : Cf} {a : Ac} {σ : St} (h : ¬ Fit c a σ) : act c a σ = ends σ 4 := by
  cases a <;> simp only [Fit, not_true_eq_false, ne_eq, Classical.not_not] at h
  case load v b o => simp only [act]; rw [if_pos h]
  case size v b => simp only [act]; rw [if_pos h]
  case make b o => simp only [act]; rw [if_pos h]
  case move b d =>
    simp only [act]
    by_cases h1 : σ.bx d = []
    · rw [if_pos h1]
    · rw [if_neg h1]
      have h2 : ¬ (b = d ∨ ¬ (c.strict = true ∧ ¬ σ.bx b = [])) := fun q => h ⟨h1, q⟩
      have h3 : b ≠ d := fun q => h2 (.inl q)
      have h4 : c.strict = true ∧ σ.bx b ≠ [] := Classical.not_not.1 (fun q => h2 (.inr q))
      rw [if_neg h3, if_pos h4]
  case store b o p => simp only [act]; rw [if_pos h]
  case drop b => simp only [act]; rw [if_pos h]
theorem fit_of {c : Cf} {a : Ac} {σ : St} (h : (act c a σ).1.status ≠ 4) : Fit c a σ := Classical.byContradiction fun q => h (by rw [act_unfit q]; rfl)
theorem brk_fit {c : Cf} (hc : c.strict = true) {t : Pt} (ht : t.kind < 8) {σ : St} : brkB t σ = false ↔ Fit c (acP t) σ := by
  obtain ⟨kind, place, num, box, src, o1, sign, o2, opn⟩ := t
  simp only [] at ht
  have hk : kind = 0 ∨ kind = 1 ∨ kind = 2 ∨ kind = 3 ∨ kind = 4 ∨ kind = 5 ∨ kind = 6 ∨ kind = 7 := by omega
  unfold brkB useB getB useBx acP
  rcases hk with rfl | hk
  · by_cases hs : sign = 0
    · subst hs; exact ⟨fun _ => trivial, fun _ => rfl⟩
    · simp only [if_pos trivial, if_neg hs]
      exact ⟨fun _ => trivial, fun _ => rfl⟩
  rcases hk with rfl | rfl | rfl | rfl | rfl | rfl | rfl <;> simp only [] <;> simp [Fit, hc]
  · by_cases q : box = src
    · subst q; simp
    · simp [q]
def sgA : Ac → Prop
  | .bin _ _ c _ => sgOk c
  | _ => True
theorem sg_of {s : ByteArray} {i m : Nat} (h : Simple s i m) : sgA (acN s i) := by
  rcases h with h | h | h | h | h | h | h | h | h
  · rw [acN_size h]; trivial
  · rw [acN_load h]; trivial
  · obtain ⟨hm, e1, k, ho, e5, rfl⟩ := h
    rw [acN_set hm ho e5]; trivial
  · obtain ⟨hm, e1, k, l, ho, hop2, ho2, e5, rfl⟩ := h
    have hks : k < s.size := byte_in rfl (by unfold isOp at hop2; omega)
    rw [acN_bin hm ho hop2 hks]
    unfold sgA sgOk
    unfold isOp at hop2
    omega
  · obtain ⟨hg, e1, k, l, ho, e2, e3, ho2, e5, rfl⟩ := h
    rw [acN_store hg e1 ho e2]; trivial
  · rw [acN_make h]; trivial
  · rw [acN_move h]; trivial
  · obtain ⟨e0, k, ho, e5, rfl⟩ := h
    rw [acN_print e0]; trivial
  · rw [acN_drop h.1]; trivial
/-- the parts between are sentences that can be, and so is the tree -/
theorem seg_fit {p : Nat → Pt} {s : ByteArray} {cl cs : Nat → (Nat → Bool) → Prop} : ∀ {F i j k l : Nat} {f : Nat → Bool}, SegQ p s cl cs F i j k l f → ∀ q, k ≤ q → q < l → (p q).kind < 8 → AcOk (acP (p q)) ∧ sgA (acP (p q))
  | 0, i, j, k, l, f, h, q, h1, h2, h3 => absurd h.2 (by omega)
  | F + 1, i, j, k, l, f, h, q, h1, h2, h3 => by
    rcases h with ⟨rfl, rfl⟩ | ⟨m, k', ⟨hc, hs⟩, g1, g2, g3, g4, g5, hr⟩
    · omega
    · by_cases hq : k' ≤ q
      · exact seg_fit hr q hq h2 h3
      · rcases hs with ⟨q1, q2, q3⟩ | ⟨a, b, c, ka, kb, q1, q2, q3, q4, q5, q6, q7, q8, q9, q10, q11, q12⟩ | ⟨a, b, ka, q1, q2, q3, q4, q5, q6, q7, q8, q9⟩
        · have e : q = k := by omega
          subst e
          rw [q3.ac]
          exact ⟨acOk_of q1, sg_of q1⟩
        · subst q4 q5
          by_cases e0 : q = k
          · subst e0; rw [q6.1] at h3; omega
          · by_cases e1 : q = ka
            · subst e1; rw [q7] at h3; omega
            · by_cases e2 : q = kb
              · subst e2; rw [q9] at h3; omega
              · by_cases e3 : q < ka
                · exact seg_fit q2 q (by omega) e3 h3
                · exact seg_fit q3 q (by omega) (by omega) h3
        · subst q4 q5
          by_cases e0 : q = k
          · subst e0; rw [q6.1] at h3; omega
          · by_cases e1 : q = ka
            · subst e1; rw [q7] at h3; omega
            · exact seg_fit q3 q (by omega) (by omega) h3
end Go.Proofs.YtcmnejcojphijaaDoor

namespace Go.Proofs.YtcmnejcojphijaaDoor
open Go.RowKit
set_option linter.unusedVariables false
section
variable (w : World) (mp r n base nx : Nat) (pv tv : Value) (st ov : Bool) (σ : St) (B V : Nat → Int)
set_option maxHeartbeats 1000000 in
theorem dstore_no (h : MM w mp r n base pv st σ nx false B V tv) (t : Pt) (clo : Nat) (ht : PtOk t) (hl : (σ.bx t.box).length ≤ valO σ.num t.o1) :
    Calls Tryd.prog 61 #[.pointer (some ⟨mp, 0, none⟩), ptV t clo] w fun e w' => MS mp r n base pv st nx (ends σ 1) w e w' := by
  have hv := val_lt σ h.ok ht.o1
  have HV : Hid (∀ W, Fr NoB w W → _) := fun W hW => mvalue_fn W mp r n base nx pv tv st false σ B V (h.no hW) t.o1 ht.o1
  have HW : Hid (∀ W, Fr NoB w W → Calls Tryd.prog 66 #[.pointer (some ⟨mp, 30, none⟩), .int .i64 (t.box : Int), .int .i64 (valO σ.num t.o1 : Int)] W fun e w' => e = .returned (.tuple #[.int .i64 (((if σ.bx t.box = [] then 0 else σ.at_ t.box) + valO σ.num t.o1 : Nat) : Int), .bool false]) ∧ Fr NoB W w') := fun W hW => by
    have := word_fn W mp r n base nx pv tv st false σ B V (h.no hW) t.box (valO σ.num t.o1) ht.b hv
    rwa [show decide (valO σ.num t.o1 < (σ.bx t.box).length) = false by simp; exact hl] at this
  have HS : Hid (∀ W, Fr NoB w W → Calls Tryd.prog 48 #[.pointer (some ⟨mp, 0, none⟩), .int .i64 1] W fun e w' => MS mp r n base pv st nx (ends σ 1) w e w') := fun W hW => (stop_fn W mp r n base nx pv tv st false σ B V (h.no hW) 1).mono fun e w' hh => ⟨hh.1, ⟨_, _, _, hh.2.1⟩, (frM_no hW).trans hh.2.2⟩
  unfold ptV
  obtain ⟨kind, place, num, box, src, o1, sign, o2, opn⟩ := t
  simp only [] at *
  generalize valO σ.num o1 = v at *
  generalize odB o1 = b1 at *
  generalize odI o1 = x1 at *
  generalize odB o2 = b2 at *
  generalize odI o2 = x2 at *
  generalize (if σ.bx box = [] then 0 else σ.at_ box) + v = at0 at *
  clear h ht hl
  go_enter Tryd.func61, Tryd.ntmps61
  go_upto_region 1 with fail
  obtain ⟨hFA, HPA⟩ := box_new w kind place num box src b1 x1 sign b2 x2 opn clo
  generalize w.alloc (Obj.cells #[.int .i64 (kind : Int), .int .i64 (place : Int), .int .i64 (num : Int), .int .i64 (box : Int), .int .i64 (src : Int), .bool b1, .int .i64 (x1 : Int), .int .u8 (sign : Int), .bool b2, .int .i64 (x2 : Int), .int .i64 (opn : Int), .int .i64 (clo : Int)] 60) = W1 at hFA HPA ⊢
  generalize w.heap.size = q at HPA ⊢
  have c3 := HPA.out.c3
  have c5 := HPA.out.c5
  have c6 := HPA.out.c6
  go_region_with (first | (go_at_call 57; refine (HV.out _ (hFA.drew)).mono ?_; rintro e w2 ⟨rfl, hF2⟩; have d3 := (((Fr.refl NoB W1).drew).trans hF2).cell_some c3 id) | (go_at_call 66; refine (HW.out _ ((hFA.drew).trans hF2)).mono ?_; rintro e w3 ⟨rfl, hF3⟩))
  all_goals
    go_wp2_with (go_at_call 48; refine (HS.out _ (((hFA.drew).trans hF2).trans hF3)).mono ?_; rintro e w4 ⟨rfl, hh⟩; have HH : Hid _ := hh; clear hh)
    go_end0
    exact ⟨rfl, HH.out⟩
set_option maxHeartbeats 1000000 in
theorem dstore_yes (h : MM w mp r n base pv st σ nx false B V tv) (t : Pt) (clo : Nat) (ht : PtOk t) (hl : valO σ.num t.o1 < (σ.bx t.box).length) :
    Calls Tryd.prog 61 #[.pointer (some ⟨mp, 0, none⟩), ptV t clo] w fun e w' => MS mp r n base pv st nx ({ σ with bx := upB σ.bx t.box ((σ.bx t.box).set (valO σ.num t.o1) (valO σ.num t.o2)) }, true) w e w' := by
  have hv := val_lt σ h.ok ht.o1
  have HV : Hid (∀ W, Fr NoB w W → _) := fun W hW => mvalue_fn W mp r n base nx pv tv st false σ B V (h.no hW) t.o1 ht.o1
  have HW : Hid (∀ W, Fr NoB w W → Calls Tryd.prog 66 #[.pointer (some ⟨mp, 30, none⟩), .int .i64 (t.box : Int), .int .i64 (valO σ.num t.o1 : Int)] W fun e w' => e = .returned (.tuple #[.int .i64 (((if σ.bx t.box = [] then 0 else σ.at_ t.box) + valO σ.num t.o1 : Nat) : Int), .bool true]) ∧ Fr NoB W w') := fun W hW => by
    have := word_fn W mp r n base nx pv tv st false σ B V (h.no hW) t.box (valO σ.num t.o1) ht.b hv
    rwa [show decide (valO σ.num t.o1 < (σ.bx t.box).length) = true by simp; exact hl] at this
  have hne : σ.bx t.box ≠ [] := fun e => by rw [e] at hl; simp at hl
  have hon := h.b.on t.box ht.b _ hl
  have hin := h.ap.inn t.box ht.b hne
  have hx := val_lt σ h.ok ht.o2
  rw [if_neg hne] at HW
  have HV2 : Hid (∀ W, Fr NoB w W → _) := fun W hW => mvalue_fn W mp r n base nx pv tv st false σ B V (h.no hW) t.o2 ht.o2
  have HL : Hid (∀ W, Fr NoB w W → Calls Tryd.prog 70 #[.pointer (some ⟨mp, 30, none⟩), .int .i64 ((σ.at_ t.box + valO σ.num t.o1 : Nat) : Int), .int .i64 (valO σ.num t.o2 : Int)] W fun e w' => e = .returned (.int .i64 0) ∧ (∃ B V tv, MM w' mp r n base pv st { σ with bx := upB σ.bx t.box ((σ.bx t.box).set (valO σ.num t.o1) (valO σ.num t.o2)) } nx (!true) B V tv) ∧ Fr (FrM base) w w') := fun W hW => by
    refine (mstore_yes W mp r n B V (σ.at_ t.box + valO σ.num t.o1) (valO σ.num t.o2) (h.h.no hW) (by omega) (by rw [hon.1]; omega) (by omega) (by omega)).mono ?_
    rintro e w' ⟨rfl, rfl⟩
    have hM := h.no hW
    have hF : Fr (OneB r) W (W.setCell ⟨r, (σ.at_ t.box + valO σ.num t.o1) * 2 + 1, none⟩ (.int .i64 (valO σ.num t.o2 : Int))) := (Fr.refl (OneB r) W).setCell (p := ⟨r, (σ.at_ t.box + valO σ.num t.o1) * 2 + 1, none⟩) (fun _ => rfl) _
    have hm2 := hM.m.fr hF (fun e => h.h.ne (by unfold OneB at e; exact e))
    refine ⟨rfl, ⟨_, _, tv, ⟨?_, hM.h.setVal (by omega) _, hM.b.store hM.ap ht.b hl, hM.ap.less (fun i hi => ?_) rfl, ?_, hF.owns hM.tr (fun g hg e => h.nr g hg (by unfold OneB at e; exact e)), h.tk, h.mb, h.rb, h.nm, h.nr, h.nxb⟩⟩, (frM_no hW).trans (hF.mono (fun q _ e => by unfold OneB at e; unfold FrM; have := h.rb; omega))⟩
    · have e1 : mxOf { σ with bx := upB σ.bx t.box ((σ.bx t.box).set (valO σ.num t.o1) (valO σ.num t.o2)) } nx (!true) tv = mxOf σ nx false tv := by
        unfold mxOf
        simp only [Mx.mk.injEq, true_and, and_true]
        refine ⟨?_, ?_, rfl⟩
        · funext i
          by_cases e : i = t.box
          · subst e; rw [upB_at, if_neg hne, if_neg (fun q => hne ((List.set_eq_nil_iff _ _).1 q))]
          · rw [upB_ne _ _ e]
        · funext i
          by_cases e : i = t.box
          · subst e; rw [upB_at, List.length_set]
          · rw [upB_ne _ _ e]
      rw [e1]
      exact hm2
    · have hi' : upB σ.bx t.box ((σ.bx t.box).set (valO σ.num t.o1) (valO σ.num t.o2)) i ≠ [] := hi
      show σ.bx i ≠ [] ∧ (upB σ.bx t.box ((σ.bx t.box).set (valO σ.num t.o1) (valO σ.num t.o2)) i).length = (σ.bx i).length
      by_cases e : i = t.box
      · subst e; rw [upB_at]; exact ⟨hne, by simp⟩
      · rw [upB_ne _ _ e] at hi' ⊢; exact ⟨hi', rfl⟩
    · exact h.ok.box (fun u hu => by
        rcases List.mem_or_eq_of_mem_set hu with q | q
        · exact h.ok.wd _ _ q
        · rw [q]; exact hx) (by rw [List.length_set]; exact h.ok.sz _)
  unfold ptV
  obtain ⟨kind, place, num, box, src, o1, sign, o2, opn⟩ := t
  simp only [] at *
  generalize valO σ.num o1 = v at *
  generalize valO σ.num o2 = v2 at *
  generalize odB o1 = b1 at *
  generalize odI o1 = x1 at *
  generalize odB o2 = b2 at *
  generalize odI o2 = x2 at *
  generalize σ.at_ box + v = at0 at *
  generalize ({ σ with bx := upB σ.bx box ((σ.bx box).set v v2) } : St) = τ at *
  clear h ht hl hne hon hin
  go_enter Tryd.func61, Tryd.ntmps61
  go_upto_region 1 with fail
  obtain ⟨hFA, HPA⟩ := box_new w kind place num box src b1 x1 sign b2 x2 opn clo
  generalize w.alloc (Obj.cells #[.int .i64 (kind : Int), .int .i64 (place : Int), .int .i64 (num : Int), .int .i64 (box : Int), .int .i64 (src : Int), .bool b1, .int .i64 (x1 : Int), .int .u8 (sign : Int), .bool b2, .int .i64 (x2 : Int), .int .i64 (opn : Int), .int .i64 (clo : Int)] 60) = W1 at hFA HPA ⊢
  generalize w.heap.size = q at HPA ⊢
  have c3 := HPA.out.c3
  have c5 := HPA.out.c5
  have c6 := HPA.out.c6
  have c8 := HPA.out.c8
  have c9 := HPA.out.c9
  go_region_with (first | (go_at_call 57; refine (HV.out _ (hFA.drew)).mono ?_; rintro e w2 ⟨rfl, hF2⟩; have d3 := (((Fr.refl NoB W1).drew).trans hF2).cell_some c3 id) | (go_at_call 66; refine (HW.out _ ((hFA.drew).trans hF2)).mono ?_; rintro e w3 ⟨rfl, hF3⟩))
  all_goals
    have hFX : Fr NoB w w3 := ((hFA.drew).trans hF2).trans hF3
    have d8 := ((((Fr.refl NoB W1).drew).trans hF2).trans hF3).cell_some c8 id
    have d9 := ((((Fr.refl NoB W1).drew).trans hF2).trans hF3).cell_some c9 id
    go_wp2
    go_region_with (first | (go_at_call 57; refine (HV2.out _ (hFX.drew)).mono ?_; rintro e w4 ⟨rfl, hF4⟩) | (go_at_call 70; refine (HL.out _ ((hFX.drew).trans hF4)).mono ?_; rintro e w5 ⟨rfl, hh⟩; have HH : Hid _ := hh; clear hh))
    all_goals
      go_wp2
      go_end0
      exact ⟨rfl, HH.out⟩
end
end Go.Proofs.YtcmnejcojphijaaDoor

namespace Go.Proofs.YtcmnejcojphijaaDoor
open Go.RowKit
set_option linter.unusedVariables false

shelf_lay LaysM.n243 Nm 243 at Tryd as lays243
def TabOk (w : World) : Prop := Lib.TabIs Tryd.prog w "internal/strconv.uint64pow10" .u64 Lib.pow10Tab
theorem itoa_raw (v : Nat) (hv : v < 1000) (w : World) (h : TabOk w) : Calls Tryd.prog 72 #[.int .i64 (v : Int)] w fun e w' => e = .returned (.string ⟨(Lib.itoa (v : Int)).toArray⟩) ∧ ∃ k os, w' = Sort.grow (w.drewN k) os := Any.internal_strconv_Itoa lays243 (v : Int) (by omega) (by omega) w h
theorem dec_dig : ∀ (f u : Nat), u < 10 ^ (f + 1) → Lib.decDigits u = (digF f u).map UInt8.ofNat
  | 0, u, h => by
    rw [Lib.decDigits, dif_pos (by omega)]
    show _ = [UInt8.ofNat (48 + u % 10)]
    rw [Nat.mod_eq_of_lt (by omega)]
  | f + 1, u, h => by
    rw [Lib.decDigits]
    unfold digF
    by_cases hu : u < 10
    · rw [dif_pos hu, if_pos hu, Nat.mod_eq_of_lt hu]; rfl
    · rw [dif_neg hu, if_neg hu, dec_dig f (u / 10) (by rw [Nat.pow_succ] at h; omega)]
      simp
theorem fr_grow {w : World} (k : Nat) (os : Array Obj) : Fr NoB w (Sort.grow (w.drewN k) os) :=
  ((Fr.refl NoB w).drewN k).trans ⟨rfl, rfl, rfl, by simp [Sort.grow], fun i hi _ => by
    unfold Sort.grow
    exact Array.getElem?_append_left hi⟩
set_option maxHeartbeats 400000 in
theorem itoa_fn (v : Nat) (hv : v < 1000) (w : World) (h : TabOk w) : Calls Tryd.prog 65 #[.int .i64 (v : Int)] w fun e w' => e = .returned (.string (trB (digF 3 v))) ∧ Fr NoB w w' := by
  have HI : Hid _ := itoa_raw v hv w h
  have hd : (⟨(Lib.itoa (v : Int)).toArray⟩ : ByteArray) = trB (digF 3 v) := by
    unfold Lib.itoa trB
    rw [if_neg (by omega), show ((v : Int)).toNat = v from rfl, dec_dig 3 v (by omega)]
  rw [hd] at HI
  generalize trB (digF 3 v) = D at *
  clear h hd
  go_enter Tryd.func65, Tryd.ntmps65
  go_wp2_with (go_at_call 72; refine Calls.mono HI.out ?_; rintro e w1 ⟨rfl, k, os, hw⟩; have hF : Fr NoB w w1 := (hw ▸ fr_grow k os); clear hw)
  go_ret
  exact ⟨rfl, hF⟩
end Go.Proofs.YtcmnejcojphijaaDoor
