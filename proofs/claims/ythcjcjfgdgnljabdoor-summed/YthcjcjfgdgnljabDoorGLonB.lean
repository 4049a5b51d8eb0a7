/-
  LwrE, LwrG, LwrH, BegA, KeepA, LonB: one behind the other.
-/
import Derived.Test.YthcjcjfgdgnljabDoorGLwrD
import Derived.Test.YthcjcjfgdgnljabDoorGLwrF
import Derived.Test.YthcjcjfgdgnljabDoorGRel
import Derived.Deep.QuietTactic
import Derived.BigQuiet
namespace Go.Proofs.YthcjcjfgdgnljabDoor
open Go.RowKit Go.Lib
set_option linter.unusedVariables false

theorem mk_minus (f g : Nat → Bool) : msk f &&& (2 ^ 32 - 1 - msk g) = msk (minusF f g) := by
  apply Nat.eq_of_testBit_eq
  intro i
  have hlt : msk g < 2 ^ 32 := by have := mk_lt g; omega
  rw [Nat.testBit_and, mk_bit, mk_bit, show 2 ^ 32 - 1 - msk g = 2 ^ 32 - (msk g + 1) by omega, Nat.testBit_two_pow_sub_succ hlt, mk_bit]
  unfold minusF
  by_cases q : i < 26
  · have : i < 32 := by omega
    simp [q, this]
  · simp [q]
theorem bits_minus (f g : Nat → Bool) : bits BinOp.andNot IntKind.u32 (msk f : Int) (msk g : Int) = (msk (minusF f g) : Int) := by
  have h1 : ∀ f : Nat → Bool, (BitVec.ofInt 32 (msk f : Int)).toNat = msk f := fun f => by
    rw [BitVec.ofInt_natCast, BitVec.toNat_ofNat]; exact Nat.mod_eq_of_lt (by have := mk_lt f; omega)
  show IntKind.u32.wrap ((BitVec.ofInt 32 (msk f : Int) &&& ~~~ BitVec.ofInt 32 (msk g : Int)).toNat : Int) = _
  rw [BitVec.toNat_and, BitVec.toNat_not, h1, h1, mk_minus, IntKind.wrap_u32]
  have := mk_lt (minusF f g)
  omega
theorem retM {x y : Nat → Bool} (h : x = y) : Ending.returned (.int .u32 (msk y : Int)) = .returned (.int .u32 (msk x : Int)) := by rw [h]
theorem msk_one {k : Nat} (hk : k < 26) : msk (oneF k) = 1 <<< k := Nat.eq_of_testBit_eq fun i => by
  rw [mk_bit, one_bit]
  unfold oneF
  by_cases e : i = k
  · subst e; simp [hk]
  · simp [e]
set_option maxHeartbeats 1000000 in
theorem pgets_fn (w : World) (kind place num box src x1 sign x2 opn clo : Nat) (b1 b2 : Bool) (o1 o2 : Od) :
    Calls Tryd.prog 37 #[.agg #[.int .i64 (kind : Int), .int .i64 (place : Int), .int .i64 (num : Int), .int .i64 (box : Int), .int .i64 (src : Int), .bool b1, .int .i64 (x1 : Int), .int .u8 (sign : Int), .bool b2, .int .i64 (x2 : Int), .int .i64 (opn : Int), .int .i64 (clo : Int)]] w fun e w' => e = .returned (.bool (getsB ⟨kind, place, num, box, src, o1, sign, o2, opn⟩)) ∧ Fr NoB w w' := by
  have hG : getsB ⟨kind, place, num, box, src, o1, sign, o2, opn⟩ = (decide (kind = 4) || (decide (kind = 5) && decide (box ≠ src))) := rfl
  rw [hG]
  clear hG
  by_cases h4 : kind = 4
  · subst h4
    go_enter Tryd.func37, Tryd.ntmps37
    go_wp2
    go_ret
    exact ⟨by simp, by repeat (first | exact Fr.refl _ _ | refine Fr.drewN ?_ _ | refine Fr.drew ?_ | refine Fr.alloc ?_ _)⟩
  · have c4 : ((kind : Int) == 4) = false := beq_eq_false_iff_ne.2 (by omega)
    by_cases h5 : kind = 5
    · subst h5
      by_cases hne : box = src
      · subst hne
        have cn : ((box : Int) != (box : Int)) = false := by simp
        go_enter Tryd.func37, Tryd.ntmps37
        go_wp2
        go_ret
        exact ⟨by simp, by repeat (first | exact Fr.refl _ _ | refine Fr.drewN ?_ _ | refine Fr.drew ?_ | refine Fr.alloc ?_ _)⟩
      · have cn : ((box : Int) != (src : Int)) = true := bne_iff_ne.2 (by omega)
        have HN : Hid (box ≠ src) := hne
        clear hne
        go_enter Tryd.func37, Tryd.ntmps37
        go_wp2
        go_ret
        exact ⟨by simp [HN.out], by repeat (first | exact Fr.refl _ _ | refine Fr.drewN ?_ _ | refine Fr.drew ?_ | refine Fr.alloc ?_ _)⟩
    · have c5 : ((kind : Int) == 5) = false := beq_eq_false_iff_ne.2 (by omega)
      have HN : Hid (¬ kind = 4 ∧ ¬ kind = 5) := ⟨h4, h5⟩
      clear h4 h5
      go_enter Tryd.func37, Tryd.ntmps37
      go_wp2
      go_ret
      exact ⟨by simp [HN.out.1, HN.out.2], by repeat (first | exact Fr.refl _ _ | refine Fr.drewN ?_ _ | refine Fr.drew ?_ | refine Fr.alloc ?_ _)⟩
set_option maxRecDepth 8000 in
set_option maxHeartbeats 4000000 in
theorem surplus_fn (w : World) (ao : Option Addr) (ga n pc ac i : Nat) (p : Nat → Pt) (C : Nat → Nat) (A B : Nat → Nat → Bool) (hn : n ≤ 100000) (hlt : i < n) (hok : PtOk (p i)) (hmid : (p i).kind = 9 → C i < n) (hP : PartRow w ao n p C) (hA : Arnd w ga n A B) :
    Calls Tryd.prog 20 #[.slice ao n pc, .slice (some ⟨ga, 0, none⟩) n ac, .int .i64 (i : Int)] w fun e w' => e = .returned (.int .u32 (msk (surN p C A B i) : Int)) ∧ Fr NoB w w' := by
  obtain ⟨g, rfl⟩ := hP.some_ (by omega)
  have d0 : w.cell? ⟨g, i * 12, none⟩ = _ := hP.c g i 0 _ hlt rfl rfl
  have d1 := hP.c g i 1 _ hlt rfl rfl
  have d2 := hP.c g i 2 _ hlt rfl rfl
  have d3 := hP.c g i 3 _ hlt rfl rfl
  have d4 := hP.c g i 4 _ hlt rfl rfl
  have d5 := hP.c g i 5 _ hlt rfl rfl
  have d6 := hP.c g i 6 _ hlt rfl rfl
  have d7 := hP.c g i 7 _ hlt rfl rfl
  have d8 := hP.c g i 8 _ hlt rfl rfl
  have d9 := hP.c g i 9 _ hlt rfl rfl
  have d10 := hP.c g i 10 _ hlt rfl rfl
  have d11 := hP.c g i 11 _ hlt rfl rfl
  have hgl3 : g < w.heap.size := World.block_lt_of_cell? _ _ d0
  have e1 := hA.a i hlt
  have HA : Hid (Arnd w ga n A B) := hA
  have hbx : (p i).box < 26 := hok.b
  have hsur : surN p C A B i = if getsB (p i) = true then bothF (A i) (oneF (p i).box) else if (p i).kind = 9 then minusF (A i) (B (C i)) else if (p i).kind = 10 ∨ (p i).kind = 11 ∨ (p i).kind = 12 then minusF (A i) (B i) else noF := rfl
  have Hsur : Hid _ := hsur
  clear hsur hP hA hok
  generalize surN p C A B i = S at *
  generalize hpi : p i = t at *
  clear hpi
  obtain ⟨kind, place, num, box, src, o1, sign, o2, opn⟩ := t
  simp only [] at d0 d1 d2 d3 d4 d5 d6 d7 d8 d9 d10 d11 hmid hbx
  generalize C i = clo at *
  generalize hb1 : odB o1 = b1 at *
  generalize hx1 : odI o1 = x1 at *
  generalize hb2 : odB o2 = b2 at *
  generalize hx2 : odI o2 = x2 at *
  clear hb1 hx1 hb2 hx2
  have HG : Hid _ := fun X => pgets_fn X kind place num box src x1 sign x2 opn clo b1 b2 o1 o2
  have HO : Hid _ := fun X => only_in X box hbx
  have HM : Hid _ := msk_one hbx
  go_enter Tryd.func20, Tryd.ntmps20
  go_upto_region 2 with fail
  have K0 : Fr NoB w (w.alloc (Obj.cells #[Value.int .i64 (kind : Int), Value.int .i64 (place : Int), Value.int .i64 (num : Int), Value.int .i64 (box : Int), Value.int .i64 (src : Int), Value.bool b1, Value.int .i64 (x1 : Int), Value.int .u8 (sign : Int), Value.bool b2, Value.int .i64 (x2 : Int), Value.int .i64 (opn : Int), Value.int .i64 (clo : Int)] 62)) := (Fr.refl NoB w).alloc _
  have k0 : (w.alloc (Obj.cells #[Value.int .i64 (kind : Int), Value.int .i64 (place : Int), Value.int .i64 (num : Int), Value.int .i64 (box : Int), Value.int .i64 (src : Int), Value.bool b1, Value.int .i64 (x1 : Int), Value.int .u8 (sign : Int), Value.bool b2, Value.int .i64 (x2 : Int), Value.int .i64 (opn : Int), Value.int .i64 (clo : Int)] 62)).cell? ⟨w.heap.size, 0, none⟩ = some (.int .i64 (kind : Int)) := cell_new _ _ _ rfl rfl
  have k1 : (w.alloc (Obj.cells #[Value.int .i64 (kind : Int), Value.int .i64 (place : Int), Value.int .i64 (num : Int), Value.int .i64 (box : Int), Value.int .i64 (src : Int), Value.bool b1, Value.int .i64 (x1 : Int), Value.int .u8 (sign : Int), Value.bool b2, Value.int .i64 (x2 : Int), Value.int .i64 (opn : Int), Value.int .i64 (clo : Int)] 62)).cell? ⟨w.heap.size, 1, none⟩ = some (.int .i64 (place : Int)) := cell_new _ _ _ rfl rfl
  have k2 : (w.alloc (Obj.cells #[Value.int .i64 (kind : Int), Value.int .i64 (place : Int), Value.int .i64 (num : Int), Value.int .i64 (box : Int), Value.int .i64 (src : Int), Value.bool b1, Value.int .i64 (x1 : Int), Value.int .u8 (sign : Int), Value.bool b2, Value.int .i64 (x2 : Int), Value.int .i64 (opn : Int), Value.int .i64 (clo : Int)] 62)).cell? ⟨w.heap.size, 2, none⟩ = some (.int .i64 (num : Int)) := cell_new _ _ _ rfl rfl
  have k3 : (w.alloc (Obj.cells #[Value.int .i64 (kind : Int), Value.int .i64 (place : Int), Value.int .i64 (num : Int), Value.int .i64 (box : Int), Value.int .i64 (src : Int), Value.bool b1, Value.int .i64 (x1 : Int), Value.int .u8 (sign : Int), Value.bool b2, Value.int .i64 (x2 : Int), Value.int .i64 (opn : Int), Value.int .i64 (clo : Int)] 62)).cell? ⟨w.heap.size, 3, none⟩ = some (.int .i64 (box : Int)) := cell_new _ _ _ rfl rfl
  have k4 : (w.alloc (Obj.cells #[Value.int .i64 (kind : Int), Value.int .i64 (place : Int), Value.int .i64 (num : Int), Value.int .i64 (box : Int), Value.int .i64 (src : Int), Value.bool b1, Value.int .i64 (x1 : Int), Value.int .u8 (sign : Int), Value.bool b2, Value.int .i64 (x2 : Int), Value.int .i64 (opn : Int), Value.int .i64 (clo : Int)] 62)).cell? ⟨w.heap.size, 4, none⟩ = some (.int .i64 (src : Int)) := cell_new _ _ _ rfl rfl
  have k5 : (w.alloc (Obj.cells #[Value.int .i64 (kind : Int), Value.int .i64 (place : Int), Value.int .i64 (num : Int), Value.int .i64 (box : Int), Value.int .i64 (src : Int), Value.bool b1, Value.int .i64 (x1 : Int), Value.int .u8 (sign : Int), Value.bool b2, Value.int .i64 (x2 : Int), Value.int .i64 (opn : Int), Value.int .i64 (clo : Int)] 62)).cell? ⟨w.heap.size, 5, none⟩ = some (.bool b1) := cell_new _ _ _ rfl rfl
  have k6 : (w.alloc (Obj.cells #[Value.int .i64 (kind : Int), Value.int .i64 (place : Int), Value.int .i64 (num : Int), Value.int .i64 (box : Int), Value.int .i64 (src : Int), Value.bool b1, Value.int .i64 (x1 : Int), Value.int .u8 (sign : Int), Value.bool b2, Value.int .i64 (x2 : Int), Value.int .i64 (opn : Int), Value.int .i64 (clo : Int)] 62)).cell? ⟨w.heap.size, 6, none⟩ = some (.int .i64 (x1 : Int)) := cell_new _ _ _ rfl rfl
  have k7 : (w.alloc (Obj.cells #[Value.int .i64 (kind : Int), Value.int .i64 (place : Int), Value.int .i64 (num : Int), Value.int .i64 (box : Int), Value.int .i64 (src : Int), Value.bool b1, Value.int .i64 (x1 : Int), Value.int .u8 (sign : Int), Value.bool b2, Value.int .i64 (x2 : Int), Value.int .i64 (opn : Int), Value.int .i64 (clo : Int)] 62)).cell? ⟨w.heap.size, 7, none⟩ = some (.int .u8 (sign : Int)) := cell_new _ _ _ rfl rfl
  have k8 : (w.alloc (Obj.cells #[Value.int .i64 (kind : Int), Value.int .i64 (place : Int), Value.int .i64 (num : Int), Value.int .i64 (box : Int), Value.int .i64 (src : Int), Value.bool b1, Value.int .i64 (x1 : Int), Value.int .u8 (sign : Int), Value.bool b2, Value.int .i64 (x2 : Int), Value.int .i64 (opn : Int), Value.int .i64 (clo : Int)] 62)).cell? ⟨w.heap.size, 8, none⟩ = some (.bool b2) := cell_new _ _ _ rfl rfl
  have k9 : (w.alloc (Obj.cells #[Value.int .i64 (kind : Int), Value.int .i64 (place : Int), Value.int .i64 (num : Int), Value.int .i64 (box : Int), Value.int .i64 (src : Int), Value.bool b1, Value.int .i64 (x1 : Int), Value.int .u8 (sign : Int), Value.bool b2, Value.int .i64 (x2 : Int), Value.int .i64 (opn : Int), Value.int .i64 (clo : Int)] 62)).cell? ⟨w.heap.size, 9, none⟩ = some (.int .i64 (x2 : Int)) := cell_new _ _ _ rfl rfl
  have k10 : (w.alloc (Obj.cells #[Value.int .i64 (kind : Int), Value.int .i64 (place : Int), Value.int .i64 (num : Int), Value.int .i64 (box : Int), Value.int .i64 (src : Int), Value.bool b1, Value.int .i64 (x1 : Int), Value.int .u8 (sign : Int), Value.bool b2, Value.int .i64 (x2 : Int), Value.int .i64 (opn : Int), Value.int .i64 (clo : Int)] 62)).cell? ⟨w.heap.size, 10, none⟩ = some (.int .i64 (opn : Int)) := cell_new _ _ _ rfl rfl
  have k11 : (w.alloc (Obj.cells #[Value.int .i64 (kind : Int), Value.int .i64 (place : Int), Value.int .i64 (num : Int), Value.int .i64 (box : Int), Value.int .i64 (src : Int), Value.bool b1, Value.int .i64 (x1 : Int), Value.int .u8 (sign : Int), Value.bool b2, Value.int .i64 (x2 : Int), Value.int .i64 (opn : Int), Value.int .i64 (clo : Int)] 62)).cell? ⟨w.heap.size, 11, none⟩ = some (.int .i64 (clo : Int)) := cell_new _ _ _ rfl rfl
  have m1 := K0.cell_some e1 id
  have HAk : Hid _ := fun (hl : ga < w.heap.size) => HA.out.no K0 hl
  have hgl : ga < w.heap.size := World.block_lt_of_cell? _ _ e1
  have HA1 : Hid _ := HAk.out hgl
  generalize (w.alloc (Obj.cells #[Value.int .i64 (kind : Int), Value.int .i64 (place : Int), Value.int .i64 (num : Int), Value.int .i64 (box : Int), Value.int .i64 (src : Int), Value.bool b1, Value.int .i64 (x1 : Int), Value.int .u8 (sign : Int), Value.bool b2, Value.int .i64 (x2 : Int), Value.int .i64 (opn : Int), Value.int .i64 (clo : Int)] 62)) = W1 at *
  generalize hpb : w.heap.size = pb at *
  have HK0 : Hid (Fr NoB w W1) := K0
  clear K0 d0 d1 d2 d3 d4 d5 d6 d7 d8 d9 d10 d11 e1 HA hpb HAk
  cases hg : getsB ⟨kind, place, num, box, src, o1, sign, o2, opn⟩
  · rw [hg] at HG Hsur
    clear hg HO HM
    by_cases h9 : kind = 9
    · subst h9
      have hcl : clo < n := hmid rfl
      have HE : Hid (S = minusF (A i) (B clo)) := by show S = _; rw [Hsur.out]; rfl
      have hbits := bits_minus (A i) (B clo)
      have c2 := HA1.out.b clo hcl
      clear Hsur hmid
      go_wp2_with (go_at_call 37; refine (HG.out _).mono ?_; rintro e w2 ⟨rfl, hF2⟩; have k0' := hF2.cell_some k0 id; have k11' := hF2.cell_some k11 id; have c2' := hF2.cell_some c2 id)
      go_ret
      exact ⟨retM HE.out, HK0.out.trans hF2⟩
    · have b9 : ((kind : Int) == 9) = false := beq_eq_false_iff_ne.2 (by omega)
      have c2 := HA1.out.b i hlt
      have hbits := bits_minus (A i) (B i)
      by_cases h10 : kind = 10
      · have HE : Hid (S = minusF (A i) (B i)) := by show S = _; rw [Hsur.out, if_neg (by simp), if_neg h9, if_pos (.inl h10)]
        have b10 : ((kind : Int) == 10) = true := beq_iff_eq.2 (by omega)
        clear Hsur hmid h9 h10
        go_wp2_with (go_at_call 37; refine (HG.out _).mono ?_; rintro e w2 ⟨rfl, hF2⟩; have k0' := hF2.cell_some k0 id; have c2' := hF2.cell_some c2 id)
        go_ret
        exact ⟨retM HE.out, HK0.out.trans hF2⟩
      · have b10 : ((kind : Int) == 10) = false := beq_eq_false_iff_ne.2 (by omega)
        by_cases h11 : kind = 11
        · have HE : Hid (S = minusF (A i) (B i)) := by show S = _; rw [Hsur.out, if_neg (by simp), if_neg h9, if_pos (.inr (.inl h11))]
          have b11 : ((kind : Int) == 11) = true := beq_iff_eq.2 (by omega)
          clear Hsur hmid h9 h10 h11
          go_wp2_with (go_at_call 37; refine (HG.out _).mono ?_; rintro e w2 ⟨rfl, hF2⟩; have k0' := hF2.cell_some k0 id; have c2' := hF2.cell_some c2 id)
          go_ret
          exact ⟨retM HE.out, HK0.out.trans hF2⟩
        · have b11 : ((kind : Int) == 11) = false := beq_eq_false_iff_ne.2 (by omega)
          by_cases h12 : kind = 12
          · have HE : Hid (S = minusF (A i) (B i)) := by show S = _; rw [Hsur.out, if_neg (by simp), if_neg h9, if_pos (.inr (.inr h12))]
            have b12 : ((kind : Int) == 12) = true := beq_iff_eq.2 (by omega)
            clear Hsur hmid h9 h10 h11 h12
            go_wp2_with (go_at_call 37; refine (HG.out _).mono ?_; rintro e w2 ⟨rfl, hF2⟩; have k0' := hF2.cell_some k0 id; have c2' := hF2.cell_some c2 id)
            go_ret
            exact ⟨retM HE.out, HK0.out.trans hF2⟩
          · have b12 : ((kind : Int) == 12) = false := beq_eq_false_iff_ne.2 (by omega)
            have HE : Hid (S = noF) := by show S = _; rw [Hsur.out, if_neg (by simp), if_neg h9, if_neg (by simp only []; omega)]
            have HZ : Hid (msk noF = 0) := msk_none
            clear Hsur hmid h9 h10 h11 h12 hbits
            go_wp2_with (go_at_call 37; refine (HG.out _).mono ?_; rintro e w2 ⟨rfl, hF2⟩; have k0' := hF2.cell_some k0 id)
            go_ret
            exact ⟨by rw [HE.out, HZ.out]; rfl, HK0.out.trans hF2⟩
  · rw [hg] at HG Hsur
    have HE : Hid (S = bothF (A i) (oneF box)) := by show S = _; rw [Hsur.out]; rfl
    have hbits := bits_and (A i) (oneF box)
    rw [HM.out] at hbits
    generalize ((1 <<< box : Nat) : Int) = Q at *
    clear Hsur hmid hg HM
    go_wp2_with (first | (go_at_call 37; refine (HG.out _).mono ?_; rintro e w2 ⟨rfl, hF2⟩; have k3' := hF2.cell_some k3 id) | (go_at_call 38; refine (HO.out _).mono ?_; rintro e w3 ⟨rfl, hw⟩; have hw2 := hw.symm; clear hw; subst hw2))
    go_ret
    exact ⟨retM HE.out, HK0.out.trans hF2⟩
theorem atEnd_fn (w : World) (ga n ac : Nat) (A B : Nat → Nat → Bool) (hn : n ≤ 100000) (hA : Arnd w ga n A B) :
    Calls Tryd.prog 21 #[.slice (some ⟨ga, 0, none⟩) n ac] w fun e w' => e = .returned (.int .u32 (msk (if n = 0 then noF else B (n - 1)) : Int)) ∧ Fr NoB w w' := by
  by_cases h0 : n = 0
  · subst h0
    have HZ : Hid (msk noF = 0) := msk_none
    rw [if_pos rfl, HZ.out]
    go_enter Tryd.func21, Tryd.ntmps21
    go_wp2
    go_ret
    exact ⟨rfl, Fr.refl _ _⟩
  · rw [if_neg h0]
    have c1 := hA.b (n - 1) (by omega)
    obtain ⟨m, rfl⟩ : ∃ m, n = m + 1 := ⟨n - 1, by omega⟩
    rw [Nat.add_sub_cancel] at c1 ⊢
    clear hA h0
    generalize msk (B m) = K at *
    go_enter Tryd.func21, Tryd.ntmps21
    go_wp2
    go_ret
    exact ⟨rfl, Fr.refl _ _⟩
end Go.Proofs.YthcjcjfgdgnljabDoor

namespace Go.Proofs.YthcjcjfgdgnljabDoor
open Go.RowKit Go.Lib
set_option linter.unusedVariables false

theorem endB_size (f : Nat → Bool) : (endB f).size ≤ 78 := drsT_size f noF 26
theorem atEnd_zero (w : World) (ga ac : Nat) (B : Nat → Nat → Bool) :
    Calls Tryd.prog 21 #[.slice (some ⟨ga, 0, none⟩) 0 ac] w fun e w' => e = .returned (.int .u32 (msk (if (0 : Nat) = 0 then noF else B (0 - 1)) : Int)) ∧ Fr NoB w w' := by
  have HZ : Hid (msk noF = 0) := msk_none
  rw [if_pos rfl, HZ.out]
  go_enter Tryd.func21, Tryd.ntmps21
  go_wp2
  go_ret
  exact ⟨rfl, Fr.refl _ _⟩
theorem retS2 {a b : ByteArray} (h : a = b) : Ending.returned (.string a) = .returned (.string b) := by rw [h]
/-- a byte comes behind the text -/
theorem wt_grow {w w' : World} {wp base pl : Nat} {tv tv' : Value} {T s : ByteArray} {b : Nat} {o : Obj} (h : WT w wp base tv T) (hk : AppKind (w.alloc o).drew w' tv tv' T.size 1) (ho : w'.ownsRow base 5 1 tv' (T.size + 1) (strCells T ++ [.int .u8 (b : Int)])) (h1 : strCells (s.extract pl (pl + 1)) = [.int .u8 (b : Int)]) (hl : pl < s.size) :
    w'.cell? ⟨wp, 0, none⟩ = some tv ∧ w'.frozen? ⟨wp, 0, none⟩ = false ∧ WT (w'.setCell ⟨wp, 0, none⟩ tv') wp base tv' (T ++ s.extract pl (pl + 1)) ∧ Fr (WS base) w (w'.setCell ⟨wp, 0, none⟩ tv') := by
  have hfa : Fr NoB w (w.alloc o).drew := ((Fr.refl _ _).alloc _).drew
  have hWa := h.no hfa
  obtain ⟨hW6, hF6⟩ := hWa.app (X := s.extract pl (pl + 1)) hk (by rw [h1]; exact ho) (by rw [size_ext (by omega) (by omega)]; omega)
  have hfr := hk.fr
  exact ⟨hfr.cell_some hWa.ct (fun e => hWa.nm _ e rfl), (hfr.frozen (p := ⟨wp, 0, none⟩) hWa.lt (fun e => hWa.nm _ e rfl)).trans (hWa.fz 0), hW6, (hfa.mono (fun k _ e => e.elim)).trans hF6⟩
set_option maxRecDepth 8000 in
set_option maxHeartbeats 4000000 in
theorem text_fn (w : World) (s : ByteArray) (ao : Option Addr) (n pc ga ac : Nat) (p : Nat → Pt) (C : Nat → Nat) (A B : Nat → Nat → Bool) (hs : s.size ≤ 1000) (hn : n ≤ 100000) (hok : FlatOk p n) (hmid : ∀ i, i < n → (p i).kind = 9 → C i < n) (hP : PartRow w ao n p C) (hA : Arnd w ga n A B) (hgl : ∀ g, ao = some ⟨g, 0, none⟩ → g < w.heap.size) (hga : 0 < n → ga < w.heap.size) :
    Calls Tryd.prog 12 #[.string s, .slice ao n pc, .slice (some ⟨ga, 0, none⟩) n ac] w fun e w' => e = .returned (.string ((txN s p n (fun q => endB (surN p C A B q)) s.size).2 ++ endB (if n = 0 then noF else B (n - 1)))) ∧ Fr NoB w w' := by
  obtain ⟨i0, hi0, hz0, hz1, hz2⟩ := info_parts Tryd.infoU8b
  have hfin : ∀ {X : World}, Fr (WS w.heap.size) w X → Fr NoB w X := fun h => h.mono (fun k hk e => by unfold WS at e; omega)
  have HPr : Hid (∀ X, Fr (WS w.heap.size) w X → PartRow X ao n p C) := fun X hX => hP.no (hfin hX)
  have HSu : Hid (∀ X, Fr (WS w.heap.size) w X → ∀ i, i < n → Calls Tryd.prog 20 #[.slice ao n pc, .slice (some ⟨ga, 0, none⟩) n ac, .int .i64 (i : Int)] X fun e w' => e = .returned (.int .u32 (msk (surN p C A B i) : Int)) ∧ Fr NoB X w') := fun X hX i hi => surplus_fn X ao ga n pc ac i p C A B hn hi (hok.ok i hi) (hmid i hi) (hP.no (hfin hX)) (hA.no (hfin hX) (hga (by omega)))
  have HAE : Hid (∀ X, Fr (WS w.heap.size) w X → Calls Tryd.prog 21 #[.slice (some ⟨ga, 0, none⟩) n ac] X fun e w' => e = .returned (.int .u32 (msk (if n = 0 then noF else B (n - 1)) : Int)) ∧ Fr NoB X w') := fun X hX => by
    by_cases h0 : n = 0
    · subst h0
      exact atEnd_zero X ga ac B
    · exact atEnd_fn X ga n ac A B hn (hA.no (hfin hX) (hga (by omega)))
  have HEn : Hid (∀ (X : World) (tv : Value) (T : ByteArray) (f : Nat → Bool), WT X w.heap.size w.heap.size tv T → T.size ≤ 90000 → Calls Tryd.prog 19 #[.pointer (some ⟨w.heap.size, 0, none⟩), .int .u32 (msk f : Int)] X fun e w' => e = .returned (.tuple #[]) ∧ (∃ tv', WT w' w.heap.size w.heap.size tv' (T ++ endB f)) ∧ Fr (WS w.heap.size) X w') := fun X tv T f h hT => wends_fn X w.heap.size w.heap.size tv T f h hT
  have HFn : Hid (∀ X, Fr (WS w.heap.size) w X → Fr NoB w X) := fun X h => hfin h
  have H0 : Hid (WT (w.alloc (Obj.cells #[.slice none 0 0] 58)) w.heap.size w.heap.size (.slice none 0 0) ⟨#[]⟩ ∧ Fr (WS w.heap.size) w (w.alloc (Obj.cells #[.slice none 0 0] 58))) :=
    ⟨⟨cell_new _ _ _ rfl rfl, fun o => World.frozen?_alloc_at _ _ _ _ rfl, ⟨rfl, .inl ⟨rfl, rfl⟩⟩, Nat.le_refl _, by simp, fun g hg => by cases hg⟩, (Fr.refl _ _).alloc _⟩
  have Hok : Hid _ := hok
  obtain ⟨E, hE⟩ : ∃ E : Nat → ByteArray, E = fun q => endB (surN p C A B q) := ⟨_, rfl⟩
  rw [← hE]
  have HEE : Hid (∀ k, endB (surN p C A B k) = E k ∧ (E k).size ≤ 78) := fun k => by rw [hE]; exact ⟨rfl, endB_size _⟩
  clear hE
  generalize (if n = 0 then noF else B (n - 1)) = L at *
  clear hP hA hok hmid hgl hga hfin
  go_enter Tryd.func12, Tryd.ntmps12
  go_wp2
  generalize (w.alloc (Obj.cells #[Value.slice none 0 0] 58)) = W at *
  go_loopg [8, 9] s.size (fun q t u wr => ∃ (k pl : Nat) (tv : Value) (T : ByteArray), q + pl = s.size ∧ t = .int .i64 k ∧ u = .int .i64 pl ∧ k ≤ n ∧ txN s p n E pl = (k, T) ∧ T.size ≤ 79 * pl ∧ WT wr w.heap.size w.heap.size tv T ∧ Fr (WS w.heap.size) w wr)
  case atStart => exact ⟨0, 0, _, ⟨#[]⟩, by omega, rfl, rfl, Nat.zero_le _, rfl, Nat.zero_le _, H0.out.1, H0.out.2⟩
  case round =>
    obtain ⟨k, pl, tv, T, hq, rfl, rfl, hk, htx, hTs, hW, hF⟩ := hrel
    have Htx : Hid _ := htx
    have HW : Hid _ := hW
    have HF : Hid _ := hF
    clear htx hW hF H0
    by_cases hlt : pl < s.size
    · have hone := str_one s hlt
      have hb0 := bt_in hlt
      rw [hb0] at hone
      have Hone : Hid _ := hone
      clear hone hb0
      by_cases hn2 : k < n ∧ (p k).place = pl
      · obtain ⟨hkn, hpl⟩ := hn2
        obtain ⟨g, hg⟩ := (HPr.out wr HF.out).some_ (by omega)
        have d1 := (HPr.out wr HF.out).c g k 1 _ hkn hg rfl
        have hSu := HSu.out wr HF.out k hkn
        have HS1 : Hid _ := hSu
        have HT2 : Hid (txN s p n E (pl + 1) = (k + 1, T ++ E k ++ s.extract pl (pl + 1))) := tx_part Htx.out hkn hpl
        have hEk := HEE.out k
        rw [hpl] at d1
        clear hSu hpl
        subst hg
        go_upto_region 8 with (first
          | (go_at_call 20; refine Calls.mono HS1.out ?_; rintro e w2 ⟨rfl, hF2⟩)
          | (go_at_call 19; refine (HEn.out _ tv T _ (HW.out.no hF2) (by omega)).mono ?_; rintro e w3 ⟨rfl, ⟨tv3, hW3⟩, hF3⟩))
        have HWz : Hid (WT w3 w.heap.size w.heap.size tv3 (T ++ E k)) := by show WT _ _ _ _ _; rw [← hEk.1]; exact hW3
        have HFz : Hid (Fr (WS w.heap.size) w w3) := (HF.out.trans (hF2.mono (fun k _ e => e.elim))).trans hF3
        clear hW3 hF2 hF3 HW HF HS1
        have ct := HWz.out.ct
        have fz := HWz.out.fz 0
        have hl := HWz.out.lt
        have hown := HWz.out.own
        have hXs : (T ++ E k).size ≤ 79 * pl + 78 := by rw [ByteArray.size_append]; omega
        generalize hXX : T ++ E k = X at *
        clear hXX
        go_upto_region 9 with fail
        have hsz5 : (X ++ s.extract pl (pl + 1)).size ≤ 79 * (pl + 1) := by rw [ByteArray.size_append, size_ext (by omega) (by omega)]; omega
        go_region_law ((refine step_append_kind rfl _ _ 33 rfl w.heap.size 5 i0 (.int .u8 0) 1 1 Tryd.underlying33 hi0 hz0 hz1 hz2 rfl (by decide) _ _ _ rfl ((hown.alloc _).drew) ⟨w3.heap.size, 0, none⟩ 1 1 [.int .u8 (s[pl].toNat : Int)] (by decide) rfl rfl (by intro j u hj; match j, hj with | 0, hj => (simp at hj; subst hj; simp [Addr.add])) (by intro u hu; simp at hu; subst hu; rfl) (by unfold maxLen; omega) (by omega) (by simp; omega) ?_; intro v3 wo hown3 hk3; obtain ⟨x1, x2, x3, x4⟩ := wt_grow HWz.out hk3 hown3 Hone.out hlt; obtain ⟨gc, cc, hvo, _⟩ := hk3.place; subst hvo; have HX := show Hid _ from And.intro x3 (HFz.out.trans x4); clear x3 x4 hown3 hk3))
        all_goals
          clear ct fz hown HWz HFz
          go_wp2
          go_roundg (s.size - (pl + 1))
          case measure => omega
          case rel => exact ⟨k + 1, pl + 1, _, X ++ s.extract pl (pl + 1), by omega, by go_num, by go_num, by omega, HT2.out, hsz5, HX.out.1, HX.out.2⟩
      · have HT2 : Hid (txN s p n E (pl + 1) = (k, T ++ s.extract pl (pl + 1))) := by
          show _ = _
          rw [txN, Htx.out, if_neg hn2]
        have HWz : Hid _ := HW.out
        have HFz : Hid _ := HF.out
        by_cases hkn : k < n
        · obtain ⟨g, hg⟩ := (HPr.out wr HF.out).some_ (by omega)
          have d1 := (HPr.out wr HF.out).c g k 1 _ hkn hg rfl
          have b1 : (((p k).place : Int) == (pl : Int)) = false := beq_eq_false_iff_ne.2 (fun e => hn2 ⟨hkn, by omega⟩)
          clear hn2 HW HF
          subst hg
          have ct := HWz.out.ct
          have fz := HWz.out.fz 0
          have hl := HWz.out.lt
          have hown := HWz.out.own
          have hXs : (T).size ≤ 79 * pl + 78 := by omega
          generalize hXX : T = X at *
          clear hXX
          go_upto_region 9 with fail
          have hsz5 : (X ++ s.extract pl (pl + 1)).size ≤ 79 * (pl + 1) := by rw [ByteArray.size_append, size_ext (by omega) (by omega)]; omega
          go_region_law ((refine step_append_kind rfl _ _ 33 rfl w.heap.size 5 i0 (.int .u8 0) 1 1 Tryd.underlying33 hi0 hz0 hz1 hz2 rfl (by decide) _ _ _ rfl ((hown.alloc _).drew) ⟨wr.heap.size, 0, none⟩ 1 1 [.int .u8 (s[pl].toNat : Int)] (by decide) rfl rfl (by intro j u hj; match j, hj with | 0, hj => (simp at hj; subst hj; simp [Addr.add])) (by intro u hu; simp at hu; subst hu; rfl) (by unfold maxLen; omega) (by omega) (by simp; omega) ?_; intro v3 wo hown3 hk3; obtain ⟨x1, x2, x3, x4⟩ := wt_grow HWz.out hk3 hown3 Hone.out hlt; obtain ⟨gc, cc, hvo, _⟩ := hk3.place; subst hvo; have HX := show Hid _ from And.intro x3 (HFz.out.trans x4); clear x3 x4 hown3 hk3))
          all_goals
            clear ct fz hown HWz HFz
            go_wp2
            go_roundg (s.size - (pl + 1))
            case measure => omega
            case rel => exact ⟨k, pl + 1, _, X ++ s.extract pl (pl + 1), by omega, by go_num, by go_num, by omega, HT2.out, hsz5, HX.out.1, HX.out.2⟩
        · clear hn2 HW HF
          have ct := HWz.out.ct
          have fz := HWz.out.fz 0
          have hl := HWz.out.lt
          have hown := HWz.out.own
          have hXs : (T).size ≤ 79 * pl + 78 := by omega
          generalize hXX : T = X at *
          clear hXX
          go_upto_region 9 with fail
          have hsz5 : (X ++ s.extract pl (pl + 1)).size ≤ 79 * (pl + 1) := by rw [ByteArray.size_append, size_ext (by omega) (by omega)]; omega
          go_region_law ((refine step_append_kind rfl _ _ 33 rfl w.heap.size 5 i0 (.int .u8 0) 1 1 Tryd.underlying33 hi0 hz0 hz1 hz2 rfl (by decide) _ _ _ rfl ((hown.alloc _).drew) ⟨wr.heap.size, 0, none⟩ 1 1 [.int .u8 (s[pl].toNat : Int)] (by decide) rfl rfl (by intro j u hj; match j, hj with | 0, hj => (simp at hj; subst hj; simp [Addr.add])) (by intro u hu; simp at hu; subst hu; rfl) (by unfold maxLen; omega) (by omega) (by simp; omega) ?_; intro v3 wo hown3 hk3; obtain ⟨x1, x2, x3, x4⟩ := wt_grow HWz.out hk3 hown3 Hone.out hlt; obtain ⟨gc, cc, hvo, _⟩ := hk3.place; subst hvo; have HX := show Hid _ from And.intro x3 (HFz.out.trans x4); clear x3 x4 hown3 hk3))
          all_goals
            clear ct fz hown HWz HFz
            go_wp2
            go_roundg (s.size - (pl + 1))
            case measure => omega
            case rel => exact ⟨k, pl + 1, _, X ++ s.extract pl (pl + 1), by omega, by go_num, by go_num, by omega, HT2.out, hsz5, HX.out.1, HX.out.2⟩
    · have hpe : pl = s.size := by omega
      have hk2 : txN s p n E s.size = (k, T) := by rw [← hpe]; exact Htx.out
      have HR : Hid ((txN s p n E s.size).2 ++ endB L = T ++ endB L) := by show _ = _; rw [hk2]
      have HA1 : Hid _ := HAE.out wr HF.out
      clear hk2 hpe Htx
      go_upto_region 11 with (first
        | (go_at_call 21; refine Calls.mono HA1.out ?_; rintro e w2 ⟨rfl, hF2⟩)
        | (go_at_call 19; refine (HEn.out _ tv T _ (HW.out.no hF2) (by omega)).mono ?_; rintro e w3 ⟨rfl, ⟨tv3, hW3⟩, hF3⟩))
      have HFz : Hid (Fr NoB w w3) := HFn.out _ ((HF.out.trans (hF2.mono (fun k _ e => e.elim))).trans hF3)
      have ct := hW3.ct
      have cv := conv_wt hW3.own
      clear hW3 hF2 hF3 HW HF
      go_wp2
      go_ret
      exact ⟨retS2 HR.out.symm, HFz.out⟩
end Go.Proofs.YthcjcjfgdgnljabDoor

namespace Go.Proofs.YthcjcjfgdgnljabDoor
open Go.RowKit Go.Lib
set_option linter.unusedVariables false

theorem ret2S {a b : ByteArray} {v : Value} (h : a = b) : Ending.returned (.tuple #[.string a, v]) = .returned (.tuple #[.string b, v]) := by rw [h]
theorem noF_arr : arrF noF = #[.bool false, .bool false, .bool false, .bool false, .bool false, .bool false, .bool false, .bool false, .bool false, .bool false, .bool false, .bool false, .bool false, .bool false, .bool false, .bool false, .bool false, .bool false, .bool false, .bool false, .bool false, .bool false, .bool false, .bool false, .bool false, .bool false] := arrF_zero
theorem check_cases (s : ByteArray) : (checkN s).1 ≠ 0 ∨ checkN s = (0, 0) := by
  unfold checkN
  by_cases h4 : 400 < s.size
  · rw [if_pos h4]; exact .inl (by simp)
  · rw [if_neg h4]
    by_cases q : (run s [(83, true)] 0 0).1 ≠ 0
    · rw [if_pos q]; exact .inl q
    · rw [if_neg q]
      by_cases hm : 0 ≤ misT s
      · rw [if_pos hm]; exact .inl (by simp)
      · rw [if_neg hm]; exact .inr rfl
set_option maxRecDepth 8000 in
set_option maxHeartbeats 1000000 in
theorem devLower_bad (w : World) (s : ByteArray) (hs : s.size ≤ 9223372036854775807) (hc : (checkN s).1 ≠ 0) :
    Calls Tryd.prog 6 #[.string s] w fun e w' => e = .returned (.tuple #[.string ⟨#[]⟩, .int .i64 ((checkN s).1 : Int)]) ∧ Fr NoB w w' := by
  have HC : Hid _ := fun X => devCheck_fn X s hs (partIs3 s)
  have b1 : (((checkN s).1 : Int) != 0) = true := bne_iff_ne.2 (by omega)
  generalize (checkN s).1 = k at *
  generalize (checkN s).2 = p at *
  clear hc
  go_enter Tryd.func6, Tryd.ntmps6
  go_wp2_with (go_at_call 9; refine (HC.out _).mono ?_; rintro e w1 ⟨rfl, hF1⟩)
  go_ret2
  exact ⟨rfl, hF1⟩
set_option maxRecDepth 8000 in
set_option maxHeartbeats 2000000 in
theorem devLower_ok (w : World) (s : ByteArray) (hc : checkN s = (0, 0)) :
    Calls Tryd.prog 6 #[.string s] w fun e w' => e = .returned (.tuple #[.string (lowTT s), .int .i64 0]) ∧ Fr NoB w w' := by
  obtain ⟨h4, hr, hp, hok, ho⟩ := check_tree hc
  have HC : Hid _ := fun X => devCheck_fn X s (by omega) (partIs3 s)
  rw [hc] at HC
  have HRd : Hid (∀ X, _) := fun X => read_okL X s hc
  have Hs : Hid (s.size ≤ 400) := h4
  clear hc hr hp hok ho h4
  go_enter Tryd.func6, Tryd.ntmps6
  go_upto_region 5 with (first
    | (go_at_call 9; refine (HC.out _).mono ?_; rintro e w1 ⟨rfl, hF1⟩)
    | (go_at_call 10; refine (HRd.out _).mono ?_; rintro e w2 ⟨ao, np, cap, rfl, HX⟩))
  obtain ⟨hF2, p, C, hT, hrow, hgl⟩ := HX.out
  have HFd : Hid (Calls Tryd.prog 11 #[.slice ao np cap] w2 fun e w' => FindSays2 p s np w2 e w') := find_fn2 w2 np cap ao p C s (by have := hT.nl; omega) hT.fl hrow hT.seg hgl
  have HF2 : Hid (Fr NoB w w2) := hF1.trans hF2
  have HT : Hid _ := hT
  have HRow : Hid _ := hrow
  have HGl : Hid _ := hgl
  clear hF1 hF2 hT hrow hgl HX
  go_wp2_with fail
  refine Calls.mono HFd.out ?_
  rintro x w3 ⟨ga, A, B, rfl, hA, ⟨hsg, hlast⟩, hF3⟩
  have HTx : Hid (Calls Tryd.prog 12 #[.string s, .slice ao np cap, .slice (some ⟨ga, 0, none⟩) np np] w3 fun e w' => e = .returned (.string (lowTT s)) ∧ Fr NoB w3 w') := by
    rw [← text_dev_top HT.out.cq (fun q hq => (HT.out.fl.ok q hq).b) hsg hlast]
    have hs4 := Hs.out
    exact text_fn w3 s ao np cap ga np p C A B (by omega) (by have := HT.out.nl; omega) HT.out.fl (fun i hi h9 => SegL.mid HT.out.cq hsg (Nat.le_refl _) i (Nat.zero_le _) hi h9) (HRow.out.no hF3) hA (fun g e => Nat.lt_of_lt_of_le (HGl.out g e) hF3.size) (fun h0 => World.block_lt_of_cell? w3 ⟨ga, 0 * 2, none⟩ (hA.a 0 h0))
  have HF3 : Hid (Fr NoB w w3) := HF2.out.trans hF3
  clear hA hsg hlast hF3
  go_wp2_with fail
  refine Calls.mono HTx.out ?_
  rintro x w4 ⟨rfl, hF4⟩
  go_wp2
  go_ret2
  exact ⟨rfl, HF3.out.trans hF4⟩
end Go.Proofs.YthcjcjfgdgnljabDoor

namespace Go.Proofs.YthcjcjfgdgnljabDoor
open Go.RowKit Go.Lib
set_option linter.unusedVariables false
/-- what Lower makes of the small program -/
def smG : ByteArray := ⟨#[65, 61, 91, 50, 93, 59, 97, 61, 35, 65, 59, 33, 97, 59, 126, 65, 59]⟩
set_option maxRecDepth 100000 in
theorem smT_low : lowTT smT = smG := by kernel_rfl
end Go.Proofs.YthcjcjfgdgnljabDoor

namespace Go.Proofs.YthcjcjfgdgnljabDoor
open Go.RowKit

set_option maxHeartbeats 400000 in
theorem kpick_fn (w : World) (c : Int) (n : Nat) (hn : 1 ≤ n) (hn2 : n ≤ 4611686018427387904) (h1 : -9223372036854775808 ≤ c) (h2 : c ≤ 9223372036854775807) :
    Calls Tryd.prog 4 #[.int .i64 c, .int .i64 (n : Int)] w fun e w' => e = .returned (.int .i64 (pickZ c n : Nat)) ∧ w' = w := by
  by_cases hc : c < 0
  · have hm1 := Int.emod_nonneg (-(c + 1)) (show (n : Int) ≠ 0 by omega)
    have HP : Hid (pickZ c n = ((-(c + 1)) % (n : Int)).toNat) := by unfold pickZ; exact if_pos hc
    go_enter Tryd.func4, Tryd.ntmps4
    go_wp2
    go_ret
    have e : (c + 1).tmod (n : Int) = -((-(c + 1)) % n) := by
      rw [← Int.tmod_eq_emod_of_nonneg (by omega), Int.neg_tmod, Int.neg_neg]
    exact ⟨ret_int (by rw [HP.out]; omega), rfl⟩
  · have hm1 := Int.emod_nonneg c (show (n : Int) ≠ 0 by omega)
    have HP : Hid (pickZ c n = (c % (n : Int)).toNat) := by unfold pickZ; exact if_neg hc
    go_enter Tryd.func4, Tryd.ntmps4
    go_wp2
    go_ret
    exact ⟨ret_int (by rw [HP.out]; omega), rfl⟩
theorem kpick_any (w : World) (c : Int) (n : Nat) (hn : 1 ≤ n) (hn2 : n ≤ 1000000) (h1 : -9223372036854775808 ≤ c) (h2 : c ≤ 9223372036854775807) :
    Calls Tryd.prog 4 #[.int .i64 c, .int .i64 (n : Int)] w fun e w' => ∃ j : Nat, j < n ∧ e = .returned (.int .i64 (j : Int)) ∧ w' = w :=
  (kpick_fn w c n hn (by omega) h1 h2).mono (fun _ _ ⟨h1, h2⟩ => ⟨pickZ c n, pickZ_lt c hn, h1, h2⟩)

/-- a list of blocks in memory: m of them; at, length and words of each -/
structure HeldRow (w : World) (ao : Option Addr) (m : Nat) (A N : Nat → Nat) (S : Nat → Value) : Prop where
  some_ : 0 < m → ∃ g, ao = some ⟨g, 0, none⟩
  c0 : ∀ g i, i < m → ao = some ⟨g, 0, none⟩ → w.cell? ⟨g, i * 3, none⟩ = some (.int .i64 (A i))
  c1 : ∀ g i, i < m → ao = some ⟨g, 0, none⟩ → w.cell? ⟨g, i * 3 + 1, none⟩ = some (.int .i64 (N i))
  c2 : ∀ g i, i < m → ao = some ⟨g, 0, none⟩ → w.cell? ⟨g, i * 3 + 2, none⟩ = some (S i)
  bd : ∀ i, i < m → A i + N i ≤ 4096
  hm : m ≤ 4096

def TK (m : Nat) (A N : Nat → Nat) (p : Nat) : Prop := ∃ i, i < m ∧ A i ≤ p ∧ p < A i + N i

theorem HeldRow.fr {S' : Nat → Prop} {w w' : World} {ao : Option Addr} {m : Nat} {A N : Nat → Nat} {S : Nat → Value} (h : HeldRow w ao m A N S) (hf : Fr S' w w') (hs : ∀ g, ao = some ⟨g, 0, none⟩ → ¬ S' g) : HeldRow w' ao m A N S :=
  ⟨h.some_, fun g i hi e => hf.cell_some (h.c0 g i hi e) (hs g e), fun g i hi e => hf.cell_some (h.c1 g i hi e) (hs g e), fun g i hi e => hf.cell_some (h.c2 g i hi e) (hs g e), h.bd, h.hm⟩
theorem HeldRow.no {w w' : World} {ao : Option Addr} {m : Nat} {A N : Nat → Nat} {S : Nat → Value} (h : HeldRow w ao m A N S) (hf : Fr NoB w w') : HeldRow w' ao m A N S := h.fr hf (fun _ _ h => h)

theorem none_step {P : Nat → Prop} {i : Nat} (h : ∀ j, j < i → ¬ P j) (hi : ¬ P i) : ∀ j, j < i + 1 → ¬ P j := fun j hj => by
  by_cases e : j = i
  · subst e; exact hi
  · exact h j (by omega)

/-- k free words from a on, by the list -/
def RoomAt (m : Nat) (A N : Nat → Nat) (n k a : Nat) : Prop := a + k ≤ n ∧ ∀ i, a ≤ i → i < a + k → ¬ TK m A N i

theorem all_free_step {P : Nat → Prop} {a p : Nat} {f b : Bool} (ha : a ≤ p) (h : f = true ↔ ∀ i, a ≤ i → i < p → ¬ P i) (hb : b = true ↔ P p) : ((f && !b) = true) ↔ ∀ i, a ≤ i → i < p + 1 → ¬ P i := by
  constructor
  · intro e
    simp at e
    intro i h1 h2
    by_cases ei : i = p
    · subst ei; intro hp; have := hb.2 hp; rw [e.2] at this; cases this
    · exact (h.1 e.1) i h1 (by omega)
  · intro hall
    have h1 := h.2 (fun i h1 h2 => hall i h1 (by omega))
    have h2 : b = false := by
      cases b
      · rfl
      · exact absurd (hb.1 rfl) (hall p ha (by omega))
    simp [h1, h2]

end Go.Proofs.YthcjcjfgdgnljabDoor

namespace Go.Proofs.YthcjcjfgdgnljabDoor
open Go.RowKit
set_option linter.unusedVariables false

theorem check_zero {s : ByteArray} (h0 : (checkN s).1 = 0) : checkN s = (0, 0) := by
  unfold checkN at h0 ⊢
  by_cases h4 : 400 < s.size
  · rw [if_pos h4] at h0; cases h0
  · rw [if_neg h4] at h0 ⊢
    by_cases q : (run s [(83, true)] 0 0).1 ≠ 0
    · rw [if_pos q] at h0; exact absurd h0 q
    · rw [if_neg q] at h0 ⊢
      by_cases hm : 0 ≤ misT s
      · rw [if_pos hm] at h0; cases h0
      · rw [if_neg hm]
theorem trOk_due {σ : St} (h : TrOk σ) : TrOk (due σ) := by
  unfold TrOk at *
  show σ.tr.length + 5 * (σ.left - 1) ≤ 25000
  omega
theorem Ex.trOk {c : Cf} {P : Pg} {σ σ' : St} {b : Bool} (h : Ex c P σ σ' b) : TrOk σ → TrOk σ' := by
  induction h with
  | nil σ => exact id
  | @stop a r σ σ' h => exact fun q => by have := stp_trOk (c := c) (a := a) q; rw [h] at this; exact this
  | @go a r σ σ1 σ2 b h hr ih => exact fun q => ih (by have := stp_trOk (c := c) (a := a) q; rw [h] at this; exact this)
  | iteTired h => exact fun q => q
  | iteStop h hp ih => exact fun q => ih (trOk_due q)
  | iteGo h hp hr ih1 ih2 => exact fun q => ih2 (ih1 (trOk_due q))
  | loopTired h => exact fun q => q
  | loopEnd h h0 hr ih => exact fun q => ih (trOk_due q)
  | loopStop h h0 hp ih => exact fun q => ih (trOk_due q)
  | loopGo h h0 hp hr ih1 ih2 => exact fun q => ih2 (ih1 (trOk_due q))
theorem trB_pre {x y : List Nat} (h : x <+: y) : (trB x).size ≤ (trB y).size ∧ (trB y).extract 0 (trB x).size = trB x := by
  obtain ⟨z, rfl⟩ := h
  have hx : (trB x).size = x.length := by simp [trB, ByteArray.size]
  refine ⟨by simp [trB, ByteArray.size], ?_⟩
  rw [hx]
  apply ByteArray.ext
  simp [trB]
end Go.Proofs.YthcjcjfgdgnljabDoor
