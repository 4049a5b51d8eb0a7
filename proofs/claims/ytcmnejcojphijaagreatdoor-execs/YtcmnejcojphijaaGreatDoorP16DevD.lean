/-
  DevC, DevD: one behind the other.
-/
import Derived.Test.YtcmnejcojphijaaGreatDoorP15DevB
namespace Go.Proofs.YtcmnejcojphijaaGreatDoor
open Go.RowKit
set_option linter.unusedVariables false

/-- the parts' numbers are in their bounds, and what a part closes stands ahead of it -/
structure FlatOk (p : Nat → Pt) (n : Nat) : Prop where
  ok : ∀ i, i < n → PtOk (p i)
  op : ∀ i, i < n → (p i).kind = 9 ∨ (p i).kind = 10 ∨ (p i).kind = 12 → (p i).opn < i
  lp : ∀ i, i < n → (p i).kind = 12 → (p (p i).opn).kind = 11

theorem msk_none : msk (fun _ => false) = 0 := Nat.eq_of_testBit_eq fun i => by rw [mk_bit]; simp
theorem pass_next (p : Nat → Pt) (i : Nat) (z : Ps) : passM p (i + 1) 0 z = stepM p i (passM p i 0 z) := by
  have := passM_add p i 1 0 z
  rw [this, Nat.zero_add]
  rfl
theorem step_eq (p : Nat → Pt) (i : Nat) (z : Ps) : (stepM p i z).A = updA z.A i z.now ∧ (stepM p i z).now = nowM p i z ∧ ((p i).kind ≠ 12 → (stepM p i z).B = updA z.B i (nowM p i z) ∧ (stepM p i z).st = z.st) ∧
    ((p i).kind = 12 → (stepM p i z).B = updA (updA z.B (p i).opn (nowM p i z)) i (nowM p i z) ∧ (stepM p i z).st = (z.st && subD (z.B (p i).opn) z.now)) := by
  refine ⟨rfl, rfl, fun h => ⟨?_, ?_⟩, fun h => ⟨?_, ?_⟩⟩
  · unfold stepM; simp [h]
  · unfold stepM; simp [h]
  · unfold stepM; simp [h]
  · unfold stepM; simp [h]

theorem step_plain {p : Nat → Pt} {i : Nat} {z : Ps} {X : Nat → Bool} (h : (p i).kind ≠ 12) (hX : nowM p i z = X) : stepM p i z = ⟨updA z.A i z.now, updA z.B i X, X, z.st⟩ := by
  subst hX; unfold stepM; simp [h]
theorem step_again {p : Nat → Pt} {i : Nat} {z : Ps} (h : (p i).kind = 12) : stepM p i z = ⟨updA z.A i z.now, updA (updA z.B (p i).opn (bothF (z.B (p i).opn) z.now)) i (bothF (z.B (p i).opn) z.now), bothF (z.B (p i).opn) z.now, z.st && subD (z.B (p i).opn) z.now⟩ := by
  unfold stepM; rw [now11 h]; simp [h]
set_option maxRecDepth 8000 in
set_option maxHeartbeats 4000000 in
theorem fpass_fn (w : World) (fb ga n ac pc : Nat) (ao : Option Addr) (p : Nat → Pt) (C : Nat → Nat) (A B : Nat → Nat → Bool) (hn : n ≤ 100000) (hp : FlatOk p n) (hP : PartRow w ao n p C) (hA : Arnd w ga n A B)
    (hb0 : w.cell? ⟨fb, 0, none⟩ = some (.slice ao n pc)) (hb1 : w.cell? ⟨fb, 1, none⟩ = some (.slice (some ⟨ga, 0, none⟩) n ac)) (hgl : ga < w.heap.size) (hne : fb ≠ ga) (hne2 : ∀ g, ao = some ⟨g, 0, none⟩ → g ≠ ga) :
    Calls Tryz.prog 61 #[.pointer (some ⟨fb, 0, none⟩)] w fun e w' => e = .returned (.bool (passM p n 0 ⟨A, B, fun _ => false, true⟩).st) ∧ Arnd w' ga n (passM p n 0 ⟨A, B, fun _ => false, true⟩).A (passM p n 0 ⟨A, B, fun _ => false, true⟩).B ∧ Fr (OneB ga) w w' := by
  have Hp : Hid (FlatOk p n) := hp
  have HP : Hid (PartRow w ao n p C) := hP
  have HA : Hid (Arnd w ga n A B) := hA
  have Hb0 : Hid _ := hb0
  have Hb1 : Hid _ := hb1
  clear hp hP hA hb0 hb1
  generalize hz0 : (⟨A, B, fun _ => false, true⟩ : Ps) = z0
  have Hz0 : Hid _ := hz0
  clear hz0
  go_enter Tryz.func61, Tryz.ntmps61
  go_wp2
  go_loopw [3, 4, 5] (fun ts tn ti wr => ∃ i : Nat, i ≤ n ∧ ti = .int .i64 i ∧ ts = .bool (passM p i 0 z0).st ∧ tn = .int .u32 (msk (passM p i 0 z0).now : Int) ∧ Arnd wr ga n (passM p i 0 z0).A (passM p i 0 z0).B ∧ Fr (OneB ga) w wr) (fun _ _ t _ => n - (intOf t).toNat)
  case atStart =>
    refine ⟨0, Nat.zero_le _, rfl, ?_, ?_, ?_, Fr.refl _ _⟩
    · rw [← Hz0.out]; rfl
    · rw [← Hz0.out]; show _ = Value.int .u32 ((msk (fun _ => false) : Nat) : Int); rw [msk_none]; rfl
    · rw [← Hz0.out]; exact HA.out
  case round =>
    obtain ⟨i, hi, rfl, rfl, rfl, hAr, hF⟩ := hrel
    have hc0 := hF.cell_some Hb0.out (show ¬ OneB ga fb from hne)
    have hc1 := hF.cell_some Hb1.out (show ¬ OneB ga fb from hne)
    have hgl2 : ga < wr.heap.size := Nat.lt_of_lt_of_le hgl hF.size
    have hfl : fb < wr.heap.size := World.block_lt_of_cell? _ _ hc0
    have HF : Hid _ := hF
    by_cases hlt : i < n
    · obtain ⟨g, rfl⟩ := HP.out.some_ (by omega)
      have hP2 := HP.out.fr hF (fun g' e => hne2 g' e)
      have d0 : wr.cell? ⟨g, i * 12, none⟩ = _ := hP2.c g i 0 _ hlt rfl rfl
      have d1 := hP2.c g i 1 _ hlt rfl rfl
      have d2 := hP2.c g i 2 _ hlt rfl rfl
      have d3 := hP2.c g i 3 _ hlt rfl rfl
      have d4 := hP2.c g i 4 _ hlt rfl rfl
      have d5 := hP2.c g i 5 _ hlt rfl rfl
      have d6 := hP2.c g i 6 _ hlt rfl rfl
      have d7 := hP2.c g i 7 _ hlt rfl rfl
      have d8 := hP2.c g i 8 _ hlt rfl rfl
      have d9 := hP2.c g i 9 _ hlt rfl rfl
      have d10 := hP2.c g i 10 _ hlt rfl rfl
      have d11 := hP2.c g i 11 _ hlt rfl rfl
      have hgl3 : g < wr.heap.size := World.block_lt_of_cell? _ _ d0
      have hnext := pass_next p i z0
      generalize passM p i 0 z0 = z at *
      have Hnext : Hid (passM p (i + 1) 0 z0 = stepM p i z) := hnext
      have e1 := hAr.a i hlt
      have e2 := hAr.f (i * 2)
      have HAr : Hid (Arnd wr ga n z.A z.B) := hAr
      have Hok : Hid (PtOk (p i)) := Hp.out.ok i hlt
      have Hop : Hid ((p i).kind = 9 ∨ (p i).kind = 10 ∨ (p i).kind = 12 → (p i).opn < i) := Hp.out.op i hlt
      have Hst : Hid _ := step_eq p i z
      clear hnext hAr hP2 hF
      generalize hpi : p i = t at *
      obtain ⟨kind, place, num, box, src, o1, sign, o2, opn⟩ := t
      simp only [] at d0 d1 d2 d3 d4 d5 d6 d7 d8 d9 d10 d11
      generalize C i = clo at *
      generalize hb1 : odB o1 = b1 at *
      generalize hx1 : odI o1 = x1 at *
      generalize hb2 : odB o2 = b2 at *
      generalize hx2 : odI o2 = x2 at *
      have Hpi : Hid _ := hpi
      clear hpi
      have hneg : g ≠ ga := hne2 g rfl
      go_upto_region 8 with fail
      have K0 : Fr (OneB ga) wr ((wr.setCell ⟨ga, i * 2, none⟩ (Value.int IntKind.u32 (msk z.now : Int))).alloc (Obj.cells #[Value.int IntKind.i64 (kind : Int), Value.int IntKind.i64 (place : Int), Value.int IntKind.i64 (num : Int), Value.int IntKind.i64 (box : Int), Value.int IntKind.i64 (src : Int), Value.bool (b1), Value.int IntKind.i64 (x1 : Int), Value.int IntKind.u8 (sign : Int), Value.bool (b2), Value.int IntKind.i64 (x2 : Int), Value.int IntKind.i64 (opn : Int), Value.int IntKind.i64 (clo : Int)] 133)) := ((Fr.refl (OneB ga) wr).setCell (p := ⟨ga, i * 2, none⟩) (fun _ => rfl) _).alloc _
      have K1 : Arnd ((wr.setCell ⟨ga, i * 2, none⟩ (Value.int IntKind.u32 (msk z.now : Int))).alloc (Obj.cells #[Value.int IntKind.i64 (kind : Int), Value.int IntKind.i64 (place : Int), Value.int IntKind.i64 (num : Int), Value.int IntKind.i64 (box : Int), Value.int IntKind.i64 (src : Int), Value.bool (b1), Value.int IntKind.i64 (x1 : Int), Value.int IntKind.u8 (sign : Int), Value.bool (b2), Value.int IntKind.i64 (x2 : Int), Value.int IntKind.i64 (opn : Int), Value.int IntKind.i64 (clo : Int)] 133)) ga n (updA z.A i z.now) z.B := (HAr.out.setA hlt z.now).no ((Fr.refl _ _).alloc _) (by rw [setCell_size]; exact hgl2)
      have k0 : ((wr.setCell ⟨ga, i * 2, none⟩ (Value.int IntKind.u32 (msk z.now : Int))).alloc (Obj.cells #[Value.int IntKind.i64 (kind : Int), Value.int IntKind.i64 (place : Int), Value.int IntKind.i64 (num : Int), Value.int IntKind.i64 (box : Int), Value.int IntKind.i64 (src : Int), Value.bool (b1), Value.int IntKind.i64 (x1 : Int), Value.int IntKind.u8 (sign : Int), Value.bool (b2), Value.int IntKind.i64 (x2 : Int), Value.int IntKind.i64 (opn : Int), Value.int IntKind.i64 (clo : Int)] 133)).cell? ⟨wr.heap.size, 0, none⟩ = some (.int .i64 (kind : Int)) := cell_new _ _ _ (setCell_size _ _ _).symm rfl
      have k1 : ((wr.setCell ⟨ga, i * 2, none⟩ (Value.int IntKind.u32 (msk z.now : Int))).alloc (Obj.cells #[Value.int IntKind.i64 (kind : Int), Value.int IntKind.i64 (place : Int), Value.int IntKind.i64 (num : Int), Value.int IntKind.i64 (box : Int), Value.int IntKind.i64 (src : Int), Value.bool (b1), Value.int IntKind.i64 (x1 : Int), Value.int IntKind.u8 (sign : Int), Value.bool (b2), Value.int IntKind.i64 (x2 : Int), Value.int IntKind.i64 (opn : Int), Value.int IntKind.i64 (clo : Int)] 133)).cell? ⟨wr.heap.size, 1, none⟩ = some (.int .i64 (place : Int)) := cell_new _ _ _ (setCell_size _ _ _).symm rfl
      have k2 : ((wr.setCell ⟨ga, i * 2, none⟩ (Value.int IntKind.u32 (msk z.now : Int))).alloc (Obj.cells #[Value.int IntKind.i64 (kind : Int), Value.int IntKind.i64 (place : Int), Value.int IntKind.i64 (num : Int), Value.int IntKind.i64 (box : Int), Value.int IntKind.i64 (src : Int), Value.bool (b1), Value.int IntKind.i64 (x1 : Int), Value.int IntKind.u8 (sign : Int), Value.bool (b2), Value.int IntKind.i64 (x2 : Int), Value.int IntKind.i64 (opn : Int), Value.int IntKind.i64 (clo : Int)] 133)).cell? ⟨wr.heap.size, 2, none⟩ = some (.int .i64 (num : Int)) := cell_new _ _ _ (setCell_size _ _ _).symm rfl
      have k3 : ((wr.setCell ⟨ga, i * 2, none⟩ (Value.int IntKind.u32 (msk z.now : Int))).alloc (Obj.cells #[Value.int IntKind.i64 (kind : Int), Value.int IntKind.i64 (place : Int), Value.int IntKind.i64 (num : Int), Value.int IntKind.i64 (box : Int), Value.int IntKind.i64 (src : Int), Value.bool (b1), Value.int IntKind.i64 (x1 : Int), Value.int IntKind.u8 (sign : Int), Value.bool (b2), Value.int IntKind.i64 (x2 : Int), Value.int IntKind.i64 (opn : Int), Value.int IntKind.i64 (clo : Int)] 133)).cell? ⟨wr.heap.size, 3, none⟩ = some (.int .i64 (box : Int)) := cell_new _ _ _ (setCell_size _ _ _).symm rfl
      have k4 : ((wr.setCell ⟨ga, i * 2, none⟩ (Value.int IntKind.u32 (msk z.now : Int))).alloc (Obj.cells #[Value.int IntKind.i64 (kind : Int), Value.int IntKind.i64 (place : Int), Value.int IntKind.i64 (num : Int), Value.int IntKind.i64 (box : Int), Value.int IntKind.i64 (src : Int), Value.bool (b1), Value.int IntKind.i64 (x1 : Int), Value.int IntKind.u8 (sign : Int), Value.bool (b2), Value.int IntKind.i64 (x2 : Int), Value.int IntKind.i64 (opn : Int), Value.int IntKind.i64 (clo : Int)] 133)).cell? ⟨wr.heap.size, 4, none⟩ = some (.int .i64 (src : Int)) := cell_new _ _ _ (setCell_size _ _ _).symm rfl
      have k5 : ((wr.setCell ⟨ga, i * 2, none⟩ (Value.int IntKind.u32 (msk z.now : Int))).alloc (Obj.cells #[Value.int IntKind.i64 (kind : Int), Value.int IntKind.i64 (place : Int), Value.int IntKind.i64 (num : Int), Value.int IntKind.i64 (box : Int), Value.int IntKind.i64 (src : Int), Value.bool (b1), Value.int IntKind.i64 (x1 : Int), Value.int IntKind.u8 (sign : Int), Value.bool (b2), Value.int IntKind.i64 (x2 : Int), Value.int IntKind.i64 (opn : Int), Value.int IntKind.i64 (clo : Int)] 133)).cell? ⟨wr.heap.size, 5, none⟩ = some (.bool b1) := cell_new _ _ _ (setCell_size _ _ _).symm rfl
      have k6 : ((wr.setCell ⟨ga, i * 2, none⟩ (Value.int IntKind.u32 (msk z.now : Int))).alloc (Obj.cells #[Value.int IntKind.i64 (kind : Int), Value.int IntKind.i64 (place : Int), Value.int IntKind.i64 (num : Int), Value.int IntKind.i64 (box : Int), Value.int IntKind.i64 (src : Int), Value.bool (b1), Value.int IntKind.i64 (x1 : Int), Value.int IntKind.u8 (sign : Int), Value.bool (b2), Value.int IntKind.i64 (x2 : Int), Value.int IntKind.i64 (opn : Int), Value.int IntKind.i64 (clo : Int)] 133)).cell? ⟨wr.heap.size, 6, none⟩ = some (.int .i64 (x1 : Int)) := cell_new _ _ _ (setCell_size _ _ _).symm rfl
      have k7 : ((wr.setCell ⟨ga, i * 2, none⟩ (Value.int IntKind.u32 (msk z.now : Int))).alloc (Obj.cells #[Value.int IntKind.i64 (kind : Int), Value.int IntKind.i64 (place : Int), Value.int IntKind.i64 (num : Int), Value.int IntKind.i64 (box : Int), Value.int IntKind.i64 (src : Int), Value.bool (b1), Value.int IntKind.i64 (x1 : Int), Value.int IntKind.u8 (sign : Int), Value.bool (b2), Value.int IntKind.i64 (x2 : Int), Value.int IntKind.i64 (opn : Int), Value.int IntKind.i64 (clo : Int)] 133)).cell? ⟨wr.heap.size, 7, none⟩ = some (.int .u8 (sign : Int)) := cell_new _ _ _ (setCell_size _ _ _).symm rfl
      have k8 : ((wr.setCell ⟨ga, i * 2, none⟩ (Value.int IntKind.u32 (msk z.now : Int))).alloc (Obj.cells #[Value.int IntKind.i64 (kind : Int), Value.int IntKind.i64 (place : Int), Value.int IntKind.i64 (num : Int), Value.int IntKind.i64 (box : Int), Value.int IntKind.i64 (src : Int), Value.bool (b1), Value.int IntKind.i64 (x1 : Int), Value.int IntKind.u8 (sign : Int), Value.bool (b2), Value.int IntKind.i64 (x2 : Int), Value.int IntKind.i64 (opn : Int), Value.int IntKind.i64 (clo : Int)] 133)).cell? ⟨wr.heap.size, 8, none⟩ = some (.bool b2) := cell_new _ _ _ (setCell_size _ _ _).symm rfl
      have k9 : ((wr.setCell ⟨ga, i * 2, none⟩ (Value.int IntKind.u32 (msk z.now : Int))).alloc (Obj.cells #[Value.int IntKind.i64 (kind : Int), Value.int IntKind.i64 (place : Int), Value.int IntKind.i64 (num : Int), Value.int IntKind.i64 (box : Int), Value.int IntKind.i64 (src : Int), Value.bool (b1), Value.int IntKind.i64 (x1 : Int), Value.int IntKind.u8 (sign : Int), Value.bool (b2), Value.int IntKind.i64 (x2 : Int), Value.int IntKind.i64 (opn : Int), Value.int IntKind.i64 (clo : Int)] 133)).cell? ⟨wr.heap.size, 9, none⟩ = some (.int .i64 (x2 : Int)) := cell_new _ _ _ (setCell_size _ _ _).symm rfl
      have k10 : ((wr.setCell ⟨ga, i * 2, none⟩ (Value.int IntKind.u32 (msk z.now : Int))).alloc (Obj.cells #[Value.int IntKind.i64 (kind : Int), Value.int IntKind.i64 (place : Int), Value.int IntKind.i64 (num : Int), Value.int IntKind.i64 (box : Int), Value.int IntKind.i64 (src : Int), Value.bool (b1), Value.int IntKind.i64 (x1 : Int), Value.int IntKind.u8 (sign : Int), Value.bool (b2), Value.int IntKind.i64 (x2 : Int), Value.int IntKind.i64 (opn : Int), Value.int IntKind.i64 (clo : Int)] 133)).cell? ⟨wr.heap.size, 10, none⟩ = some (.int .i64 (opn : Int)) := cell_new _ _ _ (setCell_size _ _ _).symm rfl
      have k11 : ((wr.setCell ⟨ga, i * 2, none⟩ (Value.int IntKind.u32 (msk z.now : Int))).alloc (Obj.cells #[Value.int IntKind.i64 (kind : Int), Value.int IntKind.i64 (place : Int), Value.int IntKind.i64 (num : Int), Value.int IntKind.i64 (box : Int), Value.int IntKind.i64 (src : Int), Value.bool (b1), Value.int IntKind.i64 (x1 : Int), Value.int IntKind.u8 (sign : Int), Value.bool (b2), Value.int IntKind.i64 (x2 : Int), Value.int IntKind.i64 (opn : Int), Value.int IntKind.i64 (clo : Int)] 133)).cell? ⟨wr.heap.size, 11, none⟩ = some (.int .i64 (clo : Int)) := cell_new _ _ _ (setCell_size _ _ _).symm rfl
      have m1 := K0.cell_some hc1 (show ¬ OneB ga fb from hne)
      generalize ((wr.setCell ⟨ga, i * 2, none⟩ (Value.int IntKind.u32 (msk z.now : Int))).alloc (Obj.cells #[Value.int IntKind.i64 (kind : Int), Value.int IntKind.i64 (place : Int), Value.int IntKind.i64 (num : Int), Value.int IntKind.i64 (box : Int), Value.int IntKind.i64 (src : Int), Value.bool (b1), Value.int IntKind.i64 (x1 : Int), Value.int IntKind.u8 (sign : Int), Value.bool (b2), Value.int IntKind.i64 (x2 : Int), Value.int IntKind.i64 (opn : Int), Value.int IntKind.i64 (clo : Int)] 133)) = W1 at *
      generalize hpb : wr.heap.size = pb at *
      have HK0 : Hid (Fr (OneB ga) w W1) := HF.out.trans K0
      have HK1 : Hid (Arnd W1 ga n (updA z.A i z.now) z.B) := K1
      have hgl4 : ga < W1.heap.size := World.block_lt_of_cell? _ _ (K1.a i hlt)
      clear K0 K1 d0 d1 d2 d3 d4 d5 d6 d7 d8 d9 d10 d11 hc0 hc1 e1 e2 HAr HF hpb
      by_cases h8 : kind = 9
      · subst h8
        have ho : opn < i := Hop.out (.inl rfl)
        have HE : Hid (passM p (i + 1) 0 z0 = ⟨updA z.A i z.now, updA z.B i (updA z.A i z.now opn), updA z.A i z.now opn, z.st⟩) := by
          show _ = _
          rw [Hnext.out]
          exact step_plain (by rw [Hpi.out]; show (9 : Nat) ≠ 12; decide) (by unfold nowM; rw [Hpi.out]; rfl)
        have ca := HK1.out.a opn (by omega)
        have cb := HK1.out.b i hlt
        have cf := HK1.out.f (i * 2 + 1)
        generalize hX : updA z.A i z.now opn = X at *
        clear hX
        go_upto_region 11 with fail
        go_quiet (fail)
        go_wp2
        go_roundw
        case rel =>
          refine ⟨i + 1, by omega, by go_num, ?_, ?_, ?_, ?_⟩
          · rw [HE.out]
          · rw [HE.out]
          · rw [HE.out]; exact (HK1.out.no ((Fr.refl _ W1).drewN _) hgl4).setB hlt _
          · exact (HK0.out.trans ((Fr.refl _ W1).drewN _)).setCell (p := ⟨ga, i * 2 + 1, none⟩) (fun _ => rfl) _
        case measure => simp [intOf]; omega

      · have b8 : ((kind : Int) == 9) = false := beq_eq_false_iff_ne.2 (by omega)
        by_cases h9 : kind = 10
        · subst h9
          have ho : opn < i := Hop.out (.inr (.inl rfl))
          have HE : Hid (passM p (i + 1) 0 z0 = ⟨updA z.A i z.now, updA z.B i (bothF z.now (updA z.A i z.now opn)), bothF z.now (updA z.A i z.now opn), z.st⟩) := by
            show _ = _
            rw [Hnext.out]
            exact step_plain (by rw [Hpi.out]; show (10 : Nat) ≠ 12; decide) (by unfold nowM; rw [Hpi.out]; rfl)
          have ca := HK1.out.a opn (by omega)
          have cb := HK1.out.b i hlt
          have cf := HK1.out.f (i * 2 + 1)
          generalize hX : updA z.A i z.now opn = X at *
          have hbits := bits_and z.now X
          clear hX h8
          go_upto_region 13 with fail
          go_quiet (fail)
          go_wp2
          go_roundw
          case rel =>
            refine ⟨i + 1, by omega, by go_num, ?_, ?_, ?_, ?_⟩
            · rw [HE.out]
            · rw [HE.out]
            · rw [HE.out]; exact (HK1.out.no ((Fr.refl _ W1).drewN _) hgl4).setB hlt _
            · exact (HK0.out.trans ((Fr.refl _ W1).drewN _)).setCell (p := ⟨ga, i * 2 + 1, none⟩) (fun _ => rfl) _
          case measure => simp [intOf]; omega

        · have b9 : ((kind : Int) == 10) = false := beq_eq_false_iff_ne.2 (by omega)
          by_cases h10 : kind = 11
          · subst h10
            have HE : Hid (passM p (i + 1) 0 z0 = ⟨updA z.A i z.now, updA z.B i (bothF z.now (z.B i)), bothF z.now (z.B i), z.st⟩) := by
              show _ = _
              rw [Hnext.out]
              exact step_plain (by rw [Hpi.out]; show (11 : Nat) ≠ 12; decide) (by unfold nowM; rw [Hpi.out]; rfl)
            have cb := HK1.out.b i hlt
            have cf := HK1.out.f (i * 2 + 1)
            have hbits := bits_and z.now (z.B i)
            clear h8 h9
            go_wp2
            go_roundw
            case rel =>
              refine ⟨i + 1, by omega, by go_num, ?_, ?_, ?_, ?_⟩
              · rw [HE.out]
              · rw [HE.out]
              · rw [HE.out]; exact (HK1.out.no (Fr.refl _ W1) hgl4).setB hlt _
              · exact (HK0.out.trans (Fr.refl _ W1)).setCell (p := ⟨ga, i * 2 + 1, none⟩) (fun _ => rfl) _
            case measure => simp [intOf]; omega

          · have b10 : ((kind : Int) == 11) = false := beq_eq_false_iff_ne.2 (by omega)
            by_cases h11 : kind = 12
            · subst h11
              have ho : opn < i := Hop.out (.inr (.inr rfl))
              have HE : Hid (passM p (i + 1) 0 z0 = ⟨updA z.A i z.now, updA (updA z.B opn (bothF (z.B opn) z.now)) i (bothF (z.B opn) z.now), bothF (z.B opn) z.now, z.st && subD (z.B opn) z.now⟩) := by
                show _ = _
                rw [Hnext.out]
                have := step_again (p := p) (i := i) (z := z) (by rw [Hpi.out])
                rw [Hpi.out] at this
                exact this
              have ca := HK1.out.b opn (by omega)
              have cg := HK1.out.f (opn * 2 + 1)
              have hbits := bits_and (z.B opn) z.now
              have hcmp := mk_ne (f := z.B opn) (g := z.now)
              generalize bothF (z.B opn) z.now = X at *
              generalize z.B opn = Y at *
              cases hD : subD Y z.now
              · rw [hD] at hcmp HE
                have hc3 : ((msk X : Int) != (msk Y : Int)) = true := by rw [hcmp]; rfl
                clear hcmp hD h8 h9 h10
                go_upto_region 17 with fail
                go_quiet (fail)
                go_upto_region 21 with fail
                go_region
                have HKo : Hid _ := (HK1.out.no ((Fr.refl _ W1).drewN (nq + 1)) hgl4).setB (k := opn) (by omega) X
                have HKf : Hid _ := (HK0.out.trans ((Fr.refl _ W1).drewN (nq + 1))).setCell (p := ⟨ga, opn * 2 + 1, none⟩) (fun _ => rfl) (Value.int IntKind.u32 (msk X : Int))
                have m2 : ((W1.drewN (nq + 1)).setCell ⟨ga, opn * 2 + 1, none⟩ (Value.int IntKind.u32 (msk X : Int))).cell? ⟨fb, 1, none⟩ = _ := (cell_other (.inl (Ne.symm hne))).trans m1
                generalize ((W1.drewN (nq + 1)).setCell ⟨ga, opn * 2 + 1, none⟩ (Value.int IntKind.u32 (msk X : Int))) = W2 at *
                have cb := HKo.out.b i hlt
                have cf := HKo.out.f (i * 2 + 1)
                go_wp2
                go_roundw
                case rel =>
                  refine ⟨i + 1, by omega, by go_num, ?_, ?_, ?_, ?_⟩
                  · rw [HE.out]; simp
                  · rw [HE.out]
                  · rw [HE.out]; exact HKo.out.setB hlt _
                  · exact HKf.out.setCell (p := ⟨ga, i * 2 + 1, none⟩) (fun _ => rfl) _
                case measure => simp [intOf]; omega
              · rw [hD] at hcmp HE
                have hc3 : ((msk X : Int) != (msk Y : Int)) = false := by rw [hcmp]; rfl
                clear hcmp hD h8 h9 h10
                go_upto_region 17 with fail
                go_quiet (fail)
                go_upto_region 21 with fail
                go_region
                have HKo : Hid _ := (HK1.out.no ((Fr.refl _ W1).drewN (nq + 1)) hgl4).setB (k := opn) (by omega) X
                have HKf : Hid _ := (HK0.out.trans ((Fr.refl _ W1).drewN (nq + 1))).setCell (p := ⟨ga, opn * 2 + 1, none⟩) (fun _ => rfl) (Value.int IntKind.u32 (msk X : Int))
                have m2 : ((W1.drewN (nq + 1)).setCell ⟨ga, opn * 2 + 1, none⟩ (Value.int IntKind.u32 (msk X : Int))).cell? ⟨fb, 1, none⟩ = _ := (cell_other (.inl (Ne.symm hne))).trans m1
                generalize ((W1.drewN (nq + 1)).setCell ⟨ga, opn * 2 + 1, none⟩ (Value.int IntKind.u32 (msk X : Int))) = W2 at *
                have cb := HKo.out.b i hlt
                have cf := HKo.out.f (i * 2 + 1)
                go_wp2
                go_roundw
                case rel =>
                  refine ⟨i + 1, by omega, by go_num, ?_, ?_, ?_, ?_⟩
                  · rw [HE.out]; simp
                  · rw [HE.out]
                  · rw [HE.out]; exact HKo.out.setB hlt _
                  · exact HKf.out.setCell (p := ⟨ga, i * 2 + 1, none⟩) (fun _ => rfl) _
                case measure => simp [intOf]; omega
            · have b11 : ((kind : Int) == 12) = false := beq_eq_false_iff_ne.2 (by omega)
              have HE : Hid (passM p (i + 1) 0 z0 = ⟨updA z.A i z.now, updA z.B i (behP ⟨kind, place, num, box, src, o1, sign, o2, opn⟩ z.now), behP ⟨kind, place, num, box, src, o1, sign, o2, opn⟩ z.now, z.st⟩) := by
                show _ = _
                rw [Hnext.out]
                exact step_plain (by rw [Hpi.out]; exact h11) (by unfold nowM; rw [Hpi.out]; simp only [h8, h9, h10, h11, if_false])
              have cb := HK1.out.b i hlt
              have cf := HK1.out.f (i * 2 + 1)
              have HBh : Hid _ := fun X => fbehind_fn X ⟨kind, place, num, box, src, o1, sign, o2, opn⟩ clo z.now Hok.out
              generalize behP ⟨kind, place, num, box, src, o1, sign, o2, opn⟩ z.now = X at *
              clear h8 h9 h10 h11
              simp only [hb1, hx1, hb2, hx2] at HBh
              go_wp2_with (go_at_call 104; refine (HBh.out _).mono ?_; rintro e w2 ⟨rfl, hF2⟩; have cb2 := hF2.cell_some cb id; have cf2 := (hF2.frozen (p := ⟨ga, i * 2 + 1, none⟩) hgl4 id).trans cf; have m2 := hF2.cell_some m1 id)
              go_roundw
              case rel =>
                refine ⟨i + 1, by omega, by go_num, ?_, ?_, ?_, ?_⟩
                · rw [HE.out]
                · rw [HE.out]
                · rw [HE.out]; exact (HK1.out.no hF2 hgl4).setB hlt _
                · exact (HK0.out.trans hF2.of_no).setCell (p := ⟨ga, i * 2 + 1, none⟩) (fun _ => rfl) _
              case measure => simp [intOf]; omega
    · have hie : i = n := by omega
      subst hie
      have HAr : Hid _ := hAr
      clear hAr hF
      go_wp2
      go_ret
      exact ⟨rfl, HAr.out, HF.out⟩
end Go.Proofs.YtcmnejcojphijaaGreatDoor

namespace Go.Proofs.YtcmnejcojphijaaGreatDoor
open Go.RowKit
set_option linter.unusedVariables false

/-- how many boxes the loops' sets have together -/
def muN (p : Nat → Pt) (B : Nat → Nat → Bool) : Nat → Nat
  | 0 => 0
  | q + 1 => muN p B q + (if (p q).kind = 11 then card (B q) 26 else 0)
theorem muN_le {p : Nat → Pt} {B B' : Nat → Nat → Bool} : ∀ {n : Nat}, (∀ q, q < n → (p q).kind = 11 → Sub (B' q) (B q)) → muN p B' n ≤ muN p B n
  | 0, _ => Nat.le_refl _
  | n + 1, h => by
    have h1 := muN_le (n := n) (fun q hq => h q (by omega))
    show muN p B' n + _ ≤ muN p B n + _
    split
    · rename_i hk
      have := card_mono (n := 26) (fun i _ => h n (by omega) hk i)
      omega
    · omega
theorem muN_lt {p : Nat → Pt} {B B' : Nat → Nat → Bool} : ∀ {n : Nat}, (∀ q, q < n → (p q).kind = 11 → Sub (B' q) (B q)) → (∃ q, q < n ∧ (p q).kind = 11 ∧ ∃ x, x < 26 ∧ B q x = true ∧ B' q x = false) → muN p B' n < muN p B n
  | 0, _, h => by obtain ⟨q, hq, _⟩ := h; omega
  | n + 1, h, ⟨q, hq, hk, x, hx, h1, h2⟩ => by
    show muN p B' n + (if (p n).kind = 11 then card (B' n) 26 else 0) < muN p B n + (if (p n).kind = 11 then card (B n) 26 else 0)
    by_cases e : q = n
    · subst e
      have a1 := muN_le (n := q) (fun q' hq' => h q' (by omega))
      have a2 := card_lt (n := 26) (fun i _ => h q (by omega) hk i) ⟨x, hx, h2, h1⟩
      rw [if_pos hk, if_pos hk]
      omega
    · have a1 := muN_lt (n := n) (fun q' hq' => h q' (by omega)) ⟨q, by omega, hk, x, hx, h1, h2⟩
      split
      · rename_i hk2
        have := card_mono (n := 26) (fun i _ => h n (by omega) hk2 i)
        omega
      · omega
theorem pass_mu {p : Nat → Pt} {n : Nat} (hp : FlatOk p n) (A B : Nat → Nat → Bool) : ∀ i, i ≤ n → (∀ q, q < n → (p q).kind = 11 → Sub ((passM p i 0 ⟨A, B, fun _ => false, true⟩).B q) (B q)) ∧
    ((passM p i 0 ⟨A, B, fun _ => false, true⟩).st = false → ∃ q, q < n ∧ (p q).kind = 11 ∧ ∃ x, x < 26 ∧ B q x = true ∧ (passM p i 0 ⟨A, B, fun _ => false, true⟩).B q x = false)
  | 0, _ => ⟨fun q _ _ => Sub.refl _, fun h => absurd h (by simp [passM])⟩
  | i + 1, hi => by
    obtain ⟨h1, h2⟩ := pass_mu hp A B i (by omega)
    rw [pass_next]
    generalize passM p i 0 ⟨A, B, fun _ => false, true⟩ = z at h1 h2
    obtain ⟨_, _, e3, e4⟩ := step_eq p i z
    have keep : (∀ q, q < n → (p q).kind = 11 → Sub ((stepM p i z).B q) (z.B q)) → z.st = false → ∃ q, q < n ∧ (p q).kind = 11 ∧ ∃ x, x < 26 ∧ B q x = true ∧ (stepM p i z).B q x = false := fun hs hz => by
      obtain ⟨q, hq, hk, x, hx, b1, b2⟩ := h2 hz
      refine ⟨q, hq, hk, x, hx, b1, ?_⟩
      cases hc : (stepM p i z).B q x
      · rfl
      · have := hs q hq hk x hc
        rw [b2] at this; cases this
    by_cases h11 : (p i).kind = 12
    · obtain ⟨f1, f2⟩ := e4 h11
      have ho := hp.op i (by omega) (.inr (.inr h11))
      have hk10 := hp.lp i (by omega) h11
      have hs : ∀ q, q < n → (p q).kind = 11 → Sub ((stepM p i z).B q) (z.B q) := fun q hq hk => by
        rw [f1, updA_ne _ _ (fun e => by subst e; omega)]
        by_cases e : q = (p i).opn
        · rw [e, updA_at, now11 h11]; exact Sub.left _ _
        · rw [updA_ne _ _ e]; exact Sub.refl _
      refine ⟨fun q hq hk => (hs q hq hk).trans (h1 q hq hk), fun hst => ?_⟩
      cases hz : z.st
      · exact keep hs hz
      · rw [f2, hz] at hst
        simp only [Bool.true_and] at hst
        replace hst := subD_not hst
        have : ∃ x, x < 26 ∧ z.B (p i).opn x = true ∧ z.now x = false := by
          apply Classical.byContradiction
          intro hn
          apply hst
          intro x hx hb
          cases hc : z.now x
          · exact absurd ⟨x, hx, hb, hc⟩ hn
          · rfl
        obtain ⟨x, hx, b1, b2⟩ := this
        refine ⟨(p i).opn, by omega, hk10, x, hx, h1 _ (by omega) hk10 x b1, ?_⟩
        rw [step_B11 h11 (by omega), now11 h11]
        unfold bothF
        rw [b2]
        simp
    · obtain ⟨f1, f2⟩ := e3 h11
      have hs : ∀ q, q < n → (p q).kind = 11 → Sub ((stepM p i z).B q) (z.B q) := fun q hq hk => by
        rw [f1]
        by_cases e : q = i
        · subst e
          rw [updA_at, now10 hk]; exact Sub.right _ _
        · rw [updA_ne _ _ e]; exact Sub.refl _
      exact ⟨fun q hq hk => (hs q hq hk).trans (h1 q hq hk), fun hst => keep hs (by rw [f2] at hst; exact hst)⟩

def allF : Nat → Bool := fun i => decide (i < 26)
theorem msk_all : msk allF = 67108863 := by decide
theorem sub_all {f : Nat → Bool} (h : Clean f) : Sub f allF := fun i hi => by
  unfold allF
  by_cases q : i < 26
  · simp [q]
  · rw [h i (by omega)] at hi; cases hi

/-- the parts are those of the text -/
def Seg0 (p : Nat → Pt) (s : ByteArray) (n : Nat) : Prop := SegQ p s (AboveC (fun _ => allF)) TrueC (s.size + 1) 0 s.size 0 n (fun _ => false)
theorem seg_is (p : Nat → Pt) (n : Nat) (z : Ps) : seg p 0 n z = passM p n 0 z := rfl

theorem Tryz.infoArnd : (Tryz.prog.info? 128).map (fun i => (i.zero, i.size, i.bytes)) = some (some (.agg #[.int .u32 0, .int .u32 0]), 2, 8) := by kernel_rfl
theorem made_two32 (n j : Nat) (h : j < n) : (madeCells #[Value.int .u32 0, Value.int .u32 0] n)[j]? = some (.int .u32 0) := by
  unfold madeCells
  have h2 : j % 2 = 0 ∨ j % 2 = 1 := by omega
  rcases h2 with h2 | h2 <;> simp [h, h2]
theorem arnd_made (n : Nat) (hn : n ≤ 100000) : ∃ C : Array Value, (∀ j, j < n * 2 → C[j]? = some (.int .u32 0)) ∧
    ∀ u : World, (Instr.makeSlice 71 (.int .i64 (n : Int)) (.int .i64 (n : Int))).run Tryz.prog u = .ok (.slice (some ⟨u.heap.size, 0, none⟩) n n) (u.alloc (.cells C 128)) := by
  obtain ⟨i0, hi, hz0, hz1, hz2⟩ := info_parts Tryz.infoArnd
  refine ⟨madeCells #[Value.int .u32 0, Value.int .u32 0] (n * 2), fun j hj => made_two32 _ _ hj, fun u => ?_⟩
  have h := run_make (P := Tryz.prog) u 71 128 i0 (.agg #[.int .u32 0, .int .u32 0]) Tryz.underlying71 hi hz0 .i64 .i64 (n : Int) (n : Int) (by omega) (Int.le_refl _) (by rw [hz2]; omega) (by omega)
  simpa [hz1, Value.cells] using h

/-- what Find answers -/
def FindSays (p : Nat → Pt) (s : ByteArray) (n : Nat) (w : World) (e : Ending) (w' : World) : Prop := ∃ (ga : Nat) (A B : Nat → Nat → Bool), e = .returned (.slice (some ⟨ga, 0, none⟩) n n) ∧ Arnd w' ga n A B ∧ SegQ p s TrueC (ExactC A) (s.size + 1) 0 s.size 0 n (fun _ => false) ∧ Fr NoB w w'
set_option maxRecDepth 8000 in
set_option maxHeartbeats 4000000 in
theorem find_fn (w : World) (n pc : Nat) (ao : Option Addr) (p : Nat → Pt) (CL : Nat → Nat) (s : ByteArray) (hn : n ≤ 100000) (hp : FlatOk p n) (hP : PartRow w ao n p CL) (hseg : Seg0 p s n) (hpl : ∀ g, ao = some ⟨g, 0, none⟩ → g < w.heap.size) :
    Calls Tryz.prog 30 #[.slice ao n pc] w fun e w' => FindSays p s n w e w' := by
  have Hp : Hid (FlatOk p n) := hp
  have HP : Hid (PartRow w ao n p CL) := hP
  have Hseg : Hid (Seg0 p s n) := hseg
  have Hpl : Hid _ := hpl
  clear hp hP hseg hpl
  obtain ⟨C, hC, hmk⟩ := arnd_made n hn
  have HC : Hid (∀ j, j < n * 2 → C[j]? = some (.int .u32 0)) := hC
  clear hC
  go_enter Tryz.func30, Tryz.ntmps30
  go_upto_region 3 with fail
  have h0 : Arnd ((w.alloc (Obj.cells C 128)).alloc (Obj.cells #[Value.slice ao n pc, Value.slice (some ⟨w.heap.size, 0, none⟩) n n] 124)) w.heap.size n (fun _ _ => false) (fun q => if q < 0 then allF else fun _ => false) := by
    have base : Arnd (w.alloc (Obj.cells C 128)) w.heap.size n (fun _ _ => false) (fun q => if q < 0 then allF else fun _ => false) := by
      refine ⟨fun i hi => ?_, fun i hi => ?_, fun o => World.frozen?_alloc_at _ _ _ _ rfl⟩
      · rw [msk_none]; exact cell_new _ _ _ rfl (HC.out _ (by omega))
      · simp only [Nat.not_lt_zero, if_false]; rw [msk_none]; exact cell_new _ _ _ rfl (HC.out _ (by omega))
    exact base.no ((Fr.refl _ _).alloc _) (by simp)
  have f0 : ((w.alloc (Obj.cells C 128)).alloc (Obj.cells #[Value.slice ao n pc, Value.slice (some ⟨w.heap.size, 0, none⟩) n n] 124)).cell? ⟨w.heap.size + 1, 0, none⟩ = some (.slice ao n pc) := cell_new _ _ _ (by simp) rfl
  have f1 : ((w.alloc (Obj.cells C 128)).alloc (Obj.cells #[Value.slice ao n pc, Value.slice (some ⟨w.heap.size, 0, none⟩) n n] 124)).cell? ⟨w.heap.size + 1, 1, none⟩ = some (.slice (some ⟨w.heap.size, 0, none⟩) n n) := cell_new _ _ _ (by simp) rfl
  have hFr : Fr NoB w ((w.alloc (Obj.cells C 128)).alloc (Obj.cells #[Value.slice ao n pc, Value.slice (some ⟨w.heap.size, 0, none⟩) n n] 124)) := ((Fr.refl _ _).alloc _).alloc _
  generalize ((w.alloc (Obj.cells C 128)).alloc (Obj.cells #[Value.slice ao n pc, Value.slice (some ⟨w.heap.size, 0, none⟩) n n] 124)) = W at *
  have H0 : Hid _ := h0
  have F0 : Hid _ := f0
  have F1 : Hid _ := f1
  have HFr : Hid _ := hFr
  clear h0 f0 f1 hFr hmk HC
  go_loopw [4] (fun t wr => ∃ i : Nat, i ≤ n ∧ t = .int .i64 i ∧ Arnd wr w.heap.size n (fun _ _ => false) (fun q => if q < i then allF else fun _ => false) ∧ Fr (OneB w.heap.size) W wr) (fun t _ => n - (intOf t).toNat)
  case atStart => exact ⟨0, Nat.zero_le _, rfl, H0.out, Fr.refl _ _⟩
  case round =>
    obtain ⟨i, hi, rfl, hA, hF⟩ := hrel
    have hne : ¬ OneB w.heap.size (w.heap.size + 1) := by unfold OneB; omega
    have c1 := hF.cell_some F1.out hne
    have HF : Hid _ := hF
    have HA : Hid _ := hA
    clear hF hA
    by_cases hlt : i < n
    · have e1 := HA.out.b i hlt
      have e2 := HA.out.f (i * 2 + 1)
      simp only [Nat.lt_irrefl, if_false] at e1
      go_wp2
      go_roundw
      case rel =>
        refine ⟨i + 1, by omega, by go_num, ?_, HF.out.setCell (p := ⟨w.heap.size, i * 2 + 1, none⟩) (fun _ => rfl) _⟩
        have this0 := HA.out.setB hlt allF
        rw [msk_all] at this0
        have this : Arnd (wr.setCell ⟨w.heap.size, i * 2 + 1, none⟩ (.int .u32 67108863)) w.heap.size n (fun _ _ => false) (updA (fun q => if q < i then allF else fun _ => false) i allF) := this0
        refine ⟨this.a, fun q hq => ?_, this.f⟩
        rw [this.b q hq]
        unfold updA
        by_cases e : q = i
        · subst e; simp
        · by_cases e2 : q < i
          · simp [e, e2, show q < i + 1 by omega]
          · simp [e, e2, show ¬ q < i + 1 by omega]
      case measure => simp [intOf]; omega
    · have hie : i = n := by omega
      subst hie
      have HB : Hid (Arnd wr w.heap.size i (fun _ _ => false) (fun _ => allF)) := ⟨HA.out.a, fun q hq => by rw [HA.out.b q hq, if_pos hq], HA.out.f⟩
      have hw1 : w.heap.size + 1 < wr.heap.size := World.block_lt_of_cell? _ _ c1
      have HFn : Hid (Fr NoB w wr) := HFr.out.then HF.out (fun k hk e => by unfold OneB at e; omega)
      have G0 : Hid _ := HF.out.cell_some F0.out hne
      have G1 : Hid _ := c1
      clear c1 HA HF H0 F0 F1 HFr
      generalize hwr : wr = V at *
      clear hwr
      go_wp2
      go_loopg [5] (muN p (fun _ => allF) i + 1) (fun k t wr => ∃ (A B : Nat → Nat → Bool) (st : Bool), t = .bool st ∧ (st = false → muN p B i + 1 ≤ k) ∧ Arnd wr w.heap.size i A B ∧ SegQ p s (AboveC B) TrueC (s.size + 1) 0 s.size 0 i (fun _ => false) ∧ (st = true → SegQ p s TrueC (ExactC A) (s.size + 1) 0 s.size 0 i (fun _ => false)) ∧ Fr (OneB w.heap.size) V wr)
      case atStart => exact ⟨_, _, false, rfl, fun _ => Nat.le_refl _, HB.out, Hseg.out, fun h => absurd h (by simp), Fr.refl _ _⟩
      case round =>
        obtain ⟨A, B, st, rfl, hk, hA, hS, hE, hF⟩ := hrel
        cases st
        · have hk2 := hk rfl
          have hgl : w.heap.size < wr.heap.size := Nat.lt_of_lt_of_le (by omega) hF.size
          have g0 := hF.cell_some G0.out hne
          have g1 := hF.cell_some G1.out hne
          have hPr := (HP.out.no HFn.out).fr hF (fun g e q => by have := Hpl.out g e; unfold OneB at q; omega)
          have HPass : Hid _ := fpass_fn wr (w.heap.size + 1) w.heap.size i i pc ao p CL A B hn Hp.out hPr hA g0 g1 hgl (by omega) (fun g e => by have := Hpl.out g e; omega)
          have hmu := pass_mu Hp.out A B i (Nat.le_refl _)
          have hup := (seg_up (z := ⟨A, B, fun _ => false, true⟩) hS clean_none (Sub.refl _)).2
          have hex := fun h => (seg_exact (z := ⟨A, B, fun _ => false, true⟩) hS clean_none h).2
          rw [seg_is] at hup hex
          generalize passM p i 0 ⟨A, B, fun _ => false, true⟩ = z at HPass hmu hup hex
          have Hmu : Hid _ := hmu
          have Hup : Hid _ := hup
          have Hex : Hid _ := hex
          have HF : Hid _ := hF
          clear hmu hup hex hF hS hE hA hk g0 g1 hPr
          go_wp2_with (go_at_call 61; refine Calls.mono HPass.out ?_; rintro e w2 ⟨rfl, hA2, hF2⟩)
          cases hst : z.st
          · go_roundg (muN p z.B i + 1)
            case measure =>
              have := muN_lt Hmu.out.1 (Hmu.out.2 hst)
              omega
            case rel => exact ⟨z.A, z.B, false, rfl, fun _ => Nat.le_refl _, hA2, Hup.out, fun h => absurd h (by simp), HF.out.trans hF2⟩
          · go_roundg 0
            case measure => omega
            case rel => exact ⟨z.A, z.B, true, rfl, fun h => absurd h (by simp), hA2, Hup.out, fun _ => Hex.out hst, HF.out.trans hF2⟩
        · have HE : Hid _ := hE rfl
          have HA : Hid _ := hA
          have g1 := hF.cell_some G1.out hne
          have HF : Hid _ := hF
          clear hE hA hF hS hk
          go_wp2
          go_ret
          exact ⟨w.heap.size, A, B, rfl, HA.out, HE.out, HFn.out.then HF.out (fun k hk e => by unfold OneB at e; omega)⟩
end Go.Proofs.YtcmnejcojphijaaGreatDoor
