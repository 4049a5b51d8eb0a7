/-
  DevB, DevC: one behind the other.
-/
import Derived.Test.YthcjcjfgdgnljaaGreatDoorGDevQ
namespace Go.Proofs.YthcjcjfgdgnljaaGreatDoor
open Go.RowKit
set_option linter.unusedVariables false

/-- an operand's two cells -/
def odB : Od → Bool
  | .n _ => true
  | .v _ => false
def odI : Od → Nat
  | .n k => k
  | .v x => x
/-- the cells of a part; clo: the part that closes its brace -/
def ptC (t : Pt) (clo : Nat) : List Value := [.int .i64 (t.kind : Int), .int .i64 (t.place : Int), .int .i64 (t.num : Int), .int .i64 (t.box : Int), .int .i64 (t.src : Int), .bool (odB t.o1), .int .i64 (odI t.o1 : Int), .int .u8 (t.sign : Int), .bool (odB t.o2), .int .i64 (odI t.o2 : Int), .int .i64 (t.opn : Int), .int .i64 (clo : Int)]
/-- a part whose numbers are in their bounds -/
structure PtOk (t : Pt) : Prop where
  k : t.kind ≤ 12
  n : t.num < 26
  o1 : OdOk t.o1
  o2 : OdOk t.o2
  sg : t.sign < 256
  b : t.box < 26
  s : t.src < 26
  p : t.place ≤ 100000
  o : t.opn ≤ 100000

set_option maxHeartbeats 1000000 in
theorem fbehind_fn (w : World) (t : Pt) (clo : Nat) (f : Nat → Bool) (ht : PtOk t) :
    Calls Tryz.prog 105 #[.agg #[.int .i64 (t.kind : Int), .int .i64 (t.place : Int), .int .i64 (t.num : Int), .int .i64 (t.box : Int), .int .i64 (t.src : Int), .bool (odB t.o1), .int .i64 (odI t.o1 : Int), .int .u8 (t.sign : Int), .bool (odB t.o2), .int .i64 (odI t.o2 : Int), .int .i64 (t.opn : Int), .int .i64 (clo : Int)], .int .u32 (msk f : Int)] w fun e w' => e = .returned (.int .u32 (msk (behP t f) : Int)) ∧ Fr NoB w w' := by
  obtain ⟨kind, place, num, box, src, o1, sign, o2, opn⟩ := t
  have hb : box < 26 := ht.b
  have hs : src < 26 := ht.s
  clear ht
  show Calls Tryz.prog 105 #[.agg #[.int .i64 (kind : Int), .int .i64 (place : Int), .int .i64 (num : Int), .int .i64 (box : Int), .int .i64 (src : Int), .bool (odB o1), .int .i64 (odI o1 : Int), .int .u8 (sign : Int), .bool (odB o2), .int .i64 (odI o2 : Int), .int .i64 (opn : Int), .int .i64 (clo : Int)], .int .u32 (msk f : Int)] w fun e w' => e = .returned (.int .u32 (msk (behP ⟨kind, place, num, box, src, o1, sign, o2, opn⟩ f) : Int)) ∧ Fr NoB w w'
  by_cases h4x : kind = 4
  · have hE : behP ⟨kind, place, num, box, src, o1, sign, o2, opn⟩ f = updB f box true := by unfold behP; rw [if_pos h4x]
    rw [hE]
    subst h4x
    clear hE
    go_enter Tryz.func105, Tryz.ntmps105
    go_wp2_with (go_at_call 130; refine (with_fn _ f box hb).mono ?_; rintro e w1 ⟨rfl, hw⟩; have hw2 := hw.symm; clear hw; subst hw2)
    go_ret
    exact ⟨rfl, (Fr.refl _ _).alloc _⟩
  · have b4x : ((kind : Int) == 4) = false := beq_eq_false_iff_ne.2 (by omega)
    by_cases h7x : kind = 7
    · have hE : behP ⟨kind, place, num, box, src, o1, sign, o2, opn⟩ f = updB f box false := by unfold behP; rw [if_neg h4x, if_pos h7x]
      rw [hE]
      subst h7x
      clear hE b4x h4x
      go_enter Tryz.func105, Tryz.ntmps105
      go_wp2_with (go_at_call 131; refine (without_fn _ f box hb).mono ?_; rintro e w1 ⟨rfl, hw⟩; have hw2 := hw.symm; clear hw; subst hw2)
      go_ret
      exact ⟨rfl, (Fr.refl _ _).alloc _⟩
    · have b7x : ((kind : Int) == 7) = false := beq_eq_false_iff_ne.2 (by omega)
      by_cases h5x : kind = 5
      · have hE : behP ⟨kind, place, num, box, src, o1, sign, o2, opn⟩ f = moveF box src f := by unfold behP; rw [if_neg h4x, if_neg h7x, if_pos h5x]
        rw [hE]
        subst h5x
        clear hE b4x h4x b7x h7x
        go_enter Tryz.func105, Tryz.ntmps105
        go_wp2_with (go_at_call 132; refine (move_fn _ f box src hb hs).mono ?_; rintro e w1 ⟨rfl, hw⟩; have hw2 := hw.symm; clear hw; subst hw2)
        go_ret
        exact ⟨rfl, (Fr.refl _ _).alloc _⟩
      · have b5x : ((kind : Int) == 5) = false := beq_eq_false_iff_ne.2 (by omega)
        have hE : behP ⟨kind, place, num, box, src, o1, sign, o2, opn⟩ f = f := by unfold behP; rw [if_neg h4x, if_neg h7x, if_neg h5x]
        rw [hE]
        clear hE h4x h7x h5x
        go_enter Tryz.func105, Tryz.ntmps105
        go_wp2
        go_ret
        exact ⟨rfl, (Fr.refl _ _).alloc _⟩

/-- parts in memory; C: the parts that close their braces -/
structure PartRow (w : World) (ao : Option Addr) (n : Nat) (p : Nat → Pt) (C : Nat → Nat) : Prop where
  some_ : 0 < n → ∃ g, ao = some ⟨g, 0, none⟩
  c : ∀ g i j u, i < n → ao = some ⟨g, 0, none⟩ → (ptC (p i) (C i))[j]? = some u → w.cell? ⟨g, i * 12 + j, none⟩ = some u
theorem PartRow.fr {S : Nat → Prop} {w w' : World} {ao : Option Addr} {n : Nat} {p : Nat → Pt} {C : Nat → Nat} (h : PartRow w ao n p C) (hf : Fr S w w') (hs : ∀ g, ao = some ⟨g, 0, none⟩ → ¬ S g) : PartRow w' ao n p C :=
  ⟨h.some_, fun g i j u hi e hu => hf.cell_some (h.c g i j u hi e hu) (hs g e)⟩
theorem PartRow.no {w w' : World} {ao : Option Addr} {n : Nat} {p : Nat → Pt} {C : Nat → Nat} (h : PartRow w ao n p C) (hf : Fr NoB w w') : PartRow w' ao n p C := h.fr hf (fun _ _ h => h)

/-- the sets ahead of and behind each part, in memory -/
structure Arnd (w : World) (ga n : Nat) (A B : Nat → Nat → Bool) : Prop where
  a : ∀ i, i < n → w.cell? ⟨ga, i * 2, none⟩ = some (.int .u32 (msk (A i) : Int))
  b : ∀ i, i < n → w.cell? ⟨ga, i * 2 + 1, none⟩ = some (.int .u32 (msk (B i) : Int))
  f : ∀ o, w.frozen? ⟨ga, o, none⟩ = false
theorem Arnd.fr {S : Nat → Prop} {w w' : World} {ga n : Nat} {A B : Nat → Nat → Bool} (h : Arnd w ga n A B) (hf : Fr S w w') (hs : ¬ S ga) (hl : ga < w.heap.size) : Arnd w' ga n A B :=
  ⟨fun i hi => hf.cell_some (h.a i hi) hs, fun i hi => hf.cell_some (h.b i hi) hs, fun o => (hf.frozen (p := ⟨ga, o, none⟩) hl hs).trans (h.f o)⟩
theorem Arnd.no {w w' : World} {ga n : Nat} {A B : Nat → Nat → Bool} (h : Arnd w ga n A B) (hf : Fr NoB w w') (hl : ga < w.heap.size) : Arnd w' ga n A B := h.fr hf id hl
theorem Arnd.setA {w : World} {ga n : Nat} {A B : Nat → Nat → Bool} (h : Arnd w ga n A B) {k : Nat} (hk : k < n) (f : Nat → Bool) : Arnd (w.setCell ⟨ga, k * 2, none⟩ (.int .u32 (msk f : Int))) ga n (updA A k f) B :=
  ⟨fun i hi => by
      by_cases e : i = k
      · subst e; rw [updA_at]; exact cell_same (h.a i hi)
      · rw [updA_ne _ _ e]; exact (cell_other (.inr (by omega))).trans (h.a i hi),
    fun i hi => (cell_other (.inr (by omega))).trans (h.b i hi), fun o => by rw [World.frozen?_setCell]; exact h.f o⟩
theorem Arnd.setB {w : World} {ga n : Nat} {A B : Nat → Nat → Bool} (h : Arnd w ga n A B) {k : Nat} (hk : k < n) (f : Nat → Bool) : Arnd (w.setCell ⟨ga, k * 2 + 1, none⟩ (.int .u32 (msk f : Int))) ga n A (updA B k f) :=
  ⟨fun i hi => (cell_other (.inr (by omega))).trans (h.a i hi),
    fun i hi => by
      by_cases e : i = k
      · subst e; rw [updA_at]; exact cell_same (h.b i hi)
      · rw [updA_ne _ _ e]; exact (cell_other (.inr (by omega))).trans (h.b i hi), fun o => by rw [World.frozen?_setCell]; exact h.f o⟩
theorem mk_ne {f g : Nat → Bool} : ((msk (bothF f g) : Int) != (msk f : Int)) = !subD f g := by
  by_cases h : subF f g
  · have : msk (bothF f g) = msk f := mk_congr fun i hi => by
      unfold bothF
      cases hf : f i
      · rfl
      · rw [h i hi hf]; rfl
    rw [this, subD_true h]
    simp
  · rw [subD_false h]
    have hne : msk (bothF f g) ≠ msk f := fun e => h fun i hi hf => by
      have h1 := mk_bit (bothF f g) i
      have h2 := mk_bit f i
      rw [e, h2] at h1
      simp [hi, hf] at h1
      unfold bothF at h1
      simp [hf] at h1
      exact h1
    exact bne_iff_ne.2 (by omega)
end Go.Proofs.YthcjcjfgdgnljaaGreatDoor

namespace Go.Proofs.YthcjcjfgdgnljaaGreatDoor
open Go.RowKit
set_option linter.unusedVariables false

/-- the parts' numbers are in their bounds, and what a part closes stands ahead of it -/
structure FlatOk (p : Nat → Pt) (n : Nat) : Prop where
  ok : ∀ i, i < n → PtOk (p i)
  op : ∀ i, i < n → (p i).kind = 9 ∨ (p i).kind = 10 ∨ (p i).kind = 12 → (p i).opn < i
  lp : ∀ i, i < n → (p i).kind = 12 → (p (p i).opn).kind = 11

theorem msk_none : msk (fun _ => false) = 0 := Nat.eq_of_testBit_eq fun i => by rw [mk_bit]; simp
theorem pass_next (p : Nat → Pt) (i : Nat) (z : Ps) : passM p (i + 1) 0 z = stepM p i (passM p i 0 z) := by
  have := passM_add p i 1 0 z
  rw [this, Nat.zero_add]
  rfl
theorem step_eq (p : Nat → Pt) (i : Nat) (z : Ps) : (stepM p i z).A = updA z.A i z.now ∧ (stepM p i z).now = nowM p i z ∧ ((p i).kind ≠ 12 → (stepM p i z).B = updA z.B i (nowM p i z) ∧ (stepM p i z).st = z.st) ∧
    ((p i).kind = 12 → (stepM p i z).B = updA (updA z.B (p i).opn (nowM p i z)) i (nowM p i z) ∧ (stepM p i z).st = (z.st && subD (z.B (p i).opn) z.now)) := by
  refine ⟨rfl, rfl, fun h => ⟨?_, ?_⟩, fun h => ⟨?_, ?_⟩⟩
  · unfold stepM; simp [h]
  · unfold stepM; simp [h]
  · unfold stepM; simp [h]
  · unfold stepM; simp [h]

theorem step_plain {p : Nat → Pt} {i : Nat} {z : Ps} {X : Nat → Bool} (h : (p i).kind ≠ 12) (hX : nowM p i z = X) : stepM p i z = ⟨updA z.A i z.now, updA z.B i X, X, z.st⟩ := by
  subst hX; unfold stepM; simp [h]
theorem step_again {p : Nat → Pt} {i : Nat} {z : Ps} (h : (p i).kind = 12) : stepM p i z = ⟨updA z.A i z.now, updA (updA z.B (p i).opn (bothF (z.B (p i).opn) z.now)) i (bothF (z.B (p i).opn) z.now), bothF (z.B (p i).opn) z.now, z.st && subD (z.B (p i).opn) z.now⟩ := by
  unfold stepM; rw [now11 h]; simp [h]
set_option maxRecDepth 8000 in
set_option maxHeartbeats 4000000 in
theorem fpass_fn (w : World) (fb ga n ac pc : Nat) (ao : Option Addr) (p : Nat → Pt) (C : Nat → Nat) (A B : Nat → Nat → Bool) (hn : n ≤ 100000) (hp : FlatOk p n) (hP : PartRow w ao n p C) (hA : Arnd w ga n A B)
    (hb0 : w.cell? ⟨fb, 0, none⟩ = some (.slice ao n pc)) (hb1 : w.cell? ⟨fb, 1, none⟩ = some (.slice (some ⟨ga, 0, none⟩) n ac)) (hgl : ga < w.heap.size) (hne : fb ≠ ga) (hne2 : ∀ g, ao = some ⟨g, 0, none⟩ → g ≠ ga) :
    Calls Tryz.prog 61 #[.pointer (some ⟨fb, 0, none⟩)] w fun e w' => e = .returned (.bool (passM p n 0 ⟨A, B, fun _ => false, true⟩).st) ∧ Arnd w' ga n (passM p n 0 ⟨A, B, fun _ => false, true⟩).A (passM p n 0 ⟨A, B, fun _ => false, true⟩).B ∧ Fr (OneB ga) w w' := by
  have Hp : Hid (FlatOk p n) := hp
  have HP : Hid (PartRow w ao n p C) := hP
  have HA : Hid (Arnd w ga n A B) := hA
  have Hb0 : Hid _ := hb0
  have Hb1 : Hid _ := hb1
  clear hp hP hA hb0 hb1
  generalize hz0 : (⟨A, B, fun _ => false, true⟩ : Ps) = z0
  have Hz0 : Hid _ := hz0
  clear hz0
  go_enter Tryz.func61, Tryz.ntmps61
  go_wp2
  go_loopw [3, 4, 5] (fun ts tn ti wr => ∃ i : Nat, i ≤ n ∧ ti = .int .i64 i ∧ ts = .bool (passM p i 0 z0).st ∧ tn = .int .u32 (msk (passM p i 0 z0).now : Int) ∧ Arnd wr ga n (passM p i 0 z0).A (passM p i 0 z0).B ∧ Fr (OneB ga) w wr) (fun _ _ t _ => n - (intOf t).toNat)
  case atStart =>
    refine ⟨0, Nat.zero_le _, rfl, ?_, ?_, ?_, Fr.refl _ _⟩
    · rw [← Hz0.out]; rfl
    · rw [← Hz0.out]; show _ = Value.int .u32 ((msk (fun _ => false) : Nat) : Int); rw [msk_none]; rfl
    · rw [← Hz0.out]; exact HA.out
  case round =>
    obtain ⟨i, hi, rfl, rfl, rfl, hAr, hF⟩ := hrel
    have hc0 := hF.cell_some Hb0.out (show ¬ OneB ga fb from hne)
    have hc1 := hF.cell_some Hb1.out (show ¬ OneB ga fb from hne)
    have hgl2 : ga < wr.heap.size := Nat.lt_of_lt_of_le hgl hF.size
    have hfl : fb < wr.heap.size := World.block_lt_of_cell? _ _ hc0
    have HF : Hid _ := hF
    by_cases hlt : i < n
    · obtain ⟨g, rfl⟩ := HP.out.some_ (by omega)
      have hP2 := HP.out.fr hF (fun g' e => hne2 g' e)
      have d0 : wr.cell? ⟨g, i * 12, none⟩ = _ := hP2.c g i 0 _ hlt rfl rfl
      have d1 := hP2.c g i 1 _ hlt rfl rfl
      have d2 := hP2.c g i 2 _ hlt rfl rfl
      have d3 := hP2.c g i 3 _ hlt rfl rfl
      have d4 := hP2.c g i 4 _ hlt rfl rfl
      have d5 := hP2.c g i 5 _ hlt rfl rfl
      have d6 := hP2.c g i 6 _ hlt rfl rfl
      have d7 := hP2.c g i 7 _ hlt rfl rfl
      have d8 := hP2.c g i 8 _ hlt rfl rfl
      have d9 := hP2.c g i 9 _ hlt rfl rfl
      have d10 := hP2.c g i 10 _ hlt rfl rfl
      have d11 := hP2.c g i 11 _ hlt rfl rfl
      have hgl3 : g < wr.heap.size := World.block_lt_of_cell? _ _ d0
      have hnext := pass_next p i z0
      generalize passM p i 0 z0 = z at *
      have Hnext : Hid (passM p (i + 1) 0 z0 = stepM p i z) := hnext
      have e1 := hAr.a i hlt
      have e2 := hAr.f (i * 2)
      have HAr : Hid (Arnd wr ga n z.A z.B) := hAr
      have Hok : Hid (PtOk (p i)) := Hp.out.ok i hlt
      have Hop : Hid ((p i).kind = 9 ∨ (p i).kind = 10 ∨ (p i).kind = 12 → (p i).opn < i) := Hp.out.op i hlt
      have Hst : Hid _ := step_eq p i z
      clear hnext hAr hP2 hF
      generalize hpi : p i = t at *
      obtain ⟨kind, place, num, box, src, o1, sign, o2, opn⟩ := t
      simp only [] at d0 d1 d2 d3 d4 d5 d6 d7 d8 d9 d10 d11
      generalize C i = clo at *
      generalize hb1 : odB o1 = b1 at *
      generalize hx1 : odI o1 = x1 at *
      generalize hb2 : odB o2 = b2 at *
      generalize hx2 : odI o2 = x2 at *
      have Hpi : Hid _ := hpi
      clear hpi
      have hneg : g ≠ ga := hne2 g rfl
      go_upto_region 8 with fail
      have K0 : Fr (OneB ga) wr ((wr.setCell ⟨ga, i * 2, none⟩ (Value.int IntKind.u32 (msk z.now : Int))).alloc (Obj.cells #[Value.int IntKind.i64 (kind : Int), Value.int IntKind.i64 (place : Int), Value.int IntKind.i64 (num : Int), Value.int IntKind.i64 (box : Int), Value.int IntKind.i64 (src : Int), Value.bool (b1), Value.int IntKind.i64 (x1 : Int), Value.int IntKind.u8 (sign : Int), Value.bool (b2), Value.int IntKind.i64 (x2 : Int), Value.int IntKind.i64 (opn : Int), Value.int IntKind.i64 (clo : Int)] 133)) := ((Fr.refl (OneB ga) wr).setCell (p := ⟨ga, i * 2, none⟩) (fun _ => rfl) _).alloc _
      have K1 : Arnd ((wr.setCell ⟨ga, i * 2, none⟩ (Value.int IntKind.u32 (msk z.now : Int))).alloc (Obj.cells #[Value.int IntKind.i64 (kind : Int), Value.int IntKind.i64 (place : Int), Value.int IntKind.i64 (num : Int), Value.int IntKind.i64 (box : Int), Value.int IntKind.i64 (src : Int), Value.bool (b1), Value.int IntKind.i64 (x1 : Int), Value.int IntKind.u8 (sign : Int), Value.bool (b2), Value.int IntKind.i64 (x2 : Int), Value.int IntKind.i64 (opn : Int), Value.int IntKind.i64 (clo : Int)] 133)) ga n (updA z.A i z.now) z.B := (HAr.out.setA hlt z.now).no ((Fr.refl _ _).alloc _) (by rw [setCell_size]; exact hgl2)
      have k0 : ((wr.setCell ⟨ga, i * 2, none⟩ (Value.int IntKind.u32 (msk z.now : Int))).alloc (Obj.cells #[Value.int IntKind.i64 (kind : Int), Value.int IntKind.i64 (place : Int), Value.int IntKind.i64 (num : Int), Value.int IntKind.i64 (box : Int), Value.int IntKind.i64 (src : Int), Value.bool (b1), Value.int IntKind.i64 (x1 : Int), Value.int IntKind.u8 (sign : Int), Value.bool (b2), Value.int IntKind.i64 (x2 : Int), Value.int IntKind.i64 (opn : Int), Value.int IntKind.i64 (clo : Int)] 133)).cell? ⟨wr.heap.size, 0, none⟩ = some (.int .i64 (kind : Int)) := cell_new _ _ _ (setCell_size _ _ _).symm rfl
      have k1 : ((wr.setCell ⟨ga, i * 2, none⟩ (Value.int IntKind.u32 (msk z.now : Int))).alloc (Obj.cells #[Value.int IntKind.i64 (kind : Int), Value.int IntKind.i64 (place : Int), Value.int IntKind.i64 (num : Int), Value.int IntKind.i64 (box : Int), Value.int IntKind.i64 (src : Int), Value.bool (b1), Value.int IntKind.i64 (x1 : Int), Value.int IntKind.u8 (sign : Int), Value.bool (b2), Value.int IntKind.i64 (x2 : Int), Value.int IntKind.i64 (opn : Int), Value.int IntKind.i64 (clo : Int)] 133)).cell? ⟨wr.heap.size, 1, none⟩ = some (.int .i64 (place : Int)) := cell_new _ _ _ (setCell_size _ _ _).symm rfl
      have k2 : ((wr.setCell ⟨ga, i * 2, none⟩ (Value.int IntKind.u32 (msk z.now : Int))).alloc (Obj.cells #[Value.int IntKind.i64 (kind : Int), Value.int IntKind.i64 (place : Int), Value.int IntKind.i64 (num : Int), Value.int IntKind.i64 (box : Int), Value.int IntKind.i64 (src : Int), Value.bool (b1), Value.int IntKind.i64 (x1 : Int), Value.int IntKind.u8 (sign : Int), Value.bool (b2), Value.int IntKind.i64 (x2 : Int), Value.int IntKind.i64 (opn : Int), Value.int IntKind.i64 (clo : Int)] 133)).cell? ⟨wr.heap.size, 2, none⟩ = some (.int .i64 (num : Int)) := cell_new _ _ _ (setCell_size _ _ _).symm rfl
      have k3 : ((wr.setCell ⟨ga, i * 2, none⟩ (Value.int IntKind.u32 (msk z.now : Int))).alloc (Obj.cells #[Value.int IntKind.i64 (kind : Int), Value.int IntKind.i64 (place : Int), Value.int IntKind.i64 (num : Int), Value.int IntKind.i64 (box : Int), Value.int IntKind.i64 (src : Int), Value.bool (b1), Value.int IntKind.i64 (x1 : Int), Value.int IntKind.u8 (sign : Int), Value.bool (b2), Value.int IntKind.i64 (x2 : Int), Value.int IntKind.i64 (opn : Int), Value.int IntKind.i64 (clo : Int)] 133)).cell? ⟨wr.heap.size, 3, none⟩ = some (.int .i64 (box : Int)) := cell_new _ _ _ (setCell_size _ _ _).symm rfl
      have k4 : ((wr.setCell ⟨ga, i * 2, none⟩ (Value.int IntKind.u32 (msk z.now : Int))).alloc (Obj.cells #[Value.int IntKind.i64 (kind : Int), Value.int IntKind.i64 (place : Int), Value.int IntKind.i64 (num : Int), Value.int IntKind.i64 (box : Int), Value.int IntKind.i64 (src : Int), Value.bool (b1), Value.int IntKind.i64 (x1 : Int), Value.int IntKind.u8 (sign : Int), Value.bool (b2), Value.int IntKind.i64 (x2 : Int), Value.int IntKind.i64 (opn : Int), Value.int IntKind.i64 (clo : Int)] 133)).cell? ⟨wr.heap.size, 4, none⟩ = some (.int .i64 (src : Int)) := cell_new _ _ _ (setCell_size _ _ _).symm rfl
      have k5 : ((wr.setCell ⟨ga, i * 2, none⟩ (Value.int IntKind.u32 (msk z.now : Int))).alloc (Obj.cells #[Value.int IntKind.i64 (kind : Int), Value.int IntKind.i64 (place : Int), Value.int IntKind.i64 (num : Int), Value.int IntKind.i64 (box : Int), Value.int IntKind.i64 (src : Int), Value.bool (b1), Value.int IntKind.i64 (x1 : Int), Value.int IntKind.u8 (sign : Int), Value.bool (b2), Value.int IntKind.i64 (x2 : Int), Value.int IntKind.i64 (opn : Int), Value.int IntKind.i64 (clo : Int)] 133)).cell? ⟨wr.heap.size, 5, none⟩ = some (.bool b1) := cell_new _ _ _ (setCell_size _ _ _).symm rfl
      have k6 : ((wr.setCell ⟨ga, i * 2, none⟩ (Value.int IntKind.u32 (msk z.now : Int))).alloc (Obj.cells #[Value.int IntKind.i64 (kind : Int), Value.int IntKind.i64 (place : Int), Value.int IntKind.i64 (num : Int), Value.int IntKind.i64 (box : Int), Value.int IntKind.i64 (src : Int), Value.bool (b1), Value.int IntKind.i64 (x1 : Int), Value.int IntKind.u8 (sign : Int), Value.bool (b2), Value.int IntKind.i64 (x2 : Int), Value.int IntKind.i64 (opn : Int), Value.int IntKind.i64 (clo : Int)] 133)).cell? ⟨wr.heap.size, 6, none⟩ = some (.int .i64 (x1 : Int)) := cell_new _ _ _ (setCell_size _ _ _).symm rfl
      have k7 : ((wr.setCell ⟨ga, i * 2, none⟩ (Value.int IntKind.u32 (msk z.now : Int))).alloc (Obj.cells #[Value.int IntKind.i64 (kind : Int), Value.int IntKind.i64 (place : Int), Value.int IntKind.i64 (num : Int), Value.int IntKind.i64 (box : Int), Value.int IntKind.i64 (src : Int), Value.bool (b1), Value.int IntKind.i64 (x1 : Int), Value.int IntKind.u8 (sign : Int), Value.bool (b2), Value.int IntKind.i64 (x2 : Int), Value.int IntKind.i64 (opn : Int), Value.int IntKind.i64 (clo : Int)] 133)).cell? ⟨wr.heap.size, 7, none⟩ = some (.int .u8 (sign : Int)) := cell_new _ _ _ (setCell_size _ _ _).symm rfl
      have k8 : ((wr.setCell ⟨ga, i * 2, none⟩ (Value.int IntKind.u32 (msk z.now : Int))).alloc (Obj.cells #[Value.int IntKind.i64 (kind : Int), Value.int IntKind.i64 (place : Int), Value.int IntKind.i64 (num : Int), Value.int IntKind.i64 (box : Int), Value.int IntKind.i64 (src : Int), Value.bool (b1), Value.int IntKind.i64 (x1 : Int), Value.int IntKind.u8 (sign : Int), Value.bool (b2), Value.int IntKind.i64 (x2 : Int), Value.int IntKind.i64 (opn : Int), Value.int IntKind.i64 (clo : Int)] 133)).cell? ⟨wr.heap.size, 8, none⟩ = some (.bool b2) := cell_new _ _ _ (setCell_size _ _ _).symm rfl
      have k9 : ((wr.setCell ⟨ga, i * 2, none⟩ (Value.int IntKind.u32 (msk z.now : Int))).alloc (Obj.cells #[Value.int IntKind.i64 (kind : Int), Value.int IntKind.i64 (place : Int), Value.int IntKind.i64 (num : Int), Value.int IntKind.i64 (box : Int), Value.int IntKind.i64 (src : Int), Value.bool (b1), Value.int IntKind.i64 (x1 : Int), Value.int IntKind.u8 (sign : Int), Value.bool (b2), Value.int IntKind.i64 (x2 : Int), Value.int IntKind.i64 (opn : Int), Value.int IntKind.i64 (clo : Int)] 133)).cell? ⟨wr.heap.size, 9, none⟩ = some (.int .i64 (x2 : Int)) := cell_new _ _ _ (setCell_size _ _ _).symm rfl
      have k10 : ((wr.setCell ⟨ga, i * 2, none⟩ (Value.int IntKind.u32 (msk z.now : Int))).alloc (Obj.cells #[Value.int IntKind.i64 (kind : Int), Value.int IntKind.i64 (place : Int), Value.int IntKind.i64 (num : Int), Value.int IntKind.i64 (box : Int), Value.int IntKind.i64 (src : Int), Value.bool (b1), Value.int IntKind.i64 (x1 : Int), Value.int IntKind.u8 (sign : Int), Value.bool (b2), Value.int IntKind.i64 (x2 : Int), Value.int IntKind.i64 (opn : Int), Value.int IntKind.i64 (clo : Int)] 133)).cell? ⟨wr.heap.size, 10, none⟩ = some (.int .i64 (opn : Int)) := cell_new _ _ _ (setCell_size _ _ _).symm rfl
      have k11 : ((wr.setCell ⟨ga, i * 2, none⟩ (Value.int IntKind.u32 (msk z.now : Int))).alloc (Obj.cells #[Value.int IntKind.i64 (kind : Int), Value.int IntKind.i64 (place : Int), Value.int IntKind.i64 (num : Int), Value.int IntKind.i64 (box : Int), Value.int IntKind.i64 (src : Int), Value.bool (b1), Value.int IntKind.i64 (x1 : Int), Value.int IntKind.u8 (sign : Int), Value.bool (b2), Value.int IntKind.i64 (x2 : Int), Value.int IntKind.i64 (opn : Int), Value.int IntKind.i64 (clo : Int)] 133)).cell? ⟨wr.heap.size, 11, none⟩ = some (.int .i64 (clo : Int)) := cell_new _ _ _ (setCell_size _ _ _).symm rfl
      have m1 := K0.cell_some hc1 (show ¬ OneB ga fb from hne)
      generalize ((wr.setCell ⟨ga, i * 2, none⟩ (Value.int IntKind.u32 (msk z.now : Int))).alloc (Obj.cells #[Value.int IntKind.i64 (kind : Int), Value.int IntKind.i64 (place : Int), Value.int IntKind.i64 (num : Int), Value.int IntKind.i64 (box : Int), Value.int IntKind.i64 (src : Int), Value.bool (b1), Value.int IntKind.i64 (x1 : Int), Value.int IntKind.u8 (sign : Int), Value.bool (b2), Value.int IntKind.i64 (x2 : Int), Value.int IntKind.i64 (opn : Int), Value.int IntKind.i64 (clo : Int)] 133)) = W1 at *
      generalize hpb : wr.heap.size = pb at *
      have HK0 : Hid (Fr (OneB ga) w W1) := HF.out.trans K0
      have HK1 : Hid (Arnd W1 ga n (updA z.A i z.now) z.B) := K1
      have hgl4 : ga < W1.heap.size := World.block_lt_of_cell? _ _ (K1.a i hlt)
      clear K0 K1 d0 d1 d2 d3 d4 d5 d6 d7 d8 d9 d10 d11 hc0 hc1 e1 e2 HAr HF hpb
      by_cases h8 : kind = 9
      · subst h8
        have ho : opn < i := Hop.out (.inl rfl)
        have HE : Hid (passM p (i + 1) 0 z0 = ⟨updA z.A i z.now, updA z.B i (updA z.A i z.now opn), updA z.A i z.now opn, z.st⟩) := by
          show _ = _
          rw [Hnext.out]
          exact step_plain (by rw [Hpi.out]; show (9 : Nat) ≠ 12; decide) (by unfold nowM; rw [Hpi.out]; rfl)
        have ca := HK1.out.a opn (by omega)
        have cb := HK1.out.b i hlt
        have cf := HK1.out.f (i * 2 + 1)
        generalize hX : updA z.A i z.now opn = X at *
        clear hX
        go_upto_region 11 with fail
        go_quiet (fail)
        go_wp2
        go_roundw
        case rel =>
          refine ⟨i + 1, by omega, by go_num, ?_, ?_, ?_, ?_⟩
          · rw [HE.out]
          · rw [HE.out]
          · rw [HE.out]; exact (HK1.out.no ((Fr.refl _ W1).drewN _) hgl4).setB hlt _
          · exact (HK0.out.trans ((Fr.refl _ W1).drewN _)).setCell (p := ⟨ga, i * 2 + 1, none⟩) (fun _ => rfl) _
        case measure => simp [intOf]; omega

      · have b8 : ((kind : Int) == 9) = false := beq_eq_false_iff_ne.2 (by omega)
        by_cases h9 : kind = 10
        · subst h9
          have ho : opn < i := Hop.out (.inr (.inl rfl))
          have HE : Hid (passM p (i + 1) 0 z0 = ⟨updA z.A i z.now, updA z.B i (bothF z.now (updA z.A i z.now opn)), bothF z.now (updA z.A i z.now opn), z.st⟩) := by
            show _ = _
            rw [Hnext.out]
            exact step_plain (by rw [Hpi.out]; show (10 : Nat) ≠ 12; decide) (by unfold nowM; rw [Hpi.out]; rfl)
          have ca := HK1.out.a opn (by omega)
          have cb := HK1.out.b i hlt
          have cf := HK1.out.f (i * 2 + 1)
          generalize hX : updA z.A i z.now opn = X at *
          have hbits := bits_and z.now X
          clear hX h8
          go_upto_region 13 with fail
          go_quiet (fail)
          go_wp2
          go_roundw
          case rel =>
            refine ⟨i + 1, by omega, by go_num, ?_, ?_, ?_, ?_⟩
            · rw [HE.out]
            · rw [HE.out]
            · rw [HE.out]; exact (HK1.out.no ((Fr.refl _ W1).drewN _) hgl4).setB hlt _
            · exact (HK0.out.trans ((Fr.refl _ W1).drewN _)).setCell (p := ⟨ga, i * 2 + 1, none⟩) (fun _ => rfl) _
          case measure => simp [intOf]; omega

        · have b9 : ((kind : Int) == 10) = false := beq_eq_false_iff_ne.2 (by omega)
          by_cases h10 : kind = 11
          · subst h10
            have HE : Hid (passM p (i + 1) 0 z0 = ⟨updA z.A i z.now, updA z.B i (bothF z.now (z.B i)), bothF z.now (z.B i), z.st⟩) := by
              show _ = _
              rw [Hnext.out]
              exact step_plain (by rw [Hpi.out]; show (11 : Nat) ≠ 12; decide) (by unfold nowM; rw [Hpi.out]; rfl)
            have cb := HK1.out.b i hlt
            have cf := HK1.out.f (i * 2 + 1)
            have hbits := bits_and z.now (z.B i)
            clear h8 h9
            go_wp2
            go_roundw
            case rel =>
              refine ⟨i + 1, by omega, by go_num, ?_, ?_, ?_, ?_⟩
              · rw [HE.out]
              · rw [HE.out]
              · rw [HE.out]; exact (HK1.out.no (Fr.refl _ W1) hgl4).setB hlt _
              · exact (HK0.out.trans (Fr.refl _ W1)).setCell (p := ⟨ga, i * 2 + 1, none⟩) (fun _ => rfl) _
            case measure => simp [intOf]; omega

          · have b10 : ((kind : Int) == 11) = false := beq_eq_false_iff_ne.2 (by omega)
            by_cases h11 : kind = 12
            · subst h11
              have ho : opn < i := Hop.out (.inr (.inr rfl))
              have HE : Hid (passM p (i + 1) 0 z0 = ⟨updA z.A i z.now, updA (updA z.B opn (bothF (z.B opn) z.now)) i (bothF (z.B opn) z.now), bothF (z.B opn) z.now, z.st && subD (z.B opn) z.now⟩) := by
                show _ = _
                rw [Hnext.out]
                have := step_again (p := p) (i := i) (z := z) (by rw [Hpi.out])
                rw [Hpi.out] at this
                exact this
              have ca := HK1.out.b opn (by omega)
              have cg := HK1.out.f (opn * 2 + 1)
              have hbits := bits_and (z.B opn) z.now
              have hcmp := mk_ne (f := z.B opn) (g := z.now)
              generalize bothF (z.B opn) z.now = X at *
              generalize z.B opn = Y at *
              cases hD : subD Y z.now
              · rw [hD] at hcmp HE
                have hc3 : ((msk X : Int) != (msk Y : Int)) = true := by rw [hcmp]; rfl
                clear hcmp hD h8 h9 h10
                go_upto_region 17 with fail
                go_quiet (fail)
                go_upto_region 21 with fail
                go_region
                have HKo : Hid _ := (HK1.out.no ((Fr.refl _ W1).drewN (nq + 1)) hgl4).setB (k := opn) (by omega) X
                have HKf : Hid _ := (HK0.out.trans ((Fr.refl _ W1).drewN (nq + 1))).setCell (p := ⟨ga, opn * 2 + 1, none⟩) (fun _ => rfl) (Value.int IntKind.u32 (msk X : Int))
                have m2 : ((W1.drewN (nq + 1)).setCell ⟨ga, opn * 2 + 1, none⟩ (Value.int IntKind.u32 (msk X : Int))).cell? ⟨fb, 1, none⟩ = _ := (cell_other (.inl (Ne.symm hne))).trans m1
                generalize ((W1.drewN (nq + 1)).setCell ⟨ga, opn * 2 + 1, none⟩ (Value.int IntKind.u32 (msk X : Int))) = W2 at *
                have cb := HKo.out.b i hlt
                have cf := HKo.out.f (i * 2 + 1)
                go_wp2
                go_roundw
                case rel =>
                  refine ⟨i + 1, by omega, by go_num, ?_, ?_, ?_, ?_⟩
                  · rw [HE.out]; simp
                  · rw [HE.out]
                  · rw [HE.out]; exact HKo.out.setB hlt _
                  · exact HKf.out.setCell (p := ⟨ga, i * 2 + 1, none⟩) (fun _ => rfl) _
                case measure => simp [intOf]; omega
              · rw [hD] at hcmp HE
                have hc3 : ((msk X : Int) != (msk Y : Int)) = false := by rw [hcmp]; rfl
                clear hcmp hD h8 h9 h10
                go_upto_region 17 with fail
                go_quiet (fail)
                go_upto_region 21 with fail
                go_region
                have HKo : Hid _ := (HK1.out.no ((Fr.refl _ W1).drewN (nq + 1)) hgl4).setB (k := opn) (by omega) X
                have HKf : Hid _ := (HK0.out.trans ((Fr.refl _ W1).drewN (nq + 1))).setCell (p := ⟨ga, opn * 2 + 1, none⟩) (fun _ => rfl) (Value.int IntKind.u32 (msk X : Int))
                have m2 : ((W1.drewN (nq + 1)).setCell ⟨ga, opn * 2 + 1, none⟩ (Value.int IntKind.u32 (msk X : Int))).cell? ⟨fb, 1, none⟩ = _ := (cell_other (.inl (Ne.symm hne))).trans m1
                generalize ((W1.drewN (nq + 1)).setCell ⟨ga, opn * 2 + 1, none⟩ (Value.int IntKind.u32 (msk X : Int))) = W2 at *
                have cb := HKo.out.b i hlt
                have cf := HKo.out.f (i * 2 + 1)
                go_wp2
                go_roundw
                case rel =>
                  refine ⟨i + 1, by omega, by go_num, ?_, ?_, ?_, ?_⟩
                  · rw [HE.out]; simp
                  · rw [HE.out]
                  · rw [HE.out]; exact HKo.out.setB hlt _
                  · exact HKf.out.setCell (p := ⟨ga, i * 2 + 1, none⟩) (fun _ => rfl) _
                case measure => simp [intOf]; omega
            · have b11 : ((kind : Int) == 12) = false := beq_eq_false_iff_ne.2 (by omega)
              have HE : Hid (passM p (i + 1) 0 z0 = ⟨updA z.A i z.now, updA z.B i (behP ⟨kind, place, num, box, src, o1, sign, o2, opn⟩ z.now), behP ⟨kind, place, num, box, src, o1, sign, o2, opn⟩ z.now, z.st⟩) := by
                show _ = _
                rw [Hnext.out]
                exact step_plain (by rw [Hpi.out]; exact h11) (by unfold nowM; rw [Hpi.out]; simp only [h8, h9, h10, h11, if_false])
              have cb := HK1.out.b i hlt
              have cf := HK1.out.f (i * 2 + 1)
              have HBh : Hid _ := fun X => fbehind_fn X ⟨kind, place, num, box, src, o1, sign, o2, opn⟩ clo z.now Hok.out
              generalize behP ⟨kind, place, num, box, src, o1, sign, o2, opn⟩ z.now = X at *
              clear h8 h9 h10 h11
              simp only [hb1, hx1, hb2, hx2] at HBh
              go_wp2_with (go_at_call 105; refine (HBh.out _).mono ?_; rintro e w2 ⟨rfl, hF2⟩; have cb2 := hF2.cell_some cb id; have cf2 := (hF2.frozen (p := ⟨ga, i * 2 + 1, none⟩) hgl4 id).trans cf; have m2 := hF2.cell_some m1 id)
              go_roundw
              case rel =>
                refine ⟨i + 1, by omega, by go_num, ?_, ?_, ?_, ?_⟩
                · rw [HE.out]
                · rw [HE.out]
                · rw [HE.out]; exact (HK1.out.no hF2 hgl4).setB hlt _
                · exact (HK0.out.trans hF2.of_no).setCell (p := ⟨ga, i * 2 + 1, none⟩) (fun _ => rfl) _
              case measure => simp [intOf]; omega
    · have hie : i = n := by omega
      subst hie
      have HAr : Hid _ := hAr
      clear hAr hF
      go_wp2
      go_ret
      exact ⟨rfl, HAr.out, HF.out⟩
end Go.Proofs.YthcjcjfgdgnljaaGreatDoor
