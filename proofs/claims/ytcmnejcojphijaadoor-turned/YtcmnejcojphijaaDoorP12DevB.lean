/-
  DevB: one behind the other.
-/
import Derived.Test.YtcmnejcojphijaaDoorP11DevQ
namespace Go.Proofs.YtcmnejcojphijaaDoor
open Go.RowKit
set_option linter.unusedVariables false

/-- an operand's two cells -/
def odB : Od → Bool
  | .n _ => true
  | .v _ => false
def odI : Od → Nat
  | .n k => k
  | .v x => x
/-- the cells of a part; clo: the part that closes its brace -/
def ptC (t : Pt) (clo : Nat) : List Value := [.int .i64 (t.kind : Int), .int .i64 (t.place : Int), .int .i64 (t.num : Int), .int .i64 (t.box : Int), .int .i64 (t.src : Int), .bool (odB t.o1), .int .i64 (odI t.o1 : Int), .int .u8 (t.sign : Int), .bool (odB t.o2), .int .i64 (odI t.o2 : Int), .int .i64 (t.opn : Int), .int .i64 (clo : Int)]
/-- a part whose numbers are in their bounds -/
structure PtOk (t : Pt) : Prop where
  k : t.kind ≤ 12
  n : t.num < 26
  o1 : OdOk t.o1
  o2 : OdOk t.o2
  sg : t.sign < 256
  b : t.box < 26
  s : t.src < 26
  p : t.place ≤ 100000
  o : t.opn ≤ 100000

set_option maxHeartbeats 1000000 in
theorem fbehind_fn (w : World) (t : Pt) (clo : Nat) (f : Nat → Bool) (ht : PtOk t) :
    Calls Tryd.prog 34 #[.agg #[.int .i64 (t.kind : Int), .int .i64 (t.place : Int), .int .i64 (t.num : Int), .int .i64 (t.box : Int), .int .i64 (t.src : Int), .bool (odB t.o1), .int .i64 (odI t.o1 : Int), .int .u8 (t.sign : Int), .bool (odB t.o2), .int .i64 (odI t.o2 : Int), .int .i64 (t.opn : Int), .int .i64 (clo : Int)], .int .u32 (msk f : Int)] w fun e w' => e = .returned (.int .u32 (msk (behP t f) : Int)) ∧ Fr NoB w w' := by
  obtain ⟨kind, place, num, box, src, o1, sign, o2, opn⟩ := t
  have hb : box < 26 := ht.b
  have hs : src < 26 := ht.s
  clear ht
  show Calls Tryd.prog 34 #[.agg #[.int .i64 (kind : Int), .int .i64 (place : Int), .int .i64 (num : Int), .int .i64 (box : Int), .int .i64 (src : Int), .bool (odB o1), .int .i64 (odI o1 : Int), .int .u8 (sign : Int), .bool (odB o2), .int .i64 (odI o2 : Int), .int .i64 (opn : Int), .int .i64 (clo : Int)], .int .u32 (msk f : Int)] w fun e w' => e = .returned (.int .u32 (msk (behP ⟨kind, place, num, box, src, o1, sign, o2, opn⟩ f) : Int)) ∧ Fr NoB w w'
  by_cases h4x : kind = 4
  · have hE : behP ⟨kind, place, num, box, src, o1, sign, o2, opn⟩ f = updB f box true := by unfold behP; rw [if_pos h4x]
    rw [hE]
    subst h4x
    clear hE
    go_enter Tryd.func34, Tryd.ntmps34
    go_wp2_with (go_at_call 44; refine (with_fn _ f box hb).mono ?_; rintro e w1 ⟨rfl, hw⟩; have hw2 := hw.symm; clear hw; subst hw2)
    go_ret
    exact ⟨rfl, (Fr.refl _ _).alloc _⟩
  · have b4x : ((kind : Int) == 4) = false := beq_eq_false_iff_ne.2 (by omega)
    by_cases h7x : kind = 7
    · have hE : behP ⟨kind, place, num, box, src, o1, sign, o2, opn⟩ f = updB f box false := by unfold behP; rw [if_neg h4x, if_pos h7x]
      rw [hE]
      subst h7x
      clear hE b4x h4x
      go_enter Tryd.func34, Tryd.ntmps34
      go_wp2_with (go_at_call 45; refine (without_fn _ f box hb).mono ?_; rintro e w1 ⟨rfl, hw⟩; have hw2 := hw.symm; clear hw; subst hw2)
      go_ret
      exact ⟨rfl, (Fr.refl _ _).alloc _⟩
    · have b7x : ((kind : Int) == 7) = false := beq_eq_false_iff_ne.2 (by omega)
      by_cases h5x : kind = 5
      · have hE : behP ⟨kind, place, num, box, src, o1, sign, o2, opn⟩ f = moveF box src f := by unfold behP; rw [if_neg h4x, if_neg h7x, if_pos h5x]
        rw [hE]
        subst h5x
        clear hE b4x h4x b7x h7x
        go_enter Tryd.func34, Tryd.ntmps34
        go_wp2_with (go_at_call 46; refine (move_fn _ f box src hb hs).mono ?_; rintro e w1 ⟨rfl, hw⟩; have hw2 := hw.symm; clear hw; subst hw2)
        go_ret
        exact ⟨rfl, (Fr.refl _ _).alloc _⟩
      · have b5x : ((kind : Int) == 5) = false := beq_eq_false_iff_ne.2 (by omega)
        have hE : behP ⟨kind, place, num, box, src, o1, sign, o2, opn⟩ f = f := by unfold behP; rw [if_neg h4x, if_neg h7x, if_neg h5x]
        rw [hE]
        clear hE h4x h7x h5x
        go_enter Tryd.func34, Tryd.ntmps34
        go_wp2
        go_ret
        exact ⟨rfl, (Fr.refl _ _).alloc _⟩

/-- parts in memory; C: the parts that close their braces -/
structure PartRow (w : World) (ao : Option Addr) (n : Nat) (p : Nat → Pt) (C : Nat → Nat) : Prop where
  some_ : 0 < n → ∃ g, ao = some ⟨g, 0, none⟩
  c : ∀ g i j u, i < n → ao = some ⟨g, 0, none⟩ → (ptC (p i) (C i))[j]? = some u → w.cell? ⟨g, i * 12 + j, none⟩ = some u
theorem PartRow.fr {S : Nat → Prop} {w w' : World} {ao : Option Addr} {n : Nat} {p : Nat → Pt} {C : Nat → Nat} (h : PartRow w ao n p C) (hf : Fr S w w') (hs : ∀ g, ao = some ⟨g, 0, none⟩ → ¬ S g) : PartRow w' ao n p C :=
  ⟨h.some_, fun g i j u hi e hu => hf.cell_some (h.c g i j u hi e hu) (hs g e)⟩
theorem PartRow.no {w w' : World} {ao : Option Addr} {n : Nat} {p : Nat → Pt} {C : Nat → Nat} (h : PartRow w ao n p C) (hf : Fr NoB w w') : PartRow w' ao n p C := h.fr hf (fun _ _ h => h)

/-- the sets ahead of and behind each part, in memory -/
structure Arnd (w : World) (ga n : Nat) (A B : Nat → Nat → Bool) : Prop where
  a : ∀ i, i < n → w.cell? ⟨ga, i * 2, none⟩ = some (.int .u32 (msk (A i) : Int))
  b : ∀ i, i < n → w.cell? ⟨ga, i * 2 + 1, none⟩ = some (.int .u32 (msk (B i) : Int))
  f : ∀ o, w.frozen? ⟨ga, o, none⟩ = false
theorem Arnd.fr {S : Nat → Prop} {w w' : World} {ga n : Nat} {A B : Nat → Nat → Bool} (h : Arnd w ga n A B) (hf : Fr S w w') (hs : ¬ S ga) (hl : ga < w.heap.size) : Arnd w' ga n A B :=
  ⟨fun i hi => hf.cell_some (h.a i hi) hs, fun i hi => hf.cell_some (h.b i hi) hs, fun o => (hf.frozen (p := ⟨ga, o, none⟩) hl hs).trans (h.f o)⟩
theorem Arnd.no {w w' : World} {ga n : Nat} {A B : Nat → Nat → Bool} (h : Arnd w ga n A B) (hf : Fr NoB w w') (hl : ga < w.heap.size) : Arnd w' ga n A B := h.fr hf id hl
theorem Arnd.setA {w : World} {ga n : Nat} {A B : Nat → Nat → Bool} (h : Arnd w ga n A B) {k : Nat} (hk : k < n) (f : Nat → Bool) : Arnd (w.setCell ⟨ga, k * 2, none⟩ (.int .u32 (msk f : Int))) ga n (updA A k f) B :=
  ⟨fun i hi => by
      by_cases e : i = k
      · subst e; rw [updA_at]; exact cell_same (h.a i hi)
      · rw [updA_ne _ _ e]; exact (cell_other (.inr (by omega))).trans (h.a i hi),
    fun i hi => (cell_other (.inr (by omega))).trans (h.b i hi), fun o => by rw [World.frozen?_setCell]; exact h.f o⟩
theorem Arnd.setB {w : World} {ga n : Nat} {A B : Nat → Nat → Bool} (h : Arnd w ga n A B) {k : Nat} (hk : k < n) (f : Nat → Bool) : Arnd (w.setCell ⟨ga, k * 2 + 1, none⟩ (.int .u32 (msk f : Int))) ga n A (updA B k f) :=
  ⟨fun i hi => (cell_other (.inr (by omega))).trans (h.a i hi),
    fun i hi => by
      by_cases e : i = k
      · subst e; rw [updA_at]; exact cell_same (h.b i hi)
      · rw [updA_ne _ _ e]; exact (cell_other (.inr (by omega))).trans (h.b i hi), fun o => by rw [World.frozen?_setCell]; exact h.f o⟩
theorem mk_ne {f g : Nat → Bool} : ((msk (bothF f g) : Int) != (msk f : Int)) = !subD f g := by
  by_cases h : subF f g
  · have : msk (bothF f g) = msk f := mk_congr fun i hi => by
      unfold bothF
      cases hf : f i
      · rfl
      · rw [h i hi hf]; rfl
    rw [this, subD_true h]
    simp
  · rw [subD_false h]
    have hne : msk (bothF f g) ≠ msk f := fun e => h fun i hi hf => by
      have h1 := mk_bit (bothF f g) i
      have h2 := mk_bit f i
      rw [e, h2] at h1
      simp [hi, hf] at h1
      unfold bothF at h1
      simp [hf] at h1
      exact h1
    exact bne_iff_ne.2 (by omega)
end Go.Proofs.YtcmnejcojphijaaDoor
