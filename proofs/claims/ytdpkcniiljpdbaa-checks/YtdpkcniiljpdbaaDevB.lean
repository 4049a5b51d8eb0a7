/-
  The program's full: behind a sentence, and the parts in memory.
-/
import Derived.Test.YtdpkcniiljpdbaaDevQ
namespace Go.Proofs.Ytdpkcniiljpdbaa
open Go.RowKit
set_option linter.unusedVariables false

/-- the cells of a part -/
def ptC (t : Pt) : List Value := [.int .i64 (t.kind : Int), .int .i64 (t.place : Int), .int .i64 (t.box : Int), .int .i64 (t.src : Int), .int .i64 (t.opn : Int)]
/-- a part whose numbers are in their bounds -/
structure PtOk (t : Pt) : Prop where
  k : t.kind ≤ 11
  b : t.box < 26
  s : t.src < 26
  p : t.place ≤ 100000
  o : t.opn ≤ 100000

set_option maxHeartbeats 1000000 in
theorem fbehind_fn (w : World) (t : Pt) (f : Nat → Bool) (ht : PtOk t) :
    Calls Try.prog 57 #[.agg #[.int .i64 (t.kind : Int), .int .i64 (t.place : Int), .int .i64 (t.box : Int), .int .i64 (t.src : Int), .int .i64 (t.opn : Int)], .int .u32 (msk f : Int)] w fun e w' => e = .returned (.int .u32 (msk (behP t f) : Int)) ∧ Fr NoB w w' := by
  obtain ⟨kind, place, box, src, opn⟩ := t
  have hb : box < 26 := ht.b
  have hs : src < 26 := ht.s
  clear ht
  show Calls Try.prog 57 #[.agg #[.int .i64 (kind : Int), .int .i64 (place : Int), .int .i64 (box : Int), .int .i64 (src : Int), .int .i64 (opn : Int)], .int .u32 (msk f : Int)] w fun e w' => e = .returned (.int .u32 (msk (behP ⟨kind, place, box, src, opn⟩ f) : Int)) ∧ Fr NoB w w'
  by_cases h3 : kind = 3
  · have hE : behP ⟨kind, place, box, src, opn⟩ f = updB f box true := by unfold behP; rw [if_pos h3]
    rw [hE]
    subst h3
    clear hE
    go_enter Try.func57, Try.ntmps57
    go_wp2_with (go_at_call 74; refine (with_fn _ f box hb).mono ?_; rintro e w1 ⟨rfl, hw⟩; have hw2 := hw.symm; clear hw; subst hw2)
    go_ret
    exact ⟨rfl, (Fr.refl _ _).alloc _⟩
  · have b3 : ((kind : Int) == 3) = false := beq_eq_false_iff_ne.2 (by omega)
    by_cases h6 : kind = 6
    · have hE : behP ⟨kind, place, box, src, opn⟩ f = updB f box false := by unfold behP; rw [if_neg h3, if_pos h6]
      rw [hE]
      subst h6
      clear hE b3 h3
      go_enter Try.func57, Try.ntmps57
      go_wp2_with (go_at_call 75; refine (without_fn _ f box hb).mono ?_; rintro e w1 ⟨rfl, hw⟩; have hw2 := hw.symm; clear hw; subst hw2)
      go_ret
      exact ⟨rfl, (Fr.refl _ _).alloc _⟩
    · have b6 : ((kind : Int) == 6) = false := beq_eq_false_iff_ne.2 (by omega)
      by_cases h4 : kind = 4
      · have hE : behP ⟨kind, place, box, src, opn⟩ f = moveF box src f := by unfold behP; rw [if_neg h3, if_neg h6, if_pos h4]
        rw [hE]
        subst h4
        clear hE b3 h3 b6 h6
        go_enter Try.func57, Try.ntmps57
        go_wp2_with (go_at_call 76; refine (move_fn _ f box src hb hs).mono ?_; rintro e w1 ⟨rfl, hw⟩; have hw2 := hw.symm; clear hw; subst hw2)
        go_ret
        exact ⟨rfl, (Fr.refl _ _).alloc _⟩
      · have b4 : ((kind : Int) == 4) = false := beq_eq_false_iff_ne.2 (by omega)
        have hE : behP ⟨kind, place, box, src, opn⟩ f = f := by unfold behP; rw [if_neg h3, if_neg h6, if_neg h4]
        rw [hE]
        clear hE h3 h6 h4
        go_enter Try.func57, Try.ntmps57
        go_wp2
        go_ret
        exact ⟨rfl, (Fr.refl _ _).alloc _⟩

/-- parts in memory -/
structure PartRow (w : World) (ao : Option Addr) (n : Nat) (p : Nat → Pt) : Prop where
  some_ : 0 < n → ∃ g, ao = some ⟨g, 0, none⟩
  c0 : ∀ g i, i < n → ao = some ⟨g, 0, none⟩ → w.cell? ⟨g, i * 5, none⟩ = some (.int .i64 ((p i).kind : Int))
  c1 : ∀ g i, i < n → ao = some ⟨g, 0, none⟩ → w.cell? ⟨g, i * 5 + 1, none⟩ = some (.int .i64 ((p i).place : Int))
  c2 : ∀ g i, i < n → ao = some ⟨g, 0, none⟩ → w.cell? ⟨g, i * 5 + 2, none⟩ = some (.int .i64 ((p i).box : Int))
  c3 : ∀ g i, i < n → ao = some ⟨g, 0, none⟩ → w.cell? ⟨g, i * 5 + 3, none⟩ = some (.int .i64 ((p i).src : Int))
  c4 : ∀ g i, i < n → ao = some ⟨g, 0, none⟩ → w.cell? ⟨g, i * 5 + 4, none⟩ = some (.int .i64 ((p i).opn : Int))
theorem PartRow.fr {S : Nat → Prop} {w w' : World} {ao : Option Addr} {n : Nat} {p : Nat → Pt} (h : PartRow w ao n p) (hf : Fr S w w') (hs : ∀ g, ao = some ⟨g, 0, none⟩ → ¬ S g) : PartRow w' ao n p :=
  ⟨h.some_, fun g i hi e => hf.cell_some (h.c0 g i hi e) (hs g e), fun g i hi e => hf.cell_some (h.c1 g i hi e) (hs g e), fun g i hi e => hf.cell_some (h.c2 g i hi e) (hs g e), fun g i hi e => hf.cell_some (h.c3 g i hi e) (hs g e), fun g i hi e => hf.cell_some (h.c4 g i hi e) (hs g e)⟩
theorem PartRow.no {w w' : World} {ao : Option Addr} {n : Nat} {p : Nat → Pt} (h : PartRow w ao n p) (hf : Fr NoB w w') : PartRow w' ao n p := h.fr hf (fun _ _ h => h)

/-- the sets ahead of and behind each part, in memory -/
structure Arnd (w : World) (ga n : Nat) (A B : Nat → Nat → Bool) : Prop where
  a : ∀ i, i < n → w.cell? ⟨ga, i * 2, none⟩ = some (.int .u32 (msk (A i) : Int))
  b : ∀ i, i < n → w.cell? ⟨ga, i * 2 + 1, none⟩ = some (.int .u32 (msk (B i) : Int))
  f : ∀ o, w.frozen? ⟨ga, o, none⟩ = false
theorem Arnd.fr {S : Nat → Prop} {w w' : World} {ga n : Nat} {A B : Nat → Nat → Bool} (h : Arnd w ga n A B) (hf : Fr S w w') (hs : ¬ S ga) (hl : ga < w.heap.size) : Arnd w' ga n A B :=
  ⟨fun i hi => hf.cell_some (h.a i hi) hs, fun i hi => hf.cell_some (h.b i hi) hs, fun o => (hf.frozen (p := ⟨ga, o, none⟩) hl hs).trans (h.f o)⟩
theorem Arnd.no {w w' : World} {ga n : Nat} {A B : Nat → Nat → Bool} (h : Arnd w ga n A B) (hf : Fr NoB w w') (hl : ga < w.heap.size) : Arnd w' ga n A B := h.fr hf id hl
theorem Arnd.setA {w : World} {ga n : Nat} {A B : Nat → Nat → Bool} (h : Arnd w ga n A B) {k : Nat} (hk : k < n) (f : Nat → Bool) : Arnd (w.setCell ⟨ga, k * 2, none⟩ (.int .u32 (msk f : Int))) ga n (updA A k f) B :=
  ⟨fun i hi => by
      by_cases e : i = k
      · subst e; rw [updA_at]; exact cell_same (h.a i hi)
      · rw [updA_ne _ _ e]; exact (cell_other (.inr (by omega))).trans (h.a i hi),
    fun i hi => (cell_other (.inr (by omega))).trans (h.b i hi), fun o => by rw [World.frozen?_setCell]; exact h.f o⟩
theorem Arnd.setB {w : World} {ga n : Nat} {A B : Nat → Nat → Bool} (h : Arnd w ga n A B) {k : Nat} (hk : k < n) (f : Nat → Bool) : Arnd (w.setCell ⟨ga, k * 2 + 1, none⟩ (.int .u32 (msk f : Int))) ga n A (updA B k f) :=
  ⟨fun i hi => (cell_other (.inr (by omega))).trans (h.a i hi),
    fun i hi => by
      by_cases e : i = k
      · subst e; rw [updA_at]; exact cell_same (h.b i hi)
      · rw [updA_ne _ _ e]; exact (cell_other (.inr (by omega))).trans (h.b i hi), fun o => by rw [World.frozen?_setCell]; exact h.f o⟩
theorem mk_ne {f g : Nat → Bool} : ((msk (bothF f g) : Int) != (msk f : Int)) = !subD f g := by
  by_cases h : subF f g
  · have : msk (bothF f g) = msk f := mk_congr fun i hi => by
      unfold bothF
      cases hf : f i
      · rfl
      · rw [h i hi hf]; rfl
    rw [this, subD_true h]
    simp
  · rw [subD_false h]
    have hne : msk (bothF f g) ≠ msk f := fun e => h fun i hi hf => by
      have h1 := mk_bit (bothF f g) i
      have h2 := mk_bit f i
      rw [e, h2] at h1
      simp [hi, hf] at h1
      unfold bothF at h1
      simp [hf] at h1
      exact h1
    exact bne_iff_ne.2 (by omega)
end Go.Proofs.Ytdpkcniiljpdbaa
