/-
  The document's sets of boxes: 26 answers, by value.
-/
import Derived.Test.YtcmnejcojphijaaSynX
import Derived.Laws.Rows
import Derived.Laws.Tables
namespace Go.Proofs.Ytcmnejcojphijaa
open Go.RowKit
set_option linter.unusedVariables false

def arrF (f : Nat → Bool) : Array Value := ((List.range 26).map (fun i => Value.bool (f i))).toArray
theorem arrF_size (f : Nat → Bool) : (arrF f).size = 26 := by simp [arrF]
theorem arrF_get (f : Nat → Bool) {i : Nat} (h : i < 26) : (arrF f)[i]? = some (.bool (f i)) := by simp [arrF, h]
theorem arrF_congr {f g : Nat → Bool} (h : ∀ i, i < 26 → f i = g i) : arrF f = arrF g := by
  unfold arrF
  congr 1
  apply List.map_congr_left
  intro i hi
  rw [h i (List.mem_range.1 hi)]
theorem arrF_one (f : Nat → Bool) : (arrF f).all (·.oneCell') = true := by
  rw [Array.all_eq_true_iff_forall_mem]
  intro x hx
  simp only [arrF, List.mem_toArray, List.mem_map] at hx
  obtain ⟨i, _, rfl⟩ := hx
  rfl
theorem Try.sizeFull : (Try.prog.info? 70).map (·.size) = some 26 := by kernel_rfl

/-- a set of boxes in memory -/
structure RowF (w : World) (b : Nat) (f : Nat → Bool) : Prop where
  h : w.heap[b]? = some (.cells (arrF f) 70 (0, 0))
theorem RowF.lt {w : World} {b : Nat} {f : Nat → Bool} (h : RowF w b f) : b < w.heap.size := (Array.getElem?_eq_some_iff.1 h.h).1
theorem RowF.cell {w : World} {b : Nat} {f : Nat → Bool} (h : RowF w b f) {i : Nat} (hi : i < 26) : w.cell? ⟨b, i, none⟩ = some (.bool (f i)) := by
  simp [World.cell?, h.h, arrF_get f hi]
theorem RowF.frz {w : World} {b : Nat} {f : Nat → Bool} (h : RowF w b f) (o : Nat) : w.frozen? ⟨b, o, none⟩ = false := by
  simp [World.frozen?, h.h]
theorem RowF.fr {S : Nat → Prop} {w w' : World} {b : Nat} {f : Nat → Bool} (h : RowF w b f) (hF : Fr S w w') (hS : ¬ S b) : RowF w' b f := ⟨(hF.block b h.lt hS).trans h.h⟩
theorem RowF.no {w w' : World} {b : Nat} {f : Nat → Bool} (h : RowF w b f) (hF : Fr NoB w w') : RowF w' b f := h.fr hF id
theorem RowF.congr {w : World} {b : Nat} {f g : Nat → Bool} (h : RowF w b f) (e : ∀ i, i < 26 → g i = f i) : RowF w b g := ⟨by rw [arrF_congr e]; exact h.h⟩
theorem RowF.new (w : World) (f : Nat → Bool) : RowF (w.alloc (.cells (arrF f) 70)) w.heap.size f := by
  constructor
  show (w.heap.push _)[w.heap.size]? = _
  simp
def updB (f : Nat → Bool) (k : Nat) (v : Bool) : Nat → Bool := fun i => if i = k then v else f i
theorem RowF.set {w : World} {b : Nat} {f : Nat → Bool} (h : RowF w b f) {k : Nat} (hk : k < 26) (v : Bool) : RowF (w.setCell ⟨b, k, none⟩ (.bool v)) b (updB f k v) := by
  constructor
  have e : (arrF f).setIfInBounds k (.bool v) = arrF (updB f k v) := by
    apply Array.ext_getElem?
    intro i
    by_cases hi : i < 26
    · rw [arrF_get _ hi]
      by_cases e : k = i
      · subst e; simp [arrF_size, hi, updB]
      · simp [e, arrF_get f hi, updB, Ne.symm e]
    · rw [Array.getElem?_eq_none (by simp [arrF_size]; omega), Array.getElem?_eq_none (by simp [arrF_size]; omega)]
  rw [heap_setCell_same w b k _ _ _ h.h, e]

theorem arrF_zero : arrF (fun _ => false) = #[.bool false, .bool false, .bool false, .bool false, .bool false, .bool false, .bool false, .bool false, .bool false, .bool false, .bool false, .bool false, .bool false, .bool false, .bool false, .bool false, .bool false, .bool false, .bool false, .bool false, .bool false, .bool false, .bool false, .bool false, .bool false, .bool false] := by rfl

theorem Fr.setRow {S : Nat → Prop} {a w : World} (h : Fr S a w) {g : Nat} (hp : g < a.heap.size → S g) (cs : Array Value) : Fr S a (w.setRow g cs) :=
  ⟨h.os, h.tape, h.output, by rw [setRow_size]; exact h.size, fun k hk hs => (setRow_other w g k cs (fun e => hs (by subst e; exact hp hk))).trans (h.block k hk hs)⟩
theorem RowF.row {w : World} {b : Nat} {f : Nat → Bool} (h : RowF w b f) (g : Nat → Bool) : RowF (w.setRow b (arrF g)) b g := ⟨setRow_heap w b _ _ _ _ h.h⟩
def bothF (f g : Nat → Bool) : Nat → Bool := fun i => f i && g i
set_option maxRecDepth 8000 in
set_option maxHeartbeats 1000000 in
theorem both_fn (w : World) (f g : Nat → Bool) :
    Calls Try.prog 65 #[.agg (arrF f), .agg (arrF g)] w fun e w' => e = .returned (.agg (arrF (bothF f g))) ∧ Fr NoB w w' := by
  have hz : RowF (((w.alloc (.cells (arrF f) 70)).alloc (.cells (arrF g) 70)).alloc (.cells (arrF (fun _ => false)) 70)) (w.heap.size + 1 + 1) (fun _ => false) := by
    have := RowF.new ((w.alloc (.cells (arrF f) 70)).alloc (.cells (arrF g) 70)) (fun _ => false)
    simpa using this
  have hg1 : RowF (((w.alloc (.cells (arrF f) 70)).alloc (.cells (arrF g) 70)).alloc (.cells (arrF (fun _ => false)) 70)) (w.heap.size + 1) g := by
    have := (RowF.new (w.alloc (.cells (arrF f) 70)) g).no ((Fr.refl _ _).alloc (.cells (arrF (fun _ => false)) 70))
    simpa using this
  have hf1 : RowF (((w.alloc (.cells (arrF f) 70)).alloc (.cells (arrF g) 70)).alloc (.cells (arrF (fun _ => false)) 70)) w.heap.size f :=
    (RowF.new w f).no (((Fr.refl _ _).alloc _).alloc _)
  have hFr : Fr NoB w (((w.alloc (.cells (arrF f) 70)).alloc (.cells (arrF g) 70)).alloc (.cells (arrF (fun _ => false)) 70)) := (((Fr.refl _ _).alloc _).alloc _).alloc _
  rw [arrF_zero] at hz hg1 hf1 hFr
  generalize hf : arrF f = af at *
  generalize hg : arrF g = ag at *
  have Hf : Hid _ := hf
  have Hg : Hid _ := hg
  clear hf hg
  go_enter Try.func65, Try.ntmps65
  go_wp2
  generalize (((w.alloc (Obj.cells af 70)).alloc (Obj.cells ag 70)).alloc _) = W at *
  go_loopw [5] (fun t wr => ∃ i : Nat, i ≤ 26 ∧ t = .int .i64 i ∧ RowF wr w.heap.size (fun j => if j < i then bothF f g j else f j) ∧ RowF wr (w.heap.size + 1) g ∧ RowF wr (w.heap.size + 1 + 1) (fun _ => false) ∧ Fr NoB w wr) (fun t _ => 26 - (intOf t).toNat)
  case atStart => exact ⟨0, by omega, rfl, by simpa using hf1, hg1, hz, hFr⟩
  case round =>
    obtain ⟨i, hi, rfl, h1, h2, h3, h4⟩ := hrel
    have H1 : Hid _ := h1
    have H2 : Hid _ := h2
    have H3 : Hid _ := h3
    have H4 : Hid _ := h4
    clear h1 h2 h3 h4 hf1 hg1 hz hFr
    by_cases hlt : i < 26
    · have c1 := H1.out.cell hlt
      have c2 := H2.out.cell hlt
      have c3 := H1.out.frz i
      simp only [Nat.lt_irrefl, if_false] at c1
      have HN : Hid (∀ v : Bool, v = bothF f g i → RowF (wr.setCell ⟨w.heap.size, i, none⟩ (.bool v)) w.heap.size (fun j => if j < i + 1 then bothF f g j else f j)) := fun v hv =>
        (H1.out.set hlt v).congr fun j hj => by
          unfold updB
          by_cases e : j = i
          · subst e; simp [hv]
          · rw [if_neg e]
            show (if j < i + 1 then bothF f g j else f j) = (if j < i then bothF f g j else f j)
            by_cases e2 : j < i
            · rw [if_pos e2, if_pos (by omega)]
            · rw [if_neg e2, if_neg (by omega)]
      cases hfi : f i
      · rw [hfi] at c1
        have HB : Hid (false = bothF f g i) := by show _ = _; unfold bothF; rw [hfi]; rfl
        clear hfi
        go_wp2
        go_roundw
        case rel => exact ⟨i + 1, by omega, by go_num, HN.out _ HB.out, H2.out.fr ((Fr.refl (OneB w.heap.size) wr).setCell (p := ⟨w.heap.size, i, none⟩) (fun _ => rfl) _) (by unfold OneB; omega), H3.out.fr ((Fr.refl (OneB w.heap.size) wr).setCell (p := ⟨w.heap.size, i, none⟩) (fun _ => rfl) _) (by unfold OneB; omega), H4.out.setCell (p := ⟨w.heap.size, i, none⟩) (fun q => absurd q (by simp)) _⟩
        case measure => simp [intOf]; omega
      · rw [hfi] at c1
        have HB : Hid (g i = bothF f g i) := by show _ = _; unfold bothF; rw [hfi]; rfl
        clear hfi
        go_wp2
        go_roundw
        case rel => exact ⟨i + 1, by omega, by go_num, HN.out _ HB.out, H2.out.fr ((Fr.refl (OneB w.heap.size) wr).setCell (p := ⟨w.heap.size, i, none⟩) (fun _ => rfl) _) (by unfold OneB; omega), H3.out.fr ((Fr.refl (OneB w.heap.size) wr).setCell (p := ⟨w.heap.size, i, none⟩) (fun _ => rfl) _) (by unfold OneB; omega), H4.out.setCell (p := ⟨w.heap.size, i, none⟩) (fun q => absurd q (by simp)) _⟩
        case measure => simp [intOf]; omega
    · have hie : i = 26 := by omega
      subst hie
      have H5 : Hid (RowF wr w.heap.size (bothF f g)) := H1.out.congr (fun j hj => by rw [if_pos hj])
      clear hi hlt H1 H2
      go_wp2_with (first
        | (refine wpList_load_row rfl 70 _ rfl w.heap.size rfl 70 (arrF (bothF f g)) (0, 0) _ H5.out.h Try.underlying70 rfl (by rw [arrF_size]; exact Try.sizeFull) ?_)
        | (refine wpList_store_row rfl 70 _ _ rfl (w.heap.size + 1 + 1) (arrF (bothF f g)) rfl rfl 70 _ H3.out.h (by rw [arrF_size]; exact Try.sizeFull) (by rw [arrF_size, arrF_size]) (arrF_one _) ?_))
      refine bodyPost_ret (v := .agg (arrF (bothF f g))) ?_ rfl ⟨rfl, H4.out.setRow (fun q => absurd q (by omega)) _⟩
      exact results_cell_row (fn := Try.f65) rfl _ _ (w.heap.size + 1 + 1) 70 _ (0, 0) _ rfl (H3.out.row (bothF f g)).h Try.underlying70 rfl (by rw [arrF_size]; exact Try.sizeFull)

/-- all of f is in g -/
def subF (f g : Nat → Bool) : Prop := ∀ i, i < 26 → f i = true → g i = true
def subFDec (f g : Nat → Bool) : Decidable (subF f g) := inferInstanceAs (Decidable (∀ i, i < 26 → f i = true → g i = true))
/-- the same, as an answer -/
def subD (f g : Nat → Bool) : Bool := @decide (subF f g) (subFDec f g)
theorem subD_true {f g : Nat → Bool} (h : subF f g) : subD f g = true := @decide_eq_true _ (subFDec f g) h
theorem subD_false {f g : Nat → Bool} (h : ¬ subF f g) : subD f g = false := @decide_eq_false _ (subFDec f g) h
theorem subD_of {f g : Nat → Bool} (h : subD f g = true) : subF f g := @of_decide_eq_true _ (subFDec f g) h
theorem subD_not {f g : Nat → Bool} (h : subD f g = false) : ¬ subF f g := @of_decide_eq_false _ (subFDec f g) h
set_option maxRecDepth 8000 in
set_option maxHeartbeats 1000000 in
theorem subset_fn (w : World) (f g : Nat → Bool) :
    Calls Try.prog 64 #[.agg (arrF f), .agg (arrF g)] w fun e w' => e = .returned (.bool (subD f g)) ∧ Fr NoB w w' := by
  have hg1 : RowF ((w.alloc (.cells (arrF f) 70)).alloc (.cells (arrF g) 70)) (w.heap.size + 1) g := by
    have := RowF.new (w.alloc (.cells (arrF f) 70)) g
    simpa using this
  have hf1 : RowF ((w.alloc (.cells (arrF f) 70)).alloc (.cells (arrF g) 70)) w.heap.size f :=
    (RowF.new w f).no ((Fr.refl _ _).alloc _)
  have HFr : Hid (Fr NoB w ((w.alloc (.cells (arrF f) 70)).alloc (.cells (arrF g) 70))) := ((Fr.refl _ _).alloc _).alloc _
  have Hf1 : Hid _ := hf1
  have Hg1 : Hid _ := hg1
  clear hf1 hg1
  generalize hf : arrF f = af at *
  generalize hg : arrF g = ag at *
  clear hf hg
  generalize hd : subD f g = D
  have Hd : Hid _ := hd
  clear hd
  go_enter Try.func64, Try.ntmps64
  go_wp2
  generalize ((w.alloc (Obj.cells af 70)).alloc (Obj.cells ag 70)) = W at *
  go_loop [5] (fun t => ∃ i : Nat, i ≤ 26 ∧ t = .int .i64 i ∧ ∀ j, j < i → f j = true → g j = true) (fun t => 26 - (intOf t).toNat)
  case atStart => exact ⟨0, by omega, rfl, fun j hj => absurd hj (by omega)⟩
  case round =>
    obtain ⟨i, hi, rfl, h1⟩ := hrel
    have H1 : Hid _ := h1
    clear h1
    by_cases hlt : i < 26
    · have c1 := Hf1.out.cell hlt
      have c2 := Hg1.out.cell hlt
      cases hfi : f i
      · rw [hfi] at c1
        have HN : Hid (∀ j, j < i + 1 → f j = true → g j = true) := fun j hj hfj => by
          by_cases e : j = i
          · subst e; rw [hfi] at hfj; cases hfj
          · exact H1.out j (by omega) hfj
        clear hfi
        go_wp2
        go_round
        case rel => exact ⟨i + 1, by omega, by go_num, HN.out⟩
        case measure => simp [intOf]; omega
      · rw [hfi] at c1
        cases hgi : g i
        · rw [hgi] at c2
          have HN : Hid (D = false) := by
            show D = false
            rw [← Hd.out]
            exact subD_false fun h => by
              have := h i hlt hfi
              rw [hgi] at this; cases this
          clear hfi hgi
          go_wp2
          go_ret
          exact ⟨retb HN.out.symm, HFr.out⟩
        · rw [hgi] at c2
          have HN : Hid (∀ j, j < i + 1 → f j = true → g j = true) := fun j hj hfj => by
            by_cases e : j = i
            · subst e; exact hgi
            · exact H1.out j (by omega) hfj
          clear hfi hgi
          go_wp2
          go_round
          case rel => exact ⟨i + 1, by omega, by go_num, HN.out⟩
          case measure => simp [intOf]; omega
    · have hie : i = 26 := by omega
      subst hie
      have HN : Hid (D = true) := by
        show D = true
        rw [← Hd.out]
        exact subD_true H1.out
      go_wp2
      go_ret
      exact ⟨retb HN.out.symm, HFr.out⟩
end Go.Proofs.Ytcmnejcojphijaa
