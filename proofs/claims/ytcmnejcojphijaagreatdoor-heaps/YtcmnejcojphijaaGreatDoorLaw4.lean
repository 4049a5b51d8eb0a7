import Derived.Test.YtcmnejcojphijaaGreatDoorLaw3
namespace Go.Proofs.YtcmnejcojphijaaGreatDoor
open Go.RowKit

theorem flat3_at {T : Type} (f : T → List Value) (hf : ∀ x, (f x).length = 3) (l : List T) (i k : Nat) (hk : k < 3) (hi : i < l.length) : (l.flatMap f)[i * 3 + k]? = (f l[i])[k]? := by
  induction l generalizing i with
  | nil => simp at hi
  | cons x t ih =>
    rw [List.flatMap_cons]
    cases i with
    | zero => rw [List.getElem?_append_left (by rw [hf]; omega)]; simp
    | succ i =>
      rw [List.getElem?_append_right (by rw [hf]; omega), hf, show (i + 1) * 3 + k - 3 = i * 3 + k by omega]
      simpa using ih i (by simpa using hi)
theorem flat2_at {T : Type} (f : T → List Value) (hf : ∀ x, (f x).length = 2) (l : List T) (i k : Nat) (hk : k < 2) (hi : i < l.length) : (l.flatMap f)[i * 2 + k]? = (f l[i])[k]? := by
  induction l generalizing i with
  | nil => simp at hi
  | cons x t ih =>
    rw [List.flatMap_cons]
    cases i with
    | zero => rw [List.getElem?_append_left (by rw [hf]; omega)]; simp
    | succ i =>
      rw [List.getElem?_append_right (by rw [hf]; omega), hf, show (i + 1) * 2 + k - 2 = i * 2 + k by omega]
      simpa using ih i (by simpa using hi)

/-- the row of lists, to be read -/
structure LRow (w : World) (ao : Option Addr) (ls : List LEnt) : Prop where
  some_ : 0 < ls.length → ∃ g, ao = some ⟨g, 0, none⟩
  c0 : ∀ g i (hi : i < ls.length), ao = some ⟨g, 0, none⟩ → w.cell? ⟨g, i * 3, none⟩ = some (.slice ls[i].ao ls[i].len ls[i].cl)
  c1 : ∀ g i (hi : i < ls.length), ao = some ⟨g, 0, none⟩ → w.cell? ⟨g, i * 3 + 1, none⟩ = some (.slice (some ⟨ls[i].bx, 0, none⟩) (ls[i].len + 2) ls[i].cx)
  c2 : ∀ g i (hi : i < ls.length), ao = some ⟨g, 0, none⟩ → w.cell? ⟨g, i * 3 + 2, none⟩ = some (.slice (some ⟨ls[i].bw, 0, none⟩) (ls[i].len + 2) ls[i].cw)
theorem LRow.no {w w' : World} {ao : Option Addr} {ls : List LEnt} (h : LRow w ao ls) (hf : Fr NoB w w') : LRow w' ao ls :=
  ⟨h.some_, fun g i hi e => hf.cell_some (h.c0 g i hi e) id, fun g i hi e => hf.cell_some (h.c1 g i hi e) id, fun g i hi e => hf.cell_some (h.c2 g i hi e) id⟩
theorem lrow_of {w : World} {base : Nat} {v : Value} {ls : List LEnt} (h : w.ownsRow base 69 3 v ls.length (ls.flatMap listCells)) : ∃ ao cap, v = .slice ao ls.length cap ∧ LRow w ao ls := by
  have hf : ∀ x, (listCells x).length = 3 := fun x => rfl
  rcases h.2 with ⟨rfl, hl⟩ | ⟨g, cap, cur, rfl, _, _, _, _, _, _⟩
  · exact ⟨none, 0, by rw [hl], ⟨fun h => absurd h (by omega), fun _ i hi => absurd hi (by omega), fun _ i hi => absurd hi (by omega), fun _ i hi => absurd hi (by omega)⟩⟩
  · have hc := h.cells (g := g) rfl
    have hadd : ∀ j, (⟨g, 0, none⟩ : Addr).add j = ⟨g, j, none⟩ := fun j => by unfold Addr.add; split <;> simp_all
    refine ⟨some ⟨g, 0, none⟩, cap, rfl, ⟨fun _ => ⟨g, rfl⟩, ?_, ?_, ?_⟩⟩
    · intro g' i hi e; cases e; rw [← hadd]; exact hc _ _ (flat3_at listCells hf ls i 0 (by omega) hi)
    · intro g' i hi e; cases e; rw [← hadd]; exact hc _ _ (flat3_at listCells hf ls i 1 (by omega) hi)
    · intro g' i hi e; cases e; rw [← hadd]; exact hc _ _ (flat3_at listCells hf ls i 2 (by omega) hi)

/-- the row of heaps, to be read -/
structure HRow (w : World) (ao : Option Addr) (hs : List HEnt) : Prop where
  some_ : 0 < hs.length → ∃ g, ao = some ⟨g, 0, none⟩
  c0 : ∀ g i (hi : i < hs.length), ao = some ⟨g, 0, none⟩ → w.cell? ⟨g, i * 2, none⟩ = some (.pointer (some ⟨hs[i].p, 0, none⟩))
  c1 : ∀ g i (hi : i < hs.length), ao = some ⟨g, 0, none⟩ → w.cell? ⟨g, i * 2 + 1, none⟩ = some (.pointer (some ⟨hs[i].q, 0, none⟩))
theorem HRow.no {w w' : World} {ao : Option Addr} {hs : List HEnt} (h : HRow w ao hs) (hf : Fr NoB w w') : HRow w' ao hs :=
  ⟨h.some_, fun g i hi e => hf.cell_some (h.c0 g i hi e) id, fun g i hi e => hf.cell_some (h.c1 g i hi e) id⟩
theorem hrow_of {w : World} {base : Nat} {v : Value} {hs : List HEnt} (h : w.ownsRow base 65 2 v hs.length (hs.flatMap pairCells)) : ∃ ao cap, v = .slice ao hs.length cap ∧ HRow w ao hs := by
  have hf : ∀ x, (pairCells x).length = 2 := fun x => rfl
  rcases h.2 with ⟨rfl, hl⟩ | ⟨g, cap, cur, rfl, _, _, _, _, _, _⟩
  · exact ⟨none, 0, by rw [hl], ⟨fun h => absurd h (by omega), fun _ i hi => absurd hi (by omega), fun _ i hi => absurd hi (by omega)⟩⟩
  · have hc := h.cells (g := g) rfl
    have hadd : ∀ j, (⟨g, 0, none⟩ : Addr).add j = ⟨g, j, none⟩ := fun j => by unfold Addr.add; split <;> simp_all
    refine ⟨some ⟨g, 0, none⟩, cap, rfl, ⟨fun _ => ⟨g, rfl⟩, ?_, ?_⟩⟩
    · intro g' i hi e; cases e; rw [← hadd]; exact hc _ _ (flat2_at pairCells hf hs i 0 (by omega) hi)
    · intro g' i hi e; cases e; rw [← hadd]; exact hc _ _ (flat2_at pairCells hf hs i 1 (by omega) hi)

set_option maxRecDepth 20000 in
set_option maxHeartbeats 1000000 in
theorem llooks_yes (w0 w : World) (wp : Nat) (own : Nat → Nat) (bd : Nat) (hv lv : Value) (hs : List HEnt) (ls : List LEnt) (h : WSt w0 w wp own bd hv lv hs ls) (hbd : bd ≤ 2932031007402) :
    Calls Tryz.prog 14 #[.pointer (some ⟨wp, 0, none⟩)] w fun e w' => e = .returned (.bool true) ∧ Fr NoB w w' := by
  have hll := h.ll
  have hc1 := h.c1
  obtain ⟨ao, cap, rfl, hrow⟩ := lrow_of h.lrow
  go_enter Tryz.func14, Tryz.ntmps14
  go_wp2_with fail
  go_loopw [3] (fun t wr => ∃ i : Nat, i ≤ ls.length ∧ t = .int .i64 i ∧ Fr NoB w wr) (fun t _ => ls.length - (intOf t).toNat)
  case atStart => exact ⟨0, Nat.zero_le _, rfl, Fr.refl _ _⟩
  case round =>
    obtain ⟨i, hi, rfl, hF⟩ := hrel
    have hW := h.no hF
    have d1 := hW.c1
    have hr := hrow.no hF
    clear hc1
    by_cases hlt : i < ls.length
    · obtain ⟨g, rfl⟩ := hrow.some_ (by omega)
      have b0 := hr.c0 g i hlt rfl
      have b1 := hr.c1 g i hlt rfl
      have b2 := hr.c2 g i hlt rfl
      obtain ⟨e, he⟩ : ∃ e, e = ls[i] := ⟨_, rfl⟩
      rw [← he] at b0 b1 b2
      have hL : LOk wr own i e := hW.lok i e (by rw [he]; exact List.getElem?_eq_getElem hlt)
      have hcw := hL.hw
      have hcx := hL.hx
      have hll2 := hL.hl
      have hcap := hL.hc
      clear he hr
      have HS1 : Hid (∀ W : World, Fr NoB wr W → ∀ cb, Calls Tryz.prog 29 #[.slice e.ao e.len e.cl, .slice (some ⟨e.bw, 0, none⟩) e.len cb] W fun x w' => x = .returned (.bool true) ∧ Fr NoB W w') :=
        fun W hf cb => lsame_yes W e.ao (some ⟨e.bw, 0, none⟩) e.len e.cl cb e.A e.N (hL.l.no hf) ((hL.y.no hf).take (by omega)) (by omega)
      have HS2 : Hid (∀ W : World, Fr NoB wr W → Calls Tryz.prog 29 #[.slice (some ⟨e.bx, 0, none⟩) (e.len + 2) e.cx, .slice (some ⟨e.bw, 0, none⟩) (e.len + 2) e.cw] W fun x w' => x = .returned (.bool true) ∧ Fr NoB W w') :=
        fun W hf => lsame_yes W (some ⟨e.bx, 0, none⟩) (some ⟨e.bw, 0, none⟩) (e.len + 2) e.cx e.cw e.A e.N (hL.x.no hf) (hL.y.no hf) (by omega)
      clear hL hW
      go_upto_region 5 with fail
      go_cut [5] (fun s wx => s = .bool true ∧ Fr NoB wr wx ∧ wx.cell? ⟨wr.heap.size, 1, none⟩ = some (.slice (some ⟨e.bx, 0, none⟩) (e.len + 2) e.cx) ∧ wx.cell? ⟨wr.heap.size, 2, none⟩ = some (.slice (some ⟨e.bw, 0, none⟩) (e.len + 2) e.cw))
      case first =>
        go_region_with (go_at_call 29; refine (HS1.out _ (((Fr.refl _ _).alloc _).drew) _).mono ?_; rintro e2 w2 ⟨rfl, hF2⟩)
        all_goals
          go_wp2_with fail
          go_meet
          case rel => exact ⟨rfl, (((Fr.refl _ _).alloc _).drew).trans hF2, hF2.cell_some (by simp) id, hF2.cell_some (by simp) id⟩
      case rest =>
        obtain ⟨rfl, hF2, f1, f2⟩ := hcut
        go_wp2_with fail
        refine (HS2.out _ hF2).mono ?_
        rintro e2 w3 ⟨rfl, hF3⟩
        have HF : Hid (Fr NoB w w3) := (hF.trans hF2).trans hF3
        clear hF2 hF3 f1 f2
        go_wp2
        go_roundw
        case rel => exact ⟨i + 1, by omega, by go_num, HF.out⟩
        case measure => simp [intOf]; omega
    · go_wp2
      go_ret
      exact ⟨rfl, hF⟩
end Go.Proofs.YtcmnejcojphijaaGreatDoor
