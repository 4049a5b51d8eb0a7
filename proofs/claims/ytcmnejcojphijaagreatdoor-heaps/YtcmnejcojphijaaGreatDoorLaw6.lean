import Derived.Test.YtcmnejcojphijaaGreatDoorLaw5
namespace Go.Proofs.YtcmnejcojphijaaGreatDoor
open Go.RowKit

def spanI (A N : Nat → Int) (n : Nat) : List Value := (List.range n).flatMap fun i => [.int .i64 (A i), .int .i64 (N i)]
theorem spanI_succ (A N : Nat → Int) (n : Nat) : spanI A N (n + 1) = spanI A N n ++ [.int .i64 (A n), .int .i64 (N n)] := by
  unfold spanI; rw [List.range_succ, List.flatMap_append]; simp
theorem spanI_congr {A N A' N' : Nat → Int} {n : Nat} (hA : ∀ i, i < n → A i = A' i) (hN : ∀ i, i < n → N i = N' i) : spanI A N n = spanI A' N' n := by
  induction n with
  | zero => rfl
  | succ n ih => rw [spanI_succ, spanI_succ, ih (fun i hi => hA i (by omega)) (fun i hi => hN i (by omega)), hA n (by omega), hN n (by omega)]
theorem spanI_at (A N : Nat → Int) (n i : Nat) (hi : i < n) : (spanI A N n)[i * 2]? = some (.int .i64 (A i)) ∧ (spanI A N n)[i * 2 + 1]? = some (.int .i64 (N i)) := by
  have hf : ∀ x, ((fun i => [Value.int .i64 (A i), Value.int .i64 (N i)]) x).length = 2 := fun x => rfl
  have h0 := flat2_at (fun i => [Value.int .i64 (A i), Value.int .i64 (N i)]) hf (List.range n) i 0 (by omega) (by simpa using hi)
  have h1 := flat2_at (fun i => [Value.int .i64 (A i), Value.int .i64 (N i)]) hf (List.range n) i 1 (by omega) (by simpa using hi)
  simp only [List.getElem_range] at h0 h1
  exact ⟨h0, h1⟩
def LA (L : List (Nat × Nat)) (k : Int) : Nat → Int := fun i => if i < L.length then ((L.getD i (0, 0)).1 : Int) else k
def LN (L : List (Nat × Nat)) (k : Int) : Nat → Int := fun i => if i < L.length then ((L.getD i (0, 0)).2 : Int) else k
theorem spanCells_eq (L : List (Nat × Nat)) (k : Int) : spanCells L = spanI (LA L k) (LN L k) L.length := by
  have h : ∀ M : List (Nat × Nat), spanCells M = spanI (fun i => ((M.getD i (0, 0)).1 : Int)) (fun i => ((M.getD i (0, 0)).2 : Int)) M.length := fun M => by
    unfold spanCells spanI
    rw [List.flatMap_def, List.flatMap_def]
    congr 1
    apply List.ext_getElem?
    intro i
    by_cases hi : i < M.length
    · simp [hi]
    · simp [hi]
  rw [h L]
  exact spanI_congr (fun i hi => by simp [LA, hi]) (fun i hi => by simp [LN, hi])
theorem spanCells_marked (L : List (Nat × Nat)) (k : Int) : spanCells L ++ [.int .i64 k, .int .i64 k, .int .i64 k, .int .i64 k] = spanI (LA L k) (LN L k) (L.length + 2) := by
  rw [spanI_succ, spanI_succ, ← spanCells_eq]
  have a0 : LA L k L.length = k := by unfold LA; rw [if_neg (by omega)]
  have a1 : LA L k (L.length + 1) = k := by unfold LA; rw [if_neg (by omega)]
  have n0 : LN L k L.length = k := by unfold LN; rw [if_neg (by omega)]
  have n1 : LN L k (L.length + 1) = k := by unfold LN; rw [if_neg (by omega)]
  rw [a0, a1, n0, n1]
  simp

theorem intRow_of {w : World} {base n : Nat} {v : Value} {A N : Nat → Int} (h : w.ownsRow base 82 2 v n (spanI A N n)) :
    ∃ ao cap, v = .slice ao n cap ∧ n ≤ cap ∧ cap ≤ 9223372036854775807 ∧ IntRow w ao n A N ∧ (∀ g, ao = some ⟨g, 0, none⟩ → v.ownBlock = some g ∧ ∀ o, w.frozen? ⟨g, o, none⟩ = false) := by
  rcases h.2 with ⟨rfl, rfl⟩ | ⟨g, cap, cur, rfl, _, _, hnc, hcm, _, _⟩
  · exact ⟨none, 0, rfl, by omega, by omega, ⟨fun h => absurd h (by omega), fun _ i hi => absurd hi (by omega), fun _ i hi => absurd hi (by omega)⟩, fun g e => by cases e⟩
  · have hc := h.cells (g := g) rfl
    have hadd : ∀ j, (⟨g, 0, none⟩ : Addr).add j = ⟨g, j, none⟩ := fun j => by unfold Addr.add; split <;> simp_all
    refine ⟨some ⟨g, 0, none⟩, cap, rfl, hnc, by simp only [maxLen] at hcm; omega, ⟨fun _ => ⟨g, rfl⟩, ?_, ?_⟩, fun g' e => by cases e; exact ⟨rfl, fun o => h.frozenAt o⟩⟩
    · intro g' i hi e; cases e; rw [← hadd]; exact hc _ _ (spanI_at A N n i hi).1
    · intro g' i hi e; cases e; rw [← hadd]; exact hc _ _ (spanI_at A N n i hi).2

theorem runs_len_le {B : Nat → Int} {n : Nat} (L : List (Nat × Nat)) (lo : Nat) (hlo : lo ≤ n) (h : IsRuns B n lo L) : L.length + lo ≤ n := by
  induction L generalizing lo with
  | nil => simpa using hlo
  | cons s t ih =>
    obtain ⟨a, l⟩ := s
    obtain ⟨h1, h2, h3, h4, h5, h6, h7⟩ := h
    have := ih (a + l) h3 h7
    simp only [List.length_cons]
    omega

/-- a list more -/
theorem addList {w0 w w7 w8 : World} {wp : Nat} {own : Nat → Nat} {bd : Nat} {hv lv lv' : Value} {hs : List HEnt} {ls : List LEnt} {o : Obj} {L : List (Nat × Nat)} {k : Int} {vl vx vw : Value} {ao : Option Addr} {cl bx cx bw cw : Nat}
    (h : WSt w0 w wp own bd hv lv hs ls) (hF7 : Fr NoB w w7)
    (hl : w7.ownsRow w.heap.size 82 2 vl L.length (spanCells L)) (hx : w7.ownsRow w.heap.size 82 2 vx (L.length + 2) (spanCells L ++ [.int .i64 k, .int .i64 k, .int .i64 k, .int .i64 k]))
    (hw : w7.ownsRow w.heap.size 82 2 vw (L.length + 2) (spanCells L ++ [.int .i64 k, .int .i64 k, .int .i64 k, .int .i64 k]))
    (el : vl = .slice ao L.length cl) (ex : vx = .slice (some ⟨bx, 0, none⟩) (L.length + 2) cx) (ew : vw = .slice (some ⟨bw, 0, none⟩) (L.length + 2) cw)
    (hLl : L.length ≤ 4096) (hnx : bx ≠ bw) (hnl : ∀ g, vl.ownBlock = some g → g ≠ bw)
    (hown : w8.ownsRow w0.heap.size 69 3 lv' (ls.length + 1) (ls.flatMap listCells ++ [vl, vx, vw]))
    (hk : AppKind (w7.alloc o) w8 lv lv' ls.length 1) (hne : 0 < hs.length) : WOkH w0 (w8.setCell ⟨wp, 1, none⟩ lv') wp (bd + 1) := by
  have s7 := hF7.size
  have hwl := h.wl
  let own' : Nat → Nat := fun k => if k < w.heap.size then own k else if k < w7.heap.size then 6 + 3 * ls.length else 3
  have o0 : ∀ k, k < w.heap.size → own' k = own k := fun k hk => by simp only [own', if_pos hk]
  have o1 : ∀ k, w.heap.size ≤ k → k < w7.heap.size → own' k = 6 + 3 * ls.length := fun k h1 h2 => by simp only [own']; rw [if_neg (by omega), if_pos h2]
  have o2 : ∀ k, w7.heap.size ≤ k → own' k = 3 := fun k h1 => by simp only [own']; rw [if_neg (by omega), if_neg (by omega)]
  have hWo := (h.reown o0).no hF7
  have hfr : Fr (fun k => lv.ownBlock = some k) w7 w8 := ((Fr.refl _ w7).alloc o).trans hk.fr
  have hfr2 : Fr (fun k => own' k = 3) w7 w8 := hfr.mono (fun k _ e => hWo.ol k e)
  have hset : Fr (fun k => own' k = 3 ∨ k = wp) w7 (w8.setCell ⟨wp, 1, none⟩ lv') := (hfr2.mono (T := fun k => own' k = 3 ∨ k = wp) (fun k _ e => .inl e)).setCell (p := ⟨wp, 1, none⟩) (fun _ => .inr rfl) _
  have ow1 : own' wp = 1 := hWo.ow
  have hne2 : ∀ k, (own' k = 3 ∨ k = wp) → own' k = 3 ∨ own' k = 1 := fun k e => by
    rcases e with e | e
    · exact .inl e
    · subst e; exact .inr ow1
  have hlv' : ∀ g, lv'.ownBlock = some g → own' g = 3 := fun g hg => by
    obtain ⟨g2, cap2, rfl, hpl⟩ := hk.place
    have e : g2 = g := by simpa [Value.ownBlock] using hg
    subst e
    rcases hpl with e | e
    · exact o2 g2 (by simp at e; omega)
    · exact hWo.ol g2 e
  rw [spanCells_eq L k] at hl
  rw [spanCells_marked] at hx hw
  obtain ⟨al, cl', el', ncl, mcl, irl, gl⟩ := intRow_of hl
  obtain ⟨ax, cx', ex', ncx, mcx, irx, gx⟩ := intRow_of hx
  obtain ⟨aw, cw', ew', ncw, mcw, irw, gw⟩ := intRow_of hw
  rw [el] at el'
  rw [ex] at ex'
  rw [ew] at ew'
  injection el' with e1 e2 e3
  injection ex' with e4 e5 e6
  injection ew' with e7 e8 e9
  subst e1 e3 e4 e6 e7 e9
  have hbl : ∀ g, vl.ownBlock = some g → w.heap.size ≤ g ∧ g < w7.heap.size := fun g hg => hl.lt g hg
  have hbx : w.heap.size ≤ bx ∧ bx < w7.heap.size := hx.lt bx (by rw [ex]; rfl)
  have hbw : w.heap.size ≤ bw ∧ bw < w7.heap.size := hw.lt bw (by rw [ew]; rfl)
  have hnk : ∀ g, w.heap.size ≤ g → g < w7.heap.size → ¬ (own' g = 3 ∨ g = wp) := fun g g1 g2 e => by
    have := o1 g g1 g2
    rcases hne2 g e with q | q <;> omega
  refine ⟨own', hv, lv', hs, ls ++ [⟨ao, L.length, cl, bx, cx, bw, cw, LA L k, LN L k⟩], ⟨?_, ?_, ?_, ow1, ?_, ?_, hWo.oh, hlv', ?_, ?_, hWo.old, ?_, by have := h.hl; omega, ?_⟩, hne⟩
  · exact (cell_other (.inr (by omega))).trans (hfr2.cell_some hWo.c0 (fun e => by rw [ow1] at e; omega))
  · exact cell_same (hfr2.cell_some hWo.c1 (fun e => by rw [ow1] at e; omega))
  · intro x
    rw [World.frozen?_setCell]
    exact (hfr2.frozen (p := ⟨wp, x, none⟩) hWo.wl (fun e => by rw [ow1] at e; omega)).trans (hWo.fz x)
  · exact hset.owns hWo.hrow (fun k hk2 e => by have := hWo.oh k hk2; rcases hne2 k e with g | g <;> omega)
  · have hxx : (ls ++ [(⟨ao, L.length, cl, bx, cx, bw, cw, LA L k, LN L k⟩ : LEnt)]).flatMap listCells = ls.flatMap listCells ++ [vl, vx, vw] := by rw [el, ex, ew]; simp [listCells]
    rw [hxx, List.length_append]
    exact ((Fr.refl (OneB wp) w8).setCell (p := ⟨wp, 1, none⟩) (fun _ => rfl) _).owns hown (fun k hk2 e => by have e' : k = wp := e; subst e'; have := hlv' _ hk2; rw [ow1] at this; omega)
  · intro i e he
    exact ((hWo.hok i e he).fr hset (fun k e => by rcases hne2 k e with g | g <;> (constructor <;> omega))).mono (by omega)
  · intro i e he
    by_cases hi : i < ls.length
    · rw [List.getElem?_append_left hi] at he
      exact (hWo.lok i e he).fr hset (fun k e => by rcases hne2 k e with g | g <;> omega)
    · rw [List.getElem?_append_right (by omega)] at he
      have hi0 : i = ls.length := by
        by_cases g : i - ls.length = 0
        · omega
        · rw [List.getElem?_eq_none (by simp; omega)] at he; cases he
      subst hi0
      simp at he
      subst he
      have hgl : ∀ g, ao = some ⟨g, 0, none⟩ → w.heap.size ≤ g ∧ g < w7.heap.size := fun g hg => hbl g (gl g hg).1
      exact ⟨irl.fr hset (fun g hg => hnk g (hgl g hg).1 (hgl g hg).2),
        irx.fr hset (fun g hg => by injection hg with hg; injection hg with hg; subst hg; exact hnk _ hbx.1 hbx.2),
        irw.fr hset (fun g hg => by injection hg with hg; injection hg with hg; subst hg; exact hnk _ hbw.1 hbw.2),
        fun _ g hg x => (hset.frozen (p := ⟨g, x, none⟩) (hgl g hg).2 (hnk g (hgl g hg).1 (hgl g hg).2)).trans ((gl g hg).2 x),
        fun x => (hset.frozen (p := ⟨bx, x, none⟩) hbx.2 (hnk _ hbx.1 hbx.2)).trans ((gx bx rfl).2 x),
        fun x => (hset.frozen (p := ⟨bw, x, none⟩) hbw.2 (hnk _ hbw.1 hbw.2)).trans ((gw bw rfl).2 x),
        ncx, ncw, hLl, ⟨mcl, mcx, mcw⟩, fun _ g hg => o1 g (hgl g hg).1 (hgl g hg).2, o1 bx hbx.1 hbx.2, o1 bw hbw.1 hbw.2, hnx, fun _ g hg => hnl g (gl g hg).1⟩
  · exact hWo.fr.then hset (fun k hk2 e => by have := hWo.old k hk2; rcases hne2 k e with g | g <;> omega)
  · rw [List.length_append]; have := h.ll; simp; omega
end Go.Proofs.YtcmnejcojphijaaGreatDoor
