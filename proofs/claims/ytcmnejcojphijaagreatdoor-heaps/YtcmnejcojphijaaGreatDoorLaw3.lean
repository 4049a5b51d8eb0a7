import Derived.Test.YtcmnejcojphijaaGreatDoorLaw2
namespace Go.Proofs.YtcmnejcojphijaaGreatDoor
open Go.RowKit

theorem Tryz.infoPair : (Tryz.prog.info? 65).map (fun i => (i.zero, i.size, i.bytes)) = some (some (.agg #[.pointer none, .pointer none]), 2, 16) := by kernel_rfl
theorem Tryz.infoList : (Tryz.prog.info? 69).map (fun i => (i.zero, i.size, i.bytes)) = some (some (.agg #[.slice none 0 0, .slice none 0 0, .slice none 0 0]), 3, 72) := by kernel_rfl

/-- there is such a state -/
def WOk (w0 w : World) (wp bd : Nat) : Prop := ∃ own hv lv hs ls, WSt w0 w wp own bd hv lv hs ls
/-- there is such a state, with a heap at least -/
def WOkH (w0 w : World) (wp bd : Nat) : Prop := ∃ own hv lv hs ls, WSt w0 w wp own bd hv lv hs ls ∧ 0 < hs.length

theorem addHeap {w0 w w1 w2 w3 : World} {wp : Nat} {own : Nat → Nat} {bd : Nat} {hv hv' lv : Value} {hs : List HEnt} {ls : List LEnt} {o : Obj} {p r q ri rh n : Nat} (h : WSt w0 w wp own bd hv lv hs ls)
    (hF1 : Fr NoB w w1) (hF2 : Fr NoB w1 w2) (hp : w.heap.size ≤ p) (hr : w.heap.size ≤ r) (hH : HeapAt w1 p r n (fun _ => 0) (fun _ => 0))
    (hq : w1.heap.size ≤ q) (hri : w1.heap.size ≤ ri) (hrh : w1.heap.size ≤ rh) (hR : RefAt w2 q ri rh n (fun _ => 0) (fun _ => 0) 0)
    (hown : w3.ownsRow w0.heap.size 65 2 hv' (hs.length + 1) (hs.flatMap pairCells ++ [.pointer (some ⟨p, 0, none⟩), .pointer (some ⟨q, 0, none⟩)]))
    (hk : AppKind (w2.alloc o) w3 hv hv' hs.length 1) : WOkH w0 (w3.setCell ⟨wp, 0, none⟩ hv') wp (bd + 1) := by
  have s1 := hF1.size
  have s2 := hF2.size
  have hwl := h.wl
  have hpl := hH.pl
  have hrl := hH.rl
  have hql := hR.ql
  have hil := hR.il
  have hhl := hR.hl
  have hW2 := (h.no hF1).no hF2
  let own' : Nat → Nat := fun k => if k < w.heap.size then own k else if k < w1.heap.size then 4 + 3 * hs.length else if k < w2.heap.size then 5 + 3 * hs.length else 2
  have o0 : ∀ k, k < w.heap.size → own' k = own k := fun k hk => by simp only [own', if_pos hk]
  have o1 : ∀ k, w.heap.size ≤ k → k < w1.heap.size → own' k = 4 + 3 * hs.length := fun k h1 h2 => by simp only [own']; rw [if_neg (by omega), if_pos h2]
  have o2 : ∀ k, w1.heap.size ≤ k → k < w2.heap.size → own' k = 5 + 3 * hs.length := fun k h1 h2 => by simp only [own']; rw [if_neg (by omega), if_neg (by omega), if_pos h2]
  have o3 : ∀ k, w2.heap.size ≤ k → own' k = 2 := fun k h1 => by simp only [own']; rw [if_neg (by omega), if_neg (by omega), if_neg (by omega)]
  have hWo := ((h.reown o0).no hF1).no hF2
  have hfr : Fr (fun k => hv.ownBlock = some k) w2 w3 := ((Fr.refl _ w2).alloc o).trans hk.fr
  have hfr2 : Fr (fun k => own' k = 2) w2 w3 := hfr.mono (fun k _ e => hWo.oh k e)
  have hset : Fr (fun k => own' k = 2 ∨ k = wp) w2 (w3.setCell ⟨wp, 0, none⟩ hv') := (hfr2.mono (T := fun k => own' k = 2 ∨ k = wp) (fun k _ e => .inl e)).setCell (p := ⟨wp, 0, none⟩) (fun _ => .inr rfl) _
  have ow1 : own' wp = 1 := hWo.ow
  have hne : ∀ k, (own' k = 2 ∨ k = wp) → own' k = 2 ∨ own' k = 1 := fun k e => by
    rcases e with e | e
    · exact .inl e
    · subst e; exact .inr ow1
  have hwp3 : wp < w3.heap.size := by have := hfr.size; omega
  have hhv' : ∀ g, hv'.ownBlock = some g → own' g = 2 := fun g hg => by
    obtain ⟨g2, cap2, rfl, hpl⟩ := hk.place
    have e : g2 = g := by simpa [Value.ownBlock] using hg
    subst e
    rcases hpl with e | e
    · exact o3 g2 (by simp at e; omega)
    · exact hWo.oh g2 e
  refine ⟨own', hv', lv, hs ++ [⟨p, r, q, ri, rh, n, fun _ => 0, fun _ => 0, fun _ => 0, fun _ => 0, 0⟩], ls, ⟨?_, ?_, ?_, ow1, ?_, ?_, hhv', hWo.ol, ?_, ?_, hWo.old, ?_, ?_, by have := h.ll; omega⟩, by simp⟩
  · exact cell_same (hfr2.cell_some hWo.c0 (fun e => by rw [ow1] at e; omega))
  · exact (cell_other (.inr (by omega))).trans (hfr2.cell_some hWo.c1 (fun e => by rw [ow1] at e; omega))
  · intro x
    rw [World.frozen?_setCell]
    exact (hfr2.frozen (p := ⟨wp, x, none⟩) hWo.wl (fun e => by rw [ow1] at e; omega)).trans (hWo.fz x)
  · have hx : (hs ++ [(⟨p, r, q, ri, rh, n, fun _ => 0, fun _ => 0, fun _ => 0, fun _ => 0, 0⟩ : HEnt)]).flatMap pairCells = hs.flatMap pairCells ++ [.pointer (some ⟨p, 0, none⟩), .pointer (some ⟨q, 0, none⟩)] := by simp [pairCells]
    rw [hx, List.length_append]
    exact ((Fr.refl (OneB wp) w3).setCell (p := ⟨wp, 0, none⟩) (fun _ => rfl) _).owns hown (fun k hk2 e => by have e' : k = wp := e; subst e'; have := hhv' _ hk2; rw [ow1] at this; omega)
  · exact hset.owns hWo.lrow (fun k hk2 e => by have := hWo.ol k hk2; rcases hne k e with g | g <;> omega)
  · intro i e he
    by_cases hi : i < hs.length
    · rw [List.getElem?_append_left hi] at he
      exact ((hWo.hok i e he).fr hset (fun k e => by rcases hne k e with g | g <;> (constructor <;> omega))).mono (by omega)
    · rw [List.getElem?_append_right (by omega)] at he
      have hi0 : i = hs.length := by
        by_cases g : i - hs.length = 0
        · omega
        · rw [List.getElem?_eq_none (by simp; omega)] at he; cases he
      subst hi0
      simp at he
      subst he
      have hn1 : ∀ k, w.heap.size ≤ k → k < w2.heap.size → ¬ (own' k = 2 ∨ k = wp) := fun k g1 g2 e => by
        rcases hne k e with g | g
        · by_cases g3 : k < w1.heap.size
          · rw [o1 k g1 g3] at g; omega
          · rw [o2 k (by omega) g2] at g; omega
        · by_cases g3 : k < w1.heap.size
          · rw [o1 k g1 g3] at g; omega
          · rw [o2 k (by omega) g2] at g; omega
      exact ⟨(hH.no hF2).fr hset (hn1 p hp (by omega)) (hn1 r hr (by omega)), hR.fr hset (hn1 q (by omega) hql) (hn1 ri (by omega) hil) (hn1 rh (by omega) hhl), Rel.start n, by show (0 : Int) ≤ _; omega, o1 p hp hpl, o1 r hr hrl, o2 q hq hql, o2 ri hri hil, o2 rh hrh hhl⟩
  · intro i e he
    exact (hWo.lok i e he).fr hset (fun k e => by rcases hne k e with g | g <;> omega)
  · exact hWo.fr.then hset (fun k hk2 e => by have := hWo.old k hk2; rcases hne k e with g | g <;> omega)
  · rw [List.length_append]; have := h.hl; simp; omega

set_option maxHeartbeats 1000000 in
theorem lmade_no (w : World) (wp : Nat) (a : Int) (ha : a < 1 ∨ 4096 < a) :
    Calls Tryz.prog 12 #[.pointer (some ⟨wp, 0, none⟩), .int .i64 a] w fun e w' => e = .returned (.bool true) ∧ Fr NoB w w' := by
  go_enter Tryz.func12, Tryz.ntmps12
  go_wp2_with fail
  refine (new_no _ a ha).mono ?_
  rintro e w1 ⟨rfl, hF⟩
  go_wp2_with fail
  refine (rnew_no _ a ha).mono ?_
  rintro e w2 ⟨rfl, rfl⟩
  go_wp2
  go_ret
  exact ⟨rfl, hF⟩

set_option maxRecDepth 20000 in
set_option maxHeartbeats 1000000 in
theorem lmade_yes (w0 w : World) (wp : Nat) (own : Nat → Nat) (bd : Nat) (hv lv : Value) (hs : List HEnt) (ls : List LEnt) (n : Nat) (h1 : 1 ≤ n) (h2 : n ≤ 4096) (h : WSt w0 w wp own bd hv lv hs ls) (hbd : bd ≤ 2932031007402) :
    Calls Tryz.prog 12 #[.pointer (some ⟨wp, 0, none⟩), .int .i64 (n : Int)] w fun e w' => e = .returned (.bool true) ∧ WOkH w0 w' wp (bd + 1) := by
  obtain ⟨i0, hi0, hz0, hz1, hz2⟩ := info_parts Tryz.infoPair
  have hhl := h.hl
  go_enter Tryz.func12, Tryz.ntmps12
  go_wp2_with fail
  refine (new_yes _ n h1 h2).mono ?_
  rintro e w1 ⟨p, r, rfl, hF1, hp, hr, hH⟩
  go_wp2_with fail
  refine (rnew_yes _ n h1 h2).mono ?_
  rintro e w2 ⟨q, ri, rh, rfl, hF2, hq, hri, hrh, hR⟩
  have hW2 := (h.no hF1).no hF2
  have c0 := hW2.c0
  have hrow := hW2.hrow
  have fz := hW2.fz 0
  have hwl := hW2.wl
  have HA := show Hid (_ ∧ _ ∧ _ ∧ _ ∧ _ ∧ _ ∧ _ ∧ _ ∧ _) from ⟨hF1, hF2, hp, hr, hH, hq, hri, hrh, hR⟩
  have hs0 := hW2.fr.size
  have H0 : Hid (WSt w0 w wp own bd hv lv hs ls) := h
  have HW2 : Hid (WSt w0 w2 wp own bd hv lv hs ls) := hW2
  clear hF1 hF2 hp hr hH hq hri hrh hR h hW2
  go_wp2_with (at_builtin; refine wpList_append_kind _ rfl _ _ 35 rfl w0.heap.size 65 i0 (.agg #[.pointer none, .pointer none]) 2 16 Tryz.underlying35 hi0 hz0 hz1 hz2 rfl (by decide) _ _ _ rfl (hrow.alloc _) ⟨w2.heap.size, 0, none⟩ 1 1 [.pointer (some ⟨p, 0, none⟩), .pointer (some ⟨q, 0, none⟩)] (by decide) rfl rfl ?c1 ?c2 ?c3 ?c4 ?c5 ?_)
  case c1 =>
    intro j u hj
    match j, hj with
    | 0, hj => simp at hj; subst hj; simp [Addr.add]
    | 1, hj => simp at hj; subst hj; simp [Addr.add]
  case c2 => intro u hu; simp at hu; rcases hu with rfl | rfl <;> rfl
  case c3 => unfold maxLen; omega
  case c4 => omega
  case c5 => simp; omega
  intro hv' w3 hown hk
  obtain ⟨a1, a2, a3, a4, a5, a6, a7, a8, a9⟩ := HA.out
  have HE : Hid (WOkH w0 (w3.setCell ⟨wp, 0, none⟩ hv') wp (bd + 1)) := addHeap H0.out a1 a2 a3 a4 a5 a6 a7 a8 a9 hown hk
  have hne : ¬ hv.ownBlock = some wp := fun e => by have g1 := HW2.out.oh _ e; have g2 := HW2.out.ow; omega
  have hfr := hk.fr
  have d0 : w3.cell? ⟨wp, 0, none⟩ = some hv := hfr.cell_some (((Fr.refl NoB w2).alloc _).cell_some c0 id) hne
  have d1 : w3.frozen? ⟨wp, 0, none⟩ = false := (hfr.frozen (p := ⟨wp, 0, none⟩) (by simp; omega) hne).trans ((((Fr.refl NoB w2).alloc _).frozen (p := ⟨wp, 0, none⟩) hwl id).trans fz)
  obtain ⟨g', cap', hve, _⟩ := hk.place
  subst hve
  clear hown hk hfr a1 a2 a3 a4 a5 a6 a7 a8 a9 hrow c0 fz hne
  go_wp2
  go_ret
  exact ⟨rfl, HE.out⟩
end Go.Proofs.YtcmnejcojphijaaGreatDoor
