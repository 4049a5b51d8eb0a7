/-
  The program's reader in memory: its lists, read.
-/
import Derived.Test.YtdpkcniiljpdbaaDevZ
namespace Go.Proofs.Ytdpkcniiljpdbaa
open Go.RowKit
set_option linter.unusedVariables false

theorem flat_get : ∀ (P : List Pt) (i j : Nat), i < P.length → j < 5 → (P.flatMap ptC)[i * 5 + j]? = (ptC (pOf P i))[j]?
  | [], i, j, h, _ => absurd h (Nat.not_lt_zero _)
  | t :: P, 0, j, _, hj => by
    have hl : (ptC t).length = 5 := rfl
    rw [List.flatMap_cons, List.getElem?_append_left (by omega)]
    rw [show 0 * 5 + j = j by omega]
    rfl
  | t :: P, i + 1, j, h, hj => by
    have hl : (ptC t).length = 5 := rfl
    rw [List.flatMap_cons, List.getElem?_append_right (by omega), hl, show (i + 1) * 5 + j - 5 = i * 5 + j by omega, flat_get P i j (by simpa using h) hj]
    rfl
theorem RdP.part {w : World} {kp base : Nat} {s : ByteArray} {r : Rs} {pv ov : Value} (h : RdP w kp base s r pv ov) (hn : 0 < r.P.length) :
    ∃ gp pc, pv = .slice (some ⟨gp, 0, none⟩) r.P.length pc ∧ gp < w.heap.size ∧ ∀ i j u, i < r.P.length → j < 5 → (ptC (pOf r.P i))[j]? = some u → w.cell? ⟨gp, i * 5 + j, none⟩ = some u := by
  have hr := h.pr
  rcases h.pr.2 with ⟨_, h0⟩ | ⟨g, cap, cur, rfl, hb, hg, _⟩
  · omega
  · exact ⟨g, cap, rfl, (Array.getElem?_eq_some_iff.1 hg).1, fun i j u hi hj hu => owns_cell hr (by rw [flat_get _ _ _ hi hj]; exact hu)⟩
theorem RdP.openTop {w : World} {kp base la : Nat} {s : ByteArray} {z : Nat × Nat} {P : List Pt} {O1 : List Nat} {pv ov : Value} (h : RdP w kp base s ⟨z, P, O1 ++ [la]⟩ pv ov) :
    ∃ go oc, ov = .slice (some ⟨go, 0, none⟩) (O1.length + 1) oc ∧ O1.length + 1 ≤ oc ∧ oc ≤ maxLen ∧ w.cell? ⟨go, O1.length, none⟩ = some (.int .i64 (la : Int)) := by
  have hr := h.orow
  have hl : (O1 ++ [la]).length = O1.length + 1 := by simp
  simp only [] at hr
  rw [hl] at hr
  have hr0 := hr
  rcases hr.2 with ⟨_, h0⟩ | ⟨g, cap, cur, rfl, hb, hg, hn, hc, _⟩
  · omega
  · refine ⟨g, cap, rfl, hn, hc, owns_cell hr0 ?_⟩
    rw [List.map_append, List.getElem?_append_right (by simp)]
    simp [intC]
theorem Wk.popO {w0 w : World} {kp base pb go oc la : Nat} {s : ByteArray} {z : Nat × Nat} {P : List Pt} {O1 : List Nat} {pv : Value} {t : Pt} (h : Wk w0 w kp base pb s ⟨z, P, O1 ++ [la]⟩ pv (.slice (some ⟨go, 0, none⟩) (O1.length + 1) oc) t) :
    Wk w0 (w.setCell ⟨kp, 3, none⟩ (.slice (some ⟨go, 0, none⟩) O1.length oc)) kp base pb s ⟨z, P, O1⟩ pv (.slice (some ⟨go, 0, none⟩) O1.length oc) t := by
  have hF := (Fr.refl (OneB kp) w).setCell (p := ⟨kp, 3, none⟩) (fun _ => rfl) (.slice (some ⟨go, 0, none⟩) O1.length oc)
  have hr := h.rp.orow
  have hl : (O1 ++ [la]).length = O1.length + 1 := by simp
  simp only [] at hr
  rw [hl, List.map_append] at hr
  have hpop := ownsRow_pop (n := O1.length) (size := 1) (by simp) hr
  have hgb := owns_base h.rp.orow (g := go) rfl
  have hkb := h.rp.kb
  refine ⟨⟨h.rp.rd.set3 _, ?_, ?_, h.rp.kb, fun g hg e => h.rp.ne g hg e⟩, h.pt.fr hF (fun e => h.n1 e), h.fr.setCell (p := ⟨kp, 3, none⟩) (fun _ => .inl rfl) _, h.hb, h.hp, h.n1, h.n2, fun g hg => h.n3 g hg⟩
  · exact hF.owns h.rp.pr (fun g hg e => by have := owns_base h.rp.pr hg; unfold OneB at e; omega)
  · exact hF.owns hpop (fun g hg e => by
      have e2 : go = g := by simpa [Value.ownBlock] using hg
      unfold OneB at e
      omega)
end Go.Proofs.Ytdpkcniiljpdbaa
