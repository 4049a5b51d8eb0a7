/-
  The program's reader in memory: its lists, read.
-/
import Derived.Test.YtcmnejcojphijaaDevZ
namespace Go.Proofs.Ytcmnejcojphijaa
open Go.RowKit
set_option linter.unusedVariables false

/-- a cell of a row of the call's own is turned -/
theorem owns_set {w : World} {base : Nat} {e : TypeId} {size g n cap : Nat} {xs : List Value} (h : w.ownsRow base e size (.slice (some ⟨g, 0, none⟩) n cap) n xs) {k : Nat} (hk : k < n * size) (u : Value) : (w.setCell ⟨g, k, none⟩ u).ownsRow base e size (.slice (some ⟨g, 0, none⟩) n cap) n (xs.set k u) := by
  refine ⟨by rw [List.length_set]; exact h.1, .inr ?_⟩
  rcases h.2 with ⟨hv, _⟩ | ⟨g', cap', cur, hv, hb, hg, hn, hc, hs, ht⟩
  · cases hv
  · cases hv
    have hlt : g < w.heap.size := (Array.getElem?_eq_some_iff.1 hg).1
    have h' : w.heap[g] = .cells cur e (0, 0) := (Array.getElem?_eq_some_iff.1 hg).2
    have hks : k < cur.size := by rw [hs]; exact Nat.lt_of_lt_of_le hk (Nat.mul_le_mul_right _ hn)
    refine ⟨g, cap, cur.set k u hks, rfl, hb, ?_, hn, hc, by simpa using hs, ?_⟩
    · show (w.heap.modify g _)[g]? = _
      rw [Array.getElem?_eq_getElem (by simpa using hlt), Array.getElem_modify_self, h']
      simp [Array.setIfInBounds, hks]
    · rw [Array.toList_set, List.take_set, ht]
theorem RdP.part {w : World} {kp base : Nat} {s : ByteArray} {r : Rs} {pv ov : Value} {C : Nat → Nat} (h : RdP w kp base s r pv ov C) (hn : 0 < r.P.length) :
    ∃ gp pc, pv = .slice (some ⟨gp, 0, none⟩) r.P.length pc ∧ gp < w.heap.size ∧ (∀ o, w.frozen? ⟨gp, o, none⟩ = false) ∧ ∀ i j u, i < r.P.length → j < 12 → (ptC (pOf r.P i) (C i))[j]? = some u → w.cell? ⟨gp, i * 12 + j, none⟩ = some u := by
  have hr := h.pr
  rcases h.pr.2 with ⟨_, h0⟩ | ⟨g, cap, cur, rfl, hb, hg, _⟩
  · omega
  · exact ⟨g, cap, rfl, (Array.getElem?_eq_some_iff.1 hg).1, fun o => by simp [World.frozen?, hg], fun i j u hi hj hu => owns_cell hr (by rw [ptsC_get _ _ _ _ hi hj]; exact hu)⟩
theorem ptsC_set (P : List Pt) (C : Nat → Nat) {k : Nat} (hk : k < P.length) (m : Nat) : (ptsC P C).set (k * 12 + 11) (.int .i64 (m : Int)) = ptsC P (upN C k m) := by
  have hl : ∀ C, (ptsC P C).length = P.length * 12 := fun C => by
    unfold ptsC
    have : ∀ (L : List Nat), (L.flatMap (fun i => ptC (pOf P i) (C i))).length = L.length * 12 := fun L => by
      induction L with
      | nil => rfl
      | cons x L ih => rw [List.flatMap_cons, List.length_append, ih, ptC_len, List.length_cons]; omega
    rw [this]
    simp
  refine List.ext_getElem? fun q => ?_
  by_cases hq : q < P.length * 12
  · have e : q = q / 12 * 12 + q % 12 := by omega
    have h1 : q / 12 < P.length := by omega
    have h2 : q % 12 < 12 := by omega
    rw [e]
    generalize q / 12 = i at *
    generalize q % 12 = j at *
    rw [ptsC_get _ _ _ _ h1 h2]
    by_cases hik : i = k
    · subst hik
      rw [upN_at]
      by_cases hj : j = 11
      · subst hj
        rw [List.getElem?_set_self (by rw [hl]; omega)]
        rfl
      · rw [List.getElem?_set_ne (by omega), ptsC_get _ _ _ _ h1 h2]
        rcases j with _ | _ | _ | _ | _ | _ | _ | _ | _ | _ | _ | _ | j <;> first | rfl | omega
    · rw [upN_ne _ _ hik, List.getElem?_set_ne (by omega), ptsC_get _ _ _ _ h1 h2]
  · rw [List.getElem?_eq_none (by rw [List.length_set, hl]; omega), List.getElem?_eq_none (by rw [hl]; omega)]
theorem RdP.openTop {w : World} {kp base la : Nat} {s : ByteArray} {z : Nat × Nat} {P : List Pt} {O1 : List Nat} {pv ov : Value} {C : Nat → Nat} (h : RdP w kp base s ⟨z, P, O1 ++ [la]⟩ pv ov C) :
    ∃ go oc, ov = .slice (some ⟨go, 0, none⟩) (O1.length + 1) oc ∧ O1.length + 1 ≤ oc ∧ oc ≤ maxLen ∧ w.cell? ⟨go, O1.length, none⟩ = some (.int .i64 (la : Int)) := by
  have hr := h.orow
  have hl : (O1 ++ [la]).length = O1.length + 1 := by simp
  simp only [] at hr
  rw [hl] at hr
  have hr0 := hr
  rcases hr.2 with ⟨_, h0⟩ | ⟨g, cap, cur, rfl, hb, hg, hn, hc, _⟩
  · omega
  · refine ⟨g, cap, rfl, hn, hc, owns_cell hr0 ?_⟩
    rw [List.map_append, List.getElem?_append_right (by simp)]
    simp [intC]
theorem Wk.popO {w0 w : World} {kp base pb go oc la : Nat} {s : ByteArray} {z : Nat × Nat} {P : List Pt} {O1 : List Nat} {pv : Value} {C : Nat → Nat} {t : Pt} (h : Wk w0 w kp base pb s ⟨z, P, O1 ++ [la]⟩ pv (.slice (some ⟨go, 0, none⟩) (O1.length + 1) oc) C t) :
    Wk w0 (w.setCell ⟨kp, 3, none⟩ (.slice (some ⟨go, 0, none⟩) O1.length oc)) kp base pb s ⟨z, P, O1⟩ pv (.slice (some ⟨go, 0, none⟩) O1.length oc) C t := by
  have hF := (Fr.refl (OneB kp) w).setCell (p := ⟨kp, 3, none⟩) (fun _ => rfl) (.slice (some ⟨go, 0, none⟩) O1.length oc)
  have hr := h.rp.orow
  have hl : (O1 ++ [la]).length = O1.length + 1 := by simp
  simp only [] at hr
  rw [hl, List.map_append] at hr
  have hpop := ownsRow_pop (n := O1.length) (size := 1) (by simp) hr
  have hgb := owns_base h.rp.orow (g := go) rfl
  have hkb := h.rp.kb
  refine ⟨⟨h.rp.rd.set3 _, ?_, ?_, h.rp.kb, fun g hg e => h.rp.ne g hg e⟩, h.pt.fr hF (fun e => h.n1 e), h.fr.setCell (p := ⟨kp, 3, none⟩) (fun _ => .inl rfl) _, h.hb, h.hp, h.n1, h.n2, fun g hg => h.n3 g hg⟩
  · exact hF.owns h.rp.pr (fun g hg e => by have := owns_base h.rp.pr hg; unfold OneB at e; omega)
  · exact hF.owns hpop (fun g hg e => by
      have e2 : go = g := by simpa [Value.ownBlock] using hg
      unfold OneB at e
      omega)
/-- the part that closes a brace is noted -/
theorem Wk.setC {w0 w : World} {kp base pb gp pc la : Nat} {s : ByteArray} {r : Rs} {ov : Value} {C : Nat → Nat} {t : Pt} (h : Wk w0 w kp base pb s r (.slice (some ⟨gp, 0, none⟩) r.P.length pc) ov C t) (hla : la < r.P.length) (m : Nat) :
    Wk w0 (w.setCell ⟨gp, la * 12 + 11, none⟩ (.int .i64 (m : Int))) kp base pb s r (.slice (some ⟨gp, 0, none⟩) r.P.length pc) ov (upN C la m) t := by
  have hgb := owns_base h.rp.pr (g := gp) rfl
  have hkb := h.rp.kb
  have hF := (Fr.refl (OneB gp) w).setCell (p := ⟨gp, la * 12 + 11, none⟩) (fun _ => rfl) (.int .i64 (m : Int))
  have hps := owns_set h.rp.pr (k := la * 12 + 11) (by omega) (.int .i64 (m : Int))
  rw [ptsC_set _ _ hla] at hps
  refine ⟨⟨h.rp.rd.fr hF (fun e => by unfold OneB at e; omega), hps, hF.owns h.rp.orow (fun g hg e => h.rp.ne gp rfl (by unfold OneB at e; rw [← e]; exact hg)), h.rp.kb, h.rp.ne⟩, h.pt.fr hF (fun e => h.n2 gp rfl (by unfold OneB at e; omega)), h.fr.setCell (p := ⟨gp, la * 12 + 11, none⟩) (fun _ => .inr hgb.1) _, h.hb, h.hp, h.n1, h.n2, h.n3⟩
end Go.Proofs.Ytcmnejcojphijaa
