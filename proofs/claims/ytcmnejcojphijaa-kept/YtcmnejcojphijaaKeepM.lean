import Derived.Test.YtcmnejcojphijaaKeepG
namespace Go.Proofs.Ytcmnejcojphijaa
open Go.RowKit

theorem first_free (B : Nat → Int) (n k : Nat) : (∀ b, ¬ FreeAt B n k b) ∨ ∃ a, FreeAt B n k a ∧ ∀ b, FreeAt B n k b → a ≤ b := by
  have key : ∀ m, (∀ b, b < m → ¬ FreeAt B n k b) ∨ ∃ a, FreeAt B n k a ∧ ∀ b, FreeAt B n k b → a ≤ b := by
    intro m
    induction m with
    | zero => exact .inl (fun b hb => absurd hb (by omega))
    | succ m ih =>
      rcases ih with ih | ih
      · by_cases e : FreeAt B n k m
        · refine .inr ⟨m, e, fun b hb => ?_⟩
          by_cases g : m ≤ b
          · exact g
          · exact absurd hb (ih b (by omega))
        · exact .inl (none_step ih e)
      · exact .inr ih
  rcases key (n + 1) with h | h
  · refine .inl (fun b hb => ?_)
    exact h b (by have := hb.1; omega) hb
  · exact .inr h

theorem kgrows_any (w : World) (base p r n k : Nat) (B V : Nat → Int) (v : Value) (hs : List Held) (h : HeapAt w p r n B V) (hi : Inv n B V hs) (hm : Mem w base p r v hs V) (hb : base ≤ w.heap.size) (hk1 : 1 ≤ k) (hk2 : k ≤ 64) :
    Calls Try.prog 9 #[.pointer (some ⟨p, 0, none⟩), v, .int .i64 (k : Int), .int .i64 (n : Int)] w fun e w' => ∃ v' hs' B', e = .returned (.tuple #[v', .bool true]) ∧
      HeapAt w' p r n B' V ∧ Inv n B' V hs' ∧ Mem w' base p r v' hs' V ∧ Fr (GrowS r v) w w' := by
  rcases first_free B n k with h0 | ⟨a, h1, h2⟩
  · refine (kgrows_no w base p r n k B V v hs h hi hm hk1 hk2 h0).mono ?_
    rintro e w' ⟨rfl, hF⟩
    exact ⟨v, hs, B, rfl, h.no hF, hi, hm.no hF, hF.of_no⟩
  · refine (kgrows_yes w base p r n k a B V v hs h hi hm hb hk1 hk2 h1 h2).mono ?_
    rintro e w' ⟨v', wb, rfl, hH, hM, hF⟩
    exact ⟨v', _, _, rfl, hH, hi.alloc h1 hk1 hk2, hM, hF⟩

/-- the steps that came in -/
structure StepRow (w : World) (ao : Option Addr) (m : Nat) (F : Nat → Bool) (N A C : Nat → Int) : Prop where
  some_ : 0 < m → ∃ b off, ao = some ⟨b, off, none⟩
  c0 : ∀ b off i, i < m → ao = some ⟨b, off, none⟩ → w.cell? ⟨b, off + i * 4, none⟩ = some (.bool (F i))
  c1 : ∀ b off i, i < m → ao = some ⟨b, off, none⟩ → w.cell? ⟨b, off + i * 4 + 1, none⟩ = some (.int .i64 (N i))
  c2 : ∀ b off i, i < m → ao = some ⟨b, off, none⟩ → w.cell? ⟨b, off + i * 4 + 2, none⟩ = some (.int .i64 (A i))
  c3 : ∀ b off i, i < m → ao = some ⟨b, off, none⟩ → w.cell? ⟨b, off + i * 4 + 3, none⟩ = some (.int .i64 (C i))
  rN : ∀ i, i < m → -9223372036854775808 ≤ N i ∧ N i ≤ 9223372036854775807
  rA : ∀ i, i < m → -9223372036854775808 ≤ A i ∧ A i ≤ 9223372036854775807
  rC : ∀ i, i < m → -9223372036854775808 ≤ C i ∧ C i ≤ 9223372036854775807
  hm : m ≤ 9223372036854775807

theorem StepRow.fr {S : Nat → Prop} {w w' : World} {ao : Option Addr} {m : Nat} {F : Nat → Bool} {N A C : Nat → Int} (h : StepRow w ao m F N A C) (hf : Fr S w w') (hS : ∀ k, k < w.heap.size → ¬ S k) : StepRow w' ao m F N A C :=
  ⟨h.some_, fun b off i hi e => hf.cell_some (h.c0 b off i hi e) (hS _ (World.block_lt_of_cell? w _ (h.c0 b off i hi e))), fun b off i hi e => hf.cell_some (h.c1 b off i hi e) (hS _ (World.block_lt_of_cell? w _ (h.c1 b off i hi e))),
    fun b off i hi e => hf.cell_some (h.c2 b off i hi e) (hS _ (World.block_lt_of_cell? w _ (h.c2 b off i hi e))), fun b off i hi e => hf.cell_some (h.c3 b off i hi e) (hS _ (World.block_lt_of_cell? w _ (h.c3 b off i hi e))), h.rN, h.rA, h.rC, h.hm⟩

/-- the state of the law between two steps -/
structure St (w0 w : World) (p r n : Nat) (v : Value) (hs : List Held) (B V : Nat → Int) : Prop where
  heap : HeapAt w p r n B V
  inv : Inv n B V hs
  mem : Mem w w0.heap.size p r v hs V
  fr : Fr NoB w0 w
  pl : w0.heap.size ≤ p
  rl : w0.heap.size ≤ r

theorem St.no {w0 w w' : World} {p r n : Nat} {v : Value} {hs : List Held} {B V : Nat → Int} (h : St w0 w p r n v hs B V) (hf : Fr NoB w w') : St w0 w' p r n v hs B V :=
  ⟨h.heap.no hf, h.inv, h.mem.no hf, h.fr.trans hf, h.pl, h.rl⟩

/-- one block ends -/
theorem St.free {w0 w w1 w2 : World} {p r n : Nat} {v v' : Value} {hs : List Held} {B V : Nat → Int} (h : St w0 w p r n v hs B V) {j z : Nat} (hj : j < hs.length)
    (hz1 : hs[j].at_ < z) (hz2 : z ≤ n) (hall : ∀ i, hs[j].at_ ≤ i → i < z → B i = (hs[j].at_ : Int) + 1) (hstop : z = n ∨ B z ≠ (hs[j].at_ : Int) + 1)
    (hH : HeapAt w1 p r n (clearTo B hs[j].at_ z) (clearTo V hs[j].at_ z)) (hF1 : Fr (OneB r) w w1)
    (hown : w2.ownsRow w1.heap.size 34 3 v' (hs.eraseIdx j).length (heldCells (hs.eraseIdx j))) (hF2 : Fr NoB w1 w2) :
    ∃ B' V', St w0 w2 p r n v' (hs.eraseIdx j) B' V' := by
  have hz := h.inv.end_ hj hz1 hz2 hall hstop
  subst hz
  have hsub := List.eraseIdx_sublist hs j
  have hM := (h.mem.fr_r hF1).no hF2
  have hlt := hown.lt
  have hs1 := hF1.size
  have hs0 := h.fr.size
  refine ⟨_, _, hH.no hF2, h.inv.free hj, ⟨owns_mono hown (by omega), fun x hx i hi => ?_, fun x hx => hM.frz x (hsub.subset hx), fun x hx => hM.lo x (hsub.subset hx), fun x hx => ?_, hM.dist.sublist hsub, ?_, ?_⟩, ?_, h.pl, h.rl⟩
  · have e : clearTo V hs[j].at_ (hs[j].at_ + hs[j].n) (x.at_ + i) = V (x.at_ + i) := by
      unfold clearTo
      obtain ⟨q, hq, hqj, hxe⟩ := List.mem_eraseIdx_iff_getElem.1 hx
      have ha := h.inv.apart hq hj hqj
      rw [hxe] at ha
      rw [if_neg (by omega)]
    rw [e]
    exact hM.cell x (hsub.subset hx) i hi
  · refine ⟨(hM.ne x (hsub.subset hx)).1, (hM.ne x (hsub.subset hx)).2.1, fun e => ?_⟩
    have h1 := (hlt _ e).1
    have h2 := (h.mem.lo x (hsub.subset hx)).2
    omega
  · intro e; have h1 := (hlt _ e).1; have := h.heap.pl; omega
  · intro e; have h1 := (hlt _ e).1; have := h.heap.rl; omega
  · exact (h.fr.then hF1 (fun q hq e => by have := h.rl; have e' : q = r := e; omega)).trans hF2

/-- a word is written: into the list's words first, then into the heap -/
theorem St.write {w0 w w1 w2 : World} {p r n : Nat} {v : Value} {hs : List Held} {B V : Nat → Int} (h : St w0 w p r n v hs B V) {j i : Nat} (hj : j < hs.length) (hi : i < hs[j].n) (u : Int)
    (hF1 : Fr NoB (w.setCell ⟨hs[j].wb, i, none⟩ (.int .i64 u)) w1) (hH : HeapAt w2 p r n B (upd V (hs[j].at_ + i) u)) (hF2 : Fr (OneB r) w1 w2) : St w0 w2 p r n v hs B (upd V (hs[j].at_ + i) u) := by
  have hm := List.getElem_mem hj
  have hp := h.inv.pos _ hm
  have hb : B (hs[j].at_ + i) ≠ 0 := by rw [h.inv.own _ hm _ (by omega) (by omega)]; omega
  have hset : Fr (OneB hs[j].wb) w (w.setCell ⟨hs[j].wb, i, none⟩ (.int .i64 u)) := (Fr.refl (OneB hs[j].wb) w).setCell (p := ⟨hs[j].wb, i, none⟩) (fun _ => rfl) _
  have hne := h.mem.ne _ hm
  have hFF : Fr (fun q => q = hs[j].wb ∨ q = r) w w2 := ((hset.mono (T := fun q => q = hs[j].wb ∨ q = r) (fun q _ e => .inl e)).then hF1 (fun q _ e => e.elim)).then hF2 (fun q _ e => .inr e)
  have hvr : ∀ g, v.ownBlock = some g → ¬ (g = hs[j].wb ∨ g = r) := fun g hg e => by
    rcases e with e | e
    · subst e; exact hne.2.2 hg
    · subst e; exact h.mem.vr hg
  refine ⟨hH, h.inv.store hb u, ⟨hFF.owns h.mem.row hvr, fun x hx q hq => ?_, fun x hx q => ?_, fun x hx => ⟨(h.mem.lo x hx).1, Nat.lt_of_lt_of_le (h.mem.lo x hx).2 hFF.size⟩, h.mem.ne, h.mem.dist, h.mem.vp, h.mem.vr⟩, ?_, h.pl, h.rl⟩
  · obtain ⟨y, hy, hxy⟩ := List.getElem_of_mem hx
    by_cases e : y = j
    · subst e
      subst hxy
      have hc := h.mem.cell _ hm q hq
      have h1 : (w.setCell ⟨hs[y].wb, i, none⟩ (.int .i64 u)).cell? ⟨hs[y].wb, q, none⟩ = some (.int .i64 (upd V (hs[y].at_ + i) u (hs[y].at_ + q))) := by
        by_cases e2 : q = i
        · subst e2; rw [upd_at]; exact cell_same hc
        · rw [upd_ne _ _ (by omega)]; exact (cell_other (.inr (by omega))).trans hc
      exact hF2.cell_some (hF1.cell_some h1 id) (fun e => hne.2.1 e)
    · have ha := h.inv.apart hy hj e
      rw [hxy] at ha
      have hwb : x.wb ≠ hs[j].wb := by
        have hp := List.pairwise_iff_getElem.1 h.mem.dist
        rw [← hxy]
        by_cases e2 : y < j
        · exact hp y j hy hj e2
        · exact (hp j y hj hy (by omega)).symm
      rw [upd_ne _ _ (by omega)]
      exact hFF.cell_some (h.mem.cell x hx q hq) (fun e => e.elim (fun e => hwb e) (fun e => (h.mem.ne x hx).2.1 e))
  · have hl := (h.mem.lo x hx).2
    rw [hF2.frozen (p := ⟨x.wb, q, none⟩) (by have := hF1.size; simp [World.setCell] at this; show x.wb < _; omega) (fun e => (h.mem.ne x hx).2.1 e),
      hF1.frozen (p := ⟨x.wb, q, none⟩) (by simpa [World.setCell] using hl) id, World.frozen?_setCell]
    exact h.mem.frz x hx q
  · refine h.fr.then hFF (fun q hq e => ?_)
    have hl := (h.mem.lo _ hm).1
    have hrl := h.rl
    rcases e with e | e <;> omega

theorem St.grow {w0 w w2 : World} {p r n : Nat} {v v' : Value} {hs hs' : List Held} {B B' V : Nat → Int} (h : St w0 w p r n v hs B V) (hH : HeapAt w2 p r n B' V) (hi : Inv n B' V hs') (hm : Mem w2 w0.heap.size p r v' hs' V) (hF : Fr (GrowS r v) w w2) : St w0 w2 p r n v' hs' B' V :=
  ⟨hH, hi, hm, h.fr.then hF (fun q hq e => by
    rcases e with e | e
    · have := h.rl; omega
    · have := (h.mem.row.lt q e).1; omega), h.pl, h.rl⟩
end Go.Proofs.Ytcmnejcojphijaa
