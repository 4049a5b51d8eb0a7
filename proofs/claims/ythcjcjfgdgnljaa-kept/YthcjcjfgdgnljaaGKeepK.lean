/-
  KeepM, KeepN, KeepK: one behind the other.
-/
import Derived.Test.YthcjcjfgdgnljaaGKeepG
import Derived.Deep.RegionWith
import Derived.Deep.DeepCutAuto
namespace Go.Proofs.Ythcjcjfgdgnljaa
open Go.RowKit

theorem first_free (B : Nat → Int) (n k : Nat) : (∀ b, ¬ FreeAt B n k b) ∨ ∃ a, FreeAt B n k a ∧ ∀ b, FreeAt B n k b → a ≤ b := by
  have key : ∀ m, (∀ b, b < m → ¬ FreeAt B n k b) ∨ ∃ a, FreeAt B n k a ∧ ∀ b, FreeAt B n k b → a ≤ b := by
    intro m
    induction m with
    | zero => exact .inl (fun b hb => absurd hb (by omega))
    | succ m ih =>
      rcases ih with ih | ih
      · by_cases e : FreeAt B n k m
        · refine .inr ⟨m, e, fun b hb => ?_⟩
          by_cases g : m ≤ b
          · exact g
          · exact absurd hb (ih b (by omega))
        · exact .inl (none_step ih e)
      · exact .inr ih
  rcases key (n + 1) with h | h
  · refine .inl (fun b hb => ?_)
    exact h b (by have := hb.1; omega) hb
  · exact .inr h

theorem kgrows_any (w : World) (base p r n k : Nat) (B V : Nat → Int) (v : Value) (hs : List Held) (h : HeapAt w p r n B V) (hi : Inv n B V hs) (hm : Mem w base p r v hs V) (hb : base ≤ w.heap.size) (hk1 : 1 ≤ k) (hk2 : k ≤ 64) :
    Calls Try.prog 10 #[.pointer (some ⟨p, 0, none⟩), v, .int .i64 (k : Int), .int .i64 (n : Int)] w fun e w' => ∃ v' hs' B', e = .returned (.tuple #[v', .bool true]) ∧
      HeapAt w' p r n B' V ∧ Inv n B' V hs' ∧ Mem w' base p r v' hs' V ∧ Fr (GrowS r v) w w' := by
  rcases first_free B n k with h0 | ⟨a, h1, h2⟩
  · refine (kgrows_no w base p r n k B V v hs h hi hm hk1 hk2 h0).mono ?_
    rintro e w' ⟨rfl, hF⟩
    exact ⟨v, hs, B, rfl, h.no hF, hi, hm.no hF, hF.of_no⟩
  · refine (kgrows_yes w base p r n k a B V v hs h hi hm hb hk1 hk2 h1 h2).mono ?_
    rintro e w' ⟨v', wb, rfl, hH, hM, hF⟩
    exact ⟨v', _, _, rfl, hH, hi.alloc h1 hk1 hk2, hM, hF⟩

/-- the steps that came in -/
structure StepRow (w : World) (ao : Option Addr) (m : Nat) (F : Nat → Bool) (N A C : Nat → Int) : Prop where
  some_ : 0 < m → ∃ b off, ao = some ⟨b, off, none⟩
  c0 : ∀ b off i, i < m → ao = some ⟨b, off, none⟩ → w.cell? ⟨b, off + i * 4, none⟩ = some (.bool (F i))
  c1 : ∀ b off i, i < m → ao = some ⟨b, off, none⟩ → w.cell? ⟨b, off + i * 4 + 1, none⟩ = some (.int .i64 (N i))
  c2 : ∀ b off i, i < m → ao = some ⟨b, off, none⟩ → w.cell? ⟨b, off + i * 4 + 2, none⟩ = some (.int .i64 (A i))
  c3 : ∀ b off i, i < m → ao = some ⟨b, off, none⟩ → w.cell? ⟨b, off + i * 4 + 3, none⟩ = some (.int .i64 (C i))
  rN : ∀ i, i < m → -9223372036854775808 ≤ N i ∧ N i ≤ 9223372036854775807
  rA : ∀ i, i < m → -9223372036854775808 ≤ A i ∧ A i ≤ 9223372036854775807
  rC : ∀ i, i < m → -9223372036854775808 ≤ C i ∧ C i ≤ 9223372036854775807
  hm : m ≤ 9223372036854775807

theorem StepRow.fr {S : Nat → Prop} {w w' : World} {ao : Option Addr} {m : Nat} {F : Nat → Bool} {N A C : Nat → Int} (h : StepRow w ao m F N A C) (hf : Fr S w w') (hS : ∀ k, k < w.heap.size → ¬ S k) : StepRow w' ao m F N A C :=
  ⟨h.some_, fun b off i hi e => hf.cell_some (h.c0 b off i hi e) (hS _ (World.block_lt_of_cell? w _ (h.c0 b off i hi e))), fun b off i hi e => hf.cell_some (h.c1 b off i hi e) (hS _ (World.block_lt_of_cell? w _ (h.c1 b off i hi e))),
    fun b off i hi e => hf.cell_some (h.c2 b off i hi e) (hS _ (World.block_lt_of_cell? w _ (h.c2 b off i hi e))), fun b off i hi e => hf.cell_some (h.c3 b off i hi e) (hS _ (World.block_lt_of_cell? w _ (h.c3 b off i hi e))), h.rN, h.rA, h.rC, h.hm⟩

/-- the state of the law between two steps -/
structure St (w0 w : World) (p r n : Nat) (v : Value) (hs : List Held) (B V : Nat → Int) : Prop where
  heap : HeapAt w p r n B V
  inv : Inv n B V hs
  mem : Mem w w0.heap.size p r v hs V
  fr : Fr NoB w0 w
  pl : w0.heap.size ≤ p
  rl : w0.heap.size ≤ r

theorem St.no {w0 w w' : World} {p r n : Nat} {v : Value} {hs : List Held} {B V : Nat → Int} (h : St w0 w p r n v hs B V) (hf : Fr NoB w w') : St w0 w' p r n v hs B V :=
  ⟨h.heap.no hf, h.inv, h.mem.no hf, h.fr.trans hf, h.pl, h.rl⟩

/-- one block ends -/
theorem St.free {w0 w w1 w2 : World} {p r n : Nat} {v v' : Value} {hs : List Held} {B V : Nat → Int} (h : St w0 w p r n v hs B V) {j z : Nat} (hj : j < hs.length)
    (hz1 : hs[j].at_ < z) (hz2 : z ≤ n) (hall : ∀ i, hs[j].at_ ≤ i → i < z → B i = (hs[j].at_ : Int) + 1) (hstop : z = n ∨ B z ≠ (hs[j].at_ : Int) + 1)
    (hH : HeapAt w1 p r n (clearTo B hs[j].at_ z) (clearTo V hs[j].at_ z)) (hF1 : Fr (OneB r) w w1)
    (hown : w2.ownsRow w1.heap.size 34 3 v' (hs.eraseIdx j).length (heldCells (hs.eraseIdx j))) (hF2 : Fr NoB w1 w2) :
    ∃ B' V', St w0 w2 p r n v' (hs.eraseIdx j) B' V' := by
  have hz := h.inv.end_ hj hz1 hz2 hall hstop
  subst hz
  have hsub := List.eraseIdx_sublist hs j
  have hM := (h.mem.fr_r hF1).no hF2
  have hlt := hown.lt
  have hs1 := hF1.size
  have hs0 := h.fr.size
  refine ⟨_, _, hH.no hF2, h.inv.free hj, ⟨owns_mono hown (by omega), fun x hx i hi => ?_, fun x hx => hM.frz x (hsub.subset hx), fun x hx => hM.lo x (hsub.subset hx), fun x hx => ?_, hM.dist.sublist hsub, ?_, ?_⟩, ?_, h.pl, h.rl⟩
  · have e : clearTo V hs[j].at_ (hs[j].at_ + hs[j].n) (x.at_ + i) = V (x.at_ + i) := by
      unfold clearTo
      obtain ⟨q, hq, hqj, hxe⟩ := List.mem_eraseIdx_iff_getElem.1 hx
      have ha := h.inv.apart hq hj hqj
      rw [hxe] at ha
      rw [if_neg (by omega)]
    rw [e]
    exact hM.cell x (hsub.subset hx) i hi
  · refine ⟨(hM.ne x (hsub.subset hx)).1, (hM.ne x (hsub.subset hx)).2.1, fun e => ?_⟩
    have h1 := (hlt _ e).1
    have h2 := (h.mem.lo x (hsub.subset hx)).2
    omega
  · intro e; have h1 := (hlt _ e).1; have := h.heap.pl; omega
  · intro e; have h1 := (hlt _ e).1; have := h.heap.rl; omega
  · exact (h.fr.then hF1 (fun q hq e => by have := h.rl; have e' : q = r := e; omega)).trans hF2

/-- a word is written: into the list's words first, then into the heap -/
theorem St.write {w0 w w1 w2 : World} {p r n : Nat} {v : Value} {hs : List Held} {B V : Nat → Int} (h : St w0 w p r n v hs B V) {j i : Nat} (hj : j < hs.length) (hi : i < hs[j].n) (u : Int)
    (hF1 : Fr NoB (w.setCell ⟨hs[j].wb, i, none⟩ (.int .i64 u)) w1) (hH : HeapAt w2 p r n B (upd V (hs[j].at_ + i) u)) (hF2 : Fr (OneB r) w1 w2) : St w0 w2 p r n v hs B (upd V (hs[j].at_ + i) u) := by
  have hm := List.getElem_mem hj
  have hp := h.inv.pos _ hm
  have hb : B (hs[j].at_ + i) ≠ 0 := by rw [h.inv.own _ hm _ (by omega) (by omega)]; omega
  have hset : Fr (OneB hs[j].wb) w (w.setCell ⟨hs[j].wb, i, none⟩ (.int .i64 u)) := (Fr.refl (OneB hs[j].wb) w).setCell (p := ⟨hs[j].wb, i, none⟩) (fun _ => rfl) _
  have hne := h.mem.ne _ hm
  have hFF : Fr (fun q => q = hs[j].wb ∨ q = r) w w2 := ((hset.mono (T := fun q => q = hs[j].wb ∨ q = r) (fun q _ e => .inl e)).then hF1 (fun q _ e => e.elim)).then hF2 (fun q _ e => .inr e)
  have hvr : ∀ g, v.ownBlock = some g → ¬ (g = hs[j].wb ∨ g = r) := fun g hg e => by
    rcases e with e | e
    · subst e; exact hne.2.2 hg
    · subst e; exact h.mem.vr hg
  refine ⟨hH, h.inv.store hb u, ⟨hFF.owns h.mem.row hvr, fun x hx q hq => ?_, fun x hx q => ?_, fun x hx => ⟨(h.mem.lo x hx).1, Nat.lt_of_lt_of_le (h.mem.lo x hx).2 hFF.size⟩, h.mem.ne, h.mem.dist, h.mem.vp, h.mem.vr⟩, ?_, h.pl, h.rl⟩
  · obtain ⟨y, hy, hxy⟩ := List.getElem_of_mem hx
    by_cases e : y = j
    · subst e
      subst hxy
      have hc := h.mem.cell _ hm q hq
      have h1 : (w.setCell ⟨hs[y].wb, i, none⟩ (.int .i64 u)).cell? ⟨hs[y].wb, q, none⟩ = some (.int .i64 (upd V (hs[y].at_ + i) u (hs[y].at_ + q))) := by
        by_cases e2 : q = i
        · subst e2; rw [upd_at]; exact cell_same hc
        · rw [upd_ne _ _ (by omega)]; exact (cell_other (.inr (by omega))).trans hc
      exact hF2.cell_some (hF1.cell_some h1 id) (fun e => hne.2.1 e)
    · have ha := h.inv.apart hy hj e
      rw [hxy] at ha
      have hwb : x.wb ≠ hs[j].wb := by
        have hp := List.pairwise_iff_getElem.1 h.mem.dist
        rw [← hxy]
        by_cases e2 : y < j
        · exact hp y j hy hj e2
        · exact (hp j y hj hy (by omega)).symm
      rw [upd_ne _ _ (by omega)]
      exact hFF.cell_some (h.mem.cell x hx q hq) (fun e => e.elim (fun e => hwb e) (fun e => (h.mem.ne x hx).2.1 e))
  · have hl := (h.mem.lo x hx).2
    rw [hF2.frozen (p := ⟨x.wb, q, none⟩) (by have := hF1.size; simp [World.setCell] at this; show x.wb < _; omega) (fun e => (h.mem.ne x hx).2.1 e),
      hF1.frozen (p := ⟨x.wb, q, none⟩) (by simpa [World.setCell] using hl) id, World.frozen?_setCell]
    exact h.mem.frz x hx q
  · refine h.fr.then hFF (fun q hq e => ?_)
    have hl := (h.mem.lo _ hm).1
    have hrl := h.rl
    rcases e with e | e <;> omega

theorem St.grow {w0 w w2 : World} {p r n : Nat} {v v' : Value} {hs hs' : List Held} {B B' V : Nat → Int} (h : St w0 w p r n v hs B V) (hH : HeapAt w2 p r n B' V) (hi : Inv n B' V hs') (hm : Mem w2 w0.heap.size p r v' hs' V) (hF : Fr (GrowS r v) w w2) : St w0 w2 p r n v' hs' B' V :=
  ⟨hH, hi, hm, h.fr.then hF (fun q hq e => by
    rcases e with e | e
    · have := h.rl; omega
    · have := (h.mem.row.lt q e).1; omega), h.pl, h.rl⟩
end Go.Proofs.Ythcjcjfgdgnljaa

namespace Go.Proofs.Ythcjcjfgdgnljaa
open Go.RowKit

theorem spanCells_at (L : List (Nat × Nat)) (i : Nat) (hi : i < L.length) : (spanCells L)[i * 2]? = some (.int .i64 ((L.getD i (0, 0)).1 : Int)) ∧ (spanCells L)[i * 2 + 1]? = some (.int .i64 ((L.getD i (0, 0)).2 : Int)) := by
  induction L generalizing i with
  | nil => simp at hi
  | cons s t ih =>
    have e : spanCells (s :: t) = [.int .i64 (s.1 : Int), .int .i64 (s.2 : Int)] ++ spanCells t := by simp [spanCells]
    rw [e]
    cases i with
    | zero => simp
    | succ i =>
      have := ih i (by simpa using hi)
      have e1 : (i + 1) * 2 = i * 2 + 2 := by omega
      rw [e1]
      simpa [List.getElem?_cons] using this

theorem spanRow_of {w : World} {base : Nat} {v : Value} {L : List (Nat × Nat)} (h : w.ownsRow base 48 2 v L.length (spanCells L)) :
    ∃ ao cap, v = .slice ao L.length cap ∧ SpanRow w ao L.length (fun i => (L.getD i (0, 0)).1) (fun i => (L.getD i (0, 0)).2) := by
  rcases h.2 with ⟨rfl, hl⟩ | ⟨g, cap, cur, rfl, _, _, _, _, _, _⟩
  · rw [hl]
    exact ⟨none, 0, rfl, ⟨fun h => absurd h (by omega), fun _ i hi => absurd hi (by omega), fun _ i hi => absurd hi (by omega)⟩⟩
  · have hc := h.cells (g := g) rfl
    have hadd : ∀ j, (⟨g, 0, none⟩ : Addr).add j = ⟨g, j, none⟩ := fun j => by unfold Addr.add; split <;> simp_all
    refine ⟨some ⟨g, 0, none⟩, cap, rfl, ⟨fun _ => ⟨g, rfl⟩, ?_, ?_⟩⟩
    · intro g' i hi e; cases e; rw [← hadd]; exact hc _ _ (spanCells_at L i hi).1
    · intro g' i hi e; cases e; rw [← hadd]; exact hc _ _ (spanCells_at L i hi).2

/-- one more of the rest ends -/
theorem rest_step {n q : Nat} {B V : Nat → Int} {hs : List Held} (hi : Inv n B V (hs.drop q)) (hq : q < hs.length) :
    hs[q].at_ < n ∧ B hs[q].at_ = (hs[q].at_ : Int) + 1 ∧ ∀ z, hs[q].at_ < z → z ≤ n → (∀ i, hs[q].at_ ≤ i → i < z → B i = (hs[q].at_ : Int) + 1) → (z = n ∨ B z ≠ (hs[q].at_ : Int) + 1) →
      Inv n (clearTo B hs[q].at_ z) (clearTo V hs[q].at_ z) (hs.drop (q + 1)) := by
  have hd : hs.drop q = hs[q] :: hs.drop (q + 1) := List.drop_eq_getElem_cons hq
  have hm : hs[q] ∈ hs.drop q := by rw [hd]; exact List.mem_cons_self
  have hp := hi.pos _ hm
  refine ⟨by omega, hi.own _ hm _ (Nat.le_refl _) (by omega), fun z h1 h2 h3 h4 => ?_⟩
  have hl : 0 < (hs.drop q).length := by rw [List.length_drop]; omega
  have h0 : (hs.drop q)[0] = hs[q] := by simp
  have hz := hi.end_ hl (z := z) (by rw [h0]; exact h1) h2 (by rw [h0]; exact h3) (by rw [h0]; exact h4)
  have hf := hi.free hl
  have he : (hs.drop q).eraseIdx 0 = hs.drop (q + 1) := by simp
  rw [he, h0] at hf
  rw [h0] at hz
  rw [hz]
  exact hf
theorem rest_end {n : Nat} {B V : Nat → Int} (hi : Inv n B V []) : ∀ i, i < n → B i = 0 := fun i h => by
  by_cases e : B i = 0
  · exact e
  · obtain ⟨x, hx, _⟩ := hi.cov i h e
    simp at hx
end Go.Proofs.Ythcjcjfgdgnljaa

namespace Go.Proofs.Ythcjcjfgdgnljaa
open Go.RowKit

set_option maxRecDepth 20000 in
set_option maxHeartbeats 2000000 in
theorem kept_any (w : World) (c : Int) (ao : Option Addr) (m cap : Nat) (F : Nat → Bool) (N A C : Nat → Int) (h : StepRow w ao m F N A C) (hc1 : -9223372036854775808 ≤ c) (hc2 : c ≤ 9223372036854775807) :
    Calls Try.prog 3 #[.int .i64 c, .slice ao m cap] w fun e w' => e = .returned (.bool true) ∧ Fr NoB w w' := by
  have hm := h.hm
  go_enter Try.func3, Try.ntmps3
  go_wp2_with fail
  refine (kpick_any _ c 4096 (by omega) (by omega) hc1 hc2).mono ?_
  rintro e w1 ⟨j, hj, rfl, hw1⟩
  have hw1' := hw1.symm
  clear hw1
  subst hw1'
  go_wp2_with fail
  rw [show (1 : Int) + (j : Int) = ((j + 1 : Nat) : Int) from by omega]
  obtain ⟨n, hn⟩ : ∃ n, n = j + 1 := ⟨_, rfl⟩
  rw [← hn]
  have hn1 : 1 ≤ n := by omega
  have hn2 : n ≤ 4096 := by omega
  clear hn
  refine (new_yes _ n hn1 hn2).mono ?_
  rintro e w1 ⟨p, r, rfl, hF1, hp, hr, hH⟩
  have hSt : St w w1 p r n (.slice none 0 0) [] (fun _ => 0) (fun _ => 0) :=
    ⟨hH, Inv.start n, ⟨World.ownsRow_nil _ _ _ _, fun _ hx => absurd hx (by simp), fun _ hx => absurd hx (by simp), fun _ hx => absurd hx (by simp), fun _ hx => absurd hx (by simp), List.Pairwise.nil, by simp [Value.ownBlock], by simp [Value.ownBlock]⟩, hF1, hp, hr⟩
  clear hF1 hp hr hH
  go_wp2_with fail
  go_loopw [8, 9] (fun t u wr => ∃ (i : Nat) (hs : List Held) (B V : Nat → Int), i ≤ m ∧ u = .int .i64 i ∧ St w wr p r n t hs B V) (fun _ u _ => m - (intOf u).toNat)
  case atStart => exact ⟨0, [], _, _, Nat.zero_le _, rfl, hSt⟩
  case round =>
    obtain ⟨i, hs, B, V, hi, rfl, hS⟩ := hrel
    clear hSt
    have hlen := hS.inv.len
    obtain ⟨ls, cap2, rfl, hrow, hls⟩ := hS.mem.heldRow hS.inv hn2
    have Hls : Hid (∀ g, ls = some ⟨g, 0, none⟩ → (Value.slice ls hs.length cap2).ownBlock = some g) := hls
    clear hls
    by_cases hlt : i < m
    · obtain ⟨b, off, rfl⟩ := h.some_ (by omega)
      have hstep := h.fr hS.fr (fun _ _ e => e)
      have s0 := hstep.c0 b off i hlt rfl
      have s1 := hstep.c1 b off i hlt rfl
      have s2 := hstep.c2 b off i hlt rfl
      have s3 := hstep.c3 b off i hlt rfl
      have rN := h.rN i hlt
      have rA := h.rA i hlt
      have rC := h.rC i hlt
      clear hstep
      by_cases hfree : F i = true ∧ 0 < hs.length
      · obtain ⟨hf1, hf2⟩ := hfree
        rw [hf1] at s0
        clear hf1
        go_wp2_with fail
        refine (kpick_any _ (N i) hs.length (by omega) (by omega) rN.1 rN.2).mono ?_
        rintro e w2 ⟨q, hq, rfl, hw2⟩
        have hF2 : Fr NoB wr w2 := by rw [hw2]; exact (Fr.refl _ _).alloc _
        have hS2 := hS.no hF2
        have hrow2 := hrow.no hF2
        clear hw2 hF2 hS hrow s0 s1 s2 s3
        obtain ⟨g, rfl⟩ := hrow2.some_ (by omega)
        have hcell := hrow2.c0 g q hq rfl
        have hx : hs.getD q heldZ = hs[q] := by simp [hq]
        simp only [hx] at hcell
        have hbk := hS2.inv.own _ (List.getElem_mem hq) hs[q].at_ (Nat.le_refl _) (by have := hS2.inv.pos _ (List.getElem_mem hq); omega)
        have hbn : hs[q].at_ < n := by have := hS2.inv.pos _ (List.getElem_mem hq); omega
        have Hbk : Hid (B hs[q].at_ = (hs[q].at_ : Int) + 1) := hbk
        clear hbk hx
        go_wp2_with fail
        refine (sfree_yes _ p r n B V hs[q].at_ hS2.heap hbn Hbk.out).mono ?_
        rintro e w3 ⟨rfl, z, hz1, hz2, hz3, hz4, hH3, hF3⟩
        have hM3 := hS2.mem.fr_r hF3
        obtain ⟨ls', cap', hlv, hrow3, _⟩ := hM3.heldRow hS2.inv hn2
        injection hlv with e1 e2 e3
        subst e1
        subst e3
        have HZ : Hid ((∀ i, hs[q].at_ ≤ i → i < z → B i = (hs[q].at_ : Int) + 1) ∧ (z = n ∨ B z ≠ (hs[q].at_ : Int) + 1)) := ⟨hz3, hz4⟩
        clear hz3 hz4 e2 hcell
        go_wp2_with fail
        refine (kwithout_any _ _ cap2 q hs hrow3).mono ?_
        rintro e w4 ⟨v', rfl, hown, hF4⟩
        have HE : Hid (∃ B' V', St w w4 p r n v' (hs.eraseIdx q) B' V') := hS2.free hq hz1 hz2 HZ.out.1 HZ.out.2 hH3 hF3 hown hF4
        clear hown hF4 hF3 hH3 hM3 hrow3 hS2 hrow2
        go_wp2
        go_roundw
        case rel =>
          obtain ⟨B', V', hS'⟩ := HE.out
          exact ⟨i + 1, _, B', V', by omega, by go_num, hS'⟩
        case measure => simp [intOf]; omega
      · obtain ⟨f, hf⟩ : ∃ f, f = F i := ⟨_, rfl⟩
        rw [← hf] at s0 hfree
        have Hfree : Hid (¬ (f = true ∧ 0 < hs.length)) := hfree
        clear hfree hf
        have hz0 := hS.fr.size
        have hpw := hS.heap.pl
        have hrw := hS.heap.rl
        have Hvw : Hid (∀ g, (Value.slice ls hs.length cap2).ownBlock = some g → g < wr.heap.size) := fun g hg => (hS.mem.row.lt g hg).2
        clear hrow
        go_upto_region 10 with fail
        go_cut [54] (fun s wx => s = .bool false ∧ Fr NoB wr wx ∧ wx.cell? ⟨wr.heap.size, 1, none⟩ = some (.int .i64 (N i)) ∧ wx.cell? ⟨wr.heap.size, 2, none⟩ = some (.int .i64 (A i)) ∧ wx.cell? ⟨wr.heap.size, 3, none⟩ = some (.int .i64 (C i)))
        case first =>
          cases f
          · go_wp2_with fail
            go_meet
            case rel => exact ⟨rfl, (Fr.refl _ _).alloc _, by simp, by simp, by simp⟩
          · have hz : ¬ 0 < hs.length := fun h => Hfree.out ⟨rfl, h⟩
            go_wp2_with fail
            go_meet
            case rel => exact ⟨rfl, (Fr.refl _ _).alloc _, by simp, by simp, by simp⟩
        case rest =>
          obtain ⟨rfl, hF2, o1, o2, o3⟩ := hcut
          have hS2 := hS.no hF2
          clear hF2 hS s0 s1 s2 s3 Hfree
          go_wp2_with fail
          refine (kpick_any _ (N i) 64 (by omega) (by omega) rN.1 rN.2).mono ?_
          rintro e w2 ⟨q, hq, rfl, hw2⟩
          have hw2' := hw2.symm
          clear hw2
          subst hw2'
          go_wp2_with fail
          rw [show (1 : Int) + (q : Int) = ((q + 1 : Nat) : Int) from by omega]
          refine (kgrows_any _ w.heap.size p r n (q + 1) B V _ hs hS2.heap hS2.inv hS2.mem (by have := hS2.fr.size; omega) (by omega) (by omega)).mono ?_
          rintro e w3 ⟨v', hs', B', rfl, hH3, hI3, hM3, hF3⟩
          have hS3 := hS2.grow hH3 hI3 hM3 hF3
          have hnb : ¬ GrowS r (Value.slice ls hs.length cap2) wr.heap.size := fun e => by
            rcases e with e | e
            · omega
            · exact absurd (Hvw.out _ e) (Nat.lt_irrefl _)
          have o2' := hF3.cell_some o2 hnb
          have o3' := hF3.cell_some o3 hnb
          have owl3 : wr.heap.size < w3.heap.size := World.block_lt_of_cell? _ _ o2'
          clear hH3 hI3 hM3 hF3 hS2 o1 o2 o3 hnb Hvw
          have hlen3 := hS3.inv.len
          obtain ⟨ls3, cap3, rfl, hrow3, _⟩ := hS3.mem.heldRow hS3.inv hn2
          by_cases hpos : 0 < hs'.length
          · obtain ⟨g, rfl⟩ := hrow3.some_ hpos
            have b0 := hrow3.c0 g (hs'.length - 1) (by omega) rfl
            have b1 := hrow3.c1 g (hs'.length - 1) (by omega) rfl
            have b2 := hrow3.c2 g (hs'.length - 1) (by omega) rfl
            obtain ⟨x, hx⟩ : ∃ x, x = hs'.getD (hs'.length - 1) heldZ := ⟨_, rfl⟩
            have hl1 : hs'.length - 1 < hs'.length := by omega
            have hxi : hs'.getD (hs'.length - 1) heldZ = hs'[hs'.length - 1] := by simp [hl1]
            simp only [← hx] at b0 b1 b2
            have hxm : x ∈ hs' := by rw [hx, hxi]; exact List.getElem_mem _
            have hxp := hS3.inv.pos x hxm
            have Hxi : Hid (x = hs'[hs'.length - 1]'(by omega)) := hx.trans hxi
            clear hx hxi hrow3
            unfold words at b2
            go_wp2_with fail
            refine (kpick_any _ (A i) x.n (by omega) (by omega) rA.1 rA.2).mono ?_
            rintro e w4 ⟨t, ht, rfl, hw4⟩
            have hF4 : Fr NoB w3 w4 := by rw [hw4]; exact (Fr.refl _ _).alloc _
            have d0 : w4.cell? ⟨w3.heap.size, 0, none⟩ = some (.int .i64 x.at_) := by rw [hw4]; simp
            have d2 : w4.cell? ⟨w3.heap.size, 2, none⟩ = some (.slice (some ⟨x.wb, 0, none⟩) x.n x.n) := by rw [hw4]; simp
            have d3 := hF4.cell_some o3' id
            have hS4 := hS3.no hF4
            have dl : w3.heap.size < w4.heap.size := World.block_lt_of_cell? _ _ d0
            have Hwb : Hid (x.wb < w3.heap.size) := (hS3.mem.lo x hxm).2
            have cw := hS4.mem.cell x hxm t ht
            have cf := hS4.mem.frz x hxm t
            have hne1 : x.wb ≠ w3.heap.size := by have := Hwb.out; omega
            clear hw4 hF4 hS3 b0 b1 b2 o2' o3'
            obtain ⟨u, hu⟩ : ∃ u, u = pickZ (C i) 1000 := ⟨_, rfl⟩
            have hul : u < 1000 := by rw [hu]; exact pickZ_lt _ (by omega)
            have HK : Hid (∀ W : World, Calls Try.prog 6 #[.int .i64 (C i), .int .i64 1000] W fun e w' => e = .returned (.int .i64 (u : Int)) ∧ w' = W) := fun W => by
              rw [hu]; exact kpick_fn W (C i) 1000 (by omega) (by omega) rC.1 rC.2
            clear hu
            go_upto_region 23 with fail
            go_cut [] (fun wx => Fr NoB (w4.setCell ⟨x.wb, t, none⟩ (.int .i64 (u : Int))) wx)
            case first =>
              go_region_with (go_at_call 6; refine (HK.out _).mono ?_; rintro e w' ⟨rfl, rfl⟩)
              all_goals
                go_wp2_with fail
                go_meet
                case rel => exact (Fr.refl _ _).drew
            case rest =>
              have f0 : wc.cell? ⟨w3.heap.size, 0, none⟩ = some (.int .i64 x.at_) := hcut.cell_some ((cell_other (.inl hne1)).trans d0) id
              have f2 : wc.cell? ⟨w3.heap.size, 2, none⟩ = some (.slice (some ⟨x.wb, 0, none⟩) x.n x.n) := hcut.cell_some ((cell_other (.inl hne1)).trans d2) id
              have fw : wc.cell? ⟨x.wb, t, none⟩ = some (.int .i64 (u : Int)) := hcut.cell_some (cell_same cw) id
              have Hcut : Hid (Fr NoB (w4.setCell ⟨x.wb, t, none⟩ (.int .i64 (u : Int))) wc) := hcut
              clear hcut cw cf d0 d2 d3
              have hxn := hS4.mem.ne x hxm
              have hHc : HeapAt wc p r n B' V := (hS4.heap.fr ((Fr.refl (OneB x.wb) w4).setCell (p := ⟨x.wb, t, none⟩) (fun _ => rfl) _) (fun e => hxn.1 e.symm) (fun e => hxn.2.1 e.symm)).no Hcut.out
              have Hwr : Hid (IntKind.i64.wrap ((x.at_ : Int) + (t : Int)) = ((x.at_ + t : Nat) : Int)) := by unfold Hid; rw [IntKind.wrap_i64]; omega
              have hxb : B' (x.at_ + t) ≠ 0 := by rw [hS4.inv.own x hxm _ (by omega) (by omega)]; omega
              have Hxb : Hid (B' (x.at_ + t) ≠ 0) := hxb
              clear hxb
              go_upto_region 24 with fail
              go_cut [7] (fun q wx => q = .int .i64 0 ∧ HeapAt wx p r n B' (upd V (x.at_ + t) u) ∧ Fr (OneB r) wc wx)
              case first =>
                go_region_with (go_at_call 11; rw [Hwr.out]; refine (sstore_yes wc.drew p r n B' V (x.at_ + t) u (hHc.no (Fr.refl _ _).drew) (by omega) Hxb.out (by omega) (by omega)).mono ?_; rintro e w5 ⟨rfl, hH5, hF5⟩)
                all_goals
                  go_wp2_with fail
                  go_meet
                  case rel => exact ⟨rfl, hH5, ((Fr.refl (OneB r) wc).drew).trans hF5⟩
              case rest =>
                obtain ⟨rfl, hH5, hF5⟩ := hcut
                have hidx : hs'.length - 1 < hs'.length := by omega
                have HS5 : Hid (St w wc p r n (Value.slice (some ⟨g, 0, none⟩) hs'.length cap3) hs' B' (upd V (x.at_ + t) u)) := by
                  have hx' := Hxi.out
                  subst hx'
                  exact hS4.write hidx ht u Hcut.out hH5 hF5
                clear hH5 hF5 hidx
                go_wp2
                go_roundw
                case rel => exact ⟨i + 1, hs', B', _, by omega, by go_num, HS5.out⟩
                case measure => simp [intOf]; omega
          · go_wp2
            go_roundw
            case rel => exact ⟨i + 1, hs', B', V, by omega, by go_num, hS3⟩
            case measure => simp [intOf]; omega
    · clear h
      have hwS : Fr NoB wr wr := Fr.refl _ _
      go_wp2_with fail
      go_loopw [15] (fun u wq => ∃ q : Nat, q ≤ hs.length ∧ u = .int .i64 q ∧ Fr NoB wr wq) (fun u _ => hs.length - (intOf u).toNat)
      case atStart => exact ⟨0, Nat.zero_le _, rfl, hwS⟩
      case round =>
        obtain ⟨q, hq, rfl, hFq⟩ := hrel
        clear hwS
        have hSq := hS.no hFq
        have hrq := hrow.no hFq
        by_cases hlt2 : q < hs.length
        · obtain ⟨g, rfl⟩ := hrow.some_ (by omega)
          have b0 := hrq.c0 g q hlt2 rfl
          have b1 := hrq.c1 g q hlt2 rfl
          have b2 := hrq.c2 g q hlt2 rfl
          obtain ⟨x, hx⟩ : ∃ x, x = hs.getD q heldZ := ⟨_, rfl⟩
          have hxi : hs.getD q heldZ = hs[q] := by simp [hlt2]
          simp only [← hx] at b0 b1 b2
          have hxm : x ∈ hs := by rw [hx, hxi]; exact List.getElem_mem _
          have hxp := hSq.inv.pos x hxm
          clear hx hxi
          unfold words at b2
          go_wp2_with fail
          refine (kreads_yes _ p r n B V x.at_ x.n x.wb hSq.heap (by omega) (fun k hk => by rw [hSq.inv.own x hxm _ (by omega) (by omega)]; omega) (hSq.mem.cell x hxm)).mono ?_
          rintro e w2 ⟨rfl, hF2⟩
          have HF2 : Hid (Fr NoB _ w2) := hFq.trans hF2
          clear hF2 b0 b1 b2 hSq hrq
          go_wp2
          go_roundw
          case rel => exact ⟨q + 1, by omega, by go_num, HF2.out⟩
          case measure => simp [intOf]; omega
        · clear hS hrow
          go_wp2_with fail
          refine (sruns_any _ p r n B V hSq.heap).mono ?_
          rintro e w2 ⟨v, L, rfl, hL, hown, hF2⟩
          obtain ⟨lo, lcap, rfl, hspan⟩ := spanRow_of hown
          have hrise := runs_rise L 0 hL
          have hrl := runs_len L 0 (Nat.zero_le _) hL
          have hcn := runs_cnt L 0 (Nat.zero_le _) hL
          have hfu := hSq.inv.free_used
          have hsum : (L.map Prod.snd).sum + (hs.map Held.n).sum = n := by simp [cnt_zero] at hcn; omega
          have hS2 := hSq.no hF2
          have hrow2 := hrq.no hF2
          have Hr1 : Hid (∀ i, i < L.length → 1 ≤ (L.getD i (0, 0)).2 ∧ (L.getD i (0, 0)).1 + (L.getD i (0, 0)).2 ≤ n) := hrise.1
          have Hr2 : Hid (∀ i, i + 1 < L.length → (L.getD i (0, 0)).1 + (L.getD i (0, 0)).2 + 1 ≤ (L.getD (i + 1) (0, 0)).1) := hrise.2.1
          have Hs1 : Hid (sumTo (fun i => (L.getD i (0, 0)).2) L.length = (L.map Prod.snd).sum) := sumTo_list Prod.snd (0, 0) L
          have Hs2 : Hid (sumTo (fun i => (hs.getD i heldZ).n) hs.length = (hs.map Held.n).sum) := sumTo_list Held.n heldZ hs
          have HL : Hid (IsRuns B n 0 L) := hL
          clear hrise hcn hfu hL hown hSq hrq hF2
          generalize (L.map Prod.snd).sum = sa at *
          generalize (hs.map Held.n).sum = sb at *
          go_wp2_with fail
          refine (ksum_yes _ lo L.length lcap n _ _ hspan hn2 (by omega) Hr1.out Hr2.out).mono ?_
          rintro e w3 ⟨rfl, hF3⟩
          rw [Hs1.out]
          have hS3 := hS2.no hF3
          have hrow3 := hrow2.no hF3
          clear hS2 hrow2 hspan hF3
          go_wp2_with fail
          refine (kused_any _ ls hs.length cap2 _ _ _ hrow3).mono ?_
          rintro e w4 ⟨rfl, hw4⟩
          have hw4' := hw4.symm
          clear hw4
          subst hw4'
          rw [Hs2.out]
          have htest : ((sa : Int) != (n : Int) - (sb : Int)) = false := by simp; omega
          go_wp2_with fail
          have HI3 : Hid (Inv n B V (hs.drop 0)) := hS3.inv
          have hH3 := hS3.heap
          have HF3 : Hid (Fr NoB w w3) := hS3.fr
          have hlr : ∀ g, ls = some ⟨g, 0, none⟩ → ¬ OneB r g := fun g hg e => hS3.mem.vr (by rw [Hls.out g hg]; exact congrArg some e)
          have Hlr : Hid (∀ g, ls = some ⟨g, 0, none⟩ → ¬ OneB r g) := hlr
          have hrl3 := hS3.rl
          clear hlr hS3 Hr1 Hr2 Hs1 Hs2 HL hsum htest
          go_loopw [19] (fun u wq => ∃ (k : Nat) (B V : Nat → Int), k ≤ hs.length ∧ u = .int .i64 k ∧ HeapAt wq p r n B V ∧ Inv n B V (hs.drop k) ∧ Fr (OneB r) w3 wq) (fun u _ => hs.length - (intOf u).toNat)
          case atStart => exact ⟨0, B, V, Nat.zero_le _, rfl, hH3, HI3.out, Fr.refl _ _⟩
          case round =>
            obtain ⟨k, B1, V1, hk, rfl, hH, hI, hF⟩ := hrel
            clear hH3
            have hr := hrow3.fr hF Hlr.out
            by_cases hkl : k < hs.length
            · obtain ⟨g, rfl⟩ := hrow3.some_ (by omega)
              have hx : hs.getD k heldZ = hs[k] := by simp [hkl]
              have b0 := hr.c0 g k hkl rfl
              obtain ⟨hs1, hs2, hs3⟩ := rest_step hI hkl
              simp only [hx] at b0
              have Hb : Hid (B1 hs[k].at_ = (hs[k].at_ : Int) + 1) := hs2
              have H3 := show Hid _ from hs3
              have hng : ¬ OneB r g := Hlr.out g rfl
              obtain ⟨at_, hat⟩ : ∃ a, a = hs[k].at_ := ⟨_, rfl⟩
              rw [← hat] at b0 hs1 Hb H3
              clear hx hs2 hs3 hr hI hat
              go_wp2_with fail
              refine (sfree_yes _ p r n B1 V1 at_ hH hs1 Hb.out).mono ?_
              rintro e w4 ⟨rfl, z, hz1, hz2, hz3, hz4, hH4, hF4⟩
              have HI4 := show Hid _ from H3.out z hz1 hz2 hz3 hz4
              have hcl : takenB (clearTo B1 at_ z) n (at_ : Int) = false := by
                rw [takenB_in hs1]; unfold clearTo; rw [if_pos ⟨Nat.le_refl _, hz1⟩]; rfl
              have Hcl : Hid (takenB (clearTo B1 at_ z) n (at_ : Int) = false) := hcl
              have b0' := hF4.cell_some b0 hng
              have HF4 : Hid (Fr (OneB r) _ w4) := hF.trans hF4
              clear hz3 hz4 hcl hF4 hF b0 hH H3
              go_wp2_with fail
              refine (sfree_no _ p r n _ _ (at_ : Int) hH4 Hcl.out).mono ?_
              rintro e w5 ⟨rfl, hw5⟩
              have hw5' := hw5.symm
              clear hw5
              subst hw5'
              go_wp2_with fail
              refine (sload_no _ p r n _ _ (at_ : Int) hH4 Hcl.out).mono ?_
              rintro e w5 ⟨rfl, hw5⟩
              have hw5' := hw5.symm
              clear hw5
              subst hw5'
              go_wp2
              go_roundw
              case rel => exact ⟨k + 1, _, _, by omega, by go_num, hH4, HI4.out, HF4.out⟩
              case measure => simp [intOf]; omega
            · have hke : k = hs.length := by omega
              have hz : ∀ i, i < n → B1 i = 0 := rest_end (V := V1) (by rw [hke, List.drop_length] at hI; exact hI)
              have Hz : Hid (∀ i, i < n → B1 i = 0) := hz
              have HFF : Hid (Fr NoB w _) := HF3.out.then hF (fun q hq e => by have e' : q = r := e; omega)
              clear hke hz hr hI hF hrow3
              go_wp2_with fail
              refine (sruns_any _ p r n B1 V1 hH).mono ?_
              rintro e w4 ⟨v, L2, rfl, hL, hown, hF4⟩
              have hone := runs_one hn1 Hz.out L2 hL
              subst hone
              obtain ⟨lo2, lcap2, rfl, hspan⟩ := spanRow_of hown
              obtain ⟨g, rfl⟩ := hspan.some_ (by simp)
              have c0 := hspan.c0 g 0 (by simp) rfl
              have c1 := hspan.c1 g 0 (by simp) rfl
              simp only [List.getD_cons_zero, Nat.zero_mul, Nat.zero_add] at c0 c1
              have HFE : Hid (Fr NoB w w4) := HFF.out.trans hF4
              clear hspan hown hL hF4 HFF
              simp only [List.length_singleton]
              go_wp2
              go_ret
              exact ⟨rfl, HFE.out⟩
end Go.Proofs.Ythcjcjfgdgnljaa
