import Derived.Test.YtcmnejcojphijaaGreatDoorLaw4
namespace Go.Proofs.YtcmnejcojphijaaGreatDoor
open Go.RowKit

theorem WSt.listTurn {w0 w w' : World} {wp : Nat} {own : Nat → Nat} {bd : Nat} {hv lv : Value} {hs : List HEnt} {ls : List LEnt} (h : WSt w0 w wp own bd hv lv hs ls) {j : Nat} {e e' : LEnt} (hj : ls[j]? = some e)
    (hf : Fr (fun k => own k = 6 + 3 * j) w w') (he : LOk w' own j e') (hc : listCells e' = listCells e) : ∃ ls', WSt w0 w' wp own bd hv lv hs ls' := by
  have hjl : j < ls.length := (List.getElem?_eq_some_iff.1 hj).1
  have hje : ls[j] = e := (List.getElem?_eq_some_iff.1 hj).2
  have hcells : (ls.set j e').flatMap listCells = ls.flatMap listCells := by
    rw [List.flatMap_def, List.flatMap_def, List.map_set]
    have : listCells e' = (ls.map listCells)[j]'(by simpa using hjl) := by
      rw [List.getElem_map, hje]; exact hc
    rw [this, List.set_getElem_self]
  refine ⟨ls.set j e', ⟨hf.cell_some h.c0 ?_, hf.cell_some h.c1 ?_, fun o => (hf.frozen (p := ⟨wp, o, none⟩) h.wl ?_).trans (h.fz o), h.ow, ?_, ?_, h.oh, h.ol, ?_, ?_, h.old, ?_, h.hl, ?_⟩⟩
  · intro g; have := h.ow; simp only at g; omega
  · intro g; have := h.ow; simp only at g; omega
  · intro g; have := h.ow; simp only at g; omega
  · exact hf.owns h.hrow (fun k hk g => by have := h.oh k hk; omega)
  · rw [List.length_set, hcells]; exact hf.owns h.lrow (fun k hk g => by have := h.ol k hk; omega)
  · intro i x hx
    exact (h.hok i x hx).fr hf (fun k hk => by constructor <;> omega)
  · intro i x hx
    by_cases hij : i = j
    · subst hij
      rw [List.getElem?_set_self hjl] at hx
      injection hx with hx
      subst hx
      exact he
    · rw [List.getElem?_set_ne (fun e => hij e.symm)] at hx
      exact (h.lok i x hx).fr hf (fun k hk => by omega)
  · exact h.fr.then hf (fun k hk hs => by have := h.old k hk; omega)
  · rw [List.length_set]; exact h.ll

def Ints (w : World) (b m : Nat) : Prop := ∀ t, t < m → ∃ x y : Int, w.cell? ⟨b, t * 2, none⟩ = some (.int .i64 x) ∧ w.cell? ⟨b, t * 2 + 1, none⟩ = some (.int .i64 y)
def Marks (w : World) (b j : Nat) (k : Int) : Prop := ∀ t, t < j → w.cell? ⟨b, t * 2, none⟩ = some (.int .i64 k) ∧ w.cell? ⟨b, t * 2 + 1, none⟩ = some (.int .i64 k)
/-- one span is written over by the mark k -/
def over2 (w : World) (c j : Nat) (k : Int) : World := (w.setCell ⟨c, j * 2, none⟩ (.int .i64 k)).setCell ⟨c, j * 2 + 1, none⟩ (.int .i64 k)

theorem over2_at {w : World} {c j m : Nat} (k : Int) (h : Ints w c m) (hj : j < m) : (over2 w c j k).cell? ⟨c, j * 2, none⟩ = some (.int .i64 k) ∧ (over2 w c j k).cell? ⟨c, j * 2 + 1, none⟩ = some (.int .i64 k) := by
  obtain ⟨x, y, h1, h2⟩ := h j hj
  exact ⟨(cell_other (.inr (by omega))).trans (cell_same h1), cell_same ((cell_other (.inr (by omega))).trans h2)⟩
theorem over2_ne {w : World} {c j : Nat} (k : Int) {b t : Nat} (h : c ≠ b ∨ t ≠ j) : (over2 w c j k).cell? ⟨b, t * 2, none⟩ = w.cell? ⟨b, t * 2, none⟩ ∧ (over2 w c j k).cell? ⟨b, t * 2 + 1, none⟩ = w.cell? ⟨b, t * 2 + 1, none⟩ := by
  constructor
  · exact (cell_other (h.elim .inl (fun h => .inr (by omega)))).trans (cell_other (h.elim .inl (fun h => .inr (by omega))))
  · exact (cell_other (h.elim .inl (fun h => .inr (by omega)))).trans (cell_other (h.elim .inl (fun h => .inr (by omega))))
theorem Ints.over {w : World} {b c j m m' : Nat} (h : Ints w b m) (hc : Ints w c m') (hj : j < m') (k : Int) : Ints (over2 w c j k) b m := fun t ht => by
  by_cases e : c = b ∧ t = j
  · obtain ⟨rfl, rfl⟩ := e
    obtain ⟨h1, h2⟩ := over2_at k hc hj
    exact ⟨k, k, h1, h2⟩
  · have e2 : c ≠ b ∨ t ≠ j := by
      by_cases g : c = b
      · exact .inr (fun g2 => e ⟨g, g2⟩)
      · exact .inl g
    obtain ⟨h1, h2⟩ := over2_ne (w := w) k e2
    obtain ⟨x, y, g1, g2⟩ := h t ht
    exact ⟨x, y, h1.trans g1, h2.trans g2⟩
theorem Marks.over {w : World} {b c j i m' : Nat} {k : Int} (h : Marks w b i k) (hc : Ints w c m') (hj : j < m') : Marks (over2 w c j k) b i k := fun t ht => by
  by_cases e : c = b ∧ t = j
  · obtain ⟨rfl, rfl⟩ := e
    exact over2_at k hc hj
  · have e2 : c ≠ b ∨ t ≠ j := by
      by_cases g : c = b
      · exact .inr (fun g2 => e ⟨g, g2⟩)
      · exact .inl g
    obtain ⟨h1, h2⟩ := over2_ne (w := w) k e2
    exact ⟨h1.trans (h t ht).1, h2.trans (h t ht).2⟩
theorem Marks.step {w : World} {c j m' : Nat} {k : Int} (h : Marks w c j k) (hc : Ints w c m') (hj : j < m') : Marks (over2 w c j k) c (j + 1) k := fun t ht => by
  by_cases e : t = j
  · subst e; exact over2_at k hc hj
  · exact (h.over hc hj) t (by omega)

/-- the blocks of one list -/
def FP (e : LEnt) : Nat → Prop := fun k => (0 < e.len ∧ e.ao = some ⟨k, 0, none⟩) ∨ k = e.bx ∨ k = e.bw

/-- one list, half written over -/
structure Ov (w wr : World) (e : LEnt) (k : Int) (jl jx : Nat) : Prop where
  fr : Fr (FP e) w wr
  li : ∀ g, 0 < e.len → e.ao = some ⟨g, 0, none⟩ → Ints wr g e.len ∧ Marks wr g jl k ∧ ∀ o, wr.frozen? ⟨g, o, none⟩ = false
  xi : Ints wr e.bx (e.len + 2)
  wi : Ints wr e.bw (e.len + 2)
  xm : Marks wr e.bx jx k
  wm : Marks wr e.bw jx k
  fx : ∀ o, wr.frozen? ⟨e.bx, o, none⟩ = false
  fw : ∀ o, wr.frozen? ⟨e.bw, o, none⟩ = false

theorem Ov.no {w wr wr' : World} {e : LEnt} {k : Int} {jl jx : Nat} (h : Ov w wr e k jl jx) (hf : Fr NoB wr wr') : Ov w wr' e k jl jx := by
  have cell : ∀ b o v, wr.cell? ⟨b, o, none⟩ = some v → wr'.cell? ⟨b, o, none⟩ = some v := fun b o v hc => hf.cell_some hc id
  have xl : e.bx < wr.heap.size := by obtain ⟨x, y, h1, _⟩ := h.xi 0 (by omega); exact World.block_lt_of_cell? _ _ h1
  have wl : e.bw < wr.heap.size := by obtain ⟨x, y, h1, _⟩ := h.wi 0 (by omega); exact World.block_lt_of_cell? _ _ h1
  have ints : ∀ b m, Ints wr b m → Ints wr' b m := fun b m hi t ht => by obtain ⟨x, y, h1, h2⟩ := hi t ht; exact ⟨x, y, cell _ _ _ h1, cell _ _ _ h2⟩
  have marks : ∀ b m, Marks wr b m k → Marks wr' b m k := fun b m hi t ht => ⟨cell _ _ _ (hi t ht).1, cell _ _ _ (hi t ht).2⟩
  refine ⟨h.fr.then hf (fun _ _ e => e.elim), fun g h0 hg => ?_, ints _ _ h.xi, ints _ _ h.wi, marks _ _ h.xm, marks _ _ h.wm, fun o => (hf.frozen (p := ⟨e.bx, o, none⟩) xl id).trans (h.fx o), fun o => (hf.frozen (p := ⟨e.bw, o, none⟩) wl id).trans (h.fw o)⟩
  obtain ⟨h1, h2, h3⟩ := h.li g h0 hg
  have gl : g < wr.heap.size := by obtain ⟨x, y, g1, _⟩ := h1 0 h0; exact World.block_lt_of_cell? _ _ g1
  exact ⟨ints _ _ h1, marks _ _ h2, fun o => (hf.frozen (p := ⟨g, o, none⟩) gl id).trans (h3 o)⟩
theorem over2_frozen {w : World} {c j : Nat} {k : Int} (a : Addr) : (over2 w c j k).frozen? a = w.frozen? a := by
  unfold over2; rw [World.frozen?_setCell, World.frozen?_setCell]
theorem over2_fr {S : Nat → Prop} {w wr : World} (h : Fr S w wr) {c : Nat} (hc : S c) (j : Nat) (k : Int) : Fr S w (over2 wr c j k) :=
  (h.setCell (p := ⟨c, j * 2, none⟩) (fun _ => hc) _).setCell (p := ⟨c, j * 2 + 1, none⟩) (fun _ => hc) _
theorem Ov.stepL {w wr : World} {e : LEnt} {k : Int} {jl jx g : Nat} (h : Ov w wr e k jl jx) (hj : jl < e.len) (hg : e.ao = some ⟨g, 0, none⟩) : Ov w (over2 wr g jl k) e k (jl + 1) jx := by
  obtain ⟨h1, h2, h3⟩ := h.li g (by omega) hg
  refine ⟨over2_fr h.fr (.inl ⟨by omega, hg⟩) _ _, fun g' h0 hg' => ?_, h.xi.over h1 hj k, h.wi.over h1 hj k, h.xm.over h1 hj, h.wm.over h1 hj, fun o => by rw [over2_frozen]; exact h.fx o, fun o => by rw [over2_frozen]; exact h.fw o⟩
  have : g = g' := by rw [hg] at hg'; injection hg' with hg'; injection hg'
  subst this
  exact ⟨h1.over h1 hj k, h2.step h1 hj, fun o => by rw [over2_frozen]; exact h3 o⟩
theorem Ov.stepX {w wr : World} {e : LEnt} {k : Int} {jl jx : Nat} (h : Ov w wr e k jl jx) (hj : jx < e.len + 2) : Ov w (over2 (over2 wr e.bx jx k) e.bw jx k) e k jl (jx + 1) := by
  have w1 := h.wi.over h.xi hj k
  have x1 := h.xi.over h.xi hj k
  refine ⟨over2_fr (over2_fr h.fr (.inr (.inl rfl)) _ _) (.inr (.inr rfl)) _ _, fun g h0 hg => ?_, x1.over w1 hj k, w1.over w1 hj k, (h.xm.step h.xi hj).over w1 hj, (h.wm.over h.xi hj).step w1 hj, fun o => by rw [over2_frozen, over2_frozen]; exact h.fx o, fun o => by rw [over2_frozen, over2_frozen]; exact h.fw o⟩
  obtain ⟨h1, h2, h3⟩ := h.li g h0 hg
  exact ⟨(h1.over h.xi hj k).over w1 hj k, (h2.over h.xi hj).over w1 hj, fun o => by rw [over2_frozen, over2_frozen]; exact h3 o⟩

theorem Ov.start {w : World} {own : Nat → Nat} {i : Nat} {e : LEnt} (h : LOk w own i e) (k : Int) : Ov w w e k 0 0 :=
  ⟨Fr.refl _ _, fun g h0 hg => ⟨fun t ht => ⟨_, _, h.l.c0 g t ht hg, h.l.c1 g t ht hg⟩, fun t ht => absurd ht (by omega), h.fl h0 g hg⟩,
    fun t ht => ⟨_, _, h.x.c0 _ t ht rfl, h.x.c1 _ t ht rfl⟩, fun t ht => ⟨_, _, h.y.c0 _ t ht rfl, h.y.c1 _ t ht rfl⟩, fun t ht => absurd ht (by omega), fun t ht => absurd ht (by omega), h.fx, h.fw⟩

theorem Ov.finish {w0 w wr : World} {wp : Nat} {own : Nat → Nat} {bd : Nat} {hv lv : Value} {hs : List HEnt} {ls : List LEnt} (h : WSt w0 w wp own bd hv lv hs ls) {i : Nat} {e : LEnt} (hi : ls[i]? = some e) {k : Int} (ho : Ov w wr e k e.len (e.len + 2)) :
    ∃ ls', WSt w0 wr wp own bd hv lv hs ls' := by
  have hL := h.lok i e hi
  have hfp : ∀ k, FP e k → own k = 6 + 3 * i := fun k hk => by
    rcases hk with ⟨h0, hg⟩ | rfl | rfl
    · exact hL.ol h0 k hg
    · exact hL.ox
    · exact hL.ow
  refine h.listTurn (e' := { e with A := fun _ => k, N := fun _ => k }) hi (ho.fr.mono (fun q _ hq => hfp q hq)) ?_ rfl
  refine ⟨⟨hL.l.some_, fun g t ht hg => ?_, fun g t ht hg => ?_⟩, ⟨hL.x.some_, fun g t ht hg => ?_, fun g t ht hg => ?_⟩, ⟨hL.y.some_, fun g t ht hg => ?_, fun g t ht hg => ?_⟩, fun h0 g hg => (ho.li g h0 hg).2.2, ho.fx, ho.fw, hL.hx, hL.hw, hL.hl, hL.hc, hL.ol, hL.ox, hL.ow, hL.nx, hL.nl⟩
  · exact ((ho.li g (by have : t < e.len := ht; omega) hg).2.1 t ht).1
  · exact ((ho.li g (by have : t < e.len := ht; omega) hg).2.1 t ht).2
  · injection hg with hg; injection hg with hg; subst hg; exact (ho.xm t ht).1
  · injection hg with hg; injection hg with hg; subst hg; exact (ho.xm t ht).2
  · injection hg with hg; injection hg with hg; subst hg; exact (ho.wm t ht).1
  · injection hg with hg; injection hg with hg; subst hg; exact (ho.wm t ht).2

set_option maxRecDepth 20000 in
set_option maxHeartbeats 2000000 in
theorem lover_any (w0 w : World) (wp : Nat) (own : Nat → Nat) (bd : Nat) (hv lv : Value) (hs : List HEnt) (ls : List LEnt) (c : Int) (h : WSt w0 w wp own bd hv lv hs ls) (hbd : bd ≤ 2932031007402) (h1 : -9223372036854775808 ≤ c) (h2 : c ≤ 9223372036854775807) :
    Calls Tryz.prog 48 #[.pointer (some ⟨wp, 0, none⟩), .int .i64 c] w fun e w' => e = .returned (.tuple #[]) ∧ ∃ ls', WSt w0 w' wp own bd hv lv hs ls' := by
  have hll := h.ll
  have hc1 := h.c1
  obtain ⟨ao, cap, rfl, hrow⟩ := lrow_of h.lrow
  by_cases h0 : 0 < ls.length
  · obtain ⟨g, rfl⟩ := hrow.some_ h0
    obtain ⟨i, hi⟩ : ∃ i, i = pickZ c ls.length := ⟨_, rfl⟩
    have hil : i < ls.length := by rw [hi]; exact pickZ_lt _ (by omega)
    have hlz : ((ls.length : Int) == 0) = false := beq_eq_false_iff_ne.2 (by omega)
    go_enter Tryz.func48, Tryz.ntmps48
    go_wp2_with fail
    refine (lpick_fn _ c ls.length (by omega) (by omega) h1 h2).mono ?_
    rintro e w1 ⟨rfl, hw1⟩
    have hw1' := hw1.symm
    clear hw1
    subst hw1'
    rw [← hi]
    clear hi
    have b0 := hrow.c0 g i hil rfl
    have b1 := hrow.c1 g i hil rfl
    have b2 := hrow.c2 g i hil rfl
    obtain ⟨e, he⟩ : ∃ e, e = ls[i] := ⟨_, rfl⟩
    rw [← he] at b0 b1 b2
    have Hie : Hid (ls[i]? = some e) := by show ls[i]? = some e; rw [he]; exact List.getElem?_eq_getElem hil
    have hL : LOk w own i e := h.lok i e Hie.out
    have hlb := hL.hl
    have hcb := hL.hc
    have hnx := hL.nx
    have HL : Hid (LOk w own i e) := hL
    clear he hL
    go_wp2_with fail
    refine (lmark_fn _ i (by omega)).mono ?_
    rintro e2 w2 ⟨rfl, hF2⟩
    have f0 : w2.cell? ⟨w.heap.size, 0, none⟩ = some (.slice e.ao e.len e.cl) := hF2.cell_some (by simp) id
    have f1 : w2.cell? ⟨w.heap.size, 1, none⟩ = some (.slice (some ⟨e.bx, 0, none⟩) (e.len + 2) e.cx) := hF2.cell_some (by simp) id
    have f2 : w2.cell? ⟨w.heap.size, 2, none⟩ = some (.slice (some ⟨e.bw, 0, none⟩) (e.len + 2) e.cw) := hF2.cell_some (by simp) id
    have hF : Fr NoB w w2 := ((Fr.refl _ _).alloc _).trans hF2
    have hsz : w.heap.size < w2.heap.size := World.block_lt_of_cell? _ _ f0
    clear hF2 b0 b1 b2 hc1
    obtain ⟨k, hk⟩ : ∃ k : Int, k = -1 - (i : Int) := ⟨_, rfl⟩
    rw [← hk]
    clear hk
    go_wp2_with fail
    go_loopw [7] (fun t wr => ∃ j : Nat, j ≤ e.len ∧ t = .int .i64 j ∧ Ov w wr e k j 0 ∧ wr.cell? ⟨w.heap.size, 0, none⟩ = some (.slice e.ao e.len e.cl) ∧ wr.cell? ⟨w.heap.size, 1, none⟩ = some (.slice (some ⟨e.bx, 0, none⟩) (e.len + 2) e.cx) ∧ wr.cell? ⟨w.heap.size, 2, none⟩ = some (.slice (some ⟨e.bw, 0, none⟩) (e.len + 2) e.cw) ∧ wr.cell? ⟨w2.heap.size, 0, none⟩ = some (.int .i64 k) ∧ wr.cell? ⟨w2.heap.size, 1, none⟩ = some (.int .i64 k)) (fun t _ => e.len - (intOf t).toNat)
    case atStart => exact ⟨0, Nat.zero_le _, rfl, (Ov.start HL.out k).no (hF.alloc _), ((Fr.refl NoB _).alloc _).cell_some f0 id, ((Fr.refl NoB _).alloc _).cell_some f1 id, ((Fr.refl NoB _).alloc _).cell_some f2 id, by simp, by simp⟩
    case round =>
      obtain ⟨j, hj, rfl, hO, g0, g1, g2, m0, m1⟩ := hrel
      clear f0 f1 f2
      by_cases hjl : j < e.len
      · obtain ⟨gl, hgl⟩ := HL.out.l.some_ (by omega)
        have hlt : gl < w.heap.size := HL.out.gl (by omega) hgl
        obtain ⟨i1, _, i3⟩ := hO.li gl (by omega) hgl
        obtain ⟨x, y, cx, cy⟩ := i1 j hjl
        have z0 := i3 (j * 2)
        have z1 := i3 (j * 2 + 1)
        have hstep := hO.stepL hjl hgl
        have p0 : (over2 wr gl j k).cell? ⟨w.heap.size, 0, none⟩ = some (.slice e.ao e.len e.cl) := (cell_other (.inl (by omega))).trans ((cell_other (.inl (by omega))).trans g0)
        have p1 : (over2 wr gl j k).cell? ⟨w.heap.size, 1, none⟩ = some (.slice (some ⟨e.bx, 0, none⟩) (e.len + 2) e.cx) := (cell_other (.inl (by omega))).trans ((cell_other (.inl (by omega))).trans g1)
        have p2 : (over2 wr gl j k).cell? ⟨w.heap.size, 2, none⟩ = some (.slice (some ⟨e.bw, 0, none⟩) (e.len + 2) e.cw) := (cell_other (.inl (by omega))).trans ((cell_other (.inl (by omega))).trans g2)
        have q0 : (over2 wr gl j k).cell? ⟨w2.heap.size, 0, none⟩ = some (.int .i64 k) := (cell_other (.inl (by omega))).trans ((cell_other (.inl (by omega))).trans m0)
        have q1 : (over2 wr gl j k).cell? ⟨w2.heap.size, 1, none⟩ = some (.int .i64 k) := (cell_other (.inl (by omega))).trans ((cell_other (.inl (by omega))).trans m1)
        have HE := show Hid (_ ∧ _ ∧ _ ∧ _ ∧ _ ∧ _) from ⟨hstep, p0, p1, p2, q0, q1⟩
        rw [hgl] at g0
        have hne1 : gl ≠ w.heap.size := by omega
        have hne2 : gl ≠ w2.heap.size := by omega
        clear hstep p0 p1 p2 q0 q1 i1 i3 hO hgl
        go_wp2
        go_roundw
        case rel => exact ⟨j + 1, by omega, by go_num, HE.out⟩
        case measure => simp [intOf]; omega
      · have hje : j = e.len := by omega
        subst hje
        have hxl : e.bx < w.heap.size := HL.out.xl
        have hwl : e.bw < w.heap.size := HL.out.wl
        go_wp2_with fail
        go_loopw [8] (fun t wr => ∃ j : Nat, j ≤ e.len + 2 ∧ t = .int .i64 j ∧ Ov w wr e k e.len j ∧ wr.cell? ⟨w.heap.size, 1, none⟩ = some (.slice (some ⟨e.bx, 0, none⟩) (e.len + 2) e.cx) ∧ wr.cell? ⟨w.heap.size, 2, none⟩ = some (.slice (some ⟨e.bw, 0, none⟩) (e.len + 2) e.cw) ∧ wr.cell? ⟨w2.heap.size, 0, none⟩ = some (.int .i64 k) ∧ wr.cell? ⟨w2.heap.size, 1, none⟩ = some (.int .i64 k)) (fun t _ => e.len + 2 - (intOf t).toNat)
        case atStart => exact ⟨0, Nat.zero_le _, rfl, hO, g1, g2, m0, m1⟩
        case round =>
          obtain ⟨j, hj2, rfl, hO2, n1, n2, r0, r1⟩ := hrel
          clear g0 g1 g2 m0 m1 hO
          by_cases hjl2 : j < e.len + 2
          · obtain ⟨x1, y1, cx1, cy1⟩ := hO2.xi j hjl2
            obtain ⟨x2, y2, cx2, cy2⟩ := hO2.wi j hjl2
            have z0 := hO2.fx (j * 2)
            have z1 := hO2.fx (j * 2 + 1)
            have z2 := hO2.fw (j * 2)
            have z3 := hO2.fw (j * 2 + 1)
            have hstep := hO2.stepX hjl2
            have keep : ∀ b o v, b ≠ e.bx → b ≠ e.bw → wr.cell? ⟨b, o, none⟩ = some v → (over2 (over2 wr e.bx j k) e.bw j k).cell? ⟨b, o, none⟩ = some v := fun b o v h1 h2 hc =>
              (cell_other (.inl (Ne.symm h2))).trans ((cell_other (.inl (Ne.symm h2))).trans ((cell_other (.inl (Ne.symm h1))).trans ((cell_other (.inl (Ne.symm h1))).trans hc)))
            have HE := show Hid (_ ∧ _ ∧ _ ∧ _ ∧ _) from ⟨hstep, keep _ _ _ (by omega) (by omega) n1, keep _ _ _ (by omega) (by omega) n2, keep _ _ _ (by omega) (by omega) r0, keep _ _ _ (by omega) (by omega) r1⟩
            have hne1 : e.bx ≠ w.heap.size := by omega
            have hne2 : e.bx ≠ w2.heap.size := by omega
            have hne3 : e.bw ≠ w.heap.size := by omega
            have hne4 : e.bw ≠ w2.heap.size := by omega
            clear hstep keep hO2
            go_wp2
            go_roundw
            case rel => exact ⟨j + 1, by omega, by go_num, HE.out⟩
            case measure => simp [intOf]; omega
          · have hje : j = e.len + 2 := by omega
            subst hje
            have HE : Hid (∃ ls', WSt w0 wr wp own bd hv (Value.slice (some ⟨g, 0, none⟩) ls.length cap) hs ls') := Ov.finish h Hie.out hO2
            clear hO2
            go_wp2
            go_end0
            exact ⟨rfl, HE.out⟩
  · have hz : ls.length = 0 := by omega
    have hlz : ((ls.length : Int) == 0) = true := beq_iff_eq.2 (by omega)
    clear hz
    go_enter Tryz.func48, Tryz.ntmps48
    go_wp2
    exact bodyPost_ret (v := .tuple #[]) (by simp [results, Tryz.results48, go_sem]) rfl ⟨rfl, ls, h⟩
end Go.Proofs.YtcmnejcojphijaaGreatDoor
