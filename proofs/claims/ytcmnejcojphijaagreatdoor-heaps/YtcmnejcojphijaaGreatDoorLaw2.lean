/-
  All that a script has made, in memory: who owns which block is told by a number ('own'): 0: what was there before; 1: the world's own; 2, 3: the rows of heaps and of lists; then of heap i the program's (4 + 3 i) and the document's (5 + 3 i), and of list i (6 + 3 i).
-/
import Derived.Test.YtcmnejcojphijaaGreatDoorLaw1
namespace Go.Proofs.YtcmnejcojphijaaGreatDoor
open Go.RowKit

structure HEnt where
  p : Nat
  r : Nat
  q : Nat
  ri : Nat
  rh : Nat
  n : Nat
  B : Nat → Int
  V : Nat → Int
  I : Nat → Int
  H : Nat → Int
  md : Int
structure LEnt where
  ao : Option Addr
  len : Nat
  cl : Nat
  bx : Nat
  cx : Nat
  bw : Nat
  cw : Nat
  A : Nat → Int
  N : Nat → Int

structure HOk (w : World) (own : Nat → Nat) (i : Nat) (bd : Nat) (e : HEnt) : Prop where
  heap : HeapAt w e.p e.r e.n e.B e.V
  ref : RefAt w e.q e.ri e.rh e.n e.I e.H e.md
  rel : Rel e.n e.B e.V e.I e.H e.md
  md : e.md ≤ bd
  op : own e.p = 4 + 3 * i
  or_ : own e.r = 4 + 3 * i
  oq : own e.q = 5 + 3 * i
  oi : own e.ri = 5 + 3 * i
  oh : own e.rh = 5 + 3 * i

structure LOk (w : World) (own : Nat → Nat) (i : Nat) (e : LEnt) : Prop where
  l : IntRow w e.ao e.len e.A e.N
  x : IntRow w (some ⟨e.bx, 0, none⟩) (e.len + 2) e.A e.N
  y : IntRow w (some ⟨e.bw, 0, none⟩) (e.len + 2) e.A e.N
  fl : 0 < e.len → ∀ g, e.ao = some ⟨g, 0, none⟩ → ∀ o, w.frozen? ⟨g, o, none⟩ = false
  fx : ∀ o, w.frozen? ⟨e.bx, o, none⟩ = false
  fw : ∀ o, w.frozen? ⟨e.bw, o, none⟩ = false
  hx : e.len + 2 ≤ e.cx
  hw : e.len + 2 ≤ e.cw
  hl : e.len ≤ 4096
  hc : e.cl ≤ 9223372036854775807 ∧ e.cx ≤ 9223372036854775807 ∧ e.cw ≤ 9223372036854775807
  ol : 0 < e.len → ∀ g, e.ao = some ⟨g, 0, none⟩ → own g = 6 + 3 * i
  ox : own e.bx = 6 + 3 * i
  ow : own e.bw = 6 + 3 * i
  nx : e.bx ≠ e.bw
  nl : 0 < e.len → ∀ g, e.ao = some ⟨g, 0, none⟩ → g ≠ e.bw

theorem HOk.fr {S : Nat → Prop} {w w' : World} {own : Nat → Nat} {i bd : Nat} {e : HEnt} (h : HOk w own i bd e) (hf : Fr S w w') (hs : ∀ k, S k → own k ≠ 4 + 3 * i ∧ own k ≠ 5 + 3 * i) : HOk w' own i bd e :=
  ⟨h.heap.fr hf (fun g => (hs _ g).1 h.op) (fun g => (hs _ g).1 h.or_), h.ref.fr hf (fun g => (hs _ g).2 h.oq) (fun g => (hs _ g).2 h.oi) (fun g => (hs _ g).2 h.oh), h.rel, h.md, h.op, h.or_, h.oq, h.oi, h.oh⟩
theorem HOk.reown {w : World} {own own' : Nat → Nat} {i bd : Nat} {e : HEnt} (h : HOk w own i bd e) (ho : ∀ k, k < w.heap.size → own' k = own k) : HOk w own' i bd e :=
  ⟨h.heap, h.ref, h.rel, h.md, (ho _ h.heap.pl).trans h.op, (ho _ h.heap.rl).trans h.or_, (ho _ h.ref.ql).trans h.oq, (ho _ h.ref.il).trans h.oi, (ho _ h.ref.hl).trans h.oh⟩
theorem HOk.mono {w : World} {own : Nat → Nat} {i bd bd' : Nat} {e : HEnt} (h : HOk w own i bd e) (hb : bd ≤ bd') : HOk w own i bd' e :=
  ⟨h.heap, h.ref, h.rel, by have := h.md; omega, h.op, h.or_, h.oq, h.oi, h.oh⟩

theorem LOk.xl {w : World} {own : Nat → Nat} {i : Nat} {e : LEnt} (h : LOk w own i e) : e.bx < w.heap.size := World.block_lt_of_cell? w _ (h.x.c0 e.bx 0 (by omega) rfl)
theorem LOk.wl {w : World} {own : Nat → Nat} {i : Nat} {e : LEnt} (h : LOk w own i e) : e.bw < w.heap.size := World.block_lt_of_cell? w _ (h.y.c0 e.bw 0 (by omega) rfl)
theorem LOk.gl {w : World} {own : Nat → Nat} {i : Nat} {e : LEnt} (h : LOk w own i e) (h0 : 0 < e.len) {g : Nat} (hg : e.ao = some ⟨g, 0, none⟩) : g < w.heap.size := World.block_lt_of_cell? w _ (h.l.c0 g 0 h0 hg)
theorem IntRow.empty {w w' : World} {ao : Option Addr} {A N : Nat → Int} (h : IntRow w ao 0 A N) : IntRow w' ao 0 A N :=
  ⟨h.some_, fun _ i hi => absurd hi (by omega), fun _ i hi => absurd hi (by omega)⟩
theorem LOk.fr {S : Nat → Prop} {w w' : World} {own : Nat → Nat} {i : Nat} {e : LEnt} (h : LOk w own i e) (hf : Fr S w w') (hs : ∀ k, S k → own k ≠ 6 + 3 * i) : LOk w' own i e := by
  have hx : ¬ S e.bx := fun g => hs _ g h.ox
  have hw : ¬ S e.bw := fun g => hs _ g h.ow
  refine ⟨?_, h.x.fr hf (fun g hg => by injection hg with hg; injection hg with hg; subst hg; exact hx), h.y.fr hf (fun g hg => by injection hg with hg; injection hg with hg; subst hg; exact hw),
    fun h0 g hg o => (hf.frozen (p := ⟨g, o, none⟩) (h.gl h0 hg) (fun s => hs _ s (h.ol h0 g hg))).trans (h.fl h0 g hg o), fun o => (hf.frozen (p := ⟨e.bx, o, none⟩) h.xl hx).trans (h.fx o), fun o => (hf.frozen (p := ⟨e.bw, o, none⟩) h.wl hw).trans (h.fw o),
    h.hx, h.hw, h.hl, h.hc, h.ol, h.ox, h.ow, h.nx, h.nl⟩
  by_cases h0 : 0 < e.len
  · exact h.l.fr hf (fun g hg s => hs _ s (h.ol h0 g hg))
  · have : e.len = 0 := by omega
    have hl := h.l
    rw [this] at hl ⊢
    exact hl.empty
theorem LOk.reown {w : World} {own own' : Nat → Nat} {i : Nat} {e : LEnt} (h : LOk w own i e) (ho : ∀ k, k < w.heap.size → own' k = own k) : LOk w own' i e :=
  ⟨h.l, h.x, h.y, h.fl, h.fx, h.fw, h.hx, h.hw, h.hl, h.hc, fun h0 g hg => (ho _ (h.gl h0 hg)).trans (h.ol h0 g hg), (ho _ h.xl).trans h.ox, (ho _ h.wl).trans h.ow, h.nx, h.nl⟩

def pairCells (e : HEnt) : List Value := [.pointer (some ⟨e.p, 0, none⟩), .pointer (some ⟨e.q, 0, none⟩)]
def listCells (e : LEnt) : List Value := [.slice e.ao e.len e.cl, .slice (some ⟨e.bx, 0, none⟩) (e.len + 2) e.cx, .slice (some ⟨e.bw, 0, none⟩) (e.len + 2) e.cw]

structure WSt (w0 w : World) (wp : Nat) (own : Nat → Nat) (bd : Nat) (hv lv : Value) (hs : List HEnt) (ls : List LEnt) : Prop where
  c0 : w.cell? ⟨wp, 0, none⟩ = some hv
  c1 : w.cell? ⟨wp, 1, none⟩ = some lv
  fz : ∀ o, w.frozen? ⟨wp, o, none⟩ = false
  ow : own wp = 1
  hrow : w.ownsRow w0.heap.size 65 2 hv hs.length (hs.flatMap pairCells)
  lrow : w.ownsRow w0.heap.size 69 3 lv ls.length (ls.flatMap listCells)
  oh : ∀ g, hv.ownBlock = some g → own g = 2
  ol : ∀ g, lv.ownBlock = some g → own g = 3
  hok : ∀ i e, hs[i]? = some e → HOk w own i bd e
  lok : ∀ i e, ls[i]? = some e → LOk w own i e
  old : ∀ k, k < w0.heap.size → own k = 0
  fr : Fr NoB w0 w
  hl : hs.length ≤ bd + 1
  ll : ls.length ≤ bd

theorem WSt.wl {w0 w : World} {wp : Nat} {own : Nat → Nat} {bd : Nat} {hv lv : Value} {hs : List HEnt} {ls : List LEnt} (h : WSt w0 w wp own bd hv lv hs ls) : wp < w.heap.size := World.block_lt_of_cell? w _ h.c0
theorem WSt.reown {w0 w : World} {wp : Nat} {own own' : Nat → Nat} {bd : Nat} {hv lv : Value} {hs : List HEnt} {ls : List LEnt} (h : WSt w0 w wp own bd hv lv hs ls) (ho : ∀ k, k < w.heap.size → own' k = own k) : WSt w0 w wp own' bd hv lv hs ls :=
  ⟨h.c0, h.c1, h.fz, (ho _ h.wl).trans h.ow, h.hrow, h.lrow, fun g hg => (ho _ (h.hrow.lt g hg).2).trans (h.oh g hg), fun g hg => (ho _ (h.lrow.lt g hg).2).trans (h.ol g hg),
    fun i e he => (h.hok i e he).reown ho, fun i e he => (h.lok i e he).reown ho, fun k hk => (ho _ (by have := h.fr.size; omega)).trans (h.old k hk), h.fr, h.hl, h.ll⟩
theorem WSt.mono {w0 w : World} {wp : Nat} {own : Nat → Nat} {bd bd' : Nat} {hv lv : Value} {hs : List HEnt} {ls : List LEnt} (h : WSt w0 w wp own bd hv lv hs ls) (hb : bd ≤ bd') : WSt w0 w wp own bd' hv lv hs ls :=
  ⟨h.c0, h.c1, h.fz, h.ow, h.hrow, h.lrow, h.oh, h.ol, fun i e he => (h.hok i e he).mono hb, h.lok, h.old, h.fr, by have := h.hl; omega, by have := h.ll; omega⟩
theorem WSt.no {w0 w w' : World} {wp : Nat} {own : Nat → Nat} {bd : Nat} {hv lv : Value} {hs : List HEnt} {ls : List LEnt} (h : WSt w0 w wp own bd hv lv hs ls) (hf : Fr NoB w w') : WSt w0 w' wp own bd hv lv hs ls :=
  ⟨hf.cell_some h.c0 id, hf.cell_some h.c1 id, fun o => (hf.frozen (p := ⟨wp, o, none⟩) h.wl id).trans (h.fz o), h.ow, hf.owns h.hrow (fun _ _ e => e), hf.owns h.lrow (fun _ _ e => e), h.oh, h.ol,
    fun i e he => (h.hok i e he).fr hf (fun _ e => e.elim), fun i e he => (h.lok i e he).fr hf (fun _ e => e.elim), h.old, h.fr.trans hf, h.hl, h.ll⟩

/-- heap j has turned, by either side's methods -/
theorem WSt.heapTurn {w0 w w' : World} {wp : Nat} {own : Nat → Nat} {bd : Nat} {hv lv : Value} {hs : List HEnt} {ls : List LEnt} (h : WSt w0 w wp own bd hv lv hs ls) {j : Nat} {e e' : HEnt} (hj : hs[j]? = some e)
    (hf : Fr (fun k => own k = 4 + 3 * j ∨ own k = 5 + 3 * j) w w') (he : HOk w' own j bd e') (hp : e'.p = e.p) (hq : e'.q = e.q) : ∃ hs', WSt w0 w' wp own bd hv lv hs' ls ∧ hs'.length = hs.length := by
  have hjl : j < hs.length := (List.getElem?_eq_some_iff.1 hj).1
  have hje : hs[j] = e := (List.getElem?_eq_some_iff.1 hj).2
  have hcells : (hs.set j e').flatMap pairCells = hs.flatMap pairCells := by
    rw [List.flatMap_def, List.flatMap_def, List.map_set]
    have : pairCells e' = (hs.map pairCells)[j]'(by simpa using hjl) := by
      rw [List.getElem_map, hje]; unfold pairCells; rw [hp, hq]
    rw [this, List.set_getElem_self]
  refine ⟨hs.set j e', ⟨hf.cell_some h.c0 ?_, hf.cell_some h.c1 ?_, fun o => (hf.frozen (p := ⟨wp, o, none⟩) h.wl ?_).trans (h.fz o), h.ow, ?_, ?_, h.oh, h.ol, ?_, ?_, h.old, ?_, ?_, h.ll⟩, by simp⟩
  · rintro (g | g) <;> (have := h.ow; simp only at g; omega)
  · rintro (g | g) <;> (have := h.ow; simp only at g; omega)
  · rintro (g | g) <;> (have := h.ow; simp only at g; omega)
  · rw [List.length_set, hcells]; exact hf.owns h.hrow (fun k hk => by rintro (g | g) <;> (have := h.oh k hk; omega))
  · exact hf.owns h.lrow (fun k hk => by rintro (g | g) <;> (have := h.ol k hk; omega))
  · intro i x hx
    by_cases hij : i = j
    · subst hij
      rw [List.getElem?_set_self hjl] at hx
      injection hx with hx
      subst hx
      exact he
    · rw [List.getElem?_set_ne (fun e => hij e.symm)] at hx
      exact (h.hok i x hx).fr hf (fun k hk => by rcases hk with g | g <;> (constructor <;> omega))
  · intro i x hx
    exact (h.lok i x hx).fr hf (fun k hk => by rcases hk with g | g <;> omega)
  · exact h.fr.then hf (fun k hk hs => by have := h.old k hk; rcases hs with g | g <;> omega)
  · rw [List.length_set]; exact h.hl
end Go.Proofs.YtcmnejcojphijaaGreatDoor
