/-
  The program's reader in memory: its lists grow.
-/
import Derived.Test.YtdpkcniiljpdbaaDevY
namespace Go.Proofs.Ytdpkcniiljpdbaa
open Go.RowKit
set_option linter.unusedVariables false

def intC (o : Nat) : Value := .int .i64 (o : Int)
/-- the reader in memory, with its lists -/
structure RdP (w : World) (kp base : Nat) (s : ByteArray) (r : Rs) (pv ov : Value) : Prop where
  rd : Rd w kp s r.z pv ov
  pr : w.ownsRow base 89 5 pv r.P.length (r.P.flatMap ptC)
  orow : w.ownsRow base 3 1 ov r.O.length (r.O.map intC)
  kb : kp < base
  ne : ∀ g, pv.ownBlock = some g → ov.ownBlock ≠ some g
theorem owns_base {w : World} {base : Nat} {e : TypeId} {size : Nat} {v : Value} {n : Nat} {xs : List Value} (h : w.ownsRow base e size v n xs) {g : Nat} (hg : v.ownBlock = some g) : base ≤ g ∧ g < w.heap.size := by
  rcases h.2 with ⟨hv, _⟩ | ⟨g', cap, cur, hv, hb, hh, _⟩
  · rw [hv] at hg; simp [Value.ownBlock] at hg
  · rw [hv] at hg
    simp [Value.ownBlock] at hg
    subst hg
    exact ⟨hb, (Array.getElem?_eq_some_iff.1 hh).1⟩
theorem RdP.fr {S : Nat → Prop} {w w' : World} {kp base : Nat} {s : ByteArray} {r : Rs} {pv ov : Value} (h : RdP w kp base s r pv ov) (hF : Fr S w w') (hk : ¬ S kp) (hp : ∀ g, pv.ownBlock = some g → ¬ S g) (ho : ∀ g, ov.ownBlock = some g → ¬ S g) : RdP w' kp base s r pv ov :=
  ⟨h.rd.fr hF hk, hF.owns h.pr hp, hF.owns h.orow ho, h.kb, h.ne⟩
theorem RdP.no {w w' : World} {kp base : Nat} {s : ByteArray} {r : Rs} {pv ov : Value} (h : RdP w kp base s r pv ov) (hF : Fr NoB w w') : RdP w' kp base s r pv ov := h.fr hF id (fun _ _ => id) (fun _ _ => id)
/-- a call that takes bytes -/
theorem RdP.step {w w' : World} {kp base : Nat} {s : ByteArray} {r : Rs} {z : Nat × Nat} {pv ov : Value} (h : RdP w kp base s r pv ov) (hF : Fr (OneB kp) w w') (hR : Rd w' kp s z pv ov) : RdP w' kp base s ⟨z, r.P, r.O⟩ pv ov :=
  ⟨hR, hF.owns h.pr (fun g hg e => by have := owns_base h.pr hg; have := h.kb; unfold OneB at e; omega), hF.owns h.orow (fun g hg e => by have := owns_base h.orow hg; have := h.kb; unfold OneB at e; omega), h.kb, h.ne⟩
/-- a cell of a block that is none of the reader's -/
theorem RdP.set {w : World} {kp base pb : Nat} {s : ByteArray} {r : Rs} {pv ov : Value} (h : RdP w kp base s r pv ov) (h1 : pb ≠ kp) (h2 : ∀ g, pv.ownBlock = some g → g ≠ pb) (h3 : ∀ g, ov.ownBlock = some g → g ≠ pb) (o : Nat) (u : Value) : RdP (w.setCell ⟨pb, o, none⟩ u) kp base s r pv ov :=
  h.fr ((Fr.refl (OneB pb) w).setCell (p := ⟨pb, o, none⟩) (fun _ => rfl) u) (fun e => h1 e.symm) (fun g hg e => h2 g hg e) (fun g hg e => h3 g hg e)

theorem RdP.growP {w w2 : World} {o : Obj} {kp base : Nat} {s : ByteArray} {r : Rs} {pv ov v' : Value} {t : Pt} (h : RdP w kp base s r pv ov) (hk : AppKind (w.alloc o).drew w2 pv v' r.P.length 1)
    (hown : w2.ownsRow base 89 5 v' (r.P.length + 1) (r.P.flatMap ptC ++ ptC t)) :
    w2.cell? ⟨kp, 2, none⟩ = some pv ∧ w2.frozen? ⟨kp, 2, none⟩ = false ∧ RdP (w2.setCell ⟨kp, 2, none⟩ v') kp base s ⟨r.z, r.P ++ [t], r.O⟩ v' ov ∧ Fr (StkS kp base) w (w2.setCell ⟨kp, 2, none⟩ v') := by
  have hF : Fr (fun k => pv.ownBlock = some k) w w2 := (((Fr.refl _ w).alloc o).drew).trans hk.fr
  have hkb := h.kb
  have hnk : ¬ pv.ownBlock = some kp := fun e => by have := owns_base h.pr e; omega
  have hR := h.rd.fr hF hnk
  have hO := hF.owns h.orow (fun g hg e => h.ne g e hg)
  have hvk : v'.ownBlock ≠ some kp := fun e => by have := owns_base hown e; omega
  have hok : ov.ownBlock ≠ some kp := fun e => by have := owns_base h.orow e; omega
  refine ⟨hR.c2, hR.f 2, ⟨hR.set2 v', ?_, ?_, hkb, ?_⟩, ?_⟩
  · have hx : (r.P ++ [t]).flatMap ptC = r.P.flatMap ptC ++ ptC t := by simp
    show (w2.setCell ⟨kp, 2, none⟩ v').ownsRow base 89 5 v' (r.P ++ [t]).length ((r.P ++ [t]).flatMap ptC)
    rw [hx, List.length_append, List.length_singleton]
    exact ((Fr.refl (OneB kp) w2).setCell (p := ⟨kp, 2, none⟩) (fun _ => rfl) _).owns hown (fun g hg e => hvk (by rw [show g = kp from e] at hg; exact hg))
  · exact ((Fr.refl (OneB kp) w2).setCell (p := ⟨kp, 2, none⟩) (fun _ => rfl) _).owns hO (fun g hg e => hok (by rw [show g = kp from e] at hg; exact hg))
  · intro g hg e
    obtain ⟨g2, cap2, rfl, hp⟩ := hk.place
    have e3 : g2 = g := by simpa [Value.ownBlock] using hg
    subst e3
    rcases hp with q | q
    · have := owns_base h.orow e
      simp at q
      omega
    · exact h.ne _ q e
  · exact (hF.mono (fun k hk2 e => .inr (owns_base h.pr e).1)).setCell (p := ⟨kp, 2, none⟩) (fun _ => .inl rfl) _
theorem RdP.growO {w w2 : World} {o : Obj} {kp base : Nat} {s : ByteArray} {r : Rs} {pv ov v' : Value} {t : Nat} (h : RdP w kp base s r pv ov) (hk : AppKind (w.alloc o).drew w2 ov v' r.O.length 1)
    (hown : w2.ownsRow base 3 1 v' (r.O.length + 1) (r.O.map intC ++ [intC t])) :
    w2.cell? ⟨kp, 3, none⟩ = some ov ∧ w2.frozen? ⟨kp, 3, none⟩ = false ∧ RdP (w2.setCell ⟨kp, 3, none⟩ v') kp base s ⟨r.z, r.P, r.O ++ [t]⟩ pv v' ∧ Fr (StkS kp base) w (w2.setCell ⟨kp, 3, none⟩ v') := by
  have hF : Fr (fun k => ov.ownBlock = some k) w w2 := (((Fr.refl _ w).alloc o).drew).trans hk.fr
  have hkb := h.kb
  have hnk : ¬ ov.ownBlock = some kp := fun e => by have := owns_base h.orow e; omega
  have hR := h.rd.fr hF hnk
  have hP := hF.owns h.pr (fun g hg e => h.ne g hg e)
  have hvk : v'.ownBlock ≠ some kp := fun e => by have := owns_base hown e; omega
  have hpk : pv.ownBlock ≠ some kp := fun e => by have := owns_base h.pr e; omega
  refine ⟨hR.c3, hR.f 3, ⟨hR.set3 v', ?_, ?_, hkb, ?_⟩, ?_⟩
  · exact ((Fr.refl (OneB kp) w2).setCell (p := ⟨kp, 3, none⟩) (fun _ => rfl) _).owns hP (fun g hg e => hpk (by rw [show g = kp from e] at hg; exact hg))
  · show (w2.setCell ⟨kp, 3, none⟩ v').ownsRow base 3 1 v' (r.O ++ [t]).length ((r.O ++ [t]).map intC)
    rw [List.map_append, List.length_append, List.length_singleton]
    exact ((Fr.refl (OneB kp) w2).setCell (p := ⟨kp, 3, none⟩) (fun _ => rfl) _).owns hown (fun g hg e => hvk (by rw [show g = kp from e] at hg; exact hg))
  · intro g hg e
    obtain ⟨g2, cap2, rfl, hp⟩ := hk.place
    have e3 : g2 = g := by simpa [Value.ownBlock] using e
    subst e3
    rcases hp with q | q
    · have := owns_base h.pr hg
      simp at q
      omega
    · exact h.ne _ hg q
  · exact (hF.mono (fun k hk2 e => .inr (owns_base h.orow e).1)).setCell (p := ⟨kp, 3, none⟩) (fun _ => .inl rfl) _

theorem Try.infoPart : (Try.prog.info? 89).map (fun i => (i.zero, i.size, i.bytes)) = some (some (.agg #[.int .i64 0, .int .i64 0, .int .i64 0, .int .i64 0, .int .i64 0]), 5, 40) := by kernel_rfl
theorem Try.infoInt : (Try.prog.info? 3).map (fun i => (i.zero, i.size, i.bytes)) = some (some (.int .i64 0), 1, 8) := by kernel_rfl

/-- what one part's reading answers -/
def PartSays (kp base : Nat) (s : ByteArray) (r : Rs) (w : World) (x : Ending) (w' : World) : Prop := x = .returned (.tuple #[]) ∧ (∃ pv ov, RdP w' kp base s r pv ov) ∧ Fr (StkS kp base) w w'

/-- the reader in the middle of a part -/
structure Wk (w0 w : World) (kp base pb : Nat) (s : ByteArray) (r : Rs) (pv ov : Value) (t : Pt) : Prop where
  rp : RdP w kp base s r pv ov
  pt : PtAt w pb t
  fr : Fr (StkS kp base) w0 w
  hb : base ≤ w0.heap.size
  hp : w0.heap.size ≤ pb
  n1 : pb ≠ kp
  n2 : ∀ g, pv.ownBlock = some g → g ≠ pb
  n3 : ∀ g, ov.ownBlock = some g → g ≠ pb
theorem Wk.start {w : World} {kp base : Nat} {s : ByteArray} {r : Rs} {pv ov : Value} (h : RdP w kp base s r pv ov) (hb : base ≤ w.heap.size) (t : Pt) :
    Wk w (w.alloc (.cells #[.int .i64 (t.kind : Int), .int .i64 (t.place : Int), .int .i64 (t.box : Int), .int .i64 (t.src : Int), .int .i64 (t.opn : Int)] 89)) kp base w.heap.size s r pv ov t :=
  ⟨h.no ((Fr.refl _ _).alloc _), PtAt.new w t, (Fr.refl _ _).alloc _, hb, Nat.le_refl _, fun e => by have := h.rd.lt; omega, fun g hg e => by have := owns_base h.pr hg; omega, fun g hg e => by have := owns_base h.orow hg; omega⟩
section
variable {w0 w w' : World} {kp base pb : Nat} {s : ByteArray} {r : Rs} {pv ov : Value} {t : Pt} {z : Nat × Nat}
theorem Wk.step (h : Wk w0 w kp base pb s r pv ov t) (hF : Fr (OneB kp) w w') (hR : Rd w' kp s z pv ov) : Wk w0 w' kp base pb s ⟨z, r.P, r.O⟩ pv ov t :=
  ⟨h.rp.step hF hR, h.pt.fr hF (fun e => h.n1 e), h.fr.trans (hF.mono (fun k _ e => .inl e)), h.hb, h.hp, h.n1, h.n2, h.n3⟩
theorem Wk.no (h : Wk w0 w kp base pb s r pv ov t) (hF : Fr NoB w w') : Wk w0 w' kp base pb s r pv ov t :=
  ⟨h.rp.no hF, h.pt.fr hF id, h.fr.trans hF.of_no, h.hb, h.hp, h.n1, h.n2, h.n3⟩
theorem Wk.set0 (h : Wk w0 w kp base pb s r pv ov t) (k : Nat) : Wk w0 (w.setCell ⟨pb, 0, none⟩ (.int .i64 (k : Int))) kp base pb s r pv ov ⟨k, t.place, t.box, t.src, t.opn⟩ :=
  ⟨h.rp.set h.n1 h.n2 h.n3 _ _, h.pt.set0 k, h.fr.setCell (p := ⟨pb, 0, none⟩) (fun q => by have := h.hp; simp only [] at q; omega) _, h.hb, h.hp, h.n1, h.n2, h.n3⟩
theorem Wk.set2 (h : Wk w0 w kp base pb s r pv ov t) (k : Nat) : Wk w0 (w.setCell ⟨pb, 2, none⟩ (.int .i64 (k : Int))) kp base pb s r pv ov ⟨t.kind, t.place, k, t.src, t.opn⟩ :=
  ⟨h.rp.set h.n1 h.n2 h.n3 _ _, h.pt.set2 k, h.fr.setCell (p := ⟨pb, 2, none⟩) (fun q => by have := h.hp; simp only [] at q; omega) _, h.hb, h.hp, h.n1, h.n2, h.n3⟩
theorem Wk.set3 (h : Wk w0 w kp base pb s r pv ov t) (k : Nat) : Wk w0 (w.setCell ⟨pb, 3, none⟩ (.int .i64 (k : Int))) kp base pb s r pv ov ⟨t.kind, t.place, t.box, k, t.opn⟩ :=
  ⟨h.rp.set h.n1 h.n2 h.n3 _ _, h.pt.set3 k, h.fr.setCell (p := ⟨pb, 3, none⟩) (fun q => by have := h.hp; simp only [] at q; omega) _, h.hb, h.hp, h.n1, h.n2, h.n3⟩
end
theorem owns_form {w : World} {base : Nat} {e : TypeId} {size : Nat} {v : Value} {n : Nat} {xs : List Value} (h : w.ownsRow base e size v n xs) : ∃ ao cap, v = .slice ao n cap := by
  rcases h.2 with ⟨hv, h0⟩ | ⟨g, cap, cur, hv, _⟩
  · exact ⟨none, 0, by rw [hv, h0]⟩
  · exact ⟨_, _, hv⟩

set_option maxRecDepth 8000 in
set_option maxHeartbeats 4000000 in
theorem ending_fn (w : World) (kp base : Nat) (s : ByteArray) (r : Rs) (pv ov : Value) (h : RdP w kp base s r pv ov) (hz : Zb s r.z) (hb : base ≤ w.heap.size) (hl : r.P.length ≤ 90001) :
    Calls Try.prog 53 #[.pointer (some ⟨kp, 0, none⟩)] w fun x w' => PartSays kp base s (rEnd s r) w x w' := by
  obtain ⟨i0, hi0, hz0, hz1, hz2⟩ := info_parts Try.infoPart
  obtain ⟨ao, cap, rfl⟩ := owns_form h.pr
  have HR : Hid (RdP w kp base s r (.slice ao r.P.length cap) ov) := h
  have Hz : Hid (Zb s r.z) := hz
  have c1 := h.rd.c1
  have hkl := h.rd.lt
  clear h hz
  have HW0 : Hid _ := Wk.start HR.out hb ⟨6, r.z.1, 0, 0, 0⟩
  simp only [] at HW0
  go_enter Try.func53, Try.ntmps53
  go_upto_region 1 with fail
  generalize (w.alloc _) = W0 at *
  generalize hpb : w.heap.size = pb at *
  clear hpb
  go_wp2_with fail
  refine (take_fn _ kp s r.z _ ov HW0.out.rp.rd Hz.out 126 (by decide)).mono ?_
  rintro x w1 ⟨rfl, hR1, hF1⟩
  have HW1 : Hid _ := HW0.out.step hF1 hR1
  clear hR1 hF1 HW0
  go_wp2_with fail
  refine (box_fn _ kp s _ _ ov HW1.out.rp.rd (Hz.out.tk (by decide))).mono ?_
  rintro x w2 ⟨rfl, hR2, hF2⟩
  have HW2 : Hid _ := HW1.out.step hF2 hR2
  clear hR2 hF2 HW1
  have d22 := HW2.out.pt.c2
  have g22 := HW2.out.pt.f 2
  go_wp2_with fail
  have HW3 : Hid _ := HW2.out.set2 (bxV s (tk s 126 r.z))
  clear HW2
  simp only [] at HW3
  refine (take_fn _ kp s _ _ ov HW3.out.rp.rd (Hz.out.tk (by decide)).bx 59 (by decide)).mono ?_
  rintro x w4 ⟨rfl, hR4, hF4⟩
  have HW4 : Hid _ := HW3.out.step hF4 hR4
  clear hR4 hF4 HW3
  have HT : Hid _ := HW4.out
  clear HW4
  generalize hT : (⟨_, _, _, _, _⟩ : Pt) = tt at HT
  have HTT : Hid _ := hT
  clear hT
  have hrow := HT.out.rp.pr
  have e0 := HT.out.pt.c0
  have e1 := HT.out.pt.c1
  have e2 := HT.out.pt.c2
  have e3 := HT.out.pt.c3
  have e4 := HT.out.pt.c4
  have eP := HT.out.rp.rd.c2
  have hsz := HT.out.fr.size
  have hbb := HT.out.hb
  have hkl2 := HT.out.rp.rd.lt
  have hpl2 := HT.out.pt.lt
  simp only [] at hrow eP
  go_upto_region 4 with fail
  go_region_law ((refine step_append_kind rfl _ _ 62 rfl base 89 i0 (.agg #[.int .i64 0, .int .i64 0, .int .i64 0, .int .i64 0, .int .i64 0]) 5 40 Try.underlying62 hi0 hz0 hz1 hz2 rfl (by decide) _ _ _ rfl ((hrow.alloc _).drew) ⟨w4.heap.size, 0, none⟩ 1 1 [.int .i64 (tt.kind : Int), .int .i64 (tt.place : Int), .int .i64 (tt.box : Int), .int .i64 (tt.src : Int), .int .i64 (tt.opn : Int)] (by decide) rfl rfl (by intro j u hj; match j, hj with | 0, hj => (simp at hj; subst hj; simp [Addr.add]) | 1, hj => (simp at hj; subst hj; simp [Addr.add]) | 2, hj => (simp at hj; subst hj; simp [Addr.add]) | 3, hj => (simp at hj; subst hj; simp [Addr.add]) | 4, hj => (simp at hj; subst hj; simp [Addr.add])) (by intro u hu; simp at hu; rcases hu with rfl | rfl | rfl | rfl | rfl <;> rfl) (by unfold maxLen; omega) (by omega) (by simp; omega) ?_; intro v2 wv hown2 hk2; obtain ⟨y1, y2, y3, y4⟩ := HT.out.rp.growP (t := tt) hk2 hown2; obtain ⟨gb, cb, hve, _⟩ := hk2.place; subst hve; have HG := show Hid (_ ∧ _) from ⟨y3, y4⟩; clear y3 y4 hown2 hk2))
  all_goals
    go_wp2
    go_end0
    exact ⟨rfl, ⟨_, _, by rw [← HTT.out] at HG; exact HG.out.1⟩, HT.out.fr.trans HG.out.2⟩

end Go.Proofs.Ytdpkcniiljpdbaa
