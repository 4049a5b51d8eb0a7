import Derived.Test.YtcmnejcojphijaaGreatDoorLaw6
namespace Go.Proofs.YtcmnejcojphijaaGreatDoor
open Go.RowKit

theorem span_intRow {w : World} {base : Nat} {v : Value} {L : List (Nat × Nat)} (h : w.ownsRow base 82 2 v L.length (spanCells L)) (k : Int) :
    ∃ ao cap, v = .slice ao L.length cap ∧ IntRow w ao L.length (LA L k) (LN L k) := by
  rw [spanCells_eq L k] at h
  obtain ⟨ao, cap, e, _, _, h1, _⟩ := intRow_of h
  exact ⟨ao, cap, e, h1⟩

theorem slice_of_two {w : World} {base : Nat} {e : TypeId} {size n : Nat} {v : Value} {xs : List Value} (h : w.ownsRow base e size v (n + 2) xs) : ∃ b c, v = .slice (some ⟨b, 0, none⟩) (n + 2) c := by
  rcases h.2 with ⟨_, hn⟩ | ⟨g, cap, cur, rfl, _⟩
  · omega
  · exact ⟨g, cap, rfl⟩

set_option maxRecDepth 20000 in
set_option maxHeartbeats 2000000 in
theorem lruns_any (w0 w : World) (wp : Nat) (own : Nat → Nat) (bd : Nat) (hv lv : Value) (hs : List HEnt) (ls : List LEnt) (j : Nat) (x : HEnt) (h : WSt w0 w wp own bd hv lv hs ls) (hbd : bd ≤ 2932031007402) (hj : hs[j]? = some x) :
    Calls Tryz.prog 58 #[.pointer (some ⟨wp, 0, none⟩), .agg #[.pointer (some ⟨x.p, 0, none⟩), .pointer (some ⟨x.q, 0, none⟩)]] w fun e w' => e = .returned (.bool true) ∧ WOkH w0 w' wp (bd + 1) := by
  have hll := h.ll
  have hpos : 0 < hs.length := by have := (List.getElem?_eq_some_iff.1 hj).1; omega
  have hH := h.hok j x hj
  have hn := hH.heap.hi
  obtain ⟨i0, hi0, hz0, hz1, hz2⟩ := info_parts Tryz.infoList
  go_enter Tryz.func58, Tryz.ntmps58
  go_wp2_with fail
  refine (sruns_any _ x.p x.r x.n x.B x.V (hH.heap.no ((Fr.refl _ _).alloc _))).mono ?_
  rintro e w1 ⟨vl, L, rfl, hL, hl1, hF1⟩
  have hF01 : Fr NoB w w1 := ((Fr.refl _ _).alloc _).trans hF1
  have hF01s : Hid (w.heap.size ≤ w1.heap.size) := hF01.size
  have hlb := owns_mono hl1 (show w.heap.size ≤ _ by simp)
  have c1 : w1.cell? ⟨w.heap.size, 1, none⟩ = some (.pointer (some ⟨x.q, 0, none⟩)) := hF1.cell_some (by simp) id
  clear hF1 hl1
  go_wp2_with fail
  refine (rruns_any _ x.q x.ri x.rh x.n x.I x.H x.md (hH.ref.no hF01)).mono ?_
  rintro e w2 ⟨vm, M, rfl, hM, hm2, hF2⟩
  have hML : M = L := runs_unique _ _ 0 hM (runs_congr hH.rel.zz L 0 hL)
  subst hML
  have hLn := runs_len_le M 0 (Nat.zero_le _) hL
  have hl2 := hF2.owns hlb (fun _ _ e => e)
  have hlt1 : ∀ g, vl.ownBlock = some g → g < w1.heap.size := fun g hg => (hlb.lt g hg).2
  have hF02 := hF01.trans hF2
  have H12 : Hid (w1.heap.size ≤ w2.heap.size) := hF2.size
  have Hlt1 : Hid (∀ g, vl.ownBlock = some g → g < w1.heap.size) := hlt1
  clear hF2 hlb hL hM hlt1 c1 hF01
  go_wp2_with fail
  obtain ⟨al, cl, el, irl⟩ := span_intRow hl2 0
  obtain ⟨am, cm, em, irm⟩ := span_intRow hm2 0
  subst el
  subst em
  refine (lsame_yes _ al am M.length cl cm _ _ irl irm (by omega)).mono ?_
  rintro e w3 ⟨rfl, hF3⟩
  have hl3 := hF3.owns hl2 (fun _ _ e => e)
  have hm3 := hF3.owns hm2 (fun _ _ e => e)
  have hF03 := hF02.trans hF3
  have H23 : Hid (w2.heap.size ≤ w3.heap.size) := hF3.size
  have Hmlt : Hid (∀ g, (Value.slice am M.length cm).ownBlock = some g → w1.heap.size ≤ g ∧ g < w2.heap.size) := fun g hg => hm2.lt g hg
  have hW3 := h.no hF03
  have d1 := hW3.c1
  obtain ⟨ao, cap, elv, hrow⟩ := lrow_of h.lrow
  rw [elv] at d1
  clear hF3 hl2 hm2 hF02 irl irm hrow hW3
  go_wp2_with fail
  refine (lmark_fn _ ls.length (by omega)).mono ?_
  rintro e w4 ⟨rfl, hF4⟩
  have hl4 := hF4.owns hl3 (fun _ _ e => e)
  have hm4 := hF4.owns hm3 (fun _ _ e => e)
  have hF04 := hF03.trans hF4
  have H34 : Hid (w3.heap.size ≤ w4.heap.size) := hF4.size
  obtain ⟨k, hk⟩ : ∃ k : Int, k = -1 - (ls.length : Int) := ⟨_, rfl⟩
  rw [← hk]
  clear hk hF4 hl3 hm3 hF03 d1
  go_wp2_with fail
  have hl5 := hl4.alloc (Obj.cells #[Value.int .i64 k, Value.int .i64 k] 82)
  have hm5 := hm4.alloc (Obj.cells #[Value.int .i64 k, Value.int .i64 k] 82)
  have s04 := hF04.size
  refine (lmarked_any _ w.heap.size _ M.length _ k k hl5 (by simp; omega) (by omega)).mono ?_
  rintro e w6 ⟨vx, rfl, hx6, hl6, hF6, hpx⟩
  have hm6 := hF6.owns hm5 (fun g hg e => by have q1 := Hlt1.out g e; have q2 := (Hmlt.out g hg).1; omega)
  have hnb : ¬ (Value.slice al M.length cl).ownBlock = some w4.heap.size := fun e => by have q1 := Hlt1.out _ e; have := H12.out; have := H23.out; have := H34.out; omega
  have k0 : w6.cell? ⟨w4.heap.size, 0, none⟩ = some (.int .i64 k) := hF6.cell_some (by simp) hnb
  have k1 : w6.cell? ⟨w4.heap.size, 1, none⟩ = some (.int .i64 k) := hF6.cell_some (by simp) hnb
  have hF06 : Fr NoB w w6 := (hF04.alloc _).then hF6 (fun q hq e => by have q1 := (hl5.lt q e).1; omega)
  obtain ⟨bx, cx, ex⟩ := slice_of_two hx6
  subst ex
  have Hpx : Hid (w4.heap.size + 1 ≤ bx ∨ (Value.slice al M.length cl).ownBlock = some bx) := by
    rcases hpx bx rfl with q | q
    · exact .inl (by simpa using q)
    · exact .inr q
  have H46 : Hid (w4.heap.size + 1 ≤ w6.heap.size) := by show w4.heap.size + 1 ≤ w6.heap.size; have := hF6.size; simpa using this
  have hbx6 : bx < w6.heap.size := (hx6.lt bx rfl).2
  clear hF6 hl5 hm5 hl4 hm4 hpx hnb hF04
  go_wp2_with fail
  refine (lmarked_any _ w1.heap.size _ M.length _ k k hm6 (by have := H12.out; have := H23.out; have := H34.out; have := H46.out; omega) (by omega)).mono ?_
  rintro e w7 ⟨vw, rfl, hw7, _, hF7, hpw⟩
  have hxm : ¬ (Value.slice am M.length cm).ownBlock = some bx := fun e => by
    have q2 := Hmlt.out bx e
    rcases Hpx.out with q | q
    · have := H23.out; have := H34.out; omega
    · have q1 := Hlt1.out bx q; omega
  have hl7 := hF7.owns hl6 (fun g hg e => by have q1 := Hlt1.out g hg; have q2 := (Hmlt.out g e).1; omega)
  have hx7 := hF7.owns hx6 (fun g hg e => by
    have e3 : bx = g := by simpa [Value.ownBlock] using hg
    subst e3; exact hxm e)
  have hs01 : w.heap.size ≤ w1.heap.size := hF01s.out
  have hF07 : Fr NoB w w7 := hF06.then hF7 (fun q hq e => by have q2 := (Hmlt.out q e).1; omega)
  obtain ⟨bw, cw, ew⟩ := slice_of_two hw7
  subst ew
  have Hnx : Hid (bx ≠ bw ∧ ∀ g, (Value.slice al M.length cl).ownBlock = some g → g ≠ bw) := by
    refine ⟨fun e => ?_, fun g hg e => ?_⟩
    · subst e
      rcases hpw bx rfl with q | q
      · omega
      · exact hxm q
    · subst e
      rcases hpw g rfl with q | q
      · have q1 := Hlt1.out g hg; have := H12.out; have := H23.out; have := H34.out; have := H46.out; omega
      · have q1 := Hlt1.out g hg; have q2 := (Hmlt.out g q).1; omega
  have hW7 := h.no hF07
  have c1 := hW7.c1
  rw [elv] at c1
  have hrow7 := hW7.lrow
  rw [elv] at hrow7
  have fz := hW7.fz 1
  have hwl := hW7.wl
  have hs0 := hW7.fr.size
  have hw7' := owns_mono hw7 hs01
  have HA := show Hid (_ ∧ _ ∧ _ ∧ _) from ⟨hF07, hl7, hx7, hw7'⟩
  have Hne : Hid (¬ lv.ownBlock = some wp) := fun e => by have g1 := h.ol _ e; have g2 := h.ow; omega
  clear hF7 hl6 hx6 hm6 hw7 hpw hxm hl7 hx7 hw7' hF07 hF06 k0 k1 hW7
  go_wp2_with (at_builtin; refine wpList_append_kind _ rfl _ _ 36 rfl w0.heap.size 69 i0 (.agg #[.slice none 0 0, .slice none 0 0, .slice none 0 0]) 3 72 Tryz.underlying36 hi0 hz0 hz1 hz2 rfl (by decide) _ _ _ rfl (hrow7.alloc _) ⟨w7.heap.size, 0, none⟩ 1 1 [.slice al M.length cl, .slice (some ⟨bx, 0, none⟩) (M.length + 2) cx, .slice (some ⟨bw, 0, none⟩) (M.length + 2) cw] (by decide) rfl rfl ?c1 ?c2 ?c3 ?c4 ?c5 ?_)
  case c1 =>
    intro j u hj
    match j, hj with
    | 0, hj => simp at hj; subst hj; simp [Addr.add]
    | 1, hj => simp at hj; subst hj; simp [Addr.add]
    | 2, hj => simp at hj; subst hj; simp [Addr.add]
  case c2 => intro u hu; simp at hu; rcases hu with rfl | rfl | rfl <;> rfl
  case c3 => unfold maxLen; omega
  case c4 => omega
  case c5 => simp; omega
  intro lv' w8 hown hk
  rw [← elv] at hk
  obtain ⟨a1, a2, a3, a4⟩ := HA.out
  have HE : Hid (WOkH w0 (w8.setCell ⟨wp, 1, none⟩ lv') wp (bd + 1)) := addList h a1 a2 a3 a4 rfl rfl rfl (by omega) Hnx.out.1 Hnx.out.2 hown hk hpos
  have hfr := hk.fr
  have d0 : w8.cell? ⟨wp, 1, none⟩ = some (.slice ao ls.length cap) := hfr.cell_some (((Fr.refl NoB w7).alloc _).cell_some c1 id) Hne.out
  have d1 : w8.frozen? ⟨wp, 1, none⟩ = false := (hfr.frozen (p := ⟨wp, 1, none⟩) (by simp; omega) Hne.out).trans ((((Fr.refl NoB w7).alloc _).frozen (p := ⟨wp, 1, none⟩) hwl id).trans fz)
  obtain ⟨g', cap', hve, _⟩ := hk.place
  subst hve
  clear hown hk hfr a1 a2 a3 a4 hrow7 c1 fz
  go_wp2
  go_ret
  exact ⟨rfl, HE.out⟩
end Go.Proofs.YtcmnejcojphijaaGreatDoor
