/-
  DevZG, MchT, MchU: one behind the other.
-/
import Derived.Test.YtcmnejcojphijaaDoorP29DevZD
import Derived.BigQuiet
import Derived.Test.YtcmnejcojphijaaDoorP09Rel
import Derived.Laws.IdiomCopy
import Derived.Laws.Cells
namespace Go.Proofs.YtcmnejcojphijaaDoor
open Go.RowKit
set_option linter.unusedVariables false

/-- what is asked of 'part' -/
def PartIs (s : ByteArray) : Prop := ∀ (w : World) (kp base : Nat) (r : Rs) (pv ov : Value), RdP w kp base s r pv ov (cloL r.P) → Zb s r.z → base ≤ w.heap.size → RJ s r → r.z.1 < s.size →
    Calls Tryd.prog 17 #[.pointer (some ⟨kp, 0, none⟩)] w fun x w' => PartSays kp base s (rPart s r) w x w'

/-- what Read answers -/
def ReadSays (s : ByteArray) (w : World) (x : Ending) (w' : World) : Prop := ∃ n, ((rIter s n r0).z.2 ≠ 0 ∨ ¬ (rIter s n r0).z.1 < s.size) ∧ Fr NoB w w' ∧
  (((told (rIter s n r0)).1 ≠ 0 ∧ x = .returned (.tuple #[.slice none 0 0, .int .i64 ((told (rIter s n r0)).1 : Int), .int .i64 ((told (rIter s n r0)).2 : Int)])) ∨
   (told (rIter s n r0) = (0, 0) ∧ (rIter s n r0).z.2 = 0 ∧ (rIter s n r0).O = [] ∧ ∃ ao cap, x = .returned (.tuple #[.slice ao (rIter s n r0).P.length cap, .int .i64 0, .int .i64 0]) ∧ PartRow w' ao (rIter s n r0).P.length (pOf (rIter s n r0).P) (cloL (rIter s n r0).P) ∧ ∀ g, ao = some ⟨g, 0, none⟩ → g < w'.heap.size))

theorem RdP.row {w : World} {kp base : Nat} {s : ByteArray} {r : Rs} {pv ov : Value} {C : Nat → Nat} (h : RdP w kp base s r pv ov C) : ∃ ao cap, pv = .slice ao r.P.length cap ∧ PartRow w ao r.P.length (pOf r.P) C ∧ ∀ g, ao = some ⟨g, 0, none⟩ → g < w.heap.size := by
  have hr := h.pr
  rcases h.pr.2 with ⟨rfl, h0⟩ | ⟨g, cap, cur, rfl, hb, hg, _⟩
  · refine ⟨none, 0, by rw [h0], ?_, fun g e => by cases e⟩
    rw [h0]
    exact ⟨fun q => absurd q (by omega), fun g i j u q => absurd q (by omega)⟩
  · refine ⟨_, _, rfl, ⟨fun _ => ⟨g, rfl⟩, fun g' i j u hi e hu => ?_⟩, fun g' e => ?_⟩
    · injection e with e
      injection e with e
      subst e
      have hj : j < 12 := by
        have := (List.getElem?_eq_some_iff.1 hu).1
        rwa [ptC_len] at this
      exact owns_cell hr (by rw [ptsC_get _ _ _ _ hi hj]; exact hu)
    · injection e with e
      injection e with e
      subst e
      exact (Array.getElem?_eq_some_iff.1 hg).1

/-- how many parts are still to come at most -/
def leftR (s : ByteArray) (r : Rs) : Nat := if r.z.2 = 0 then s.size - r.z.1 + 1 else 0

set_option maxRecDepth 8000 in
set_option maxHeartbeats 4000000 in
theorem read_fn (w : World) (s : ByteArray) (hs : s.size ≤ 90000) (HPart : PartIs s) :
    Calls Tryd.prog 11 #[.string s] w fun x w' => ReadSays s w x w' := by
  have HP : Hid (PartIs s) := HPart
  clear HPart
  have HS0 : Hid (RdP (w.alloc (.cells #[.string s, .int .i64 0, .slice none 0 0, .slice none 0 0, .int .i64 0] 48)) w.heap.size (w.heap.size + 1) s r0 (.slice none 0 0) (.slice none 0 0) (cloL r0.P)) := by
    refine ⟨⟨cell_new _ _ _ rfl rfl, cell_new _ _ _ rfl rfl, cell_new _ _ _ rfl rfl, cell_new _ _ _ rfl rfl, cell_new _ _ _ rfl rfl, fun o => World.frozen?_alloc_at _ _ _ _ rfl⟩, ⟨rfl, .inl ⟨rfl, rfl⟩⟩, ⟨rfl, .inl ⟨rfl, rfl⟩⟩, Nat.lt_succ_self _, fun g hg => by simp [Value.ownBlock] at hg⟩
  have HF0 : Hid (Fr NoB w (w.alloc (.cells #[.string s, .int .i64 0, .slice none 0 0, .slice none 0 0, .int .i64 0] 48))) := (Fr.refl _ _).alloc _
  have hsz0 : w.heap.size + 1 ≤ (w.alloc (.cells #[.string s, .int .i64 0, .slice none 0 0, .slice none 0 0, .int .i64 0] 48)).heap.size := by simp
  go_enter Tryd.func11, Tryd.ntmps11
  go_wp2
  generalize (w.alloc _) = W0 at *
  go_loopg [18] (s.size + 1) (fun k _ wr => ∃ (n : Nat) (pv ov : Value), leftR s (rIter s n r0) ≤ k ∧ RJ s (rIter s n r0) ∧ RdP wr w.heap.size (w.heap.size + 1) s (rIter s n r0) pv ov (cloL (rIter s n r0).P) ∧ Fr NoB w wr ∧ w.heap.size + 1 ≤ wr.heap.size)
  case atStart => exact ⟨0, _, _, Nat.le_refl _, rj0 s, HS0.out, HF0.out, hsz0⟩
  case round =>
    obtain ⟨n, pv, ov, hk, hJ, hR, hF, hsz⟩ := hrel
    have hnext : rIter s (n + 1) r0 = rStep s (rIter s n r0) := by rw [rIter_add]; rfl
    have Hn : Hid (rIter s (n + 1) r0 = rStep s (rIter s n r0)) := hnext
    clear hnext
    generalize hr : rIter s n r0 = r at *
    have Hr : Hid (rIter s n r0 = r) := hr
    clear hr HS0 HF0
    obtain ⟨ao, cap, rfl, hrow, hgl⟩ := hR.row
    obtain ⟨oo, oc, rfl⟩ := owns_form hR.orow
    have c1 := hR.rd.c1
    have c2 := hR.rd.c2
    have c3 := hR.rd.c3
    have c4 := hR.rd.c4
    have hw3 := hJ.w3
    have hin : r.z.1 ≤ s.size := hJ.hin
    have HR : Hid (RdP wr w.heap.size (w.heap.size + 1) s r (.slice ao r.P.length cap) (.slice oo r.O.length oc) (cloL r.P)) := hR
    have HJ : Hid (RJ s r) := hJ
    have HF : Hid (Fr NoB w wr) := hF
    have Hrow : Hid _ := And.intro hrow hgl
    clear hR hJ hF hrow hgl
    by_cases h2 : r.z.2 = 0
    · have b2 : ((r.z.2 : Int) == 0) = true := by rw [h2]; rfl
      by_cases hl : r.z.1 < s.size
      · have hstep : rStep s r = rPart s r := by unfold rStep; rw [if_pos ⟨h2, hl⟩]
        have hpr := rj_part hs HJ.out h2 hl
        have HJ2 : Hid (RJ s (rIter s (n + 1) r0)) := by show RJ s _; rw [Hn.out, hstep]; exact hpr.1
        have Hlt : Hid (leftR s (rIter s (n + 1) r0) < gk) := by
          show leftR s _ < gk
          rw [Hn.out, hstep]
          have h3 : leftR s r = s.size - r.z.1 + 1 := by unfold leftR; rw [if_pos h2]
          have h4 : leftR s (rPart s r) < leftR s r := by
            rw [h3]
            unfold leftR
            split
            · rename_i q
              rcases hpr.2 with q2 | q2
              · exact absurd q q2
              · have : (rPart s r).z.1 ≤ s.size := hpr.1.hin
                omega
            · omega
          omega
        have HPt : Hid (∀ (_ : Unit), Calls Tryd.prog 17 #[.pointer (some ⟨w.heap.size, 0, none⟩)] wr fun x w' => PartSays w.heap.size (w.heap.size + 1) s (rIter s (n + 1) r0) wr x w') := fun _ => by
          rw [Hn.out, hstep]
          exact HP.out wr w.heap.size (w.heap.size + 1) r _ _ HR.out ⟨HJ.out.hin, HJ.out.w3, hs⟩ hsz HJ.out hl
        clear hstep hpr h2
        go_wp2_with (go_at_call 17; refine (HPt.out ()).mono ?_; rintro x w2 ⟨rfl, ⟨pv2, ov2, hRP⟩, hF2⟩)
        go_roundg (leftR s (rIter s (n + 1) r0))
        case measure => exact Hlt.out
        case rel => exact ⟨n + 1, pv2, ov2, Nat.le_refl _, HJ2.out, hRP, HF.out.then hF2 (fun k hk e => by unfold StkS at e; omega), Nat.le_trans hsz hF2.size⟩
      · by_cases hO : r.O = []
        · have b3 : decide (0 < r.O.length) = false := by rw [hO]; rfl
          have HT : Hid (told (rIter s n r0) = (0, 0)) := by show told _ = _; rw [Hr.out]; unfold told; rw [if_neg (fun q => q h2), if_pos hO]
          have H2 : Hid (r.z.2 = 0 ∧ r.O = []) := ⟨h2, hO⟩
          have b4 : ((r.z.2 : Int) != 0) = false := by rw [h2]; rfl
          clear h2 hO
          go_wp2
          go_ret3
          refine ⟨n, .inr (by rw [Hr.out]; exact hl), HF.out, .inr ⟨HT.out, by rw [Hr.out]; exact H2.out.1, by rw [Hr.out]; exact H2.out.2, ao, cap, by rw [Hr.out]; rfl, by rw [Hr.out]; exact Hrow.out.1, Hrow.out.2⟩⟩
        · have hOl : 0 < r.O.length := List.length_pos_iff.2 hO
          have HT : Hid (told (rIter s n r0) = (2, r.z.1)) := by show told _ = _; rw [Hr.out]; unfold told; rw [if_neg (fun q => q h2), if_neg hO]
          have HRf : Hid (rf 2 r.z = (r.z.1, 2)) := rf_ok 2 h2
          clear h2 hO
          go_wp2_with (go_at_call 18; refine (refuse_fn _ w.heap.size s r.z _ _ HR.out.rd 2).mono ?_; rintro x w2 ⟨rfl, hR2, hF2⟩; rw [HRf.out] at hR2; have e1 := hR2.c1; have e4 := hR2.c4)
          go_quiet (fail)
          go_wp2
          go_ret3
          refine ⟨n, .inr (by rw [Hr.out]; exact hl), (HF.out.then hF2 (fun k hk e => by unfold OneB at e; omega)).drewN _, .inl ⟨by rw [HT.out]; simp, by rw [HT.out]; rfl⟩⟩
    · have b2 : ((r.z.2 : Int) == 0) = false := beq_eq_false_iff_ne.2 (by omega)
      have b4 : ((r.z.2 : Int) != 0) = true := bne_iff_ne.2 (by omega)
      have HT : Hid (told (rIter s n r0) = (r.z.2, r.z.1)) := by show told _ = _; rw [Hr.out]; unfold told; rw [if_pos h2]
      have H2 : Hid (r.z.2 ≠ 0) := h2
      have HRf : Hid (rf 2 r.z = r.z) := rf_bad 2 h2
      clear h2
      by_cases hO : 0 < r.O.length
      · go_wp2_with (go_at_call 18; refine (refuse_fn _ w.heap.size s r.z _ _ HR.out.rd 2).mono ?_; rintro x w2 ⟨rfl, hR2, hF2⟩; rw [HRf.out] at hR2; have e1 := hR2.c1; have e4 := hR2.c4)
        go_quiet (fail)
        go_wp2
        go_ret3
        refine ⟨n, .inl (by rw [Hr.out]; exact H2.out), (HF.out.then hF2 (fun k hk e => by unfold OneB at e; omega)).drewN _, .inl ⟨by rw [HT.out]; exact H2.out, by rw [HT.out]; rfl⟩⟩
      · have hO0 : r.O.length = 0 := by omega
        have b3 : decide (0 < r.O.length) = false := by rw [hO0]; rfl
        clear hO hO0
        go_wp2
        go_quiet (fail)
        go_wp2
        go_ret3
        refine ⟨n, .inl (by rw [Hr.out]; exact H2.out), HF.out.drewN _, .inl ⟨by rw [HT.out]; exact H2.out, by rw [HT.out]; rfl⟩⟩
end Go.Proofs.YtcmnejcojphijaaDoor

namespace Go.Proofs.YtcmnejcojphijaaDoor
open Go.RowKit
set_option linter.unusedVariables false

theorem act_go_status {c : Cf} {a : Ac} {σ : St} (h : (act c a σ).2 = true) : (act c a σ).1.status = σ.status := by
  cases a
  case make b o =>
    simp only [act] at h ⊢
    by_cases h1 : c.strict = true ∧ σ.bx b ≠ []
    · rw [if_pos h1] at h; exact absurd h (by simp [ends])
    · rw [if_neg h1] at h ⊢
      by_cases h2 : valO σ.num o < 1 ∨ 64 < valO σ.num o
      · rw [if_pos h2] at h; exact absurd h (by simp [ends])
      · rw [if_neg h2] at h ⊢
        cases ha : c.al { σ with bx := upB σ.bx b [] } (valO σ.num o) with
        | none => rw [ha] at h; exact absurd h (by simp [ends])
        | some a => rfl
  all_goals simp only [act] at h ⊢ <;> (repeat' split) <;> first | rfl | (exfalso; simp_all [ends])
theorem partR_status {c : Cf} {t : Pt} {clo nx : Nat} {σ : St} (h : (partR c t clo nx σ).2.2 = false) : (partR c t clo nx σ).2.1.status = σ.status := by
  unfold partR at h ⊢
  split
  · rename_i hk
    rw [if_pos hk] at h
    have h2 : (stp c (acP t) σ).2 = true := by simpa using h
    unfold stp at h2 ⊢
    split
    · rename_i hs
      rw [if_pos hs] at h2
      split
      · rename_i hl
        rw [if_pos hl] at h2
        cases h2
      · rename_i hl
        rw [if_neg hl] at h2
        exact act_go_status h2
    · rename_i hs
      rw [if_neg hs] at h2
      exact act_go_status h2
  · rename_i hk
    rw [if_neg hk] at h
    split
    · rename_i hb
      rw [if_pos hb] at h
      split
      · rename_i hl
        rw [if_pos hl] at h
        cases h
      · split <;> rfl
    · split
      · rfl
      · split <;> rfl
theorem ri_over {c : Cf} {p : Nat → Pt} {C : Nat → Nat} {np m nx : Nat} {σ σf : St} (h : RunsIn c p C np m (nx, σ, true) σf) : σf = σ := by
  cases h
  rfl
theorem ri_fin {c : Cf} {p : Nat → Pt} {C : Nat → Nat} {np m nx : Nat} {σ σf : St} (h : RunsIn c p C np m (nx, σ, false) σf) (hn : np ≤ nx) : σf = σ := by
  cases h with
  | fin _ => rfl
  | step h _ => omega
theorem ri_step {c : Cf} {p : Nat → Pt} {C : Nat → Nat} {np m nx : Nat} {σ σf : St} (h : RunsIn c p C np m (nx, σ, false) σf) (hn : nx < np) : ∃ m', m = m' + 1 ∧ RunsIn c p C np m' (partR c (p nx) (C nx) nx σ) σf := by
  cases h with
  | fin h => omega
  | step _ hr => exact ⟨_, rfl, hr⟩

/-- the machine at the end of a run -/
def RunE (mp r n base : Nat) (pv : Value) (st : Bool) (σf : St) (w w' : World) : Prop := (∃ nx ov B V tv, MM w' mp r n base pv st σf nx ov B V tv) ∧ Fr (FrM base) w w'
set_option maxRecDepth 8000 in
set_option maxHeartbeats 4000000 in
theorem run_fn (w : World) (mp r n base np cap : Nat) (ao : Option Addr) (p : Nat → Pt) (C : Nat → Nat) (st : Bool) (tv : Value) (B V : Nat → Int) (σ σf : St) (m : Nat)
    (h : MM w mp r n base (.slice ao np cap) st σ 0 false B V tv) (hrow : PartRow w ao np p C) (hg : ∀ g, ao = some ⟨g, 0, none⟩ → g < base) (hfl : FlatOk p np) (hC : ∀ i, i < np → C i < 99999) (hnp : np < 100000)
    (hsg : ∀ i, i < np → (p i).kind = 0 → (p i).sign = 0 ∨ sgOk (p i).sign) (hR : RunsIn (cE st n) p C np m (0, σ, false) σf) (h0 : σ.status ≠ 4) (h4 : st = false → σf.status ≠ 4) (htab : ∀ W, Fr (FrM base) w W → TabOk W) :
    Calls Tryd.prog 23 #[.pointer (some ⟨mp, 0, none⟩)] w fun e w' => e = .returned (.tuple #[]) ∧ RunE mp r n base (.slice ao np cap) st σf w w' := by
  have HM : Hid _ := h
  have Hrow : Hid _ := hrow
  have HR : Hid _ := hR
  have HC : Hid _ := And.intro hC (And.intro hsg (And.intro h0 (And.intro h4 htab)))
  have Hg : Hid _ := hg
  have Hfl : Hid _ := hfl
  clear h hrow hR hC hsg h0 h4 htab hg hfl
  go_enter Tryd.func23, Tryd.ntmps23
  go_wp2
  go_loopg [19] m (fun k _ wr => ∃ (nx : Nat) (σ' : St) (ov : Bool) (B V : Nat → Int) (tv : Value), MM wr mp r n base (.slice ao np cap) st σ' nx ov B V tv ∧ RunsIn (cE st n) p C np k (nx, σ', ov) σf ∧ (ov = false → σ'.status ≠ 4) ∧ Fr (FrM base) w wr)
  case atStart => exact ⟨0, σ, false, B, V, tv, HM.out, HR.out, fun _ => HC.out.2.2.1, Fr.refl _ _⟩
  case round =>
    obtain ⟨nx, τ, ov, B', V', tv', hM, hR', hst, hF⟩ := hrel
    have co := hM.m.co
    have cx := hM.m.cx
    have cp := hM.m.cp
    unfold mxOf at co cx
    simp only [] at co cx
    have hnx := hM.nxb
    have HM' : Hid _ := hM
    have HF : Hid _ := hF
    clear hM hF HM HR
    cases ov
    · by_cases hlt : nx < np
      · obtain ⟨k', hk', hr⟩ := ri_step hR' hlt
        have hd : decide ((nx : Int) < (np : Int)) = true := by simp; omega
        obtain ⟨g, hao⟩ := Hrow.out.some_ (by omega)
        subst hao
        have hgb := Hg.out g rfl
        have hok := Hfl.out.ok nx hlt
        have hst2 := hst rfl
        go_upto_region 0 with fail
        go_quiet (fail)
        have hFq : Fr NoB wr (wr.drewN nq) := (Fr.refl _ _).drewN _
        have HM2 : Hid _ := HM'.out.no hFq
        have HF2 : Hid _ := HF.out.trans (frM_no hFq)
        have hrow2 := Hrow.out.fr HF2.out (fun g' e q => by have := Hg.out g' e; unfold FrM at q; omega)
        have HrP : Hid _ := And.intro hr (And.intro hk' (And.intro hok hst2))
        clear hFq co cx cp hr hR' hst hok hst2
        generalize wr.drewN nq = W2 at *
        have cx := HM2.out.m.cx
        have cp := HM2.out.m.cp
        have fx := HM2.out.m.fz 1
        have hml := HM2.out.m.lt
        have hmb := HM2.out.mb
        have hgl : g < W2.heap.size := by omega
        unfold mxOf at cx
        simp only [] at cx
        have d0 : W2.cell? ⟨g, nx * 12, none⟩ = _ := hrow2.c g nx 0 _ hlt rfl rfl
        have d1 := hrow2.c g nx 1 _ hlt rfl rfl
        have d2 := hrow2.c g nx 2 _ hlt rfl rfl
        have d3 := hrow2.c g nx 3 _ hlt rfl rfl
        have d4 := hrow2.c g nx 4 _ hlt rfl rfl
        have d5 := hrow2.c g nx 5 _ hlt rfl rfl
        have d6 := hrow2.c g nx 6 _ hlt rfl rfl
        have d7 := hrow2.c g nx 7 _ hlt rfl rfl
        have d8 := hrow2.c g nx 8 _ hlt rfl rfl
        have d9 := hrow2.c g nx 9 _ hlt rfl rfl
        have d10 := hrow2.c g nx 10 _ hlt rfl rfl
        have d11 := hrow2.c g nx 11 _ hlt rfl rfl
        clear hrow2
        generalize hpn : p nx = t at *
        generalize hcn : C nx = clo at *
        have HPN : Hid (p nx = t ∧ C nx = clo) := ⟨hpn, hcn⟩
        clear hpn hcn
        obtain ⟨kind, place, num, box, src, o1, sign, o2, opn⟩ := t
        simp only [] at d0 d1 d2 d3 d4 d5 d6 d7 d8 d9 d10 d11
        obtain ⟨b1, hb1⟩ : ∃ b, odB o1 = b := ⟨_, rfl⟩
        obtain ⟨x1, hx1⟩ : ∃ b, odI o1 = b := ⟨_, rfl⟩
        obtain ⟨b2, hb2⟩ : ∃ b, odB o2 = b := ⟨_, rfl⟩
        obtain ⟨x2, hx2⟩ : ∃ b, odI o2 = b := ⟨_, rfl⟩
        rw [hb1] at d5
        rw [hx1] at d6
        rw [hb2] at d8
        rw [hx2] at d9
        have HOD : Hid (odB o1 = b1 ∧ odI o1 = x1 ∧ odB o2 = b2 ∧ odI o2 = x2) := ⟨hb1, hx1, hb2, hx2⟩
        clear hb1 hx1 hb2 hx2
        go_upto_region 1 with fail
        go_region
        have HPt : Hid (∀ W, MM W mp r n base (.slice (some ⟨g, 0, none⟩) np cap) st τ (nx + 1) false B' V' tv' → Fr (FrM base) w W → Calls Tryd.prog 37 #[.pointer (some ⟨mp, 0, none⟩), .agg #[.int .i64 (kind : Int), .int .i64 (place : Int), .int .i64 (num : Int), .int .i64 (box : Int), .int .i64 (src : Int), .bool b1, .int .i64 (x1 : Int), .int .u8 (sign : Int), .bool b2, .int .i64 (x2 : Int), .int .i64 (opn : Int), .int .i64 (clo : Int)]] W fun e w' => PartS mp r n base (.slice (some ⟨g, 0, none⟩) np cap) st (partR (cE st n) (p nx) (C nx) nx τ) W e w') := fun W hW hFW => by
          obtain ⟨hr, hk', hok, hst2⟩ := HrP.out
          have hok2 : PtOk (p nx) := by rw [HPN.out.1]; exact hok
          have h44 : st = false → (partR (cE st n) (p nx) (C nx) nx τ).2.1.status ≠ 4 := fun q => by
            cases hov : (partR (cE st n) (p nx) (C nx) nx τ).2.2 with
            | false => rw [partR_status hov]; exact hst2
            | true =>
              have hr2 : RunsIn (cE st n) p C np k' ((partR (cE st n) (p nx) (C nx) nx τ).1, (partR (cE st n) (p nx) (C nx) nx τ).2.1, true) σf := by
                rw [← hov, HPN.out.1, HPN.out.2]
                exact hr
              rw [← ri_over hr2]
              exact HC.out.2.2.2.1 q
          have := mpart_fn W mp r n base nx (.slice (some ⟨g, 0, none⟩) np cap) tv' st τ B' V' hW (p nx) (C nx) hok2 (by have := HC.out.1 nx hlt; omega) (HC.out.2.1 nx hlt) h44 (fun W2 hW2 => HC.out.2.2.2.2 W2 (hFW.trans hW2))
          unfold ptV at this
          rw [HPN.out.1, HPN.out.2] at this ⊢
          simp only [HOD.out.1, HOD.out.2.1, HOD.out.2.2.1, HOD.out.2.2.2] at this
          exact this
        obtain ⟨hFA, HPA⟩ := box_new W2 kind place num box src b1 x1 sign b2 x2 opn clo
        have hFD := hFA.drew
        have HPD : Hid _ := HPA.out.fr ((Fr.refl NoB _).drew) id
        clear hFA HPA d0 d1 d2 d3 d4 d5 d6 d7 d8 d9 d10 d11 cx cp fx
        have hqm : W2.heap.size ≠ mp := by omega
        clear hml hgl
        generalize (W2.alloc (Obj.cells #[.int .i64 (kind : Int), .int .i64 (place : Int), .int .i64 (num : Int), .int .i64 (box : Int), .int .i64 (src : Int), .bool b1, .int .i64 (x1 : Int), .int .u8 (sign : Int), .bool b2, .int .i64 (x2 : Int), .int .i64 (opn : Int), .int .i64 (clo : Int)] 60)).drew = W3 at hFD HPD ⊢
        generalize W2.heap.size = q at HPD hqm ⊢
        have HM3 : Hid _ := HM2.out.no hFD
        have cx : W3.cell? ⟨mp, 1, none⟩ = some (.int .i64 (nx : Int)) := HM3.out.m.cx
        have fx := HM3.out.m.fz 1
        have hF4 : Fr (OneB mp) W3 (W3.setCell ⟨mp, 1, none⟩ (.int .i64 ((nx : Int) + 1))) := (Fr.refl (OneB mp) W3).setCell (p := ⟨mp, 1, none⟩) (fun _ => rfl) _
        have HP4 : Hid _ := HPD.out.fr hF4 (fun e => hqm (by unfold OneB at e; exact e))
        have HM4 : Hid (MM (W3.setCell ⟨mp, 1, none⟩ (.int .i64 ((nx : Int) + 1))) mp r n base (.slice (some ⟨g, 0, none⟩) np cap) st τ (nx + 1) false B' V' tv') := by
          have := HM3.out.setNx (v := nx + 1) (by omega)
          rwa [show ((nx + 1 : Nat) : Int) = (nx : Int) + 1 by omega] at this
        have HF4 : Hid (Fr (FrM base) w (W3.setCell ⟨mp, 1, none⟩ (.int .i64 ((nx : Int) + 1)))) := (HF2.out.trans (frM_no hFD)).trans (frM_one hF4 hmb)
        have c0 := HP4.out.c0
        have c1 := HP4.out.c1
        have c2 := HP4.out.c2
        have c3 := HP4.out.c3
        have c4 := HP4.out.c4
        have c5 := HP4.out.c5
        have c6 := HP4.out.c6
        have c7 := HP4.out.c7
        have c8 := HP4.out.c8
        have c9 := HP4.out.c9
        have c10 := HP4.out.c10
        have c11 := HP4.out.c11
        go_wp2_with (go_at_call 37; refine (HPt.out _ HM4.out HF4.out).mono ?_; rintro e w5 ⟨rfl, hh⟩; have HH : Hid _ := hh; clear hh)
        go_roundg k'
        case measure => have := HrP.out.2.1; omega
        case rel =>
          obtain ⟨⟨B5, V5, tv5, hM5⟩, hF5⟩ := HH.out
          obtain ⟨hr, hk', hok, hst2⟩ := HrP.out
          refine ⟨_, _, _, B5, V5, tv5, hM5, ?_, fun q => by rw [partR_status q]; exact hst2, HF4.out.trans hF5⟩
          rw [HPN.out.1, HPN.out.2]
          exact hr
      · have hd : decide ((nx : Int) < (np : Int)) = false := by simp; omega
        have e := ri_fin hR' (by omega)
        have HE : Hid _ := e
        clear e hR'
        go_upto_region 0 with fail
        go_quiet (fail)
        go_wp2
        go_end0
        have hFq : Fr NoB wr (wr.drewN nq) := (Fr.refl _ _).drewN _
        exact ⟨rfl, ⟨_, _, _, _, _, by rw [HE.out]; exact HM'.out.no hFq⟩, HF.out.trans (frM_no hFq)⟩
    · have HE : Hid _ := ri_over hR'
      clear hR'
      go_upto_region 0 with fail
      go_quiet (fail)
      go_wp2
      go_end0
      have hFq : Fr NoB wr (wr.drewN nq) := (Fr.refl _ _).drewN _
      exact ⟨rfl, ⟨_, _, _, _, _, by rw [HE.out]; exact HM'.out.no hFq⟩, HF.out.trans (frM_no hFq)⟩
end Go.Proofs.YtcmnejcojphijaaDoor

namespace Go.Proofs.YtcmnejcojphijaaDoor
open Go.RowKit
set_option linter.unusedVariables false

theorem Fr.setCells {S : Nat → Prop} {a : World} {b : Nat} (hb : b < a.heap.size → S b) : ∀ (vs : List Value) (o : Nat) {w : World}, Fr S a w → Fr S a (w.setCells b o vs)
  | [], _, _, h => h
  | v :: r, o, w, h => Fr.setCells hb r (o + 1) (h.setCell (p := ⟨b, o, none⟩) hb v)
/-- a block of so many cells that can be written -/
def Room (W : World) (b n : Nat) : Prop := (∀ j, j < n → (W.cell? ⟨b, j, none⟩).isSome = true) ∧ ∀ o, W.frozen? ⟨b, o, none⟩ = false
theorem Room.fr {S : Nat → Prop} {w w' : World} {b n : Nat} (h : Room w b n) (hF : Fr S w w') (hb : ¬ S b) (hl : b < w.heap.size) : Room w' b n :=
  ⟨fun j hj => by
    obtain ⟨v, hv⟩ := Option.isSome_iff_exists.1 (h.1 j hj)
    rw [hF.cell_some hv hb]; rfl, fun o => (hF.frozen (p := ⟨b, o, none⟩) hl hb).trans (h.2 o)⟩
theorem Room.new (w : World) (A : Array Value) (t : TypeId) (n : Nat) (hn : n ≤ A.size) : Room (w.alloc (.cells A t)) w.heap.size n :=
  ⟨fun j hj => by rw [World.cell?_alloc_at _ _ _ _ rfl]; simp; omega, fun o => World.frozen?_alloc_at _ _ _ _ rfl⟩
theorem room_store {W : World} {b n : Nat} (h : Room W b n) {A : Array Value} (hA : A.size = n) (h1 : ∀ v ∈ A.toList, v.oneCell' = true) : Sem.run Tryd.prog (storeCells ⟨b, 0, none⟩ A.toList) W = .ok () (W.setCells b 0 A.toList) := by
  have := run_storeCells_cells (P := Tryd.prog) b 0 A.toList 0 W (fun j hj => by simpa using h.1 j (by simp at hj; omega)) (fun j hj => h.2 _) h1
  simpa using this
theorem room_cell {W : World} {b n : Nat} (h : Room W b n) {A : Array Value} (hA : A.size = n) {j : Nat} {v : Value} (hv : A[j]? = some v) : (W.setCells b 0 A.toList).cell? ⟨b, j, none⟩ = some v := by
  obtain ⟨hj, rfl⟩ := Array.getElem?_eq_some_iff.1 hv
  have := World.cell?_setCells_in b A.toList 0 W (fun j hj => by simpa using h.1 j (by simp at hj; omega)) j (by simpa using hj)
  simpa using this
theorem room_load {W : World} {b n : Nat} (h : Room W b n) {A : Array Value} (hA : A.size = n) : Sem.run Tryd.prog (loadCellsFrom ⟨b, 0, none⟩ 0 n #[]) (W.setCells b 0 A.toList) = .ok A (W.setCells b 0 A.toList) := by
  subst hA
  have := run_loadCells_list (P := Tryd.prog) (W.setCells b 0 A.toList) ⟨b, 0, none⟩ A.toList (fun j v hv => by
    have hadd : (⟨b, 0, none⟩ : Addr).add j = ⟨b, j, none⟩ := by unfold Addr.add; split <;> simp_all
    rw [hadd]
    exact room_cell h rfl (by simpa using hv))
  simpa [loadCells] using this

theorem results_ct {P : Program} {fn : Func} {a u : Tmp} {t : TypeId} (h : fn.results = #[.cell a t, .tmp u]) (tmps : Array Value) (w : World) (ad : Addr) (v : Value) (ha : tmps.getD a undef = .pointer (some ad)) (hl : (loadVar t ad).run P w = .ok v w) : (results fn tmps).run P w = .ok (.tuple #[v, tmps.getD u undef]) w := by
  have ha' : tmps[a]?.getD undef = .pointer (some ad) := by simpa using ha
  simp [results, h, ha', asAddr, hl]
theorem mac_lv {W : World} {b : Nat} (h : Room W b 87) {A : Array Value} (hA : A.size = 87) : (loadVar 73 ⟨b, 0, none⟩).run Tryd.prog (W.setCells b 0 A.toList) = .ok (.agg A) (W.setCells b 0 A.toList) := by
  have hld := room_load h hA
  unfold loadVar
  simp only [Sem.run_bind, Tryd.isAgg73, Result.andThen_ok, if_true, Tryd.sizeOf73, loadCells, hld, Sem.run_pure]
/-- a machine of zeros -/
def zMac : Array Value := (Value.slice none 0 0 :: Value.int .i64 0 :: Value.bool false :: Value.int .i64 0 :: (List.replicate 26 (Value.int .i64 0) ++ (Value.slice none 0 0 :: (List.replicate 53 (Value.int .i64 0) ++ [Value.slice none 0 0, Value.bool false, Value.int .i64 0])))).toArray
set_option maxRecDepth 100000 in
theorem zMac_is : Tryd.zeroCells73 = zMac := by kernel_rfl
theorem zMac_size : zMac.size = 87 := by simp [zMac]
theorem zMac_one : ∀ v ∈ zMac.toList, v.oneCell' = true := by
  intro v hv
  simp [zMac] at hv
  (repeat' (rcases hv with hv | hv)) <;> rfl
/-- a machine that begins -/
def mac0 (pv hv : Value) (k : Nat) : Array Value := ((zMac.setIfInBounds 0 pv).setIfInBounds 3 (.int .i64 (k : Int))).setIfInBounds 30 hv
end Go.Proofs.YtcmnejcojphijaaDoor
