/-
  MchT, Runs, New: one behind the other.
-/
import Derived.Test.YtcmnejcojphijaaGreatDoorP30DevZG
import Derived.BigQuiet
import Derived.Test.YtcmnejcojphijaaGreatDoorP00Alloc
namespace Go.Proofs.YtcmnejcojphijaaGreatDoor
open Go.RowKit
set_option linter.unusedVariables false

theorem act_go_status {c : Cf} {a : Ac} {σ : St} (h : (act c a σ).2 = true) : (act c a σ).1.status = σ.status := by
  cases a
  case make b o =>
    simp only [act] at h ⊢
    by_cases h1 : c.strict = true ∧ σ.bx b ≠ []
    · rw [if_pos h1] at h; exact absurd h (by simp [ends])
    · rw [if_neg h1] at h ⊢
      by_cases h2 : valO σ.num o < 1 ∨ 64 < valO σ.num o
      · rw [if_pos h2] at h; exact absurd h (by simp [ends])
      · rw [if_neg h2] at h ⊢
        cases ha : c.al { σ with bx := upB σ.bx b [] } (valO σ.num o) with
        | none => rw [ha] at h; exact absurd h (by simp [ends])
        | some a => rfl
  all_goals simp only [act] at h ⊢ <;> (repeat' split) <;> first | rfl | (exfalso; simp_all [ends])
theorem partR_status {c : Cf} {t : Pt} {clo nx : Nat} {σ : St} (h : (partR c t clo nx σ).2.2 = false) : (partR c t clo nx σ).2.1.status = σ.status := by
  unfold partR at h ⊢
  split
  · rename_i hk
    rw [if_pos hk] at h
    have h2 : (stp c (acP t) σ).2 = true := by simpa using h
    unfold stp at h2 ⊢
    split
    · rename_i hs
      rw [if_pos hs] at h2
      split
      · rename_i hl
        rw [if_pos hl] at h2
        cases h2
      · rename_i hl
        rw [if_neg hl] at h2
        exact act_go_status h2
    · rename_i hs
      rw [if_neg hs] at h2
      exact act_go_status h2
  · rename_i hk
    rw [if_neg hk] at h
    split
    · rename_i hb
      rw [if_pos hb] at h
      split
      · rename_i hl
        rw [if_pos hl] at h
        cases h
      · split <;> rfl
    · split
      · rfl
      · split <;> rfl
theorem ri_over {c : Cf} {p : Nat → Pt} {C : Nat → Nat} {np m nx : Nat} {σ σf : St} (h : RunsIn c p C np m (nx, σ, true) σf) : σf = σ := by
  cases h
  rfl
theorem ri_fin {c : Cf} {p : Nat → Pt} {C : Nat → Nat} {np m nx : Nat} {σ σf : St} (h : RunsIn c p C np m (nx, σ, false) σf) (hn : np ≤ nx) : σf = σ := by
  cases h with
  | fin _ => rfl
  | step h _ => omega
theorem ri_step {c : Cf} {p : Nat → Pt} {C : Nat → Nat} {np m nx : Nat} {σ σf : St} (h : RunsIn c p C np m (nx, σ, false) σf) (hn : nx < np) : ∃ m', m = m' + 1 ∧ RunsIn c p C np m' (partR c (p nx) (C nx) nx σ) σf := by
  cases h with
  | fin h => omega
  | step _ hr => exact ⟨_, rfl, hr⟩

/-- the machine at the end of a run -/
def RunE (mp r n base : Nat) (pv : Value) (st : Bool) (σf : St) (w w' : World) : Prop := (∃ nx ov B V tv, MM w' mp r n base pv st σf nx ov B V tv) ∧ Fr (FrM base) w w'
set_option maxRecDepth 8000 in
set_option maxHeartbeats 4000000 in
theorem run_fn (w : World) (mp r n base np cap : Nat) (ao : Option Addr) (p : Nat → Pt) (C : Nat → Nat) (st : Bool) (tv : Value) (B V : Nat → Int) (σ σf : St) (m : Nat)
    (h : MM w mp r n base (.slice ao np cap) st σ 0 false B V tv) (hrow : PartRow w ao np p C) (hg : ∀ g, ao = some ⟨g, 0, none⟩ → g < base) (hfl : FlatOk p np) (hC : ∀ i, i < np → C i < 99999) (hnp : np < 100000)
    (hsg : ∀ i, i < np → (p i).kind = 0 → (p i).sign = 0 ∨ sgOk (p i).sign) (hR : RunsIn (cE st n) p C np m (0, σ, false) σf) (h0 : σ.status ≠ 4) (h4 : st = false → σf.status ≠ 4) (htab : ∀ W, Fr (FrM base) w W → TabOk W) :
    Calls Tryz.prog 35 #[.pointer (some ⟨mp, 0, none⟩)] w fun e w' => e = .returned (.tuple #[]) ∧ RunE mp r n base (.slice ao np cap) st σf w w' := by
  have HM : Hid _ := h
  have Hrow : Hid _ := hrow
  have HR : Hid _ := hR
  have HC : Hid _ := And.intro hC (And.intro hsg (And.intro h0 (And.intro h4 htab)))
  have Hg : Hid _ := hg
  have Hfl : Hid _ := hfl
  clear h hrow hR hC hsg h0 h4 htab hg hfl
  go_enter Tryz.func35, Tryz.ntmps35
  go_wp2
  go_loopg [19] m (fun k _ wr => ∃ (nx : Nat) (σ' : St) (ov : Bool) (B V : Nat → Int) (tv : Value), MM wr mp r n base (.slice ao np cap) st σ' nx ov B V tv ∧ RunsIn (cE st n) p C np k (nx, σ', ov) σf ∧ (ov = false → σ'.status ≠ 4) ∧ Fr (FrM base) w wr)
  case atStart => exact ⟨0, σ, false, B, V, tv, HM.out, HR.out, fun _ => HC.out.2.2.1, Fr.refl _ _⟩
  case round =>
    obtain ⟨nx, τ, ov, B', V', tv', hM, hR', hst, hF⟩ := hrel
    have co := hM.m.co
    have cx := hM.m.cx
    have cp := hM.m.cp
    unfold mxOf at co cx
    simp only [] at co cx
    have hnx := hM.nxb
    have HM' : Hid _ := hM
    have HF : Hid _ := hF
    clear hM hF HM HR
    cases ov
    · by_cases hlt : nx < np
      · obtain ⟨k', hk', hr⟩ := ri_step hR' hlt
        have hd : decide ((nx : Int) < (np : Int)) = true := by simp; omega
        obtain ⟨g, hao⟩ := Hrow.out.some_ (by omega)
        subst hao
        have hgb := Hg.out g rfl
        have hok := Hfl.out.ok nx hlt
        have hst2 := hst rfl
        go_upto_region 0 with fail
        go_quiet (fail)
        have hFq : Fr NoB wr (wr.drewN nq) := (Fr.refl _ _).drewN _
        have HM2 : Hid _ := HM'.out.no hFq
        have HF2 : Hid _ := HF.out.trans (frM_no hFq)
        have hrow2 := Hrow.out.fr HF2.out (fun g' e q => by have := Hg.out g' e; unfold FrM at q; omega)
        have HrP : Hid _ := And.intro hr (And.intro hk' (And.intro hok hst2))
        clear hFq co cx cp hr hR' hst hok hst2
        generalize wr.drewN nq = W2 at *
        have cx := HM2.out.m.cx
        have cp := HM2.out.m.cp
        have fx := HM2.out.m.fz 1
        have hml := HM2.out.m.lt
        have hmb := HM2.out.mb
        have hgl : g < W2.heap.size := by omega
        unfold mxOf at cx
        simp only [] at cx
        have d0 : W2.cell? ⟨g, nx * 12, none⟩ = _ := hrow2.c g nx 0 _ hlt rfl rfl
        have d1 := hrow2.c g nx 1 _ hlt rfl rfl
        have d2 := hrow2.c g nx 2 _ hlt rfl rfl
        have d3 := hrow2.c g nx 3 _ hlt rfl rfl
        have d4 := hrow2.c g nx 4 _ hlt rfl rfl
        have d5 := hrow2.c g nx 5 _ hlt rfl rfl
        have d6 := hrow2.c g nx 6 _ hlt rfl rfl
        have d7 := hrow2.c g nx 7 _ hlt rfl rfl
        have d8 := hrow2.c g nx 8 _ hlt rfl rfl
        have d9 := hrow2.c g nx 9 _ hlt rfl rfl
        have d10 := hrow2.c g nx 10 _ hlt rfl rfl
        have d11 := hrow2.c g nx 11 _ hlt rfl rfl
        clear hrow2
        generalize hpn : p nx = t at *
        generalize hcn : C nx = clo at *
        have HPN : Hid (p nx = t ∧ C nx = clo) := ⟨hpn, hcn⟩
        clear hpn hcn
        obtain ⟨kind, place, num, box, src, o1, sign, o2, opn⟩ := t
        simp only [] at d0 d1 d2 d3 d4 d5 d6 d7 d8 d9 d10 d11
        obtain ⟨b1, hb1⟩ : ∃ b, odB o1 = b := ⟨_, rfl⟩
        obtain ⟨x1, hx1⟩ : ∃ b, odI o1 = b := ⟨_, rfl⟩
        obtain ⟨b2, hb2⟩ : ∃ b, odB o2 = b := ⟨_, rfl⟩
        obtain ⟨x2, hx2⟩ : ∃ b, odI o2 = b := ⟨_, rfl⟩
        rw [hb1] at d5
        rw [hx1] at d6
        rw [hb2] at d8
        rw [hx2] at d9
        have HOD : Hid (odB o1 = b1 ∧ odI o1 = x1 ∧ odB o2 = b2 ∧ odI o2 = x2) := ⟨hb1, hx1, hb2, hx2⟩
        clear hb1 hx1 hb2 hx2
        go_upto_region 1 with fail
        go_region
        have HPt : Hid (∀ W, MM W mp r n base (.slice (some ⟨g, 0, none⟩) np cap) st τ (nx + 1) false B' V' tv' → Fr (FrM base) w W → Calls Tryz.prog 73 #[.pointer (some ⟨mp, 0, none⟩), .agg #[.int .i64 (kind : Int), .int .i64 (place : Int), .int .i64 (num : Int), .int .i64 (box : Int), .int .i64 (src : Int), .bool b1, .int .i64 (x1 : Int), .int .u8 (sign : Int), .bool b2, .int .i64 (x2 : Int), .int .i64 (opn : Int), .int .i64 (clo : Int)]] W fun e w' => PartS mp r n base (.slice (some ⟨g, 0, none⟩) np cap) st (partR (cE st n) (p nx) (C nx) nx τ) W e w') := fun W hW hFW => by
          obtain ⟨hr, hk', hok, hst2⟩ := HrP.out
          have hok2 : PtOk (p nx) := by rw [HPN.out.1]; exact hok
          have h44 : st = false → (partR (cE st n) (p nx) (C nx) nx τ).2.1.status ≠ 4 := fun q => by
            cases hov : (partR (cE st n) (p nx) (C nx) nx τ).2.2 with
            | false => rw [partR_status hov]; exact hst2
            | true =>
              have hr2 : RunsIn (cE st n) p C np k' ((partR (cE st n) (p nx) (C nx) nx τ).1, (partR (cE st n) (p nx) (C nx) nx τ).2.1, true) σf := by
                rw [← hov, HPN.out.1, HPN.out.2]
                exact hr
              rw [← ri_over hr2]
              exact HC.out.2.2.2.1 q
          have := mpart_fn W mp r n base nx (.slice (some ⟨g, 0, none⟩) np cap) tv' st τ B' V' hW (p nx) (C nx) hok2 (by have := HC.out.1 nx hlt; omega) (HC.out.2.1 nx hlt) h44 (fun W2 hW2 => HC.out.2.2.2.2 W2 (hFW.trans hW2))
          unfold ptV at this
          rw [HPN.out.1, HPN.out.2] at this ⊢
          simp only [HOD.out.1, HOD.out.2.1, HOD.out.2.2.1, HOD.out.2.2.2] at this
          exact this
        obtain ⟨hFA, HPA⟩ := box_new W2 kind place num box src b1 x1 sign b2 x2 opn clo
        have hFD := hFA.drew
        have HPD : Hid _ := HPA.out.fr ((Fr.refl NoB _).drew) id
        clear hFA HPA d0 d1 d2 d3 d4 d5 d6 d7 d8 d9 d10 d11 cx cp fx
        have hqm : W2.heap.size ≠ mp := by omega
        clear hml hgl
        generalize (W2.alloc (Obj.cells #[.int .i64 (kind : Int), .int .i64 (place : Int), .int .i64 (num : Int), .int .i64 (box : Int), .int .i64 (src : Int), .bool b1, .int .i64 (x1 : Int), .int .u8 (sign : Int), .bool b2, .int .i64 (x2 : Int), .int .i64 (opn : Int), .int .i64 (clo : Int)] 133)).drew = W3 at hFD HPD ⊢
        generalize W2.heap.size = q at HPD hqm ⊢
        have HM3 : Hid _ := HM2.out.no hFD
        have cx : W3.cell? ⟨mp, 1, none⟩ = some (.int .i64 (nx : Int)) := HM3.out.m.cx
        have fx := HM3.out.m.fz 1
        have hF4 : Fr (OneB mp) W3 (W3.setCell ⟨mp, 1, none⟩ (.int .i64 ((nx : Int) + 1))) := (Fr.refl (OneB mp) W3).setCell (p := ⟨mp, 1, none⟩) (fun _ => rfl) _
        have HP4 : Hid _ := HPD.out.fr hF4 (fun e => hqm (by unfold OneB at e; exact e))
        have HM4 : Hid (MM (W3.setCell ⟨mp, 1, none⟩ (.int .i64 ((nx : Int) + 1))) mp r n base (.slice (some ⟨g, 0, none⟩) np cap) st τ (nx + 1) false B' V' tv') := by
          have := HM3.out.setNx (v := nx + 1) (by omega)
          rwa [show ((nx + 1 : Nat) : Int) = (nx : Int) + 1 by omega] at this
        have HF4 : Hid (Fr (FrM base) w (W3.setCell ⟨mp, 1, none⟩ (.int .i64 ((nx : Int) + 1)))) := (HF2.out.trans (frM_no hFD)).trans (frM_one hF4 hmb)
        have c0 := HP4.out.c0
        have c1 := HP4.out.c1
        have c2 := HP4.out.c2
        have c3 := HP4.out.c3
        have c4 := HP4.out.c4
        have c5 := HP4.out.c5
        have c6 := HP4.out.c6
        have c7 := HP4.out.c7
        have c8 := HP4.out.c8
        have c9 := HP4.out.c9
        have c10 := HP4.out.c10
        have c11 := HP4.out.c11
        go_wp2_with (go_at_call 73; refine (HPt.out _ HM4.out HF4.out).mono ?_; rintro e w5 ⟨rfl, hh⟩; have HH : Hid _ := hh; clear hh)
        go_roundg k'
        case measure => have := HrP.out.2.1; omega
        case rel =>
          obtain ⟨⟨B5, V5, tv5, hM5⟩, hF5⟩ := HH.out
          obtain ⟨hr, hk', hok, hst2⟩ := HrP.out
          refine ⟨_, _, _, B5, V5, tv5, hM5, ?_, fun q => by rw [partR_status q]; exact hst2, HF4.out.trans hF5⟩
          rw [HPN.out.1, HPN.out.2]
          exact hr
      · have hd : decide ((nx : Int) < (np : Int)) = false := by simp; omega
        have e := ri_fin hR' (by omega)
        have HE : Hid _ := e
        clear e hR'
        go_upto_region 0 with fail
        go_quiet (fail)
        go_wp2
        go_end0
        have hFq : Fr NoB wr (wr.drewN nq) := (Fr.refl _ _).drewN _
        exact ⟨rfl, ⟨_, _, _, _, _, by rw [HE.out]; exact HM'.out.no hFq⟩, HF.out.trans (frM_no hFq)⟩
    · have HE : Hid _ := ri_over hR'
      clear hR'
      go_upto_region 0 with fail
      go_quiet (fail)
      go_wp2
      go_end0
      have hFq : Fr NoB wr (wr.drewN nq) := (Fr.refl _ _).drewN _
      exact ⟨rfl, ⟨_, _, _, _, _, by rw [HE.out]; exact HM'.out.no hFq⟩, HF.out.trans (frM_no hFq)⟩
end Go.Proofs.YtcmnejcojphijaaGreatDoor

namespace Go.Proofs.YtcmnejcojphijaaGreatDoor
open Go.RowKit

/-- L: the free runs from lo on. -/
def IsRuns (B : Nat → Int) (n : Nat) : Nat → List (Nat × Nat) → Prop
  | lo, [] => ∀ i, lo ≤ i → i < n → B i ≠ 0
  | lo, (a, l) :: L => lo ≤ a ∧ 0 < l ∧ a + l ≤ n ∧ (∀ i, lo ≤ i → i < a → B i ≠ 0) ∧ (∀ i, a ≤ i → i < a + l → B i = 0) ∧ (a + l = n ∨ B (a + l) ≠ 0) ∧ IsRuns B n (a + l) L

def spanCells (L : List (Nat × Nat)) : List Value := L.flatMap (fun s => [.int .i64 (s.1 : Int), .int .i64 (s.2 : Int)])
theorem spanCells_snoc (L : List (Nat × Nat)) (a l : Nat) : spanCells (L ++ [(a, l)]) = spanCells L ++ [.int .i64 (a : Int), .int .i64 (l : Int)] := by simp [spanCells]

theorem owns_mono {w : World} {base base' : Nat} {e : TypeId} {size : Nat} {v : Value} {n : Nat} {xs : List Value} (h : w.ownsRow base e size v n xs) (hb : base' ≤ base) : w.ownsRow base' e size v n xs := by
  obtain ⟨h1, h2⟩ := h
  refine ⟨h1, ?_⟩
  rcases h2 with h2 | ⟨g, cap, cur, hv, hg, r⟩
  · exact .inl h2
  · exact .inr ⟨g, cap, cur, hv, by omega, r⟩

theorem Tryz.infoSpan : (Tryz.prog.info? 82).map (fun i => (i.zero, i.size, i.bytes)) = some (some (.agg #[.int .i64 0, .int .i64 0]), 2, 16) := by kernel_rfl

theorem runs_step {B : Nat → Int} {n f a z : Nat} {L : List (Nat × Nat)} (h : RunFrom B n f a z) (hlt : a < z) (hL : ∀ M, IsRuns B n f M → IsRuns B n 0 (L ++ M)) : ∀ M, IsRuns B n z M → IsRuns B n 0 ((L ++ [(a, z - a)]) ++ M) := fun M hM => by
  rw [List.append_assoc]
  apply hL
  have e : a + (z - a) = z := by omega
  have hen := h.en
  refine ⟨h.fa, by omega, by omega, h.skip, fun i h1 h2 => h.free i h1 (by omega), ?_, ?_⟩
  · rw [e]; exact h.stop
  · rw [e]; exact hM
theorem runs_end {B : Nat → Int} {n f a z : Nat} {L : List (Nat × Nat)} (h : RunFrom B n f a z) (he : a = z) (hL : ∀ M, IsRuns B n f M → IsRuns B n 0 (L ++ M)) : IsRuns B n 0 L := by
  have := hL [] (fun i h1 h2 => by
    by_cases e : i < a
    · exact h.skip i h1 e
    · exfalso
      subst he
      rcases h.stop with hs | hs
      · omega
      · rcases h.top with ht | ht
        · omega
        · exact hs ht)
  simpa using this

theorem runs_grown {w wr w2 : World} {o : Obj} {g : Nat} {e : TypeId} {size m : Nat} {v : Value} {xs : List Value} {x0 x1 : Value} (hF : Fr NoB w wr) (hgw : w.heap.size ≤ g)
    (hown : wr.ownsRow (g + 1) e size v m xs) (hg : (wr.alloc o).grownBy w2 v.ownBlock)
    (hc0 : wr.cell? ⟨g, 0, none⟩ = some x0) (hc1 : wr.cell? ⟨g, 1, none⟩ = some x1) (hfz : ∀ o, wr.frozen? ⟨g, o, none⟩ = false) (hsz : g < wr.heap.size) :
    Fr NoB w w2 ∧ w2.cell? ⟨g, 0, none⟩ = some x0 ∧ w2.cell? ⟨g, 1, none⟩ = some x1 ∧ (∀ o, w2.frozen? ⟨g, o, none⟩ = false) ∧ g < w2.heap.size := by
  have hlt := hown.lt
  have hfr : Fr (fun k => v.ownBlock = some k) wr w2 := ((Fr.refl _ wr).alloc o).then (Fr.of_grown (S := fun k => v.ownBlock = some k) hg (fun k _ e => e)) (fun _ _ h => h)
  have hng : ¬ v.ownBlock = some g := fun e => by have := (hlt g e).1; omega
  refine ⟨hF.then hfr (fun i hi e => by have := (hlt i e).1; omega), hfr.cell_some hc0 hng, hfr.cell_some hc1 hng, fun o => ?_, ?_⟩
  · exact (hfr.frozen (p := ⟨g, o, none⟩) hsz hng).trans (hfz o)
  · have := hfr.size; omega

set_option maxHeartbeats 1000000 in
theorem runs_any (w : World) (p r n : Nat) (B V : Nat → Int) (h : HeapAt w p r n B V) :
    Calls Tryz.prog 125 #[.pointer (some ⟨p, 0, none⟩)] w fun e w' =>
      ∃ v L, e = .returned v ∧ IsRuns B n 0 L ∧ w'.ownsRow w.heap.size 82 2 v L.length (spanCells L) ∧ Fr NoB w w' := by
  have hn := h.hi
  obtain ⟨i0, hi, hz0, hz1, hz2⟩ := info_parts Tryz.infoSpan
  go_enter Tryz.func125, Tryz.ntmps125
  go_wp2_with fail
  refine (nextRun_any _ p r n B V 0 h (Nat.zero_le _)).mono ?_
  rintro e w1 ⟨a0, z0, rfl, hr0, hf0⟩
  go_wp2_with fail
  go_loopw [3] (fun t wr => ∃ (f a z : Nat) (L : List (Nat × Nat)), RunFrom B n f a z ∧ (∀ M, IsRuns B n f M → IsRuns B n 0 (L ++ M)) ∧ L.length ≤ f ∧ wr.ownsRow (w1.heap.size + 1) 82 2 t L.length (spanCells L) ∧
      wr.cell? ⟨w1.heap.size, 0, none⟩ = some (.int .i64 a) ∧ wr.cell? ⟨w1.heap.size, 1, none⟩ = some (.int .i64 ((z : Int) - (a : Int))) ∧
      (∀ o, wr.frozen? ⟨w1.heap.size, o, none⟩ = false) ∧ Fr NoB w wr ∧ w1.heap.size < wr.heap.size)
    (fun _ wr => (2 * ((n : Int) - (cellInt wr w1.heap.size 0 + cellInt wr w1.heap.size 1)) + min (cellInt wr w1.heap.size 1) 1).toNat)
  case atStart => exact ⟨0, a0, z0, [], hr0, fun M hM => hM, Nat.zero_le _, World.ownsRow_nil _ _ _ _, by simp, by simp, fun o => by simp, hf0.alloc _, by simp⟩
  case round =>
    obtain ⟨f, a, z, L, hr, hL, hLl, hown, hc0, hc1, hfz, hF, hsz⟩ := hrel
    have hfa := hr.fa
    have hae := hr.ae
    have hen := hr.en
    have hgw : w.heap.size ≤ w1.heap.size := hf0.size
    have HL : Hid (∀ M, IsRuns B n f M → IsRuns B n 0 (L ++ M)) := hL
    clear hL
    by_cases hlt : a < z
    · have hW : HeapAt wr p r n B V := h.no hF
      have HOld : Hid (cellInt wr w1.heap.size 0 = (a : Int) ∧ cellInt wr w1.heap.size 1 = (z : Int) - (a : Int)) := ⟨cellInt_of hc0, cellInt_of hc1⟩
      go_wp2_with (at_builtin; refine wpList_append_own _ rfl _ _ 67 rfl (w1.heap.size + 1) 82 i0 (.agg #[.int .i64 0, .int .i64 0]) 2 16 Tryz.underlying67 hi hz0 hz1 hz2 rfl (by decide) _ _ _ rfl (hown.alloc _) ⟨wr.heap.size, 0, none⟩ 1 1 [.int .i64 (a : Int), .int .i64 ((z : Int) - (a : Int))] rfl rfl ?c1 ?c2 ?c3 ?c4 ?c5 ?_)
      case c1 =>
        intro j u hj
        match j, hj with
        | 0, hj => simp at hj; subst hj; simp [Addr.add]
        | 1, hj => simp at hj; subst hj; simp [Addr.add]
      case c2 => intro u hu; simp at hu; rcases hu with rfl | rfl <;> rfl
      case c3 => unfold maxLen; omega
      case c4 => omega
      case c5 => simp; omega
      intro v' w2 hown' hgrow _
      obtain ⟨hF2, hc0', hc1', hfz', hs2⟩ := runs_grown hF hgw hown hgrow hc0 hc1 hfz hsz
      have hW2 : HeapAt w2 p r n B V := h.no hF2
      have Hown' : Hid (w2.ownsRow (w1.heap.size + 1) 82 2 v' (L.length + 1) (spanCells L ++ [.int .i64 (a : Int), .int .i64 ((z : Int) - (a : Int))])) := hown'
      clear hown' hgrow hown hc0 hc1 hfz hW
      go_wp2_with fail
      rw [show (a : Int) + ((z : Int) - (a : Int)) = (z : Int) from by omega]
      refine (nextRun_any _ p r n B V z hW2 hen).mono ?_
      rintro e w3 ⟨a', z', rfl, hr', hf'⟩
      have HLat : Hid (z < z' ∨ (z = n ∧ a' = n ∧ z' = n)) := next_later hr hr'
      have hae' := hr'.ae
      have hen' := hr'.en
      have hd0 := hf'.cell_some hc0' id
      have hd1 := hf'.cell_some hc1' id
      have hdz : ∀ o, w3.frozen? ⟨w1.heap.size, o, none⟩ = false := fun o => (hf'.frozen (p := ⟨w1.heap.size, o, none⟩) hs2 id).trans (hfz' o)
      have hdza := hdz 0
      have hdzb := hdz 1
      have hs3 := hf'.size
      have Hold : Hid (cellInt wr w1.heap.size 0 = (a : Int) ∧ cellInt wr w1.heap.size 1 = (z : Int) - (a : Int)) := HOld
      clear HOld
      go_wp2_with fail
      go_roundw
      case rel =>
        refine ⟨z, a', z', L ++ [(a, z - a)], hr', runs_step hr hlt HL.out, by simp; omega, ?_, (two_set hd0 hd1).1, (two_set hd0 hd1).2, fun o => by simp [hdz], ?_, by simp; omega⟩
        · rw [spanCells_snoc, List.length_append, show ((z - a : Nat) : Int) = (z : Int) - (a : Int) from by omega]
          have ho := (hf'.owns Hown'.out (fun _ _ h => h))
          exact ownsRow_setCell_below (ownsRow_setCell_below ho (Nat.lt_succ_self _) _) (Nat.lt_succ_self _) _
        · exact ((hF2.trans hf').setCell (fun hlt => absurd hlt (by simp; omega)) _).setCell (fun hlt => absurd hlt (by simp; omega)) _
      case measure =>
        have hL := HLat.out
        rw [Hold.out.1, Hold.out.2, cellInt_of (two_set hd0 hd1).1, cellInt_of (two_set hd0 hd1).2]
        omega
    · have hz : a = z := by omega
      have hend := runs_end hr hz HL.out
      have Hend : Hid (IsRuns B n 0 L) := hend
      clear hend
      subst hz
      go_wp2
      go_ret
      exact ⟨_, L, rfl, Hend.out, owns_mono hown (by omega), hF⟩
end Go.Proofs.YtcmnejcojphijaaGreatDoor

namespace Go.Proofs.YtcmnejcojphijaaGreatDoor
open Go.RowKit

theorem Tryz.infoWord : (Tryz.prog.info? 168).map (fun i => (i.zero, i.size, i.bytes)) = some (some (.agg #[.int .i64 0, .int .i64 0]), 2, 16) := by kernel_rfl

theorem made_two (n j : Nat) (h : j < n) : (madeCells #[Value.int .i64 0, Value.int .i64 0] n)[j]? = some (.int .i64 0) := by
  unfold madeCells
  have h2 : j % 2 = 0 ∨ j % 2 = 1 := by omega
  rcases h2 with h2 | h2 <;> simp [h, h2]

/-- the words' cells, new -/
theorem words_made (n : Nat) (hn : n ≤ 4096) : ∃ C : Array Value, (∀ j, j < n * 2 → C[j]? = some (.int .i64 0)) ∧
    ∀ u : World, (Instr.makeSlice 78 (.int .i64 (n : Int)) (.int .i64 (n : Int))).run Tryz.prog u = .ok (.slice (some ⟨u.heap.size, 0, none⟩) n n) (u.alloc (.cells C 168)) := by
  obtain ⟨i0, hi, hz0, hz1, hz2⟩ := info_parts Tryz.infoWord
  refine ⟨madeCells #[Value.int .i64 0, Value.int .i64 0] (n * 2), fun j hj => made_two _ _ hj, fun u => ?_⟩
  have h := run_make (P := Tryz.prog) u 78 168 i0 (.agg #[.int .i64 0, .int .i64 0]) Tryz.underlying78 hi hz0 .i64 .i64 (n : Int) (n : Int) (by omega) (Int.le_refl _) (by rw [hz2]; omega) (by omega)
  simpa [hz1, Value.cells] using h

set_option maxHeartbeats 400000 in
theorem hnew_no (w : World) (a : Int) (ha : a < 1 ∨ 4096 < a) :
    Calls Tryz.prog 47 #[.int .i64 a] w fun e w' => e = .returned (.tuple #[.agg #[.slice none 0 0], .int .i64 5]) ∧ Fr NoB w w' := by
  rcases ha with ha | ha
  · go_enter Tryz.func47, Tryz.ntmps47
    go_wp2
    refine bodyPost_ret (v := .tuple #[.agg #[.slice none 0 0], .int .i64 5]) (by simp [results, Tryz.results47, go_sem]) rfl ⟨rfl, ?_⟩
    repeat (first | exact Fr.refl _ _ | refine Fr.setCell ?_ (fun h => absurd h (Nat.lt_irrefl _)) _ | refine Fr.alloc ?_ _)
  · have ha0 : ¬ a < 1 := by omega
    go_enter Tryz.func47, Tryz.ntmps47
    go_wp2
    refine bodyPost_ret (v := .tuple #[.agg #[.slice none 0 0], .int .i64 5]) (by simp [results, Tryz.results47, go_sem]) rfl ⟨rfl, ?_⟩
    repeat (first | exact Fr.refl _ _ | refine Fr.setCell ?_ (fun h => absurd h (Nat.lt_irrefl _)) _ | refine Fr.alloc ?_ _)

set_option maxHeartbeats 400000 in
theorem hnew_yes (w : World) (n : Nat) (h1 : 1 ≤ n) (h2 : n ≤ 4096) :
    Calls Tryz.prog 47 #[.int .i64 (n : Int)] w fun e w' => ∃ r, e = .returned (.tuple #[.agg #[.slice (some ⟨r, 0, none⟩) n n], .int .i64 0]) ∧ Fr NoB w w' ∧
      w.heap.size ≤ r ∧ r < w'.heap.size ∧ (∀ j, j < n * 2 → w'.cell? ⟨r, j, none⟩ = some (.int .i64 0)) ∧ (∀ o, w'.frozen? ⟨r, o, none⟩ = false) := by
  obtain ⟨C, hC, hmk⟩ := words_made n h2
  have HC : Hid (∀ j, j < n * 2 → C[j]? = some (.int .i64 0)) := hC
  clear hC
  go_enter Tryz.func47, Tryz.ntmps47
  go_wp2
  refine bodyPost_ret (v := .tuple #[.agg #[.slice (some ⟨w.heap.size + 1, 0, none⟩) n n], .int .i64 0]) (by simp [results, Tryz.results47, go_sem]) rfl ⟨w.heap.size + 1, rfl, ?_, by omega, by simp, ?_, ?_⟩
  · repeat (first | exact Fr.refl _ _ | refine Fr.setCell ?_ (fun h => absurd h (Nat.lt_irrefl _)) _ | refine Fr.alloc ?_ _)
  · intro j hj
    rw [World.cell?_alloc_at _ _ _ _ (by simp)]
    exact HC.out j hj
  · intro o
    rw [World.frozen?_alloc_at _ _ _ _ (by simp)]

set_option maxHeartbeats 400000 in
theorem new_no (w : World) (a : Int) (ha : a < 1 ∨ 4096 < a) :
    Calls Tryz.prog 24 #[.int .i64 a] w fun e w' => e = .returned (.tuple #[.pointer none, .int .i64 5]) ∧ Fr NoB w w' := by
  go_enter Tryz.func24, Tryz.ntmps24
  go_wp2_with (go_at_call 47; refine (hnew_no _ a ha).mono ?_; rintro e w1 ⟨rfl, hf⟩)
  go_ret2
  refine ⟨rfl, ?_⟩
  repeat (first | exact hf | refine Fr.setCell ?_ (fun h => absurd h (by have := hf.size; simp; omega)) _ | refine Fr.alloc ?_ _)

set_option maxHeartbeats 400000 in
theorem new_yes (w : World) (n : Nat) (h1 : 1 ≤ n) (h2 : n ≤ 4096) :
    Calls Tryz.prog 24 #[.int .i64 (n : Int)] w fun e w' => ∃ p r, e = .returned (.tuple #[.pointer (some ⟨p, 0, none⟩), .int .i64 0]) ∧ Fr NoB w w' ∧
      w.heap.size ≤ p ∧ w.heap.size ≤ r ∧ HeapAt w' p r n (fun _ => 0) (fun _ => 0) := by
  go_enter Tryz.func24, Tryz.ntmps24
  go_wp2_with fail
  refine (hnew_yes _ n h1 h2).mono ?_
  rintro e w1 ⟨r, rfl, hf, hr1, hr2, hc, hz⟩
  have Hc : Hid (∀ j, j < n * 2 → w1.cell? ⟨r, j, none⟩ = some (.int .i64 0)) := hc
  have Hz : Hid (∀ o, w1.frozen? ⟨r, o, none⟩ = false) := hz
  clear hc hz
  go_wp2
  go_ret2
  have hs := hf.size
  refine ⟨w1.heap.size + 1, r, rfl, (hf.alloc _).alloc _, by omega, hr1, ?_⟩
  have hkeep : Fr NoB w1 ((w1.alloc (Obj.cells #[Value.slice (some { block := r, off := 0 }) n n] 80)).alloc (Obj.cells #[Value.slice (some { block := r, off := 0 }) n n] 113)) := ((Fr.refl _ _).alloc _).alloc _
  refine ⟨h1, h2, by omega, ?_, ?_, ?_, ?_, fun _ _ => Int.le_refl _, fun i _ => by omega⟩
  · rw [World.cell?_alloc_at _ _ _ _ (by simp)]; rfl
  · intro i hi; exact hkeep.cell_some (Hc.out (i * 2) (by omega)) id
  · intro i hi; exact hkeep.cell_some (Hc.out (i * 2 + 1) (by omega)) id
  · intro o; exact (hkeep.frozen (p := ⟨r, o, none⟩) hr2 id).trans (Hz.out o)

/- The wrappers of package steward. -/
set_option maxHeartbeats 400000 in
theorem sload_no (w : World) (p r n : Nat) (B V : Nat → Int) (a : Int) (h : HeapAt w p r n B V) (ht : takenB B n a = false) :
    Calls Tryz.prog 54 #[.pointer (some ⟨p, 0, none⟩), .int .i64 a] w fun e w' => e = .returned (.tuple #[.int .i64 0, .int .i64 7]) ∧ w' = w := by
  have hp := h.ptr
  go_enter Tryz.func54, Tryz.ntmps54
  go_wp2_with (go_at_call 96; refine (load_no _ p r n B V a h ht).mono ?_; rintro e w' ⟨rfl, rfl⟩)
  go_ret2
  exact ⟨rfl, rfl⟩
set_option maxHeartbeats 400000 in
theorem sload_yes (w : World) (p r n : Nat) (B V : Nat → Int) (k : Nat) (h : HeapAt w p r n B V) (hk : k < n) (ht : B k ≠ 0) :
    Calls Tryz.prog 54 #[.pointer (some ⟨p, 0, none⟩), .int .i64 (k : Int)] w fun e w' => e = .returned (.tuple #[.int .i64 (V k), .int .i64 0]) ∧ w' = w := by
  have hp := h.ptr
  go_enter Tryz.func54, Tryz.ntmps54
  go_wp2_with (go_at_call 96; refine (load_yes _ p r n B V k h hk ht).mono ?_; rintro e w' ⟨rfl, rfl⟩)
  go_ret2
  exact ⟨rfl, rfl⟩
set_option maxHeartbeats 400000 in
theorem sstore_no (w : World) (p r n : Nat) (B V : Nat → Int) (a u : Int) (h : HeapAt w p r n B V) (ht : takenB B n a = false) :
    Calls Tryz.prog 56 #[.pointer (some ⟨p, 0, none⟩), .int .i64 a, .int .i64 u] w fun e w' => e = .returned (.int .i64 7) ∧ w' = w := by
  have hp := h.ptr
  go_enter Tryz.func56, Tryz.ntmps56
  go_wp2_with (go_at_call 97; refine (store_no _ p r n B V a u h ht).mono ?_; rintro e w' ⟨rfl, rfl⟩)
  go_ret
  exact ⟨rfl, rfl⟩
set_option maxHeartbeats 400000 in
theorem sstore_arg (w : World) (p r n : Nat) (B V : Nat → Int) (k : Nat) (u : Int) (h : HeapAt w p r n B V) (hk : k < n) (ht : B k ≠ 0) (hu : u < 0 ∨ 1000 ≤ u) :
    Calls Tryz.prog 56 #[.pointer (some ⟨p, 0, none⟩), .int .i64 (k : Int), .int .i64 u] w fun e w' => e = .returned (.int .i64 5) ∧ w' = w := by
  have hp := h.ptr
  go_enter Tryz.func56, Tryz.ntmps56
  go_wp2_with (go_at_call 97; refine (store_arg _ p r n B V k u h hk ht hu).mono ?_; rintro e w' ⟨rfl, rfl⟩)
  go_ret
  exact ⟨rfl, rfl⟩
set_option maxHeartbeats 400000 in
theorem sstore_yes (w : World) (p r n : Nat) (B V : Nat → Int) (k : Nat) (u : Int) (h : HeapAt w p r n B V) (hk : k < n) (ht : B k ≠ 0) (hu0 : 0 ≤ u) (hu1 : u < 1000) :
    Calls Tryz.prog 56 #[.pointer (some ⟨p, 0, none⟩), .int .i64 (k : Int), .int .i64 u] w fun e w' => e = .returned (.int .i64 0) ∧ HeapAt w' p r n B (upd V k u) ∧ Fr (OneB r) w w' := by
  have hp := h.ptr
  have H : Hid (HeapAt (w.setCell ⟨r, k * 2 + 1, none⟩ (.int .i64 u)) p r n B (upd V k u) ∧ Fr (OneB r) w (w.setCell ⟨r, k * 2 + 1, none⟩ (.int .i64 u))) := ⟨h.setVal hk u, (Fr.refl (OneB r) w).setCell (p := ⟨r, k * 2 + 1, none⟩) (fun _ => rfl) _⟩
  go_enter Tryz.func56, Tryz.ntmps56
  go_wp2_with (go_at_call 97; refine (store_yes _ p r n B V k u h hk ht hu0 hu1).mono ?_; rintro e w' ⟨rfl, rfl⟩)
  go_ret
  exact ⟨rfl, H.out⟩
set_option maxHeartbeats 400000 in
theorem sfree_no (w : World) (p r n : Nat) (B V : Nat → Int) (a : Int) (h : HeapAt w p r n B V) (ht : takenB B n a = false) :
    Calls Tryz.prog 52 #[.pointer (some ⟨p, 0, none⟩), .int .i64 a] w fun e w' => e = .returned (.int .i64 7) ∧ w' = w := by
  have hp := h.ptr
  go_enter Tryz.func52, Tryz.ntmps52
  go_wp2_with (go_at_call 94; refine (free_no _ p r n B V a h ht).mono ?_; rintro e w' ⟨rfl, rfl⟩)
  go_ret
  exact ⟨rfl, rfl⟩
set_option maxHeartbeats 400000 in
theorem sfree_mid (w : World) (p r n : Nat) (B V : Nat → Int) (k : Nat) (h : HeapAt w p r n B V) (hk : k < n) (ht : B k ≠ 0) (hs : B k ≠ (k : Int) + 1) :
    Calls Tryz.prog 52 #[.pointer (some ⟨p, 0, none⟩), .int .i64 (k : Int)] w fun e w' => e = .returned (.int .i64 7) ∧ w' = w := by
  have hp := h.ptr
  go_enter Tryz.func52, Tryz.ntmps52
  go_wp2_with (go_at_call 94; refine (free_mid _ p r n B V k h hk ht hs).mono ?_; rintro e w' ⟨rfl, rfl⟩)
  go_ret
  exact ⟨rfl, rfl⟩
set_option maxHeartbeats 400000 in
theorem sfree_yes (w : World) (p r n : Nat) (B V : Nat → Int) (k : Nat) (h : HeapAt w p r n B V) (hk : k < n) (hs : B k = (k : Int) + 1) :
    Calls Tryz.prog 52 #[.pointer (some ⟨p, 0, none⟩), .int .i64 (k : Int)] w fun e w' => e = .returned (.int .i64 0) ∧
      ∃ z, k < z ∧ z ≤ n ∧ (∀ i, k ≤ i → i < z → B i = (k : Int) + 1) ∧ (z = n ∨ B z ≠ (k : Int) + 1) ∧ HeapAt w' p r n (clearTo B k z) (clearTo V k z) ∧ Fr (OneB r) w w' := by
  have hp := h.ptr
  have Hs : Hid (B k = (k : Int) + 1) := hs
  clear hs
  go_enter Tryz.func52, Tryz.ntmps52
  go_wp2_with fail
  refine (free_yes _ p r n B V k h hk Hs.out).mono ?_
  rintro e w' ⟨rfl, hq⟩
  have Hq := show Hid (∃ z, k < z ∧ z ≤ n ∧ (∀ i, k ≤ i → i < z → B i = (k : Int) + 1) ∧ (z = n ∨ B z ≠ (k : Int) + 1) ∧ HeapAt w' p r n (clearTo B k z) (clearTo V k z) ∧ Fr (OneB r) w w') from hq
  clear hq
  go_wp2
  go_ret
  exact ⟨rfl, Hq.out⟩
set_option maxHeartbeats 400000 in
theorem salloc_arg (w : World) (p r n : Nat) (B V : Nat → Int) (k : Int) (h : HeapAt w p r n B V) (hk : k < 1 ∨ 64 < k) :
    Calls Tryz.prog 50 #[.pointer (some ⟨p, 0, none⟩), .int .i64 k] w fun e w' => e = .returned (.tuple #[.int .i64 0, .int .i64 5]) ∧ w' = w := by
  have hp := h.ptr
  go_enter Tryz.func50, Tryz.ntmps50
  go_wp2_with (go_at_call 92; refine (alloc_arg _ p k hk).mono ?_; rintro e w' ⟨rfl, rfl⟩)
  go_ret2
  exact ⟨rfl, rfl⟩
set_option maxHeartbeats 400000 in
theorem salloc_any (w : World) (p r n : Nat) (B V : Nat → Int) (k : Nat) (h : HeapAt w p r n B V) (hk1 : 1 ≤ k) (hk2 : k ≤ 64) :
    Calls Tryz.prog 50 #[.pointer (some ⟨p, 0, none⟩), .int .i64 (k : Int)] w fun e w' =>
      (∃ a : Nat, FreeAt B n k a ∧ (∀ b, FreeAt B n k b → a ≤ b) ∧ e = .returned (.tuple #[.int .i64 (a : Int), .int .i64 0]) ∧ HeapAt w' p r n (markTo B a (a + k)) V ∧ Fr (OneB r) w w') ∨
      ((∀ b, ¬ FreeAt B n k b) ∧ e = .returned (.tuple #[.int .i64 0, .int .i64 6]) ∧ Fr NoB w w') := by
  have hp := h.ptr
  go_enter Tryz.func50, Tryz.ntmps50
  go_wp2_with fail
  refine (alloc_any _ p r n B V k h hk1 hk2).mono ?_
  intro e w' hq
  rcases hq with ⟨a, h1, h2, rfl, h4, h5⟩ | ⟨h1, rfl, h3⟩
  · have H : Hid (FreeAt B n k a ∧ (∀ b, FreeAt B n k b → a ≤ b) ∧ HeapAt w' p r n (markTo B a (a + k)) V ∧ Fr (OneB r) w w') := ⟨h1, h2, h4, h5⟩
    clear h1 h2 h4 h5
    go_wp2
    go_ret2
    exact .inl ⟨a, H.out.1, H.out.2.1, rfl, H.out.2.2⟩
  · have H : Hid ((∀ b, ¬ FreeAt B n k b) ∧ Fr NoB w w') := ⟨h1, h3⟩
    clear h1 h3
    go_wp2
    go_ret2
    exact .inr ⟨H.out.1, rfl, H.out.2⟩
set_option maxHeartbeats 400000 in
theorem sruns_any (w : World) (p r n : Nat) (B V : Nat → Int) (h : HeapAt w p r n B V) :
    Calls Tryz.prog 98 #[.pointer (some ⟨p, 0, none⟩)] w fun e w' =>
      ∃ v L, e = .returned v ∧ IsRuns B n 0 L ∧ w'.ownsRow w.heap.size 82 2 v L.length (spanCells L) ∧ Fr NoB w w' := by
  have hp := h.ptr
  go_enter Tryz.func98, Tryz.ntmps98
  go_wp2_with fail
  refine (runs_any _ p r n B V h).mono ?_
  rintro e w' ⟨v, L, rfl, h2, h3, h4⟩
  have H : Hid (IsRuns B n 0 L ∧ w'.ownsRow w.heap.size 82 2 v L.length (spanCells L) ∧ Fr NoB w w') := ⟨h2, h3, h4⟩
  clear h2 h3 h4
  go_wp2
  go_ret
  exact ⟨v, L, rfl, H.out⟩
end Go.Proofs.YtcmnejcojphijaaGreatDoor
