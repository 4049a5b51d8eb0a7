/-
  The program's full: Find, and the first box that is used and not full.
-/
import Derived.Test.YtcmnejcojphijaaDevC
namespace Go.Proofs.Ytcmnejcojphijaa
open Go.RowKit
set_option linter.unusedVariables false

/-- how many boxes the loops' sets have together -/
def muN (p : Nat → Pt) (B : Nat → Nat → Bool) : Nat → Nat
  | 0 => 0
  | q + 1 => muN p B q + (if (p q).kind = 11 then card (B q) 26 else 0)
theorem muN_le {p : Nat → Pt} {B B' : Nat → Nat → Bool} : ∀ {n : Nat}, (∀ q, q < n → (p q).kind = 11 → Sub (B' q) (B q)) → muN p B' n ≤ muN p B n
  | 0, _ => Nat.le_refl _
  | n + 1, h => by
    have h1 := muN_le (n := n) (fun q hq => h q (by omega))
    show muN p B' n + _ ≤ muN p B n + _
    split
    · rename_i hk
      have := card_mono (n := 26) (fun i _ => h n (by omega) hk i)
      omega
    · omega
theorem muN_lt {p : Nat → Pt} {B B' : Nat → Nat → Bool} : ∀ {n : Nat}, (∀ q, q < n → (p q).kind = 11 → Sub (B' q) (B q)) → (∃ q, q < n ∧ (p q).kind = 11 ∧ ∃ x, x < 26 ∧ B q x = true ∧ B' q x = false) → muN p B' n < muN p B n
  | 0, _, h => by obtain ⟨q, hq, _⟩ := h; omega
  | n + 1, h, ⟨q, hq, hk, x, hx, h1, h2⟩ => by
    show muN p B' n + (if (p n).kind = 11 then card (B' n) 26 else 0) < muN p B n + (if (p n).kind = 11 then card (B n) 26 else 0)
    by_cases e : q = n
    · subst e
      have a1 := muN_le (n := q) (fun q' hq' => h q' (by omega))
      have a2 := card_lt (n := 26) (fun i _ => h q (by omega) hk i) ⟨x, hx, h2, h1⟩
      rw [if_pos hk, if_pos hk]
      omega
    · have a1 := muN_lt (n := n) (fun q' hq' => h q' (by omega)) ⟨q, by omega, hk, x, hx, h1, h2⟩
      split
      · rename_i hk2
        have := card_mono (n := 26) (fun i _ => h n (by omega) hk2 i)
        omega
      · omega
theorem pass_mu {p : Nat → Pt} {n : Nat} (hp : FlatOk p n) (A B : Nat → Nat → Bool) : ∀ i, i ≤ n → (∀ q, q < n → (p q).kind = 11 → Sub ((passM p i 0 ⟨A, B, fun _ => false, true⟩).B q) (B q)) ∧
    ((passM p i 0 ⟨A, B, fun _ => false, true⟩).st = false → ∃ q, q < n ∧ (p q).kind = 11 ∧ ∃ x, x < 26 ∧ B q x = true ∧ (passM p i 0 ⟨A, B, fun _ => false, true⟩).B q x = false)
  | 0, _ => ⟨fun q _ _ => Sub.refl _, fun h => absurd h (by simp [passM])⟩
  | i + 1, hi => by
    obtain ⟨h1, h2⟩ := pass_mu hp A B i (by omega)
    rw [pass_next]
    generalize passM p i 0 ⟨A, B, fun _ => false, true⟩ = z at h1 h2
    obtain ⟨_, _, e3, e4⟩ := step_eq p i z
    have keep : (∀ q, q < n → (p q).kind = 11 → Sub ((stepM p i z).B q) (z.B q)) → z.st = false → ∃ q, q < n ∧ (p q).kind = 11 ∧ ∃ x, x < 26 ∧ B q x = true ∧ (stepM p i z).B q x = false := fun hs hz => by
      obtain ⟨q, hq, hk, x, hx, b1, b2⟩ := h2 hz
      refine ⟨q, hq, hk, x, hx, b1, ?_⟩
      cases hc : (stepM p i z).B q x
      · rfl
      · have := hs q hq hk x hc
        rw [b2] at this; cases this
    by_cases h11 : (p i).kind = 12
    · obtain ⟨f1, f2⟩ := e4 h11
      have ho := hp.op i (by omega) (.inr (.inr h11))
      have hk10 := hp.lp i (by omega) h11
      have hs : ∀ q, q < n → (p q).kind = 11 → Sub ((stepM p i z).B q) (z.B q) := fun q hq hk => by
        rw [f1, updA_ne _ _ (fun e => by subst e; omega)]
        by_cases e : q = (p i).opn
        · rw [e, updA_at, now11 h11]; exact Sub.left _ _
        · rw [updA_ne _ _ e]; exact Sub.refl _
      refine ⟨fun q hq hk => (hs q hq hk).trans (h1 q hq hk), fun hst => ?_⟩
      cases hz : z.st
      · exact keep hs hz
      · rw [f2, hz] at hst
        simp only [Bool.true_and] at hst
        replace hst := subD_not hst
        have : ∃ x, x < 26 ∧ z.B (p i).opn x = true ∧ z.now x = false := by
          apply Classical.byContradiction
          intro hn
          apply hst
          intro x hx hb
          cases hc : z.now x
          · exact absurd ⟨x, hx, hb, hc⟩ hn
          · rfl
        obtain ⟨x, hx, b1, b2⟩ := this
        refine ⟨(p i).opn, by omega, hk10, x, hx, h1 _ (by omega) hk10 x b1, ?_⟩
        rw [step_B11 h11 (by omega), now11 h11]
        unfold bothF
        rw [b2]
        simp
    · obtain ⟨f1, f2⟩ := e3 h11
      have hs : ∀ q, q < n → (p q).kind = 11 → Sub ((stepM p i z).B q) (z.B q) := fun q hq hk => by
        rw [f1]
        by_cases e : q = i
        · subst e
          rw [updA_at, now10 hk]; exact Sub.right _ _
        · rw [updA_ne _ _ e]; exact Sub.refl _
      exact ⟨fun q hq hk => (hs q hq hk).trans (h1 q hq hk), fun hst => keep hs (by rw [f2] at hst; exact hst)⟩

def allF : Nat → Bool := fun i => decide (i < 26)
theorem msk_all : msk allF = 67108863 := by decide
theorem sub_all {f : Nat → Bool} (h : Clean f) : Sub f allF := fun i hi => by
  unfold allF
  by_cases q : i < 26
  · simp [q]
  · rw [h i (by omega)] at hi; cases hi

/-- the parts are those of the text -/
def Seg0 (p : Nat → Pt) (s : ByteArray) (n : Nat) : Prop := SegQ p s (AboveC (fun _ => allF)) TrueC (s.size + 1) 0 s.size 0 n (fun _ => false)
theorem seg_is (p : Nat → Pt) (n : Nat) (z : Ps) : seg p 0 n z = passM p n 0 z := rfl

theorem Try.infoArnd : (Try.prog.info? 85).map (fun i => (i.zero, i.size, i.bytes)) = some (some (.agg #[.int .u32 0, .int .u32 0]), 2, 8) := by kernel_rfl
theorem made_two32 (n j : Nat) (h : j < n) : (madeCells #[Value.int .u32 0, Value.int .u32 0] n)[j]? = some (.int .u32 0) := by
  unfold madeCells
  have h2 : j % 2 = 0 ∨ j % 2 = 1 := by omega
  rcases h2 with h2 | h2 <;> simp [h, h2]
theorem arnd_made (n : Nat) (hn : n ≤ 100000) : ∃ C : Array Value, (∀ j, j < n * 2 → C[j]? = some (.int .u32 0)) ∧
    ∀ u : World, (Instr.makeSlice 65 (.int .i64 (n : Int)) (.int .i64 (n : Int))).run Try.prog u = .ok (.slice (some ⟨u.heap.size, 0, none⟩) n n) (u.alloc (.cells C 85)) := by
  obtain ⟨i0, hi, hz0, hz1, hz2⟩ := info_parts Try.infoArnd
  refine ⟨madeCells #[Value.int .u32 0, Value.int .u32 0] (n * 2), fun j hj => made_two32 _ _ hj, fun u => ?_⟩
  have h := run_make (P := Try.prog) u 65 85 i0 (.agg #[.int .u32 0, .int .u32 0]) Try.underlying65 hi hz0 .i64 .i64 (n : Int) (n : Int) (by omega) (Int.le_refl _) (by rw [hz2]; omega) (by omega)
  simpa [hz1, Value.cells] using h

/-- what Find answers -/
def FindSays (p : Nat → Pt) (s : ByteArray) (n : Nat) (w : World) (e : Ending) (w' : World) : Prop := ∃ (ga : Nat) (A B : Nat → Nat → Bool), e = .returned (.slice (some ⟨ga, 0, none⟩) n n) ∧ Arnd w' ga n A B ∧ SegQ p s TrueC (ExactC A) (s.size + 1) 0 s.size 0 n (fun _ => false) ∧ Fr NoB w w'
set_option maxRecDepth 8000 in
set_option maxHeartbeats 4000000 in
theorem find_fn (w : World) (n pc : Nat) (ao : Option Addr) (p : Nat → Pt) (CL : Nat → Nat) (s : ByteArray) (hn : n ≤ 100000) (hp : FlatOk p n) (hP : PartRow w ao n p CL) (hseg : Seg0 p s n) (hpl : ∀ g, ao = some ⟨g, 0, none⟩ → g < w.heap.size) :
    Calls Try.prog 27 #[.slice ao n pc] w fun e w' => FindSays p s n w e w' := by
  have Hp : Hid (FlatOk p n) := hp
  have HP : Hid (PartRow w ao n p CL) := hP
  have Hseg : Hid (Seg0 p s n) := hseg
  have Hpl : Hid _ := hpl
  clear hp hP hseg hpl
  obtain ⟨C, hC, hmk⟩ := arnd_made n hn
  have HC : Hid (∀ j, j < n * 2 → C[j]? = some (.int .u32 0)) := hC
  clear hC
  go_enter Try.func27, Try.ntmps27
  go_upto_region 3 with fail
  have h0 : Arnd ((w.alloc (Obj.cells C 85)).alloc (Obj.cells #[Value.slice ao n pc, Value.slice (some ⟨w.heap.size, 0, none⟩) n n] 81)) w.heap.size n (fun _ _ => false) (fun q => if q < 0 then allF else fun _ => false) := by
    have base : Arnd (w.alloc (Obj.cells C 85)) w.heap.size n (fun _ _ => false) (fun q => if q < 0 then allF else fun _ => false) := by
      refine ⟨fun i hi => ?_, fun i hi => ?_, fun o => World.frozen?_alloc_at _ _ _ _ rfl⟩
      · rw [msk_none]; exact cell_new _ _ _ rfl (HC.out _ (by omega))
      · simp only [Nat.not_lt_zero, if_false]; rw [msk_none]; exact cell_new _ _ _ rfl (HC.out _ (by omega))
    exact base.no ((Fr.refl _ _).alloc _) (by simp)
  have f0 : ((w.alloc (Obj.cells C 85)).alloc (Obj.cells #[Value.slice ao n pc, Value.slice (some ⟨w.heap.size, 0, none⟩) n n] 81)).cell? ⟨w.heap.size + 1, 0, none⟩ = some (.slice ao n pc) := cell_new _ _ _ (by simp) rfl
  have f1 : ((w.alloc (Obj.cells C 85)).alloc (Obj.cells #[Value.slice ao n pc, Value.slice (some ⟨w.heap.size, 0, none⟩) n n] 81)).cell? ⟨w.heap.size + 1, 1, none⟩ = some (.slice (some ⟨w.heap.size, 0, none⟩) n n) := cell_new _ _ _ (by simp) rfl
  have hFr : Fr NoB w ((w.alloc (Obj.cells C 85)).alloc (Obj.cells #[Value.slice ao n pc, Value.slice (some ⟨w.heap.size, 0, none⟩) n n] 81)) := ((Fr.refl _ _).alloc _).alloc _
  generalize ((w.alloc (Obj.cells C 85)).alloc (Obj.cells #[Value.slice ao n pc, Value.slice (some ⟨w.heap.size, 0, none⟩) n n] 81)) = W at *
  have H0 : Hid _ := h0
  have F0 : Hid _ := f0
  have F1 : Hid _ := f1
  have HFr : Hid _ := hFr
  clear h0 f0 f1 hFr hmk HC
  go_loopw [4] (fun t wr => ∃ i : Nat, i ≤ n ∧ t = .int .i64 i ∧ Arnd wr w.heap.size n (fun _ _ => false) (fun q => if q < i then allF else fun _ => false) ∧ Fr (OneB w.heap.size) W wr) (fun t _ => n - (intOf t).toNat)
  case atStart => exact ⟨0, Nat.zero_le _, rfl, H0.out, Fr.refl _ _⟩
  case round =>
    obtain ⟨i, hi, rfl, hA, hF⟩ := hrel
    have hne : ¬ OneB w.heap.size (w.heap.size + 1) := by unfold OneB; omega
    have c1 := hF.cell_some F1.out hne
    have HF : Hid _ := hF
    have HA : Hid _ := hA
    clear hF hA
    by_cases hlt : i < n
    · have e1 := HA.out.b i hlt
      have e2 := HA.out.f (i * 2 + 1)
      simp only [Nat.lt_irrefl, if_false] at e1
      go_wp2
      go_roundw
      case rel =>
        refine ⟨i + 1, by omega, by go_num, ?_, HF.out.setCell (p := ⟨w.heap.size, i * 2 + 1, none⟩) (fun _ => rfl) _⟩
        have this0 := HA.out.setB hlt allF
        rw [msk_all] at this0
        have this : Arnd (wr.setCell ⟨w.heap.size, i * 2 + 1, none⟩ (.int .u32 67108863)) w.heap.size n (fun _ _ => false) (updA (fun q => if q < i then allF else fun _ => false) i allF) := this0
        refine ⟨this.a, fun q hq => ?_, this.f⟩
        rw [this.b q hq]
        unfold updA
        by_cases e : q = i
        · subst e; simp
        · by_cases e2 : q < i
          · simp [e, e2, show q < i + 1 by omega]
          · simp [e, e2, show ¬ q < i + 1 by omega]
      case measure => simp [intOf]; omega
    · have hie : i = n := by omega
      subst hie
      have HB : Hid (Arnd wr w.heap.size i (fun _ _ => false) (fun _ => allF)) := ⟨HA.out.a, fun q hq => by rw [HA.out.b q hq, if_pos hq], HA.out.f⟩
      have hw1 : w.heap.size + 1 < wr.heap.size := World.block_lt_of_cell? _ _ c1
      have HFn : Hid (Fr NoB w wr) := HFr.out.then HF.out (fun k hk e => by unfold OneB at e; omega)
      have G0 : Hid _ := HF.out.cell_some F0.out hne
      have G1 : Hid _ := c1
      clear c1 HA HF H0 F0 F1 HFr
      generalize hwr : wr = V at *
      clear hwr
      go_wp2
      go_loopg [5] (muN p (fun _ => allF) i + 1) (fun k t wr => ∃ (A B : Nat → Nat → Bool) (st : Bool), t = .bool st ∧ (st = false → muN p B i + 1 ≤ k) ∧ Arnd wr w.heap.size i A B ∧ SegQ p s (AboveC B) TrueC (s.size + 1) 0 s.size 0 i (fun _ => false) ∧ (st = true → SegQ p s TrueC (ExactC A) (s.size + 1) 0 s.size 0 i (fun _ => false)) ∧ Fr (OneB w.heap.size) V wr)
      case atStart => exact ⟨_, _, false, rfl, fun _ => Nat.le_refl _, HB.out, Hseg.out, fun h => absurd h (by simp), Fr.refl _ _⟩
      case round =>
        obtain ⟨A, B, st, rfl, hk, hA, hS, hE, hF⟩ := hrel
        cases st
        · have hk2 := hk rfl
          have hgl : w.heap.size < wr.heap.size := Nat.lt_of_lt_of_le (by omega) hF.size
          have g0 := hF.cell_some G0.out hne
          have g1 := hF.cell_some G1.out hne
          have hPr := (HP.out.no HFn.out).fr hF (fun g e q => by have := Hpl.out g e; unfold OneB at q; omega)
          have HPass : Hid _ := fpass_fn wr (w.heap.size + 1) w.heap.size i i pc ao p CL A B hn Hp.out hPr hA g0 g1 hgl (by omega) (fun g e => by have := Hpl.out g e; omega)
          have hmu := pass_mu Hp.out A B i (Nat.le_refl _)
          have hup := (seg_up (z := ⟨A, B, fun _ => false, true⟩) hS clean_none (Sub.refl _)).2
          have hex := fun h => (seg_exact (z := ⟨A, B, fun _ => false, true⟩) hS clean_none h).2
          rw [seg_is] at hup hex
          generalize passM p i 0 ⟨A, B, fun _ => false, true⟩ = z at HPass hmu hup hex
          have Hmu : Hid _ := hmu
          have Hup : Hid _ := hup
          have Hex : Hid _ := hex
          have HF : Hid _ := hF
          clear hmu hup hex hF hS hE hA hk g0 g1 hPr
          go_wp2_with (go_at_call 37; refine Calls.mono HPass.out ?_; rintro e w2 ⟨rfl, hA2, hF2⟩)
          cases hst : z.st
          · go_roundg (muN p z.B i + 1)
            case measure =>
              have := muN_lt Hmu.out.1 (Hmu.out.2 hst)
              omega
            case rel => exact ⟨z.A, z.B, false, rfl, fun _ => Nat.le_refl _, hA2, Hup.out, fun h => absurd h (by simp), HF.out.trans hF2⟩
          · go_roundg 0
            case measure => omega
            case rel => exact ⟨z.A, z.B, true, rfl, fun h => absurd h (by simp), hA2, Hup.out, fun _ => Hex.out hst, HF.out.trans hF2⟩
        · have HE : Hid _ := hE rfl
          have HA : Hid _ := hA
          have g1 := hF.cell_some G1.out hne
          have HF : Hid _ := hF
          clear hE hA hF hS hk
          go_wp2
          go_ret
          exact ⟨w.heap.size, A, B, rfl, HA.out, HE.out, HFn.out.then HF.out (fun k hk e => by unfold OneB at e; omega)⟩
end Go.Proofs.Ytcmnejcojphijaa
