/-
  MchV, MchW, MchX, MchY: one behind the other.
-/
import Derived.Test.YtcmnejcojphijaaDoorP30MchU
import Derived.Laws.IdiomStrings
namespace Go.Proofs.YtcmnejcojphijaaDoor
open Go.RowKit
set_option linter.unusedVariables false
/-- boxes of zeros -/
def zBox : Array Value := (Value.slice none 0 0 :: List.replicate 53 (Value.int .i64 0)).toArray
def bx0 (hv : Value) : Array Value := zBox.setIfInBounds 0 hv
set_option maxRecDepth 100000 in
theorem build_bx (W : World) (r n : Nat) : (Instr.build 71 #[(0, .agg #[.slice (some ⟨r, 0, none⟩) n n])]).run Tryd.prog W = .ok (.agg (bx0 (.slice (some ⟨r, 0, none⟩) n n))) W := by kernel_rfl
set_option maxRecDepth 100000 in
theorem build_mac (W : World) (r n k np cap : Nat) (ao : Option Addr) : (Instr.build 73 #[(0, .slice ao np cap), (3, .int .i64 (k : Int)), (5, .agg (bx0 (.slice (some ⟨r, 0, none⟩) n n)))]).run Tryd.prog W = .ok (.agg (mac0 (.slice ao np cap) (.slice (some ⟨r, 0, none⟩) n n) k)) W := by kernel_rfl
theorem wpList_build {P : Program} {w : World} {ops : Array Oper} {rest : List Oper} {o : Oper} {a : Act} {Q : Exit → Act → World → Prop} (hgd : o.guard = none) (t : TypeId) (ps : Array (Nat × Operand)) (ho : o.op = .build t ps) (vs : Array (Nat × Value)) (hvs : (ps.map fun x => (x.1, a.eval x.2)) = vs) (v : Value) (hb : (Instr.build t vs).run P w = .ok v w)
    (h : wpList P ops Q rest (a.put o.dst v) w) : wpList P ops Q (o :: rest) a w := by
  refine wpList_plain hgd fun K hK => ?_
  unfold Oper.wp execOp
  simp only [ho, hvs, Sem.run_bind, hb, Result.andThen_ok, Sem.run_pure]
  exact hK _ _ h
theorem mac0_size (pv hv : Value) (k : Nat) : (mac0 pv hv k).size = 87 := by simp [mac0, zMac_size]
theorem one_set {A : Array Value} (h : ∀ v ∈ A.toList, v.oneCell' = true) {i : Nat} {u : Value} (hu : u.oneCell' = true) : ∀ v ∈ (A.setIfInBounds i u).toList, v.oneCell' = true := by
  intro v hv
  rw [Array.toList_setIfInBounds] at hv
  rcases List.mem_or_eq_of_mem_set hv with q | q
  · exact h v q
  · rw [q]; exact hu
theorem mac0_one {pv hv : Value} {k : Nat} (h1 : pv.oneCell' = true) (h2 : hv.oneCell' = true) : ∀ v ∈ (mac0 pv hv k).toList, v.oneCell' = true := one_set (one_set (one_set zMac_one h1) rfl) h2
set_option maxRecDepth 100000 in
set_option maxHeartbeats 1000000 in
theorem begin_ok (w : World) (ao : Option Addr) (np cap n k : Nat) (h1 : 1 ≤ n) (h2 : n ≤ 4096) (hk : k ≤ 5000) :
    Calls Tryd.prog 22 #[.slice ao np cap, .int .i64 (n : Int), .int .i64 (k : Int)] w fun e w' => ∃ r, e = .returned (.tuple #[.agg (mac0 (.slice ao np cap) (.slice (some ⟨r, 0, none⟩) n n) k), .int .i64 0]) ∧ Fr NoB w w' ∧
      w.heap.size ≤ r ∧ r < w'.heap.size ∧ (∀ j, j < n * 2 → w'.cell? ⟨r, j, none⟩ = some (.int .i64 0)) ∧ (∀ o, w'.frozen? ⟨r, o, none⟩ = false) := by
  have HN : Hid (∀ W, _) := fun W => hnew_yes W n h1 h2
  have HR0 : Hid (Room (w.alloc (.cells Tryd.zeroCells73 73)) w.heap.size 87) := Room.new w _ _ 87 (by rw [zMac_is, zMac_size]; omega)
  have HF0 : Hid (Fr NoB w (w.alloc (.cells Tryd.zeroCells73 73))) := (Fr.refl _ _).alloc _
  have hl0 : w.heap.size < (w.alloc (.cells Tryd.zeroCells73 73)).heap.size := by simp
  have hd0 : decide ((k : Int) < 0) = false := by simp
  have hd1 : decide (5000 < (k : Int)) = false := by simp; omega
  clear h1 h2
  go_enter Tryd.func22, Tryd.ntmps22
  go_upto_region 1 with fail
  generalize (w.alloc _) = W0 at *
  go_upto_region 2 with (go_at_call 36; refine (HN.out _).mono ?_; rintro e w1 ⟨r, rfl, hF1, hr1, hr2, hr3, hr4⟩)
  have hFa : Fr NoB W0 (w1.alloc (.cells #[.slice (some ⟨r, 0, none⟩) n n] 66)) := hF1.alloc _
  have hch : (w1.alloc (.cells #[.slice (some ⟨r, 0, none⟩) n n] 66)).cell? ⟨w1.heap.size, 0, none⟩ = some (.slice (some ⟨r, 0, none⟩) n n) := by rw [World.cell?_alloc_at _ _ _ _ rfl]; rfl
  have hFb : Fr NoB w1 (w1.alloc (.cells #[.slice (some ⟨r, 0, none⟩) n n] 66)) := (Fr.refl _ _).alloc _
  have HX : Hid ((∀ j, j < n * 2 → (w1.alloc (.cells #[.slice (some ⟨r, 0, none⟩) n n] 66)).cell? ⟨r, j, none⟩ = some (.int .i64 0)) ∧ (∀ o, (w1.alloc (.cells #[.slice (some ⟨r, 0, none⟩) n n] 66)).frozen? ⟨r, o, none⟩ = false) ∧ r < (w1.alloc (.cells #[.slice (some ⟨r, 0, none⟩) n n] 66)).heap.size ∧ w.heap.size < r) := ⟨fun j hj => hFb.cell_some (hr3 j hj) id, fun o => (hFb.frozen (p := ⟨r, o, none⟩) hr2 id).trans (hr4 o), Nat.lt_of_lt_of_le hr2 hFb.size, Nat.lt_of_lt_of_le hl0 hr1⟩
  clear hFb hr1 hr2 hr3 hr4
  generalize (w1.alloc _) = W1 at *
  generalize w1.heap.size = hb at *
  have HR1 : Hid _ := HR0.out.fr hFa id hl0
  have hst := room_store HR1.out (A := mac0 (.slice ao np cap) (.slice (some ⟨r, 0, none⟩) n n) k) (mac0_size _ _ _) (mac0_one rfl rfl)
  have HL : Hid _ := mac_lv HR1.out (A := mac0 (.slice ao np cap) (.slice (some ⟨r, 0, none⟩) n n) k) (mac0_size _ _ _)
  have HB1 : Hid _ := build_bx W1 r n
  have HB2 : Hid _ := build_mac W1 r n k np cap ao
  have hms : (mac0 (.slice ao np cap) (.slice (some ⟨r, 0, none⟩) n n) k).size = 87 := mac0_size _ _ _
  generalize hM0 : mac0 (.slice ao np cap) (.slice (some ⟨r, 0, none⟩) n n) k = MM0 at *
  have HM0 : Hid _ := hM0
  clear hM0
  generalize bx0 (.slice (some ⟨r, 0, none⟩) n n) = BX0 at *
  go_upto_region 6 with fail
  iterate 10 go_step
  refine wpList_build rfl 71 _ rfl #[(0, .agg #[.slice (some ⟨r, 0, none⟩) n n])] (by simp [Act.eval]) _ HB1.out ?_
  refine wpList_build rfl 73 _ rfl #[(0, .slice ao np cap), (3, .int .i64 (k : Int)), (5, .agg BX0)] (by simp [Act.eval, Act.put]) _ HB2.out ?_
  go_wp2
  refine bodyPost_ret (v := .tuple #[.agg MM0, .int .i64 0]) (results_ct Tryd.results22 _ _ _ _ rfl HL.out) rfl ?_
  obtain ⟨x1, x2, x3, x4⟩ := HX.out
  have hFs : Fr (OneB w.heap.size) W1 (W1.setCells w.heap.size 0 MM0.toList) := Fr.setCells (S := OneB w.heap.size) (b := w.heap.size) (fun _ => rfl) _ _ (Fr.refl _ _)
  have hne : ¬ OneB w.heap.size r := fun q => by unfold OneB at q; omega
  exact ⟨r, by rw [HM0.out], Fr.setCells (fun q => by omega) _ _ (HF0.out.trans hFa), by omega, Nat.lt_of_lt_of_le x3 hFs.size, fun j hj => hFs.cell_some (x1 j hj) hne, fun o => (hFs.frozen (p := ⟨r, o, none⟩) x3 hne).trans (x2 o)⟩
end Go.Proofs.YtcmnejcojphijaaDoor

namespace Go.Proofs.YtcmnejcojphijaaDoor
open Go.RowKit
set_option linter.unusedVariables false
theorem zMac_n (k : Nat) (h : k < 26) : zMac[4 + k]? = some (.int .i64 0) := by
  match k, h with
  | 0, _ => rfl | 1, _ => rfl | 2, _ => rfl | 3, _ => rfl | 4, _ => rfl | 5, _ => rfl | 6, _ => rfl | 7, _ => rfl | 8, _ => rfl | 9, _ => rfl | 10, _ => rfl | 11, _ => rfl | 12, _ => rfl | 13, _ => rfl | 14, _ => rfl | 15, _ => rfl | 16, _ => rfl | 17, _ => rfl | 18, _ => rfl | 19, _ => rfl | 20, _ => rfl | 21, _ => rfl | 22, _ => rfl | 23, _ => rfl | 24, _ => rfl | 25, _ => rfl | (k + 26), h => exact absurd h (by omega)
theorem zMac_a (k : Nat) (h : k < 26) : zMac[31 + k * 2]? = some (.int .i64 0) := by
  match k, h with
  | 0, _ => rfl | 1, _ => rfl | 2, _ => rfl | 3, _ => rfl | 4, _ => rfl | 5, _ => rfl | 6, _ => rfl | 7, _ => rfl | 8, _ => rfl | 9, _ => rfl | 10, _ => rfl | 11, _ => rfl | 12, _ => rfl | 13, _ => rfl | 14, _ => rfl | 15, _ => rfl | 16, _ => rfl | 17, _ => rfl | 18, _ => rfl | 19, _ => rfl | 20, _ => rfl | 21, _ => rfl | 22, _ => rfl | 23, _ => rfl | 24, _ => rfl | 25, _ => rfl | (k + 26), h => exact absurd h (by omega)
theorem zMac_l (k : Nat) (h : k < 26) : zMac[31 + k * 2 + 1]? = some (.int .i64 0) := by
  match k, h with
  | 0, _ => rfl | 1, _ => rfl | 2, _ => rfl | 3, _ => rfl | 4, _ => rfl | 5, _ => rfl | 6, _ => rfl | 7, _ => rfl | 8, _ => rfl | 9, _ => rfl | 10, _ => rfl | 11, _ => rfl | 12, _ => rfl | 13, _ => rfl | 14, _ => rfl | 15, _ => rfl | 16, _ => rfl | 17, _ => rfl | 18, _ => rfl | 19, _ => rfl | 20, _ => rfl | 21, _ => rfl | 22, _ => rfl | 23, _ => rfl | 24, _ => rfl | 25, _ => rfl | (k + 26), h => exact absurd h (by omega)
theorem mac0_at (pv hv : Value) (k : Nat) {j : Nat} (h0 : j ≠ 0) (h3 : j ≠ 3) (h30 : j ≠ 30) : (mac0 pv hv k)[j]? = zMac[j]? := by
  unfold mac0
  rw [Array.getElem?_setIfInBounds, if_neg (by omega), Array.getElem?_setIfInBounds, if_neg (by omega), Array.getElem?_setIfInBounds, if_neg (by omega)]
theorem mac0_0 (pv hv : Value) (k : Nat) : (mac0 pv hv k)[0]? = some pv := by
  have := zMac_size
  unfold mac0
  rw [Array.getElem?_setIfInBounds, if_neg (by omega), Array.getElem?_setIfInBounds, if_neg (by omega), Array.getElem?_setIfInBounds, if_pos rfl, if_pos (by omega)]
theorem mac0_3 (pv hv : Value) (k : Nat) : (mac0 pv hv k)[3]? = some (.int .i64 (k : Int)) := by
  have := zMac_size
  unfold mac0
  rw [Array.getElem?_setIfInBounds, if_neg (by omega), Array.getElem?_setIfInBounds, if_pos rfl, if_pos (by rw [Array.size_setIfInBounds]; omega)]
theorem mac0_30 (pv hv : Value) (k : Nat) : (mac0 pv hv k)[30]? = some hv := by
  have := zMac_size
  unfold mac0
  rw [Array.getElem?_setIfInBounds, if_pos rfl, if_pos (by rw [Array.size_setIfInBounds, Array.size_setIfInBounds]; omega)]
theorem mac_new {W : World} {b : Nat} (h : Room W b 87) (pv hv : Value) (k : Nat) : MacAt (W.setCells b 0 (mac0 pv hv k).toList) b pv false (mxOf (st0 k) 0 false (.slice none 0 0)) := by
  have key : ∀ {j : Nat} {v : Value}, (mac0 pv hv k)[j]? = some v → (W.setCells b 0 (mac0 pv hv k).toList).cell? ⟨b, j, none⟩ = some v := fun {j v} q => room_cell h (mac0_size _ _ _) q
  have kz : ∀ {j : Nat} {v : Value}, j ≠ 0 → j ≠ 3 → j ≠ 30 → zMac[j]? = some v → (W.setCells b 0 (mac0 pv hv k).toList).cell? ⟨b, j, none⟩ = some v := fun {j v} h0 h3 h30 q => key ((mac0_at pv hv k h0 h3 h30).trans q)
  refine ⟨key (mac0_0 _ _ _), kz (by omega) (by omega) (by omega) rfl, kz (by omega) (by omega) (by omega) rfl, key (mac0_3 _ _ _), fun i hi => kz (by omega) (by omega) (by omega) (zMac_n i hi), fun i hi => ?_, fun i hi => kz (by omega) (by omega) (by omega) (zMac_l i hi), kz (by omega) (by omega) (by omega) rfl, kz (by omega) (by omega) (by omega) rfl, kz (by omega) (by omega) (by omega) rfl, kz (by omega) (by omega) (by omega) rfl, fun o => by rw [World.frozen?_setCells]; exact h.2 o⟩
  exact kz (by omega) (by omega) (by omega) (zMac_a i hi)
/-- the machine of a run that begins -/
theorem mm_new {W : World} {b r n base k np cap : Nat} {ao : Option Addr} (h : Room W b 87) (hb : base ≤ b) (hr : base ≤ r) (hne : b ≠ r) (h1 : 1 ≤ n) (h2 : n ≤ 4096) (hk : k ≤ 5000) (hl : r < W.heap.size) (hc : ∀ j, j < n * 2 → W.cell? ⟨r, j, none⟩ = some (.int .i64 0)) (hf : ∀ o, W.frozen? ⟨r, o, none⟩ = false) :
    MM (W.setCells b 0 (mac0 (.slice ao np cap) (.slice (some ⟨r, 0, none⟩) n n) k).toList) b r n base (.slice ao np cap) false (st0 k) 0 false (fun _ => 0) (fun _ => 0) (.slice none 0 0) := by
  have hF : Fr (OneB b) W (W.setCells b 0 (mac0 (.slice ao np cap) (.slice (some ⟨r, 0, none⟩) n n) k).toList) := Fr.setCells (S := OneB b) (b := b) (fun _ => rfl) _ _ (Fr.refl _ _)
  have hnr : ¬ OneB b r := fun q => hne (by unfold OneB at q; exact q.symm)
  refine ⟨mac_new h _ _ _, ⟨h1, h2, hne, room_cell h (mac0_size _ _ _) (mac0_30 _ _ _), fun i hi => hF.cell_some (hc _ (by omega)) hnr, fun i hi => hF.cell_some (hc _ (by omega)) hnr, fun o => (hF.frozen (p := ⟨r, o, none⟩) hl hnr).trans (hf o), fun i hi => Int.le_refl _, fun i hi => by omega⟩, ⟨fun j hj i hi => absurd hi (by simp [st0]), fun i hi _ => ⟨rfl, rfl⟩⟩, ⟨fun j hj q => absurd rfl q, fun j hj => by simp [st0], fun i j _ _ _ q => absurd rfl q⟩, num_st0 k, ⟨rfl, .inl ⟨rfl, rfl⟩⟩, ?_, hb, hr, fun g hg => by simp [Value.ownBlock] at hg, fun g hg => by simp [Value.ownBlock] at hg, by omega⟩
  show 0 + 5 * k ≤ 25000
  omega
end Go.Proofs.YtcmnejcojphijaaDoor

namespace Go.Proofs.YtcmnejcojphijaaDoor
open Go.RowKit
set_option linter.unusedVariables false

theorem act_byte {c : Cf} {a : Ac} {σ : St} (h : ∀ x, x ∈ σ.tr → x < 256) : ∀ x, x ∈ (act c a σ).1.tr → x < 256 := by
  cases a
  case print o =>
    intro x hx
    have hx' : x ∈ σ.tr ++ digF 3 (valO σ.num o) ++ [59] := hx
    rcases List.mem_append.1 hx' with q | q
    · rcases List.mem_append.1 q with q | q
      · exact h x q
      · exact dig_lt _ _ _ q
    · simp at q; omega
  all_goals
    simp only [act]
    (repeat' split) <;> exact h
theorem part_byte {c : Cf} {t : Pt} {clo nx : Nat} {σ : St} (h : ∀ x, x ∈ σ.tr → x < 256) : ∀ x, x ∈ (partR c t clo nx σ).2.1.tr → x < 256 := by
  unfold partR
  split
  · unfold stp
    split
    · split
      · exact h
      · exact act_byte (σ := due σ) h
    · exact act_byte h
  · split
    · split
      · exact h
      · split <;> exact h
    · split
      · exact h
      · split <;> exact h
theorem ri_byte {c : Cf} {p : Nat → Pt} {C : Nat → Nat} {np m : Nat} {x : Nat × St × Bool} {σf : St} (h : RunsIn c p C np m x σf) : (∀ y, y ∈ x.2.1.tr → y < 256) → ∀ y, y ∈ σf.tr → y < 256 := by
  induction h with
  | over => exact id
  | fin _ => exact id
  | step _ _ ih => exact fun q => ih (part_byte q)
/-- what was printed, as a text -/
theorem conv_tr {w : World} {base : Nat} {tv : Value} {l : List Nat} (h : w.ownsRow base 5 1 tv l.length (l.map u8C)) (hb : ∀ y, y ∈ l → y < 256) : (convert 43 9 tv).run Tryd.prog w = .ok (.string (trB l)) w := by
  rcases h.2 with ⟨rfl, h0⟩ | ⟨g, cap, cur, rfl, hg, _⟩
  · have e : l = [] := List.eq_nil_of_length_eq_zero h0
    subst e
    rw [run_convert_bytes_string w _ _ 5 none 0 0 Tryd.underlying43 Tryd.underlying5 Tryd.underlying9]
    simp [Conv.bytesToString, trB]
    rfl
  · have hc := h.cells (g := g) rfl
    have := run_convert_bytes_back (P := Tryd.prog) w 43 9 5 ⟨g, 0, none⟩ cap (l.map UInt8.ofNat) Tryd.underlying43 Tryd.underlying5 Tryd.underlying9 (fun j hj => by
      have hj' : j < l.length := by simpa using hj
      have := hc j (u8C l[j]) (by simp [hj'])
      rw [this]
      have hlt := hb l[j] (List.getElem_mem hj')
      unfold u8C
      simp
      omega)
    rw [List.length_map] at this
    exact this
set_option maxRecDepth 100000 in
set_option maxHeartbeats 1000000 in
theorem rplay_ok (w : World) (ao : Option Addr) (np cap k m : Nat) (p : Nat → Pt) (C : Nat → Nat) (σf : St) (hk : k ≤ 5000) (hrow : PartRow w ao np p C) (hg : ∀ g, ao = some ⟨g, 0, none⟩ → g < w.heap.size) (hfl : FlatOk p np) (hC : ∀ i, i < np → C i < 99999) (hnp : np < 100000)
    (hsg : ∀ i, i < np → (p i).kind = 0 → (p i).sign = 0 ∨ sgOk (p i).sign) (hR : RunsIn (cE false 4096) p C np m (0, st0 k, false) σf) (h4 : σf.status ≠ 4) (htab : ∀ W, Fr NoB w W → TabOk W) :
    Calls Tryd.prog 14 #[.slice ao np cap, .int .i64 (k : Int)] w fun e w' => e = .returned (.tuple #[outP σf, .int .i64 0]) ∧ Fr NoB w w' := by
  have HB : Hid (∀ W, Calls Tryd.prog 22 #[.slice ao np cap, .int .i64 4096, .int .i64 (k : Int)] W fun e w' => ∃ r A, e = .returned (.tuple #[.agg A, .int .i64 0]) ∧ Hid (A = mac0 (.slice ao np cap) (.slice (some ⟨r, 0, none⟩) 4096 4096) k ∧ Fr NoB W w' ∧
      W.heap.size ≤ r ∧ r < w'.heap.size ∧ (∀ j, j < 4096 * 2 → w'.cell? ⟨r, j, none⟩ = some (.int .i64 0)) ∧ (∀ o, w'.frozen? ⟨r, o, none⟩ = false))) := fun W => (begin_ok W ao np cap 4096 k (by omega) (by omega) hk).mono fun e w' ⟨r, h1, h2⟩ => ⟨r, _, h1, ⟨rfl, h2⟩⟩
  have HO : Hid _ := OutAt.new w 28 (.int .i64 0) (.string ⟨#[]⟩) (.int .i64 0) (.int .i64 0)
  have HF0 : Hid (Fr NoB w (w.alloc (.cells #[.int .i64 0, .string ⟨#[]⟩, .int .i64 0, .int .i64 0] 28))) := (Fr.refl _ _).alloc _
  have hl0 : (w.alloc (.cells #[.int .i64 0, .string ⟨#[]⟩, .int .i64 0, .int .i64 0] 28)).heap.size = w.heap.size + 1 := by simp
  have HRf : Hid _ := And.intro hrow (And.intro hg (And.intro hfl (And.intro hC (And.intro hsg (And.intro hR (And.intro h4 htab))))))
  have Hby : Hid _ := ri_byte hR (fun y hy => by simp [st0] at hy)
  have HL0 : Hid _ := hl0
  clear hrow hg hfl hC hsg hR h4 htab hl0
  go_enter Tryd.func14, Tryd.ntmps14
  go_upto_region 1 with fail
  generalize (w.alloc _) = W0 at *
  go_upto_region 2 with (go_at_call 22; refine (HB.out _).mono ?_; rintro e w1 ⟨r, A, rfl, HX⟩; have HRm : Hid _ := Room.new w1 Tryd.zeroCells73 73 87 (by rw [zMac_is, zMac_size]; omega); have hA1 : A.size = 87 := (by rw [HX.out.1]; exact mac0_size _ _ _); have hst := room_store HRm.out (A := A) hA1 (by rw [HX.out.1]; exact mac0_one rfl rfl))
  obtain ⟨hA, hF1, hr1, hr2, hr3, hr4⟩ := HX.out
  have hl1 : W0.heap.size ≤ w1.heap.size := hF1.size
  have hFa : Fr NoB w1 (w1.alloc (.cells Tryd.zeroCells73 73)) := (Fr.refl _ _).alloc _
  have hM := mm_new (ao := ao) (np := np) (cap := cap) (n := 4096) (k := k) (base := W0.heap.size) (r := r) HRm.out hl1 hr1 (by omega) (by omega) (by omega) hk (Nat.lt_of_lt_of_le hr2 hFa.size) (fun j hj => hFa.cell_some (hr3 j hj) id) (fun o => (hFa.frozen (p := ⟨r, o, none⟩) hr2 id).trans (hr4 o))
  rw [← hA] at hM
  have hF2 : Fr NoB W0 ((w1.alloc (.cells Tryd.zeroCells73 73)).setCells w1.heap.size 0 A.toList) := Fr.setCells (fun q => by omega) _ _ (hF1.trans hFa)
  have HM : Hid _ := hM
  clear hM hA hr1 hr2 hr3 hr4 hFa hst HX HRm HB
  generalize ((w1.alloc (.cells Tryd.zeroCells73 73)).setCells w1.heap.size 0 A.toList) = W2 at *
  generalize w1.heap.size = mp at *
  have HF2 : Hid _ := HF0.out.trans hF2
  have HO2 : Hid _ := HO.out.fr hF2 id
  have HRn : Hid (Calls Tryd.prog 23 #[.pointer (some ⟨mp, 0, none⟩)] W2 fun e w' => e = .returned (.tuple #[]) ∧ RunE mp r 4096 W0.heap.size (.slice ao np cap) false σf W2 w') := by
    obtain ⟨q1, q2, q3, q4, q5, q6, q7, q8⟩ := HRf.out
    exact run_fn W2 mp r 4096 W0.heap.size np cap ao p C false _ _ _ (st0 k) σf m HM.out (q1.no HF2.out) (fun g e => by have := q2 g e; have := HL0.out; omega) q3 q4 hnp q5 q6 (by simp [st0]) (fun _ => q7) (fun W hW => q8 W (HF2.out.then hW (fun j hj q => by unfold FrM at q; have := HL0.out; omega)))
  clear hF1 hF2
  go_upto_region 5 with (go_at_call 23; refine Calls.mono HRn.out ?_; rintro e w3 ⟨rfl, hE⟩; have HE : Hid _ := hE; clear hE)
  obtain ⟨⟨nx, ov, B, V, tv, hM3⟩, hF3⟩ := HE.out
  have cu := hM3.m.cu
  have ct := hM3.m.ct
  unfold mxOf at cu ct
  simp only [] at cu ct
  have hcv := conv_tr hM3.tr Hby.out
  have HO3 : Hid _ := HO2.out.fr hF3 (fun q => by unfold FrM at q; have := HL0.out; omega)
  have HF4 : Hid (Fr NoB w w3) := HF2.out.then hF3 (fun j hj q => by unfold FrM at q; have := HL0.out; omega)
  obtain ⟨c0, c1, c2, c3, hf⟩ := HO3.out
  have f0 := hf 0
  have f1 := hf 1
  have f2 := hf 2
  have f3 := hf 3
  clear hf hF3 hM3
  generalize hTR : trB σf.tr = TR at *
  have HTR : Hid _ := hTR
  clear hTR
  go_wp2
  obtain ⟨k0, k1, k2, k3, kf⟩ := HO3.out.put (u0 := .int .i64 (σf.status : Int)) (u1 := .string TR) (u2 := .int .i64 0) (u3 := .int .i64 0)
  exact bodyPost_ret (v := .tuple #[outP σf, .int .i64 0]) (by simp [results, Tryd.results14, go_sem, k0, k1, k2, k3, outP, HTR.out]) rfl ⟨rfl, HF4.out.put4 (fun q => absurd q (by omega)) _ _ _ _⟩
end Go.Proofs.YtcmnejcojphijaaDoor

namespace Go.Proofs.YtcmnejcojphijaaDoor
open Go.RowKit
set_option linter.unusedVariables false

theorem prt_ok {p : Nat → Pt} {C : Nat → Nat} : ∀ {P : Pg} {k l : Nat}, Prt p C P k l → (∀ q, k ≤ q → q < l → PtOk (p q)) → (∀ q, k ≤ q → q < l → (p q).kind < 8 → AcOk (acP (p q))) → PgOk P
  | .nil, _, _, _, _, _ => trivial
  | .act a r, k, l, h, h1, h2 => by
    obtain ⟨q1, q2, q3⟩ := h
    have := q3.le
    refine ⟨?_, prt_ok q3 (fun q a b => h1 q (by omega) b) (fun q a b => h2 q (by omega) b)⟩
    rw [← q2]
    exact h2 k (by omega) (by omega) q1
  | .ite o P1 P2 r, k, l, h, h1, h2 => by
    obtain ⟨ka, kb, a1, a2, a3, a4, a5, a6, a7, a8, a9⟩ := h
    have l1 := a4.le
    have l2 := a7.le
    have l3 := a9.le
    refine ⟨?_, prt_ok a4 (fun q a b => h1 q (by omega) (by omega)) (fun q a b => h2 q (by omega) (by omega)), prt_ok a7 (fun q a b => h1 q (by omega) (by omega)) (fun q a b => h2 q (by omega) (by omega)), prt_ok a9 (fun q a b => h1 q (by omega) (by omega)) (fun q a b => h2 q (by omega) (by omega))⟩
    rw [← a2]
    exact (h1 k (by omega) (by omega)).o1
  | .loop o P1 r, k, l, h, h1, h2 => by
    obtain ⟨ka, a1, a2, a3, a4, a5, a6, a7⟩ := h
    have l1 := a4.le
    have l3 := a7.le
    refine ⟨?_, prt_ok a4 (fun q a b => h1 q (by omega) (by omega)) (fun q a b => h2 q (by omega) (by omega)), prt_ok a7 (fun q a b => h1 q (by omega) (by omega)) (fun q a b => h2 q (by omega) (by omega))⟩
    rw [← a2]
    exact (h1 k (by omega) (by omega)).o1
theorem clo_le : ∀ (n : Nat) (P : List Pt), P.length = n → ∀ i, cloL P i ≤ P.length
  | 0, P, hn, i => by
    have e : P = [] := List.eq_nil_of_length_eq_zero hn
    subst e
    exact Nat.le_refl _
  | n + 1, P, hn, i => by
    obtain ⟨P', t, rfl⟩ := list_last (P := P) (fun e => by rw [e] at hn; simp at hn)
    have hl : (P' ++ [t]).length = P'.length + 1 := by simp
    have ih := clo_le n P' (by omega) i
    rw [clo_push, hl]
    split
    · by_cases e : i = t.opn
      · subst e; rw [upN_at]; omega
      · rw [upN_ne _ _ e]; omega
    · omega
/-- what was read of a text that Check lets by -/
structure Told (s : ByteArray) (p : Nat → Pt) (C : Nat → Nat) (np : Nat) : Prop where
  prt : Prt p C (pgN s (s.size + 1) 0 s.size) 0 np
  fl : FlatOk p np
  ac : ∀ q, q < np → (p q).kind < 8 → AcOk (acP (p q)) ∧ sgA (acP (p q))
  cl : ∀ i, C i < 99999
  nl : np < 99999
theorem told_of {s : ByteArray} (hs : s.size ≤ 400) (n : Nat) (h2 : (rIter s n r0).z.2 = 0) (hl : ¬ (rIter s n r0).z.1 < s.size) (hO : (rIter s n r0).O = []) : Told s (pOf (rIter s n r0).P) (cloL (rIter s n r0).P) (rIter s n r0).P.length := by
  have h9 : s.size ≤ 90000 := by omega
  have hseg := seg_told h9 n h2 hl hO
  have hJ := rj_iter h9 n (rj0 s)
  have hU := ru_iter h9 n ru0 (rj0 s)
  have hn : (rIter s n r0).P.length < 99999 := by have := hJ.pl; have h5 : (rIter s n r0).z.1 ≤ s.size := hJ.hin; omega
  refine ⟨prt_of_seg (fun q _ hq hc => clo_at _ _ rfl q hq hc (fun q' hq' hc' e => hU.uq q' q hq' hq hc' hc e)) hseg, hJ.fl, fun q hq hk => seg_fit hseg q (Nat.zero_le _) hq hk, fun i => ?_, hn⟩
  have := clo_le _ (rIter s n r0).P rfl i
  omega
theorem Told.sg {s : ByteArray} {p : Nat → Pt} {C : Nat → Nat} {np : Nat} (h : Told s p C np) : ∀ i, i < np → (p i).kind = 0 → (p i).sign = 0 ∨ sgOk (p i).sign := fun i hi hk => by
  by_cases hz : (p i).sign = 0
  · exact .inl hz
  · have := (h.ac i hi (by omega)).2
    rw [show acP (p i) = .bin (p i).num (p i).o1 (p i).sign (p i).o2 by unfold acP; rw [if_pos hk, if_neg hz]] at this
    exact .inr this
theorem Told.pg {s : ByteArray} {p : Nat → Pt} {C : Nat → Nat} {np : Nat} (h : Told s p C np) : PgOk (pgN s (s.size + 1) 0 s.size) := prt_ok h.prt (fun q _ hq => h.fl.ok q hq) (fun q _ hq hk => (h.ac q hq hk).1)
/-- a text that Check lets by is a program, and uses no empty box -/
theorem check_ok {s : ByteArray} (hc : checkN s = (0, 0)) : s.size ≤ 400 ∧ Prog s (s.size + 1) 0 s.size ∧ misT s < 0 := by
  unfold checkN at hc
  by_cases h4 : 400 < s.size
  · rw [if_pos h4] at hc; cases hc
  · rw [if_neg h4] at hc
    by_cases q : (run s [(83, true)] 0 0).1 ≠ 0
    · rw [if_pos q] at hc
      exact absurd (congrArg Prod.fst hc) q
    · rw [if_neg q] at hc
      refine ⟨by omega, prog_of_ok (run_zero (by omega)), ?_⟩
      by_cases hm : 0 ≤ misT s
      · rw [if_pos hm] at hc; cases hc
      · omega
/-- Play's end -/
theorem plays_end {s : ByteArray} (hc : checkN s = (0, 0)) {p : Nat → Pt} {C : Nat → Nat} {np : Nat} (h : Told s p C np) (k : Nat) : ∃ σ τ m, Ends cP s k σ ∧ RunsIn (cE false 4096) p C np m (0, st0 k, false) τ ∧ τ.status ≠ 4 ∧ outP τ = outP σ := by
  obtain ⟨h4, hpr, hm⟩ := check_ok hc
  obtain ⟨σ, b, hE⟩ := Ex.total cP k (pgN s (s.size + 1) 0 s.size) (st0 k) (Nat.le_refl _)
  have hok := (along_pg (s.size + 1) 0 s.size hpr).2 (fun _ => false) hm
  have hsd := (hE.sound rfl h.pg (f := fun _ => false) (fun _ _ => rfl) hok (fun b q => by cases q) (by simp [st0])).1
  obtain ⟨τ, hE2, hS, _⟩ := hE.heap (n := 4096) (by omega) h.pg (τ := st0 k) ⟨rfl, rfl, rfl, rfl, rfl⟩ ⟨fun j hj q => absurd rfl q, fun j hj => by simp [st0], fun i j _ _ _ q => absurd rfl q⟩
  obtain ⟨m, hR⟩ := hE2.runs_all h.prt
  refine ⟨σ, τ, m, ⟨b, hE⟩, hR, by rw [hS.status]; exact hsd, ?_⟩
  unfold outP
  rw [hS.status, hS.tr]
end Go.Proofs.YtcmnejcojphijaaDoor
