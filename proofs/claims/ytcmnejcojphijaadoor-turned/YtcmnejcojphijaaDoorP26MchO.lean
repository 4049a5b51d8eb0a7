/-
  MchJ, MchK, MchO: one behind the other.
-/
import Derived.Test.YtcmnejcojphijaaDoorP25MchI
import Derived.Test.YtcmnejcojphijaaDoorP01SynQ
import Derived.Lib.AppendStr
import Derived.Test.YtcmnejcojphijaaDoorP24MchG
namespace Go.Proofs.YtcmnejcojphijaaDoor
open Go.RowKit Go.Lib
set_option linter.unusedVariables false

section
variable {P : Program} (w : World)
theorem run_append_str (base : Nat) (t u ty e : TypeId) (i : TypeInfo) (ht : P.underlying t = some (.slice e)) (hu : P.underlying u = some .string) (hi : P.info? e = some i) (hz : i.zero = some (.int .u8 0))
    (hsize : i.size = 1) (hby : i.bytes = 1) (v : Value) (n : Nat) (xs : List Value) (hown : w.ownsRow base e 1 v n xs) (s : ByteArray) (hm : 0 < s.size)
    (h63 : n + s.size ≤ maxLen) (hbytes : n + s.size ≤ 140737488355328) (hbase : base ≤ w.heap.size) :
    ∃ v' w', (Builtin.append_ #[t, u] ty #[v, .string s]).run P w = .ok v' w' ∧ w'.ownsRow base e 1 v' (n + s.size) (xs ++ strCells s) ∧ AppKind w w' v v' n s.size := by
  obtain ⟨v', w', hr, h2, h3, _⟩ := run_append_own_string (P := P) w base t u ty e i ht hu hi hz hsize hby v n xs hown s h63 hbytes hbase
  refine ⟨v', w', hr, h2, ?_⟩
  have hsmall : n + s.size ≤ 9223372036854775807 := by simp only [maxLen] at h63; omega
  have hxl : xs.length = n := by simpa using hown.1
  rcases hown.2 with ⟨rfl, rfl⟩ | ⟨g, cap, cur, rfl, hbg, hg, hnc, hcm, hcs, htake⟩
  · have hr2 := run_append_nil_string (P := P) w t u ty e i (.int .u8 0) ht hu hi hz s (by omega) (by omega) (by rw [hby]; omega)
    have he := hr.symm.trans hr2
    injection he with e1 e2
    refine .inl ⟨grownCap w s.size 0 e, by rw [e1]; simp, ?_⟩
    rw [e2]
    exact ⟨rfl, rfl, rfl, by simp, fun k hk _ => Below.heap_alloc w.drew _ k hk⟩
  · by_cases hroom : n + s.size ≤ cap
    · have hcs' : cur.size = cap := by simpa using hcs
      have hr2 := run_append_room_string (P := P) w t u ty e i ht hu hi hsize g n cap cur hg s hroom (by omega)
      have he := hr.symm.trans hr2
      injection he with e1 e2
      exact .inr ⟨g, cap, rfl, e1, h3⟩
    · have holds : ∀ j u, xs[j]? = some u → w.cell? ((⟨g, 0, none⟩ : Addr).add j) = some u := hown.cells (g := g) rfl
      have hr2 := run_append_grow_string (P := P) w t u ty e i (.int .u8 0) ht hu hi hz ⟨g, 0, none⟩ n cap xs (by rw [hsize]; simpa using hxl) holds s (by omega) (by omega) (by rw [hby]; exact growslice_fits (by omega) (by omega))
      have he := hr.symm.trans hr2
      injection he with e1 e2
      refine .inl ⟨grownCap w (n + s.size) cap e, e1, ?_⟩
      rw [e2]
      exact ⟨rfl, rfl, rfl, by simp, fun k hk _ => Below.heap_alloc w.drew _ k hk⟩
end
theorem step_append_str {P : Program} {ops : Array Oper} {o : Oper} {a : Act} {w : World} {K : Act → World → Prop} {Q : Exit → Act → World → Prop} {E : Prop}
    (hg : o.guard = none) (sl x : Operand) (t u : TypeId) (hop : o.op = Op.call { callee := Callee.builtin Builtin.append, args := #[sl, x], argTypes := #[t, u] })
    (base : Nat) (e : TypeId) (i : TypeInfo) (ht : P.underlying t = some (.slice e)) (hu : P.underlying u = some .string) (hi : P.info? e = some i) (hz : i.zero = some (.int .u8 0))
    (hsize : i.size = 1) (hby : i.bytes = 1) (v : Value) (n : Nat) (xs : List Value) (hs : a.eval sl = v) (hown : w.ownsRow base e 1 v n xs) (s : ByteArray) (hx : a.eval x = .string s) (hm : 0 < s.size)
    (h63 : n + s.size ≤ maxLen) (hbytes : n + s.size ≤ 140737488355328) (hbase : base ≤ w.heap.size)
    (hK : ∀ v' w', w'.ownsRow base e 1 v' (n + s.size) (xs ++ strCells s) → AppKind w w' v v' n s.size → K (a.put o.dst v') w') :
    if Region.wanted o (yielded ops a.tmps) = true then Oper.wp P o a w K Q else E := by
  have hw : Region.wanted o (yielded ops a.tmps) = true := by simp [Region.wanted, hg]
  rw [if_pos hw]
  obtain ⟨v', w', hr, h2, h3⟩ := run_append_str (P := P) w base t u o.type e i ht hu hi hz hsize hby v n xs hown s hm h63 hbytes hbase
  unfold Oper.wp execOp
  simp only [hop, resolve, invoke, builtin, Sem.run_bind, Sem.run_pure, Result.andThen_ok, List.map_toArray, List.map_cons, List.map_nil, hs, hx, hr]
  exact hK v' w' h2 h3

theorem dig_len2 : ∀ (f n : Nat), 0 < (digF f n).length ∧ (digF f n).length ≤ f + 1
  | 0, n => by simp [digF]
  | f + 1, n => by
    unfold digF
    split
    · simp
    · have := dig_len2 f (n / 10)
      simp
      omega
theorem dig_lt : ∀ (f n : Nat) (c : Nat), c ∈ digF f n → c < 256
  | 0, n, c, h => by simp [digF] at h; omega
  | f + 1, n, c, h => by
    unfold digF at h
    split at h
    · simp at h; omega
    · rcases List.mem_append.1 h with q | q
      · exact dig_lt f _ c q
      · simp at q; omega
theorem str_cells {l : List Nat} (h : ∀ c, c ∈ l → c < 256) : strCells (trB l) = l.map u8C := by
  unfold strCells trB u8C
  simp only [List.map_map]
  refine List.map_congr_left (fun c hc => ?_)
  have := h c hc
  simp [Function.comp]
  omega
theorem trB_size2 (l : List Nat) : (trB l).size = l.length := by simp [trB, ByteArray.size]
section
variable {w w' : World} {mp r n base nx : Nat} {pv tv tv' : Value} {st ov : Bool} {σ : St} {B V : Nat → Int}
/-- the trace grows -/
theorem MM.app (h : MM w mp r n base pv st σ nx ov B V tv) {m : Nat} {news : List Nat} (hk : AppKind w w' tv tv' σ.tr.length m) (hown : w'.ownsRow base 5 1 tv' (σ.tr.length + m) (σ.tr.map u8C ++ news.map u8C)) (hm : news.length = m) (htk : TrOk { σ with tr := σ.tr ++ news }) :
    MM (w'.setCell ⟨mp, 84, none⟩ tv') mp r n base pv st { σ with tr := σ.tr ++ news } nx ov B V tv' ∧ Fr (FrM base) w (w'.setCell ⟨mp, 84, none⟩ tv') := by
  have hF := hk.fr
  have hm1 : ¬ tv.ownBlock = some mp := fun e => h.nm _ e rfl
  have hr1 : ¬ tv.ownBlock = some r := fun e => h.nr _ e rfl
  have hM := (h.m.fr hF hm1).setTv tv'
  have hH := h.h.fr hF hm1 hr1
  have hpl : ∀ g, tv'.ownBlock = some g → g ≠ mp ∧ g ≠ r ∧ base ≤ g := fun g hg => by
    obtain ⟨g0, cap, hv, hp⟩ := hk.place
    rw [hv] at hg
    have : g0 = g := by simpa [Value.ownBlock] using hg
    subst this
    rcases hp with rfl | hp
    · have := h.m.lt
      have := h.h.rl
      have := h.mb
      omega
    · refine ⟨h.nm _ hp, h.nr _ hp, ?_⟩
      rcases h.tr.2 with ⟨rfl, _⟩ | ⟨g1, c1, cur, rfl, hb, _⟩
      · cases hp
      · have : g1 = g0 := by simpa [Value.ownBlock] using hp
        omega
  have hF2 : Fr (OneB mp) w' (w'.setCell ⟨mp, 84, none⟩ tv') := (Fr.refl (OneB mp) w').setCell (p := ⟨mp, 84, none⟩) (fun _ => rfl) _
  refine ⟨⟨hM, hH.own hF2 (cell_other (.inr (by omega))), h.b.like rfl rfl, h.ap.keep rfl rfl, h.ok.like rfl rfl, ?_, htk, h.mb, h.rb, fun g hg => (hpl g hg).1, fun g hg => (hpl g hg).2.1, h.nxb⟩, ?_⟩
  · have := hF2.owns hown (fun g hg e => (hpl g hg).1 (by unfold OneB at e; exact e))
    show World.ownsRow _ _ _ _ _ (σ.tr ++ news).length ((σ.tr ++ news).map u8C)
    rw [List.length_append, List.map_append, hm]
    exact this
  · refine (hF.mono (fun k _ e => ?_)).trans (frM_one hF2 h.mb)
    rcases h.tr.2 with ⟨rfl, _⟩ | ⟨g1, c1, cur, rfl, hb, _⟩
    · cases e
    · have : g1 = k := by simpa [Value.ownBlock] using e
      unfold FrM
      omega
end
theorem Tryd.infoU8 : (Tryd.prog.info? 5).map (fun i => (i.zero, i.size, i.bytes)) = some (some (.int .u8 0), 1, 1) := by kernel_rfl
end Go.Proofs.YtcmnejcojphijaaDoor

namespace Go.Proofs.YtcmnejcojphijaaDoor
open Go.RowKit Go.Lib
set_option linter.unusedVariables false
section
variable (w : World) (mp r n base nx : Nat) (pv tv : Value) (st ov : Bool) (σ : St) (B V : Nat → Int)
set_option maxRecDepth 8000 in
set_option maxHeartbeats 1000000 in
theorem dprint_fn (h : MM w mp r n base pv st σ nx ov B V tv) (v : Nat) (hv : v < 1000) (hsl : σ.tr.length + 5 * σ.left + 5 ≤ 25000) (htab : ∀ W, Fr NoB w W → TabOk W) :
    Calls Tryd.prog 56 #[.pointer (some ⟨mp, 0, none⟩), .int .i64 (v : Int)] w fun e w' => e = .returned (.tuple #[]) ∧ (∃ tv', MM w' mp r n base pv st { σ with tr := σ.tr ++ digF 3 v ++ [59] } nx ov B V tv') ∧ Fr (FrM base) w w' := by
  obtain ⟨i0, hi0, hz0, hz1, hz2⟩ := info_parts Tryd.infoU8
  have HI : Hid (∀ W, Fr NoB w W → _) := fun W hW => itoa_fn v hv W (htab W hW)
  have HM : Hid _ := h
  have hml := h.m.lt
  have hmb := h.mb
  have ct : w.cell? ⟨mp, 84, none⟩ = some tv := h.m.ct
  have fz := h.m.fz 84
  have hd1 := (dig_len2 3 v).1
  have hd2 := (dig_len2 3 v).2
  have hds : (trB (digF 3 v)).size = (digF 3 v).length := trB_size2 _
  have hdc : strCells (trB (digF 3 v)) = (digF 3 v).map u8C := str_cells (dig_lt 3 v)
  clear h htab
  have HDc : Hid _ := hdc
  have HDs : Hid _ := hds
  clear hdc hds
  generalize trB (digF 3 v) = D at *
  generalize digF 3 v = dl at *
  go_enter Tryd.func56, Tryd.ntmps56
  go_upto_region 0 with fail
  go_region_law (first | (go_simp; go_at_call 65; refine (HI.out _ ((Fr.refl _ _).drew)).mono ?_; rintro e w1 ⟨rfl, hF1a⟩; have hF1 : Fr NoB w w1 := ((Fr.refl NoB w).drew).trans hF1a; have ct1 := hF1.cell_some ct id) | (refine step_append_str rfl _ _ 43 9 rfl base 5 i0 Tryd.underlying43 Tryd.underlying9 hi0 hz0 hz1 hz2 tv σ.tr.length (σ.tr.map u8C) rfl (HM.out.no hF1).tr D rfl (by rw [HDs.out]; exact hd1) (by rw [HDs.out]; unfold maxLen; omega) (by rw [HDs.out]; omega) (by have := hF1.size; omega) ?_; intro v2 wv hown2 hk2; have hfr := hk2.fr; have cw := hfr.cell_some (hF1.cell_some ct id) (fun e => HM.out.nm _ e rfl); have fw := (hfr.frozen (p := ⟨mp, 84, none⟩) (Nat.lt_of_lt_of_le hml hF1.size) (fun e => HM.out.nm _ e rfl)).trans ((hF1.frozen (p := ⟨mp, 84, none⟩) hml id).trans fz); have HK : Hid _ := And.intro hown2 hk2; obtain ⟨gb, cb, hve, _⟩ := hk2.place; clear hown2 hk2 hfr; subst hve))
  all_goals
    obtain ⟨hown2, hk2⟩ := HK.out
    rw [HDc.out] at hown2
    obtain ⟨hM3, hF3⟩ := (HM.out.no hF1).app hk2 hown2 HDs.out.symm (by unfold TrOk; simp; omega)
    clear hown2 hk2 HK cw fw ct fz
    have hF4 : Fr (FrM base) w _ := (frM_no hF1).trans hF3
    clear hF3
    generalize (wv.setCell ⟨mp, 84, none⟩ (Value.slice (some ⟨gb, 0, none⟩) (σ.tr.length + D.size) cb)) = W3 at *
    generalize (Value.slice (some ⟨gb, 0, none⟩) (σ.tr.length + D.size) cb) = tv3 at *
    have ct3 : W3.cell? ⟨mp, 84, none⟩ = some tv3 := hM3.m.ct
    have fz3 := hM3.m.fz 84
    have hml3 := hM3.m.lt
    have hll : (σ.tr ++ dl).length ≤ σ.tr.length + dl.length := by simp
    have hown3 := hM3.tr
    have HM3 : Hid _ := hM3
    clear hM3
    simp only [] at hown3
    generalize hL : σ.tr ++ dl = L at *
    have HL : Hid _ := hL
    clear hL
    go_wp2_with (at_builtin; refine wpList_append_kind _ rfl _ _ 43 rfl base 5 i0 (.int .u8 0) 1 1 Tryd.underlying43 hi0 hz0 hz1 hz2 rfl (by decide) _ _ _ rfl (hown3.alloc _) ⟨W3.heap.size, 0, none⟩ 1 1 [.int .u8 59] (by decide) rfl rfl ?c1 ?c2 ?c3 ?c4 ?c5 ?_)
    case c1 =>
      intro j u hj
      match j, hj with
      | 0, hj => simp at hj; subst hj; simp [Addr.add]
    case c2 => intro u hu; simp at hu; subst hu; rfl
    case c3 => unfold maxLen; omega
    case c4 => omega
    case c5 => simp; omega
    intro v5 w5 hown5 hk5
    have hfa : Fr NoB W3 (W3.alloc (Obj.cells #[.int .u8 59] 5)) := (Fr.refl _ _).alloc _
    have HMa : Hid _ := HM3.out.no hfa
    have hfr := hk5.fr
    have cw5 := hfr.cell_some (hfa.cell_some ct3 id) (fun e => HM3.out.nm _ e rfl)
    have fw5 := (hfr.frozen (p := ⟨mp, 84, none⟩) (Nat.lt_of_lt_of_le hml3 hfa.size) (fun e => HM3.out.nm _ e rfl)).trans ((hfa.frozen (p := ⟨mp, 84, none⟩) hml3 id).trans fz3)
    have HK5 : Hid _ := And.intro hown5 hk5
    obtain ⟨g5, c5, hve, _⟩ := hk5.place
    clear hown5 hk5 hfr
    subst hve
    go_wp2
    go_end0
    obtain ⟨hown5, hk5⟩ := HK5.out
    obtain ⟨hM6, hF6⟩ := HMa.out.app (news := [59]) hk5 (by exact hown5) rfl (by unfold TrOk; simp only [List.length_append, List.length_singleton]; omega)
    rw [HL.out]
    exact ⟨rfl, ⟨_, hM6⟩, (hF4.trans (frM_no hfa)).trans hF6⟩
end
end Go.Proofs.YtcmnejcojphijaaDoor

namespace Go.Proofs.YtcmnejcojphijaaDoor
open Go.RowKit
set_option linter.unusedVariables false
section
variable (w : World) (mp r n base nx : Nat) (pv tv : Value) (st ov : Bool) (σ : St) (B V : Nat → Int)
set_option maxHeartbeats 1000000 in
theorem dmove_self (h : MM w mp r n base pv st σ nx false B V tv) (t : Pt) (clo : Nat) (hg : getB t = false) :
    Calls Tryd.prog 60 #[.pointer (some ⟨mp, 0, none⟩), ptV t clo] w fun e w' => MS mp r n base pv st nx (σ, true) w e w' := by
  have HG : Hid (∀ W, Calls Tryd.prog 54 #[ptV t clo] W fun e w' => e = .returned (.bool false) ∧ Fr NoB W w') := fun W => by
    have := gets_fn W t clo
    rwa [hg] at this
  have HM : Hid _ := h
  unfold ptV at HG ⊢
  clear h hg
  obtain ⟨kind, place, num, box, src, o1, sign, o2, opn⟩ := t
  simp only [] at *
  generalize odB o1 = b1 at *
  generalize odI o1 = x1 at *
  generalize odB o2 = b2 at *
  generalize odI o2 = x2 at *
  go_enter Tryd.func60, Tryd.ntmps60
  go_upto_region 1 with fail
  obtain ⟨hFA, HPA⟩ := box_new w kind place num box src b1 x1 sign b2 x2 opn clo
  generalize w.alloc (Obj.cells #[.int .i64 (kind : Int), .int .i64 (place : Int), .int .i64 (num : Int), .int .i64 (box : Int), .int .i64 (src : Int), .bool b1, .int .i64 (x1 : Int), .int .u8 (sign : Int), .bool b2, .int .i64 (x2 : Int), .int .i64 (opn : Int), .int .i64 (clo : Int)] 60) = W1 at hFA HPA ⊢
  generalize w.heap.size = q at *
  have c0 := HPA.out.c0
  have c1 := HPA.out.c1
  have c2 := HPA.out.c2
  have c3 := HPA.out.c3
  have c4 := HPA.out.c4
  have c5 := HPA.out.c5
  have c6 := HPA.out.c6
  have c7 := HPA.out.c7
  have c8 := HPA.out.c8
  have c9 := HPA.out.c9
  have c10 := HPA.out.c10
  have c11 := HPA.out.c11
  go_wp2_with (go_at_call 54; refine (HG.out _).mono ?_; rintro e w2 ⟨rfl, hF2⟩)
  go_end0
  exact ⟨rfl, ⟨_, _, _, HM.out.no (hFA.trans hF2)⟩, frM_no (hFA.trans hF2)⟩
set_option maxHeartbeats 1000000 in
theorem dmove_yes (h : MM w mp r n base pv st σ nx false B V tv) (t : Pt) (clo : Nat) (ht : PtOk t) (hg : getB t = true) (hne : t.box ≠ t.src) (hd : σ.bx t.src ≠ []) :
    Calls Tryd.prog 60 #[.pointer (some ⟨mp, 0, none⟩), ptV t clo] w fun e w' => MS mp r n base pv st nx ({ σ with bx := upB (upB σ.bx t.box (σ.bx t.src)) t.src [], at_ := upN σ.at_ t.box (σ.at_ t.src) }, true) w e w' := by
  have HG : Hid (∀ W, Calls Tryd.prog 54 #[ptV t clo] W fun e w' => e = .returned (.bool true) ∧ Fr NoB W w') := fun W => by
    have := gets_fn W t clo
    rwa [hg] at this
  have HL : Hid (∀ W, Fr NoB w W → _) := fun W hW => lose_any W mp r n base nx pv tv st false σ B V (h.no hW) t.box ht.b
  have HB : Hid (∀ W B' V', MM W mp r n base pv st { σ with bx := upB σ.bx t.box [] } nx false B' V' tv → Calls Tryd.prog 69 #[.pointer (some ⟨mp, 30, none⟩), .int .i64 (t.box : Int), .int .i64 (t.src : Int)] W fun e w' => e = .returned (.tuple #[]) ∧ MM w' mp r n base pv st { σ with bx := upB (upB σ.bx t.box (σ.bx t.src)) t.src [], at_ := upN σ.at_ t.box (σ.at_ t.src) } nx false B' V' tv ∧ Fr (TwoB mp r) W w') := fun W B' V' hW => by
    have e1 : upB σ.bx t.box [] t.src = σ.bx t.src := upB_ne _ _ (Ne.symm hne)
    have := bmove_fn W mp r n base nx pv tv st false { σ with bx := upB σ.bx t.box [] } B' V' hW t.box t.src ht.b ht.s hne (upB_at _ _ _) (by show upB σ.bx t.box [] t.src ≠ []; rw [e1]; exact hd)
    simp only [e1, upB_up] at this
    exact this
  have hqm : w.heap.size ≠ mp := by have := h.m.lt; omega
  have hqr : w.heap.size ≠ r := by have := h.h.rl; omega
  have HM : Hid _ := h
  unfold ptV at HG ⊢
  clear h hg hd hne ht
  obtain ⟨kind, place, num, box, src, o1, sign, o2, opn⟩ := t
  simp only [] at *
  generalize odB o1 = b1 at *
  generalize odI o1 = x1 at *
  generalize odB o2 = b2 at *
  generalize odI o2 = x2 at *
  generalize ({ σ with bx := upB (upB σ.bx box (σ.bx src)) src [], at_ := upN σ.at_ box (σ.at_ src) } : St) = τ2 at *
  generalize ({ σ with bx := upB σ.bx box [] } : St) = τ at *
  go_enter Tryd.func60, Tryd.ntmps60
  go_upto_region 1 with fail
  obtain ⟨hFA, HPA⟩ := box_new w kind place num box src b1 x1 sign b2 x2 opn clo
  generalize w.alloc (Obj.cells #[.int .i64 (kind : Int), .int .i64 (place : Int), .int .i64 (num : Int), .int .i64 (box : Int), .int .i64 (src : Int), .bool b1, .int .i64 (x1 : Int), .int .u8 (sign : Int), .bool b2, .int .i64 (x2 : Int), .int .i64 (opn : Int), .int .i64 (clo : Int)] 60) = W1 at hFA HPA ⊢
  generalize w.heap.size = q at *
  have c0 := HPA.out.c0
  have c1 := HPA.out.c1
  have c2 := HPA.out.c2
  have c3 := HPA.out.c3
  have c4 := HPA.out.c4
  have c5 := HPA.out.c5
  have c6 := HPA.out.c6
  have c7 := HPA.out.c7
  have c8 := HPA.out.c8
  have c9 := HPA.out.c9
  have c10 := HPA.out.c10
  have c11 := HPA.out.c11
  go_upto_region 2 with (go_at_call 54; refine (HG.out _).mono ?_; rintro e w2 ⟨rfl, hF2⟩; have d3 := hF2.cell_some c3 id; have d4 := hF2.cell_some c4 id)
  go_region_with (go_at_call 62; refine (HL.out _ ((hFA.trans hF2).drew)).mono ?_; rintro e w3 ⟨rfl, ⟨B', V', hM3⟩, hF3⟩)
  have e3 := ((((Fr.refl _ w2).drew).trans hF3)).cell_some d3 (fun q => by rcases q with q | q; exact hqm q; exact hqr q)
  have e4 := ((((Fr.refl _ w2).drew).trans hF3)).cell_some d4 (fun q => by rcases q with q | q; exact hqm q; exact hqr q)
  have HM3 : Hid _ := hM3
  have hFX : Fr (FrM base) w w3 := (frM_no ((hFA.trans hF2).drew)).trans (frM_two hF3 HM.out.mb HM.out.rb)
  clear hM3
  go_upto_region 3 with fail
  go_region_with (go_at_call 69; refine (HB.out _ B' V' (HM3.out.no ((Fr.refl _ w3).drew))).mono ?_; rintro e w4 ⟨rfl, hM4, hF4⟩; have HH : Hid _ := And.intro hM4 hF4; clear hM4 hF4)
  all_goals
    go_wp2
    go_end0
    exact ⟨rfl, ⟨_, _, _, HH.out.1⟩, hFX.trans ((frM_no ((Fr.refl _ w3).drew)).trans (frM_two HH.out.2 HM.out.mb HM.out.rb))⟩
/-- the part that comes next -/
theorem MM.setNx {w : World} {mp r n base nx : Nat} {pv tv : Value} {st ov : Bool} {σ : St} {B V : Nat → Int} (h : MM w mp r n base pv st σ nx ov B V tv) {v : Nat} (hv : v ≤ 100000) : MM (w.setCell ⟨mp, 1, none⟩ (.int .i64 (v : Int))) mp r n base pv st σ v ov B V tv :=
  h.own (τ := σ) ((Fr.refl (OneB mp) w).setCell (p := ⟨mp, 1, none⟩) (fun _ => rfl) _) (h.m.setNx v) (cell_other (.inr (by omega))) rfl rfl h.ok rfl h.tk hv
def turnN (t : Pt) (clo : Nat) (σ : St) (nx : Nat) : Nat :=
  if t.kind = 8 ∨ t.kind = 11 then (if valO σ.num t.o1 = 0 then clo + 1 else nx) else if t.kind = 9 then clo else if t.kind = 12 then t.opn else nx
set_option maxHeartbeats 2000000 in
theorem turn_fn (h : MM w mp r n base pv st σ nx false B V tv) (t : Pt) (clo : Nat) (ht : PtOk t) (hk : 8 ≤ t.kind) (hcl : clo < 100000) :
    Calls Tryd.prog 63 #[.pointer (some ⟨mp, 0, none⟩), ptV t clo] w fun e w' => MS mp r n base pv st (turnN t clo σ nx) (σ, true) w e w' := by
  have HV : Hid (∀ W, Fr NoB w W → _) := fun W hW => mvalue_fn W mp r n base nx pv tv st false σ B V (h.no hW) t.o1 ht.o1
  have HM : Hid _ := h
  have hop := ht.o
  have hk2 := ht.k
  have HN : Hid (∀ W v, Fr NoB w W → v ≤ 100000 → MS mp r n base pv st v (σ, true) w (.returned (.tuple #[])) (W.setCell ⟨mp, 1, none⟩ (.int .i64 (v : Int)))) := fun W v hW hv => ⟨rfl, ⟨_, _, _, (h.no hW).setNx hv⟩, (frM_no hW).trans (frM_one ((Fr.refl (OneB mp) W).setCell (p := ⟨mp, 1, none⟩) (fun _ => rfl) _) h.mb)⟩
  have cx := h.m.cx
  have HFz : Hid (∀ W, Fr NoB w W → W.frozen? ⟨mp, 1, none⟩ = false) := fun W hW => (h.no hW).m.fz 1
  unfold ptV turnN
  obtain ⟨kind, place, num, box, src, o1, sign, o2, opn⟩ := t
  simp only [] at *
  generalize valO σ.num o1 = v at *
  generalize odB o1 = b1 at *
  generalize odI o1 = x1 at *
  generalize odB o2 = b2 at *
  generalize odI o2 = x2 at *
  clear h ht
  have hkk : (kind = 8 ∨ kind = 11) ∨ kind = 9 ∨ kind = 12 ∨ kind = 10 := by omega
  rcases hkk with hb | hb | hb | hb
  · rw [if_pos hb]
    by_cases hv : v = 0
    · subst hv
      rw [if_pos rfl]
      rcases hb with hb | hb
      · have f8 : ((kind : Int) == 8) = true := beq_iff_eq.2 (by omega)
        have f11 : ((kind : Int) == 11) = false := beq_eq_false_iff_ne.2 (by omega)
        clear hb
        go_enter Tryd.func63, Tryd.ntmps63
        go_upto_region 1 with fail
        obtain ⟨hFA, HPA⟩ := box_new w kind place num box src b1 x1 sign b2 x2 opn clo
        generalize w.alloc (Obj.cells #[.int .i64 (kind : Int), .int .i64 (place : Int), .int .i64 (num : Int), .int .i64 (box : Int), .int .i64 (src : Int), .bool b1, .int .i64 (x1 : Int), .int .u8 (sign : Int), .bool b2, .int .i64 (x2 : Int), .int .i64 (opn : Int), .int .i64 (clo : Int)] 60) = W1 at hFA HPA ⊢
        generalize w.heap.size = q at *
        have c0 := HPA.out.c0
        have c5 := HPA.out.c5
        have c6 := HPA.out.c6
        have c11 := HPA.out.c11
        go_wp2_with (go_at_call 57; refine (HV.out _ hFA).mono ?_; rintro e w2 ⟨rfl, hF2⟩; have d11 := hF2.cell_some c11 id; have cx2 := (hFA.trans hF2).cell_some cx id; have fz2 := HFz.out _ (hFA.trans hF2))
        go_end0
        exact HN.out _ (clo + 1) (hFA.trans hF2) (by omega)
      · have f8 : ((kind : Int) == 8) = false := beq_eq_false_iff_ne.2 (by omega)
        have f11 : ((kind : Int) == 11) = true := beq_iff_eq.2 (by omega)
        clear hb
        go_enter Tryd.func63, Tryd.ntmps63
        go_upto_region 1 with fail
        obtain ⟨hFA, HPA⟩ := box_new w kind place num box src b1 x1 sign b2 x2 opn clo
        generalize w.alloc (Obj.cells #[.int .i64 (kind : Int), .int .i64 (place : Int), .int .i64 (num : Int), .int .i64 (box : Int), .int .i64 (src : Int), .bool b1, .int .i64 (x1 : Int), .int .u8 (sign : Int), .bool b2, .int .i64 (x2 : Int), .int .i64 (opn : Int), .int .i64 (clo : Int)] 60) = W1 at hFA HPA ⊢
        generalize w.heap.size = q at *
        have c0 := HPA.out.c0
        have c5 := HPA.out.c5
        have c6 := HPA.out.c6
        have c11 := HPA.out.c11
        go_wp2_with (go_at_call 57; refine (HV.out _ hFA).mono ?_; rintro e w2 ⟨rfl, hF2⟩; have d11 := hF2.cell_some c11 id; have cx2 := (hFA.trans hF2).cell_some cx id; have fz2 := HFz.out _ (hFA.trans hF2))
        go_end0
        exact HN.out _ (clo + 1) (hFA.trans hF2) (by omega)
    · rw [if_neg hv]
      have hv0 : ((v : Int) == 0) = false := beq_eq_false_iff_ne.2 (by omega)
      rcases hb with hb | hb
      · have f8 : ((kind : Int) == 8) = true := beq_iff_eq.2 (by omega)
        have f11 : ((kind : Int) == 11) = false := beq_eq_false_iff_ne.2 (by omega)
        clear hb
        go_enter Tryd.func63, Tryd.ntmps63
        go_upto_region 1 with fail
        obtain ⟨hFA, HPA⟩ := box_new w kind place num box src b1 x1 sign b2 x2 opn clo
        generalize w.alloc (Obj.cells #[.int .i64 (kind : Int), .int .i64 (place : Int), .int .i64 (num : Int), .int .i64 (box : Int), .int .i64 (src : Int), .bool b1, .int .i64 (x1 : Int), .int .u8 (sign : Int), .bool b2, .int .i64 (x2 : Int), .int .i64 (opn : Int), .int .i64 (clo : Int)] 60) = W1 at hFA HPA ⊢
        generalize w.heap.size = q at *
        have c0 := HPA.out.c0
        have c5 := HPA.out.c5
        have c6 := HPA.out.c6
        have c11 := HPA.out.c11
        go_wp2_with (go_at_call 57; refine (HV.out _ hFA).mono ?_; rintro e w2 ⟨rfl, hF2⟩)
        go_end0
        exact ⟨rfl, ⟨_, _, _, HM.out.no (hFA.trans hF2)⟩, frM_no (hFA.trans hF2)⟩
      · have f8 : ((kind : Int) == 8) = false := beq_eq_false_iff_ne.2 (by omega)
        have f11 : ((kind : Int) == 11) = true := beq_iff_eq.2 (by omega)
        clear hb
        go_enter Tryd.func63, Tryd.ntmps63
        go_upto_region 1 with fail
        obtain ⟨hFA, HPA⟩ := box_new w kind place num box src b1 x1 sign b2 x2 opn clo
        generalize w.alloc (Obj.cells #[.int .i64 (kind : Int), .int .i64 (place : Int), .int .i64 (num : Int), .int .i64 (box : Int), .int .i64 (src : Int), .bool b1, .int .i64 (x1 : Int), .int .u8 (sign : Int), .bool b2, .int .i64 (x2 : Int), .int .i64 (opn : Int), .int .i64 (clo : Int)] 60) = W1 at hFA HPA ⊢
        generalize w.heap.size = q at *
        have c0 := HPA.out.c0
        have c5 := HPA.out.c5
        have c6 := HPA.out.c6
        have c11 := HPA.out.c11
        go_wp2_with (go_at_call 57; refine (HV.out _ hFA).mono ?_; rintro e w2 ⟨rfl, hF2⟩)
        go_end0
        exact ⟨rfl, ⟨_, _, _, HM.out.no (hFA.trans hF2)⟩, frM_no (hFA.trans hF2)⟩
  · rw [if_neg (by omega), if_pos hb]
    have f8 : ((kind : Int) == 8) = false := beq_eq_false_iff_ne.2 (by omega)
    have f11 : ((kind : Int) == 11) = false := beq_eq_false_iff_ne.2 (by omega)
    have f9 : ((kind : Int) == 9) = true := beq_iff_eq.2 (by omega)
    have f12 : ((kind : Int) == 12) = false := beq_eq_false_iff_ne.2 (by omega)
    clear hb
    go_enter Tryd.func63, Tryd.ntmps63
    go_upto_region 1 with fail
    obtain ⟨hFA, HPA⟩ := box_new w kind place num box src b1 x1 sign b2 x2 opn clo
    generalize w.alloc (Obj.cells #[.int .i64 (kind : Int), .int .i64 (place : Int), .int .i64 (num : Int), .int .i64 (box : Int), .int .i64 (src : Int), .bool b1, .int .i64 (x1 : Int), .int .u8 (sign : Int), .bool b2, .int .i64 (x2 : Int), .int .i64 (opn : Int), .int .i64 (clo : Int)] 60) = W1 at hFA HPA ⊢
    generalize w.heap.size = q at *
    have c0 := HPA.out.c0
    have c11 := HPA.out.c11
    have cx2 := hFA.cell_some cx id
    have fz2 := HFz.out _ hFA
    go_wp2
    go_end0
    exact HN.out _ clo hFA (by omega)
  · rw [if_neg (by omega), if_neg (by omega), if_pos hb]
    have f8 : ((kind : Int) == 8) = false := beq_eq_false_iff_ne.2 (by omega)
    have f11 : ((kind : Int) == 11) = false := beq_eq_false_iff_ne.2 (by omega)
    have f9 : ((kind : Int) == 9) = false := beq_eq_false_iff_ne.2 (by omega)
    have f12 : ((kind : Int) == 12) = true := beq_iff_eq.2 (by omega)
    clear hb
    go_enter Tryd.func63, Tryd.ntmps63
    go_upto_region 1 with fail
    obtain ⟨hFA, HPA⟩ := box_new w kind place num box src b1 x1 sign b2 x2 opn clo
    generalize w.alloc (Obj.cells #[.int .i64 (kind : Int), .int .i64 (place : Int), .int .i64 (num : Int), .int .i64 (box : Int), .int .i64 (src : Int), .bool b1, .int .i64 (x1 : Int), .int .u8 (sign : Int), .bool b2, .int .i64 (x2 : Int), .int .i64 (opn : Int), .int .i64 (clo : Int)] 60) = W1 at hFA HPA ⊢
    generalize w.heap.size = q at *
    have c0 := HPA.out.c0
    have c10 := HPA.out.c10
    have cx2 := hFA.cell_some cx id
    have fz2 := HFz.out _ hFA
    go_wp2
    go_end0
    exact HN.out _ opn hFA (by omega)
  · rw [if_neg (by omega), if_neg (by omega), if_neg (by omega)]
    have f8 : ((kind : Int) == 8) = false := beq_eq_false_iff_ne.2 (by omega)
    have f11 : ((kind : Int) == 11) = false := beq_eq_false_iff_ne.2 (by omega)
    have f9 : ((kind : Int) == 9) = false := beq_eq_false_iff_ne.2 (by omega)
    have f12 : ((kind : Int) == 12) = false := beq_eq_false_iff_ne.2 (by omega)
    clear hb
    go_enter Tryd.func63, Tryd.ntmps63
    go_upto_region 1 with fail
    obtain ⟨hFA, HPA⟩ := box_new w kind place num box src b1 x1 sign b2 x2 opn clo
    generalize w.alloc (Obj.cells #[.int .i64 (kind : Int), .int .i64 (place : Int), .int .i64 (num : Int), .int .i64 (box : Int), .int .i64 (src : Int), .bool b1, .int .i64 (x1 : Int), .int .u8 (sign : Int), .bool b2, .int .i64 (x2 : Int), .int .i64 (opn : Int), .int .i64 (clo : Int)] 60) = W1 at hFA HPA ⊢
    generalize w.heap.size = q at *
    have c0 := HPA.out.c0
    go_wp2
    go_end0
    exact ⟨rfl, ⟨_, _, _, HM.out.no hFA⟩, frM_no hFA⟩
end
end Go.Proofs.YtcmnejcojphijaaDoor
