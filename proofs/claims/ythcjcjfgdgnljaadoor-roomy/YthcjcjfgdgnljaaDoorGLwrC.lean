/-
  TxtE, LwrF, LwrB, LwrC: one behind the other.
-/
import Derived.Test.YthcjcjfgdgnljaaDoorGTxtD
import Derived.Test.YthcjcjfgdgnljaaDoorGMchB
import Derived.Test.YthcjcjfgdgnljaaDoorGRunE
import Derived.Deep.RegionHeld3
import Derived.Deep.QuietTactic
import Derived.BigQuiet
import Derived.Test.YthcjcjfgdgnljaaDoorGDevQB
import Derived.Test.YthcjcjfgdgnljaaDoorGDevX
import Derived.Test.YthcjcjfgdgnljaaDoorGRefB
namespace Go.Proofs.YthcjcjfgdgnljaaDoor
set_option linter.unusedVariables false

theorem pg_ok {s : ByteArray} : ∀ {F i j : Nat}, Prog s F i j → PgOk (pgN s F i j)
  | 0, i, j, hp => trivial
  | F + 1, i, j, hp => by
    have ih := fun {i j : Nat} (q : Prog s F i j) => pg_ok q
    rcases hp with hp | ⟨m, hst, hr⟩
    · subst hp; rw [pgN_end]; trivial
    · have hmj := hr.le
      have hlt := hst.lt
      have hij : i < j := by omega
      rcases hst with hS | ⟨e, a, b, c, ho, ha, hp, hb, hb1, hq, hc, rfl⟩ | ⟨e, a, b, ho, ha, hp, hb, rfl⟩
      · rw [pgN_simple hS hij]; exact ⟨acOk_of hS, ih hr⟩
      · rw [pgN_if (ifAt_of e ho ha hp hb hb1 hq hc) hij]; exact ⟨odN_ok ho (byte_in ha (by decide)) (by rw [ha]; rfl), ih hp, ih hq, ih hr⟩
      · rw [pgN_loop (loopAt_of e ho ha hp hb) hij]; exact ⟨odN_ok ho (byte_in ha (by decide)) (by rw [ha]; rfl), ih hp, ih hr⟩
theorem pgok_seq : ∀ {P Q : Pg}, PgOk P → PgOk Q → PgOk (seqP P Q)
  | .nil, Q, _, h => h
  | .act a r, Q, h1, h => ⟨h1.1, pgok_seq h1.2 h⟩
  | .ite o p q r, Q, h1, h => ⟨h1.1, h1.2.1, h1.2.2.1, pgok_seq h1.2.2.2 h⟩
  | .loop o p r, Q, h1, h => ⟨h1.1, h1.2.1, pgok_seq h1.2.2 h⟩
theorem pgok_dr : ∀ {l : List Nat} {Q : Pg}, (∀ k, k ∈ l → k < 26) → PgOk Q → PgOk (drP l Q)
  | [], Q, _, h => h
  | k :: l, Q, h1, h => ⟨h1 k List.mem_cons_self, pgok_dr (fun j hj => h1 j (List.mem_cons_of_mem _ hj)) h⟩
theorem pgok_low : ∀ {P : Pg} {f : Nat → Bool}, PgOk P → PgOk (lowG P f)
  | .nil, f, h => h
  | .act a r, f, h => by
    rw [lowG]
    unfold ownP
    split
    · exact ⟨h.1, pgok_low h.2⟩
    · rename_i b hb
      refine ⟨?_, h.1, pgok_low h.2⟩
      rcases (own_cases hb).2 with ⟨o, rfl⟩ | ⟨d, rfl, _⟩
      · exact h.1.1
      · exact h.1.1
  | .ite o p q r, f, h => by
    rw [lowG]
    exact ⟨h.1, pgok_seq (pgok_low h.2.1) (pgok_dr min_lt trivial), pgok_seq (pgok_low h.2.2.1) (pgok_dr min_lt trivial), pgok_low h.2.2.2⟩
  | .loop o p r, f, h => by
    rw [lowG]
    exact pgok_dr min_lt ⟨h.1, pgok_seq (pgok_low h.2.1) (pgok_dr min_lt trivial), pgok_low h.2.2⟩
theorem pgok_lowP {P : Pg} (h : PgOk P) : PgOk (lowP P) := pgok_seq (pgok_low h) (pgok_dr min_lt trivial)
/-- a program that Check lets by -/
theorem check_tree {s : ByteArray} (hc : checkN s = (0, 0)) : s.size ≤ 400 ∧ run s [(83, true)] 0 0 = (0, 0) ∧ Prog s (s.size + 1) 0 s.size ∧ PgOk (pgN s (s.size + 1) 0 s.size) ∧ okG (pgN s (s.size + 1) 0 s.size) noF := by
  unfold checkN at hc
  by_cases h4 : 400 < s.size
  · rw [if_pos h4] at hc; cases hc
  · rw [if_neg h4] at hc
    by_cases q : (run s [(83, true)] 0 0).1 ≠ 0
    · rw [if_pos q] at hc
      exact absurd (congrArg Prod.fst hc) q
    · rw [if_neg q] at hc
      have hr := run_zero (show (run s [(83, true)] 0 0).1 = 0 by omega)
      have hp := prog_of_ok hr
      refine ⟨by omega, hr, hp, pg_ok hp, (along_pg _ _ _ hp).2 noF ?_⟩
      by_cases hm : 0 ≤ misT s
      · rw [if_pos hm] at hc; cases hc
      · have : misT s < 0 := by omega
        exact this
theorem drsB_size : ∀ l : List Nat, (drsB l).size = 3 * l.length
  | [] => rfl
  | k :: l => by
    have hs : (drB k ++ drsB l).size = (drB k).size + (drsB l).size := ByteArray.size_append
    rw [drsB, hs, drsB_size l, show (drB k).size = 3 from rfl, List.length_cons]
    omega
theorem minL_len (f g : Nat → Bool) : (minL f g).length ≤ 26 := by
  unfold minL
  have := List.length_filter_le (fun k => f k && !g k) (List.range 26)
  simpa using this
theorem lowT_size {s : ByteArray} : ∀ {F i j : Nat}, Prog s F i j → ∀ (f : Nat → Bool), (lowT s F i j f).size ≤ 40 * (j - i)
  | 0, i, j, hp, f => Nat.zero_le _
  | F + 1, i, j, hp, f => by
    have ih := fun {i j : Nat} (q : Prog s F i j) (f : Nat → Bool) => lowT_size q f
    rcases hp with hp | ⟨m, hst, hr⟩
    · subst hp
      rw [lowT, if_neg (Nat.lt_irrefl _)]
      exact Nat.zero_le _
    · have hmj := hr.le
      have hlt := hst.lt
      have hij : i < j := by omega
      have hbeh := beh_of hst
      have dr := fun (f g : Nat → Bool) => (show (drsB (minL f g)).size ≤ 78 by rw [drsB_size]; have := minL_len f g; omega)
      rw [lowT, if_pos hij, hbeh]
      have h0 := ih hr (afterF (alongF s F) s i f)
      have ex := fun (x y : Nat) (h1 : x ≤ y) (h2 : y ≤ s.size) => size_ext (s := s) h1 h2
      rcases hst with hS | ⟨e, a, b, c, ho, ha, hp, hb, hb1, hq, hc, rfl⟩ | ⟨e, a, b, ho, ha, hp, hb, rfl⟩
      · have hf := hS.first
        rw [if_neg hf.1, if_neg hf.2]
        have e1 := ex i m (by omega) hS.line.2.1
        have e2 : (if ownT s i f = true then drB (bt s i - 65) else ⟨#[]⟩ : ByteArray).size ≤ 3 := by split; exact Nat.le_refl 3; exact Nat.zero_le _
        simp only [ByteArray.size_append]
        omega
      · have hI := ifAt_of e ho ha hp hb hb1 hq hc
        have l1 := hp.le
        have l2 := hq.le
        have l3 := ho.lt
        have hcs := byte_in hc (by decide)
        have g1 := ih hp f
        have g2 := ih hq f
        have e1 := ex i (a + 1) (by omega) (by omega)
        have e2 := ex b (b + 2) (by omega) (by omega)
        have e3 := ex c (c + 1) (by omega) (by omega)
        rw [if_pos e, hI.p1, hI.p2, hI.p3, show b + 1 - 1 = b by omega, show b + 1 + 1 = b + 2 by omega, show c + 1 - 1 = c by omega]
        simp only [ByteArray.size_append]
        have d1 := dr (alongF s F (a + 1) b f) (afterF (alongF s F) s i f)
        have d2 := dr (alongF s F (b + 2) c f) (afterF (alongF s F) s i f)
        omega
      · have hL := loopAt_of e ho ha hp hb
        have l1 := hp.le
        have l3 := ho.lt
        have hbs := byte_in hb (by decide)
        have g1 := ih hp (afterF (alongF s F) s i f)
        have e1 := ex i (a + 1) (by omega) (by omega)
        have e3 := ex b (b + 1) (by omega) (by omega)
        rw [if_neg (by rw [e]; decide), if_pos e, hL.p1, hL.p2, show b + 1 - 1 = b by omega]
        simp only [ByteArray.size_append]
        have d1 := dr f (afterF (alongF s F) s i f)
        have d2 := dr (alongF s F (a + 1) b (afterF (alongF s F) s i f)) (afterF (alongF s F) s i f)
        omega
/-- what Lower makes is not too long for Exec -/
theorem low_size {s : ByteArray} (hp : Prog s (s.size + 1) 0 s.size) (h4 : s.size ≤ 400) : (lowTT s).size ≤ 20000 := by
  have h1 := lowT_size hp noF
  have h2 : (drsB (minL (alongF s (s.size + 1) 0 s.size noF) noF)).size ≤ 78 := by rw [drsB_size]; have := minL_len (alongF s (s.size + 1) 0 s.size noF) noF; omega
  unfold lowTT
  rw [ByteArray.size_append]
  omega
/-- THE TOP, of texts -/
theorem faith {s : ByteArray} (hc : checkN s = (0, 0)) (n k : Nat) {σ : St} (hE : Ends cP s k σ) :
    ∃ τ, Ends (cE true n) (lowTT s) k τ ∧ ((τ.status = σ.status ∧ τ.tr = σ.tr ∧ (τ.status = 0 → usedN τ 26 = 0)) ∨ (τ.status = 3 ∧ τ.tr <+: σ.tr)) ∧ usedN τ 26 ≤ τ.peak ∧ τ.peak ≤ n ∧ σ.status ≠ 4 ∧ (3264 ≤ n → τ.status ≠ 3) := by
  obtain ⟨h4, hr, hp, hok, ho⟩ := check_tree hc
  obtain ⟨t1, t2⟩ := text_top hp
  obtain ⟨b, hE⟩ := hE
  obtain ⟨τ, b', h1, h2⟩ := low_top (cE true n) (st0 k) ⟨rfl, fun _ => rfl⟩ hok ho hE
  have hpk := h1.pk (pgok_lowP hok) (pk_st0 n k)
  have hsd := (hE.sound rfl hok (f := noF) clean_none ho (fun b q => by cases q) (by simp [st0])).1
  refine ⟨τ, ⟨b', by rw [t2]; exact h1⟩, ?_, hpk.used, hpk.top, hsd, fun hn => h1.room hn (pgok_lowP hok) (pk_st0 n k) (by simp [st0])⟩
  rcases h2 with ⟨q1, q2, q3⟩ | q
  · refine .inl ⟨q1, q2, fun q0 => ?_⟩
    have hz := q3 q0
    have key : ∀ m, usedN τ m = 0 := fun m => by
      induction m with
      | zero => rfl
      | succ m ih => show usedN τ m + (τ.bx m).length = 0; rw [ih, hz]; rfl
    exact key 26
  · exact .inr q
/-- what Lower makes plays as the program does -/
theorem settled_play {s : ByteArray} (hc : checkN s = (0, 0)) (k : Nat) {σ : St} (hE : Ends cP s k σ) : ∃ τ, Ends cP (lowTT s) k τ ∧ τ.status = σ.status ∧ τ.tr = σ.tr := by
  obtain ⟨h4, hr, hp, hok, ho⟩ := check_tree hc
  obtain ⟨t1, t2⟩ := text_top hp
  obtain ⟨b, hE⟩ := hE
  obtain ⟨τ, b', h1, h2, h3⟩ := low_play (st0 k) ⟨rfl, fun _ => rfl⟩ hok ho hE
  exact ⟨τ, ⟨b', by rw [t2]; exact h1⟩, h2, h3⟩
theorem settled_text {s : ByteArray} (hc : checkN s = (0, 0)) : lowTT (lowTT s) = lowTT s ∧ checkN (lowTT s) = (if 400 < (lowTT s).size then (1, 0) else (0, 0)) ∧ run (lowTT s) [(83, true)] 0 0 = (0, 0) ∧ (lowTT s).size ≤ 20000 := by
  obtain ⟨h4, hr, hp, hok, ho⟩ := check_tree hc
  exact ⟨text_settled hp hok ho, low_check hr hok ho, low_right hr, low_size hp h4⟩
end Go.Proofs.YthcjcjfgdgnljaaDoor

namespace Go.Proofs.YthcjcjfgdgnljaaDoor
open Go.RowKit
set_option linter.unusedVariables false

/-- what Lower makes of the sentence from i up to m -/
def lowS (s : ByteArray) (F i m : Nat) (f : Nat → Bool) : ByteArray :=
  if bt s i = 63 then s.extract i (bopN s (i + 1) + 1) ++ lowT s F (bopN s (i + 1) + 1) (bbrN s (bopN s (i + 1)) - 1) f ++ drsB (minL (alongF s F (bopN s (i + 1) + 1) (bbrN s (bopN s (i + 1)) - 1) f) (afterF (alongF s F) s i f))
          ++ s.extract (bbrN s (bopN s (i + 1)) - 1) (bbrN s (bopN s (i + 1)) + 1) ++ lowT s F (bbrN s (bopN s (i + 1)) + 1) (bbrN s (bbrN s (bopN s (i + 1))) - 1) f ++ drsB (minL (alongF s F (bbrN s (bopN s (i + 1)) + 1) (bbrN s (bbrN s (bopN s (i + 1))) - 1) f) (afterF (alongF s F) s i f))
          ++ s.extract (bbrN s (bbrN s (bopN s (i + 1))) - 1) m
       else if bt s i = 64 then drsB (minL f (afterF (alongF s F) s i f)) ++ s.extract i (bopN s (i + 1) + 1) ++ lowT s F (bopN s (i + 1) + 1) (bbrN s (bopN s (i + 1)) - 1) (afterF (alongF s F) s i f)
          ++ drsB (minL (alongF s F (bopN s (i + 1) + 1) (bbrN s (bopN s (i + 1)) - 1) (afterF (alongF s F) s i f)) (afterF (alongF s F) s i f)) ++ s.extract (bbrN s (bopN s (i + 1)) - 1) m
       else (if ownT s i f = true then drB (bt s i - 65) else ⟨#[]⟩) ++ s.extract i m
theorem lowT_step {s : ByteArray} {F i m j : Nat} (h : StmtF (Prog s F) s i m) (hij : i < j) (f : Nat → Bool) : lowT s (F + 1) i j f = lowS s F i m f ++ lowT s F m j (afterF (alongF s F) s i f) := by
  rw [lowT, if_pos hij, beh_of h]
  rfl
theorem low_nil (x : ByteArray) : (⟨#[]⟩ : ByteArray) ++ x = x := by
  apply ByteArray.ext
  simp
theorem retS {a b : ByteArray} (h : a = b) : Ending.returned (.string a) = .returned (.string b) := by rw [h]
theorem lowT_end {s : ByteArray} {F i : Nat} (f : Nat → Bool) : lowT s F i i f = ⟨#[]⟩ := by
  cases F with
  | zero => rfl
  | succ F => rw [lowT, if_neg (Nat.lt_irrefl _)]
theorem lowS_size {s : ByteArray} {F i m : Nat} (h : StmtF (Prog s F) s i m) (f : Nat → Bool) : (lowS s F i m f).size ≤ 40 * (m - i) := by
  have hm : Prog s F m m := by cases F with | zero => rfl | succ F => exact .inl rfl
  have hp : Prog s (F + 1) i m := .inr ⟨m, h, hm⟩
  have h1 := lowT_size hp f
  have h2 := h.lt
  rw [lowT_step h (by omega), lowT_end, ByteArray.size_append] at h1
  omega
theorem lowS_if {s : ByteArray} {F i a b c : Nat} (h : IfAt s i a b c) (f G : Nat → Bool) (hG : afterF (alongF s F) s i f = G) : lowS s F i (c + 1) f = s.extract i (a + 1) ++ lowT s F (a + 1) b f ++ drsB (minL (alongF s F (a + 1) b f) G) ++ s.extract b (b + 2) ++ lowT s F (b + 2) c f ++ drsB (minL (alongF s F (b + 2) c f) G) ++ s.extract c (c + 1) := by
  unfold lowS
  rw [if_pos h.q, hG, h.p1, h.p2, h.p3, show b + 1 - 1 = b by omega, show b + 1 + 1 = b + 2 by omega, show c + 1 - 1 = c by omega]
theorem lowS_loop {s : ByteArray} {F i a b : Nat} (h : LoopAt s i a b) (f G : Nat → Bool) (hG : afterF (alongF s F) s i f = G) : lowS s F i (b + 1) f = drsB (minL f G) ++ s.extract i (a + 1) ++ lowT s F (a + 1) b G ++ drsB (minL (alongF s F (a + 1) b G) G) ++ s.extract b (b + 1) := by
  unfold lowS
  rw [if_neg (by rw [h.q]; decide), if_pos h.q, hG, h.p1, h.p2, show b + 1 - 1 = b by omega]
theorem lowS_simple {s : ByteArray} {F i m : Nat} (h : Simple s i m) (f : Nat → Bool) : lowS s F i m f = (if ownT s i f = true then drB (bt s i - 65) else ⟨#[]⟩) ++ s.extract i m := by
  unfold lowS
  rw [if_neg h.first.1, if_neg h.first.2]
theorem simple_two {s : ByteArray} {i m : Nat} (h : Simple s i m) (hg : greatN (bt s i) = true) : i + 2 < s.size := by
  have sm : smallN (bt s i) = true → False := fun q => by have := (sm_ne q).2.2; rw [hg] at this; cases this
  rcases h with q | q | q | q | q | q | q | q | q
  · exact (sm q.1).elim
  · exact (sm q.1).elim
  · exact (sm q.1).elim
  · exact (sm q.1).elim
  · obtain ⟨h1, h2, k, l, h5, h6, h7, h8, h9, hm⟩ := q
    have := h5.lt
    have := byte_in h6 (by decide)
    omega
  · exact byte_in q.2.2.1 (by decide)
  · exact (great_in q.2.2.1).1
  · rw [q.1] at hg; cases hg
  · rw [q.1] at hg; cases hg

theorem drB_text {s : ByteArray} {p : Nat} (hp : p < s.size) (hg : greatN (bt s p) = true) : drB (bt s p - 65) = ⟨#[126]⟩ ++ s.extract p (p + 1) ++ ⟨#[59]⟩ := by
  have h1 : s.extract p (p + 1) = ⟨#[s[p]]⟩ := by
    apply ByteArray.ext
    rw [ByteArray.data_extract]
    apply Array.ext
    · simp
      have : s.data.size = s.size := rfl
      omega
    · intro i h1 h2
      simp at h2
      subst h2
      simp [ByteArray.getElem_eq_getElem_data]
  rw [h1]
  rw [bt_in hp] at hg ⊢
  have h2 : UInt8.ofNat (65 + (s[p].toNat - 65)) = s[p] := by
    simp [greatN] at hg
    rw [show 65 + (s[p].toNat - 65) = s[p].toNat by omega]
    exact UInt8.ofNat_toNat
  unfold drB
  rw [h2]
  rfl
theorem str_add (W : World) (a b : ByteArray) (n : Nat) (h : (a ++ b).size ≤ n) (hn : n ≤ 100000000) : (Op.stringOp .add a b).run Tryd.prog W = .ok (.string (a ++ b)) W := run_string_add_sum W a b (by rw [ByteArray.size_append] at h; omega)
theorem str_cut (W : World) (s : ByteArray) (a b : Nat) (i j : Int) (h1 : a ≤ b) (h2 : b ≤ s.size) (ei : i = (a : Int)) (ej : j = (b : Int)) : (Instr.slice 9 (.string s) (some (.int .i64 i)) (some (.int .i64 j)) none).run Tryd.prog W = .ok (.string (s.extract a b)) W := by
  subst ei ej
  rw [run_slice_string (w := W) _ _ _ _ _ _ Tryd.underlying9 (by omega) (by omega) (by omega)]
  rfl
theorem str_at (W : World) (s : ByteArray) (n : Nat) (i : Int) (h : n < s.size) (e : i = (n : Int)) : (Instr.index 9 (.string s) (.int .i64 i)).run Tryd.prog W = .ok (.int .u8 (s[n].toNat : Int)) W := by
  subst e
  rw [run_index_string _ _ _ _ _ Tryd.underlying9, dif_pos ⟨by omega, by omega⟩]
  rfl
/-- a world in which all that is old is as it was -/
structure Kin (w : World) where
  x : World
  f : Fr NoB w x
/-- a region that draws its order and leaves all that is old as it was -/
theorem wp_region_cls {P : Program} {id : Nat} {Q : Exit → Act → World → Prop} {a : Act} {w : World} {l : List Oper} (hm : P.follows .mixedOrders = true) (hB : Region.lexB .any l.toArray = true)
    (h : wpQuiet P l.toArray (fun w' => ∃ i : Kin w, w' = i.x) (fun a' => ∀ w', (∃ i : Kin w, w' = i.x) → Q .normal a' w') l a) : (Code.region id l.toArray true).wp P Q a w :=
  wp_region_quiet (C := fun w' => ∃ i : Kin w, w' = i.x) hm hB ⟨⟨w.drew, (Fr.refl _ _).drew⟩, rfl⟩ (by simpa using h)
theorem quiet_row {P : Program} {ops : Array Oper} {C : World → Prop} {Q : Act → Prop} {a : Act} {o : Oper} {rest : List Oper} (ty : TypeId) (x : Operand) (b : Nat) (v : Value) (hg : o.guard = none) (ho : o.op = .load ty x) (hx : a.eval x = .pointer (some ⟨b, 0, none⟩)) (h1 : ∀ w, C w → (loadVar ty ⟨b, 0, none⟩).run P w = .ok v w) (h2 : wpQuiet P ops C Q rest (a.put o.dst v)) : wpQuiet P ops C Q (o :: rest) a :=
  BigFrame.wpQuiet_want (by simp [Region.wanted, hg]) fun K hK => ⟨v, fun w hw => by
    unfold Oper.quietAt execOp
    simp only [ho, hx, Instr.loadAt, Instr.sureAddr, Sem.run_bind, Sem.run_pure, Result.andThen_ok, h1 w hw]
    exact ⟨rfl, rfl⟩, hK _ h2⟩
theorem Calls.cls {P : Program} {f : FuncId} {args : Array Value} {w : World} {v : Value} (i : Kin w) (h : Calls P f args i.x fun e w' => e = .returned v ∧ Fr NoB i.x w') : Calls P f args i.x fun e w'' => e = .returned v ∧ ∃ j : Kin w, w'' = j.x :=
  h.mono fun _ w' ⟨he, hF⟩ => ⟨he, ⟨w', i.f.trans hF⟩, rfl⟩
end Go.Proofs.YthcjcjfgdgnljaaDoor

namespace Go.Proofs.YthcjcjfgdgnljaaDoor
open Go.RowKit
set_option linter.unusedVariables false

/-- f without g -/
def minusF (f g : Nat → Bool) : Nat → Bool := fun i => f i && !g i
/-- one box alone -/
def oneF (k : Nat) : Nat → Bool := fun i => decide (i = k)
/-- does a part get another block? -/
def getsB (t : Pt) : Bool := decide (t.kind = 4) || (decide (t.kind = 5) && decide (t.box ≠ t.src))
/-- the boxes whose blocks must end ahead of a part -/
def surN (p : Nat → Pt) (C : Nat → Nat) (A B : Nat → Nat → Bool) (q : Nat) : Nat → Bool :=
  if getsB (p q) = true then bothF (A q) (oneF (p q).box)
  else if (p q).kind = 9 then minusF (A q) (B (C q))
  else if (p q).kind = 10 ∨ (p q).kind = 11 ∨ (p q).kind = 12 then minusF (A q) (B q)
  else noF
/-- a sentence for each box -/
def endB (f : Nat → Bool) : ByteArray := drsB (minL f noF)
theorem end_minus (f g : Nat → Bool) : endB (minusF f g) = drsB (minL f g) := by
  unfold endB minL minusF noF
  simp
theorem end_none : endB noF = ⟨#[]⟩ := by
  unfold endB
  rw [show minL noF noF = [] from by unfold minL noF; simp]
  rfl
theorem filt_none {l : List Nat} {g : Nat → Bool} (h : ∀ i, i ∈ l → g i = false) : l.filter g = [] := by
  rw [List.filter_eq_nil_iff]
  intro a ha
  rw [h a ha]
  simp
theorem minL_one {f : Nat → Bool} {k : Nat} (hk : k < 26) : minL (bothF f (oneF k)) noF = if f k = true then [k] else [] := by
  have hsp : List.range 26 = List.range k ++ [k] ++ (List.range (26 - (k + 1))).map (fun x => k + 1 + x) := by
    have h1 : List.range (k + 1 + (26 - (k + 1))) = List.range (k + 1) ++ (List.range (26 - (k + 1))).map (fun x => k + 1 + x) := List.range_add
    rw [← List.range_succ, ← h1]
    congr 1
    omega
  unfold minL
  rw [hsp, List.filter_append, List.filter_append, filt_none (l := List.range k) (fun i hi => by
    have : i < k := List.mem_range.1 hi
    unfold bothF oneF noF
    simp
    omega), filt_none (l := (List.range (26 - (k + 1))).map (fun x => k + 1 + x)) (fun i hi => by
    obtain ⟨x, _, rfl⟩ := List.mem_map.1 hi
    unfold bothF oneF noF
    simp
    omega)]
  unfold bothF oneF noF
  cases h : f k
  · simp [h]
  · simp [h]
theorem end_one {f : Nat → Bool} {k : Nat} (hk : k < 26) : endB (bothF f (oneF k)) = if f k = true then drB k else ⟨#[]⟩ := by
  unfold endB
  rw [minL_one hk]
  split
  · show drB k ++ (⟨#[]⟩ : ByteArray) = drB k
    exact ByteArray.append_empty
  · rfl

/-- ahead of a sentence without braces -/
theorem sur_simple {p : Nat → Pt} {C : Nat → Nat} {A B : Nat → Nat → Bool} {q : Nat} {s : ByteArray} {i m : Nat} (hS : Simple s i m) (hP : SimPart s i (p q)) (hb : (p q).box < 26) : endB (surN p C A B q) = if ownT s i (A q) = true then drB (bt s i - 65) else ⟨#[]⟩ := by
  have ho := own_text hS (A q)
  rw [← hP.ac] at ho
  have hk := hP.kd
  unfold surN
  by_cases h4 : (p q).kind = 4
  · rw [if_pos (by unfold getsB; rw [h4]; rfl), end_one hb]
    have e : acP (p q) = .make (p q).box (p q).o1 := by unfold acP; rw [h4]; rfl
    rw [e] at ho
    have ho2 : (if A q (p q).box = true then some (p q).box else none) = (if ownT s i (A q) = true then some (bt s i - 65) else none) := ho
    by_cases h : A q (p q).box = true
    · rw [if_pos h] at ho2 ⊢
      by_cases h2 : ownT s i (A q) = true
      · rw [if_pos h2] at ho2 ⊢
        injection ho2 with ho2
        rw [ho2]
      · rw [if_neg h2] at ho2
        cases ho2
    · rw [if_neg h] at ho2 ⊢
      by_cases h2 : ownT s i (A q) = true
      · rw [if_pos h2] at ho2
        cases ho2
      · rw [if_neg h2]
  · by_cases h5 : (p q).kind = 5
    · have e : acP (p q) = .move (p q).box (p q).src := by unfold acP; rw [h5]; rfl
      rw [e] at ho
      have ho2 : (if (p q).box ≠ (p q).src ∧ A q (p q).box = true then some (p q).box else none) = (if ownT s i (A q) = true then some (bt s i - 65) else none) := ho
      by_cases hne : (p q).box = (p q).src
      · rw [if_neg (by unfold getsB; rw [h5]; simp [hne]), if_neg (by omega), if_neg (by omega), end_none]
        rw [if_neg (fun q => q.1 hne)] at ho2
        by_cases h2 : ownT s i (A q) = true
        · rw [if_pos h2] at ho2
          cases ho2
        · rw [if_neg h2]
      · rw [if_pos (by unfold getsB; rw [h5]; simp [hne]), end_one hb]
        by_cases h : A q (p q).box = true
        · rw [if_pos ⟨hne, h⟩] at ho2
          rw [if_pos h]
          by_cases h2 : ownT s i (A q) = true
          · rw [if_pos h2] at ho2 ⊢
            injection ho2 with ho2
            rw [ho2]
          · rw [if_neg h2] at ho2
            cases ho2
        · rw [if_neg (fun q => h q.2)] at ho2
          rw [if_neg h]
          by_cases h2 : ownT s i (A q) = true
          · rw [if_pos h2] at ho2
            cases ho2
          · rw [if_neg h2]
    · rw [if_neg (by unfold getsB; simp [h4, h5]), if_neg (by omega), if_neg (by omega), end_none]
      have hn : ownA (acP (p q)) (A q) = none := by
        have h8 := hP.kd
        unfold acP
        by_cases c0 : (p q).kind = 0
        · rw [if_pos c0]; split <;> rfl
        · rw [if_neg c0]
          by_cases c1 : (p q).kind = 1
          · rw [if_pos c1]; rfl
          · rw [if_neg c1]
            by_cases c2 : (p q).kind = 2
            · rw [if_pos c2]; rfl
            · rw [if_neg c2]
              by_cases c3 : (p q).kind = 3
              · rw [if_pos c3]; rfl
              · rw [if_neg c3, if_neg h4, if_neg h5]
                split <;> rfl
      rw [hn] at ho
      by_cases h2 : ownT s i (A q) = true
      · rw [if_pos h2] at ho
        cases ho
      · rw [if_neg h2]

section
variable {p : Nat → Pt} {C : Nat → Nat} {s : ByteArray} {A B : Nat → Nat → Bool} {n : Nat}
/-- how the program writes: the part that comes next, and the text, ahead of a place -/
def txN (s : ByteArray) (p : Nat → Pt) (n : Nat) (E : Nat → ByteArray) : Nat → Nat × ByteArray
  | 0 => (0, ⟨#[]⟩)
  | q + 1 => if (txN s p n E q).1 < n ∧ (p (txN s p n E q).1).place = q then ((txN s p n E q).1 + 1, (txN s p n E q).2 ++ E (txN s p n E q).1 ++ s.extract q (q + 1)) else ((txN s p n E q).1, (txN s p n E q).2 ++ s.extract q (q + 1))
theorem tx_part {E : Nat → ByteArray} {q k : Nat} {t : ByteArray} (h : txN s p n E q = (k, t)) (hk : k < n) (hp : (p k).place = q) : txN s p n E (q + 1) = (k + 1, t ++ E k ++ s.extract q (q + 1)) := by
  rw [txN, h, if_pos ⟨hk, hp⟩]
theorem tx_skip {E : Nat → ByteArray} {q k : Nat} {t : ByteArray} (h : txN s p n E q = (k, t)) : ∀ d, (k < n → q + d ≤ (p k).place) → txN s p n E (q + d) = (k, t ++ s.extract q (q + d))
  | 0, _ => by
    rw [Nat.add_zero, h]
    congr 1
    rw [ByteArray.extract_same]
    exact ByteArray.append_empty.symm
  | d + 1, hp => by
    have ih := tx_skip h d (fun q => by have := hp q; omega)
    rw [show q + (d + 1) = q + d + 1 by omega, txN, ih, if_neg (fun e => by have := hp e.1; have := e.2; simp only [] at *; omega)]
    show (k, t ++ s.extract q (q + d) ++ s.extract (q + d) (q + d + 1)) = _
    rw [ByteArray.append_assoc, ext_app s (by omega) (by omega)]
theorem SegL.place : ∀ {F i j k l : Nat} {f : Nat → Bool}, SegL p s A B F i j k l f → (k < l → (p k).place = i) ∧ (k = l → i = j)
  | 0, i, j, k, l, f, h => ⟨fun q => absurd h.2 (by omega), fun _ => h.1⟩
  | F + 1, i, j, k, l, f, h => by
    rcases h with ⟨h1, h2⟩ | ⟨m, k', ⟨hc, hs⟩, g1, g2, g3, g4, g5, hr⟩
    · exact ⟨fun q => by omega, fun _ => h1⟩
    · refine ⟨fun _ => ?_, fun q => by omega⟩
      rcases hs with ⟨q1, q2, q3⟩ | ⟨a, b, c, ka, kb, q1, q2, q3, q4, q5, q6, _⟩ | ⟨a, b, ka, q1, q3, q4, q5, q6, _⟩
      · exact q3.pl
      · exact q6.2.2.1
      · exact q6.2.2.1
theorem SegL.next {F i j k l : Nat} {f : Nat → Bool} (h : SegL p s A B F i j k l f) (hl : l < n → j ≤ (p l).place) (hi : i ≤ j) : k < n → i ≤ (p k).place := fun hk => by
  by_cases e : k = l
  · subst e
    have := h.place.2 rfl
    have := hl hk
    omega
  · have := h.le
    rw [h.place.1 (by omega)]
    exact Nat.le_refl _
theorem SegL.ij : ∀ {F i j k l : Nat} {f : Nat → Bool}, SegL p s A B F i j k l f → i ≤ j
  | 0, _, _, _, _, _, h => Nat.le_of_eq h.1
  | F + 1, i, j, k, l, f, h => by
    rcases h with h | ⟨m, k', _, g1, g2, _⟩
    · exact Nat.le_of_eq h.1
    · omega

/-- what the program writes of the sentences from i to j -/
theorem text_dev (hC : ∀ q, q < n → closes (p q) = true → C (p q).opn = q) (hb : ∀ q, q < n → (p q).box < 26) : ∀ {F i j k l : Nat} {f : Nat → Bool}, SegL p s A B F i j k l f → l ≤ n → (l < n → j ≤ (p l).place) →
    ∀ t, txN s p n (fun q => endB (surN p C A B q)) i = (k, t) → txN s p n (fun q => endB (surN p C A B q)) j = (l, t ++ lowT s F i j f)
  | 0, i, j, k, l, f, h, hl, hj, t, ht => by
    obtain ⟨rfl, rfl⟩ := h
    rw [ht, lowT]
    congr 1
    exact ByteArray.append_empty.symm
  | F + 1, i, j, k, l, f, h, hl, hj, t, ht => by
    have ih := fun {i j k l : Nat} {f : Nat → Bool} (h : SegL p s A B F i j k l f) => text_dev hC hb h
    rcases h with ⟨rfl, rfl⟩ | ⟨m, k', ⟨hc, hs⟩, g1, g2, g3, g4, g5, hr⟩
    · rw [ht, lowT, if_neg (Nat.lt_irrefl _)]
      congr 1
      exact ByteArray.append_empty.symm
    · have hnx := hr.next hj g2
      rw [lowT, if_pos (by omega), g5]
      rcases hs with ⟨q1, q2, q3⟩ | ⟨a, b, c, ka, kb, q1, q2, q3, q4, q5, q6, q7, q8, q9, q10, q11, q12, q13, q14, q15⟩ | ⟨a, b, ka, q1, q3, q4, q5, q6, q7, q8, q9, q13, q14, q15⟩
      · subst q2
        have hf := q1.first
        rw [if_neg hf.1, if_neg hf.2]
        have e1 := tx_part ht (by omega) q3.pl
        have e2 := tx_skip e1 (m - (i + 1)) (fun q => by have := hnx q; omega)
        rw [show i + 1 + (m - (i + 1)) = m by omega, ByteArray.append_assoc, ext_app s (by omega) (by omega)] at e2
        have e3 := ih hr hl hj _ e2
        rw [e3]
        congr 1
        show t ++ endB (surN p C A B k) ++ s.extract i m ++ _ = _
        rw [sur_simple q1 q3 (hb k (by omega)), hc]
        simp only [ByteArray.append_assoc]
      · subst q4 q5
        have l2 := q2.le
        have l3 := q3.le
        have i2 := q2.ij
        have i3 := q3.ij
        rw [if_pos q1.q, q1.p1, q1.p2, q1.p3, show b + 1 - 1 = b by omega, show b + 1 + 1 = b + 2 by omega, show c + 1 - 1 = c by omega]
        have k1 : C ka = kb := by
          have := hC kb (by omega) (by unfold closes; rw [q9]; rfl)
          rwa [q10] at this
        have s0 : endB (surN p C A B k) = ⟨#[]⟩ := by
          unfold surN
          rw [if_neg (by unfold getsB; rw [q6.1]; simp), if_neg (by omega), if_neg (by omega), end_none]
        have s1 : endB (surN p C A B ka) = drsB (minL (alongF s F (a + 1) b f) (afterF (alongF s F) s i f)) := by
          unfold surN
          rw [if_neg (by unfold getsB; rw [q7]; simp), if_pos q7, end_minus, q13, k1, q15]
        have s2 : endB (surN p C A B kb) = drsB (minL (alongF s F (b + 2) c f) (afterF (alongF s F) s i f)) := by
          unfold surN
          rw [if_neg (by unfold getsB; rw [q9]; simp), if_neg (by omega), if_pos (.inl q9), end_minus, q14, q15]
        have hi := q1.o.lt
        have e1 := tx_part ht (by omega) q6.2.2.1
        have n2 := q2.next (n := n) (fun _ => by rw [q6.2.2.2.1]; exact Nat.le_refl _) i2
        have e2 := tx_skip e1 (a + 1 - (i + 1)) (fun q => by have := n2 q; omega)
        rw [show i + 1 + (a + 1 - (i + 1)) = a + 1 by omega, ByteArray.append_assoc, ext_app s (by omega) (by omega)] at e2
        have e3 := ih q2 (by omega) (fun _ => by rw [q6.2.2.2.1]; exact Nat.le_refl _) _ e2
        have e4 := tx_part e3 (by omega) q6.2.2.2.1
        have n3 := q3.next (n := n) (fun _ => by rw [q6.2.2.2.2]; exact Nat.le_refl _) i3
        have e5 := tx_skip e4 1 (fun q => by have := n3 q; omega)
        rw [show b + 1 + 1 = b + 2 by omega, ByteArray.append_assoc, ext_app s (by omega) (by omega)] at e5
        have e6 := ih q3 (by omega) (fun _ => by rw [q6.2.2.2.2]; exact Nat.le_refl _) _ e5
        have e7 := tx_part e6 (by omega) q6.2.2.2.2
        have e8 := ih hr hl hj _ e7
        rw [e8]
        congr 1
        try simp only []
        rw [s0, s1, s2]
        simp only [ByteArray.append_assoc]
        congr 1
      · subst q4 q5
        have l3 := q3.le
        have i3 := q3.ij
        have hi := q1.o.lt
        rw [if_neg (by rw [q1.q]; decide), if_pos q1.q, q1.p1, q1.p2, show b + 1 - 1 = b by omega, afterF_loop q1]
        rw [afterF_loop q1] at hr
        generalize iterF (alongF s F (a + 1) b) 27 f = H at *
        have s0 : endB (surN p C A B k) = drsB (minL f H) := by
          unfold surN
          rw [if_neg (by unfold getsB; rw [q6.1]; simp), if_neg (by omega), if_pos (.inr (.inl q6.1)), end_minus, hc, q13]
        have s1 : endB (surN p C A B ka) = drsB (minL (alongF s F (a + 1) b H) H) := by
          unfold surN
          rw [if_neg (by unfold getsB; rw [q7]; simp), if_neg (by omega), if_pos (.inr (.inr q7)), end_minus, q14, q15]
        have e1 := tx_part ht (by omega) q6.2.2.1
        have n2 := q3.next (n := n) (fun _ => by rw [q6.2.2.2]; exact Nat.le_refl _) i3
        have e2 := tx_skip e1 (a + 1 - (i + 1)) (fun q => by have := n2 q; omega)
        rw [show i + 1 + (a + 1 - (i + 1)) = a + 1 by omega, ByteArray.append_assoc, ext_app s (by omega) (by omega)] at e2
        have e3 := ih q3 (by omega) (fun _ => by rw [q6.2.2.2]; exact Nat.le_refl _) _ e2
        have e4 := tx_part e3 (by omega) q6.2.2.2
        have e8 := ih hr hl hj _ e4
        rw [e8]
        congr 1
        try simp only []
        rw [s0, s1]
        simp only [ByteArray.append_assoc]
/-- the whole of it -/
theorem text_dev_top (hC : ∀ q, q < n → closes (p q) = true → C (p q).opn = q) (hb : ∀ q, q < n → (p q).box < 26) (h : SegL p s A B (s.size + 1) 0 s.size 0 n noF) (he : 0 < n → B (n - 1) = alongF s (s.size + 1) 0 s.size noF) :
    (txN s p n (fun q => endB (surN p C A B q)) s.size).2 ++ endB (if n = 0 then noF else B (n - 1)) = lowTT s := by
  have h1 := text_dev hC hb h (Nat.le_refl _) (fun q => absurd q (Nat.lt_irrefl _)) ⟨#[]⟩ rfl
  rw [h1]
  unfold lowTT endB
  congr 1
  by_cases e : n = 0
  · rw [if_pos e]
    have e2 := h.place.2 e.symm
    have : alongF s (s.size + 1) 0 s.size noF = noF := by
      rw [← e2, alongF_end]
    rw [this]
  · rw [if_neg e, he (by omega)]
end
end Go.Proofs.YthcjcjfgdgnljaaDoor

namespace Go.Proofs.YthcjcjfgdgnljaaDoor
open Go.RowKit
set_option linter.unusedVariables false
theorem partIs3 (s : ByteArray) (hs : s.size ≤ 400) : PartIs s := fun w kp base r pv ov h hz hb hJ hlt => part_fn w kp base s r pv ov h hz hb hJ hlt
/-- behind a middle the last brace comes -/
theorem SegL.mid {p : Nat → Pt} {s : ByteArray} {A B : Nat → Nat → Bool} {C : Nat → Nat} {n : Nat} (hC : ∀ q, q < n → closes (p q) = true → C (p q).opn = q) : ∀ {F i j k l : Nat} {f : Nat → Bool}, SegL p s A B F i j k l f → l ≤ n → ∀ q, k ≤ q → q < l → (p q).kind = 9 → C q < n
  | 0, i, j, k, l, f, h, hl, q, h1, h2, h3 => absurd h.2 (by omega)
  | F + 1, i, j, k, l, f, h, hl, q, h1, h2, h3 => by
    rcases h with ⟨rfl, rfl⟩ | ⟨m, k', ⟨hc, hs⟩, g1, g2, g3, g4, g5, hr⟩
    · omega
    · by_cases hq : k' ≤ q
      · exact SegL.mid hC hr hl q hq h2 h3
      · rcases hs with ⟨q1, q2, q3⟩ | ⟨a, b, c, ka, kb, q1, q2, q3, q4, q5, q6, q7, q8, q9, q10, q11, q12, _⟩ | ⟨a, b, ka, q1, q3, q4, q5, q6, q7, q8, q9, _⟩
        · have e : q = k := by omega
          subst e
          have := q3.kd
          omega
        · subst q4 q5
          by_cases e0 : q = k
          · subst e0; rw [q6.1] at h3; omega
          · by_cases e1 : q = ka
            · subst e1
              have := hC kb (by omega) (by unfold closes; rw [q9]; rfl)
              rw [q10] at this
              omega
            · by_cases e2 : q = kb
              · subst e2; rw [q9] at h3; omega
              · by_cases e3 : q < ka
                · exact SegL.mid hC q2 (by omega) q (by omega) e3 h3
                · exact SegL.mid hC q3 (by omega) q (by omega) (by omega) h3
        · subst q4 q5
          by_cases e0 : q = k
          · subst e0; rw [q6.1] at h3; omega
          · by_cases e1 : q = ka
            · subst e1; rw [q7] at h3; omega
            · exact SegL.mid hC q3 (by omega) q (by omega) (by omega) h3
/-- what was read of a text that Check lets by -/
structure ToldL (s : ByteArray) (p : Nat → Pt) (C : Nat → Nat) (np : Nat) : Prop where
  seg : Seg0 p s np
  fl : FlatOk p np
  cq : ∀ q, q < np → closes (p q) = true → C (p q).opn = q
  cl : ∀ i, C i < 99999
  nl : np < 99999
theorem toldL_of {s : ByteArray} (hs : s.size ≤ 400) (n : Nat) (h2 : (rIter s n r0).z.2 = 0) (hl : ¬ (rIter s n r0).z.1 < s.size) (hO : (rIter s n r0).O = []) : ToldL s (pOf (rIter s n r0).P) (cloL (rIter s n r0).P) (rIter s n r0).P.length := by
  have h9 : s.size ≤ 90000 := by omega
  have hseg := seg_told h9 n h2 hl hO
  have hJ := rj_iter h9 n (rj0 s)
  have hU := ru_iter h9 n ru0 (rj0 s)
  have hn : (rIter s n r0).P.length < 99999 := by have := hJ.pl; have h5 : (rIter s n r0).z.1 ≤ s.size := hJ.hin; omega
  refine ⟨hseg, hJ.fl, fun q hq hc => clo_at _ _ rfl q hq hc (fun q' hq' hc' e => hU.uq q' q hq' hq hc' hc e), fun i => ?_, hn⟩
  have := clo_le _ (rIter s n r0).P rfl i
  omega
/-- Read of a text that Check lets by -/
theorem read_okL (w : World) (s : ByteArray) (hc : checkN s = (0, 0)) :
    Calls Tryd.prog 18 #[.string s] w fun e w' => ∃ ao np cap, e = .returned (.tuple #[.slice ao np cap, .int .i64 0, .int .i64 0]) ∧ Hid (Fr NoB w w' ∧ ∃ p C, ToldL s p C np ∧ PartRow w' ao np p C ∧ ∀ g, ao = some ⟨g, 0, none⟩ → g < w'.heap.size) := by
  have hc1 : s.size ≤ 400 ∧ (run s [(83, true)] 0 0).1 = 0 := by
    unfold checkN at hc
    by_cases h4 : 400 < s.size
    · rw [if_pos h4] at hc
      exact absurd (congrArg Prod.fst hc) (by decide)
    · rw [if_neg h4] at hc
      by_cases q : (run s [(83, true)] 0 0).1 ≠ 0
      · rw [if_pos q] at hc
        exact absurd (congrArg Prod.fst hc) q
      · exact ⟨by omega, by omega⟩
  obtain ⟨h4, h00⟩ := hc1
  refine (read_fn w s (by omega) (partIs3 s h4)).mono ?_
  rintro e w1 ⟨n, hst, hF1, hor⟩
  have hrun := run_told (by omega) n hst
  rcases hor with ⟨hne, rfl⟩ | ⟨ht, hz, hO, ao, cap, rfl, hrow, hgl⟩
  · rw [hrun] at h00
    exact absurd h00 hne
  · have hl : ¬ (rIter s n r0).z.1 < s.size := by
      rcases hst with q | q
      · exact absurd hz q
      · exact q
    exact ⟨ao, _, cap, rfl, ⟨hF1, _, _, toldL_of h4 n hz hl hO, hrow, hgl⟩⟩
end Go.Proofs.YthcjcjfgdgnljaaDoor
