/-
  TxtE, TxtF, TxtG: one behind the other.
-/
import Derived.Test.YthcjcjfgdgnljabDoorGTxtD
import Derived.Test.YthcjcjfgdgnljabDoorGExeH
namespace Go.Proofs.YthcjcjfgdgnljabDoor
set_option linter.unusedVariables false

theorem pg_ok {s : ByteArray} : ∀ {F i j : Nat}, Prog s F i j → PgOk (pgN s F i j)
  | 0, i, j, hp => trivial
  | F + 1, i, j, hp => by
    have ih := fun {i j : Nat} (q : Prog s F i j) => pg_ok q
    rcases hp with hp | ⟨m, hst, hr⟩
    · subst hp; rw [pgN_end]; trivial
    · have hmj := hr.le
      have hlt := hst.lt
      have hij : i < j := by omega
      rcases hst with hS | ⟨e, a, b, c, ho, ha, hp, hb, hb1, hq, hc, rfl⟩ | ⟨e, a, b, ho, ha, hp, hb, rfl⟩
      · rw [pgN_simple hS hij]; exact ⟨acOk_of hS, ih hr⟩
      · rw [pgN_if (ifAt_of e ho ha hp hb hb1 hq hc) hij]; exact ⟨odN_ok ho (byte_in ha (by decide)) (by rw [ha]; rfl), ih hp, ih hq, ih hr⟩
      · rw [pgN_loop (loopAt_of e ho ha hp hb) hij]; exact ⟨odN_ok ho (byte_in ha (by decide)) (by rw [ha]; rfl), ih hp, ih hr⟩
theorem pgok_seq : ∀ {P Q : Pg}, PgOk P → PgOk Q → PgOk (seqP P Q)
  | .nil, Q, _, h => h
  | .act a r, Q, h1, h => ⟨h1.1, pgok_seq h1.2 h⟩
  | .ite o p q r, Q, h1, h => ⟨h1.1, h1.2.1, h1.2.2.1, pgok_seq h1.2.2.2 h⟩
  | .loop o p r, Q, h1, h => ⟨h1.1, h1.2.1, pgok_seq h1.2.2 h⟩
theorem pgok_dr : ∀ {l : List Nat} {Q : Pg}, (∀ k, k ∈ l → k < 26) → PgOk Q → PgOk (drP l Q)
  | [], Q, _, h => h
  | k :: l, Q, h1, h => ⟨h1 k List.mem_cons_self, pgok_dr (fun j hj => h1 j (List.mem_cons_of_mem _ hj)) h⟩
theorem pgok_low : ∀ {P : Pg} {f : Nat → Bool}, PgOk P → PgOk (lowG P f)
  | .nil, f, h => h
  | .act a r, f, h => by
    rw [lowG]
    unfold ownP
    split
    · exact ⟨h.1, pgok_low h.2⟩
    · rename_i b hb
      refine ⟨?_, h.1, pgok_low h.2⟩
      rcases (own_cases hb).2 with ⟨o, rfl⟩ | ⟨d, rfl, _⟩
      · exact h.1.1
      · exact h.1.1
  | .ite o p q r, f, h => by
    rw [lowG]
    exact ⟨h.1, pgok_seq (pgok_low h.2.1) (pgok_dr min_lt trivial), pgok_seq (pgok_low h.2.2.1) (pgok_dr min_lt trivial), pgok_low h.2.2.2⟩
  | .loop o p r, f, h => by
    rw [lowG]
    exact pgok_dr min_lt ⟨h.1, pgok_seq (pgok_low h.2.1) (pgok_dr min_lt trivial), pgok_low h.2.2⟩
theorem pgok_lowP {P : Pg} (h : PgOk P) : PgOk (lowP P) := pgok_seq (pgok_low h) (pgok_dr min_lt trivial)
/-- a program that Check lets by -/
theorem check_tree {s : ByteArray} (hc : checkN s = (0, 0)) : s.size ≤ 400 ∧ run s [(83, true)] 0 0 = (0, 0) ∧ Prog s (s.size + 1) 0 s.size ∧ PgOk (pgN s (s.size + 1) 0 s.size) ∧ okG (pgN s (s.size + 1) 0 s.size) noF := by
  unfold checkN at hc
  by_cases h4 : 400 < s.size
  · rw [if_pos h4] at hc; cases hc
  · rw [if_neg h4] at hc
    by_cases q : (run s [(83, true)] 0 0).1 ≠ 0
    · rw [if_pos q] at hc
      exact absurd (congrArg Prod.fst hc) q
    · rw [if_neg q] at hc
      have hr := run_zero (show (run s [(83, true)] 0 0).1 = 0 by omega)
      have hp := prog_of_ok hr
      refine ⟨by omega, hr, hp, pg_ok hp, (along_pg _ _ _ hp).2 noF ?_⟩
      by_cases hm : 0 ≤ misT s
      · rw [if_pos hm] at hc; cases hc
      · have : misT s < 0 := by omega
        exact this
theorem drsB_size : ∀ l : List Nat, (drsB l).size = 3 * l.length
  | [] => rfl
  | k :: l => by
    have hs : (drB k ++ drsB l).size = (drB k).size + (drsB l).size := ByteArray.size_append
    rw [drsB, hs, drsB_size l, show (drB k).size = 3 from rfl, List.length_cons]
    omega
theorem minL_len (f g : Nat → Bool) : (minL f g).length ≤ 26 := by
  unfold minL
  have := List.length_filter_le (fun k => f k && !g k) (List.range 26)
  simpa using this
theorem lowT_size {s : ByteArray} : ∀ {F i j : Nat}, Prog s F i j → ∀ (f : Nat → Bool), (lowT s F i j f).size ≤ 40 * (j - i)
  | 0, i, j, hp, f => Nat.zero_le _
  | F + 1, i, j, hp, f => by
    have ih := fun {i j : Nat} (q : Prog s F i j) (f : Nat → Bool) => lowT_size q f
    rcases hp with hp | ⟨m, hst, hr⟩
    · subst hp
      rw [lowT, if_neg (Nat.lt_irrefl _)]
      exact Nat.zero_le _
    · have hmj := hr.le
      have hlt := hst.lt
      have hij : i < j := by omega
      have hbeh := beh_of hst
      have dr := fun (f g : Nat → Bool) => (show (drsB (minL f g)).size ≤ 78 by rw [drsB_size]; have := minL_len f g; omega)
      rw [lowT, if_pos hij, hbeh]
      have h0 := ih hr (afterF (alongF s F) s i f)
      have ex := fun (x y : Nat) (h1 : x ≤ y) (h2 : y ≤ s.size) => size_ext (s := s) h1 h2
      rcases hst with hS | ⟨e, a, b, c, ho, ha, hp, hb, hb1, hq, hc, rfl⟩ | ⟨e, a, b, ho, ha, hp, hb, rfl⟩
      · have hf := hS.first
        rw [if_neg hf.1, if_neg hf.2]
        have e1 := ex i m (by omega) hS.line.2.1
        have e2 : (if ownT s i f = true then drB (bt s i - 65) else ⟨#[]⟩ : ByteArray).size ≤ 3 := by split; exact Nat.le_refl 3; exact Nat.zero_le _
        simp only [ByteArray.size_append]
        omega
      · have hI := ifAt_of e ho ha hp hb hb1 hq hc
        have l1 := hp.le
        have l2 := hq.le
        have l3 := ho.lt
        have hcs := byte_in hc (by decide)
        have g1 := ih hp f
        have g2 := ih hq f
        have e1 := ex i (a + 1) (by omega) (by omega)
        have e2 := ex b (b + 2) (by omega) (by omega)
        have e3 := ex c (c + 1) (by omega) (by omega)
        rw [if_pos e, hI.p1, hI.p2, hI.p3, show b + 1 - 1 = b by omega, show b + 1 + 1 = b + 2 by omega, show c + 1 - 1 = c by omega]
        simp only [ByteArray.size_append]
        have d1 := dr (alongF s F (a + 1) b f) (afterF (alongF s F) s i f)
        have d2 := dr (alongF s F (b + 2) c f) (afterF (alongF s F) s i f)
        omega
      · have hL := loopAt_of e ho ha hp hb
        have l1 := hp.le
        have l3 := ho.lt
        have hbs := byte_in hb (by decide)
        have g1 := ih hp (afterF (alongF s F) s i f)
        have e1 := ex i (a + 1) (by omega) (by omega)
        have e3 := ex b (b + 1) (by omega) (by omega)
        rw [if_neg (by rw [e]; decide), if_pos e, hL.p1, hL.p2, show b + 1 - 1 = b by omega]
        simp only [ByteArray.size_append]
        have d1 := dr f (afterF (alongF s F) s i f)
        have d2 := dr (alongF s F (a + 1) b (afterF (alongF s F) s i f)) (afterF (alongF s F) s i f)
        omega
/-- what Lower makes is not too long for Exec -/
theorem low_size {s : ByteArray} (hp : Prog s (s.size + 1) 0 s.size) (h4 : s.size ≤ 400) : (lowTT s).size ≤ 20000 := by
  have h1 := lowT_size hp noF
  have h2 : (drsB (minL (alongF s (s.size + 1) 0 s.size noF) noF)).size ≤ 78 := by rw [drsB_size]; have := minL_len (alongF s (s.size + 1) 0 s.size noF) noF; omega
  unfold lowTT
  rw [ByteArray.size_append]
  omega
/-- THE TOP, of texts -/
theorem faith {s : ByteArray} (hc : checkN s = (0, 0)) (n k : Nat) {σ : St} (hE : Ends cP s k σ) :
    ∃ τ, Ends (cE true n) (lowTT s) k τ ∧ ((τ.status = σ.status ∧ τ.tr = σ.tr ∧ (τ.status = 0 → usedN τ 26 = 0)) ∨ (τ.status = 3 ∧ τ.tr <+: σ.tr)) ∧ usedN τ 26 ≤ τ.peak ∧ τ.peak ≤ n ∧ σ.status ≠ 4 ∧ (3264 ≤ n → τ.status ≠ 3) := by
  obtain ⟨h4, hr, hp, hok, ho⟩ := check_tree hc
  obtain ⟨t1, t2⟩ := text_top hp
  obtain ⟨b, hE⟩ := hE
  obtain ⟨τ, b', h1, h2⟩ := low_top (cE true n) (st0 k) ⟨rfl, fun _ => rfl⟩ hok ho hE
  have hpk := h1.pk (pgok_lowP hok) (pk_st0 n k)
  have hsd := (hE.sound rfl hok (f := noF) clean_none ho (fun b q => by cases q) (by simp [st0])).1
  refine ⟨τ, ⟨b', by rw [t2]; exact h1⟩, ?_, hpk.used, hpk.top, hsd, fun hn => h1.room hn (pgok_lowP hok) (pk_st0 n k) (by simp [st0])⟩
  rcases h2 with ⟨q1, q2, q3⟩ | q
  · refine .inl ⟨q1, q2, fun q0 => ?_⟩
    have hz := q3 q0
    have key : ∀ m, usedN τ m = 0 := fun m => by
      induction m with
      | zero => rfl
      | succ m ih => show usedN τ m + (τ.bx m).length = 0; rw [ih, hz]; rfl
    exact key 26
  · exact .inr q
/-- what Lower makes plays as the program does -/
theorem settled_play {s : ByteArray} (hc : checkN s = (0, 0)) (k : Nat) {σ : St} (hE : Ends cP s k σ) : ∃ τ, Ends cP (lowTT s) k τ ∧ τ.status = σ.status ∧ τ.tr = σ.tr := by
  obtain ⟨h4, hr, hp, hok, ho⟩ := check_tree hc
  obtain ⟨t1, t2⟩ := text_top hp
  obtain ⟨b, hE⟩ := hE
  obtain ⟨τ, b', h1, h2, h3⟩ := low_play (st0 k) ⟨rfl, fun _ => rfl⟩ hok ho hE
  exact ⟨τ, ⟨b', by rw [t2]; exact h1⟩, h2, h3⟩
theorem settled_text {s : ByteArray} (hc : checkN s = (0, 0)) : lowTT (lowTT s) = lowTT s ∧ checkN (lowTT s) = (if 400 < (lowTT s).size then (1, 0) else (0, 0)) ∧ run (lowTT s) [(83, true)] 0 0 = (0, 0) ∧ (lowTT s).size ≤ 20000 := by
  obtain ⟨h4, hr, hp, hok, ho⟩ := check_tree hc
  exact ⟨text_settled hp hok ho, low_check hr hok ho, low_right hr, low_size hp h4⟩
end Go.Proofs.YthcjcjfgdgnljabDoor

namespace Go.Proofs.YthcjcjfgdgnljabDoor
set_option linter.unusedVariables false

theorem ext_app2 (s X : ByteArray) {i m j : Nat} (h1 : i ≤ m) (h2 : m ≤ j) : s.extract i m ++ (s.extract m j ++ X) = s.extract i j ++ X := by rw [← ByteArray.append_assoc, ext_app s h1 h2]
/-- a program's text says its sentences, wherever it stands -/
theorem text_copy {s : ByteArray} : ∀ {F i j : Nat}, Prog s F i j → j ≤ s.size → Text (s.extract i j) (fun Q => seqP (pgN s F i j) Q)
  | 0, i, j, hp, hj => by
    have e : i = j := hp
    subst e
    exact Text.nil (by rw [size_ext (Nat.le_refl _) hj]; omega)
  | F + 1, i, j, hp, hj => by
    have ih := fun {i j : Nat} (q : Prog s F i j) (hj : j ≤ s.size) => text_copy q hj
    rcases hp with hp | ⟨m, hst, hr⟩
    · subst hp
      rw [pgN_end]
      exact Text.nil (by rw [size_ext (Nat.le_refl _) hj]; omega)
    · have hmj := hr.le
      have hlt := hst.lt
      have hij : i < j := by omega
      rw [← ext_app s (Nat.le_of_lt hlt.1) hmj]
      rcases hst with hS | ⟨e, a, b, c, ho, ha, hp, hb, hb1, hq, hc, rfl⟩ | ⟨e, a, b, ho, ha, hp, hb, rfl⟩
      · rw [pgN_simple hS hij]
        exact text_like ((Text.simple hS).app (ih hr hj)) (fun Q => by rw [seqP])
      · have hI := ifAt_of e ho ha hp hb hb1 hq hc
        have l1 := hp.le
        have l2 := hq.le
        have l3 := ho.lt
        have hcs := byte_in hc (by decide)
        rw [pgN_if hI hij]
        have hh := (Text.ite e ho ha (by omega) hb hb1 (by omega) hc (ih hp (by omega)) (ih hq (by omega))).app (ih hr hj)
        simp only [ByteArray.append_assoc] at hh ⊢
        rw [ext_app2 s _ (show i ≤ a + 1 by omega) l1, ext_app2 s _ (show i ≤ b by omega) (show b ≤ b + 2 by omega), ext_app2 s _ (show i ≤ b + 2 by omega) l2, ext_app2 s _ (show i ≤ c by omega) (show c ≤ c + 1 by omega)] at hh
        exact text_like hh (fun Q => by rw [seqP, seq_nil, seq_nil])
      · have hL := loopAt_of e ho ha hp hb
        have l1 := hp.le
        have l3 := ho.lt
        have hbs := byte_in hb (by decide)
        rw [pgN_loop hL hij]
        have hh := (Text.loop e ho ha (by omega) hb (ih hp (by omega))).app (ih hr hj)
        simp only [ByteArray.append_assoc] at hh ⊢
        rw [ext_app2 s _ (show i ≤ a + 1 by omega) l1, ext_app2 s _ (show i ≤ b by omega) (show b ≤ b + 1 by omega)] at hh
        exact text_like hh (fun Q => by rw [seqP, seq_nil])
theorem ext_all (s : ByteArray) : s.extract 0 s.size = s := by
  apply ByteArray.ext
  simp
/-- more steps of the look change nothing -/
theorem prog_up {s : ByteArray} : ∀ {F i j : Nat}, Prog s F i j → ∀ {G : Nat}, F ≤ G → Prog s G i j ∧ pgN s G i j = pgN s F i j
  | 0, i, j, hp, G, hG => by
    have e : i = j := hp
    subst e
    rw [pgN_end, pgN_end]
    cases G with
    | zero => exact ⟨rfl, rfl⟩
    | succ G => exact ⟨.inl rfl, rfl⟩
  | F + 1, i, j, hp, G, hG => by
    obtain ⟨G, rfl⟩ : ∃ g, G = g + 1 := ⟨G - 1, by omega⟩
    have ih := fun {i j : Nat} (q : Prog s F i j) => prog_up q (G := G) (by omega)
    rcases hp with hp | ⟨m, hst, hr⟩
    · subst hp
      rw [pgN_end, pgN_end]
      exact ⟨.inl rfl, rfl⟩
    · have hmj := hr.le
      have hlt := hst.lt
      have hij : i < j := by omega
      rcases hst with hS | ⟨e, a, b, c, ho, ha, hp, hb, hb1, hq, hc, rfl⟩ | ⟨e, a, b, ho, ha, hp, hb, rfl⟩
      · rw [pgN_simple hS hij, pgN_simple hS hij, (ih hr).2]
        exact ⟨.inr ⟨m, .inl hS, (ih hr).1⟩, rfl⟩
      · rw [pgN_if (ifAt_of e ho ha hp hb hb1 hq hc) hij, pgN_if (ifAt_of e ho ha (ih hp).1 hb hb1 (ih hq).1 hc) hij, (ih hp).2, (ih hq).2, (ih hr).2]
        exact ⟨.inr ⟨c + 1, .inr (.inl ⟨e, a, b, c, ho, ha, (ih hp).1, hb, hb1, (ih hq).1, hc, rfl⟩), (ih hr).1⟩, rfl⟩
      · rw [pgN_loop (loopAt_of e ho ha hp hb) hij, pgN_loop (loopAt_of e ho ha (ih hp).1 hb) hij, (ih hp).2, (ih hr).2]
        exact ⟨.inr ⟨b + 1, .inr (.inr ⟨e, a, b, ho, ha, (ih hp).1, hb, rfl⟩), (ih hr).1⟩, rfl⟩
/-- the end of a block behind sentences in which all is well -/
theorem mis_last {s : ByteArray} {m k : Nat} (hK : KDrop s m (m + 3)) (hk : bt s (m + 1) - 65 = k) : ∀ {F i : Nat}, Prog s F i m → ∀ {f : Nat → Bool}, okG (pgN s F i m) f → aftG (pgN s F i m) f k = false → ∀ {G : Nat}, F < G → misN s G i (m + 3) f = (m : Int) + 1
  | 0, i, hp, f, ho, hf, G, hG => by
    have e : i = m := hp
    subst e
    obtain ⟨G, rfl⟩ : ∃ g, G = g + 1 := ⟨G - 1, by omega⟩
    have hS : Simple s i (i + 3) := .inr (.inr (.inr (.inr (.inr (.inr (.inr (.inr hK)))))))
    have hu : useN s i = (i : Int) + 1 := by unfold useN; rw [if_pos hK.1]
    have hff : f k = false := hf
    rw [misN_step (F := G) (.inl hS) (by omega), misP_simple hS, hu, show ((i : Int) + 1).toNat = i + 1 by omega, hk, if_pos (show 0 ≤ (i : Int) + 1 ∧ f k = false from ⟨by omega, hff⟩), if_pos (by omega)]
  | F + 1, i, hp, f, ho, hf, G, hG => by
    obtain ⟨G, rfl⟩ : ∃ g, G = g + 1 := ⟨G - 1, by omega⟩
    have up := fun {i j : Nat} (q : Prog s F i j) => prog_up q (G := G) (by omega)
    rcases hp with hp | ⟨m1, hst, hr⟩
    · subst hp
      rw [pgN_end] at hf
      exact mis_last hK hk (F := 0) rfl (by trivial) (show aftG (pgN s 0 i i) f k = false from hf) (by omega)
    · have hmj := hr.le
      have hlt := hst.lt
      have hij : i < m := by omega
      have hst2 : StmtF (Prog s G) s i m1 := by
        rcases hst with hS | ⟨e, x, y, z, ho, ha, hp, hb, hb1, hq, hc, hm⟩ | ⟨e, x, y, ho, ha, hp, hb, hm⟩
        · exact .inl hS
        · exact .inr (.inl ⟨e, x, y, z, ho, ha, (up hp).1, hb, hb1, (up hq).1, hc, hm⟩)
        · exact .inr (.inr ⟨e, x, y, ho, ha, (up hp).1, hb, hm⟩)
      rw [misN_step hst2 (by omega)]
      have key : misP s (alongF s G) (misN s G) i f < 0 ∧ misN s G m1 (m + 3) (afterF (alongF s G) s i f) = (m : Int) + 1 := by
        rcases hst with hS | ⟨e, a, b, c, hoo, ha, hp, hb, hb1, hq, hc, rfl⟩ | ⟨e, a, b, hoo, ha, hp, hb, rfl⟩
        · rw [pgN_simple hS hij] at ho hf
          rw [okG_act] at ho
          rw [aftG_act] at hf
          obtain ⟨w1, w2⟩ := simple_words hS
          rw [misP_simple hS, afterF_simple hS, w1]
          refine ⟨?_, mis_last hK hk hr ho.2 hf (by omega)⟩
          rcases w2 with ⟨q1, q2⟩ | ⟨b, q1, q2, q3⟩
          · rw [q2, if_neg (by omega)]; decide
          · rw [q3, ho.1 b q1, if_neg (by simp)]; decide
        · have hI := ifAt_of e hoo ha hp hb hb1 hq hc
          rw [pgN_if hI hij] at ho hf
          rw [okG_ite] at ho
          rw [aftG_ite] at hf
          rw [misP_if hI, afterF_if hI, (along_pg G _ _ (up hp).1).1, (along_pg G _ _ (up hq).1).1, (up hp).2, (up hq).2, if_pos (mis_none (up hp).1 (by rw [(up hp).2]; exact ho.1))]
          exact ⟨mis_none (up hq).1 (by rw [(up hq).2]; exact ho.2.1), mis_last hK hk hr ho.2.2 hf (by omega)⟩
        · have hL := loopAt_of e hoo ha hp hb
          rw [pgN_loop hL hij] at ho hf
          rw [okG_loop] at ho
          rw [aftG_loop] at hf
          have hit : iterF (alongF s G (a + 1) b) 27 f = iterF (aftG (pgN s F (a + 1) b)) 27 f := by rw [iter_congr (along_pg G _ _ (up hp).1).1 27 f, (up hp).2]
          rw [misP_loop hL, afterF_loop hL, hit]
          exact ⟨mis_none (up hp).1 (by rw [(up hp).2]; exact ho.1), mis_last hK hk hr ho.2 hf (by omega)⟩
      rw [if_neg (by omega)]
      exact key.2
/-- Check of a program with the end of a block behind it -/
theorem check_last {s : ByteArray} (hc : checkN s = (0, 0)) (h397 : s.size ≤ 397) {v : Nat} (hv : v < 26) : checkN (s ++ drB v) = if aftG (pgN s (s.size + 1) 0 s.size) noF v = true then (0, 0) else (4, (s.size : Int) + 1) := by
  obtain ⟨h4, hr, hp, hok, ho⟩ := check_tree hc
  have hsz : (s ++ drB v).size = s.size + 3 := ByteArray.size_append
  have hx : Text s (fun Q => seqP (pgN s (s.size + 1) 0 s.size) Q) := by
    have := text_copy hp (Nat.le_refl _)
    rwa [ext_all] at this
  have E := Emb.self (s ++ drB v)
  have hg1 : Good (s ++ drB v) 0 s.size (pgN s (s.size + 1) 0 s.size) := by
    have := hx.good E.left
    rw [Nat.zero_add, seq_nil] at this
    exact this
  have hg2 : Good (s ++ drB v) 0 (s.size + 3) (seqP (pgN s (s.size + 1) 0 s.size) (.act (.drop v) .nil)) := by
    have := (hx.app (Text.drop hv)).good E
    rw [Nat.zero_add, hsz] at this
    exact this
  obtain ⟨p1, p2⟩ := hg1.2 (s.size + 3) (by omega)
  obtain ⟨u1, u2⟩ := hg2.2 (s.size + 3 + 1) (by omega)
  have hrun : run (s ++ drB v) [(83, true)] 0 0 = (0, 0) := by
    have := right_dep hr
    refine right_of (F := s.size + 3 + 1) (by rw [hsz]; exact u1) ?_
    rw [hsz, u2, dep_seq, dep, dep]
    omega
  have Er := E.right
  rw [Nat.zero_add] at Er
  have hbt : bt (s ++ drB v) (s.size + 1) = 65 + v := (Er 1 (by show 1 < 3; omega)).trans (by
    show (UInt8.ofNat (65 + v)).toNat = 65 + v
    exact Nat.mod_eq_of_lt (by omega))
  have hK : KDrop (s ++ drB v) s.size (s.size + 3) := ⟨(Er 0 (by show 0 < 3; omega)).trans rfl, by rw [hbt]; simp [greatN]; omega, (Er 2 (by show 2 < 3; omega)).trans rfl, rfl⟩
  unfold checkN
  rw [hrun, hsz, if_neg (by omega), if_neg (by simp)]
  by_cases hf : aftG (pgN s (s.size + 1) 0 s.size) noF v = true
  · rw [if_pos hf]
    have : misT (s ++ drB v) < 0 := by
      unfold misT
      rw [hsz]
      refine mis_none u1 ?_
      rw [u2]
      exact ok_seq _ _ _ ho (by
        rw [okG_act]
        exact ⟨fun k hk => by have hk' : some v = some k := hk; injection hk' with e; rw [← e]; exact hf, trivial⟩)
    rw [if_neg (by omega)]
  · rw [if_neg hf]
    have : misT (s ++ drB v) = (s.size : Int) + 1 := by
      unfold misT
      rw [hsz]
      exact mis_last hK (k := v) (by rw [hbt]; omega) p1 (by rw [p2]; exact ho) (by rw [p2]; exact Bool.eq_false_iff.2 hf) (by omega)
    rw [this, if_pos (by omega)]
/-- what Lower makes, without the last ends: Check lets it by, if it is not too long -/
theorem check_head {s : ByteArray} (hc : checkN s = (0, 0)) : checkN (lowT s (s.size + 1) 0 s.size noF) = if 400 < (lowT s (s.size + 1) 0 s.size noF).size then (1, 0) else (0, 0) := by
  obtain ⟨h4, hr, hp, hok, ho⟩ := check_tree hc
  have cn : Clean noF := clean_none
  obtain ⟨p1, p2, p3⟩ := low_same _ hok cn ho
  have hg := ((text_low hp noF).good (T := lowT s (s.size + 1) 0 s.size noF) (i := 0) (Emb.self _)).2 ((lowT s (s.size + 1) 0 s.size noF).size + 1) (by omega)
  rw [Nat.zero_add, seq_nil] at hg
  generalize lowT s (s.size + 1) 0 s.size noF = t at *
  have hrun : run t [(83, true)] 0 0 = (0, 0) := right_of hg.1 (by rw [hg.2, dep_low]; exact right_dep hr)
  have hm : misT t < 0 := mis_none hg.1 (by rw [hg.2]; exact p2)
  unfold checkN
  rw [hrun]
  split
  · rfl
  · rw [if_neg (by simp), if_neg (by omega)]
end Go.Proofs.YthcjcjfgdgnljabDoor

namespace Go.Proofs.YthcjcjfgdgnljabDoor
set_option linter.unusedVariables false

/-- the next byte of both is the same -/
def kpC (s t : ByteArray) (i j : Nat) : Prop := i < s.size ∧ bt s i = bt t j ∧ (bt t j ≠ 126 ∨ (1 < s.size - i ∧ j + 1 < t.size ∧ bt s (i + 1) = bt t (j + 1)))
/-- all of s from i on is in t from j on, with nothing but ends of blocks between -/
inductive Kp (s t : ByteArray) : Nat → Nat → Prop where
  | fin {j : Nat} (h : ¬ j < t.size) : Kp s t s.size j
  | eq {i j : Nat} (h : j < t.size) (hc : kpC s t i j) (hr : Kp s t (i + 1) (j + 1)) : Kp s t i j
  | dr {i j : Nat} (h : j + 2 < t.size) (hc : ¬ kpC s t i j) (h0 : bt t j = 126) (h1 : greatN (bt t (j + 1)) = true) (h2 : bt t (j + 2) = 59) (hr : Kp s t i (j + 3)) : Kp s t i j
theorem kp_copy {s t : ByteArray} : ∀ {n i j : Nat}, Cp s i t j n → (∀ k, k < n → bt s (i + k) = 126 → k + 1 < n) → i + n ≤ s.size → j + n ≤ t.size → Kp s t (i + n) (j + n) → Kp s t i j
  | 0, i, j, h, h1, h2, h3, hr => hr
  | n + 1, i, j, h, h1, h2, h3, hr => by
    have e0 : bt t j = bt s i := h 0 (by omega)
    refine .eq (by omega) ⟨by omega, e0.symm, ?_⟩ (kp_copy (n := n) (fun k hk => ?_) (fun k hk e => ?_) (by omega) (by omega) ?_)
    · by_cases q : bt t j = 126
      · have := h1 0 (by omega) (by rw [Nat.add_zero, ← e0]; exact q)
        exact .inr ⟨by omega, by omega, (h 1 (by omega)).symm⟩
      · exact .inl q
    · have := h (k + 1) (by omega)
      rw [show j + 1 + k = j + (k + 1) by omega, show i + 1 + k = i + (k + 1) by omega]
      exact this
    · have := h1 (k + 1) (by omega) (by rw [show i + (k + 1) = i + 1 + k by omega]; exact e)
      omega
    · rw [show i + 1 + n = i + (n + 1) by omega, show j + 1 + n = j + (n + 1) by omega]
      exact hr
theorem kp_ext {s t : ByteArray} {i m j : Nat} (him : i ≤ m) (hm : m ≤ s.size) (hE : Emb t j (s.extract i m)) (hj : j + (m - i) ≤ t.size) (h1 : ∀ k, i ≤ k → k < m → bt s k = 126 → k + 1 < m) (hr : Kp s t m (j + (m - i))) : Kp s t i j := by
  refine kp_copy (n := m - i) (hE.cp him hm) (fun k hk e => ?_) (by omega) hj ?_
  · have := h1 (i + k) (by omega) (by omega) e
    omega
  · rw [show i + (m - i) = m by omega]; exact hr
theorem kp_drops {s t : ByteArray} {i : Nat} (hi : bt s i ≠ 126) : ∀ {l : List Nat} {j : Nat}, (∀ k, k ∈ l → k < 26) → Emb t j (drsB l) → j + (drsB l).size ≤ t.size → Kp s t i (j + (drsB l).size) → Kp s t i j
  | [], j, h1, hE, hj, hr => hr
  | k :: l, j, h1, hE, hj, hr => by
    have hs : (drsB (k :: l)).size = 3 + (drsB l).size := by
      show (drB k ++ drsB l).size = _
      rw [ByteArray.size_append]
      rfl
    have hk := h1 k List.mem_cons_self
    have hE1 : Emb t j (drB k) := Emb.left hE
    have hE2 : Emb t (j + 3) (drsB l) := Emb.right (x := drB k) hE
    rw [hs] at hj hr
    have b1 : bt (drB k) 1 = 65 + k := by
      show (UInt8.ofNat (65 + k)).toNat = 65 + k
      exact Nat.mod_eq_of_lt (by omega)
    have e0 : bt t j = 126 := (hE1 0 (by show 0 < 3; omega)).trans rfl
    have e1 : bt t (j + 1) = 65 + k := (hE1 1 (by show 1 < 3; omega)).trans b1
    have e2 : bt t (j + 2) = 59 := (hE1 2 (by show 2 < 3; omega)).trans rfl
    refine .dr (by omega) (fun q => hi (by rw [q.2.1, e0])) e0 (by rw [e1]; simp [greatN]; omega) e2 (kp_drops hi (fun x hx => h1 x (List.mem_cons_of_mem _ hx)) hE2 (by omega) ?_)
    rw [show j + 3 + (drsB l).size = j + (3 + (drsB l).size) by omega]
    exact hr
theorem kp_low {s t : ByteArray} : ∀ {F i m : Nat}, Prog s F i m → ∀ {f : Nat → Bool} {j : Nat}, Emb t j (lowT s F i m f) → j + (lowT s F i m f).size ≤ t.size → Kp s t m (j + (lowT s F i m f).size) → Kp s t i j
  | 0, i, m, hp, f, j, hE, hj, hr => by
    have e : i = m := hp
    subst e
    exact hr
  | F + 1, i, m, hp, f, j, hE, hj, hr => by
    have ih := fun {i m : Nat} (q : Prog s F i m) {f : Nat → Bool} {j : Nat} => kp_low (t := t) q (f := f) (j := j)
    rcases hp with hp | ⟨m1, hst, hr1⟩
    · subst hp
      rw [lowT, if_neg (Nat.lt_irrefl _)] at hr
      exact hr
    · have hmj := hr1.le
      have hlt := hst.lt
      have hij : i < m := by omega
      have hbeh := beh_of hst
      rw [lowT, if_pos hij, hbeh] at hE hj hr
      generalize afterF (alongF s F) s i f = g at hE hj hr
      have ER := hE.right
      have EL := hE.left
      rw [ByteArray.size_append] at hj hr
      have tail := ih hr1 ER (by omega) (by rw [Nat.add_assoc]; exact hr)
      rcases hst with hS | ⟨e, a, b, c, ho, ha, hp, hb, hb1, hq, hc, rfl⟩ | ⟨e, a, b, ho, ha, hp, hb, rfl⟩
      · have hf := hS.first
        have hl := hS.line
        rw [if_neg hf.1, if_neg hf.2] at EL tail hj
        have s1 := size_ext (s := s) (Nat.le_of_lt hl.1) hl.2.1
        have til : ∀ k, i ≤ k → k < m1 → bt s k = 126 → k + 1 < m1 := fun k k1 k2 q => by
          by_cases e : k = m1 - 1
          · rw [e, hl.2.2.1] at q; cases q
          · omega
        cases hb : ownT s i f
        · rw [hb, if_neg (by simp), nil_app] at EL tail hj
          rw [s1] at tail hj
          exact kp_ext (Nat.le_of_lt hl.1) hl.2.1 EL (by omega) til tail
        · have hg : greatN (bt s i) = true := by
            unfold ownT at hb
            simp only [Bool.and_eq_true] at hb
            exact hb.1.1.1
          rw [hb, if_pos rfl] at EL tail hj
          rw [ByteArray.size_append, s1] at tail hj
          have E1 : Emb t j (drsB [bt s i - 65]) := by
            show Emb t j (drB (bt s i - 65) ++ ⟨#[]⟩)
            have := EL.left
            intro k hk
            have hk' : k < (drB (bt s i - 65) ++ (⟨#[]⟩ : ByteArray)).size := hk
            rw [ByteArray.size_append] at hk'
            have hk2 : k < (drB (bt s i - 65)).size := hk'
            rw [bt_app, if_pos hk2]
            exact this k hk2
          have e3 : (drsB [bt s i - 65]).size = 3 := rfl
          have e3' : (drB (bt s i - 65)).size = 3 := rfl
          have E2 := EL.right
          rw [e3'] at E2 tail hj
          refine kp_drops (l := [bt s i - 65]) (fun q => by rw [q] at hg; simp [greatN] at hg) (fun k hk => by rw [List.mem_singleton] at hk; rw [hk]; simp [greatN] at hg; omega) E1 (by rw [e3]; omega) ?_
          rw [e3]
          refine kp_ext (Nat.le_of_lt hl.1) hl.2.1 E2 (by omega) til ?_
          rw [Nat.add_assoc]
          exact tail
      · have hI := ifAt_of e ho ha hp hb hb1 hq hc
        have l1 := hp.le
        have l2 := hq.le
        have l3 := ho.lt
        have hcs := byte_in hc (by decide)
        have s1 := size_ext (s := s) (a := i) (b := a + 1) (by omega) (by omega)
        have s2 := size_ext (s := s) (a := b) (b := b + 2) (by omega) (by omega)
        have s3 := size_ext (s := s) (a := c) (b := c + 1) (by omega) (by omega)
        rw [if_pos e, hI.p1, hI.p2, hI.p3, show b + 1 - 1 = b by omega, show b + 1 + 1 = b + 2 by omega, show c + 1 - 1 = c by omega] at EL tail hj
        have E7 := EL.right
        have E6 := EL.left.right
        have E5 := EL.left.left.right
        have E4 := EL.left.left.left.right
        have E3 := EL.left.left.left.left.right
        have E2 := EL.left.left.left.left.left.right
        have E1 := EL.left.left.left.left.left.left
        simp only [ByteArray.size_append] at tail hj E2 E3 E4 E5 E6 E7
        have c7 : Kp s t c _ := kp_ext (by omega) (by omega) E7 (by omega) (fun k k1 k2 q => by rw [show k = c by omega, hc] at q; cases q) (by rw [s3] at tail; rw [Nat.add_assoc]; exact tail)
        have c6 : Kp s t c _ := kp_drops (by rw [hc]; decide) min_lt E6 (by omega) (by rw [Nat.add_assoc]; exact c7)
        have c5 : Kp s t (b + 2) _ := ih hq E5 (by omega) (by rw [Nat.add_assoc]; exact c6)
        have c4 : Kp s t b _ := kp_ext (by omega) (by omega) E4 (by omega) (fun k k1 k2 q => by
          rcases (show k = b ∨ k = b + 1 by omega) with rfl | rfl
          · rw [hb] at q; cases q
          · rw [hb1] at q; cases q) (by rw [s2] at c5; rw [Nat.add_assoc]; exact c5)
        have c3 : Kp s t b _ := kp_drops (by rw [hb]; decide) min_lt E3 (by omega) (by rw [Nat.add_assoc]; exact c4)
        have c2 : Kp s t (a + 1) _ := ih hp E2 (by omega) (by rw [Nat.add_assoc]; exact c3)
        exact kp_ext (by omega) (by omega) E1 (by omega) (fun k k1 k2 q => by
          by_cases e : k = a
          · rw [e, ha] at q; cases q
          · omega) (by rw [s1] at c2; exact c2)
      · have hL := loopAt_of e ho ha hp hb
        have l1 := hp.le
        have l3 := ho.lt
        have hbs := byte_in hb (by decide)
        have s1 := size_ext (s := s) (a := i) (b := a + 1) (by omega) (by omega)
        have s3 := size_ext (s := s) (a := b) (b := b + 1) (by omega) (by omega)
        rw [if_neg (by rw [e]; decide), if_pos e, hL.p1, hL.p2, show b + 1 - 1 = b by omega] at EL tail hj
        have E5 := EL.right
        have E4 := EL.left.right
        have E3 := EL.left.left.right
        have E2 := EL.left.left.left.right
        have E1 := EL.left.left.left.left
        simp only [ByteArray.size_append] at tail hj E2 E3 E4 E5
        have c5 : Kp s t b _ := kp_ext (by omega) (by omega) E5 (by omega) (fun k k1 k2 q => by rw [show k = b by omega, hb] at q; cases q) (by rw [s3] at tail; rw [Nat.add_assoc]; exact tail)
        have c4 : Kp s t b _ := kp_drops (by rw [hb]; decide) min_lt E4 (by omega) (by rw [Nat.add_assoc]; exact c5)
        have c3 : Kp s t (a + 1) _ := ih hp E3 (by omega) (by rw [Nat.add_assoc]; exact c4)
        have c2 : Kp s t i _ := kp_ext (by omega) (by omega) E2 (by omega) (fun k k1 k2 q => by
          by_cases e : k = a
          · rw [e, ha] at q; cases q
          · omega) (by rw [s1] at c3; rw [Nat.add_assoc]; exact c3)
        exact kp_drops (by rw [e]; decide) min_lt E1 (by omega) c2
/-- the whole of it -/
theorem kp_top {s : ByteArray} (hp : Prog s (s.size + 1) 0 s.size) : Kp s (lowTT s) 0 0 := by
  have E := Emb.self (lowTT s)
  have hs : (lowTT s).size = (lowT s (s.size + 1) 0 s.size noF).size + (drsB (minL (alongF s (s.size + 1) 0 s.size noF) noF)).size := ByteArray.size_append
  have EL : Emb (lowTT s) 0 (lowT s (s.size + 1) 0 s.size noF) := Emb.left (y := drsB (minL (alongF s (s.size + 1) 0 s.size noF) noF)) E
  have ER : Emb (lowTT s) (0 + (lowT s (s.size + 1) 0 s.size noF).size) (drsB (minL (alongF s (s.size + 1) 0 s.size noF) noF)) := Emb.right E
  refine kp_low hp EL (by omega) (kp_drops (by rw [bt_out (Nat.lt_irrefl _)]; decide) min_lt ER (by omega) (.fin (by omega)))
end Go.Proofs.YthcjcjfgdgnljabDoor
