/-
  TxtA, LowA, LowB: one behind the other.
-/
import Derived.Test.YthcjcjfgdgnljaaDoorGMacB
import Derived.Test.YthcjcjfgdgnljaaDoorGMacD
namespace Go.Proofs.YthcjcjfgdgnljaaDoor
set_option linter.unusedVariables false

/-- how deep the braces go -/
def dep : Pg → Nat
  | .nil => 0
  | .act _ r => dep r
  | .ite _ p q r => max (max (dep p + 1) (dep q + 1)) (dep r)
  | .loop _ p r => max (dep p + 1) (dep r)
section
variable {s : ByteArray} {d : Int} (t : List (Nat × Bool))
theorem opnd_fwd {i j : Nat} (h : Opnd s i j) (hj : j ≤ s.size) (hd : digitN (bt s j) = false) : run s ((111, true) :: t) i d = run s t j d := by
  rcases h with ⟨h1, rfl⟩ | ⟨h1, h2, h3⟩
  · exact R_o_small t h1
  · have e0 := h3 i (Nat.le_refl _) h1
    rw [R_o_digit t e0]
    by_cases e1 : j = i + 1
    · subst e1; exact R_d_no t hj hd
    · rw [R_d_digit t (h3 (i + 1) (by omega) (by omega))]
      by_cases e2 : j = i + 2
      · subst e2; exact R_e_no t hj hd
      · rw [R_e_digit t (h3 (i + 1 + 1) (by omega) (by omega)), show i + 1 + 1 + 1 = j by omega]
theorem simple_fwd {i m : Nat} (h : Simple s i m) : run s ((83, true) :: t) i d = run s ((83, true) :: t) m d := by
  have tk : ∀ {k x : Nat} {t : List (Nat × Bool)}, bt s k = x → x ≠ 0 → x ≠ 123 → x ≠ 125 → run s ((x, false) :: t) k d = run s t (k + 1) d := fun {k x t} h0 h1 h2 h3 => run_take t h1 h2 h3 h0
  have lt : ∀ {k x : Nat}, bt s k = x → x ≠ 0 → k < s.size := fun {k x} h0 h1 => byte_in h0 h1
  rcases h with q | q | q | q | q | q | q | q | q
  · obtain ⟨h1, h2, h3, h4, h5, rfl⟩ := q
    rw [R_S_small t h1, tk h2 (by decide) (by decide) (by decide), R_g_hash _ h3, R_V_great _ h4, tk h5 (by decide) (by decide) (by decide)]
  · obtain ⟨h1, h2, h3, h4, k, h5, h6, h7, rfl⟩ := q
    rw [R_S_small t h1, tk h2 (by decide) (by decide) (by decide), R_g_great _ h3, tk h4 (by decide) (by decide) (by decide), opnd_fwd _ h5 (Nat.le_of_lt (lt h6 (by decide))) (by rw [h6]; rfl), tk h6 (by decide) (by decide) (by decide), tk h7 (by decide) (by decide) (by decide)]
  · obtain ⟨h1, h2, k, h5, h6, rfl⟩ := q
    obtain ⟨g1, g2, g3⟩ := h5.head
    have hk := lt h6 (by decide)
    rw [R_S_small t h1, tk h2 (by decide) (by decide) (by decide), R_g_else _ (Nat.le_of_lt g3) g1 g2, opnd_fwd _ h5 (Nat.le_of_lt hk) (by rw [h6]; rfl), R_t_no _ (Nat.le_of_lt hk) (by rw [h6]; unfold isOp; decide), tk h6 (by decide) (by decide) (by decide)]
  · obtain ⟨h1, h2, k, l, h5, h6, h7, h8, rfl⟩ := q
    obtain ⟨g1, g2, g3⟩ := h5.head
    have hk : k < s.size := byte_in rfl (by unfold isOp at h6; omega)
    have hdk : digitN (bt s k) = false := by
      unfold isOp at h6
      rcases h6 with q | q | q | q | q <;> rw [q] <;> rfl
    rw [R_S_small t h1, tk h2 (by decide) (by decide) (by decide), R_g_else _ (Nat.le_of_lt g3) g1 g2, opnd_fwd _ h5 (Nat.le_of_lt hk) hdk, R_t_op _ h6, opnd_fwd _ h7 (Nat.le_of_lt (lt h8 (by decide))) (by rw [h8]; rfl), tk h8 (by decide) (by decide) (by decide)]
  · obtain ⟨h1, h2, k, l, h5, h6, h7, h8, h9, rfl⟩ := q
    rw [R_S_great t h1, R_p_br _ h2, opnd_fwd _ h5 (Nat.le_of_lt (lt h6 (by decide))) (by rw [h6]; rfl), tk h6 (by decide) (by decide) (by decide), tk h7 (by decide) (by decide) (by decide), opnd_fwd _ h8 (Nat.le_of_lt (lt h9 (by decide))) (by rw [h9]; rfl), tk h9 (by decide) (by decide) (by decide)]
  · obtain ⟨h1, h2, h3, k, h5, h6, h7, rfl⟩ := q
    rw [R_S_great t h1, R_p_else _ (Nat.le_of_lt (lt h2 (by decide))) (by rw [h2]; decide), tk h2 (by decide) (by decide) (by decide), R_G_br _ h3, opnd_fwd _ h5 (Nat.le_of_lt (lt h6 (by decide))) (by rw [h6]; rfl), tk h6 (by decide) (by decide) (by decide), tk h7 (by decide) (by decide) (by decide)]
  · obtain ⟨h1, h2, h3, h4, rfl⟩ := q
    have hg := great_in h3
    rw [R_S_great t h1, R_p_else _ (Nat.le_of_lt (lt h2 (by decide))) (by rw [h2]; decide), tk h2 (by decide) (by decide) (by decide), R_G_else _ (Nat.le_of_lt hg.1) (fun e => by have e' : bt s (i + 2) = 91 := e; rw [e'] at h3; simp [greatN] at h3), R_V_great _ h3, tk h4 (by decide) (by decide) (by decide)]
  · obtain ⟨h1, k, h5, h6, rfl⟩ := q
    rw [R_S_print t h1, opnd_fwd _ h5 (Nat.le_of_lt (lt h6 (by decide))) (by rw [h6]; rfl), tk h6 (by decide) (by decide) (by decide)]
  · obtain ⟨h1, h2, h3, rfl⟩ := q
    rw [R_S_drop t h1, R_V_great _ h2, tk h3 (by decide) (by decide) (by decide)]
theorem open_fwd {i : Nat} (h : bt s i = 123) : run s ((123, false) :: t) i d = if 8 < d + 1 then (3, i) else run s t (i + 1) (d + 1) := by
  rw [run_hit _ (byte_in h (by decide)) h, if_pos rfl]
theorem close_fwd {i : Nat} (h : bt s i = 125) : run s ((125, false) :: t) i d = run s t (i + 1) (d - 1) := by
  rw [run_hit _ (byte_in h (by decide)) h, if_neg (by decide), if_pos rfl]
end
theorem brace_none {s : ByteArray} {i : Nat} (h : bt s i = 125) : noStmt (bt s i) := by
  rw [h]
  exact ⟨rfl, rfl, by decide, by decide, by decide, by decide⟩
/-- along the sentences of a program: they are read, or the braces go too deep -/
theorem run_fwd {s : ByteArray} : ∀ {F i j : Nat}, Prog s F i j → ∀ (d : Int) (t : List (Nat × Bool)), (d + dep (pgN s F i j) ≤ 8 → run s ((83, true) :: t) i d = run s ((83, true) :: t) j d) ∧ (8 < d + dep (pgN s F i j) → 0 < dep (pgN s F i j) → (run s ((83, true) :: t) i d).1 = 3)
  | 0, i, j, hp, d, t => by
    have e : i = j := hp
    subst e
    exact ⟨fun _ => rfl, fun _ q => absurd q (by rw [pgN]; exact Nat.lt_irrefl 0)⟩
  | F + 1, i, j, hp, d, t => by
    rcases hp with hp | ⟨m, hst, hr⟩
    · subst hp
      rw [pgN_end]
      exact ⟨fun _ => rfl, fun _ q => absurd q (Nat.lt_irrefl 0)⟩
    · have hmj := hr.le
      have hlt := hst.lt
      have hij : i < j := by omega
      obtain ⟨r1, r2⟩ := run_fwd hr d t
      rcases hst with hS | ⟨e, a, b, c, ho, ha, hp, hb, hb1, hq, hc, rfl⟩ | ⟨e, a, b, ho, ha, hp, hb, rfl⟩
      · rw [pgN_simple hS hij, dep, simple_fwd t hS]
        exact ⟨r1, r2⟩
      · have hI := ifAt_of e ho ha hp hb hb1 hq hc
        rw [pgN_if hI hij, dep, R_S_if t e, opnd_fwd _ ho (Nat.le_of_lt (byte_in ha (by decide))) (by rw [ha]; rfl), open_fwd _ ha]
        generalize dep (pgN s F (c + 1) j) = dr at *
        obtain ⟨p1, p2⟩ := run_fwd hp (d + 1) ((125, false) :: (123, false) :: (83, true) :: (125, false) :: (83, true) :: t)
        obtain ⟨q1, q2⟩ := run_fwd hq (d + 1) ((125, false) :: (83, true) :: t)
        generalize dep (pgN s F (a + 1) b) = dp at *
        generalize dep (pgN s F (b + 2) c) = dq at *
        have hbl : b ≤ s.size := Nat.le_of_lt (byte_in hb (by decide))
        have hcl : c ≤ s.size := Nat.le_of_lt (byte_in hc (by decide))
        by_cases h8 : 8 < d + 1
        · rw [if_pos h8]
          exact ⟨fun q => absurd q (by omega), fun _ _ => rfl⟩
        · rw [if_neg h8]
          by_cases hdp : d + 1 + dp ≤ 8
          · rw [p1 hdp, R_S_none _ hbl (brace_none hb), close_fwd _ hb, open_fwd _ hb1, if_neg (by omega), show b + 1 + 1 = b + 2 by omega, show d + 1 - 1 + 1 = d + 1 by omega]
            by_cases hdq : d + 1 + dq ≤ 8
            · rw [q1 hdq, R_S_none _ hcl (brace_none hc), close_fwd _ hc, show d + 1 - 1 = d by omega]
              exact ⟨fun q => r1 (by omega), fun h1 h2 => r2 (by omega) (by omega)⟩
            · exact ⟨fun q => absurd q (by omega), fun _ _ => q2 (by omega) (by omega)⟩
          · exact ⟨fun q => absurd q (by omega), fun _ _ => p2 (by omega) (by omega)⟩
      · have hL := loopAt_of e ho ha hp hb
        rw [pgN_loop hL hij, dep, R_S_loop t e, opnd_fwd _ ho (Nat.le_of_lt (byte_in ha (by decide))) (by rw [ha]; rfl), open_fwd _ ha]
        generalize dep (pgN s F (b + 1) j) = dr at *
        obtain ⟨p1, p2⟩ := run_fwd hp (d + 1) ((125, false) :: (83, true) :: t)
        generalize dep (pgN s F (a + 1) b) = dp at *
        have hbl : b ≤ s.size := Nat.le_of_lt (byte_in hb (by decide))
        by_cases h8 : 8 < d + 1
        · rw [if_pos h8]
          exact ⟨fun q => absurd q (by omega), fun _ _ => rfl⟩
        · rw [if_neg h8]
          by_cases hdp : d + 1 + dp ≤ 8
          · rw [p1 hdp, R_S_none _ hbl (brace_none hb), close_fwd _ hb, show d + 1 - 1 = d by omega]
            exact ⟨fun q => r1 (by omega), fun h1 h2 => r2 (by omega) (by omega)⟩
          · exact ⟨fun q => absurd q (by omega), fun _ _ => p2 (by omega) (by omega)⟩
/-- the end -/
theorem run_last (s : ByteArray) : run s [(83, true)] s.size 0 = (0, 0) := by
  rw [R_S_none [] (Nat.le_refl _) (by rw [bt_out (Nat.lt_irrefl _)]; exact ⟨rfl, rfl, by decide, by decide, by decide, by decide⟩), run_nil (Nat.le_refl _)]
  simp
/-- a right text is a program whose braces go no deeper than eight; and such a program is a right text -/
theorem right_dep {s : ByteArray} (h : run s [(83, true)] 0 0 = (0, 0)) : dep (pgN s (s.size + 1) 0 s.size) ≤ 8 := by
  have hp := prog_of_ok h
  obtain ⟨_, h2⟩ := run_fwd hp 0 []
  by_cases q : dep (pgN s (s.size + 1) 0 s.size) ≤ 8
  · exact q
  · have := h2 (by omega) (by omega)
    rw [h] at this
    cases this
theorem right_of {s : ByteArray} {F : Nat} (hp : Prog s F 0 s.size) (hd : dep (pgN s F 0 s.size) ≤ 8) : run s [(83, true)] 0 0 = (0, 0) := by
  rw [(run_fwd hp 0 []).1 (by omega)]
  exact run_last s
end Go.Proofs.YthcjcjfgdgnljaaDoor

namespace Go.Proofs.YthcjcjfgdgnljaaDoor
set_option linter.unusedVariables false

/-- one behind the other -/
def seqP : Pg → Pg → Pg
  | .nil, Q => Q
  | .act a r, Q => .act a (seqP r Q)
  | .ite o p q r, Q => .ite o p q (seqP r Q)
  | .loop o p r, Q => .loop o p (seqP r Q)
/-- blocks end, and Q -/
def drP : List Nat → Pg → Pg
  | [], Q => Q
  | k :: l, Q => .act (.drop k) (drP l Q)
/-- the boxes of f that are not of g -/
def minL (f g : Nat → Bool) : List Nat := (List.range 26).filter (fun k => f k && !g k)
theorem mem_minL {f g : Nat → Bool} {k : Nat} : k ∈ minL f g ↔ k < 26 ∧ f k = true ∧ g k = false := by
  unfold minL
  simp [List.mem_filter]
theorem minL_nodup (f g : Nat → Bool) : (minL f g).Nodup := List.nodup_range.filter _
theorem minL_self (f : Nat → Bool) : minL f f = [] := by
  unfold minL
  rw [List.filter_eq_nil_iff]
  intro k _
  cases f k <;> simp
/-- the box whose block would be lost -/
def ownA : Ac → (Nat → Bool) → Option Nat
  | .make b _, f => if f b = true then some b else none
  | .move b d, f => if b ≠ d ∧ f b = true then some b else none
  | _, _ => none
/-- a sentence, and ahead of it the end of the block that it would lose -/
def ownP (a : Ac) (f : Nat → Bool) (r : Pg) : Pg := match ownA a f with
  | none => .act a r
  | some b => .act (.drop b) (.act a r)
/-- what is put in, f being full ahead -/
def lowG : Pg → (Nat → Bool) → Pg
  | .nil, _ => .nil
  | .act a r, f => ownP a f (lowG r (aftA a f))
  | .ite o p q r, f => .ite o (seqP (lowG p f) (drP (minL (aftG p f) (bothF (aftG p f) (aftG q f))) .nil)) (seqP (lowG q f) (drP (minL (aftG q f) (bothF (aftG p f) (aftG q f))) .nil)) (lowG r (bothF (aftG p f) (aftG q f)))
  | .loop o p r, f => drP (minL f (iterF (aftG p) 27 f)) (.loop o (seqP (lowG p (iterF (aftG p) 27 f)) (drP (minL (aftG p (iterF (aftG p) 27 f)) (iterF (aftG p) 27 f)) .nil)) (lowG r (iterF (aftG p) 27 f)))
def noF : Nat → Bool := fun _ => false
/-- and at the end all blocks end -/
def lowP (P : Pg) : Pg := seqP (lowG P noF) (drP (minL (aftG P noF) noF) .nil)

theorem Ex.seq {c : Cf} {P : Pg} {σ σ1 : St} {b : Bool} (h : Ex c P σ σ1 b) : ∀ {Q : Pg}, (b = true → ∀ {σ2 : St} {b2 : Bool}, Ex c Q σ1 σ2 b2 → Ex c (seqP P Q) σ σ2 b2) ∧ (b = false → Ex c (seqP P Q) σ σ1 false) := by
  induction h with
  | nil σ => exact fun {Q} => ⟨fun _ _ _ h => h, fun q => by cases q⟩
  | stop h => exact fun {Q} => ⟨fun q => (by cases q), fun _ => .stop h⟩
  | go h hr ih => exact fun {Q} => ⟨fun q _ _ h2 => .go h (ih.1 q h2), fun q => .go h (ih.2 q)⟩
  | iteTired h => exact fun {Q} => ⟨fun q => (by cases q), fun _ => .iteTired h⟩
  | iteStop h hp ih => exact fun {Q} => ⟨fun q => (by cases q), fun _ => .iteStop h hp⟩
  | iteGo h hp hr ih1 ih2 => exact fun {Q} => ⟨fun q _ _ h2 => .iteGo h hp (ih2.1 q h2), fun q => .iteGo h hp (ih2.2 q)⟩
  | loopTired h => exact fun {Q} => ⟨fun q => (by cases q), fun _ => .loopTired h⟩
  | loopEnd h h0 hr ih => exact fun {Q} => ⟨fun q _ _ h2 => .loopEnd h h0 (ih.1 q h2), fun q => .loopEnd h h0 (ih.2 q)⟩
  | loopStop h h0 hp ih => exact fun {Q} => ⟨fun q => (by cases q), fun _ => .loopStop h h0 hp⟩
  | loopGo h h0 hp hr ih1 ih2 => exact fun {Q} => ⟨fun q _ _ h2 => .loopGo h h0 hp (ih2.1 q h2), fun q => .loopGo h h0 hp (ih2.2 q)⟩
/-- blocks have ended -/
def clr : List Nat → St → St
  | [], τ => τ
  | k :: l, τ => clr l { τ with bx := upB τ.bx k [] }
theorem clr_bx : ∀ (l : List Nat) (τ : St) (j : Nat), (clr l τ).bx j = if j ∈ l then [] else τ.bx j
  | [], τ, j => by simp [clr]
  | k :: l, τ, j => by
    rw [clr, clr_bx l]
    show (if j ∈ l then [] else upB τ.bx k [] j) = _
    by_cases e : j = k
    · subst e; rw [upB_at]; simp
    · rw [upB_ne _ _ e]
      simp [e]
theorem clr_like : ∀ (l : List Nat) (τ : St), (clr l τ).num = τ.num ∧ (clr l τ).at_ = τ.at_ ∧ (clr l τ).left = τ.left ∧ (clr l τ).status = τ.status ∧ (clr l τ).tr = τ.tr ∧ (clr l τ).peak = τ.peak
  | [], τ => ⟨rfl, rfl, rfl, rfl, rfl, rfl⟩
  | k :: l, τ => clr_like l { τ with bx := upB τ.bx k [] }
theorem Ex.drop {c : Cf} : ∀ {l : List Nat} {τ τ' : St} {b : Bool} {Q : Pg}, (∀ k, k ∈ l → τ.bx k ≠ []) → l.Nodup → Ex c Q (clr l τ) τ' b → Ex c (drP l Q) τ τ' b
  | [], τ, τ', b, Q, h1, h2, h => h
  | k :: l, τ, τ', b, Q, h1, h2, h => by
    have hk := h1 k List.mem_cons_self
    rw [List.nodup_cons] at h2
    refine .go (σ1 := { τ with bx := upB τ.bx k [] }) ?_ (Ex.drop (fun j hj => ?_) h2.2 h)
    · show act c (.drop k) τ = _
      simp only [act]
      rw [if_neg hk]
    · show upB τ.bx k [] j ≠ []
      rw [upB_ne _ _ (fun e => h2.1 (by rw [← e]; exact hj))]
      exact h1 j (List.mem_cons_of_mem _ hj)

/-- the run as it is written, and the run on a heap: just the boxes of f have a block there -/
structure LS (f : Nat → Bool) (σ τ : St) : Prop where
  num : τ.num = σ.num
  left : τ.left = σ.left
  status : τ.status = σ.status
  tr : τ.tr = σ.tr
  on : ∀ k, f k = true → τ.bx k = σ.bx k ∧ σ.bx k ≠ []
  off : ∀ k, f k = false → τ.bx k = []
theorem LS.less {f g : Nat → Bool} {σ τ : St} (h : LS f σ τ) (hc : Clean f) (hs : Sub g f) : LS g σ (clr (minL f g) τ) := by
  obtain ⟨c1, c2, c3, c4, c5, c6⟩ := clr_like (minL f g) τ
  refine ⟨c1.trans h.num, c3.trans h.left, c4.trans h.status, c5.trans h.tr, fun k hk => ?_, fun k hk => ?_⟩
  · rw [clr_bx, if_neg (fun q => by rw [mem_minL] at q; rw [hk] at q; cases q.2.2)]
    exact h.on k (hs k hk)
  · rw [clr_bx]
    by_cases q : f k = true
    · have h26 : k < 26 := Nat.lt_of_not_le (fun q2 => by rw [hc k q2] at q; cases q)
      rw [if_pos (mem_minL.2 ⟨h26, q, hk⟩)]
    · split
      · rfl
      · exact h.off k (by simpa using q)
theorem LS.full {f g : Nat → Bool} {σ τ : St} (h : LS f σ τ) : ∀ k, k ∈ minL f g → τ.bx k ≠ [] := fun k hk => by
  rw [mem_minL] at hk
  rw [(h.on k hk.2.1).1]
  exact (h.on k hk.2.1).2
theorem LS.due {f : Nat → Bool} {σ τ : St} (h : LS f σ τ) : LS f (due σ) (due τ) := ⟨h.num, by show τ.left - 1 = σ.left - 1; rw [h.left], h.status, h.tr, h.on, h.off⟩
theorem LS.like {f : Nat → Bool} {σ τ σ' τ' : St} (h : LS f σ τ) (h1 : τ'.num = σ'.num) (h2 : τ'.left = σ'.left) (h3 : τ'.status = σ'.status) (h4 : τ'.tr = σ'.tr) (h5 : σ'.bx = σ.bx) (h6 : τ'.bx = τ.bx) : LS f σ' τ' :=
  ⟨h1, h2, h3, h4, by rw [h5, h6]; exact h.on, by rw [h6]; exact h.off⟩

/-- how the run on a heap goes, where the other ends at σ': as that, or there is no room -/
def Low (c : Cf) (Q : Pg) (g : Nat → Bool) (τ σ' : St) (b : Bool) : Prop :=
  (∃ τ', Ex c Q τ τ' b ∧ τ'.status = σ'.status ∧ τ'.tr = σ'.tr ∧ (b = true → LS g σ' τ')) ∨ (∃ τ', Ex c Q τ τ' false ∧ τ'.status = 3 ∧ τ'.tr <+: σ'.tr)
/-- the same of one sentence -/
def LowA (c : Cf) (a : Ac) (g : Nat → Bool) (τ σ : St) (x : St × Bool) : Prop :=
  (∃ τ', act c a τ = (τ', x.2) ∧ τ'.status = x.1.status ∧ τ'.tr = x.1.tr ∧ (x.2 = true → LS g x.1 τ')) ∨ (∃ τ', act c a τ = (τ', false) ∧ τ'.status = 3 ∧ τ'.tr = σ.tr)
/-- the sets behind a sentence, and the block that it would lose being gone -/
def goneF (a : Ac) (f : Nat → Bool) : Nat → Bool := match ownA a f with
  | none => f
  | some b => updB f b false
theorem act_low (c : Cf) {a : Ac} {f : Nat → Bool} {σ τ : St} (hu : ∀ b, useA a = some b → f b = true) (h : LS (goneF a f) σ τ) : LowA c a (aftA a f) τ σ (act cP a σ) := by
  have ends_ : ∀ k, ends τ k = ({ τ with status := k }, false) := fun k => rfl
  cases a with
  | set v o =>
    refine .inl ⟨{ τ with num := upN τ.num v (valO τ.num o) }, rfl, h.status, h.tr, fun _ => ?_⟩
    exact h.like (by show upN τ.num v (valO τ.num o) = upN σ.num v (valO σ.num o); rw [h.num]) h.left h.status h.tr rfl rfl
  | bin v o k p =>
    simp only [act]
    unfold LowA
    simp only [act]
    rw [h.num]
    cases binN k (valO σ.num o) (valO σ.num p) with
    | none => exact .inl ⟨_, rfl, rfl, h.tr, fun q => by cases q⟩
    | some y => exact .inl ⟨_, rfl, h.status, h.tr, fun _ => h.like rfl h.left h.status h.tr rfl rfl⟩
  | load v k o =>
    have hk := h.on k (hu k rfl)
    unfold LowA
    simp only [act]
    rw [h.num, hk.1, if_neg hk.2, if_neg hk.2]
    split
    · exact .inl ⟨_, rfl, rfl, h.tr, fun q => by cases q⟩
    · exact .inl ⟨_, rfl, h.status, h.tr, fun _ => h.like rfl h.left h.status h.tr rfl rfl⟩
  | size v k =>
    have hk := h.on k (hu k rfl)
    unfold LowA
    simp only [act]
    rw [h.num, hk.1, if_neg hk.2, if_neg hk.2]
    exact .inl ⟨_, rfl, h.status, h.tr, fun _ => h.like rfl h.left h.status h.tr rfl rfl⟩
  | store k o p =>
    have hk := h.on k (hu k rfl)
    unfold LowA
    simp only [act]
    rw [h.num, hk.1, if_neg hk.2, if_neg hk.2]
    split
    · exact .inl ⟨_, rfl, rfl, h.tr, fun q => by cases q⟩
    · refine .inl ⟨_, rfl, h.status, h.tr, fun _ => ⟨rfl, h.left, h.status, h.tr, fun j hj => ?_, fun j hj => ?_⟩⟩
      · show upB τ.bx k _ j = upB σ.bx k _ j ∧ upB σ.bx k _ j ≠ []
        by_cases e : j = k
        · subst e
          rw [upB_at, upB_at]
          refine ⟨rfl, fun q => hk.2 ?_⟩
          have := congrArg List.length q
          simp at this
          exact this
        · rw [upB_ne _ _ e, upB_ne _ _ e]; exact h.on j hj
      · show upB τ.bx k _ j = []
        have e : j ≠ k := fun e => by subst e; rw [show aftA (.store j o p) f j = f j from rfl, hu j rfl] at hj; cases hj
        rw [upB_ne _ _ e]; exact h.off j hj
  | drop k =>
    have hk := h.on k (hu k rfl)
    unfold LowA
    simp only [act]
    rw [hk.1, if_neg hk.2, if_neg hk.2]
    refine .inl ⟨_, rfl, h.status, h.tr, fun _ => ⟨h.num, h.left, h.status, h.tr, fun j hj => ?_, fun j hj => ?_⟩⟩
    · have hj' : updB f k false j = true := hj
      unfold updB at hj'
      split at hj'
      · cases hj'
      · rename_i e
        show upB τ.bx k [] j = upB σ.bx k [] j ∧ upB σ.bx k [] j ≠ []
        rw [upB_ne _ _ e, upB_ne _ _ e]; exact h.on j hj'
    · have hj' : updB f k false j = false := hj
      show upB τ.bx k [] j = []
      by_cases e : j = k
      · subst e; rw [upB_at]
      · unfold updB at hj'
        rw [if_neg e] at hj'
        rw [upB_ne _ _ e]; exact h.off j hj'
  | print o =>
    unfold LowA
    simp only [act]
    rw [h.num]
    exact .inl ⟨_, rfl, h.status, by show τ.tr ++ _ ++ _ = σ.tr ++ _ ++ _; rw [h.tr], fun _ => h.like rfl h.left h.status (by show τ.tr ++ _ ++ _ = σ.tr ++ _ ++ _; rw [h.tr]) rfl rfl⟩
  | make k o =>
    have hg : ∀ j, goneF (.make k o) f j = updB f k false j := fun j => by
      unfold goneF
      rw [show ownA (.make k o) f = (if f k = true then some k else none) from rfl]
      by_cases q : f k = true
      · rw [if_pos q]
      · rw [if_neg q]
        unfold updB
        split
        · rename_i e; rw [e]; simpa using q
        · rfl
    have hk : τ.bx k = [] := h.off k (by rw [hg]; unfold updB; rw [if_pos rfl])
    unfold LowA
    simp only [act, show cP.strict = false from rfl, Bool.false_eq_true, false_and, if_false]
    rw [show valO τ.num o = valO σ.num o by rw [h.num], if_neg (fun q => q.2 hk)]
    split
    · exact .inl ⟨_, rfl, rfl, h.tr, fun q => by cases q⟩
    · rename_i hv
      simp only [show ∀ (ρ : St) (m : Nat), cP.al ρ m = some 0 from fun _ _ => rfl]
      cases hal : c.al { τ with bx := upB τ.bx k [] } (valO σ.num o) with
      | none => exact .inr ⟨_, rfl, rfl, h.tr⟩
      | some y =>
        refine .inl ⟨_, rfl, h.status, h.tr, fun _ => ⟨h.num, h.left, h.status, h.tr, fun j hj => ?_, fun j hj => ?_⟩⟩
        · show upB τ.bx k _ j = upB σ.bx k _ j ∧ upB σ.bx k _ j ≠ []
          by_cases e : j = k
          · subst e
            rw [upB_at, upB_at]
            refine ⟨rfl, fun q => ?_⟩
            have := congrArg List.length q
            simp at this
            omega
          · have hj' : updB f k true j = true := hj
            unfold updB at hj'
            rw [if_neg e] at hj'
            rw [upB_ne _ _ e, upB_ne _ _ e]
            exact h.on j (by rw [hg]; unfold updB; rw [if_neg e]; exact hj')
        · have hj' : updB f k true j = false := hj
          unfold updB at hj'
          split at hj'
          · cases hj'
          · rename_i e
            show upB τ.bx k _ j = []
            rw [upB_ne _ _ e]
            exact h.off j (by rw [hg]; unfold updB; rw [if_neg e]; exact hj')
  | move k d =>
    have hfd : f d = true := hu d rfl
    by_cases e : k = d
    · subst e
      have hg : goneF (.move k k) f = f := by unfold goneF; rw [show ownA (.move k k) f = (if k ≠ k ∧ f k = true then some k else none) from rfl, if_neg (by simp)]
      rw [hg] at h
      have hk := h.on k hfd
      unfold LowA
      simp only [act]
      rw [hk.1, if_neg hk.2, if_neg hk.2, if_pos trivial, if_pos trivial]
      refine .inl ⟨_, rfl, h.status, h.tr, fun _ => ?_⟩
      show LS (if k = k then f else _) σ τ
      rw [if_pos rfl]
      exact h
    · have hg : ∀ j, goneF (.move k d) f j = updB f k false j := fun j => by
        unfold goneF
        rw [show ownA (.move k d) f = (if k ≠ d ∧ f k = true then some k else none) from rfl]
        by_cases q : f k = true
        · rw [if_pos ⟨e, q⟩]
        · rw [if_neg (fun q2 => q q2.2)]
          unfold updB
          split
          · rename_i e2; rw [e2]; simpa using q
          · rfl
      have hk : τ.bx k = [] := h.off k (by rw [hg]; unfold updB; rw [if_pos rfl])
      have hd := h.on d (by rw [hg]; unfold updB; rw [if_neg (fun q => e q.symm)]; exact hfd)
      unfold LowA
      simp only [act, show cP.strict = false from rfl, Bool.false_eq_true, false_and, if_false]
      rw [hd.1, if_neg hd.2, if_neg hd.2, if_neg e, if_neg e, if_neg (fun q => q.2 hk)]
      refine .inl ⟨_, rfl, h.status, h.tr, fun _ => ?_⟩
      have ha : aftA (.move k d) f = updB (updB f k (f d)) d false := by show (if k = d then f else _) = _; rw [if_neg e]
      rw [ha]
      refine ⟨h.num, h.left, h.status, h.tr, fun j hj => ?_, fun j hj => ?_⟩
      · show upB (upB τ.bx k (σ.bx d)) d [] j = upB (upB σ.bx k (σ.bx d)) d [] j ∧ upB (upB σ.bx k (σ.bx d)) d [] j ≠ []
        unfold updB at hj
        split at hj
        · cases hj
        · rename_i e1
          rw [upB_ne _ _ e1, upB_ne _ _ e1]
          by_cases e2 : j = k
          · subst e2; rw [upB_at, upB_at]; exact ⟨rfl, hd.2⟩
          · rw [if_neg e2] at hj
            rw [upB_ne _ _ e2, upB_ne _ _ e2]
            exact h.on j (by rw [hg]; unfold updB; rw [if_neg e2]; exact hj)
      · show upB (upB τ.bx k (σ.bx d)) d [] j = []
        by_cases e1 : j = d
        · subst e1; rw [upB_at]
        · rw [upB_ne _ _ e1]
          unfold updB at hj
          rw [if_neg e1] at hj
          by_cases e2 : j = k
          · rw [if_pos e2, hfd] at hj; cases hj
          · rw [if_neg e2] at hj
            rw [upB_ne _ _ e2]
            exact h.off j (by rw [hg]; unfold updB; rw [if_neg e2]; exact hj)
end Go.Proofs.YthcjcjfgdgnljaaDoor

namespace Go.Proofs.YthcjcjfgdgnljaaDoor
set_option linter.unusedVariables false

theorem step_own {a : Ac} {f : Nat → Bool} {b : Nat} (h : ownA a f = some b) : isStep a = true := by
  cases a <;> first | rfl | cases h
theorem stp_low (c : Cf) {a : Ac} {f : Nat → Bool} {σ τ : St} (hu : ∀ b, useA a = some b → f b = true) (h : LS (goneF a f) σ τ) :
    (∃ τ', stp c a τ = (τ', (stp cP a σ).2) ∧ τ'.status = (stp cP a σ).1.status ∧ τ'.tr = (stp cP a σ).1.tr ∧ ((stp cP a σ).2 = true → LS (aftA a f) (stp cP a σ).1 τ')) ∨ (∃ τ', stp c a τ = (τ', false) ∧ τ'.status = 3 ∧ τ'.tr = σ.tr) := by
  unfold stp
  by_cases hs : isStep a = true
  · rw [if_pos hs, if_pos hs, h.left]
    by_cases h0 : σ.left = 0
    · rw [if_pos h0, if_pos h0]
      exact .inl ⟨tire τ, rfl, rfl, h.tr, fun q => by cases q⟩
    · rw [if_neg h0, if_neg h0]
      exact act_low c hu h.due
  · rw [if_neg hs, if_neg hs]
    exact act_low c hu h
/-- one sentence, and what is put in ahead of it: it stops, it goes on, there is no room -/
def OwnR (c : Cf) (a : Ac) (f : Nat → Bool) (σ τ : St) (r : Pg) : Prop :=
    (∃ τ', (stp cP a σ).2 = false ∧ Ex c (ownP a f r) τ τ' false ∧ τ'.status = (stp cP a σ).1.status ∧ τ'.tr = (stp cP a σ).1.tr) ∨
    (∃ τ1, (stp cP a σ).2 = true ∧ LS (aftA a f) (stp cP a σ).1 τ1 ∧ ∀ {τ' : St} {b : Bool}, Ex c r τ1 τ' b → Ex c (ownP a f r) τ τ' b) ∨
    (∃ τ', Ex c (ownP a f r) τ τ' false ∧ τ'.status = 3 ∧ τ'.tr = σ.tr)
theorem own_low (c : Cf) {a : Ac} {f : Nat → Bool} {σ τ : St} {r : Pg} (hu : ∀ b, useA a = some b → f b = true) (h : LS f σ τ) : OwnR c a f σ τ r := by
  have main : ∀ (τ0 : St), LS (goneF a f) σ τ0 → (∀ {τ' : St} {b : Bool}, Ex c (.act a r) τ0 τ' b → Ex c (ownP a f r) τ τ' b) → OwnR c a f σ τ r := fun τ0 h0 hx => by
    rcases stp_low c hu h0 with ⟨τ', h1, h2, h3, h4⟩ | ⟨τ', h1, h2, h3⟩
    · cases hb : (stp cP a σ).2
      · rw [hb] at h1
        exact Or.inl ⟨τ', hb, hx (.stop h1), h2, h3⟩
      · rw [hb] at h1
        exact Or.inr (Or.inl ⟨τ', hb, h4 hb, fun hr => hx (.go h1 hr)⟩)
    · exact Or.inr (Or.inr ⟨τ', hx (.stop h1), h2, h3⟩)
  cases ho : ownA a f with
  | none =>
    have hg : goneF a f = f := by unfold goneF; rw [ho]
    refine main τ (by rw [hg]; exact h) (fun hr => ?_)
    unfold ownP
    rw [ho]
    exact hr
  | some b =>
    have hg : goneF a f = updB f b false := by unfold goneF; rw [ho]
    have hfb : f b = true := by
      cases a <;> first | (cases ho; done) | skip
      · rename_i k o
        have ho' : (if f k = true then some k else none) = some b := ho
        split at ho'
        · rename_i q; injection ho' with e; rw [← e]; exact q
        · cases ho'
      · rename_i k d
        have ho' : (if k ≠ d ∧ f k = true then some k else none) = some b := ho
        split at ho'
        · rename_i q; injection ho' with e; rw [← e]; exact q.2
        · cases ho'
    have hbx : τ.bx b ≠ [] := by rw [(h.on b hfb).1]; exact (h.on b hfb).2
    refine main { τ with bx := upB τ.bx b [] } ?_ (fun hr => ?_)
    · rw [hg]
      refine ⟨h.num, h.left, h.status, h.tr, fun j hj => ?_, fun j hj => ?_⟩
      · unfold updB at hj
        split at hj
        · cases hj
        · rename_i e
          show upB τ.bx b [] j = σ.bx j ∧ _
          rw [upB_ne _ _ e]; exact h.on j hj
      · show upB τ.bx b [] j = []
        by_cases e : j = b
        · subst e; rw [upB_at]
        · unfold updB at hj
          rw [if_neg e] at hj
          rw [upB_ne _ _ e]; exact h.off j hj
    · unfold ownP
      rw [ho]
      refine .go (σ1 := { τ with bx := upB τ.bx b [] }) ?_ hr
      show act c (.drop b) τ = _
      simp only [act]
      rw [if_neg hbx]
/-- what was done, and the ends that were put in behind it -/
theorem Low.tail {c : Cf} {P : Pg} {g g' : Nat → Bool} {τ σ' : St} (h : Low c P g τ σ' true) (hc : Clean g) (hs : Sub g' g) :
    (∃ τ1, LS g' σ' τ1 ∧ Ex c (seqP P (drP (minL g g') .nil)) τ τ1 true) ∨ (∃ τ', Ex c (seqP P (drP (minL g g') .nil)) τ τ' false ∧ τ'.status = 3 ∧ τ'.tr <+: σ'.tr) := by
  rcases h with ⟨τ', h1, h2, h3, h4⟩ | ⟨τ', h1, h2, h3⟩
  · have hl := h4 rfl
    exact .inl ⟨_, hl.less hc hs, h1.seq.1 rfl (Ex.drop hl.full (minL_nodup _ _) (.nil _))⟩
  · exact .inr ⟨τ', h1.seq.2 rfl, h2, h3⟩
theorem Low.halt {c : Cf} {P Q : Pg} {g : Nat → Bool} {τ σ' : St} (h : Low c P g τ σ' false) : Low c (seqP P Q) g τ σ' false := by
  rcases h with ⟨τ', h1, h2, h3, h4⟩ | ⟨τ', h1, h2, h3⟩
  · exact .inl ⟨τ', h1.seq.2 rfl, h2, h3, fun q => by cases q⟩
  · exact .inr ⟨τ', h1.seq.2 rfl, h2, h3⟩
/-- THE TOP, of trees -/
theorem Ex.low (c : Cf) {P : Pg} {σ σ' : St} {b : Bool} (h : Ex cP P σ σ' b) : ∀ {f : Nat → Bool} {τ : St}, PgOk P → Clean f → okG P f → LS f σ τ → Low c (lowG P f) (aftG P f) τ σ' b := by
  induction h with
  | nil σ => exact fun {f τ} hp hf ho hl => .inl ⟨τ, .nil _, hl.status, hl.tr, fun _ => hl⟩
  | @stop a r σ σ' h =>
    intro f τ hp hf ho hl
    rw [okG_act] at ho
    rw [lowG]
    rcases own_low c (r := lowG r (aftA a f)) ho.1 hl with ⟨τ', q1, q2, q3, q4⟩ | ⟨τ1, q1, q2, q3⟩ | ⟨τ', q1, q2, q3⟩
    · rw [h] at q3 q4
      exact .inl ⟨τ', q2, q3, q4, fun q => by cases q⟩
    · rw [h] at q1; cases q1
    · have := stp_tr cP a σ
      rw [h] at this
      exact .inr ⟨τ', q1, q2, by rw [q3]; exact this⟩
  | @go a r σ σ1 σ2 b h hr ih =>
    intro f τ hp hf ho hl
    rw [okG_act] at ho
    rw [lowG, aftG_act]
    rcases own_low c (r := lowG r (aftA a f)) ho.1 hl with ⟨τ', q1, q2, q3, q4⟩ | ⟨τ1, q1, q2, q3⟩ | ⟨τ', q1, q2, q3⟩
    · rw [h] at q1; cases q1
    · rw [h] at q2
      rcases ih hp.2 (clean_aftA hp.1 hf) ho.2 q2 with ⟨τ', k1, k2, k3, k4⟩ | ⟨τ', k1, k2, k3⟩
      · exact .inl ⟨τ', q3 k1, k2, k3, k4⟩
      · exact .inr ⟨τ', q3 k1, k2, k3⟩
    · exact .inr ⟨τ', q1, q2, by rw [q3]; exact (Ex.go h hr).tr⟩
  | iteTired h => exact fun {f τ} hp hf ho hl => .inl ⟨tire τ, by rw [lowG]; exact .iteTired (by rw [hl.left]; exact h), rfl, hl.tr, fun q => by cases q⟩
  | @iteStop o p q r σ σ1 h hp ih =>
    intro f τ hpo hf ho hl
    rw [okG_ite] at ho
    rw [lowG]
    have h0 : τ.left ≠ 0 := by rw [hl.left]; exact h
    by_cases e : valO σ.num o ≠ 0
    · rw [if_pos e] at ih
      have e2 : valO τ.num o ≠ 0 := by rw [hl.num]; exact e
      rcases (ih hpo.2.1 hf ho.1 hl.due).halt (Q := drP (minL (aftG p f) (bothF (aftG p f) (aftG q f))) .nil) with ⟨τ', k1, k2, k3, _⟩ | ⟨τ', k1, k2, k3⟩
      · exact .inl ⟨τ', .iteStop h0 (by rw [if_pos e2]; exact k1), k2, k3, fun q => by cases q⟩
      · exact .inr ⟨τ', .iteStop h0 (by rw [if_pos e2]; exact k1), k2, k3⟩
    · rw [if_neg e] at ih
      have e2 : ¬ valO τ.num o ≠ 0 := by rw [hl.num]; exact e
      rcases (ih hpo.2.2.1 hf ho.2.1 hl.due).halt (Q := drP (minL (aftG q f) (bothF (aftG p f) (aftG q f))) .nil) with ⟨τ', k1, k2, k3, _⟩ | ⟨τ', k1, k2, k3⟩
      · exact .inl ⟨τ', .iteStop h0 (by rw [if_neg e2]; exact k1), k2, k3, fun q => by cases q⟩
      · exact .inr ⟨τ', .iteStop h0 (by rw [if_neg e2]; exact k1), k2, k3⟩
  | @iteGo o p q r σ σ1 σ2 b h hp hr ih1 ih2 =>
    intro f τ hpo hf ho hl
    rw [okG_ite] at ho
    rw [lowG, aftG_ite]
    have h0 : τ.left ≠ 0 := by rw [hl.left]; exact h
    have hcl : Clean (bothF (aftG p f) (aftG q f)) := (clean_aftG hpo.2.1 hf).both
    by_cases e : valO σ.num o ≠ 0
    · rw [if_pos e] at ih1
      have e2 : valO τ.num o ≠ 0 := by rw [hl.num]; exact e
      rcases (ih1 hpo.2.1 hf ho.1 hl.due).tail (clean_aftG hpo.2.1 hf) (Sub.left (aftG p f) (aftG q f)) with ⟨τ1, k1, k2⟩ | ⟨τ', k1, k2, k3⟩
      · rcases ih2 hpo.2.2.2 hcl ho.2.2 k1 with ⟨τ', l1, l2, l3, l4⟩ | ⟨τ', l1, l2, l3⟩
        · exact .inl ⟨τ', .iteGo h0 (by rw [if_pos e2]; exact k2) l1, l2, l3, l4⟩
        · exact .inr ⟨τ', .iteGo h0 (by rw [if_pos e2]; exact k2) l1, l2, l3⟩
      · exact .inr ⟨τ', .iteStop h0 (by rw [if_pos e2]; exact k1), k2, k3.trans hr.tr⟩
    · rw [if_neg e] at ih1
      have e2 : ¬ valO τ.num o ≠ 0 := by rw [hl.num]; exact e
      rcases (ih1 hpo.2.2.1 hf ho.2.1 hl.due).tail (clean_aftG hpo.2.2.1 hf) (Sub.right (aftG p f) (aftG q f)) with ⟨τ1, k1, k2⟩ | ⟨τ', k1, k2, k3⟩
      · rcases ih2 hpo.2.2.2 hcl ho.2.2 k1 with ⟨τ', l1, l2, l3, l4⟩ | ⟨τ', l1, l2, l3⟩
        · exact .inl ⟨τ', .iteGo h0 (by rw [if_neg e2]; exact k2) l1, l2, l3, l4⟩
        · exact .inr ⟨τ', .iteGo h0 (by rw [if_neg e2]; exact k2) l1, l2, l3⟩
      · exact .inr ⟨τ', .iteStop h0 (by rw [if_neg e2]; exact k1), k2, k3.trans hr.tr⟩
  | @loopTired o p r σ h =>
    intro f τ hpo hf ho hl
    rw [lowG]
    have hsub := iter_sub (T := aftG p) 27 f
    have hlh := hl.less hf hsub
    have hfull := hl.full (g := iterF (aftG p) 27 f)
    exact .inl ⟨_, Ex.drop hfull (minL_nodup _ _) (.loopTired (by rw [hlh.left]; exact h)), rfl, hlh.tr, fun q => by cases q⟩
  | @loopEnd o p r σ σ2 b h h0 hr ih =>
    intro f τ hpo hf ho hl
    rw [okG_loop] at ho
    rw [lowG, aftG_loop]
    have hsub := iter_sub (T := aftG p) 27 f
    have hcl := clean_iter (T := aftG p) 27 hf
    have hlh := hl.less hf hsub
    have hfull := hl.full (g := iterF (aftG p) 27 f)
    generalize iterF (aftG p) 27 f = H at *
    rcases ih hpo.2.2 hcl ho.2 hlh.due with ⟨τ', k1, k2, k3, k4⟩ | ⟨τ', k1, k2, k3⟩
    · exact .inl ⟨τ', Ex.drop hfull (minL_nodup _ _) (.loopEnd (by rw [hlh.left]; exact h) (by rw [hlh.num]; exact h0) k1), k2, k3, k4⟩
    · exact .inr ⟨τ', Ex.drop hfull (minL_nodup _ _) (.loopEnd (by rw [hlh.left]; exact h) (by rw [hlh.num]; exact h0) k1), k2, k3⟩
  | @loopStop o p r σ σ1 h h0 hp ih =>
    intro f τ hpo hf ho hl
    rw [okG_loop] at ho
    rw [lowG]
    have hsub := iter_sub (T := aftG p) 27 f
    have hcl := clean_iter (T := aftG p) 27 hf
    have hlh := hl.less hf hsub
    have hfull := hl.full (g := iterF (aftG p) 27 f)
    generalize iterF (aftG p) 27 f = H at *
    rcases (ih hpo.2.1 hcl ho.1 hlh.due).halt (Q := drP (minL (aftG p H) H) .nil) with ⟨τ', k1, k2, k3, _⟩ | ⟨τ', k1, k2, k3⟩
    · exact .inl ⟨τ', Ex.drop hfull (minL_nodup _ _) (.loopStop (by rw [hlh.left]; exact h) (by rw [hlh.num]; exact h0) k1), k2, k3, fun q => by cases q⟩
    · exact .inr ⟨τ', Ex.drop hfull (minL_nodup _ _) (.loopStop (by rw [hlh.left]; exact h) (by rw [hlh.num]; exact h0) k1), k2, k3⟩
  | @loopGo o p r σ σ1 σ2 b h h0 hp hr ih1 ih2 =>
    intro f τ hpo hf ho hl
    rw [okG_loop] at ho
    rw [lowG, aftG_loop]
    have hsub := iter_sub (T := aftG p) 27 f
    have hcl := clean_iter (T := aftG p) 27 hf
    have hfix : Sub (iterF (aftG p) 27 f) (aftG p (iterF (aftG p) 27 f)) := iter_fix 27 f hf (by have := card_le f 26; omega)
    have hlh := hl.less hf hsub
    have hfull := hl.full (g := iterF (aftG p) 27 f)
    generalize iterF (aftG p) 27 f = H at *
    have hself := iter_self hfix 27
    have a1 : (clr (minL f H) τ).left ≠ 0 := by rw [hlh.left]; exact h
    have a2 : valO (clr (minL f H) τ).num o ≠ 0 := by rw [hlh.num]; exact h0
    rcases (ih1 hpo.2.1 hcl ho.1 hlh.due).tail (clean_aftG hpo.2.1 hcl) hfix with ⟨τ1, k1, k2⟩ | ⟨τ', k1, k2, k3⟩
    · have hi := ih2 (f := H) hpo hcl (by rw [okG_loop, hself]; exact ho) k1
      rw [lowG, aftG_loop, hself, minL_self] at hi
      rcases hi with ⟨τ', l1, l2, l3, l4⟩ | ⟨τ', l1, l2, l3⟩
      · exact .inl ⟨τ', Ex.drop hfull (minL_nodup _ _) (.loopGo a1 a2 k2 l1), l2, l3, l4⟩
      · exact .inr ⟨τ', Ex.drop hfull (minL_nodup _ _) (.loopGo a1 a2 k2 l1), l2, l3⟩
    · exact .inr ⟨τ', Ex.drop hfull (minL_nodup _ _) (.loopStop a1 a2 k1), k2, k3.trans hr.tr⟩
/-- a run that goes on has not ended in any way; one that has ended, has -/
theorem act_status {c : Cf} {a : Ac} {σ : St} : ((act c a σ).2 = true → (act c a σ).1.status = σ.status) ∧ ((act c a σ).2 = false → (act c a σ).1.status ≠ 0) := by
  cases a <;> simp only [act]
  all_goals (repeat' split) <;> simp [ends]
theorem stp_status {c : Cf} {a : Ac} {σ : St} : ((stp c a σ).2 = true → (stp c a σ).1.status = σ.status) ∧ ((stp c a σ).2 = false → (stp c a σ).1.status ≠ 0) := by
  unfold stp
  split
  · split
    · exact ⟨fun q => (by cases q), fun _ => (by simp [tire])⟩
    · exact act_status (σ := due σ)
  · exact act_status
theorem Ex.status {c : Cf} {P : Pg} {σ σ' : St} {b : Bool} (h : Ex c P σ σ' b) : (b = true → σ'.status = σ.status) ∧ (b = false → σ'.status ≠ 0) := by
  induction h with
  | nil σ => exact ⟨fun _ => rfl, fun q => by cases q⟩
  | @stop a r σ σ' h => have := (stp_status (c := c) (a := a) (σ := σ)).2; rw [h] at this; exact ⟨fun q => (by cases q), fun _ => this rfl⟩
  | @go a r σ σ1 σ2 b h hr ih => have := (stp_status (c := c) (a := a) (σ := σ)).1; rw [h] at this; exact ⟨fun q => (ih.1 q).trans (this rfl), ih.2⟩
  | iteTired h => exact ⟨fun q => (by cases q), fun _ => by simp [tire]⟩
  | iteStop h hp ih => exact ⟨fun q => (by cases q), ih.2⟩
  | iteGo h hp hr ih1 ih2 => exact ⟨fun q => (ih2.1 q).trans (ih1.1 rfl), ih2.2⟩
  | loopTired h => exact ⟨fun q => (by cases q), fun _ => by simp [tire]⟩
  | loopEnd h h0 hr ih => exact ih
  | loopStop h h0 hp ih => exact ⟨fun q => (by cases q), ih.2⟩
  | loopGo h h0 hp hr ih1 ih2 => exact ⟨fun q => (ih2.1 q).trans (ih1.1 rfl), ih2.2⟩
/-- THE TOP: on a heap of any size, with any number of steps -/
theorem low_top (c : Cf) {P : Pg} {σ : St} {b : Bool} (s0 : St) (h0 : s0.status = 0 ∧ (∀ j, s0.bx j = [])) (hp : PgOk P) (ho : okG P noF) (h : Ex cP P s0 σ b) :
    ∃ τ b', Ex c (lowP P) s0 τ b' ∧ ((τ.status = σ.status ∧ τ.tr = σ.tr ∧ (τ.status = 0 → ∀ j, τ.bx j = [])) ∨ (τ.status = 3 ∧ τ.tr <+: σ.tr)) := by
  have hl : LS noF s0 s0 := ⟨rfl, rfl, rfl, rfl, fun k q => (by cases q), fun k _ => h0.2 k⟩
  have hL := h.low c hp clean_none ho hl
  unfold lowP
  cases b with
  | true =>
    rcases hL.tail (clean_aftG hp clean_none) (g' := noF) (fun k q => by cases q) with ⟨τ, k1, k2⟩ | ⟨τ, k1, k2, k3⟩
    · exact ⟨τ, true, k2, .inl ⟨k1.status, k1.tr, fun _ j => k1.off j rfl⟩⟩
    · exact ⟨τ, false, k1, .inr ⟨k2, k3⟩⟩
  | false =>
    rcases hL.halt with ⟨τ, k1, k2, k3, _⟩ | ⟨τ, k1, k2, k3⟩
    · exact ⟨τ, false, k1, .inl ⟨k2, k3, fun q => absurd q (k1.status.2 rfl)⟩⟩
    · exact ⟨τ, false, k1, .inr ⟨k2, k3⟩⟩
end Go.Proofs.YthcjcjfgdgnljaaDoor
