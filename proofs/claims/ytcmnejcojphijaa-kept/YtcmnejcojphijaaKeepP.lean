import Derived.Test.YtcmnejcojphijaaKeepC
namespace Go.Proofs.Ytcmnejcojphijaa
open Go.RowKit

/-- what the heap holds, and what the list says -/
structure Inv (n : Nat) (B V : Nat → Int) (hs : List Held) : Prop where
  pos : ∀ h, h ∈ hs → 1 ≤ h.n ∧ h.at_ + h.n ≤ n ∧ h.n ≤ 64
  dis : hs.Pairwise (fun x y => x.at_ + x.n ≤ y.at_ ∨ y.at_ + y.n ≤ x.at_)
  own : ∀ h, h ∈ hs → ∀ i, h.at_ ≤ i → i < h.at_ + h.n → B i = (h.at_ : Int) + 1
  cov : ∀ i, i < n → B i ≠ 0 → ∃ h, h ∈ hs ∧ h.at_ ≤ i ∧ i < h.at_ + h.n
  zer : ∀ i, i < n → B i = 0 → V i = 0

def inH (h : Held) (i : Nat) : Prop := h.at_ ≤ i ∧ i < h.at_ + h.n
def inHs (hs : List Held) (i : Nat) : Prop := ∃ h, h ∈ hs ∧ inH h i

theorem tk_iff (hs : List Held) (i : Nat) : TK hs.length (fun i => (hs.getD i heldZ).at_) (fun i => (hs.getD i heldZ).n) i ↔ inHs hs i := by
  constructor
  · rintro ⟨j, hj, h1, h2⟩
    refine ⟨hs[j], List.getElem_mem hj, ?_⟩
    simp [hj] at h1 h2
    exact ⟨h1, h2⟩
  · rintro ⟨h, hm, h1, h2⟩
    obtain ⟨j, hj, e⟩ := List.getElem_of_mem hm
    refine ⟨j, hj, ?_, ?_⟩
    · simp [hj, e]; exact h1
    · simp [hj, e]; exact h2

theorem Inv.tk {n : Nat} {B V : Nat → Int} {hs : List Held} (h : Inv n B V hs) {i : Nat} (hi : i < n) : B i ≠ 0 ↔ inHs hs i := by
  constructor
  · intro hb
    obtain ⟨x, hx, h1, h2⟩ := h.cov i hi hb
    exact ⟨x, hx, h1, h2⟩
  · rintro ⟨x, hx, h1, h2⟩
    rw [h.own x hx i h1 h2]
    omega

theorem Inv.room {n : Nat} {B V : Nat → Int} {hs : List Held} (h : Inv n B V hs) (k a : Nat) :
    FreeAt B n k a ↔ RoomAt hs.length (fun i => (hs.getD i heldZ).at_) (fun i => (hs.getD i heldZ).n) n k a := by
  unfold FreeAt RoomAt
  constructor
  · rintro ⟨h1, h2⟩
    refine ⟨h1, fun i h3 h4 ht => ?_⟩
    exact ((h.tk (i := i) (by omega)).2 ((tk_iff hs i).1 ht)) (h2 i h3 h4)
  · rintro ⟨h1, h2⟩
    refine ⟨h1, fun i h3 h4 => ?_⟩
    by_cases e : B i = 0
    · exact e
    · exact absurd ((tk_iff hs i).2 ((h.tk (by omega)).1 e)) (h2 i h3 h4)

/-- how many i below n are so -/
def cnt (P : Nat → Bool) : Nat → Nat
  | 0 => 0
  | i + 1 => cnt P i + (P i).toNat
theorem cnt_congr {P Q : Nat → Bool} {n : Nat} (h : ∀ i, i < n → P i = Q i) : cnt P n = cnt Q n := by
  induction n with
  | zero => rfl
  | succ n ih => simp only [cnt]; rw [ih (fun i hi => h i (by omega)), h n (by omega)]
theorem cnt_none {P : Nat → Bool} {lo hi : Nat} (hl : lo ≤ hi) (h : ∀ i, lo ≤ i → i < hi → P i = false) : cnt P hi = cnt P lo := by
  induction hi with
  | zero => rw [show lo = 0 by omega]
  | succ n ih =>
    by_cases e : lo = n + 1
    · rw [e]
    · simp only [cnt]
      rw [ih (by omega) (fun i h1 h2 => h i h1 (by omega)), h n (by omega) (by omega)]
      simp
theorem cnt_all {P : Nat → Bool} {lo hi : Nat} (hl : lo ≤ hi) (h : ∀ i, lo ≤ i → i < hi → P i = true) : cnt P hi = cnt P lo + (hi - lo) := by
  induction hi with
  | zero => rw [show lo = 0 by omega]; simp
  | succ n ih =>
    by_cases e : lo = n + 1
    · rw [e]; simp
    · simp only [cnt]
      rw [ih (by omega) (fun i h1 h2 => h i h1 (by omega)), h n (by omega) (by omega)]
      simp; omega
theorem cnt_zero (P : Nat → Bool) : cnt P 0 = 0 := rfl
theorem cnt_or {P Q : Nat → Bool} {n : Nat} (h : ∀ i, i < n → ¬ (P i = true ∧ Q i = true)) : cnt (fun i => P i || Q i) n = cnt P n + cnt Q n := by
  induction n with
  | zero => rfl
  | succ n ih =>
    simp only [cnt]
    rw [ih (fun i hi => h i (by omega))]
    have := h n (by omega)
    cases hp : P n <;> cases hq : Q n <;> simp [hp, hq] at this ⊢ <;> omega
theorem cnt_not {P : Nat → Bool} {n : Nat} : cnt P n + cnt (fun i => !P i) n = n := by
  induction n with
  | zero => rfl
  | succ n ih =>
    simp only [cnt]
    cases hp : P n <;> simp <;> omega

def inHB (h : Held) (i : Nat) : Bool := decide (h.at_ ≤ i) && decide (i < h.at_ + h.n)
theorem inHB_iff (h : Held) (i : Nat) : inHB h i = true ↔ inH h i := by simp [inHB, inH]
def inHsB (hs : List Held) (i : Nat) : Bool := hs.any (fun h => inHB h i)
theorem inHsB_iff (hs : List Held) (i : Nat) : inHsB hs i = true ↔ inHs hs i := by
  simp only [inHsB, List.any_eq_true, inHs, inHB_iff]

theorem cnt_inH (h : Held) {n : Nat} (hn : h.at_ + h.n ≤ n) : cnt (inHB h) n = h.n := by
  rw [cnt_none (lo := h.at_ + h.n) hn (fun i h1 _ => by simp [inHB]; omega), cnt_all (lo := h.at_) (by omega) (fun i h1 h2 => by simp [inHB]; omega),
    cnt_none (lo := 0) (Nat.zero_le _) (fun i _ h2 => by simp [inHB]; omega), cnt_zero]
  omega

theorem cnt_inHs (hs : List Held) {n : Nat} (hn : ∀ h, h ∈ hs → h.at_ + h.n ≤ n) (hd : hs.Pairwise (fun x y => x.at_ + x.n ≤ y.at_ ∨ y.at_ + y.n ≤ x.at_)) : cnt (inHsB hs) n = (hs.map Held.n).sum := by
  induction hs with
  | nil =>
    rw [cnt_none (P := inHsB []) (lo := 0) (Nat.zero_le _) (fun i _ _ => rfl)]; rfl
  | cons h t ih =>
    rw [List.pairwise_cons] at hd
    have e : cnt (inHsB (h :: t)) n = cnt (fun i => inHB h i || inHsB t i) n := cnt_congr (fun i _ => by simp [inHsB])
    rw [e, cnt_or, cnt_inH h (hn h (by simp)), ih (fun x hx => hn x (by simp [hx])) hd.2]
    · simp
    · intro i _ ⟨h1, h2⟩
      rw [inHB_iff] at h1
      rw [inHsB_iff] at h2
      obtain ⟨x, hx, h3⟩ := h2
      have := hd.1 x hx
      unfold inH at h1 h3
      omega

theorem sumTo_shift (N : Nat → Nat) (m : Nat) : sumTo N (m + 1) = N 0 + sumTo (fun i => N (i + 1)) m := by
  induction m with
  | zero => simp [sumTo]
  | succ m ih => rw [sumTo, ih]; simp only [sumTo]; omega
theorem sumTo_list {T : Type} (f : T → Nat) (d : T) (l : List T) : sumTo (fun i => f (l.getD i d)) l.length = (l.map f).sum := by
  induction l with
  | nil => rfl
  | cons x t ih =>
    rw [List.length_cons, sumTo_shift]
    simp only [List.getD_cons_zero, List.getD_cons_succ, List.map_cons, List.sum_cons, ih]

theorem Inv.used {n : Nat} {B V : Nat → Int} {hs : List Held} (h : Inv n B V hs) : (hs.map Held.n).sum = cnt (fun i => B i != 0) n := by
  rw [← cnt_inHs hs (fun x hx => (h.pos x hx).2.1) h.dis]
  refine cnt_congr (fun i hi => ?_)
  rw [Bool.eq_iff_iff, inHsB_iff, ← h.tk hi]
  simp
theorem Inv.free_used {n : Nat} {B V : Nat → Int} {hs : List Held} (h : Inv n B V hs) : cnt (fun i => B i == 0) n + (hs.map Held.n).sum = n := by
  rw [h.used]
  have e : cnt (fun i => B i == 0) n = cnt (fun i => !(B i != 0)) n := cnt_congr (fun i _ => by cases hb : (B i == 0) <;> simp [bne, hb])
  rw [e]
  have := cnt_not (P := fun i => B i != 0) (n := n)
  omega
theorem len_le_sum {l : List Held} (h : ∀ x, x ∈ l → 1 ≤ x.n) : l.length ≤ (l.map Held.n).sum := by
  induction l with
  | nil => simp
  | cons x t ih =>
    have h1 := h x (by simp)
    have h2 := ih (fun y hy => h y (by simp [hy]))
    simp only [List.length_cons, List.map_cons, List.sum_cons]
    omega
theorem Inv.len {n : Nat} {B V : Nat → Int} {hs : List Held} (h : Inv n B V hs) : hs.length ≤ n := by
  have h1 := len_le_sum (fun x hx => (h.pos x hx).1)
  have h2 := h.free_used
  omega

theorem runs_cnt {B : Nat → Int} {n : Nat} (L : List (Nat × Nat)) (lo : Nat) (hlo : lo ≤ n) (h : IsRuns B n lo L) : (L.map Prod.snd).sum + cnt (fun i => B i == 0) lo = cnt (fun i => B i == 0) n := by
  induction L generalizing lo with
  | nil =>
    rw [cnt_none (lo := lo) hlo (fun i h1 h2 => by simpa using h i h1 h2)]; simp
  | cons s t ih =>
    obtain ⟨a, l⟩ := s
    obtain ⟨h1, h2, h3, h4, h5, h6, h7⟩ := h
    have e1 := ih (a + l) h3 h7
    have e2 := cnt_all (P := fun i => B i == 0) (lo := a) (hi := a + l) (by omega) (fun i h1 h2 => by simpa using h5 i h1 h2)
    have e3 := cnt_none (P := fun i => B i == 0) (lo := lo) (hi := a) h1 (fun i h1 h2 => by simpa using h4 i h1 h2)
    simp only [List.map_cons, List.sum_cons]
    omega
theorem runs_len {B : Nat → Int} {n : Nat} (L : List (Nat × Nat)) (lo : Nat) (hlo : lo ≤ n) (h : IsRuns B n lo L) : L.length + lo ≤ n := by
  induction L generalizing lo with
  | nil => simpa using hlo
  | cons s t ih =>
    obtain ⟨a, l⟩ := s
    obtain ⟨h1, h2, h3, h4, h5, h6, h7⟩ := h
    have := ih (a + l) h3 h7
    simp only [List.length_cons]
    omega
theorem runs_rise {B : Nat → Int} {n : Nat} (L : List (Nat × Nat)) (lo : Nat) (h : IsRuns B n lo L) :
    (∀ i, i < L.length → 1 ≤ (L.getD i (0, 0)).2 ∧ (L.getD i (0, 0)).1 + (L.getD i (0, 0)).2 ≤ n) ∧ (∀ i, i + 1 < L.length → (L.getD i (0, 0)).1 + (L.getD i (0, 0)).2 + 1 ≤ (L.getD (i + 1) (0, 0)).1) ∧ (0 < L.length → lo ≤ (L.getD 0 (0, 0)).1 ∧ B (L.getD 0 (0, 0)).1 = 0) := by
  induction L generalizing lo with
  | nil => exact ⟨fun i hi => absurd hi (by simp), fun i hi => absurd hi (by simp), fun h => absurd h (by simp)⟩
  | cons s t ih =>
    obtain ⟨a, l⟩ := s
    obtain ⟨h1, h2, h3, h4, h5, h6, h7⟩ := h
    obtain ⟨i1, i2, i3⟩ := ih (a + l) h7
    refine ⟨fun i hi => ?_, fun i hi => ?_, fun _ => ⟨h1, h5 a (Nat.le_refl _) (by omega)⟩⟩
    · cases i with
      | zero => exact ⟨h2, h3⟩
      | succ i => simpa using i1 i (by simpa using hi)
    · cases i with
      | zero =>
        have hl : 0 < t.length := by simpa using hi
        have := i3 hl
        have h8 := (i1 0 hl)
        simp only [List.getD_cons_zero, List.getD_cons_succ]
        rcases h6 with h6 | h6
        · omega
        · by_cases e : (t.getD 0 (0, 0)).1 = a + l
          · rw [e] at this; exact absurd this.2 h6
          · omega
      | succ i => simpa using i2 i (by simpa using hi)
theorem runs_one {B : Nat → Int} {n : Nat} (hn : 1 ≤ n) (hB : ∀ i, i < n → B i = 0) (L : List (Nat × Nat)) (h : IsRuns B n 0 L) : L = [(0, n)] := by
  cases L with
  | nil => exact absurd (hB 0 (by omega)) (h 0 (Nat.le_refl _) (by omega))
  | cons s t =>
    obtain ⟨a, l⟩ := s
    obtain ⟨h1, h2, h3, h4, h5, h6, h7⟩ := h
    have ha : a = 0 := by
      by_cases e : a = 0
      · exact e
      · exact absurd (hB 0 (by omega)) (h4 0 (Nat.le_refl _) (by omega))
    subst ha
    have hl : 0 + l = n := by
      rcases h6 with h6 | h6
      · exact h6
      · by_cases e : 0 + l = n
        · exact e
        · exact absurd (hB _ (by omega)) h6
    have hl' : l = n := by omega
    subst hl'
    cases t with
    | nil => rfl
    | cons s t =>
      obtain ⟨a', l'⟩ := s
      obtain ⟨g1, g2, g3, _⟩ := h7
      omega

theorem Inv.start (n : Nat) : Inv n (fun _ => 0) (fun _ => 0) [] :=
  ⟨fun h hh => absurd hh (by simp), List.Pairwise.nil, fun h hh => absurd hh (by simp), fun i _ hb => absurd rfl hb, fun _ _ _ => rfl⟩

theorem Inv.alloc {n : Nat} {B V : Nat → Int} {hs : List Held} (h : Inv n B V hs) {k a wb : Nat} (hf : FreeAt B n k a) (h1 : 1 ≤ k) (h2 : k ≤ 64) : Inv n (markTo B a (a + k)) V (hs ++ [⟨a, k, wb⟩]) := by
  have hap : ∀ x, x ∈ hs → ∀ i, x.at_ ≤ i → i < x.at_ + x.n → ¬ (a ≤ i ∧ i < a + k) := fun x hx i g1 g2 ⟨g3, g4⟩ => by
    have e1 := h.own x hx i g1 g2
    have e2 := hf.2 i g3 g4
    omega
  refine ⟨fun x hx => ?_, ?_, fun x hx i g1 g2 => ?_, fun i hi hb => ?_, fun i hi hb => ?_⟩
  · rw [List.mem_append] at hx
    rcases hx with hx | hx
    · exact h.pos x hx
    · simp at hx; subst hx; exact ⟨h1, hf.1, h2⟩
  · rw [List.pairwise_append]
    refine ⟨h.dis, List.pairwise_singleton _ _, fun x hx y hy => ?_⟩
    simp at hy; subst hy
    have hp := h.pos x hx
    have g1 := hap x hx x.at_ (Nat.le_refl _) (by omega)
    have g2 := hap x hx a
    by_cases e : x.at_ + x.n ≤ a
    · exact .inl e
    · refine .inr ?_
      show a + k ≤ x.at_
      by_cases e2 : x.at_ ≤ a
      · exact absurd ⟨Nat.le_refl _, by omega⟩ (g2 e2 (by omega))
      · omega
  · rw [List.mem_append] at hx
    unfold markTo
    rcases hx with hx | hx
    · rw [if_neg (hap x hx i g1 g2)]; exact h.own x hx i g1 g2
    · simp at hx; subst hx; rw [if_pos ⟨g1, g2⟩]
  · unfold markTo at hb
    by_cases e : a ≤ i ∧ i < a + k
    · exact ⟨⟨a, k, wb⟩, by simp, e.1, e.2⟩
    · rw [if_neg e] at hb
      obtain ⟨x, hx, g⟩ := h.cov i hi hb
      exact ⟨x, by simp [hx], g⟩
  · unfold markTo at hb
    by_cases e : a ≤ i ∧ i < a + k
    · rw [if_pos e] at hb; omega
    · rw [if_neg e] at hb; exact h.zer i hi hb

/-- two of the list lie apart -/
theorem Inv.apart {n : Nat} {B V : Nat → Int} {hs : List Held} (h : Inv n B V hs) {i j : Nat} (hi : i < hs.length) (hj : j < hs.length) (hne : i ≠ j) : hs[i].at_ + hs[i].n ≤ hs[j].at_ ∨ hs[j].at_ + hs[j].n ≤ hs[i].at_ := by
  have hp := List.pairwise_iff_getElem.1 h.dis
  by_cases e : i < j
  · exact hp i j hi hj e
  · exact (hp j i hj hi (by omega)).symm

/-- where the freed run ends -/
theorem Inv.end_ {n : Nat} {B V : Nat → Int} {hs : List Held} (h : Inv n B V hs) {j : Nat} (hj : j < hs.length) {z : Nat} (hz1 : hs[j].at_ < z) (hz2 : z ≤ n)
    (hall : ∀ i, hs[j].at_ ≤ i → i < z → B i = (hs[j].at_ : Int) + 1) (hstop : z = n ∨ B z ≠ (hs[j].at_ : Int) + 1) : z = hs[j].at_ + hs[j].n := by
  have hm := List.getElem_mem hj
  have hp := h.pos _ hm
  by_cases e1 : z < hs[j].at_ + hs[j].n
  · rcases hstop with hs' | hs'
    · omega
    · exact absurd (h.own _ hm z (by omega) e1) hs'
  · by_cases e2 : z = hs[j].at_ + hs[j].n
    · exact e2
    · exfalso
      have hb := hall (hs[j].at_ + hs[j].n) (by omega) (by omega)
      obtain ⟨x, hx, g1, g2⟩ := h.cov (hs[j].at_ + hs[j].n) (by omega) (by omega)
      have hb2 := h.own x hx _ g1 g2
      have hat : x.at_ = hs[j].at_ := by omega
      obtain ⟨i, hi, hxi⟩ := List.getElem_of_mem hx
      have hne : i ≠ j := fun e => by subst e; rw [hxi] at g2; omega
      have ha := h.apart hi hj hne
      rw [hxi] at ha
      have hpx := h.pos x hx
      omega

theorem Inv.free {n : Nat} {B V : Nat → Int} {hs : List Held} (h : Inv n B V hs) {j : Nat} (hj : j < hs.length) : Inv n (clearTo B hs[j].at_ (hs[j].at_ + hs[j].n)) (clearTo V hs[j].at_ (hs[j].at_ + hs[j].n)) (hs.eraseIdx j) := by
  have hsub := List.eraseIdx_sublist hs j
  have hout : ∀ x, x ∈ hs.eraseIdx j → ∀ i, x.at_ ≤ i → i < x.at_ + x.n → ¬ (hs[j].at_ ≤ i ∧ i < hs[j].at_ + hs[j].n) := fun x hx i g1 g2 ⟨g3, g4⟩ => by
    obtain ⟨q, hq, hqj, hxe⟩ := List.mem_eraseIdx_iff_getElem.1 hx
    have ha := h.apart hq hj hqj
    rw [hxe] at ha
    omega
  refine ⟨fun x hx => h.pos x (hsub.subset hx), h.dis.sublist hsub, fun x hx i g1 g2 => ?_, fun i hi hb => ?_, fun i hi hb => ?_⟩
  · unfold clearTo
    rw [if_neg (hout x hx i g1 g2)]
    exact h.own x (hsub.subset hx) i g1 g2
  · unfold clearTo at hb
    by_cases e : hs[j].at_ ≤ i ∧ i < hs[j].at_ + hs[j].n
    · rw [if_pos e] at hb; exact absurd rfl hb
    · rw [if_neg e] at hb
      obtain ⟨x, hx, g⟩ := h.cov i hi hb
      obtain ⟨q, hq, hqx⟩ := List.getElem_of_mem hx
      have hqj : q ≠ j := fun e2 => by subst e2; rw [hqx] at e; exact e g
      exact ⟨x, List.mem_eraseIdx_iff_getElem.2 ⟨q, hq, hqj, hqx⟩, g⟩
  · unfold clearTo at hb ⊢
    by_cases e : hs[j].at_ ≤ i ∧ i < hs[j].at_ + hs[j].n
    · rw [if_pos e]
    · rw [if_neg e] at hb ⊢; exact h.zer i hi hb

theorem Inv.store {n : Nat} {B V : Nat → Int} {hs : List Held} (h : Inv n B V hs) {k : Nat} (hk : B k ≠ 0) (u : Int) : Inv n B (upd V k u) hs :=
  ⟨h.pos, h.dis, h.own, h.cov, fun i hi hb => by
    rw [upd_ne _ _ (fun e => by subst e; exact hk hb)]; exact h.zer i hi hb⟩
end Go.Proofs.Ytcmnejcojphijaa
