/-
  KeepP, App, KeepG: one behind the other.
-/
import Derived.Test.YthcjcjfgdgnljaaGKeepC
import Derived.Test.YthcjcjfgdgnljaaGBase
namespace Go.Proofs.Ythcjcjfgdgnljaa
open Go.RowKit

/-- what the heap holds, and what the list says -/
structure Inv (n : Nat) (B V : Nat → Int) (hs : List Held) : Prop where
  pos : ∀ h, h ∈ hs → 1 ≤ h.n ∧ h.at_ + h.n ≤ n ∧ h.n ≤ 64
  dis : hs.Pairwise (fun x y => x.at_ + x.n ≤ y.at_ ∨ y.at_ + y.n ≤ x.at_)
  own : ∀ h, h ∈ hs → ∀ i, h.at_ ≤ i → i < h.at_ + h.n → B i = (h.at_ : Int) + 1
  cov : ∀ i, i < n → B i ≠ 0 → ∃ h, h ∈ hs ∧ h.at_ ≤ i ∧ i < h.at_ + h.n
  zer : ∀ i, i < n → B i = 0 → V i = 0

def inH (h : Held) (i : Nat) : Prop := h.at_ ≤ i ∧ i < h.at_ + h.n
def inHs (hs : List Held) (i : Nat) : Prop := ∃ h, h ∈ hs ∧ inH h i

theorem tk_iff (hs : List Held) (i : Nat) : TK hs.length (fun i => (hs.getD i heldZ).at_) (fun i => (hs.getD i heldZ).n) i ↔ inHs hs i := by
  constructor
  · rintro ⟨j, hj, h1, h2⟩
    refine ⟨hs[j], List.getElem_mem hj, ?_⟩
    simp [hj] at h1 h2
    exact ⟨h1, h2⟩
  · rintro ⟨h, hm, h1, h2⟩
    obtain ⟨j, hj, e⟩ := List.getElem_of_mem hm
    refine ⟨j, hj, ?_, ?_⟩
    · simp [hj, e]; exact h1
    · simp [hj, e]; exact h2

theorem Inv.tk {n : Nat} {B V : Nat → Int} {hs : List Held} (h : Inv n B V hs) {i : Nat} (hi : i < n) : B i ≠ 0 ↔ inHs hs i := by
  constructor
  · intro hb
    obtain ⟨x, hx, h1, h2⟩ := h.cov i hi hb
    exact ⟨x, hx, h1, h2⟩
  · rintro ⟨x, hx, h1, h2⟩
    rw [h.own x hx i h1 h2]
    omega

theorem Inv.room {n : Nat} {B V : Nat → Int} {hs : List Held} (h : Inv n B V hs) (k a : Nat) :
    FreeAt B n k a ↔ RoomAt hs.length (fun i => (hs.getD i heldZ).at_) (fun i => (hs.getD i heldZ).n) n k a := by
  unfold FreeAt RoomAt
  constructor
  · rintro ⟨h1, h2⟩
    refine ⟨h1, fun i h3 h4 ht => ?_⟩
    exact ((h.tk (i := i) (by omega)).2 ((tk_iff hs i).1 ht)) (h2 i h3 h4)
  · rintro ⟨h1, h2⟩
    refine ⟨h1, fun i h3 h4 => ?_⟩
    by_cases e : B i = 0
    · exact e
    · exact absurd ((tk_iff hs i).2 ((h.tk (by omega)).1 e)) (h2 i h3 h4)

/-- how many i below n are so -/
def cnt (P : Nat → Bool) : Nat → Nat
  | 0 => 0
  | i + 1 => cnt P i + (P i).toNat
theorem cnt_congr {P Q : Nat → Bool} {n : Nat} (h : ∀ i, i < n → P i = Q i) : cnt P n = cnt Q n := by
  induction n with
  | zero => rfl
  | succ n ih => simp only [cnt]; rw [ih (fun i hi => h i (by omega)), h n (by omega)]
theorem cnt_none {P : Nat → Bool} {lo hi : Nat} (hl : lo ≤ hi) (h : ∀ i, lo ≤ i → i < hi → P i = false) : cnt P hi = cnt P lo := by
  induction hi with
  | zero => rw [show lo = 0 by omega]
  | succ n ih =>
    by_cases e : lo = n + 1
    · rw [e]
    · simp only [cnt]
      rw [ih (by omega) (fun i h1 h2 => h i h1 (by omega)), h n (by omega) (by omega)]
      simp
theorem cnt_all {P : Nat → Bool} {lo hi : Nat} (hl : lo ≤ hi) (h : ∀ i, lo ≤ i → i < hi → P i = true) : cnt P hi = cnt P lo + (hi - lo) := by
  induction hi with
  | zero => rw [show lo = 0 by omega]; simp
  | succ n ih =>
    by_cases e : lo = n + 1
    · rw [e]; simp
    · simp only [cnt]
      rw [ih (by omega) (fun i h1 h2 => h i h1 (by omega)), h n (by omega) (by omega)]
      simp; omega
theorem cnt_zero (P : Nat → Bool) : cnt P 0 = 0 := rfl
theorem cnt_or {P Q : Nat → Bool} {n : Nat} (h : ∀ i, i < n → ¬ (P i = true ∧ Q i = true)) : cnt (fun i => P i || Q i) n = cnt P n + cnt Q n := by
  induction n with
  | zero => rfl
  | succ n ih =>
    simp only [cnt]
    rw [ih (fun i hi => h i (by omega))]
    have := h n (by omega)
    cases hp : P n <;> cases hq : Q n <;> simp [hp, hq] at this ⊢ <;> omega
theorem cnt_not {P : Nat → Bool} {n : Nat} : cnt P n + cnt (fun i => !P i) n = n := by
  induction n with
  | zero => rfl
  | succ n ih =>
    simp only [cnt]
    cases hp : P n <;> simp <;> omega

def inHB (h : Held) (i : Nat) : Bool := decide (h.at_ ≤ i) && decide (i < h.at_ + h.n)
theorem inHB_iff (h : Held) (i : Nat) : inHB h i = true ↔ inH h i := by simp [inHB, inH]
def inHsB (hs : List Held) (i : Nat) : Bool := hs.any (fun h => inHB h i)
theorem inHsB_iff (hs : List Held) (i : Nat) : inHsB hs i = true ↔ inHs hs i := by
  simp only [inHsB, List.any_eq_true, inHs, inHB_iff]

theorem cnt_inH (h : Held) {n : Nat} (hn : h.at_ + h.n ≤ n) : cnt (inHB h) n = h.n := by
  rw [cnt_none (lo := h.at_ + h.n) hn (fun i h1 _ => by simp [inHB]; omega), cnt_all (lo := h.at_) (by omega) (fun i h1 h2 => by simp [inHB]; omega),
    cnt_none (lo := 0) (Nat.zero_le _) (fun i _ h2 => by simp [inHB]; omega), cnt_zero]
  omega

theorem cnt_inHs (hs : List Held) {n : Nat} (hn : ∀ h, h ∈ hs → h.at_ + h.n ≤ n) (hd : hs.Pairwise (fun x y => x.at_ + x.n ≤ y.at_ ∨ y.at_ + y.n ≤ x.at_)) : cnt (inHsB hs) n = (hs.map Held.n).sum := by
  induction hs with
  | nil =>
    rw [cnt_none (P := inHsB []) (lo := 0) (Nat.zero_le _) (fun i _ _ => rfl)]; rfl
  | cons h t ih =>
    rw [List.pairwise_cons] at hd
    have e : cnt (inHsB (h :: t)) n = cnt (fun i => inHB h i || inHsB t i) n := cnt_congr (fun i _ => by simp [inHsB])
    rw [e, cnt_or, cnt_inH h (hn h (by simp)), ih (fun x hx => hn x (by simp [hx])) hd.2]
    · simp
    · intro i _ ⟨h1, h2⟩
      rw [inHB_iff] at h1
      rw [inHsB_iff] at h2
      obtain ⟨x, hx, h3⟩ := h2
      have := hd.1 x hx
      unfold inH at h1 h3
      omega

theorem sumTo_shift (N : Nat → Nat) (m : Nat) : sumTo N (m + 1) = N 0 + sumTo (fun i => N (i + 1)) m := by
  induction m with
  | zero => simp [sumTo]
  | succ m ih => rw [sumTo, ih]; simp only [sumTo]; omega
theorem sumTo_list {T : Type} (f : T → Nat) (d : T) (l : List T) : sumTo (fun i => f (l.getD i d)) l.length = (l.map f).sum := by
  induction l with
  | nil => rfl
  | cons x t ih =>
    rw [List.length_cons, sumTo_shift]
    simp only [List.getD_cons_zero, List.getD_cons_succ, List.map_cons, List.sum_cons, ih]

theorem Inv.used {n : Nat} {B V : Nat → Int} {hs : List Held} (h : Inv n B V hs) : (hs.map Held.n).sum = cnt (fun i => B i != 0) n := by
  rw [← cnt_inHs hs (fun x hx => (h.pos x hx).2.1) h.dis]
  refine cnt_congr (fun i hi => ?_)
  rw [Bool.eq_iff_iff, inHsB_iff, ← h.tk hi]
  simp
theorem Inv.free_used {n : Nat} {B V : Nat → Int} {hs : List Held} (h : Inv n B V hs) : cnt (fun i => B i == 0) n + (hs.map Held.n).sum = n := by
  rw [h.used]
  have e : cnt (fun i => B i == 0) n = cnt (fun i => !(B i != 0)) n := cnt_congr (fun i _ => by cases hb : (B i == 0) <;> simp [bne, hb])
  rw [e]
  have := cnt_not (P := fun i => B i != 0) (n := n)
  omega
theorem len_le_sum {l : List Held} (h : ∀ x, x ∈ l → 1 ≤ x.n) : l.length ≤ (l.map Held.n).sum := by
  induction l with
  | nil => simp
  | cons x t ih =>
    have h1 := h x (by simp)
    have h2 := ih (fun y hy => h y (by simp [hy]))
    simp only [List.length_cons, List.map_cons, List.sum_cons]
    omega
theorem Inv.len {n : Nat} {B V : Nat → Int} {hs : List Held} (h : Inv n B V hs) : hs.length ≤ n := by
  have h1 := len_le_sum (fun x hx => (h.pos x hx).1)
  have h2 := h.free_used
  omega

theorem runs_cnt {B : Nat → Int} {n : Nat} (L : List (Nat × Nat)) (lo : Nat) (hlo : lo ≤ n) (h : IsRuns B n lo L) : (L.map Prod.snd).sum + cnt (fun i => B i == 0) lo = cnt (fun i => B i == 0) n := by
  induction L generalizing lo with
  | nil =>
    rw [cnt_none (lo := lo) hlo (fun i h1 h2 => by simpa using h i h1 h2)]; simp
  | cons s t ih =>
    obtain ⟨a, l⟩ := s
    obtain ⟨h1, h2, h3, h4, h5, h6, h7⟩ := h
    have e1 := ih (a + l) h3 h7
    have e2 := cnt_all (P := fun i => B i == 0) (lo := a) (hi := a + l) (by omega) (fun i h1 h2 => by simpa using h5 i h1 h2)
    have e3 := cnt_none (P := fun i => B i == 0) (lo := lo) (hi := a) h1 (fun i h1 h2 => by simpa using h4 i h1 h2)
    simp only [List.map_cons, List.sum_cons]
    omega
theorem runs_len {B : Nat → Int} {n : Nat} (L : List (Nat × Nat)) (lo : Nat) (hlo : lo ≤ n) (h : IsRuns B n lo L) : L.length + lo ≤ n := by
  induction L generalizing lo with
  | nil => simpa using hlo
  | cons s t ih =>
    obtain ⟨a, l⟩ := s
    obtain ⟨h1, h2, h3, h4, h5, h6, h7⟩ := h
    have := ih (a + l) h3 h7
    simp only [List.length_cons]
    omega
theorem runs_rise {B : Nat → Int} {n : Nat} (L : List (Nat × Nat)) (lo : Nat) (h : IsRuns B n lo L) :
    (∀ i, i < L.length → 1 ≤ (L.getD i (0, 0)).2 ∧ (L.getD i (0, 0)).1 + (L.getD i (0, 0)).2 ≤ n) ∧ (∀ i, i + 1 < L.length → (L.getD i (0, 0)).1 + (L.getD i (0, 0)).2 + 1 ≤ (L.getD (i + 1) (0, 0)).1) ∧ (0 < L.length → lo ≤ (L.getD 0 (0, 0)).1 ∧ B (L.getD 0 (0, 0)).1 = 0) := by
  induction L generalizing lo with
  | nil => exact ⟨fun i hi => absurd hi (by simp), fun i hi => absurd hi (by simp), fun h => absurd h (by simp)⟩
  | cons s t ih =>
    obtain ⟨a, l⟩ := s
    obtain ⟨h1, h2, h3, h4, h5, h6, h7⟩ := h
    obtain ⟨i1, i2, i3⟩ := ih (a + l) h7
    refine ⟨fun i hi => ?_, fun i hi => ?_, fun _ => ⟨h1, h5 a (Nat.le_refl _) (by omega)⟩⟩
    · cases i with
      | zero => exact ⟨h2, h3⟩
      | succ i => simpa using i1 i (by simpa using hi)
    · cases i with
      | zero =>
        have hl : 0 < t.length := by simpa using hi
        have := i3 hl
        have h8 := (i1 0 hl)
        simp only [List.getD_cons_zero, List.getD_cons_succ]
        rcases h6 with h6 | h6
        · omega
        · by_cases e : (t.getD 0 (0, 0)).1 = a + l
          · rw [e] at this; exact absurd this.2 h6
          · omega
      | succ i => simpa using i2 i (by simpa using hi)
theorem runs_one {B : Nat → Int} {n : Nat} (hn : 1 ≤ n) (hB : ∀ i, i < n → B i = 0) (L : List (Nat × Nat)) (h : IsRuns B n 0 L) : L = [(0, n)] := by
  cases L with
  | nil => exact absurd (hB 0 (by omega)) (h 0 (Nat.le_refl _) (by omega))
  | cons s t =>
    obtain ⟨a, l⟩ := s
    obtain ⟨h1, h2, h3, h4, h5, h6, h7⟩ := h
    have ha : a = 0 := by
      by_cases e : a = 0
      · exact e
      · exact absurd (hB 0 (by omega)) (h4 0 (Nat.le_refl _) (by omega))
    subst ha
    have hl : 0 + l = n := by
      rcases h6 with h6 | h6
      · exact h6
      · by_cases e : 0 + l = n
        · exact e
        · exact absurd (hB _ (by omega)) h6
    have hl' : l = n := by omega
    subst hl'
    cases t with
    | nil => rfl
    | cons s t =>
      obtain ⟨a', l'⟩ := s
      obtain ⟨g1, g2, g3, _⟩ := h7
      omega

theorem Inv.start (n : Nat) : Inv n (fun _ => 0) (fun _ => 0) [] :=
  ⟨fun h hh => absurd hh (by simp), List.Pairwise.nil, fun h hh => absurd hh (by simp), fun i _ hb => absurd rfl hb, fun _ _ _ => rfl⟩

theorem Inv.alloc {n : Nat} {B V : Nat → Int} {hs : List Held} (h : Inv n B V hs) {k a wb : Nat} (hf : FreeAt B n k a) (h1 : 1 ≤ k) (h2 : k ≤ 64) : Inv n (markTo B a (a + k)) V (hs ++ [⟨a, k, wb⟩]) := by
  have hap : ∀ x, x ∈ hs → ∀ i, x.at_ ≤ i → i < x.at_ + x.n → ¬ (a ≤ i ∧ i < a + k) := fun x hx i g1 g2 ⟨g3, g4⟩ => by
    have e1 := h.own x hx i g1 g2
    have e2 := hf.2 i g3 g4
    omega
  refine ⟨fun x hx => ?_, ?_, fun x hx i g1 g2 => ?_, fun i hi hb => ?_, fun i hi hb => ?_⟩
  · rw [List.mem_append] at hx
    rcases hx with hx | hx
    · exact h.pos x hx
    · simp at hx; subst hx; exact ⟨h1, hf.1, h2⟩
  · rw [List.pairwise_append]
    refine ⟨h.dis, List.pairwise_singleton _ _, fun x hx y hy => ?_⟩
    simp at hy; subst hy
    have hp := h.pos x hx
    have g1 := hap x hx x.at_ (Nat.le_refl _) (by omega)
    have g2 := hap x hx a
    by_cases e : x.at_ + x.n ≤ a
    · exact .inl e
    · refine .inr ?_
      show a + k ≤ x.at_
      by_cases e2 : x.at_ ≤ a
      · exact absurd ⟨Nat.le_refl _, by omega⟩ (g2 e2 (by omega))
      · omega
  · rw [List.mem_append] at hx
    unfold markTo
    rcases hx with hx | hx
    · rw [if_neg (hap x hx i g1 g2)]; exact h.own x hx i g1 g2
    · simp at hx; subst hx; rw [if_pos ⟨g1, g2⟩]
  · unfold markTo at hb
    by_cases e : a ≤ i ∧ i < a + k
    · exact ⟨⟨a, k, wb⟩, by simp, e.1, e.2⟩
    · rw [if_neg e] at hb
      obtain ⟨x, hx, g⟩ := h.cov i hi hb
      exact ⟨x, by simp [hx], g⟩
  · unfold markTo at hb
    by_cases e : a ≤ i ∧ i < a + k
    · rw [if_pos e] at hb; omega
    · rw [if_neg e] at hb; exact h.zer i hi hb

/-- two of the list lie apart -/
theorem Inv.apart {n : Nat} {B V : Nat → Int} {hs : List Held} (h : Inv n B V hs) {i j : Nat} (hi : i < hs.length) (hj : j < hs.length) (hne : i ≠ j) : hs[i].at_ + hs[i].n ≤ hs[j].at_ ∨ hs[j].at_ + hs[j].n ≤ hs[i].at_ := by
  have hp := List.pairwise_iff_getElem.1 h.dis
  by_cases e : i < j
  · exact hp i j hi hj e
  · exact (hp j i hj hi (by omega)).symm

/-- where the freed run ends -/
theorem Inv.end_ {n : Nat} {B V : Nat → Int} {hs : List Held} (h : Inv n B V hs) {j : Nat} (hj : j < hs.length) {z : Nat} (hz1 : hs[j].at_ < z) (hz2 : z ≤ n)
    (hall : ∀ i, hs[j].at_ ≤ i → i < z → B i = (hs[j].at_ : Int) + 1) (hstop : z = n ∨ B z ≠ (hs[j].at_ : Int) + 1) : z = hs[j].at_ + hs[j].n := by
  have hm := List.getElem_mem hj
  have hp := h.pos _ hm
  by_cases e1 : z < hs[j].at_ + hs[j].n
  · rcases hstop with hs' | hs'
    · omega
    · exact absurd (h.own _ hm z (by omega) e1) hs'
  · by_cases e2 : z = hs[j].at_ + hs[j].n
    · exact e2
    · exfalso
      have hb := hall (hs[j].at_ + hs[j].n) (by omega) (by omega)
      obtain ⟨x, hx, g1, g2⟩ := h.cov (hs[j].at_ + hs[j].n) (by omega) (by omega)
      have hb2 := h.own x hx _ g1 g2
      have hat : x.at_ = hs[j].at_ := by omega
      obtain ⟨i, hi, hxi⟩ := List.getElem_of_mem hx
      have hne : i ≠ j := fun e => by subst e; rw [hxi] at g2; omega
      have ha := h.apart hi hj hne
      rw [hxi] at ha
      have hpx := h.pos x hx
      omega

theorem Inv.free {n : Nat} {B V : Nat → Int} {hs : List Held} (h : Inv n B V hs) {j : Nat} (hj : j < hs.length) : Inv n (clearTo B hs[j].at_ (hs[j].at_ + hs[j].n)) (clearTo V hs[j].at_ (hs[j].at_ + hs[j].n)) (hs.eraseIdx j) := by
  have hsub := List.eraseIdx_sublist hs j
  have hout : ∀ x, x ∈ hs.eraseIdx j → ∀ i, x.at_ ≤ i → i < x.at_ + x.n → ¬ (hs[j].at_ ≤ i ∧ i < hs[j].at_ + hs[j].n) := fun x hx i g1 g2 ⟨g3, g4⟩ => by
    obtain ⟨q, hq, hqj, hxe⟩ := List.mem_eraseIdx_iff_getElem.1 hx
    have ha := h.apart hq hj hqj
    rw [hxe] at ha
    omega
  refine ⟨fun x hx => h.pos x (hsub.subset hx), h.dis.sublist hsub, fun x hx i g1 g2 => ?_, fun i hi hb => ?_, fun i hi hb => ?_⟩
  · unfold clearTo
    rw [if_neg (hout x hx i g1 g2)]
    exact h.own x (hsub.subset hx) i g1 g2
  · unfold clearTo at hb
    by_cases e : hs[j].at_ ≤ i ∧ i < hs[j].at_ + hs[j].n
    · rw [if_pos e] at hb; exact absurd rfl hb
    · rw [if_neg e] at hb
      obtain ⟨x, hx, g⟩ := h.cov i hi hb
      obtain ⟨q, hq, hqx⟩ := List.getElem_of_mem hx
      have hqj : q ≠ j := fun e2 => by subst e2; rw [hqx] at e; exact e g
      exact ⟨x, List.mem_eraseIdx_iff_getElem.2 ⟨q, hq, hqj, hqx⟩, g⟩
  · unfold clearTo at hb ⊢
    by_cases e : hs[j].at_ ≤ i ∧ i < hs[j].at_ + hs[j].n
    · rw [if_pos e]
    · rw [if_neg e] at hb ⊢; exact h.zer i hi hb

theorem Inv.store {n : Nat} {B V : Nat → Int} {hs : List Held} (h : Inv n B V hs) {k : Nat} (hk : B k ≠ 0) (u : Int) : Inv n B (upd V k u) hs :=
  ⟨h.pos, h.dis, h.own, h.cov, fun i hi hb => by
    rw [upd_ne _ _ (fun e => by subst e; exact hk hb)]; exact h.zer i hi hb⟩
end Go.Proofs.Ythcjcjfgdgnljaa

/-
  append onto a row of the call's own: besides what the library's law says, WHERE the new row lies: in a new block, or where the old one lay.
-/
namespace Go.Proofs.Ythcjcjfgdgnljaa
open Go.RowKit

section
variable {P : Program} (w : World)

theorem run_append_where (base : Nat) (t ty e : TypeId) (i : TypeInfo) (z : Value) (size bytes : Nat) (ht : P.underlying t = some (.slice e)) (hi : P.info? e = some i) (hz : i.zero = some z)
    (hsize : i.size = size) (hby : i.bytes = bytes) (hzs : z.cells.size = size) (hsz : 0 < size)
    (v : Value) (n : Nat) (xs : List Value) (hown : w.ownsRow base e size v n xs)
    (a : Addr) (m c : Nat) (news : List Value) (hm : 0 < m) (hl : news.length = m * size) (hnews : ∀ j u, news[j]? = some u → w.cell? (a.add j) = some u) (h1 : ∀ u ∈ news, u.oneCell' = true)
    (h63 : n + m ≤ maxLen) (hbytes : (n + m) * bytes ≤ 140737488355328) (hbase : base ≤ w.heap.size) :
    ∃ v' w', (Builtin.append_ #[t, t] ty #[v, .slice (some a) m c]).run P w = .ok v' w' ∧ w'.ownsRow base e size v' (n + m) (xs ++ news) ∧ w.grownBy w' v.ownBlock ∧
      (v'.ownBlock = some w.heap.size ∨ (v'.ownBlock = v.ownBlock ∧ v.ownBlock ≠ none)) := by
  obtain ⟨v', w', hr, h2, h3, _⟩ := run_append_own (P := P) w base t ty e i z size bytes ht hi hz hsize hby hzs hsz v n xs hown a m c news hl hnews h1 h63 hbytes hbase
  refine ⟨v', w', hr, h2, h3, ?_⟩
  have hsmall : n + m ≤ 9223372036854775807 := by simp only [maxLen] at h63; omega
  subst hsize
  subst hby
  rcases hown.2 with ⟨rfl, rfl⟩ | ⟨g, cap, cur, rfl, hbg, hg, hnc, hcm, hcs, htake⟩
  · have hr2 := run_append_nil (P := P) w t ty e i z ht hi hz a m c news hl hnews hm (by omega) (by have hb := hbytes; simp only [Nat.zero_add] at hb; omega)
    have he := hr.symm.trans hr2
    injection he with e1 e2
    rw [e1]
    exact .inl rfl
  · by_cases hroom : n + m ≤ cap
    · have hfit : n * i.size + news.length ≤ cur.size := by rw [hl, hcs, ← Nat.add_mul]; exact Nat.mul_le_mul_right _ hroom
      have hr2 := run_append_room (P := P) w t ty e i ht hi g n cap cur hg a m c news hl hnews h1 hroom hfit
      have he := hr.symm.trans hr2
      injection he with e1 e2
      rw [e1]
      exact .inr ⟨rfl, by simp [Value.ownBlock]⟩
    · have holds : ∀ j u, xs[j]? = some u → w.cell? ((⟨g, 0, none⟩ : Addr).add j) = some u := hown.cells (g := g) rfl
      have hr2 := run_append_grow (P := P) w t ty e i z ht hi hz ⟨g, 0, none⟩ n cap xs hown.1 holds a m c news hl hnews (by omega) (by omega) (growslice_fits (by omega) hbytes)
      have he := hr.symm.trans hr2
      injection he with e1 e2
      rw [e1]
      exact .inl rfl

theorem wpList_append_where {ops : Array Oper} {rest : List Oper} {o : Oper} {a : Act} {Q : Exit → Act → World → Prop} (hgd : o.guard = none) (s x : Operand) (t : TypeId)
    (ho : o.op = .call { callee := .builtin .append, args := #[s, x], argTypes := #[t, t] })
    (base : Nat) (e : TypeId) (i : TypeInfo) (z : Value) (size bytes : Nat) (ht : P.underlying t = some (.slice e)) (hi : P.info? e = some i) (hz : i.zero = some z)
    (hsize : i.size = size) (hby : i.bytes = bytes) (hzs : z.cells.size = size) (hsz : 0 < size)
    (v : Value) (n : Nat) (xs : List Value) (hs : a.eval s = v) (hown : w.ownsRow base e size v n xs)
    (ad : Addr) (m c : Nat) (news : List Value) (hm : 0 < m) (hx : a.eval x = .slice (some ad) m c) (hl : news.length = m * size) (hnews : ∀ j u, news[j]? = some u → w.cell? (ad.add j) = some u) (h1 : ∀ u ∈ news, u.oneCell' = true)
    (h63 : n + m ≤ maxLen) (hbytes : (n + m) * bytes ≤ 140737488355328) (hbase : base ≤ w.heap.size)
    (h : ∀ v' w', w'.ownsRow base e size v' (n + m) (xs ++ news) → w.grownBy w' v.ownBlock → (v'.ownBlock = some w.heap.size ∨ (v'.ownBlock = v.ownBlock ∧ v.ownBlock ≠ none)) → wpList P ops Q rest (a.put o.dst v') w') : wpList P ops Q (o :: rest) a w := by
  refine wpList_plain hgd fun K hK => ?_
  obtain ⟨v', w', hr, h2, h3, h4⟩ := run_append_where (P := P) w base t o.type e i z size bytes ht hi hz hsize hby hzs hsz v n xs hown ad m c news hm hl hnews h1 h63 hbytes hbase
  unfold Oper.wp execOp
  simp only [ho, resolve, invoke, builtin, Sem.run_bind, Sem.run_pure, Result.andThen_ok, List.map_toArray, List.map_cons, List.map_nil, hs, hx, hr]
  exact hK _ _ (h v' w' h2 h3 h4)
end
end Go.Proofs.Ythcjcjfgdgnljaa

namespace Go.Proofs.Ythcjcjfgdgnljaa
open Go.RowKit

/-- the list in memory, and the words of each of its blocks -/
structure Mem (w : World) (base p r : Nat) (v : Value) (hs : List Held) (V : Nat → Int) : Prop where
  row : w.ownsRow base 34 3 v hs.length (heldCells hs)
  cell : ∀ h, h ∈ hs → ∀ j, j < h.n → w.cell? ⟨h.wb, j, none⟩ = some (.int .i64 (V (h.at_ + j)))
  frz : ∀ h, h ∈ hs → ∀ o, w.frozen? ⟨h.wb, o, none⟩ = false
  lo : ∀ h, h ∈ hs → base ≤ h.wb ∧ h.wb < w.heap.size
  ne : ∀ h, h ∈ hs → h.wb ≠ p ∧ h.wb ≠ r ∧ v.ownBlock ≠ some h.wb
  dist : hs.Pairwise (fun x y => x.wb ≠ y.wb)
  vp : v.ownBlock ≠ some p
  vr : v.ownBlock ≠ some r

theorem Mem.fr {S : Nat → Prop} {w w' : World} {base p r : Nat} {v : Value} {hs : List Held} {V : Nat → Int} (h : Mem w base p r v hs V) (hf : Fr S w w') (hv : ∀ g, v.ownBlock = some g → ¬ S g) (hw : ∀ x, x ∈ hs → ¬ S x.wb) : Mem w' base p r v hs V :=
  ⟨hf.owns h.row hv, fun x hx j hj => hf.cell_some (h.cell x hx j hj) (hw x hx), fun x hx o => (hf.frozen (p := ⟨x.wb, o, none⟩) (h.lo x hx).2 (hw x hx)).trans (h.frz x hx o),
    fun x hx => ⟨(h.lo x hx).1, Nat.lt_of_lt_of_le (h.lo x hx).2 hf.size⟩, h.ne, h.dist, h.vp, h.vr⟩
/-- the heap's words may have turned -/
theorem Mem.fr_r {w w' : World} {base p r : Nat} {v : Value} {hs : List Held} {V : Nat → Int} (h : Mem w base p r v hs V) (hf : Fr (OneB r) w w') : Mem w' base p r v hs V :=
  h.fr hf (fun g hg e => h.vr (by rw [hg]; exact congrArg some e)) (fun x hx e => (h.ne x hx).2.1 e)
theorem Mem.no {w w' : World} {base p r : Nat} {v : Value} {hs : List Held} {V : Nat → Int} (h : Mem w base p r v hs V) (hf : Fr NoB w w') : Mem w' base p r v hs V := h.fr hf (fun _ _ e => e) (fun _ _ e => e)

theorem Mem.heldRow {w : World} {base p r n : Nat} {v : Value} {hs : List Held} {B V : Nat → Int} (h : Mem w base p r v hs V) (hi : Inv n B V hs) (hn : n ≤ 4096) :
    ∃ ao cap, v = .slice ao hs.length cap ∧ HeldRow w ao hs.length (fun i => (hs.getD i heldZ).at_) (fun i => (hs.getD i heldZ).n) (fun i => words (hs.getD i heldZ)) ∧ (∀ g, ao = some ⟨g, 0, none⟩ → v.ownBlock = some g) :=
  heldRow_of h.row (fun x hx => by have := (hi.pos x hx).2.1; omega) (by have := hi.len; omega)

theorem Try.infoInt : (Try.prog.info? 3).map (fun i => (i.zero, i.size, i.bytes)) = some (some (.int .i64 0), 1, 8) := by kernel_rfl

theorem made_one (n j : Nat) (h : j < n) : (madeCells #[Value.int .i64 0] n)[j]? = some (.int .i64 0) := by
  unfold madeCells
  simp [h, Nat.mod_one]

theorem ints_made (n : Nat) (hn : n ≤ 4096) : ∃ C : Array Value, (∀ j, j < n → C[j]? = some (.int .i64 0)) ∧
    ∀ u : World, (Instr.makeSlice 32 (.int .i64 (n : Int)) (.int .i64 (n : Int))).run Try.prog u = .ok (.slice (some ⟨u.heap.size, 0, none⟩) n n) (u.alloc (.cells C 3)) := by
  obtain ⟨i0, hi, hz0, hz1, hz2⟩ := info_parts Try.infoInt
  refine ⟨madeCells #[Value.int .i64 0] n, fun j hj => made_one _ _ hj, fun u => ?_⟩
  have h := run_make (P := Try.prog) u 32 3 i0 (.int .i64 0) Try.underlying32 hi hz0 .i64 .i64 (n : Int) (n : Int) (by omega) (Int.le_refl _) (by rw [hz2]; omega) (by omega)
  simpa [hz1, Value.cells] using h

def GrowS (r : Nat) (v : Value) : Nat → Prop := fun q => q = r ∨ v.ownBlock = some q

set_option maxHeartbeats 1000000 in
theorem kgrows_no (w : World) (base p r n k : Nat) (B V : Nat → Int) (v : Value) (hs : List Held) (h : HeapAt w p r n B V) (hi : Inv n B V hs) (hm : Mem w base p r v hs V) (hk1 : 1 ≤ k) (hk2 : k ≤ 64)
    (hno : ∀ b, ¬ FreeAt B n k b) :
    Calls Try.prog 10 #[.pointer (some ⟨p, 0, none⟩), v, .int .i64 (k : Int), .int .i64 (n : Int)] w fun e w' => e = .returned (.tuple #[v, .bool true]) ∧ Fr NoB w w' := by
  have hn := h.hi
  obtain ⟨ao, cap, rfl, hrow, hao⟩ := hm.heldRow hi hn
  have Hno : Hid (∀ b, ¬ FreeAt B n k b) := hno
  clear hno hao
  go_enter Try.func10, Try.ntmps10
  go_wp2_with fail
  refine (salloc_any _ p r n B V k h hk1 hk2).mono ?_
  intro e w1 hq
  rcases hq with ⟨a, h1, _⟩ | ⟨_, rfl, hF1⟩
  · exact absurd h1 (Hno.out a)
  go_wp2_with fail
  refine (kroom_any _ ao hs.length cap _ _ _ k n (hrow.no hF1) hk1 hk2 hn).mono ?_
  rintro e w2 ⟨⟨a, _, h2, _⟩ | ⟨rfl, _⟩, hF2⟩
  · exact absurd ((hi.room k a).2 h2) (Hno.out a)
  have H : Hid (Fr NoB w w2) := hF1.trans hF2
  clear hF1 hF2 hrow
  go_wp2
  go_ret2
  exact ⟨rfl, H.out⟩

theorem grow_apart {n k a : Nat} {B V : Nat → Int} {hs : List Held} (hi : Inv n B V hs) (hf : FreeAt B n k a) (hk : 1 ≤ k) : ∀ i, i < hs.length → ¬ (a < (hs.getD i heldZ).at_ + (hs.getD i heldZ).n ∧ (hs.getD i heldZ).at_ < a + k) := fun i h ⟨h1, h2⟩ => by
  have e : hs.getD i heldZ = hs[i] := by simp [h]
  rw [e] at h1 h2
  have hm := List.getElem_mem h
  have hp := hi.pos _ hm
  by_cases g : a ≤ hs[i].at_
  · have e1 := hf.2 hs[i].at_ g h2
    have e2 := hi.own _ hm hs[i].at_ (Nat.le_refl _) (by omega)
    omega
  · have e1 := hf.2 a (Nat.le_refl _) (by omega)
    have e2 := hi.own _ hm a (by omega) h1
    omega

theorem grow_end {w w3 w4 : World} {o : Obj} {base p r n k a wb : Nat} {B V : Nat → Int} {v v' : Value} {hs : List Held} (hi : Inv n B V hs) (hF : Fr (OneB r) w w3) (hM : Mem w3 base p r v hs V) (hH : HeapAt w3 p r n (markTo B a (a + k)) V)
    (hc : ∀ j, j < k → w3.cell? ⟨wb, j, none⟩ = some (.int .i64 0)) (hz : ∀ o, w3.frozen? ⟨wb, o, none⟩ = false) (hb : base ≤ w.heap.size) (hwb : w.heap.size ≤ wb) (hwl : wb < w3.heap.size) (hfa : FreeAt B n k a)
    (hown : w4.ownsRow base 34 3 v' (hs.length + 1) (heldCells hs ++ [.int .i64 (a : Int), .int .i64 (k : Int), .slice (some ⟨wb, 0, none⟩) k k])) (hg : (w3.alloc o).grownBy w4 v.ownBlock)
    (hw : v'.ownBlock = some (w3.heap.size + 1) ∨ (v'.ownBlock = v.ownBlock ∧ v.ownBlock ≠ none)) (hvwb : v.ownBlock ≠ some wb) (hwp : wb ≠ p ∧ wb ≠ r) (hdw : ∀ x, x ∈ hs → x.wb ≠ wb) :
    HeapAt w4 p r n (markTo B a (a + k)) V ∧ Mem w4 base p r v' (hs ++ [⟨a, k, wb⟩]) V ∧ Fr (GrowS r v) w w4 := by
  have hfr : Fr (fun q => v.ownBlock = some q) w3 w4 := ((Fr.refl _ w3).alloc o).then (Fr.of_grown (S := fun q => v.ownBlock = some q) hg (fun k _ e => e)) (fun _ _ h => h)
  have hnew : ∀ q, q < w3.heap.size → v.ownBlock ≠ some q → v'.ownBlock ≠ some q := fun q hq hv e => by
    rcases hw with h | h
    · rw [h] at e; injection e with e; omega
    · rw [h.1] at e; exact hv e
  have hpl := hH.pl
  have hrl := hH.rl
  have hsz := hfr.size
  refine ⟨hH.fr hfr hM.vp hM.vr, ⟨?_, fun x hx j hj => ?_, fun x hx q => ?_, fun x hx => ?_, fun x hx => ?_, ?_, hnew p hpl hM.vp, hnew r hrl hM.vr⟩, ?_⟩
  · rw [heldCells_snoc, List.length_append]; exact hown
  · rw [List.mem_append] at hx
    rcases hx with hx | hx
    · exact hfr.cell_some (hM.cell x hx j hj) (hM.ne x hx).2.2
    · simp at hx; subst hx
      have hv0 : V (a + j) = 0 := hi.zer _ (by have := hfa.1; simp at hj; omega) (hfa.2 _ (by omega) (by simp at hj; omega))
      show w4.cell? ⟨wb, j, none⟩ = some (.int .i64 (V (a + j)))
      rw [hv0]
      exact hfr.cell_some (hc j hj) hvwb
  · rw [List.mem_append] at hx
    rcases hx with hx | hx
    · exact (hfr.frozen (p := ⟨x.wb, q, none⟩) (hM.lo x hx).2 (hM.ne x hx).2.2).trans (hM.frz x hx q)
    · simp at hx; subst hx
      exact (hfr.frozen (p := ⟨wb, q, none⟩) hwl hvwb).trans (hz q)
  · rw [List.mem_append] at hx
    rcases hx with hx | hx
    · have := hM.lo x hx; omega
    · simp at hx; subst hx
      show base ≤ wb ∧ wb < w4.heap.size
      omega
  · rw [List.mem_append] at hx
    rcases hx with hx | hx
    · exact ⟨(hM.ne x hx).1, (hM.ne x hx).2.1, hnew _ (hM.lo x hx).2 (hM.ne x hx).2.2⟩
    · simp at hx; subst hx
      exact ⟨hwp.1, hwp.2, hnew wb hwl hvwb⟩
  · rw [List.pairwise_append]
    refine ⟨hM.dist, List.pairwise_singleton _ _, fun x hx y hy => ?_⟩
    simp at hy; subst hy
    exact hdw x hx
  · exact (hF.mono (fun q _ e => .inl e)).then hfr (fun q _ e => .inr e)

set_option maxRecDepth 20000 in
set_option maxHeartbeats 1000000 in
theorem kgrows_yes (w : World) (base p r n k a : Nat) (B V : Nat → Int) (v : Value) (hs : List Held) (h : HeapAt w p r n B V) (hi : Inv n B V hs) (hm : Mem w base p r v hs V) (hb : base ≤ w.heap.size) (hk1 : 1 ≤ k) (hk2 : k ≤ 64)
    (hfa : FreeAt B n k a) (hmin : ∀ b, FreeAt B n k b → a ≤ b) :
    Calls Try.prog 10 #[.pointer (some ⟨p, 0, none⟩), v, .int .i64 (k : Int), .int .i64 (n : Int)] w fun e w' => ∃ v' wb, e = .returned (.tuple #[v', .bool true]) ∧
      HeapAt w' p r n (markTo B a (a + k)) V ∧ Mem w' base p r v' (hs ++ [⟨a, k, wb⟩]) V ∧ Fr (GrowS r v) w w' := by
  have hn := h.hi
  have han := hfa.1
  have hlen := hi.len
  obtain ⟨ao, cap, hv, hrow, hao⟩ := hm.heldRow hi hn
  have Hfa : Hid (FreeAt B n k a) := hfa
  have Hmin : Hid (∀ b, FreeAt B n k b → a ≤ b) := hmin
  obtain ⟨C, hC, hmk⟩ := ints_made k (by omega)
  obtain ⟨i0, hi0, hz0, hz1, hz2⟩ := info_parts Try.infoHeld
  have HC : Hid (∀ j, j < k → C[j]? = some (.int .i64 0)) := hC
  have HM : Hid (Mem w base p r v hs V) := hm
  have HAO : Hid (∀ g, ao = some ⟨g, 0, none⟩ → v.ownBlock = some g) := hao
  have HV : Hid (v = .slice ao hs.length cap) := hv
  clear hfa hmin hC hm hao
  rw [hv]
  clear hv
  go_enter Try.func10, Try.ntmps10
  go_wp2_with fail
  refine (salloc_any _ p r n B V k h hk1 hk2).mono ?_
  intro e w1 hq
  rcases hq with ⟨a', h1, h2, rfl, hH1, hF1⟩ | ⟨h1, _⟩
  rotate_left
  · exact absurd Hfa.out (h1 a)
  have ha' : a' = a := by have := h2 a Hfa.out; have := Hmin.out a' h1; omega
  subst ha'
  clear h1 h2
  have hrow1 := hrow.fr hF1 (fun g hg e => HM.out.vr (by rw [HAO.out g hg]; exact congrArg some e))
  go_wp2_with fail
  refine (kroom_any _ ao hs.length cap _ _ _ k n hrow1 hk1 hk2 hn).mono ?_
  rintro e w2 ⟨⟨a2, rfl, h2, h3⟩ | ⟨_, h2⟩, hF2⟩
  rotate_left
  · exact absurd ((hi.room k a').1 Hfa.out) (h2 a')
  have ha2 : a2 = a' := by have := h3 a' ((hi.room k a').1 Hfa.out); have := Hmin.out a2 ((hi.room k a2).2 h2); omega
  subst ha2
  clear h2 h3
  have hrow2 := hrow1.no hF2
  have hH2 := hH1.no hF2
  have HF : Hid (Fr (OneB r) w w2) := hF1.then hF2 (fun _ _ e => e.elim)
  clear hF1 hF2 hrow1 hrow hH1 h
  go_wp2_with fail
  have hal : Fr NoB w2 ((w2.alloc (Obj.cells C 3)).alloc (Obj.cells #[Value.int .i64 a2, Value.int .i64 k, Value.slice (some ⟨w2.heap.size, 0, none⟩) k k] 34)) := ((Fr.refl _ _).alloc _).alloc _
  refine (kapart_yes _ ao hs.length cap n a2 k _ _ _ _ (hrow2.no hal) hn han (grow_apart hi Hfa.out hk1)).mono ?_
  rintro e w3 ⟨rfl, hF3⟩
  have hb0 : w3.cell? ⟨w2.heap.size + 1, 0, none⟩ = some (.int .i64 a2) := hF3.cell_some (by rw [World.cell?_alloc_at _ _ _ _ (by simp)]; rfl) id
  have hb1 : w3.cell? ⟨w2.heap.size + 1, 1, none⟩ = some (.int .i64 k) := hF3.cell_some (by rw [World.cell?_alloc_at _ _ _ _ (by simp)]; rfl) id
  have hb2 : w3.cell? ⟨w2.heap.size + 1, 2, none⟩ = some (.slice (some ⟨w2.heap.size, 0, none⟩) k k) := hF3.cell_some (by rw [World.cell?_alloc_at _ _ _ _ (by simp)]; rfl) id
  have hF3' : Fr NoB w2 w3 := hal.trans hF3
  have hwc : ∀ j, j < k → w3.cell? ⟨w2.heap.size, j, none⟩ = some (.int .i64 0) := fun j hj =>
    hF3.cell_some (by rw [World.cell?_alloc_past _ _ _ (by simp), World.cell?_alloc_at _ _ _ _ (by simp)]; exact HC.out j hj) id
  have hwf : ∀ o, w3.frozen? ⟨w2.heap.size, o, none⟩ = false := fun o => by
    rw [hF3.frozen (p := ⟨w2.heap.size, o, none⟩) (by simp; omega) id, World.frozen?_alloc_past _ _ _ (by simp), World.frozen?_alloc_at _ _ _ _ (by simp)]
  have hs3 : w2.heap.size + 1 < w3.heap.size := World.block_lt_of_cell? _ _ hb0
  have hs2 := HF.out.size
  have HW : Hid ((∀ j, j < k → w3.cell? ⟨w2.heap.size, j, none⟩ = some (.int .i64 0)) ∧ (∀ o, w3.frozen? ⟨w2.heap.size, o, none⟩ = false) ∧ HeapAt w3 p r n (markTo B a2 (a2 + k)) V) := ⟨hwc, hwf, hH2.no hF3'⟩
  have hM2 := HM.out.fr_r HF.out
  have HNW : Hid (v.ownBlock ≠ some w2.heap.size ∧ (w2.heap.size ≠ p ∧ w2.heap.size ≠ r) ∧ ∀ x, x ∈ hs → x.wb ≠ w2.heap.size) :=
    ⟨fun e => by have := (hM2.row.lt _ e).2; omega, ⟨by have := hH2.pl; omega, by have := hH2.rl; omega⟩, fun x hx => by have := (hM2.lo x hx).2; omega⟩
  have hM3 := hM2.no hF3'
  have hown := hM3.row
  have HM3 : Hid (Mem w3 base p r v hs V) := hM3
  rw [HV.out] at hown
  have HFr : Hid (Fr (OneB r) w w3) := HF.out.then hF3' (fun _ _ e => e.elim)
  clear hwc hwf hH2 hrow2 hF3 hF3' hal HF hmk hM3 hM2
  go_wp2_with (at_builtin; refine wpList_append_where _ rfl _ _ 28 rfl base 34 i0 (.agg #[.int .i64 0, .int .i64 0, .slice none 0 0]) 3 40 Try.underlying28 hi0 hz0 hz1 hz2 rfl (by decide) _ _ _ rfl (hown.alloc _) ⟨w3.heap.size, 0, none⟩ 1 1 [.int .i64 (a2 : Int), .int .i64 (k : Int), .slice (some ⟨w2.heap.size, 0, none⟩) k k] (by decide) rfl rfl ?c1 ?c2 ?c3 ?c4 ?c5 ?_)
  case c1 =>
    intro j u hj
    match j, hj with
    | 0, hj => simp at hj; subst hj; simp [Addr.add]
    | 1, hj => simp at hj; subst hj; simp [Addr.add]
    | 2, hj => simp at hj; subst hj; simp [Addr.add]
  case c2 => intro u hu; simp at hu; rcases hu with rfl | rfl | rfl <;> rfl
  case c3 => unfold maxLen; omega
  case c4 => omega
  case c5 => simp; omega
  intro v' w4 hown' hgrow hwhere
  rw [← HV.out] at hgrow hwhere
  have HE : Hid (HeapAt w4 p r n (markTo B a2 (a2 + k)) V ∧ Mem w4 base p r v' (hs ++ [⟨a2, k, w2.heap.size⟩]) V ∧ Fr (GrowS r v) w w4) :=
    grow_end hi HFr.out HM3.out HW.out.2.2 HW.out.1 HW.out.2.1 hb hs2 (by omega) Hfa.out hown' hgrow hwhere HNW.out.1 HNW.out.2.1 HNW.out.2.2
  clear hown' hgrow hown hwhere
  go_wp2
  go_ret2
  exact ⟨v', w2.heap.size, rfl, by have h := HE.out; rw [HV.out] at h; exact h⟩
end Go.Proofs.Ythcjcjfgdgnljaa
