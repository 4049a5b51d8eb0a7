/-
  TxtB, LowC: one behind the other.
-/
import Derived.Test.YthcjcjfgdgnljaaDoorGLowB
import Derived.Test.YthcjcjfgdgnljaaDoorGTurC
namespace Go.Proofs.YthcjcjfgdgnljaaDoor
set_option linter.unusedVariables false

/-- from i up to j stand the sentences P -/
def Good (T : ByteArray) (i j : Nat) (P : Pg) : Prop := i ≤ j ∧ ∀ F, j - i < F → Prog T F i j ∧ pgN T F i j = P
theorem Good.nil (T : ByteArray) (i : Nat) : Good T i i .nil := ⟨Nat.le_refl _, fun F hF => by
  obtain ⟨F, rfl⟩ : ∃ g, F = g + 1 := ⟨F - 1, by omega⟩
  exact ⟨.inl rfl, pgN_end⟩⟩
theorem Good.act {T : ByteArray} {i m j : Nat} {P : Pg} (hS : Simple T i m) (h : Good T m j P) : Good T i j (.act (acN T i) P) := by
  have hl := hS.line.1
  have hm := h.1
  refine ⟨by omega, fun F hF => ?_⟩
  obtain ⟨F, rfl⟩ : ∃ g, F = g + 1 := ⟨F - 1, by omega⟩
  obtain ⟨h1, h2⟩ := h.2 F (by omega)
  exact ⟨.inr ⟨m, .inl hS, h1⟩, by rw [pgN_simple hS (by omega), h2]⟩
theorem Good.ite {T : ByteArray} {i a b c j : Nat} {P Q R : Pg} (e : bt T i = 63) (ho : Opnd T (i + 1) a) (ha : bt T a = 123) (hp : Good T (a + 1) b P) (hb : bt T b = 125) (hb1 : bt T (b + 1) = 123) (hq : Good T (b + 2) c Q) (hc : bt T c = 125) (hr : Good T (c + 1) j R) :
    Good T i j (.ite (odN T (i + 1)) P Q R) := by
  have l1 := ho.lt
  have l2 := hp.1
  have l3 := hq.1
  have l4 := hr.1
  refine ⟨by omega, fun F hF => ?_⟩
  obtain ⟨F, rfl⟩ : ∃ g, F = g + 1 := ⟨F - 1, by omega⟩
  obtain ⟨p1, p2⟩ := hp.2 F (by omega)
  obtain ⟨q1, q2⟩ := hq.2 F (by omega)
  obtain ⟨r1, r2⟩ := hr.2 F (by omega)
  exact ⟨.inr ⟨c + 1, .inr (.inl ⟨e, a, b, c, ho, ha, p1, hb, hb1, q1, hc, rfl⟩), r1⟩, by rw [pgN_if (ifAt_of e ho ha p1 hb hb1 q1 hc) (by omega), p2, q2, r2]⟩
theorem Good.loop {T : ByteArray} {i a b j : Nat} {P R : Pg} (e : bt T i = 64) (ho : Opnd T (i + 1) a) (ha : bt T a = 123) (hp : Good T (a + 1) b P) (hb : bt T b = 125) (hr : Good T (b + 1) j R) :
    Good T i j (.loop (odN T (i + 1)) P R) := by
  have l1 := ho.lt
  have l2 := hp.1
  have l4 := hr.1
  refine ⟨by omega, fun F hF => ?_⟩
  obtain ⟨F, rfl⟩ : ∃ g, F = g + 1 := ⟨F - 1, by omega⟩
  obtain ⟨p1, p2⟩ := hp.2 F (by omega)
  obtain ⟨r1, r2⟩ := hr.2 F (by omega)
  exact ⟨.inr ⟨b + 1, .inr (.inr ⟨e, a, b, ho, ha, p1, hb, rfl⟩), r1⟩, by rw [pgN_loop (loopAt_of e ho ha p1 hb) (by omega), p2, r2]⟩
/-- the text R stands in T from i on -/
def Emb (T : ByteArray) (i : Nat) (R : ByteArray) : Prop := ∀ k, k < R.size → bt T (i + k) = bt R k
theorem bt_app (x y : ByteArray) (k : Nat) : bt (x ++ y) k = if k < x.size then bt x k else bt y (k - x.size) := by
  have hs : (x ++ y).size = x.size + y.size := ByteArray.size_append
  by_cases h : k < x.size
  · rw [if_pos h, bt_in (by omega), bt_in h]
    congr 1
    exact ByteArray.getElem_append_left h
  · rw [if_neg h]
    by_cases h2 : k < x.size + y.size
    · rw [bt_in (by omega), bt_in (by omega)]
      congr 1
      exact ByteArray.getElem_append_right (by omega)
    · rw [bt_out (by omega), bt_out (by omega)]
theorem Emb.left {T : ByteArray} {i : Nat} {x y : ByteArray} (h : Emb T i (x ++ y)) : Emb T i x := fun k hk => by
  have hs : (x ++ y).size = x.size + y.size := ByteArray.size_append
  rw [h k (by omega), bt_app, if_pos hk]
theorem Emb.right {T : ByteArray} {i : Nat} {x y : ByteArray} (h : Emb T i (x ++ y)) : Emb T (i + x.size) y := fun k hk => by
  have hs : (x ++ y).size = x.size + y.size := ByteArray.size_append
  have := h (x.size + k) (by omega)
  rw [bt_app, if_neg (by omega), show x.size + k - x.size = k by omega] at this
  rw [Nat.add_assoc]
  exact this
theorem Emb.self (T : ByteArray) : Emb T 0 T := fun k _ => by rw [Nat.zero_add]
/-- a piece of text, and what it says ahead of whatever -/
def Text (R : ByteArray) (C : Pg → Pg) : Prop := ∀ (T : ByteArray) (i : Nat), Emb T i R → ∀ {j : Nat} {Q : Pg}, Good T (i + R.size) j Q → Good T i j (C Q)
theorem Text.nil {R : ByteArray} (h : R.size = 0) : Text R id := fun T i _ j Q hQ => by rw [h, Nat.add_zero] at hQ; exact hQ
theorem Text.app {x y : ByteArray} {C D : Pg → Pg} (h : Text x C) (g : Text y D) : Text (x ++ y) (fun Q => C (D Q)) := fun T i hE j Q hQ => by
  have hs : (x ++ y).size = x.size + y.size := ByteArray.size_append
  rw [hs, ← Nat.add_assoc] at hQ
  exact h T i hE.left (g T _ hE.right hQ)
theorem Text.good {R : ByteArray} {C : Pg → Pg} (h : Text R C) {T : ByteArray} {i : Nat} (hE : Emb T i R) : Good T i (i + R.size) (C .nil) := h T i hE (Good.nil T _)
/-- n bytes of s from a on stand in T from i on -/
def Cp (s : ByteArray) (a : Nat) (T : ByteArray) (i n : Nat) : Prop := ∀ k, k < n → bt T (i + k) = bt s (a + k)
theorem size_ext {s : ByteArray} {a b : Nat} (h : a ≤ b) (hb : b ≤ s.size) : (s.extract a b).size = b - a := by
  rw [ByteArray.size_extract]
  omega
theorem bt_ext {s : ByteArray} {a b k : Nat} (hb : b ≤ s.size) (hk : k < b - a) : bt (s.extract a b) k = bt s (a + k) := by
  rw [bt_in (by rw [ByteArray.size_extract]; omega), bt_in (by omega)]
  congr 1
  exact ByteArray.getElem_extract _
theorem Emb.cp {s T : ByteArray} {a b i : Nat} (h : a ≤ b) (hb : b ≤ s.size) (hE : Emb T i (s.extract a b)) : Cp s a T i (b - a) := fun k hk => by
  rw [hE k (by rw [size_ext h hb]; exact hk), bt_ext hb hk]
section
variable {s T : ByteArray} {a i n : Nat}
theorem Cp.eq (h : Cp s a T i n) {k : Nat} (hk : k < n) : bt T (i + k) = bt s (a + k) := h k hk
theorem Cp.opnd (h : Cp s a T i n) {x y : Nat} (ho : Opnd s (a + x) (a + y)) (hy : y ≤ n) : Opnd T (i + x) (i + y) := by
  have hl := ho.lt
  rcases ho with ⟨h1, h2⟩ | ⟨h1, h2, h3⟩
  · exact .inl ⟨by rw [h.eq (by omega)]; exact h1, by omega⟩
  · refine .inr ⟨by omega, by omega, fun k k1 k2 => ?_⟩
    have := h3 (a + (k - i)) (by omega) (by omega)
    rw [← h.eq (by omega), show i + (k - i) = k by omega] at this
    exact this
theorem Cp.dec (h : Cp s a T i n) {x : Nat} : ∀ {m : Nat}, x + m ≤ n → decN T (i + x) m = decN s (a + x) m
  | 0, _ => rfl
  | m + 1, hm => by
    show 10 * decN T (i + x) m + (bt T (i + x + m) - 48) = 10 * decN s (a + x) m + (bt s (a + x + m) - 48)
    rw [Cp.dec h (by omega), Nat.add_assoc i, Nat.add_assoc a, h.eq (by omega)]
theorem Cp.od (h : Cp s a T i n) {x y : Nat} (ho : Opnd s (a + x) (a + y)) (hy : y < n) (hys : a + y < s.size) (hyt : i + y < T.size) (hd : digitN (bt s (a + y)) = false) : odN T (i + x) = odN s (a + x) := by
  have hl := ho.lt
  unfold odN
  rw [bopN_eq ho hys hd, bopN_eq (h.opnd ho (by omega)) hyt (by rw [h.eq hy]; exact hd), h.eq (by omega), show i + y - (i + x) = a + y - (a + x) by omega, h.dec (by omega)]
end
/-- a sentence without braces, copied -/
theorem Cp.simple {s T : ByteArray} {a m i : Nat} (h : Cp s a T i (m - a)) (hS : Simple s a m) : Simple T i (i + (m - a)) ∧ acN T i = acN s a := by
  have e0 : ∀ {k x : Nat}, k < m - a → bt s (a + k) = x → bt T (i + k) = x := fun hk e => by rw [h.eq hk]; exact e
  have es : ∀ {k : Nat}, k < m - a → smallN (bt s (a + k)) = true → smallN (bt T (i + k)) = true := fun hk e => by rw [h.eq hk]; exact e
  have eg : ∀ {k : Nat}, k < m - a → greatN (bt s (a + k)) = true → greatN (bt T (i + k)) = true := fun hk e => by rw [h.eq hk]; exact e
  have z1 := fun (hk : 0 < m - a) => (show bt T i = bt s a from h.eq hk)
  have lt : ∀ {T : ByteArray} {k x : Nat}, bt T k = x → x ≠ 0 → k < T.size := fun h0 h1 => byte_in h0 h1
  rcases hS with q | q | q | q | q | q | q | q | q
  · have q' := q
    obtain ⟨h1, h2, h3, h4, h5, hm⟩ := q
    have k0 := z1 (by omega)
    have q2 : KSize T i (i + (m - a)) := ⟨by rw [k0]; exact h1, e0 (by omega) h2, e0 (by omega) h3, eg (by omega) h4, e0 (by omega) h5, by omega⟩
    exact ⟨.inl q2, by rw [acN_size q', acN_size q2, k0, h.eq (k := 3) (by omega)]⟩
  · have q' := q
    obtain ⟨h1, h2, h3, h4, k, h5, h6, h7, hm⟩ := q
    obtain ⟨y, rfl⟩ : ∃ y, k = a + y := ⟨k - a, by have := h5.lt; omega⟩
    have l5 := h5.lt
    have k0 := z1 (by omega)
    have g6 := e0 (by omega) h6
    have q2 : KLoad T i (i + (m - a)) := ⟨by rw [k0]; exact h1, e0 (by omega) h2, eg (by omega) h3, e0 (by omega) h4, i + y, h.opnd h5 (by omega), g6, e0 (k := y + 1) (by omega) h7, by omega⟩
    exact ⟨.inr (.inl q2), by rw [acN_load q', acN_load q2, k0, h.eq (k := 2) (by omega), h.od h5 (by omega) (lt h6 (by decide)) (lt g6 (by decide)) (by rw [h6]; rfl)]⟩
  · obtain ⟨h1, h2, k, h5, h6, hm⟩ := q
    obtain ⟨y, rfl⟩ : ∃ y, k = a + y := ⟨k - a, by have := h5.lt; omega⟩
    have l5 := h5.lt
    have k0 := z1 (by omega)
    have g6 := e0 (by omega) h6
    have g1 : smallN (bt T i) = true := by rw [k0]; exact h1
    have g5 := h.opnd h5 (by omega)
    exact ⟨.inr (.inr (.inl ⟨g1, e0 (by omega) h2, i + y, g5, g6, by omega⟩)), by rw [acN_set h1 h5 h6, acN_set g1 g5 g6, k0, h.od h5 (by omega) (lt h6 (by decide)) (lt g6 (by decide)) (by rw [h6]; rfl)]⟩
  · obtain ⟨h1, h2, k, l, h5, h6, h7, h8, hm⟩ := q
    obtain ⟨y, rfl⟩ : ∃ y, k = a + y := ⟨k - a, by have := h5.lt; omega⟩
    have l5 := h5.lt
    obtain ⟨z, rfl⟩ : ∃ z, l = a + z := ⟨l - a, by have := h7.lt; omega⟩
    have l7 := h7.lt
    have k0 := z1 (by omega)
    have ky := h.eq (k := y) (by omega)
    have g8 := e0 (by omega) h8
    have g1 : smallN (bt T i) = true := by rw [k0]; exact h1
    have g5 := h.opnd h5 (by omega)
    have g6 : isOp (bt T (i + y)) := by rw [ky]; exact h6
    have g7 := h.opnd (x := y + 1) h7 (by omega)
    have hks : a + y < s.size := byte_in rfl (by unfold isOp at h6; omega)
    have hkt : i + y < T.size := byte_in rfl (by unfold isOp at g6; omega)
    have hdk : digitN (bt s (a + y)) = false := by
      unfold isOp at h6
      rcases h6 with q | q | q | q | q <;> rw [q] <;> rfl
    exact ⟨.inr (.inr (.inr (.inl ⟨g1, e0 (by omega) h2, i + y, i + z, g5, g6, g7, g8, by omega⟩))), by rw [acN_bin h1 h5 h6 hks, acN_bin g1 g5 g6 hkt, k0, ky, h.od h5 (by omega) hks hkt hdk, show odN T (i + y + 1) = odN s (a + y + 1) from h.od (x := y + 1) h7 (by omega) (lt h8 (by decide)) (lt g8 (by decide)) (by rw [h8]; rfl)]⟩
  · obtain ⟨h1, h2, k, l, h5, h6, h7, h8, h9, hm⟩ := q
    obtain ⟨y, rfl⟩ : ∃ y, k = a + y := ⟨k - a, by have := h5.lt; omega⟩
    have l5 := h5.lt
    obtain ⟨z, rfl⟩ : ∃ z, l = a + z := ⟨l - a, by have := h8.lt; omega⟩
    have l8 := h8.lt
    have k0 := z1 (by omega)
    have g6 := e0 (by omega) h6
    have g9 := e0 (by omega) h9
    have g1 : greatN (bt T i) = true := by rw [k0]; exact h1
    have g2 := e0 (k := 1) (by omega) h2
    have g5 := h.opnd h5 (by omega)
    have g8 := h.opnd (x := y + 2) h8 (by omega)
    exact ⟨.inr (.inr (.inr (.inr (.inl ⟨g1, g2, i + y, i + z, g5, g6, e0 (k := y + 1) (by omega) h7, g8, g9, by omega⟩)))), by rw [acN_store h1 h2 h5 h6, acN_store g1 g2 g5 g6, k0, h.od h5 (by omega) (lt h6 (by decide)) (lt g6 (by decide)) (by rw [h6]; rfl), show odN T (i + y + 2) = odN s (a + y + 2) from h.od (x := y + 2) h8 (by omega) (lt h9 (by decide)) (lt g9 (by decide)) (by rw [h9]; rfl)]⟩
  · have q' := q
    obtain ⟨h1, h2, h3, k, h5, h6, h7, hm⟩ := q
    obtain ⟨y, rfl⟩ : ∃ y, k = a + y := ⟨k - a, by have := h5.lt; omega⟩
    have l5 := h5.lt
    have k0 := z1 (by omega)
    have g6 := e0 (by omega) h6
    have q2 : KMake T i (i + (m - a)) := ⟨by rw [k0]; exact h1, e0 (by omega) h2, e0 (by omega) h3, i + y, h.opnd h5 (by omega), g6, e0 (k := y + 1) (by omega) h7, by omega⟩
    exact ⟨.inr (.inr (.inr (.inr (.inr (.inl q2))))), by rw [acN_make q', acN_make q2, k0, h.od h5 (by omega) (lt h6 (by decide)) (lt g6 (by decide)) (by rw [h6]; rfl)]⟩
  · have q' := q
    obtain ⟨h1, h2, h3, h4, hm⟩ := q
    have k0 := z1 (by omega)
    have q2 : KMove T i (i + (m - a)) := ⟨by rw [k0]; exact h1, e0 (by omega) h2, eg (by omega) h3, e0 (by omega) h4, by omega⟩
    exact ⟨.inr (.inr (.inr (.inr (.inr (.inr (.inl q2)))))), by rw [acN_move q', acN_move q2, k0, h.eq (k := 2) (by omega)]⟩
  · obtain ⟨h1, k, h5, h6, hm⟩ := q
    obtain ⟨y, rfl⟩ : ∃ y, k = a + y := ⟨k - a, by have := h5.lt; omega⟩
    have l5 := h5.lt
    have k0 := z1 (by omega)
    have g6 := e0 (by omega) h6
    have g1 : bt T i = 33 := by rw [k0]; exact h1
    exact ⟨.inr (.inr (.inr (.inr (.inr (.inr (.inr (.inl ⟨g1, i + y, h.opnd h5 (by omega), g6, by omega⟩))))))), by rw [acN_print h1, acN_print g1, h.od h5 (by omega) (lt h6 (by decide)) (lt g6 (by decide)) (by rw [h6]; rfl)]⟩
  · obtain ⟨h1, h2, h3, hm⟩ := q
    have k0 := z1 (by omega)
    have g1 : bt T i = 126 := by rw [k0]; exact h1
    exact ⟨.inr (.inr (.inr (.inr (.inr (.inr (.inr (.inr ⟨g1, eg (k := 1) (by omega) h2, e0 (by omega) h3, by omega⟩))))))), by rw [acN_drop h1, acN_drop g1, h.eq (k := 1) (by omega)]⟩
/-- a sentence without braces, wherever it stands -/
theorem Text.simple {s : ByteArray} {a m : Nat} (hS : Simple s a m) : Text (s.extract a m) (fun Q => .act (acN s a) Q) := fun T i hE j Q hQ => by
  have hl := hS.line
  have hc := hE.cp (Nat.le_of_lt hl.1) hl.2.1
  obtain ⟨h1, h2⟩ := hc.simple hS
  rw [size_ext (Nat.le_of_lt hl.1) hl.2.1] at hQ
  have := Good.act h1 hQ
  rw [h2] at this
  exact this
/-- the end of a block -/
def drB (k : Nat) : ByteArray := ⟨#[126, UInt8.ofNat (65 + k), 59]⟩
theorem Text.drop {k : Nat} (hk : k < 26) : Text (drB k) (fun Q => .act (.drop k) Q) := fun T i hE j Q hQ => by
  have b0 : bt (drB k) 0 = 126 := rfl
  have b1 : bt (drB k) 1 = 65 + k := by
    show (UInt8.ofNat (65 + k)).toNat = 65 + k
    exact Nat.mod_eq_of_lt (by omega)
  have b2 : bt (drB k) 2 = 59 := rfl
  have hsz : (drB k).size = 3 := rfl
  have e0 : bt T i = 126 := (hE 0 (by rw [hsz]; omega)).trans b0
  have e1 : bt T (i + 1) = 65 + k := (hE 1 (by rw [hsz]; omega)).trans b1
  have e2 : bt T (i + 2) = 59 := (hE 2 (by rw [hsz]; omega)).trans b2
  have hg : greatN (bt T (i + 1)) = true := by rw [e1]; simp [greatN]; omega
  have hK : KDrop T i (i + 3) := ⟨e0, hg, e2, rfl⟩
  have hQ' : Good T (i + 3) j Q := hQ
  have := Good.act (.inr (.inr (.inr (.inr (.inr (.inr (.inr (.inr hK)))))))) hQ'
  rw [acN_drop e0, e1, show 65 + k - 65 = k by omega] at this
  exact this
def drsB : List Nat → ByteArray
  | [] => ⟨#[]⟩
  | k :: l => drB k ++ drsB l
theorem Text.drops : ∀ {l : List Nat}, (∀ k, k ∈ l → k < 26) → Text (drsB l) (drP l)
  | [], _ => Text.nil rfl
  | k :: l, h => (Text.drop (h k List.mem_cons_self)).app (Text.drops (fun j hj => h j (List.mem_cons_of_mem _ hj)))
end Go.Proofs.YthcjcjfgdgnljaaDoor

namespace Go.Proofs.YthcjcjfgdgnljaaDoor
set_option linter.unusedVariables false

/-- blocks lie apart, below the greatest word so far, which is in the heap -/
structure Pk (n : Nat) (σ : St) : Prop where
  ap : Ap n σ
  pk : ∀ b, b < 26 → σ.bx b ≠ [] → σ.at_ b + (σ.bx b).length ≤ σ.peak
  top : σ.peak ≤ n
theorem Pk.like {n : Nat} {σ τ : St} (h : Pk n σ) (h1 : τ.bx = σ.bx) (h2 : τ.at_ = σ.at_) (h3 : τ.peak = σ.peak) : Pk n τ := ⟨h.ap.keep h1 h2, by rw [h1, h2, h3]; exact h.pk, by rw [h3]; exact h.top⟩
theorem act_pk {n : Nat} {st : Bool} {a : Ac} (ha : AcOk a) {σ : St} (h : Pk n σ) : Pk n (act (cE st n) a σ).1 := by
  have ends_ : ∀ k, Pk n (ends σ k).1 := fun k => h.like rfl rfl rfl
  have drop_ : ∀ k, Pk n { σ with bx := upB σ.bx k [] } := fun k => ⟨h.ap.drop k, fun b hb hx => by
    have hx' : upB σ.bx k [] b ≠ [] := hx
    show σ.at_ b + (upB σ.bx k [] b).length ≤ σ.peak
    by_cases e : b = k
    · subst e; rw [upB_at] at hx'; exact absurd rfl hx'
    · rw [upB_ne _ _ e] at hx' ⊢; exact h.pk b hb hx', h.top⟩
  cases a with
  | set v o => exact h.like rfl rfl rfl
  | bin v o k p =>
    simp only [act]
    split
    · exact ends_ 1
    · exact h.like rfl rfl rfl
  | load v k o =>
    simp only [act]
    split
    · exact ends_ 4
    · split
      · exact ends_ 1
      · exact h.like rfl rfl rfl
  | size v k =>
    simp only [act]
    split
    · exact ends_ 4
    · exact h.like rfl rfl rfl
  | print o => exact h.like rfl rfl rfl
  | drop k =>
    simp only [act]
    split
    · exact ends_ 4
    · exact drop_ k
  | store k o p =>
    simp only [act]
    split
    · exact ends_ 4
    · split
      · exact ends_ 1
      · refine ⟨h.ap.less (fun b hb => ?_) rfl, fun b hb hx => ?_, h.top⟩
        · have hb' : upB σ.bx k ((σ.bx k).set (valO σ.num o) (valO σ.num p)) b ≠ [] := hb
          show σ.bx b ≠ [] ∧ (upB σ.bx k ((σ.bx k).set (valO σ.num o) (valO σ.num p)) b).length = (σ.bx b).length
          by_cases e : b = k
          · subst e
            rw [upB_at] at hb' ⊢
            exact ⟨fun q => hb' (by rw [q]; rfl), by simp⟩
          · rw [upB_ne _ _ e] at hb' ⊢
            exact ⟨hb', rfl⟩
        · have hx' : upB σ.bx k ((σ.bx k).set (valO σ.num o) (valO σ.num p)) b ≠ [] := hx
          show σ.at_ b + (upB σ.bx k ((σ.bx k).set (valO σ.num o) (valO σ.num p)) b).length ≤ σ.peak
          by_cases e : b = k
          · subst e
            rw [upB_at] at hx' ⊢
            have := h.pk b hb (fun q => hx' (by rw [q]; rfl))
            simpa using this
          · rw [upB_ne _ _ e] at hx' ⊢
            exact h.pk b hb hx'
  | make k o =>
    simp only [act]
    split
    · exact ends_ 4
    · split
      · exact ends_ 1
      · rename_i h1 hv
        cases hal : (cE st n).al { σ with bx := upB σ.bx k [] } (valO σ.num o) with
        | none => exact (drop_ k).like rfl rfl rfl
        | some y =>
          have hf := (alloc_is (show allocS n { σ with bx := upB σ.bx k [] } (valO σ.num o) = some y from hal)).1
          refine ⟨Ap.fill (drop_ k).ap (by simp) (by omega) hf, fun b hb hx => ?_, ?_⟩
          · have hx' : upB σ.bx k (List.replicate (valO σ.num o) 0) b ≠ [] := hx
            show upN σ.at_ k y b + (upB σ.bx k (List.replicate (valO σ.num o) 0) b).length ≤ max σ.peak (y + valO σ.num o)
            by_cases e : b = k
            · subst e
              rw [upN_at, upB_at, List.length_replicate]
              omega
            · rw [upB_ne _ _ e] at hx' ⊢
              rw [upN_ne _ _ e]
              have := h.pk b hb hx'
              omega
          · have := hf.1
            have := h.top
            show max σ.peak (y + valO σ.num o) ≤ n
            omega
  | move k d =>
    simp only [act]
    split
    · exact ends_ 4
    · split
      · exact h
      · split
        · exact ends_ 4
        · rename_i h1 h2 h3
          refine ⟨h.ap.move ha.1 ha.2 h2, fun b hb hx => ?_, h.top⟩
          have hx' : upB (upB σ.bx k (σ.bx d)) d [] b ≠ [] := hx
          show upN σ.at_ k (σ.at_ d) b + (upB (upB σ.bx k (σ.bx d)) d [] b).length ≤ σ.peak
          by_cases e1 : b = d
          · subst e1; rw [upB_at] at hx'; exact absurd rfl hx'
          · rw [upB_ne _ _ e1] at hx' ⊢
            by_cases e2 : b = k
            · subst e2
              rw [upB_at] at hx' ⊢
              rw [upN_at]
              exact h.pk d ha.2 hx'
            · rw [upB_ne _ _ e2] at hx' ⊢
              rw [upN_ne _ _ e2]
              exact h.pk b hb hx'
theorem stp_pk {n : Nat} {st : Bool} {a : Ac} (ha : AcOk a) {σ : St} (h : Pk n σ) : Pk n (stp (cE st n) a σ).1 := by
  unfold stp
  split
  · split
    · exact h.like rfl rfl rfl
    · exact act_pk ha (h.like (τ := due σ) rfl rfl rfl)
  · exact act_pk ha h
theorem Ex.pk {n : Nat} {st : Bool} {P : Pg} {σ σ' : St} {b : Bool} (h : Ex (cE st n) P σ σ' b) : PgOk P → Pk n σ → Pk n σ' := by
  induction h with
  | nil σ => exact fun _ q => q
  | @stop a r σ σ' h => exact fun hp q => by have := stp_pk (n := n) (st := st) hp.1 q; rw [h] at this; exact this
  | @go a r σ σ1 σ2 b h hr ih => exact fun hp q => ih hp.2 (by have := stp_pk (n := n) (st := st) hp.1 q; rw [h] at this; exact this)
  | iteTired h => exact fun _ q => q.like rfl rfl rfl
  | @iteStop o p q r σ σ1 h hp ih => exact fun hpo k => ih (by split; exact hpo.2.1; exact hpo.2.2.1) (k.like rfl rfl rfl)
  | @iteGo o p q r σ σ1 σ2 b h hp hr ih1 ih2 => exact fun hpo k => ih2 hpo.2.2.2 (ih1 (by split; exact hpo.2.1; exact hpo.2.2.1) (k.like rfl rfl rfl))
  | loopTired h => exact fun _ q => q.like rfl rfl rfl
  | loopEnd h h0 hr ih => exact fun hpo q => ih hpo.2.2 (q.like rfl rfl rfl)
  | loopStop h h0 hp ih => exact fun hpo q => ih hpo.2.1 (q.like rfl rfl rfl)
  | loopGo h h0 hp hr ih1 ih2 => exact fun hpo q => ih2 hpo (ih1 hpo.2.1 (q.like rfl rfl rfl))
/-- with 3264 words there is room -/
theorem act_room {n : Nat} (hn : 3264 ≤ n) {a : Ac} (ha : AcOk a) {σ : St} (h : Pk n σ) (h3 : σ.status ≠ 3) : (act (cE true n) a σ).1.status ≠ 3 := by
  cases a with
  | make k o =>
    simp only [act]
    split
    · simp [ends]
    · split
      · simp [ends]
      · rename_i h1 hv
        have hk : σ.bx k = [] := Classical.byContradiction (fun q => h1 ⟨rfl, q⟩)
        cases hal : (cE true n).al { σ with bx := upB σ.bx k [] } (valO σ.num o) with
        | none =>
          obtain ⟨y, hy⟩ := room hn (h.ap.drop k) ha.1 (by show upB σ.bx k [] k = []; rw [upB_at]) (k := valO σ.num o) (by omega)
          exact absurd hy (alloc_no hal y)
        | some y => exact h3
  | bin v o k p =>
    simp only [act]
    split
    · simp [ends]
    · exact h3
  | load v k o =>
    simp only [act]
    (repeat' split) <;> first | exact h3 | simp [ends]
  | size v k =>
    simp only [act]
    (repeat' split) <;> first | exact h3 | simp [ends]
  | store k o p =>
    simp only [act]
    (repeat' split) <;> first | exact h3 | simp [ends]
  | drop k =>
    simp only [act]
    (repeat' split) <;> first | exact h3 | simp [ends]
  | move k d =>
    simp only [act]
    (repeat' split) <;> first | exact h3 | simp [ends]
  | set v o => exact h3
  | print o => exact h3
theorem stp_room {n : Nat} (hn : 3264 ≤ n) {a : Ac} (ha : AcOk a) {σ : St} (h : Pk n σ) (h3 : σ.status ≠ 3) : (stp (cE true n) a σ).1.status ≠ 3 := by
  unfold stp
  split
  · split
    · simp [tire]
    · exact act_room hn ha (h.like (τ := due σ) rfl rfl rfl) h3
  · exact act_room hn ha h h3
theorem Ex.room {n : Nat} (hn : 3264 ≤ n) {P : Pg} {σ σ' : St} {b : Bool} (h : Ex (cE true n) P σ σ' b) : PgOk P → Pk n σ → σ.status ≠ 3 → σ'.status ≠ 3 := by
  induction h with
  | nil σ => exact fun _ _ q => q
  | @stop a r σ σ' h => exact fun hp k q => by have := stp_room hn hp.1 k q; rw [h] at this; exact this
  | @go a r σ σ1 σ2 b h hr ih => exact fun hp k q => ih hp.2 (by have := stp_pk (n := n) (st := true) hp.1 k; rw [h] at this; exact this) (by have := stp_room hn hp.1 k q; rw [h] at this; exact this)
  | iteTired h => exact fun _ _ q => by simp [tire]
  | @iteStop o p q r σ σ1 h hp ih => exact fun hpo k j => ih (by split; exact hpo.2.1; exact hpo.2.2.1) (k.like rfl rfl rfl) j
  | @iteGo o p q r σ σ1 σ2 b h hp hr ih1 ih2 =>
    intro hpo k j
    have hpq : PgOk (if valO σ.num o ≠ 0 then p else q) := by split; exact hpo.2.1; exact hpo.2.2.1
    exact ih2 hpo.2.2.2 (hp.pk hpq (k.like rfl rfl rfl)) (ih1 hpq (k.like rfl rfl rfl) j)
  | loopTired h => exact fun _ _ q => by simp [tire]
  | loopEnd h h0 hr ih => exact fun hpo k q => ih hpo.2.2 (k.like rfl rfl rfl) q
  | loopStop h h0 hp ih => exact fun hpo k q => ih hpo.2.1 (k.like rfl rfl rfl) q
  | loopGo h h0 hp hr ih1 ih2 => exact fun hpo k q => ih2 hpo (hp.pk hpo.2.1 (k.like rfl rfl rfl)) (ih1 hpo.2.1 (k.like rfl rfl rfl) q)

/-- how many of the first p words lie in a run of l from a on -/
theorem sum_run (a l : Nat) : ∀ p, sumN (fun i => if a ≤ i ∧ i < a + l then 1 else 0) p = min p (a + l) - min p a
  | 0 => by simp [sumN]
  | p + 1 => by
    show sumN _ p + (if a ≤ p ∧ p < a + l then 1 else 0) = _
    rw [sum_run a l p]
    split <;> omega
theorem sum_add (f g : Nat → Nat) : ∀ n, sumN (fun i => f i + g i) n = sumN f n + sumN g n
  | 0 => rfl
  | n + 1 => by
    show sumN (fun i => f i + g i) n + (f n + g n) = sumN f n + f n + (sumN g n + g n)
    rw [sum_add f g n]
    omega
theorem sum_le {f g : Nat → Nat} : ∀ {n : Nat}, (∀ i, i < n → f i ≤ g i) → sumN f n ≤ sumN g n
  | 0, _ => Nat.le_refl _
  | n + 1, h => by
    have := sum_le (fun i hi => h i (Nat.lt_succ_of_lt hi))
    have := h n (Nat.lt_succ_self n)
    show sumN f n + f n ≤ sumN g n + g n
    omega
theorem sum_const (c : Nat) : ∀ n, sumN (fun _ => c) n = n * c
  | 0 => by simp [sumN]
  | n + 1 => by show sumN (fun _ => c) n + c = _; rw [sum_const c n, Nat.succ_mul]
/-- runs that lie apart below p have together p words at most -/
theorem runs_sum (A L : Nat → Nat) (p : Nat) : ∀ m, (∀ b, b < m → A b + L b ≤ p ∨ L b = 0) → sumN L m = sumN (fun i => sumN (fun b => if A b ≤ i ∧ i < A b + L b then 1 else 0) m) p
  | 0, _ => by
    show 0 = sumN (fun _ => 0) p
    rw [sum_const, Nat.mul_zero]
  | m + 1, h => by
    show sumN L m + L m = sumN (fun i => sumN (fun b => if A b ≤ i ∧ i < A b + L b then 1 else 0) m + (if A m ≤ i ∧ i < A m + L m then 1 else 0)) p
    rw [sum_add, runs_sum A L p m (fun b hb => h b (by omega)), sum_run]
    have := h m (by omega)
    omega
theorem one_of (A L : Nat → Nat) (i : Nat) : ∀ m, (∀ b c, b < m → c < m → b ≠ c → ¬ ((A b ≤ i ∧ i < A b + L b) ∧ (A c ≤ i ∧ i < A c + L c))) → sumN (fun b => if A b ≤ i ∧ i < A b + L b then 1 else 0) m ≤ 1
  | 0, _ => by simp [sumN]
  | m + 1, h => by
    show sumN _ m + (if A m ≤ i ∧ i < A m + L m then 1 else 0) ≤ 1
    by_cases e : A m ≤ i ∧ i < A m + L m
    · rw [if_pos e]
      have : sumN (fun b => if A b ≤ i ∧ i < A b + L b then 1 else 0) m = 0 := by
        have h2 : sumN (fun b => if A b ≤ i ∧ i < A b + L b then 1 else 0) m = sumN (fun _ => 0) m := sum_congr (fun b hb => if_neg (fun q => h b m (by omega) (by omega) (by omega) ⟨q, e⟩))
        rw [h2, sum_const]
        omega
      omega
    · rw [if_neg e]
      have := one_of A L i m (fun b c hb hc => h b c (by omega) (by omega))
      omega
/-- what is used lies below the greatest word -/
theorem Pk.used {n : Nat} {σ : St} (h : Pk n σ) : usedN σ 26 ≤ σ.peak := by
  rw [used_sum, runs_sum σ.at_ (fun k => (σ.bx k).length) σ.peak 26 (fun b hb => by
    by_cases e : σ.bx b = []
    · exact .inr (by rw [e]; rfl)
    · exact .inl (h.pk b hb e))]
  refine Nat.le_trans (sum_le (g := fun _ => 1) (fun i hi => one_of _ _ i 26 (fun b c hb hc hbc q => ?_))) (by rw [sum_const]; omega)
  have e1 : σ.bx b ≠ [] := fun e => by simp [e] at q; omega
  have e2 : σ.bx c ≠ [] := fun e => by simp [e] at q; omega
  have := h.ap.ap b c hb hc hbc e1 e2
  omega
theorem pk_st0 (n k : Nat) : Pk n (st0 k) := ⟨⟨fun j hj q => absurd rfl q, fun j hj => by simp [st0], fun i j _ _ _ q => absurd rfl q⟩, fun j hj q => absurd rfl q, Nat.zero_le _⟩
end Go.Proofs.YthcjcjfgdgnljaaDoor
