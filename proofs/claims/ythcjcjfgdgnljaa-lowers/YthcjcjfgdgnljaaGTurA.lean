/-
  TxtB, TurA: one behind the other.
-/
import Derived.Test.YthcjcjfgdgnljaaGMacB
import Derived.Test.YthcjcjfgdgnljaaGLowB
import Derived.Test.YthcjcjfgdgnljaaGFulG
namespace Go.Proofs.Ythcjcjfgdgnljaa
set_option linter.unusedVariables false

/-- from i up to j stand the sentences P -/
def Good (T : ByteArray) (i j : Nat) (P : Pg) : Prop := i ≤ j ∧ ∀ F, j - i < F → Prog T F i j ∧ pgN T F i j = P
theorem Good.nil (T : ByteArray) (i : Nat) : Good T i i .nil := ⟨Nat.le_refl _, fun F hF => by
  obtain ⟨F, rfl⟩ : ∃ g, F = g + 1 := ⟨F - 1, by omega⟩
  exact ⟨.inl rfl, pgN_end⟩⟩
theorem Good.act {T : ByteArray} {i m j : Nat} {P : Pg} (hS : Simple T i m) (h : Good T m j P) : Good T i j (.act (acN T i) P) := by
  have hl := hS.line.1
  have hm := h.1
  refine ⟨by omega, fun F hF => ?_⟩
  obtain ⟨F, rfl⟩ : ∃ g, F = g + 1 := ⟨F - 1, by omega⟩
  obtain ⟨h1, h2⟩ := h.2 F (by omega)
  exact ⟨.inr ⟨m, .inl hS, h1⟩, by rw [pgN_simple hS (by omega), h2]⟩
theorem Good.ite {T : ByteArray} {i a b c j : Nat} {P Q R : Pg} (e : bt T i = 63) (ho : Opnd T (i + 1) a) (ha : bt T a = 123) (hp : Good T (a + 1) b P) (hb : bt T b = 125) (hb1 : bt T (b + 1) = 123) (hq : Good T (b + 2) c Q) (hc : bt T c = 125) (hr : Good T (c + 1) j R) :
    Good T i j (.ite (odN T (i + 1)) P Q R) := by
  have l1 := ho.lt
  have l2 := hp.1
  have l3 := hq.1
  have l4 := hr.1
  refine ⟨by omega, fun F hF => ?_⟩
  obtain ⟨F, rfl⟩ : ∃ g, F = g + 1 := ⟨F - 1, by omega⟩
  obtain ⟨p1, p2⟩ := hp.2 F (by omega)
  obtain ⟨q1, q2⟩ := hq.2 F (by omega)
  obtain ⟨r1, r2⟩ := hr.2 F (by omega)
  exact ⟨.inr ⟨c + 1, .inr (.inl ⟨e, a, b, c, ho, ha, p1, hb, hb1, q1, hc, rfl⟩), r1⟩, by rw [pgN_if (ifAt_of e ho ha p1 hb hb1 q1 hc) (by omega), p2, q2, r2]⟩
theorem Good.loop {T : ByteArray} {i a b j : Nat} {P R : Pg} (e : bt T i = 64) (ho : Opnd T (i + 1) a) (ha : bt T a = 123) (hp : Good T (a + 1) b P) (hb : bt T b = 125) (hr : Good T (b + 1) j R) :
    Good T i j (.loop (odN T (i + 1)) P R) := by
  have l1 := ho.lt
  have l2 := hp.1
  have l4 := hr.1
  refine ⟨by omega, fun F hF => ?_⟩
  obtain ⟨F, rfl⟩ : ∃ g, F = g + 1 := ⟨F - 1, by omega⟩
  obtain ⟨p1, p2⟩ := hp.2 F (by omega)
  obtain ⟨r1, r2⟩ := hr.2 F (by omega)
  exact ⟨.inr ⟨b + 1, .inr (.inr ⟨e, a, b, ho, ha, p1, hb, rfl⟩), r1⟩, by rw [pgN_loop (loopAt_of e ho ha p1 hb) (by omega), p2, r2]⟩
/-- the text R stands in T from i on -/
def Emb (T : ByteArray) (i : Nat) (R : ByteArray) : Prop := ∀ k, k < R.size → bt T (i + k) = bt R k
theorem bt_app (x y : ByteArray) (k : Nat) : bt (x ++ y) k = if k < x.size then bt x k else bt y (k - x.size) := by
  have hs : (x ++ y).size = x.size + y.size := ByteArray.size_append
  by_cases h : k < x.size
  · rw [if_pos h, bt_in (by omega), bt_in h]
    congr 1
    exact ByteArray.getElem_append_left h
  · rw [if_neg h]
    by_cases h2 : k < x.size + y.size
    · rw [bt_in (by omega), bt_in (by omega)]
      congr 1
      exact ByteArray.getElem_append_right (by omega)
    · rw [bt_out (by omega), bt_out (by omega)]
theorem Emb.left {T : ByteArray} {i : Nat} {x y : ByteArray} (h : Emb T i (x ++ y)) : Emb T i x := fun k hk => by
  have hs : (x ++ y).size = x.size + y.size := ByteArray.size_append
  rw [h k (by omega), bt_app, if_pos hk]
theorem Emb.right {T : ByteArray} {i : Nat} {x y : ByteArray} (h : Emb T i (x ++ y)) : Emb T (i + x.size) y := fun k hk => by
  have hs : (x ++ y).size = x.size + y.size := ByteArray.size_append
  have := h (x.size + k) (by omega)
  rw [bt_app, if_neg (by omega), show x.size + k - x.size = k by omega] at this
  rw [Nat.add_assoc]
  exact this
/-- a piece of text, and what it says ahead of whatever -/
def Text (R : ByteArray) (C : Pg → Pg) : Prop := ∀ (T : ByteArray) (i : Nat), Emb T i R → ∀ {j : Nat} {Q : Pg}, Good T (i + R.size) j Q → Good T i j (C Q)
theorem Text.nil {R : ByteArray} (h : R.size = 0) : Text R id := fun T i _ j Q hQ => by rw [h, Nat.add_zero] at hQ; exact hQ
theorem Text.app {x y : ByteArray} {C D : Pg → Pg} (h : Text x C) (g : Text y D) : Text (x ++ y) (fun Q => C (D Q)) := fun T i hE j Q hQ => by
  have hs : (x ++ y).size = x.size + y.size := ByteArray.size_append
  rw [hs, ← Nat.add_assoc] at hQ
  exact h T i hE.left (g T _ hE.right hQ)
theorem Text.good {R : ByteArray} {C : Pg → Pg} (h : Text R C) {T : ByteArray} {i : Nat} (hE : Emb T i R) : Good T i (i + R.size) (C .nil) := h T i hE (Good.nil T _)
/-- n bytes of s from a on stand in T from i on -/
def Cp (s : ByteArray) (a : Nat) (T : ByteArray) (i n : Nat) : Prop := ∀ k, k < n → bt T (i + k) = bt s (a + k)
theorem size_ext {s : ByteArray} {a b : Nat} (h : a ≤ b) (hb : b ≤ s.size) : (s.extract a b).size = b - a := by
  rw [ByteArray.size_extract]
  omega
theorem bt_ext {s : ByteArray} {a b k : Nat} (hb : b ≤ s.size) (hk : k < b - a) : bt (s.extract a b) k = bt s (a + k) := by
  rw [bt_in (by rw [ByteArray.size_extract]; omega), bt_in (by omega)]
  congr 1
  exact ByteArray.getElem_extract _
theorem Emb.cp {s T : ByteArray} {a b i : Nat} (h : a ≤ b) (hb : b ≤ s.size) (hE : Emb T i (s.extract a b)) : Cp s a T i (b - a) := fun k hk => by
  rw [hE k (by rw [size_ext h hb]; exact hk), bt_ext hb hk]
section
variable {s T : ByteArray} {a i n : Nat}
theorem Cp.eq (h : Cp s a T i n) {k : Nat} (hk : k < n) : bt T (i + k) = bt s (a + k) := h k hk
theorem Cp.opnd (h : Cp s a T i n) {x y : Nat} (ho : Opnd s (a + x) (a + y)) (hy : y ≤ n) : Opnd T (i + x) (i + y) := by
  have hl := ho.lt
  rcases ho with ⟨h1, h2⟩ | ⟨h1, h2, h3⟩
  · exact .inl ⟨by rw [h.eq (by omega)]; exact h1, by omega⟩
  · refine .inr ⟨by omega, by omega, fun k k1 k2 => ?_⟩
    have := h3 (a + (k - i)) (by omega) (by omega)
    rw [← h.eq (by omega), show i + (k - i) = k by omega] at this
    exact this
theorem Cp.dec (h : Cp s a T i n) {x : Nat} : ∀ {m : Nat}, x + m ≤ n → decN T (i + x) m = decN s (a + x) m
  | 0, _ => rfl
  | m + 1, hm => by
    show 10 * decN T (i + x) m + (bt T (i + x + m) - 48) = 10 * decN s (a + x) m + (bt s (a + x + m) - 48)
    rw [Cp.dec h (by omega), Nat.add_assoc i, Nat.add_assoc a, h.eq (by omega)]
theorem Cp.od (h : Cp s a T i n) {x y : Nat} (ho : Opnd s (a + x) (a + y)) (hy : y < n) (hys : a + y < s.size) (hyt : i + y < T.size) (hd : digitN (bt s (a + y)) = false) : odN T (i + x) = odN s (a + x) := by
  have hl := ho.lt
  unfold odN
  rw [bopN_eq ho hys hd, bopN_eq (h.opnd ho (by omega)) hyt (by rw [h.eq hy]; exact hd), h.eq (by omega), show i + y - (i + x) = a + y - (a + x) by omega, h.dec (by omega)]
end
/-- a sentence without braces, copied -/
theorem Cp.simple {s T : ByteArray} {a m i : Nat} (h : Cp s a T i (m - a)) (hS : Simple s a m) : Simple T i (i + (m - a)) ∧ acN T i = acN s a := by
  have e0 : ∀ {k x : Nat}, k < m - a → bt s (a + k) = x → bt T (i + k) = x := fun hk e => by rw [h.eq hk]; exact e
  have es : ∀ {k : Nat}, k < m - a → smallN (bt s (a + k)) = true → smallN (bt T (i + k)) = true := fun hk e => by rw [h.eq hk]; exact e
  have eg : ∀ {k : Nat}, k < m - a → greatN (bt s (a + k)) = true → greatN (bt T (i + k)) = true := fun hk e => by rw [h.eq hk]; exact e
  have z1 := fun (hk : 0 < m - a) => (show bt T i = bt s a from h.eq hk)
  have lt : ∀ {T : ByteArray} {k x : Nat}, bt T k = x → x ≠ 0 → k < T.size := fun h0 h1 => byte_in h0 h1
  rcases hS with q | q | q | q | q | q | q | q | q
  · have q' := q
    obtain ⟨h1, h2, h3, h4, h5, hm⟩ := q
    have k0 := z1 (by omega)
    have q2 : KSize T i (i + (m - a)) := ⟨by rw [k0]; exact h1, e0 (by omega) h2, e0 (by omega) h3, eg (by omega) h4, e0 (by omega) h5, by omega⟩
    exact ⟨.inl q2, by rw [acN_size q', acN_size q2, k0, h.eq (k := 3) (by omega)]⟩
  · have q' := q
    obtain ⟨h1, h2, h3, h4, k, h5, h6, h7, hm⟩ := q
    obtain ⟨y, rfl⟩ : ∃ y, k = a + y := ⟨k - a, by have := h5.lt; omega⟩
    have l5 := h5.lt
    have k0 := z1 (by omega)
    have g6 := e0 (by omega) h6
    have q2 : KLoad T i (i + (m - a)) := ⟨by rw [k0]; exact h1, e0 (by omega) h2, eg (by omega) h3, e0 (by omega) h4, i + y, h.opnd h5 (by omega), g6, e0 (k := y + 1) (by omega) h7, by omega⟩
    exact ⟨.inr (.inl q2), by rw [acN_load q', acN_load q2, k0, h.eq (k := 2) (by omega), h.od h5 (by omega) (lt h6 (by decide)) (lt g6 (by decide)) (by rw [h6]; rfl)]⟩
  · obtain ⟨h1, h2, k, h5, h6, hm⟩ := q
    obtain ⟨y, rfl⟩ : ∃ y, k = a + y := ⟨k - a, by have := h5.lt; omega⟩
    have l5 := h5.lt
    have k0 := z1 (by omega)
    have g6 := e0 (by omega) h6
    have g1 : smallN (bt T i) = true := by rw [k0]; exact h1
    have g5 := h.opnd h5 (by omega)
    exact ⟨.inr (.inr (.inl ⟨g1, e0 (by omega) h2, i + y, g5, g6, by omega⟩)), by rw [acN_set h1 h5 h6, acN_set g1 g5 g6, k0, h.od h5 (by omega) (lt h6 (by decide)) (lt g6 (by decide)) (by rw [h6]; rfl)]⟩
  · obtain ⟨h1, h2, k, l, h5, h6, h7, h8, hm⟩ := q
    obtain ⟨y, rfl⟩ : ∃ y, k = a + y := ⟨k - a, by have := h5.lt; omega⟩
    have l5 := h5.lt
    obtain ⟨z, rfl⟩ : ∃ z, l = a + z := ⟨l - a, by have := h7.lt; omega⟩
    have l7 := h7.lt
    have k0 := z1 (by omega)
    have ky := h.eq (k := y) (by omega)
    have g8 := e0 (by omega) h8
    have g1 : smallN (bt T i) = true := by rw [k0]; exact h1
    have g5 := h.opnd h5 (by omega)
    have g6 : isOp (bt T (i + y)) := by rw [ky]; exact h6
    have g7 := h.opnd (x := y + 1) h7 (by omega)
    have hks : a + y < s.size := byte_in rfl (by unfold isOp at h6; omega)
    have hkt : i + y < T.size := byte_in rfl (by unfold isOp at g6; omega)
    have hdk : digitN (bt s (a + y)) = false := by
      unfold isOp at h6
      rcases h6 with q | q | q | q | q <;> rw [q] <;> rfl
    exact ⟨.inr (.inr (.inr (.inl ⟨g1, e0 (by omega) h2, i + y, i + z, g5, g6, g7, g8, by omega⟩))), by rw [acN_bin h1 h5 h6 hks, acN_bin g1 g5 g6 hkt, k0, ky, h.od h5 (by omega) hks hkt hdk, show odN T (i + y + 1) = odN s (a + y + 1) from h.od (x := y + 1) h7 (by omega) (lt h8 (by decide)) (lt g8 (by decide)) (by rw [h8]; rfl)]⟩
  · obtain ⟨h1, h2, k, l, h5, h6, h7, h8, h9, hm⟩ := q
    obtain ⟨y, rfl⟩ : ∃ y, k = a + y := ⟨k - a, by have := h5.lt; omega⟩
    have l5 := h5.lt
    obtain ⟨z, rfl⟩ : ∃ z, l = a + z := ⟨l - a, by have := h8.lt; omega⟩
    have l8 := h8.lt
    have k0 := z1 (by omega)
    have g6 := e0 (by omega) h6
    have g9 := e0 (by omega) h9
    have g1 : greatN (bt T i) = true := by rw [k0]; exact h1
    have g2 := e0 (k := 1) (by omega) h2
    have g5 := h.opnd h5 (by omega)
    have g8 := h.opnd (x := y + 2) h8 (by omega)
    exact ⟨.inr (.inr (.inr (.inr (.inl ⟨g1, g2, i + y, i + z, g5, g6, e0 (k := y + 1) (by omega) h7, g8, g9, by omega⟩)))), by rw [acN_store h1 h2 h5 h6, acN_store g1 g2 g5 g6, k0, h.od h5 (by omega) (lt h6 (by decide)) (lt g6 (by decide)) (by rw [h6]; rfl), show odN T (i + y + 2) = odN s (a + y + 2) from h.od (x := y + 2) h8 (by omega) (lt h9 (by decide)) (lt g9 (by decide)) (by rw [h9]; rfl)]⟩
  · have q' := q
    obtain ⟨h1, h2, h3, k, h5, h6, h7, hm⟩ := q
    obtain ⟨y, rfl⟩ : ∃ y, k = a + y := ⟨k - a, by have := h5.lt; omega⟩
    have l5 := h5.lt
    have k0 := z1 (by omega)
    have g6 := e0 (by omega) h6
    have q2 : KMake T i (i + (m - a)) := ⟨by rw [k0]; exact h1, e0 (by omega) h2, e0 (by omega) h3, i + y, h.opnd h5 (by omega), g6, e0 (k := y + 1) (by omega) h7, by omega⟩
    exact ⟨.inr (.inr (.inr (.inr (.inr (.inl q2))))), by rw [acN_make q', acN_make q2, k0, h.od h5 (by omega) (lt h6 (by decide)) (lt g6 (by decide)) (by rw [h6]; rfl)]⟩
  · have q' := q
    obtain ⟨h1, h2, h3, h4, hm⟩ := q
    have k0 := z1 (by omega)
    have q2 : KMove T i (i + (m - a)) := ⟨by rw [k0]; exact h1, e0 (by omega) h2, eg (by omega) h3, e0 (by omega) h4, by omega⟩
    exact ⟨.inr (.inr (.inr (.inr (.inr (.inr (.inl q2)))))), by rw [acN_move q', acN_move q2, k0, h.eq (k := 2) (by omega)]⟩
  · obtain ⟨h1, k, h5, h6, hm⟩ := q
    obtain ⟨y, rfl⟩ : ∃ y, k = a + y := ⟨k - a, by have := h5.lt; omega⟩
    have l5 := h5.lt
    have k0 := z1 (by omega)
    have g6 := e0 (by omega) h6
    have g1 : bt T i = 33 := by rw [k0]; exact h1
    exact ⟨.inr (.inr (.inr (.inr (.inr (.inr (.inr (.inl ⟨g1, i + y, h.opnd h5 (by omega), g6, by omega⟩))))))), by rw [acN_print h1, acN_print g1, h.od h5 (by omega) (lt h6 (by decide)) (lt g6 (by decide)) (by rw [h6]; rfl)]⟩
  · obtain ⟨h1, h2, h3, hm⟩ := q
    have k0 := z1 (by omega)
    have g1 : bt T i = 126 := by rw [k0]; exact h1
    exact ⟨.inr (.inr (.inr (.inr (.inr (.inr (.inr (.inr ⟨g1, eg (k := 1) (by omega) h2, e0 (by omega) h3, by omega⟩))))))), by rw [acN_drop h1, acN_drop g1, h.eq (k := 1) (by omega)]⟩
/-- a sentence without braces, wherever it stands -/
theorem Text.simple {s : ByteArray} {a m : Nat} (hS : Simple s a m) : Text (s.extract a m) (fun Q => .act (acN s a) Q) := fun T i hE j Q hQ => by
  have hl := hS.line
  have hc := hE.cp (Nat.le_of_lt hl.1) hl.2.1
  obtain ⟨h1, h2⟩ := hc.simple hS
  rw [size_ext (Nat.le_of_lt hl.1) hl.2.1] at hQ
  have := Good.act h1 hQ
  rw [h2] at this
  exact this
/-- the end of a block -/
def drB (k : Nat) : ByteArray := ⟨#[126, UInt8.ofNat (65 + k), 59]⟩
theorem Text.drop {k : Nat} (hk : k < 26) : Text (drB k) (fun Q => .act (.drop k) Q) := fun T i hE j Q hQ => by
  have b0 : bt (drB k) 0 = 126 := rfl
  have b1 : bt (drB k) 1 = 65 + k := by
    show (UInt8.ofNat (65 + k)).toNat = 65 + k
    exact Nat.mod_eq_of_lt (by omega)
  have b2 : bt (drB k) 2 = 59 := rfl
  have hsz : (drB k).size = 3 := rfl
  have e0 : bt T i = 126 := (hE 0 (by rw [hsz]; omega)).trans b0
  have e1 : bt T (i + 1) = 65 + k := (hE 1 (by rw [hsz]; omega)).trans b1
  have e2 : bt T (i + 2) = 59 := (hE 2 (by rw [hsz]; omega)).trans b2
  have hg : greatN (bt T (i + 1)) = true := by rw [e1]; simp [greatN]; omega
  have hK : KDrop T i (i + 3) := ⟨e0, hg, e2, rfl⟩
  have hQ' : Good T (i + 3) j Q := hQ
  have := Good.act (.inr (.inr (.inr (.inr (.inr (.inr (.inr (.inr hK)))))))) hQ'
  rw [acN_drop e0, e1, show 65 + k - 65 = k by omega] at this
  exact this
def drsB : List Nat → ByteArray
  | [] => ⟨#[]⟩
  | k :: l => drB k ++ drsB l
end Go.Proofs.Ythcjcjfgdgnljaa

namespace Go.Proofs.Ythcjcjfgdgnljaa
set_option linter.unusedVariables false

/-- a letter? -/
def letN (c : Nat) : Bool := smallN c || greatN c
/-- another letter of the same kind -/
def lettN (a b c : Nat) : Nat := if smallN c = true then 97 + (c - 97 + a) % 26 else if greatN c = true then 65 + (c - 65 + b) % 26 else c
theorem lett_small {a b c : Nat} : smallN (lettN a b c) = smallN c := by
  unfold lettN
  by_cases h : smallN c = true
  · rw [if_pos h, h]; simp [smallN]; omega
  · rw [if_neg h]
    by_cases g : greatN c = true
    · rw [if_pos g]
      have e : smallN c = false := by simpa using h
      rw [e]; simp [smallN]; omega
    · rw [if_neg g]
theorem lett_great {a b c : Nat} : greatN (lettN a b c) = greatN c := by
  unfold lettN
  by_cases h : smallN c = true
  · rw [if_pos h]
    have e : greatN c = false := by simp [smallN, greatN] at h ⊢; omega
    rw [e]; simp [greatN]; omega
  · rw [if_neg h]
    by_cases g : greatN c = true
    · rw [if_pos g, g]; simp [greatN]; omega
    · rw [if_neg g]
theorem lett_let {a b c : Nat} : letN (lettN a b c) = letN c := by unfold letN; rw [lett_small, lett_great]
theorem lett_no {a b c : Nat} (h : letN c = false) : lettN a b c = c := by
  unfold letN at h
  simp only [Bool.or_eq_false_iff] at h
  unfold lettN
  rw [if_neg (by rw [h.1]; simp), if_neg (by rw [h.2]; simp)]
/-- to be a sign that is no letter -/
theorem lett_eq {a b c x : Nat} (hx : letN x = false) : lettN a b c = x ↔ c = x := by
  by_cases h : letN c = true
  · constructor
    · intro e
      have := lett_let (a := a) (b := b) (c := c)
      rw [e, hx, h] at this
      cases this
    · intro e; rw [e, hx] at h; cases h
  · rw [lett_no (by simpa using h)]
theorem lett_digit {a b c : Nat} : digitN (lettN a b c) = digitN c := by
  by_cases h : letN c = true
  · have h2 := lett_let (a := a) (b := b) (c := c)
    rw [h] at h2
    have key : ∀ {x : Nat}, letN x = true → digitN x = false := fun {x} hx => by simp [letN, smallN, greatN, digitN] at hx ⊢; omega
    rw [key h, key h2]
  · rw [lett_no (by simpa using h)]

/-- what is expected behind a letter, small or great -/
def adv (sm : Bool) : List (Nat × Bool) → Option (List (Nat × Bool))
  | [] => none
  | (_, false) :: _ => none
  | (b, true) :: t =>
    if b = 83 then some (if sm then (61, false) :: (103, true) :: (59, false) :: (83, true) :: t else (112, true) :: (59, false) :: (83, true) :: t)
    else if b = 111 then (if sm then some t else none)
    else if b = 100 then adv sm t
    else if b = 101 then adv sm t
    else if b = 86 then (if sm then none else some t)
    else if b = 103 then some (if sm then (116, true) :: t else (91, false) :: (111, true) :: (93, false) :: t)
    else if b = 116 then adv sm t
    else if b = 71 then (if sm then none else some t)
    else none
def OkT (S : List (Nat × Bool)) : Prop := ∀ e, e ∈ S → e.2 = false → letN e.1 = false
theorem OkT.tl {e : Nat × Bool} {S : List (Nat × Bool)} (h : OkT (e :: S)) : OkT S := fun x hx => h x (List.mem_cons_of_mem _ hx)
theorem OkT.cons {e : Nat × Bool} {S : List (Nat × Bool)} (he : e.2 = false → letN e.1 = false) (h : OkT S) : OkT (e :: S) := fun x hx => by
  rcases List.mem_cons.1 hx with q | q
  · subst q; exact he
  · exact h x q
def badO (o : List (Nat × Bool) × Bool × Bool) (c : Nat) : Bool := o.2.2 || !o.2.1 || !((o.1.headD (0, false)).1 == c)
theorem openN_top {f c : Nat} {t : List (Nat × Bool)} (b : Nat) : openN (f + 1) ((b, false) :: t) c = ((b, false) :: t, true, false) := by rw [openN]
/-- a letter is met -/
theorem open_let {c : Nat} {sm : Bool} (hl : letN c = true) (hs : smallN c = sm) (hg : greatN c = !sm) : ∀ (S : List (Nat × Bool)) (f : Nat), mu S < f → OkT S →
    (∀ T, adv sm S = some T → openN f S c = ((c, false) :: T, true, false)) ∧ (adv sm S = none → badO (openN f S c) c = true)
  | [], f, hf, hok => by
    obtain ⟨f, rfl⟩ : ∃ g, f = g + 1 := ⟨f - 1, by omega⟩
    refine ⟨fun T h => by simp [adv] at h, fun _ => ?_⟩
    rw [openN]; rfl
  | (b, false) :: t, f, hf, hok => by
    obtain ⟨f, rfl⟩ : ∃ g, f = g + 1 := ⟨f - 1, by omega⟩
    refine ⟨fun T h => by simp [adv] at h, fun _ => ?_⟩
    rw [openN_top]
    have := hok (b, false) (List.mem_cons_self) rfl
    have hne : (b == c) = false := beq_eq_false_iff_ne.2 (fun e => by rw [e, hl] at this; cases this)
    simp [badO, hne]
  | (b, true) :: t, f, hf, hok => by
    obtain ⟨f, rfl⟩ : ∃ g, f = g + 1 := ⟨f - 1, by omega⟩
    have hmu : mu ((b, true) :: t) = rank b + mu t := rfl
    have hrk := rank_pos b
    rw [hmu] at hf
    have ih := open_let hl hs hg t f (by omega) hok.tl
    have hd : digitN c = false := by simp [letN, smallN, greatN, digitN] at hl ⊢; omega
    have hneq : ∀ {x : Nat}, letN x = false → c ≠ x := fun {x} hx e => by rw [e, hx] at hl; cases hl
    obtain ⟨f', rfl⟩ : ∃ g, f = g + 1 := ⟨f - 1, by omega⟩
    have own : ∀ (l : List Nat) (L : List (Nat × Bool)), chosenN b c = (l ++ [c], true) → (l.map prt).reverse = L → openN (f' + 1 + 1) ((b, true) :: t) c = ((c, false) :: (L ++ t), true, false) := fun l L hc hL => by
      rw [openN, expand_last hc, hL]
      exact openN_top c
    have pop : chosenN b c = ([], true) → openN (f' + 1 + 1) ((b, true) :: t) c = openN (f' + 1) t c := fun hc => by
      rw [openN, expand_nil hc]; rfl
    have bad : ∀ l, chosenN b c = (l, false) → badO (openN (f' + 1 + 1) ((b, true) :: t) c) c = true := fun l hc => by
      rw [openN, expand_none hc]; rfl
    simp only [adv]
    by_cases h1 : b = 83
    · subst h1
      rw [if_pos rfl]
      refine ⟨fun T hT => ?_, fun hT => by cases hT⟩
      cases sm
      · injection hT with hT
        subst hT
        exact own [83, 59, 112] _ (by simp [chosenN, stmtN, hs, hg]) rfl
      · injection hT with hT
        subst hT
        exact own [83, 59, 103, 61] _ (by simp [chosenN, stmtN, hs]) rfl
    rw [if_neg h1]
    by_cases h2 : b = 111
    · subst h2
      rw [if_pos rfl]
      cases sm
      · exact ⟨fun T hT => (by cases hT), fun _ => bad [c] (by simp [chosenN, hd, hs])⟩
      · refine ⟨fun T hT => ?_, fun hT => by cases hT⟩
        injection hT with hT
        subst hT
        exact own [] _ (by simp [chosenN, hd, hs]) rfl
    rw [if_neg h2]
    by_cases h3 : b = 100
    · subst h3
      rw [if_pos rfl, pop (by simp [chosenN, hd])]
      exact ih
    rw [if_neg h3]
    by_cases h4 : b = 101
    · subst h4
      rw [if_pos rfl, pop (by simp [chosenN, hd])]
      exact ih
    rw [if_neg h4]
    by_cases h5 : b = 86
    · subst h5
      rw [if_pos rfl]
      cases sm
      · refine ⟨fun T hT => ?_, fun hT => by cases hT⟩
        injection hT with hT
        subst hT
        exact own [] _ (by simp [chosenN, hg]) rfl
      · exact ⟨fun T hT => (by cases hT), fun _ => bad [c] (by simp [chosenN, hg])⟩
    rw [if_neg h5]
    by_cases h6 : b = 103
    · subst h6
      rw [if_pos rfl]
      refine ⟨fun T hT => ?_, fun hT => by cases hT⟩
      have h35 : c ≠ 35 := hneq rfl
      cases sm
      · injection hT with hT
        subst hT
        exact own [93, 111, 91] _ (by simp [chosenN, h35, hg]) rfl
      · injection hT with hT
        subst hT
        have hc : chosenN 103 c = ([116, 111], true) := by simp [chosenN, h35, hg]
        have he : expand 103 c = some (pushL [116, 111] (ownL [116, 111] c)).reverse := by unfold expand; rw [hc]; rfl
        rw [openN, he]
        have hf2 : 3 ≤ f' + 1 := by have : rank 103 = 3 := rfl; omega
        cases ho : ownL [116, 111] c
        · rw [pushL_plain]
          show openN (f' + 1) ((111, true) :: (116, true) :: t) c = _
          have hx : chosenN 111 c = ([] ++ [c], true) := by simp [chosenN, hd, hs]
          rw [openN, expand_last hx]
          obtain ⟨f'', rfl⟩ : ∃ g, f' = g + 1 := ⟨f' - 1, by omega⟩
          exact openN_top c
        · have h111 : c = 111 := by simp [ownL] at ho; exact ho.1.symm
          rw [show ([116, 111] : List Nat) = [116] ++ [111] from rfl, pushL_own]
          subst h111
          exact openN_top 111
    rw [if_neg h6]
    by_cases h7 : b = 116
    · subst h7
      have q1 : c ≠ 43 := hneq rfl
      have q2 : c ≠ 45 := hneq rfl
      have q3 : c ≠ 42 := hneq rfl
      have q4 : c ≠ 47 := hneq rfl
      have q5 : c ≠ 60 := hneq rfl
      rw [if_pos rfl, pop (by simp [chosenN, q1, q2, q3, q4, q5])]
      exact ih
    rw [if_neg h7]
    have h91 : c ≠ 91 := hneq rfl
    by_cases h8 : b = 71
    · subst h8
      rw [if_pos rfl]
      have hc : chosenN 71 c = ([86], true) := by simp [chosenN, h91]
      have he : expand 71 c = some (pushL [86] (ownL [86] c)).reverse := by unfold expand; rw [hc]; rfl
      have hf2 : 2 ≤ f' + 1 := by have : rank 71 = 2 := rfl; omega
      obtain ⟨f'', rfl⟩ : ∃ g, f' = g + 1 := ⟨f' - 1, by omega⟩
      cases sm
      · refine ⟨fun T hT => ?_, fun hT => by cases hT⟩
        injection hT with hT
        subst hT
        rw [openN, he]
        cases ho : ownL [86] c
        · rw [pushL_plain]
          show openN (f'' + 1 + 1) ((86, true) :: t) c = _
          have hx : chosenN 86 c = ([] ++ [c], true) := by simp [chosenN, hg]
          rw [openN, expand_last hx]
          exact openN_top c
        · have h86 : c = 86 := by simp [ownL] at ho; exact ho.1.symm
          rw [show ([86] : List Nat) = [] ++ [86] from rfl, pushL_own]
          subst h86
          exact openN_top 86
      · refine ⟨fun T hT => (by cases hT), fun _ => ?_⟩
        have h86 : ownL [86] c = false := by
          have : c ≠ 86 := fun e => by rw [e] at hs; cases hs
          simp [ownL]
          intro e; exact absurd e.symm this
        rw [openN, he, h86, pushL_plain]
        show badO (openN (f'' + 1 + 1) ((86, true) :: t) c) c = true
        have hx : chosenN 86 c = ([c], false) := by simp [chosenN, hg]
        rw [openN, expand_none hx]
        rfl
    rw [if_neg h8]
    refine ⟨fun T hT => (by cases hT), fun _ => ?_⟩
    have hc : chosenN b c = ([71, 61], true) := by simp [chosenN, h1, h2, h3, h4, h5, h6, h7, h8, h91]
    have he : expand b c = some [(61, false), (71, true)] := by
      unfold expand
      rw [hc]
      have : ownL [71, 61] c = false := by
        have : c ≠ 61 := hneq rfl
        simp [ownL]
        intro e; exact absurd e.symm this
      rw [this, pushL_plain]
      rfl
    rw [openN, he]
    show badO (openN (f' + 1) ((61, false) :: (71, true) :: t) c) c = true
    rw [openN_top]
    have hne : ((61 : Nat) == c) = false := beq_eq_false_iff_ne.2 (fun e => hneq (x := 61) rfl e.symm)
    simp [badO, hne]
end Go.Proofs.Ythcjcjfgdgnljaa
