/-
  DevA, DevP: one behind the other.
-/
import Derived.Test.YthcjcjfgdgnljaaDoorGRunE
import Derived.Laws.BitsLemmas
import Derived.Test.YthcjcjfgdgnljaaDoorGMacB
namespace Go.Proofs.YthcjcjfgdgnljaaDoor
open Go.RowKit
set_option linter.unusedVariables false

def mkN (f : Nat → Bool) : Nat → Nat
  | 0 => 0
  | n + 1 => mkN f n ||| (if f n then 2 ^ n else 0)
theorem mkN_bit (f : Nat → Bool) : ∀ n i, (mkN f n).testBit i = (decide (i < n) && f i)
  | 0, i => by simp [mkN]
  | n + 1, i => by
    show (mkN f n ||| (if f n then 2 ^ n else 0)).testBit i = _
    rw [Nat.testBit_or, mkN_bit f n i]
    by_cases e : i = n
    · subst e
      cases hf : f i
      · simp
      · simp [Nat.testBit_two_pow_self]
    · have h1 : (decide (i < n + 1)) = decide (i < n) := by
        by_cases q : i < n
        · simp [q]; omega
        · simp [q]; omega
      rw [h1]
      cases hf : f n
      · simp
      · have : (2 ^ n).testBit i = false := Nat.testBit_two_pow_of_ne (Ne.symm e)
        simp [this]
theorem mkN_lt (f : Nat → Bool) : ∀ n, mkN f n < 2 ^ n
  | 0 => by simp [mkN]
  | n + 1 => by
    refine Nat.or_lt_two_pow (Nat.lt_of_lt_of_le (mkN_lt f n) (Nat.pow_le_pow_right (by decide) (by omega))) ?_
    split
    · exact Nat.pow_lt_pow_right (by decide) (by omega)
    · exact Nat.two_pow_pos _
/-- a set, as the program has it -/
def msk (f : Nat → Bool) : Nat := mkN f 26
theorem mk_bit (f : Nat → Bool) (i : Nat) : (msk f).testBit i = (decide (i < 26) && f i) := mkN_bit f 26 i
theorem mk_lt (f : Nat → Bool) : msk f < 67108864 := mkN_lt f 26
theorem mk_bit_clean {f : Nat → Bool} (h : Clean f) (i : Nat) : (msk f).testBit i = f i := by
  rw [mk_bit]
  by_cases q : i < 26
  · simp [q]
  · simp [q, h i (by omega)]
theorem mk_congr {f g : Nat → Bool} (h : ∀ i, i < 26 → f i = g i) : msk f = msk g := by
  apply Nat.eq_of_testBit_eq
  intro i
  rw [mk_bit, mk_bit]
  by_cases q : i < 26
  · rw [h i q]
  · simp [q]
theorem mk_and (f g : Nat → Bool) : msk f &&& msk g = msk (bothF f g) := by
  apply Nat.eq_of_testBit_eq
  intro i
  rw [Nat.testBit_and, mk_bit, mk_bit, mk_bit]
  unfold bothF
  cases decide (i < 26) <;> simp
theorem one_bit (k i : Nat) : (1 <<< k).testBit i = decide (i = k) := by
  rw [Nat.one_shiftLeft]
  by_cases e : i = k
  · subst e; simp [Nat.testBit_two_pow_self]
  · rw [Nat.testBit_two_pow_of_ne (Ne.symm e)]; simp [e]
theorem one_lt {k : Nat} (hk : k < 26) : 1 <<< k < 67108864 := by
  rw [Nat.one_shiftLeft]
  exact Nat.lt_of_lt_of_le (Nat.pow_lt_pow_right (by decide) hk) (by decide)
theorem mk_or (f : Nat → Bool) {k : Nat} (hk : k < 26) : msk f ||| 1 <<< k = msk (updB f k true) := by
  apply Nat.eq_of_testBit_eq
  intro i
  rw [Nat.testBit_or, mk_bit, mk_bit, one_bit]
  unfold updB
  by_cases e : i = k
  · subst e; simp [hk]
  · simp [e]
theorem wraps_u32 (n : Int) (h0 : 0 ≤ n) (h1 : n < 2 ^ 26) : IntKind.u32.wrap n = n := by rw [IntKind.wrap_u32]; omega
theorem bits_and (f g : Nat → Bool) : bits BinOp.and IntKind.u32 (msk f : Int) (msk g : Int) = (msk (bothF f g) : Int) := by
  rw [(bits_nat .u32 26 (by decide) wraps_u32 (msk f) (msk g) (mk_lt f) (mk_lt g)).1, mk_and]
theorem bits_or (f : Nat → Bool) {k : Nat} (hk : k < 26) : bits BinOp.or IntKind.u32 (msk f : Int) ((1 <<< k : Nat) : Int) = (msk (updB f k true) : Int) := by
  rw [(bits_nat .u32 26 (by decide) wraps_u32 (msk f) (1 <<< k) (mk_lt f) (one_lt hk)).2, mk_or f hk]
theorem bits_has (f : Nat → Bool) {k : Nat} (hk : k < 26) : (bits BinOp.and IntKind.u32 (msk f : Int) ((1 <<< k : Nat) : Int) != 0) = f k := by
  rw [(bits_nat .u32 26 (by decide) wraps_u32 (msk f) (1 <<< k) (mk_lt f) (one_lt hk)).1]
  have h : ∀ i, (msk f &&& 1 <<< k).testBit i = (decide (i = k) && f k) := fun i => by
    rw [Nat.testBit_and, mk_bit, one_bit]
    by_cases e : i = k
    · subst e; simp [hk]
    · simp [e]
  cases hf : f k
  · have : msk f &&& 1 <<< k = 0 := Nat.eq_of_testBit_eq fun i => by rw [h i, hf]; simp
    rw [this]; rfl
  · have hne : msk f &&& 1 <<< k ≠ 0 := fun e => by
      have := h k
      rw [e, hf] at this
      simp at this
    exact bne_iff_ne.2 (by omega)
theorem bits_not (f : Nat → Bool) {k : Nat} (hk : k < 26) : bits BinOp.andNot IntKind.u32 (msk f : Int) ((1 <<< k : Nat) : Int) = (msk (updB f k false) : Int) := by
  have h1 : (BitVec.ofInt 32 (msk f : Int)).toNat = msk f := by
    rw [BitVec.ofInt_natCast, BitVec.toNat_ofNat]; exact Nat.mod_eq_of_lt (by have := mk_lt f; omega)
  have h2 : (BitVec.ofInt 32 ((1 <<< k : Nat) : Int)).toNat = 1 <<< k := by
    rw [BitVec.ofInt_natCast, BitVec.toNat_ofNat]; exact Nat.mod_eq_of_lt (by have := one_lt hk; omega)
  have h3 : msk f &&& (2 ^ 32 - 1 - 1 <<< k) = msk (updB f k false) := by
    apply Nat.eq_of_testBit_eq
    intro i
    have hlt : 1 <<< k < 2 ^ 32 := by have := one_lt hk; omega
    rw [Nat.testBit_and, mk_bit, mk_bit, show 2 ^ 32 - 1 - 1 <<< k = 2 ^ 32 - (1 <<< k + 1) by omega, Nat.testBit_two_pow_sub_succ hlt, one_bit]
    unfold updB
    by_cases q : i < 26
    · have : i < 32 := by omega
      by_cases e : i = k
      · simp [e]
      · simp [e, this]
    · simp [q]
  show IntKind.u32.wrap ((BitVec.ofInt 32 (msk f : Int) &&& ~~~ BitVec.ofInt 32 ((1 <<< k : Nat) : Int)).toNat : Int) = _
  rw [BitVec.toNat_and, BitVec.toNat_not, h1, h2, h3, IntKind.wrap_u32]
  have := mk_lt (updB f k false)
  omega

set_option maxHeartbeats 400000 in
theorem only_in (w : World) (k : Nat) (hk : k < 26) : Calls Tryd.prog 46 #[.int .i64 (k : Int)] w fun e w' => e = .returned (.int .u32 ((1 <<< k : Nat) : Int)) ∧ w' = w := by
  have HE : Hid ((2 ^ k % 4294967296 : Int) = ((1 <<< k : Nat) : Int)) := by
    show (2 ^ k % 4294967296 : Int) = ((1 <<< k : Nat) : Int)
    have h := one_lt hk
    rw [Nat.one_shiftLeft] at h ⊢
    have h2 : ((2 : Int) ^ k) = ((2 ^ k : Nat) : Int) := by simp
    rw [h2]
    clear h2
    generalize (2 ^ k : Nat) = q at h ⊢
    omega
  generalize ((1 <<< k : Nat) : Int) = R at HE ⊢
  go_enter Tryd.func46, Tryd.ntmps46
  go_wp2
  go_ret
  exact ⟨retI HE.out, rfl⟩
set_option maxHeartbeats 400000 in
theorem with_fn (w : World) (f : Nat → Bool) (k : Nat) (hk : k < 26) : Calls Tryd.prog 56 #[.int .u32 (msk f : Int), .int .i64 (k : Int)] w fun e w' => e = .returned (.int .u32 (msk (updB f k true) : Int)) ∧ w' = w := by
  have HE : Hid _ := bits_or f hk
  have HO : Hid _ := fun X => only_in X k hk
  generalize ((1 <<< k : Nat) : Int) = Q at HE HO
  go_enter Tryd.func56, Tryd.ntmps56
  go_wp2_with (go_at_call 46; refine (HO.out _).mono ?_; rintro e w1 ⟨rfl, hw⟩; have hw2 := hw.symm; clear hw; subst hw2)
  go_ret
  exact ⟨retI HE.out, rfl⟩
set_option maxHeartbeats 400000 in
theorem without_fn (w : World) (f : Nat → Bool) (k : Nat) (hk : k < 26) : Calls Tryd.prog 57 #[.int .u32 (msk f : Int), .int .i64 (k : Int)] w fun e w' => e = .returned (.int .u32 (msk (updB f k false) : Int)) ∧ w' = w := by
  have HE : Hid _ := bits_not f hk
  have HO : Hid _ := fun X => only_in X k hk
  generalize ((1 <<< k : Nat) : Int) = Q at HE HO
  go_enter Tryd.func57, Tryd.ntmps57
  go_wp2_with (go_at_call 46; refine (HO.out _).mono ?_; rintro e w1 ⟨rfl, hw⟩; have hw2 := hw.symm; clear hw; subst hw2)
  go_ret
  exact ⟨retI HE.out, rfl⟩
set_option maxHeartbeats 400000 in
theorem has_fn (w : World) (f : Nat → Bool) (k : Nat) (hk : k < 26) : Calls Tryd.prog 29 #[.int .u32 (msk f : Int), .int .i64 (k : Int)] w fun e w' => e = .returned (.bool (f k)) ∧ w' = w := by
  have HE : Hid _ := bits_has f hk
  have HO : Hid _ := fun X => only_in X k hk
  generalize ((1 <<< k : Nat) : Int) = Q at HE HO
  go_enter Tryd.func29, Tryd.ntmps29
  go_wp2_with (go_at_call 46; refine (HO.out _).mono ?_; rintro e w1 ⟨rfl, hw⟩; have hw2 := hw.symm; clear hw; subst hw2)
  go_ret
  exact ⟨retb HE.out, rfl⟩

/-- V=W; as the program does it -/
def moveF (k l : Nat) (f : Nat → Bool) : Nat → Bool := if f l then updB (updB f l false) k true else updB (updB f l false) k false
set_option maxHeartbeats 400000 in
theorem move_fn (w : World) (f : Nat → Bool) (k l : Nat) (hk : k < 26) (hl : l < 26) : Calls Tryd.prog 58 #[.int .i64 (k : Int), .int .i64 (l : Int), .int .u32 (msk f : Int)] w fun e w' => e = .returned (.int .u32 (msk (moveF k l f) : Int)) ∧ w' = w := by
  have H1 : Hid _ := fun X => without_fn X f l hl
  have H2 : Hid _ := fun X => has_fn X f l hl
  cases hf : f l
  · rw [hf] at H2
    have H3 : Hid _ := fun X => without_fn X (updB f l false) k hk
    have HE : moveF k l f = updB (updB f l false) k false := by unfold moveF; rw [hf]; rfl
    rw [HE]
    clear hf HE
    go_enter Tryd.func58, Tryd.ntmps58
    go_wp2_with fail
    refine (H1.out _).mono ?_
    rintro e w1 ⟨rfl, hw⟩
    have hw2 := hw.symm
    clear hw
    subst hw2
    go_wp2_with fail
    refine (H2.out _).mono ?_
    rintro e w1 ⟨rfl, hw⟩
    have hw2 := hw.symm
    clear hw
    subst hw2
    go_wp2_with fail
    refine (H3.out _).mono ?_
    rintro e w1 ⟨rfl, hw⟩
    have hw2 := hw.symm
    clear hw
    subst hw2
    go_wp2
    go_ret
    exact ⟨rfl, rfl⟩
  · rw [hf] at H2
    have H3 : Hid _ := fun X => with_fn X (updB f l false) k hk
    have HE : moveF k l f = updB (updB f l false) k true := by unfold moveF; rw [hf]; rfl
    rw [HE]
    clear hf HE
    go_enter Tryd.func58, Tryd.ntmps58
    go_wp2_with fail
    refine (H1.out _).mono ?_
    rintro e w1 ⟨rfl, hw⟩
    have hw2 := hw.symm
    clear hw
    subst hw2
    go_wp2_with fail
    refine (H2.out _).mono ?_
    rintro e w1 ⟨rfl, hw⟩
    have hw2 := hw.symm
    clear hw
    subst hw2
    go_wp2_with fail
    refine (H3.out _).mono ?_
    rintro e w1 ⟨rfl, hw⟩
    have hw2 := hw.symm
    clear hw
    subst hw2
    go_wp2
    go_ret
    exact ⟨rfl, rfl⟩
end Go.Proofs.YthcjcjfgdgnljaaDoor

namespace Go.Proofs.YthcjcjfgdgnljaaDoor
open Go.RowKit
set_option linter.unusedVariables false

/-- all of f is in g -/
def Sub (f g : Nat → Bool) : Prop := ∀ i, f i = true → g i = true
theorem Sub.refl (f : Nat → Bool) : Sub f f := fun _ h => h
theorem Sub.trans {f g h : Nat → Bool} (a : Sub f g) (b : Sub g h) : Sub f h := fun i q => b i (a i q)
theorem Sub.anti {f g : Nat → Bool} (a : Sub f g) (b : Sub g f) : f = g := by
  funext i
  cases hf : f i
  · cases hg : g i
    · rfl
    · rw [b i hg] at hf; cases hf
  · exact (a i hf).symm
theorem both_iff {f g : Nat → Bool} {i : Nat} : bothF f g i = true ↔ f i = true ∧ g i = true := by unfold bothF; simp
theorem Sub.both {f g f' g' : Nat → Bool} (a : Sub f f') (b : Sub g g') : Sub (bothF f g) (bothF f' g') := fun i h => by
  rw [both_iff] at h ⊢
  exact ⟨a i h.1, b i h.2⟩
theorem Sub.left (f g : Nat → Bool) : Sub (bothF f g) f := fun i h => (both_iff.1 h).1
theorem Sub.right (f g : Nat → Bool) : Sub (bothF f g) g := fun i h => (both_iff.1 h).2
theorem Sub.into {f g h : Nat → Bool} (a : Sub f g) (b : Sub f h) : Sub f (bothF g h) := fun i q => both_iff.2 ⟨a i q, b i q⟩
theorem Sub.upd {f g : Nat → Bool} (h : Sub f g) (k : Nat) {u v : Bool} (huv : u = true → v = true) : Sub (updB f k u) (updB g k v) := fun i q => by
  unfold updB at q ⊢
  split
  · rw [if_pos (by assumption)] at q; exact huv q
  · rw [if_neg (by assumption)] at q; exact h i q
theorem Sub.of {f g : Nat → Bool} (hc : Clean f) (h : subF f g) : Sub f g := fun i q => by
  by_cases hi : i < 26
  · exact h i hi q
  · rw [hc i (by omega)] at q; cases q
theorem both_comm (f g : Nat → Bool) : bothF f g = bothF g f := by funext i; unfold bothF; exact Bool.and_comm _ _
theorem both_sub {f g : Nat → Bool} (h : Sub f g) : bothF f g = f := Sub.anti (Sub.left _ _) (Sub.into (Sub.refl _) h)

theorem sim_mono {s : ByteArray} {i : Nat} {f g : Nat → Bool} (h : Sub f g) : Sub (simF s i f) (simF s i g) := by
  unfold simF
  split
  · exact h.upd _ id
  · split
    · exact h.upd _ id
    · split
      · exact (h.upd _ (h _)).upd _ id
      · exact h
theorem iter_mono {T : (Nat → Bool) → Nat → Bool} (hT : ∀ f g, Sub f g → Sub (T f) (T g)) : ∀ (n : Nat) {f g : Nat → Bool}, Sub f g → Sub (iterF T n f) (iterF T n g)
  | 0, _, _, h => h
  | n + 1, _, _, h => iter_mono hT n (h.both (hT _ _ h))
theorem after_mono {al : Nat → Nat → (Nat → Bool) → Nat → Bool} (hal : ∀ i j f g, Sub f g → Sub (al i j f) (al i j g)) {s : ByteArray} {i : Nat} {f g : Nat → Bool} (h : Sub f g) : Sub (afterF al s i f) (afterF al s i g) := by
  unfold afterF
  split
  · exact (hal _ _ _ _ h).both (hal _ _ _ _ h)
  · split
    · exact iter_mono (hal _ _) _ h
    · exact sim_mono h
theorem along_mono {s : ByteArray} : ∀ {F i j : Nat} {f g : Nat → Bool}, Sub f g → Sub (alongF s F i j f) (alongF s F i j g)
  | 0, _, _, _, _, h => h
  | F + 1, i, j, f, g, h => by
    show Sub (if i < j then alongF s F (behN s i) j (afterF (alongF s F) s i f) else f) (if i < j then alongF s F (behN s i) j (afterF (alongF s F) s i g) else g)
    split
    · exact along_mono (F := F) (after_mono (al := alongF s F) (fun a b f g hh => along_mono hh) h)
    · exact h

theorem iter_sub {T : (Nat → Bool) → Nat → Bool} : ∀ (n : Nat) (f : Nat → Bool), Sub (iterF T n f) f
  | 0, f => Sub.refl f
  | n + 1, f => (iter_sub n _).trans (Sub.left _ _)
theorem iter_fix {T : (Nat → Bool) → Nat → Bool} : ∀ (n : Nat) (f : Nat → Bool), Clean f → card f 26 < n → Sub (iterF T n f) (T (iterF T n f))
  | 0, f, _, h => absurd h (Nat.not_lt_zero _)
  | n + 1, f, hc, h => by
    by_cases hs : subF f (T f)
    · rw [iterF_stop (both_eq hc hs)]
      exact Sub.of hc hs
    · have := card_both hs
      exact iter_fix n (bothF f (T f)) hc.both (by omega)
theorem iter_great {T : (Nat → Bool) → Nat → Bool} (hT : ∀ f g, Sub f g → Sub (T f) (T g)) {G : Nat → Bool} (hG : Sub G (T G)) : ∀ (n : Nat) (f : Nat → Bool), Sub G f → Sub G (iterF T n f)
  | 0, _, h => h
  | n + 1, f, h => iter_great hT hG n _ (h.into (hG.trans (hT _ _ h)))

/-- a part of a program, as the program has it -/
structure Pt where
  kind : Nat
  place : Nat
  num : Nat
  box : Nat
  src : Nat
  o1 : Od
  sign : Nat
  o2 : Od
  opn : Nat
/-- the sentence without braces that a part is -/
def acP (t : Pt) : Ac :=
  if t.kind = 0 then (if t.sign = 0 then .set t.num t.o1 else .bin t.num t.o1 t.sign t.o2) else if t.kind = 1 then .print t.o1 else if t.kind = 2 then .load t.num t.box t.o1
  else if t.kind = 3 then .size t.num t.box else if t.kind = 4 then .make t.box t.o1 else if t.kind = 5 then .move t.box t.src else if t.kind = 6 then .store t.box t.o1 t.o2 else .drop t.box
/-- behind a sentence without braces -/
def behP (t : Pt) (f : Nat → Bool) : Nat → Bool :=
  if t.kind = 4 then updB f t.box true else if t.kind = 7 then updB f t.box false else if t.kind = 5 then moveF t.box t.src f else f
def useB (t : Pt) : Bool := t.kind == 2 || t.kind == 3 || t.kind == 6 || t.kind == 7 || t.kind == 5
def usePl (t : Pt) : Nat := if t.kind = 2 then t.place + 2 else if t.kind = 3 then t.place + 3 else if t.kind = 6 then t.place else if t.kind = 7 then t.place + 1 else t.place + 2
def useBx (t : Pt) : Nat := if t.kind = 5 then t.src else t.box
/-- a part tells what the sentence at i says -/
structure SimPart (s : ByteArray) (i : Nat) (t : Pt) : Prop where
  pl : t.place = i
  kd : t.kind < 8
  eff : ∀ f, Clean f → behP t f = simF s i f
  ac : acP t = acN s i
  use : (useB t = false ∧ useN s i = -1) ∨ (useB t = true ∧ useN s i = (usePl t : Int) ∧ bt s (usePl t) - 65 = useBx t)

def updA (A : Nat → Nat → Bool) (i : Nat) (f : Nat → Bool) : Nat → Nat → Bool := fun j => if j = i then f else A j
theorem updA_at (A : Nat → Nat → Bool) (i : Nat) (f : Nat → Bool) : updA A i f i = f := by simp [updA]
theorem updA_ne (A : Nat → Nat → Bool) {i j : Nat} (f : Nat → Bool) (h : j ≠ i) : updA A i f j = A j := by simp [updA, h]

/-- what a pass holds -/
structure Ps where
  A : Nat → Nat → Bool
  B : Nat → Nat → Bool
  now : Nat → Bool
  st : Bool
def nowM (p : Nat → Pt) (i : Nat) (z : Ps) : Nat → Bool :=
  if (p i).kind = 9 then updA z.A i z.now (p i).opn
  else if (p i).kind = 10 then bothF z.now (updA z.A i z.now (p i).opn)
  else if (p i).kind = 11 then bothF z.now (z.B i)
  else if (p i).kind = 12 then bothF (z.B (p i).opn) z.now
  else behP (p i) z.now
def stepM (p : Nat → Pt) (i : Nat) (z : Ps) : Ps :=
  { A := updA z.A i z.now
    B := updA (if (p i).kind = 12 then updA z.B (p i).opn (nowM p i z) else z.B) i (nowM p i z)
    now := nowM p i z
    st := z.st && (if (p i).kind = 12 then subD (z.B (p i).opn) z.now else true) }
def passM (p : Nat → Pt) : Nat → Nat → Ps → Ps
  | 0, _, z => z
  | n + 1, i, z => passM p n (i + 1) (stepM p i z)
theorem passM_add (p : Nat → Pt) : ∀ (m n i : Nat) (z : Ps), passM p (m + n) i z = passM p n (i + m) (passM p m i z)
  | 0, n, i, z => by rw [Nat.zero_add]; rfl
  | m + 1, n, i, z => by
    rw [show m + 1 + n = (m + n) + 1 by omega]
    show passM p (m + n) (i + 1) (stepM p i z) = passM p n (i + (m + 1)) (passM p m (i + 1) (stepM p i z))
    rw [passM_add p m n (i + 1), show i + 1 + m = i + (m + 1) by omega]
/-- the parts from k up to l -/
def seg (p : Nat → Pt) (k l : Nat) (z : Ps) : Ps := passM p (l - k) k z
theorem seg_app (p : Nat → Pt) {k m l : Nat} (h1 : k ≤ m) (h2 : m ≤ l) (z : Ps) : seg p k l z = seg p m l (seg p k m z) := by
  unfold seg
  rw [show l - k = (m - k) + (l - m) by omega, passM_add, show k + (m - k) = m by omega]
theorem seg_one (p : Nat → Pt) (k : Nat) (z : Ps) : seg p k (k + 1) z = stepM p k z := by
  unfold seg
  rw [show k + 1 - k = 1 by omega]; rfl
theorem seg_nil (p : Nat → Pt) (k : Nat) (z : Ps) : seg p k k z = z := by unfold seg; rw [Nat.sub_self]; rfl
theorem seg_head (p : Nat → Pt) {k l : Nat} (h : k < l) (z : Ps) : seg p k l z = seg p (k + 1) l (stepM p k z) := by
  rw [seg_app p (m := k + 1) (by omega) (by omega), seg_one]
theorem seg_last (p : Nat → Pt) {k l : Nat} (h : k ≤ l) (z : Ps) : seg p k (l + 1) z = stepM p l (seg p k l z) := by
  rw [seg_app p h (by omega), seg_one]
theorem step_st {p : Nat → Pt} {i : Nat} {z : Ps} (h : (stepM p i z).st = true) : z.st = true := by
  unfold stepM at h; simp at h; exact h.1
theorem pass_st {p : Nat → Pt} : ∀ {n i : Nat} {z : Ps}, (passM p n i z).st = true → z.st = true
  | 0, _, _, h => h
  | _ + 1, _, _, h => step_st (pass_st h)
theorem seg_st {p : Nat → Pt} {k l : Nat} {z : Ps} (h : (seg p k l z).st = true) : z.st = true := pass_st h

section
variable (p : Nat → Pt) (s : ByteArray) (cl cs : Nat → (Nat → Bool) → Prop)
/-- the parts from k to k' are the sentence from i to m; f: what is full ahead of it -/
def SQ (F : Nat) (R : Nat → Nat → Nat → Nat → (Nat → Bool) → Prop) (i m k k' : Nat) (f : Nat → Bool) : Prop :=
  cs k f ∧
  ((Simple s i m ∧ k' = k + 1 ∧ SimPart s i (p k)) ∨
   (∃ a b c ka kb, IfAt s i a b c ∧ R (a + 1) b (k + 1) ka f ∧ R (b + 2) c (ka + 1) kb f ∧ m = c + 1 ∧ k' = kb + 1 ∧ ((p k).kind = 8 ∧ (p k).o1 = odN s (i + 1) ∧ (p k).place = i ∧ (p ka).place = b ∧ (p kb).place = c) ∧ (p ka).kind = 9 ∧ (p ka).opn = k ∧ (p kb).kind = 10 ∧ (p kb).opn = ka ∧ k + 1 ≤ ka ∧ ka + 1 ≤ kb) ∨
   (∃ a b ka, LoopAt s i a b ∧ cl k (iterF (alongF s F (a + 1) b) 27 f) ∧ R (a + 1) b (k + 1) ka (iterF (alongF s F (a + 1) b) 27 f) ∧ m = b + 1 ∧ k' = ka + 1 ∧ ((p k).kind = 11 ∧ (p k).o1 = odN s (i + 1) ∧ (p k).place = i ∧ (p ka).place = b) ∧ (p ka).kind = 12 ∧ (p ka).opn = k ∧ k + 1 ≤ ka))
/-- the parts from k to l are the sentences from i to j -/
def SegQ : Nat → Nat → Nat → Nat → Nat → (Nat → Bool) → Prop
  | 0, i, j, k, l, _ => i = j ∧ k = l
  | F + 1, i, j, k, l, f => (i = j ∧ k = l) ∨ ∃ m k', SQ p s cl cs F (SegQ F) i m k k' f ∧ i < m ∧ m ≤ j ∧ k < k' ∧ k' ≤ l ∧ behN s i = m ∧ SegQ F m j k' l (afterF (alongF s F) s i f)
end
theorem SegQ.imp {p : Nat → Pt} {s : ByteArray} {cl cs cl' cs' : Nat → (Nat → Bool) → Prop} : ∀ {F i j k l : Nat} {f : Nat → Bool}, (∀ q f, k ≤ q → q < l → cl q f → cl' q f) → (∀ q f, k ≤ q → q < l → cs q f → cs' q f) → SegQ p s cl cs F i j k l f → SegQ p s cl' cs' F i j k l f
  | 0, _, _, _, _, _, _, _, h => h
  | F + 1, i, j, k, l, f, h1, h2, h => by
    rcases h with h | ⟨m, k', ⟨hc, hs⟩, g1, g2, g3, g4, g5, hr⟩
    · exact .inl h
    · refine .inr ⟨m, k', ⟨h2 k f (by omega) (by omega) hc, ?_⟩, g1, g2, g3, g4, g5, SegQ.imp (fun q f a b => h1 q f (by omega) b) (fun q f a b => h2 q f (by omega) b) hr⟩
      rcases hs with hs | ⟨a, b, c, ka, kb, q1, q2, q3, q4, q5, q6, q7, q8, q9, q10, q11, q12⟩ | ⟨a, b, ka, q1, q2, q3, q4, q5, q6, q7, q8, q9⟩
      · exact .inl hs
      · exact .inr (.inl ⟨a, b, c, ka, kb, q1, SegQ.imp (fun q f a b => h1 q f (by omega) (by omega)) (fun q f a b => h2 q f (by omega) (by omega)) q2, SegQ.imp (fun q f a b => h1 q f (by omega) (by omega)) (fun q f a b => h2 q f (by omega) (by omega)) q3, q4, q5, q6, q7, q8, q9, q10, q11, q12⟩)
      · exact .inr (.inr ⟨a, b, ka, q1, h1 k _ (by omega) (by omega) q2, SegQ.imp (fun q f a b => h1 q f (by omega) (by omega)) (fun q f a b => h2 q f (by omega) (by omega)) q3, q4, q5, q6, q7, q8, q9⟩)
theorem SegQ.le {p : Nat → Pt} {s : ByteArray} {cl cs : Nat → (Nat → Bool) → Prop} : ∀ {F i j k l : Nat} {f : Nat → Bool}, SegQ p s cl cs F i j k l f → k ≤ l
  | 0, _, _, _, _, _, h => Nat.le_of_eq h.2
  | F + 1, i, j, k, l, f, h => by
    rcases h with h | ⟨m, k', _, _, _, g3, g4, _⟩
    · exact Nat.le_of_eq h.2
    · omega
theorem along_next {s : ByteArray} {F i j m : Nat} {f : Nat → Bool} (h1 : i < m) (h2 : m ≤ j) (h3 : behN s i = m) : alongF s (F + 1) i j f = alongF s F m j (afterF (alongF s F) s i f) := by
  show (if i < j then alongF s F (behN s i) j (afterF (alongF s F) s i f) else f) = _
  rw [if_pos (by omega), h3]

/-- outside of k to l two passes hold the same -/
def Same (k l : Nat) (z z' : Ps) : Prop := ∀ q, q < k ∨ l ≤ q → z'.A q = z.A q ∧ z'.B q = z.B q
theorem Same.refl (k l : Nat) (z : Ps) : Same k l z z := fun _ _ => ⟨rfl, rfl⟩
theorem Same.trans {k l : Nat} {a b c : Ps} (h : Same k l a b) (g : Same k l b c) : Same k l a c := fun q hq => ⟨(g q hq).1.trans (h q hq).1, (g q hq).2.trans (h q hq).2⟩
theorem Same.mono {k l k' l' : Nat} {a b : Ps} (h : Same k l a b) (h1 : k' ≤ k) (h2 : l ≤ l') : Same k' l' a b := fun q hq => h q (by omega)
theorem step_same {p : Nat → Pt} {i k l : Nat} (z : Ps) (hi : k ≤ i) (hl : i < l) (ho : (p i).kind = 12 → k ≤ (p i).opn ∧ (p i).opn < l) : Same k l z (stepM p i z) := fun q hq => by
  refine ⟨updA_ne _ _ (by omega), ?_⟩
  show updA (if (p i).kind = 12 then updA z.B (p i).opn (nowM p i z) else z.B) i (nowM p i z) q = z.B q
  rw [updA_ne _ _ (by omega)]
  split
  · rename_i h
    have := ho h
    exact updA_ne _ _ (by omega)
  · rfl

theorem now7 {p : Nat → Pt} {i : Nat} {z : Ps} (h : (p i).kind < 9) : nowM p i z = behP (p i) z.now := by
  unfold nowM
  rw [if_neg (by omega), if_neg (by omega), if_neg (by omega), if_neg (by omega)]
theorem beh7 {t : Pt} (h : t.kind = 8) (f : Nat → Bool) : behP t f = f := by
  unfold behP
  rw [if_neg (by omega), if_neg (by omega), if_neg (by omega)]
theorem now8 {p : Nat → Pt} {i : Nat} {z : Ps} (h : (p i).kind = 9) (ho : (p i).opn ≠ i) : nowM p i z = z.A (p i).opn := by
  unfold nowM
  rw [if_pos h, updA_ne _ _ ho]
theorem now9 {p : Nat → Pt} {i : Nat} {z : Ps} (h : (p i).kind = 10) (ho : (p i).opn ≠ i) : nowM p i z = bothF z.now (z.A (p i).opn) := by
  unfold nowM
  rw [if_neg (by omega), if_pos h, updA_ne _ _ ho]
theorem now10 {p : Nat → Pt} {i : Nat} {z : Ps} (h : (p i).kind = 11) : nowM p i z = bothF z.now (z.B i) := by
  unfold nowM
  rw [if_neg (by omega), if_neg (by omega), if_pos h]
theorem now11 {p : Nat → Pt} {i : Nat} {z : Ps} (h : (p i).kind = 12) : nowM p i z = bothF (z.B (p i).opn) z.now := by
  unfold nowM
  rw [if_neg (by omega), if_neg (by omega), if_neg (by omega), if_pos h]
theorem step_now {p : Nat → Pt} {i : Nat} {z : Ps} : (stepM p i z).now = nowM p i z := rfl
theorem step_A {p : Nat → Pt} {i : Nat} {z : Ps} : (stepM p i z).A i = z.now := updA_at _ _ _
theorem step_B {p : Nat → Pt} {i : Nat} {z : Ps} : (stepM p i z).B i = nowM p i z := updA_at _ _ _
theorem step_B11 {p : Nat → Pt} {i : Nat} {z : Ps} (h : (p i).kind = 12) (ho : (p i).opn ≠ i) : (stepM p i z).B (p i).opn = nowM p i z := by
  show updA (if (p i).kind = 12 then updA z.B (p i).opn (nowM p i z) else z.B) i (nowM p i z) (p i).opn = _
  rw [updA_ne _ _ ho, if_pos h, updA_at]
theorem step_st11 {p : Nat → Pt} {i : Nat} {z : Ps} (h : (p i).kind = 12) (hs : (stepM p i z).st = true) : subF (z.B (p i).opn) z.now := by
  unfold stepM at hs
  simp [h] at hs
  exact subD_of hs.2

section
variable {p : Nat → Pt} {s : ByteArray}
/-- what the parts from k to l leave alone -/
theorem seg_same {cl cs : Nat → (Nat → Bool) → Prop} : ∀ {F i j k l : Nat} {f : Nat → Bool}, SegQ p s cl cs F i j k l f → ∀ z, Same k l z (seg p k l z)
  | 0, _, _, k, l, _, h, z => by
    have e := h.2
    subst e
    rw [seg_nil]
    exact Same.refl _ _ _
  | F + 1, i, j, k, l, f, h, z => by
    rcases h with h | ⟨m, k', ⟨hc, hs⟩, g1, g2, g3, g4, g5, hr⟩
    · have e := h.2
      subst e
      rw [seg_nil]
      exact Same.refl _ _ _
    · rw [seg_app p (m := k') (by omega) (by omega)]
      refine Same.trans ?_ ((seg_same hr _).mono (by omega) (Nat.le_refl _))
      rcases hs with ⟨q1, q2, q3⟩ | ⟨a, b, c, ka, kb, q1, q2, q3, q4, q5, q6, q7, q8, q9, q10, q11, q12⟩ | ⟨a, b, ka, q1, q2, q3, q4, q5, q6, q7, q8, q9⟩
      · rw [q2, seg_one]
        exact step_same z (Nat.le_refl _) (by omega) (fun e => by have := q3.kd; omega)
      · have l2 := q2.le
        have l3 := q3.le
        rw [q5, seg_last p (l := kb) (by omega), seg_app p (m := ka + 1) (by omega) (by omega), seg_last p (l := ka) (by omega), seg_head p (l := ka) (by omega)]
        refine Same.trans ?_ (step_same _ (by omega) (by omega) (fun e => by omega))
        refine Same.trans ?_ ((seg_same q3 _).mono (by omega) (by omega))
        refine Same.trans ?_ (step_same _ (by omega) (by omega) (fun e => by omega))
        refine Same.trans ?_ ((seg_same q2 _).mono (by omega) (by omega))
        exact step_same _ (by omega) (by omega) (fun e => by omega)
      · have l2 := q3.le
        rw [q5, seg_last p (l := ka) (by omega), seg_head p (l := ka) (by omega)]
        refine Same.trans ?_ (step_same _ (by omega) (by omega) (fun e => by rw [q8]; omega))
        refine Same.trans ?_ ((seg_same q3 _).mono (by omega) (by omega))
        exact step_same _ (by omega) (by omega) (fun e => by omega)

/-- no loop's set was made smaller: what comes out is no more than the document says -/
theorem seg_down {cl cs : Nat → (Nat → Bool) → Prop} : ∀ {F i j k l : Nat} {f : Nat → Bool}, SegQ p s cl cs F i j k l f → ∀ z, Clean z.now → (seg p k l z).st = true → Clean (seg p k l z).now ∧ Sub (seg p k l z).now (alongF s F i j z.now)
  | 0, i, j, k, l, _, h, z, hc, hst => by
    obtain ⟨e1, e2⟩ := h
    subst e1 e2
    rw [seg_nil]
    exact ⟨hc, Sub.refl _⟩
  | F + 1, i, j, k, l, f, h, z, hcz, hst => by
    rcases h with ⟨e1, e2⟩ | ⟨m, k', ⟨hc, hs⟩, g1, g2, g3, g4, g5, hr⟩
    · subst e1 e2
      rw [seg_nil, alongF_end]
      exact ⟨hcz, Sub.refl _⟩
    · rw [seg_app p (m := k') (by omega) (by omega)] at hst ⊢
      have hst1 := seg_st hst
      have key : Clean (seg p k k' z).now ∧ Sub (seg p k k' z).now (afterF (alongF s F) s i z.now) := by
        rcases hs with ⟨q1, q2, q3⟩ | ⟨a, b, c, ka, kb, q1, q2, q3, q4, q5, q6, q7, q8, q9, q10, q11, q12⟩ | ⟨a, b, ka, q1, q2, q3, q4, q5, q6, q7, q8, q9⟩
        · rw [q2, seg_one, step_now, now7 (by have := q3.kd; omega), q3.eff _ hcz, afterF_simple q1]
          exact ⟨hcz.sim, Sub.refl _⟩
        · have l2 := q2.le
          have l3 := q3.le
          rw [q5, seg_last p (l := kb) (by omega), seg_app p (m := ka + 1) (by omega) (by omega), seg_last p (l := ka) (by omega), seg_head p (l := ka) (by omega)] at hst1 ⊢
          -- the two S, one behind the other
          have n0 : (stepM p k z).now = z.now := by rw [step_now, now7 (by omega), beh7 q6.1]
          have s1 := seg_same q2 (stepM p k z)
          have d1 := fun h => seg_down q2 (stepM p k z) (by rw [n0]; exact hcz) h
          generalize hz1 : seg p (k + 1) ka (stepM p k z) = z1 at hst1 s1 d1 ⊢
          have nA : z1.A k = z.now := ((s1 k (.inl (by omega))).1).trans step_A
          have n1 : (stepM p ka z1).now = z.now := by rw [step_now, now8 q7 (by omega), q8, nA]
          have s2 := seg_same q3 (stepM p ka z1)
          have d2 := fun h => seg_down q3 (stepM p ka z1) (by rw [n1]; exact hcz) h
          have hA2 : (stepM p ka z1).A ka = z1.now := step_A
          have hstm := step_st hst1
          generalize hz2 : seg p (ka + 1) kb (stepM p ka z1) = z2 at hst1 s2 d2 hstm ⊢
          have nA2 : z2.A ka = z1.now := ((s2 ka (.inl (by omega))).1).trans hA2
          have e2 := d2 hstm
          have hst3 : (stepM p ka z1).st = true := by rw [← hz2] at hstm; exact seg_st hstm
          have e1 := d1 (step_st hst3)
          rw [step_now, now9 q9 (by omega), q10, nA2, afterF_if q1, both_comm]
          rw [n0] at e1
          rw [n1] at e2
          exact ⟨e1.1.both, e1.2.both e2.2⟩
        · have l2 := q3.le
          rw [q5, seg_last p (l := ka) (by omega), seg_head p (l := ka) (by omega)] at hst1 ⊢
          have n0 : (stepM p k z).now = bothF z.now (z.B k) := by rw [step_now, now10 q6.1]
          have hB : (stepM p k z).B k = bothF z.now (z.B k) := by rw [step_B, now10 q6.1]
          have hc0 : Clean (bothF z.now (z.B k)) := hcz.both
          have s1 := seg_same q3 (stepM p k z)
          have d1 := seg_down q3 (stepM p k z) (by rw [n0]; exact hc0) (step_st hst1)
          generalize seg p (k + 1) ka (stepM p k z) = z1 at hst1 s1 d1 ⊢
          have nB : z1.B k = bothF z.now (z.B k) := ((s1 k (.inl (by omega))).2).trans hB
          have hsub := step_st11 q7 hst1
          rw [q8, nB] at hsub
          rw [n0] at d1
          have hp : Sub (bothF z.now (z.B k)) z1.now := Sub.of hc0 hsub
          have hpf : Sub (bothF z.now (z.B k)) (alongF s F (a + 1) b (bothF z.now (z.B k))) := hp.trans d1.2
          rw [step_now, now11 q7, q8, nB, both_sub hp, afterF_loop q1]
          exact ⟨hc0, iter_great (fun f g h => along_mono h) hpf 27 z.now (Sub.left _ _)⟩
      have e := seg_down hr (seg p k k' z) key.1 hst
      rw [along_next g1 g2 g5]
      exact ⟨e.1, e.2.trans (along_mono key.2)⟩
end
end Go.Proofs.YthcjcjfgdgnljaaDoor
