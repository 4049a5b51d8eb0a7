/-
  RunF, RunG, RunJ, RunL, MacA, MacB: one behind the other.
-/
import Derived.Test.YthcjcjfgdgnljaaDoorGRunE
import Derived.Test.YthcjcjfgdgnljaaDoorGAlloc
namespace Go.Proofs.YthcjcjfgdgnljaaDoor
open Go.RowKit
set_option linter.unusedVariables false

theorem RunAt.setAt {w : World} {rp : Nat} {s : ByteArray} {x : Rn} (h : RunAt w rp s x) {k : Nat} (hk : k < 26) (v : Int) : RunAt (w.setCell ⟨rp, 54 + k, none⟩ (.int .i64 v)) rp s { x with at_ := updI x.at_ k v } :=
  ⟨cell_at h.cs (by omega), fun j hj => cell_at (h.cn j hj) (by omega), fun j hj => cell_at (h.cw j hj) (by omega),
    cell_at h.ch (by omega), fun j hj => by
      by_cases e : j = k
      · subst e; show _ = some (Value.int .i64 (updI x.at_ j v j)); rw [show updI x.at_ j v j = v by simp [updI]]; exact cell_same (h.ca j hj)
      · show _ = some (Value.int .i64 (updI x.at_ k v j)); rw [show updI x.at_ k v j = x.at_ j by simp [updI, e]]; exact cell_at (h.ca j hj) (by omega), fun j hj => cell_at (h.cl j hj) (by omega),
    cell_at h.cf (by omega), cell_at h.co (by omega), cell_at h.ct (by omega), cell_at h.cu (by omega), cell_at h.cp (by omega), fun o => by rw [World.frozen?_setCell]; exact h.fz o⟩
theorem RunAt.setLen {w : World} {rp : Nat} {s : ByteArray} {x : Rn} (h : RunAt w rp s x) {k : Nat} (hk : k < 26) (v : Int) : RunAt (w.setCell ⟨rp, 80 + k, none⟩ (.int .i64 v)) rp s { x with len := updI x.len k v } :=
  ⟨cell_at h.cs (by omega), fun j hj => cell_at (h.cn j hj) (by omega), fun j hj => cell_at (h.cw j hj) (by omega),
    cell_at h.ch (by omega), fun j hj => cell_at (h.ca j hj) (by omega), fun j hj => by
      by_cases e : j = k
      · subst e; show _ = some (Value.int .i64 (updI x.len j v j)); rw [show updI x.len j v j = v by simp [updI]]; exact cell_same (h.cl j hj)
      · show _ = some (Value.int .i64 (updI x.len k v j)); rw [show updI x.len k v j = x.len j by simp [updI, e]]; exact cell_at (h.cl j hj) (by omega),
    cell_at h.cf (by omega), cell_at h.co (by omega), cell_at h.ct (by omega), cell_at h.cu (by omega), cell_at h.cp (by omega), fun o => by rw [World.frozen?_setCell]; exact h.fz o⟩
/-- boxes change places -/
theorem PlayAt.perm {w w' : World} {rp base : Nat} {s : ByteArray} {x x' : Rn} {bx bx' : Nat → List Int} {blk : Nat → Nat} (h : PlayAt w rp base s x bx blk) (hF : Fr (OneB rp) w w') (hR : RunAt w' rp s x') (h1 : x'.hv = x.hv) (q : Nat → Nat)
    (he : ∀ k, k < 26 → bx' k = [] → x'.wv k = .slice none 0 0) (hs : ∀ k, k < 26 → bx' k ≠ [] → q k < 26 ∧ bx' k = bx (q k) ∧ x'.wv k = x.wv (q k))
    (hi : ∀ k l, k < 26 → l < 26 → k ≠ l → bx' k ≠ [] → bx' l ≠ [] → q k ≠ q l) : PlayAt w' rp base s x' bx' (fun k => blk (q k)) := by
  have hne : ∀ k, k < 26 → bx k ≠ [] → ¬ OneB rp (blk k) := fun k hk hb e => by
    have := (h.b k hk hb).1
    have := h.rb
    unfold OneB at e
    omega
  refine ⟨hR, by rw [h1]; exact h.hn, h.rb, he, fun k hk hb => ?_, fun k hk i v hv => ?_, fun k hk hb o => ?_, fun k l hk hl hkl hb1 hb2 => ?_, fun k hk hb => ?_, fun k hk => ?_⟩
  · obtain ⟨a1, a2, a3⟩ := hs k hk hb
    rw [a3, a2]
    exact h.f _ a1 (by rwa [← a2])
  · obtain ⟨a1, a2, a3⟩ := hs k hk (ne_nil_of_get hv)
    rw [a2] at hv
    exact hF.cell_some (h.c _ a1 i v hv) (hne _ a1 (ne_nil_of_get hv))
  · obtain ⟨a1, a2, a3⟩ := hs k hk hb
    rw [a2] at hb
    exact (hF.frozen (p := ⟨blk (q k), o, none⟩) (h.b _ a1 hb).2 (hne _ a1 hb)).trans (h.z _ a1 hb o)
  · obtain ⟨a1, a2, a3⟩ := hs k hk hb1
    obtain ⟨b1, b2, b3⟩ := hs l hl hb2
    exact h.d _ _ a1 b1 (hi k l hk hl hkl hb1 hb2) (by rwa [← a2]) (by rwa [← b2])
  · obtain ⟨a1, a2, a3⟩ := hs k hk hb
    rw [a2] at hb
    exact ⟨(h.b _ a1 hb).1, Nat.lt_of_lt_of_le (h.b _ a1 hb).2 hF.size⟩
  · by_cases e : bx' k = []
    · rw [e]; simp
    · obtain ⟨a1, a2, a3⟩ := hs k hk e
      rw [a2]; exact h.n _ a1

section
variable (w : World) (rp base : Nat) (s : ByteArray) (x : Rn) (bx : Nat → List Int) (blk : Nat → Nat)
end
end Go.Proofs.YthcjcjfgdgnljaaDoor

namespace Go.Proofs.YthcjcjfgdgnljaaDoor
open Go.RowKit
set_option linter.unusedVariables false

/-- a box's word is turned -/
theorem PlayAt.put {w : World} {rp base : Nat} {s : ByteArray} {x : Rn} {bx : Nat → List Int} {blk : Nat → Nat} (h : PlayAt w rp base s x bx blk) {k q : Nat} (hk : k < 26) (hq : q < (bx k).length) (v : Int) :
    PlayAt (w.setCell ⟨blk k, q, none⟩ (.int .i64 v)) rp base s x (updL bx k ((bx k).set q v)) blk := by
  have hF := (Fr.refl (OneB (blk k)) w).setCell (p := ⟨blk k, q, none⟩) (fun _ => rfl) (.int .i64 v)
  have hkn : bx k ≠ [] := fun e => by rw [e] at hq; simp at hq
  have hrb := h.rb
  have hkb := (h.b k hk hkn).1
  have hup : ∀ j, updL bx k ((bx k).set q v) j ≠ [] → bx j ≠ [] := fun j hj => by
    by_cases e : j = k
    · subst e; exact hkn
    · rwa [updL_ne _ _ e] at hj
  have hlen : ∀ j, (updL bx k ((bx k).set q v) j).length = (bx j).length := fun j => by
    by_cases e : j = k
    · subst e; rw [updL_at]; simp
    · rw [updL_ne _ _ e]
  refine ⟨h.r.fr hF (fun e => by unfold OneB at e; omega), h.hn, h.rb, fun j hj hb => ?_, fun j hj hb => ?_, fun j hj i u hv => ?_, fun j hj hb o => by rw [World.frozen?_setCell]; exact h.z j hj (hup j hb) o, fun i j hi hj hij hb1 hb2 => h.d i j hi hj hij (hup i hb1) (hup j hb2), fun j hj hb => by rw [setCell_size]; exact h.b j hj (hup j hb), fun j hj => by rw [hlen]; exact h.n j hj⟩
  · have hb2 : bx j = [] := List.eq_nil_of_length_eq_zero (by rw [← hlen j, hb]; rfl)
    exact h.e j hj hb2
  · rw [hlen]; exact h.f j hj (hup j hb)
  · by_cases e : j = k
    · subst e
      rw [updL_at] at hv
      by_cases e2 : i = q
      · subst e2
        rw [List.getElem?_set_self hq] at hv
        obtain ⟨c, hc⟩ : ∃ c, (bx j)[i]? = some c := ⟨_, List.getElem?_eq_getElem hq⟩
        rw [← Option.some.inj hv]
        exact cell_same (h.c j hj i c hc)
      · rw [List.getElem?_set_ne (by omega)] at hv
        exact cell_at (h.c j hj i u hv) (by omega)
    · rw [updL_ne _ _ e] at hv
      exact hF.cell_some (h.c j hj i u hv) (fun e3 => h.d j k hj hk e (ne_nil_of_get hv) hkn e3)

section
variable (w : World) (rp base : Nat) (s : ByteArray) (x : Rn) (bx : Nat → List Int) (blk : Nat → Nat)
end
end Go.Proofs.YthcjcjfgdgnljaaDoor

namespace Go.Proofs.YthcjcjfgdgnljaaDoor
open Go.RowKit
set_option linter.unusedVariables false

theorem updI_two (f : Nat → Int) (k : Nat) (u v : Int) : updI (updI f k u) k v = updI f k v := by
  funext i
  unfold updI
  split <;> rfl

section
variable (w : World) (rp base : Nat) (s : ByteArray) (x : Rn) (bx : Nat → List Int) (blk : Nat → Nat)
end
end Go.Proofs.YthcjcjfgdgnljaaDoor

namespace Go.Proofs.YthcjcjfgdgnljaaDoor
open Go.RowKit
set_option linter.unusedVariables false

theorem div_wrap {a b n : Nat} (ha : a < 1000) (hb : b < 1000) (h : n * b ≤ a) (hb0 : 0 < b) : wrap64 (((n : Int) + 1) * (b : Int)) = (((n + 1) * b : Nat) : Int) := by
  have h1 : (n + 1) * b ≤ 2000 := by rw [Nat.succ_mul]; omega
  have h2 : (((n + 1) * b : Nat) : Int) = ((n : Int) + 1) * (b : Int) := by simp
  rw [← h2]
  generalize (n + 1) * b = m at *
  unfold wrap64
  omega
section
variable (w : World) (rp base : Nat) (s : ByteArray) (x : Rn) (bx : Nat → List Int) (blk : Nat → Nat)
end
end Go.Proofs.YthcjcjfgdgnljaaDoor

namespace Go.Proofs.YthcjcjfgdgnljaaDoor
set_option linter.unusedVariables false

/-- an operand: a number, or a value -/
inductive Od where
  | n (k : Nat)
  | v (x : Nat)
/-- a sentence without braces -/
inductive Ac where
  | set (v : Nat) (o : Od)
  | bin (v : Nat) (o : Od) (c : Nat) (p : Od)
  | load (v b : Nat) (o : Od)
  | size (v b : Nat)
  | make (b : Nat) (o : Od)
  | move (b c : Nat)
  | store (b : Nat) (o p : Od)
  | drop (b : Nat)
  | print (o : Od)
/-- sentences, one behind the other -/
inductive Pg where
  | nil
  | act (a : Ac) (r : Pg)
  | ite (o : Od) (p q r : Pg)
  | loop (o : Od) (p r : Pg)

/-- a run: numbers, boxes' words (none: the box is empty), where the blocks begin, steps left, how it ends, what was printed, the greatest word and 1 -/
structure St where
  num : Nat → Nat
  bx : Nat → List Nat
  at_ : Nat → Nat
  left : Nat
  status : Nat
  tr : List Nat
  peak : Nat
/-- how it runs: strictly or not; where a block is made -/
structure Cf where
  strict : Bool
  al : St → Nat → Option Nat

def upN (f : Nat → Nat) (k v : Nat) : Nat → Nat := fun i => if i = k then v else f i
theorem upN_at (f : Nat → Nat) (k v : Nat) : upN f k v k = v := by simp [upN]
theorem upN_ne (f : Nat → Nat) {k i : Nat} (v : Nat) (h : i ≠ k) : upN f k v i = f i := by simp [upN, h]
def upB (f : Nat → List Nat) (k : Nat) (v : List Nat) : Nat → List Nat := fun i => if i = k then v else f i
theorem upB_at (f : Nat → List Nat) (k : Nat) (v : List Nat) : upB f k v k = v := by simp [upB]
theorem upB_ne (f : Nat → List Nat) {k i : Nat} (v : List Nat) (h : i ≠ k) : upB f k v i = f i := by simp [upB, h]
theorem upB_self {f : Nat → List Nat} {k : Nat} {v : List Nat} (h : f k = v) : upB f k v = f := by
  funext i
  by_cases e : i = k
  · subst e; rw [upB_at, h]
  · rw [upB_ne _ _ e]

def valO (num : Nat → Nat) : Od → Nat
  | .n k => num k
  | .v x => x
/-- what comes out of two values; none: it traps -/
def binN (c x y : Nat) : Option Nat :=
  if c = 43 then some ((x + y) % 1000) else if c = 45 then some ((x + 1000 - y) % 1000) else if c = 42 then some (x * y % 1000)
  else if c = 47 then (if y = 0 then none else some (x / y)) else some (if x < y then 1 else 0)
/-- the digits of a number, f + 1 at most -/
def digF : Nat → Nat → List Nat
  | 0, n => [48 + n % 10]
  | f + 1, n => if n < 10 then [48 + n % 10] else digF f (n / 10) ++ [48 + n % 10]
def ends (σ : St) (k : Nat) : St × Bool := ({ σ with status := k }, false)
/-- does it count? -/
def isStep : Ac → Bool
  | .drop _ => false
  | _ => true
/-- a sentence is done: and does the run go on? -/
def act (c : Cf) : Ac → St → St × Bool
  | .set v o, σ => ({ σ with num := upN σ.num v (valO σ.num o) }, true)
  | .bin v o k p, σ => match binN k (valO σ.num o) (valO σ.num p) with
    | none => ends σ 1
    | some x => ({ σ with num := upN σ.num v x }, true)
  | .load v b o, σ => if σ.bx b = [] then ends σ 4 else if (σ.bx b).length ≤ valO σ.num o then ends σ 1 else ({ σ with num := upN σ.num v ((σ.bx b).getD (valO σ.num o) 0) }, true)
  | .size v b, σ => if σ.bx b = [] then ends σ 4 else ({ σ with num := upN σ.num v (σ.bx b).length }, true)
  | .make b o, σ => if c.strict = true ∧ σ.bx b ≠ [] then ends σ 4 else if valO σ.num o < 1 ∨ 64 < valO σ.num o then ends σ 1 else
      match c.al { σ with bx := upB σ.bx b [] } (valO σ.num o) with
      | none => ends { σ with bx := upB σ.bx b [] } 3
      | some a => ({ σ with bx := upB σ.bx b (List.replicate (valO σ.num o) 0), at_ := upN σ.at_ b a, peak := max σ.peak (a + valO σ.num o) }, true)
  | .move b d, σ => if σ.bx d = [] then ends σ 4 else if b = d then (σ, true) else if c.strict = true ∧ σ.bx b ≠ [] then ends σ 4
      else ({ σ with bx := upB (upB σ.bx b (σ.bx d)) d [], at_ := upN σ.at_ b (σ.at_ d) }, true)
  | .store b o p, σ => if σ.bx b = [] then ends σ 4 else if (σ.bx b).length ≤ valO σ.num o then ends σ 1 else ({ σ with bx := upB σ.bx b ((σ.bx b).set (valO σ.num o) (valO σ.num p)) }, true)
  | .drop b, σ => if σ.bx b = [] then ends σ 4 else ({ σ with bx := upB σ.bx b [] }, true)
  | .print o, σ => ({ σ with tr := σ.tr ++ digF 3 (valO σ.num o) ++ [59] }, true)
def due (σ : St) : St := { σ with left := σ.left - 1 }
def tire (σ : St) : St := { σ with status := 2 }
/-- a sentence without braces, its step counted -/
def stp (c : Cf) (a : Ac) (σ : St) : St × Bool := if isStep a = true then (if σ.left = 0 then (tire σ, false) else act c a (due σ)) else act c a σ

/-- sentences run from σ to σ'; and does the run go on? -/
inductive Ex (c : Cf) : Pg → St → St → Bool → Prop where
  | nil (σ : St) : Ex c .nil σ σ true
  | stop {a : Ac} {r : Pg} {σ σ' : St} (h : stp c a σ = (σ', false)) : Ex c (.act a r) σ σ' false
  | go {a : Ac} {r : Pg} {σ σ1 σ2 : St} {b : Bool} (h : stp c a σ = (σ1, true)) (hr : Ex c r σ1 σ2 b) : Ex c (.act a r) σ σ2 b
  | iteTired {o : Od} {p q r : Pg} {σ : St} (h : σ.left = 0) : Ex c (.ite o p q r) σ (tire σ) false
  | iteStop {o : Od} {p q r : Pg} {σ σ1 : St} (h : σ.left ≠ 0) (hp : Ex c (if valO σ.num o ≠ 0 then p else q) (due σ) σ1 false) : Ex c (.ite o p q r) σ σ1 false
  | iteGo {o : Od} {p q r : Pg} {σ σ1 σ2 : St} {b : Bool} (h : σ.left ≠ 0) (hp : Ex c (if valO σ.num o ≠ 0 then p else q) (due σ) σ1 true) (hr : Ex c r σ1 σ2 b) : Ex c (.ite o p q r) σ σ2 b
  | loopTired {o : Od} {p r : Pg} {σ : St} (h : σ.left = 0) : Ex c (.loop o p r) σ (tire σ) false
  | loopEnd {o : Od} {p r : Pg} {σ σ2 : St} {b : Bool} (h : σ.left ≠ 0) (h0 : valO σ.num o = 0) (hr : Ex c r (due σ) σ2 b) : Ex c (.loop o p r) σ σ2 b
  | loopStop {o : Od} {p r : Pg} {σ σ1 : St} (h : σ.left ≠ 0) (h0 : valO σ.num o ≠ 0) (hp : Ex c p (due σ) σ1 false) : Ex c (.loop o p r) σ σ1 false
  | loopGo {o : Od} {p r : Pg} {σ σ1 σ2 : St} {b : Bool} (h : σ.left ≠ 0) (h0 : valO σ.num o ≠ 0) (hp : Ex c p (due σ) σ1 true) (hr : Ex c (.loop o p r) σ1 σ2 b) : Ex c (.loop o p r) σ σ2 b

theorem act_left (c : Cf) (a : Ac) (σ : St) : (act c a σ).1.left = σ.left := by
  cases a <;> simp only [act]
  all_goals (repeat' split) <;> rfl
theorem stp_left (c : Cf) (a : Ac) (σ : St) : (stp c a σ).1.left ≤ σ.left := by
  unfold stp
  split
  · split
    · exact Nat.le_refl _
    · rw [act_left]; exact Nat.sub_le _ _
  · rw [act_left]; exact Nat.le_refl _
theorem Ex.left {c : Cf} {P : Pg} {σ σ' : St} {b : Bool} (h : Ex c P σ σ' b) : σ'.left ≤ σ.left := by
  induction h with
  | nil σ => exact Nat.le_refl _
  | @stop a r σ σ' h => have := stp_left c a σ; rw [h] at this; exact this
  | @go a r σ σ1 σ2 b h hr ih => have := stp_left c a σ; rw [h] at this; exact Nat.le_trans ih this
  | iteTired h => exact Nat.le_refl _
  | iteStop h hp ih => exact Nat.le_trans ih (Nat.sub_le _ _)
  | iteGo h hp hr ih1 ih2 => exact Nat.le_trans ih2 (Nat.le_trans ih1 (Nat.sub_le _ _))
  | loopTired h => exact Nat.le_refl _
  | loopEnd h h0 hr ih => exact Nat.le_trans ih (Nat.sub_le _ _)
  | loopStop h h0 hp ih => exact Nat.le_trans ih (Nat.sub_le _ _)
  | loopGo h h0 hp hr ih1 ih2 => exact Nat.le_trans ih2 (Nat.le_trans ih1 (Nat.sub_le _ _))
/-- every run ends -/
theorem Ex.total (c : Cf) : ∀ (n : Nat) (P : Pg) (σ : St), σ.left ≤ n → ∃ σ' b, Ex c P σ σ' b := by
  intro n
  induction n using Nat.strongRecOn with
  | _ n IH =>
    intro P
    induction P with
    | nil => exact fun σ _ => ⟨σ, true, .nil σ⟩
    | act a r ih =>
      intro σ h
      cases hs : stp c a σ with
      | mk σ1 b =>
        cases b
        · exact ⟨σ1, false, .stop hs⟩
        · have := stp_left c a σ
          rw [hs] at this
          obtain ⟨σ2, b, h2⟩ := ih σ1 (Nat.le_trans this h)
          exact ⟨σ2, b, .go hs h2⟩
    | ite o p q r ihp ihq ihr =>
      intro σ h
      by_cases h0 : σ.left = 0
      · exact ⟨_, _, .iteTired h0⟩
      · have hd : (due σ).left ≤ n := Nat.le_trans (Nat.sub_le _ _) h
        have : ∃ σ1 b, Ex c (if valO σ.num o ≠ 0 then p else q) (due σ) σ1 b := by
          split
          · exact ihp _ hd
          · exact ihq _ hd
        obtain ⟨σ1, b, h1⟩ := this
        cases b
        · exact ⟨_, _, .iteStop h0 h1⟩
        · obtain ⟨σ2, b, h2⟩ := ihr σ1 (Nat.le_trans h1.left hd)
          exact ⟨σ2, b, .iteGo h0 h1 h2⟩
    | loop o p r ihp ihr =>
      intro σ h
      by_cases h0 : σ.left = 0
      · exact ⟨_, _, .loopTired h0⟩
      · have hd : (due σ).left ≤ n := Nat.le_trans (Nat.sub_le _ _) h
        by_cases hv : valO σ.num o = 0
        · obtain ⟨σ2, b, h2⟩ := ihr (due σ) hd
          exact ⟨σ2, b, .loopEnd h0 hv h2⟩
        · obtain ⟨σ1, b, h1⟩ := ihp _ hd
          cases b
          · exact ⟨_, _, .loopStop h0 hv h1⟩
          · have hl := h1.left
            have hlt : σ1.left < n := Nat.lt_of_le_of_lt hl (by show σ.left - 1 < n; omega)
            obtain ⟨σ2, b, h2⟩ := IH σ1.left hlt (.loop o p r) σ1 (Nat.le_refl _)
            exact ⟨σ2, b, .loopGo h0 hv h1 h2⟩
theorem Ex.det {c : Cf} {P : Pg} {σ σ1 : St} {b1 : Bool} (h : Ex c P σ σ1 b1) : ∀ {σ2 : St} {b2 : Bool}, Ex c P σ σ2 b2 → σ2 = σ1 ∧ b2 = b1 := by
  induction h with
  | nil σ => intro σ2 b2 g; cases g; exact ⟨rfl, rfl⟩
  | stop h =>
    intro σ2 b2 g
    cases g with
    | stop h2 => rw [h] at h2; cases h2; exact ⟨rfl, rfl⟩
    | go h2 _ => rw [h] at h2; cases h2
  | go h hr ih =>
    intro σ2 b2 g
    cases g with
    | stop h2 => rw [h] at h2; cases h2
    | go h2 g2 => rw [h] at h2; cases h2; exact ih g2
  | iteTired h =>
    intro σ2 b2 g
    cases g with
    | iteTired _ => exact ⟨rfl, rfl⟩
    | iteStop h2 _ => exact absurd h h2
    | iteGo h2 _ _ => exact absurd h h2
  | iteStop h hp ih =>
    intro σ2 b2 g
    cases g with
    | iteTired h2 => exact absurd h2 h
    | iteStop h2 g2 => exact ih g2
    | iteGo h2 g2 _ => have := (ih g2).2; cases this
  | iteGo h hp hr ih1 ih2 =>
    intro σ2 b2 g
    cases g with
    | iteTired h2 => exact absurd h2 h
    | iteStop h2 g2 => have := (ih1 g2).2; cases this
    | iteGo h2 g2 g3 => have := (ih1 g2).1; subst this; exact ih2 g3
  | loopTired h =>
    intro σ2 b2 g
    cases g with
    | loopTired _ => exact ⟨rfl, rfl⟩
    | loopEnd h2 _ _ => exact absurd h h2
    | loopStop h2 _ _ => exact absurd h h2
    | loopGo h2 _ _ _ => exact absurd h h2
  | loopEnd h h0 hr ih =>
    intro σ2 b2 g
    cases g with
    | loopTired h2 => exact absurd h2 h
    | loopEnd _ _ g2 => exact ih g2
    | loopStop _ h2 _ => exact absurd h0 h2
    | loopGo _ h2 _ _ => exact absurd h0 h2
  | loopStop h h0 hp ih =>
    intro σ2 b2 g
    cases g with
    | loopTired h2 => exact absurd h2 h
    | loopEnd _ h2 _ => exact absurd h2 h0
    | loopStop _ _ g2 => exact ih g2
    | loopGo _ _ g2 _ => have := (ih g2).2; cases this
  | loopGo h h0 hp hr ih1 ih2 =>
    intro σ2 b2 g
    cases g with
    | loopTired h2 => exact absurd h2 h
    | loopEnd _ h2 _ => exact absurd h2 h0
    | loopStop _ _ g2 => have := (ih1 g2).2; cases this
    | loopGo _ _ g2 g3 => have := (ih1 g2).1; subst this; exact ih2 g3
end Go.Proofs.YthcjcjfgdgnljaaDoor

namespace Go.Proofs.YthcjcjfgdgnljaaDoor
open Go.RowKit
set_option linter.unusedVariables false

/-- the operand at a place -/
def odN (s : ByteArray) (i : Nat) : Od := if smallN (bt s i) = true then .n (bt s i - 97) else .v (decN s i (bopN s i - i))
/-- the sentence without braces at a place -/
def acN (s : ByteArray) (i : Nat) : Ac :=
  if bt s i = 126 then .drop (bt s (i + 1) - 65)
  else if bt s i = 33 then .print (odN s (i + 1))
  else if smallN (bt s i) = true then
    (if bt s (i + 2) = 35 then .size (bt s i - 97) (bt s (i + 3) - 65)
     else if greatN (bt s (i + 2)) = true then .load (bt s i - 97) (bt s (i + 2) - 65) (odN s (i + 4))
     else if bt s (bopN s (i + 2)) = 59 then .set (bt s i - 97) (odN s (i + 2))
     else .bin (bt s i - 97) (odN s (i + 2)) (bt s (bopN s (i + 2))) (odN s (bopN s (i + 2) + 1)))
  else if bt s (i + 1) = 91 then .store (bt s i - 65) (odN s (i + 2)) (odN s (bopN s (i + 2) + 2))
  else if bt s (i + 2) = 91 then .make (bt s i - 65) (odN s (i + 3))
  else .move (bt s i - 65) (bt s (i + 2) - 65)
/-- the sentences from i up to j -/
def pgN (s : ByteArray) : Nat → Nat → Nat → Pg
  | 0, _, _ => .nil
  | F + 1, i, j => if i < j then
      (if bt s i = 63 then .ite (odN s (i + 1)) (pgN s F (bopN s (i + 1) + 1) (bbrN s (bopN s (i + 1)) - 1)) (pgN s F (bbrN s (bopN s (i + 1)) + 1) (bbrN s (bbrN s (bopN s (i + 1))) - 1)) (pgN s F (behN s i) j)
       else if bt s i = 64 then .loop (odN s (i + 1)) (pgN s F (bopN s (i + 1) + 1) (bbrN s (bopN s (i + 1)) - 1)) (pgN s F (behN s i) j)
       else .act (acN s i) (pgN s F (behN s i) j)) else .nil
theorem pgN_end {s : ByteArray} {F i : Nat} : pgN s F i i = .nil := by
  cases F with
  | zero => rfl
  | succ F => show (if i < i then _ else Pg.nil) = .nil; rw [if_neg (Nat.lt_irrefl _)]
theorem pgN_if {s : ByteArray} {F i j a b c : Nat} (h : IfAt s i a b c) (hj : i < j) : pgN s (F + 1) i j = .ite (odN s (i + 1)) (pgN s F (a + 1) b) (pgN s F (b + 2) c) (pgN s F (c + 1) j) := by
  show (if i < j then _ else _) = _
  rw [if_pos hj, if_pos h.q, h.beh, h.p1, h.p2, h.p3]
  rfl
theorem pgN_loop {s : ByteArray} {F i j a b : Nat} (h : LoopAt s i a b) (hj : i < j) : pgN s (F + 1) i j = .loop (odN s (i + 1)) (pgN s F (a + 1) b) (pgN s F (b + 1) j) := by
  show (if i < j then _ else _) = _
  rw [if_pos hj, if_neg (by rw [h.q]; decide), if_pos h.q, h.beh, h.p1, h.p2]
  rfl
theorem pgN_simple {s : ByteArray} {F i j m : Nat} (h : Simple s i m) (hj : i < j) : pgN s (F + 1) i j = .act (acN s i) (pgN s F m j) := by
  show (if i < j then _ else _) = _
  rw [if_pos hj, if_neg h.first.1, if_neg h.first.2, h.beh]
theorem odN_val {s : ByteArray} {i j : Nat} (h : Opnd s i j) (hj : j < s.size) (hd : digitN (bt s j) = false) (num : Nat → Nat) : valN s (fun k => (num k : Int)) i j = (valO num (odN s i) : Int) := by
  unfold valN odN
  rw [bopN_eq h hj hd]
  split <;> rfl
/-- a number of the program is one of the 26, a value below 1000 -/
def OdOk : Od → Prop
  | .n k => k < 26
  | .v x => x < 1000
theorem odN_ok {s : ByteArray} {i j : Nat} (h : Opnd s i j) (hj : j < s.size) (hd : digitN (bt s j) = false) : OdOk (odN s i) := by
  unfold odN
  rw [bopN_eq h hj hd]
  rcases h with ⟨h, rfl⟩ | ⟨h1, h2, h3⟩
  · rw [if_pos h]
    show bt s i - 97 < 26
    simp [smallN] at h
    omega
  · rw [if_neg (by rw [(digit_in (h3 i (Nat.le_refl _) h1)).2.2.2.1]; simp)]
    show decN s i (j - i) < 1000
    exact Nat.lt_of_lt_of_le (decN_lt (fun q a b => h3 q a (by omega))) (Nat.le_trans (Nat.pow_le_pow_right (by decide) (show j - i ≤ 3 by omega)) (by decide))

/-- what is full behind a sentence without braces -/
def aftA : Ac → (Nat → Bool) → Nat → Bool
  | .make b _, f => updB f b true
  | .drop b, f => updB f b false
  | .move b c, f => if b = c then f else updB (updB f b (f c)) c false
  | _, f => f
/-- the box that it uses -/
def useA : Ac → Option Nat
  | .load _ b _ => some b
  | .size _ b => some b
  | .store b _ _ => some b
  | .drop b => some b
  | .move _ c => some c
  | _ => none
def aftG : Pg → (Nat → Bool) → Nat → Bool
  | .nil, f => f
  | .act a r, f => aftG r (aftA a f)
  | .ite _ p q r, f => aftG r (bothF (aftG p f) (aftG q f))
  | .loop _ p r, f => aftG r (iterF (aftG p) 27 f)
/-- no box is used that is not full -/
def okG : Pg → (Nat → Bool) → Prop
  | .nil, _ => True
  | .act a r, f => (∀ b, useA a = some b → f b = true) ∧ okG r (aftA a f)
  | .ite _ p q r, f => okG p f ∧ okG q f ∧ okG r (bothF (aftG p f) (aftG q f))
  | .loop _ p r, f => okG p (iterF (aftG p) 27 f) ∧ okG r (iterF (aftG p) 27 f)

theorem aftG_act (a : Ac) (r : Pg) (f : Nat → Bool) : aftG (.act a r) f = aftG r (aftA a f) := by rw [aftG]
theorem aftG_ite (o : Od) (p q r : Pg) (f : Nat → Bool) : aftG (.ite o p q r) f = aftG r (bothF (aftG p f) (aftG q f)) := by rw [aftG]
theorem aftG_loop (o : Od) (p r : Pg) (f : Nat → Bool) : aftG (.loop o p r) f = aftG r (iterF (aftG p) 27 f) := by rw [aftG]
theorem okG_act (a : Ac) (r : Pg) (f : Nat → Bool) : okG (.act a r) f = ((∀ b, useA a = some b → f b = true) ∧ okG r (aftA a f)) := by rw [okG]
theorem okG_ite (o : Od) (p q r : Pg) (f : Nat → Bool) : okG (.ite o p q r) f = (okG p f ∧ okG q f ∧ okG r (bothF (aftG p f) (aftG q f))) := by rw [okG]
theorem okG_loop (o : Od) (p r : Pg) (f : Nat → Bool) : okG (.loop o p r) f = (okG p (iterF (aftG p) 27 f) ∧ okG r (iterF (aftG p) 27 f)) := by rw [okG]

section
variable {s : ByteArray} {i j : Nat}
theorem sm_ne (h : smallN (bt s i) = true) : bt s i ≠ 126 ∧ bt s i ≠ 33 ∧ greatN (bt s i) = false := ⟨fun e => by rw [e] at h; simp [smallN] at h, fun e => by rw [e] at h; simp [smallN] at h, (small_in h).2.2.2.2⟩
theorem gr_ne (h : greatN (bt s i) = true) : bt s i ≠ 126 ∧ bt s i ≠ 33 ∧ smallN (bt s i) = false := ⟨fun e => by rw [e] at h; simp [greatN] at h, fun e => by rw [e] at h; simp [greatN] at h, (great_in h).2.2.2.2⟩
theorem acN_size (h : KSize s i j) : acN s i = .size (bt s i - 97) (bt s (i + 3) - 65) := by
  obtain ⟨h1, h2, h3, h4, h5, _⟩ := h
  obtain ⟨a, b, c⟩ := sm_ne h1
  unfold acN
  rw [if_neg a, if_neg b, if_pos h1, if_pos h3]
theorem acN_load (h : KLoad s i j) : acN s i = .load (bt s i - 97) (bt s (i + 2) - 65) (odN s (i + 4)) := by
  obtain ⟨h1, h2, h3, h4, _⟩ := h
  obtain ⟨a, b, c⟩ := sm_ne h1
  unfold acN
  rw [if_neg a, if_neg b, if_pos h1, if_neg (fun e => by rw [e] at h3; simp [greatN] at h3), if_pos h3]
theorem acN_set {k : Nat} (h1 : smallN (bt s i) = true) (ho : Opnd s (i + 2) k) (h5 : bt s k = 59) : acN s i = .set (bt s i - 97) (odN s (i + 2)) := by
  obtain ⟨a, b, c⟩ := sm_ne h1
  obtain ⟨g1, g2, g3⟩ := ho.head
  unfold acN
  rw [if_neg a, if_neg b, if_pos h1, if_neg g2, if_neg (by rw [g1]; simp), bopN_eq ho (byte_in h5 (by decide)) (nodigit h5 (.inr (.inl rfl))), if_pos h5]
theorem acN_bin {k : Nat} (h1 : smallN (bt s i) = true) (ho : Opnd s (i + 2) k) (h5 : isOp (bt s k)) (hk : k < s.size) : acN s i = .bin (bt s i - 97) (odN s (i + 2)) (bt s k) (odN s (k + 1)) := by
  obtain ⟨a, b, c⟩ := sm_ne h1
  obtain ⟨g1, g2, g3⟩ := ho.head
  have hd : digitN (bt s k) = false := by
    unfold isOp at h5
    rcases h5 with h5 | h5 | h5 | h5 | h5 <;> rw [h5] <;> rfl
  unfold acN
  rw [if_neg a, if_neg b, if_pos h1, if_neg g2, if_neg (by rw [g1]; simp), bopN_eq ho hk hd, if_neg (fun e => by rw [e] at h5; unfold isOp at h5; omega)]
theorem acN_store {k : Nat} (h1 : greatN (bt s i) = true) (h2 : bt s (i + 1) = 91) (ho : Opnd s (i + 2) k) (h5 : bt s k = 93) : acN s i = .store (bt s i - 65) (odN s (i + 2)) (odN s (k + 2)) := by
  obtain ⟨a, b, c⟩ := gr_ne h1
  unfold acN
  rw [if_neg a, if_neg b, if_neg (by rw [c]; simp), if_pos h2, bopN_eq ho (byte_in h5 (by decide)) (nodigit h5 (.inr (.inr rfl)))]
theorem acN_make (h : KMake s i j) : acN s i = .make (bt s i - 65) (odN s (i + 3)) := by
  obtain ⟨h1, h2, h3, _⟩ := h
  obtain ⟨a, b, c⟩ := gr_ne h1
  unfold acN
  rw [if_neg a, if_neg b, if_neg (by rw [c]; simp), if_neg (by omega), if_pos h3]
theorem acN_move (h : KMove s i j) : acN s i = .move (bt s i - 65) (bt s (i + 2) - 65) := by
  obtain ⟨h1, h2, h3, _⟩ := h
  obtain ⟨a, b, c⟩ := gr_ne h1
  unfold acN
  rw [if_neg a, if_neg b, if_neg (by rw [c]; simp), if_neg (by omega), if_neg (fun e => by rw [e] at h3; simp [greatN] at h3)]
theorem acN_print (h : bt s i = 33) : acN s i = .print (odN s (i + 1)) := by
  unfold acN
  rw [if_neg (by omega), if_pos h]
theorem acN_drop (h : bt s i = 126) : acN s i = .drop (bt s (i + 1) - 65) := by
  unfold acN
  rw [if_pos h]

/-- the text's own words for it -/
theorem simple_words (h : Simple s i j) : (∀ f, simF s i f = aftA (acN s i) f) ∧ ((useA (acN s i) = none ∧ useN s i = -1) ∨ ∃ b, useA (acN s i) = some b ∧ 0 ≤ useN s i ∧ bt s (useN s i).toNat - 65 = b) := by
  rcases h with h | h | h | h | h | h | h | h | h
  · rw [acN_size h]
    obtain ⟨hm, e1, e2, hg, e4, rfl⟩ := h
    obtain ⟨n126, n33, ng⟩ := sm_ne hm
    refine ⟨fun f => simF_other n126 (.inl ng), .inr ⟨_, rfl, ?_⟩⟩
    unfold useN
    rw [if_neg n126, if_neg (by simp [ng]), if_neg (by simp [ng]), if_pos ⟨hm, e2⟩]
    exact ⟨by omega, rfl⟩
  · rw [acN_load h]
    obtain ⟨hm, e1, hg, e3, k, ho, e5, e6, rfl⟩ := h
    obtain ⟨n126, n33, ng⟩ := sm_ne hm
    have h35 : bt s (i + 2) ≠ 35 := fun e => by rw [e] at hg; simp [greatN] at hg
    refine ⟨fun f => simF_other n126 (.inl ng), .inr ⟨_, rfl, ?_⟩⟩
    unfold useN
    rw [if_neg n126, if_neg (by simp [ng]), if_neg (by simp [ng]), if_neg (fun q => h35 q.2), if_pos ⟨hm, hg⟩]
    exact ⟨by omega, rfl⟩
  · obtain ⟨hm, e1, k, ho, e5, rfl⟩ := h
    rw [acN_set hm ho e5]
    obtain ⟨n126, n33, ng⟩ := sm_ne hm
    obtain ⟨hg2, h35, hi2⟩ := ho.head
    refine ⟨fun f => simF_other n126 (.inl ng), .inl ⟨rfl, ?_⟩⟩
    unfold useN
    rw [if_neg n126, if_neg (by simp [ng]), if_neg (by simp [ng]), if_neg (fun q => h35 q.2), if_neg (by simp [hg2])]
  · obtain ⟨hm, e1, k, l, ho, hop2, ho2, e5, rfl⟩ := h
    rw [acN_bin hm ho hop2 (byte_in rfl (by unfold isOp at hop2; omega))]
    obtain ⟨n126, n33, ng⟩ := sm_ne hm
    obtain ⟨hg2, h35, hi2⟩ := ho.head
    refine ⟨fun f => simF_other n126 (.inl ng), .inl ⟨rfl, ?_⟩⟩
    unfold useN
    rw [if_neg n126, if_neg (by simp [ng]), if_neg (by simp [ng]), if_neg (fun q => h35 q.2), if_neg (by simp [hg2])]
  · obtain ⟨hg, e1, k, l, ho, e2, e3, ho2, e5, rfl⟩ := h
    rw [acN_store hg e1 ho e2]
    obtain ⟨n126, n33, nm⟩ := gr_ne hg
    refine ⟨fun f => simF_other n126 (.inr (by rw [e1]; decide)), .inr ⟨_, rfl, ?_⟩⟩
    unfold useN
    rw [if_neg n126, if_pos ⟨hg, e1⟩]
    exact ⟨by omega, rfl⟩
  · rw [acN_make h]
    obtain ⟨hg, e1, e2, k, ho, e3, e5, rfl⟩ := h
    obtain ⟨n126, n33, nm⟩ := gr_ne hg
    have hg2 : greatN (bt s (i + 2)) = false := by rw [e2]; rfl
    refine ⟨fun f => ?_, .inl ⟨rfl, ?_⟩⟩
    · unfold simF
      rw [if_neg n126, if_pos ⟨hg, e1, e2⟩]
      rfl
    · unfold useN
      rw [if_neg n126, if_neg (fun q => by rw [e1] at q; exact absurd q.2 (by decide)), if_neg (by simp [hg2]), if_neg (by simp [nm]), if_neg (by simp [nm])]
  · rw [acN_move h]
    obtain ⟨hg, e1, hg2, e5, rfl⟩ := h
    obtain ⟨n126, n33, nm⟩ := gr_ne hg
    have h91 : bt s (i + 2) ≠ 91 := fun e => by rw [e] at hg2; simp [greatN] at hg2
    refine ⟨fun f => ?_, .inr ⟨_, rfl, ?_⟩⟩
    · unfold simF
      rw [if_neg n126, if_neg (fun q => h91 q.2.2)]
      show _ = if bt s i - 65 = bt s (i + 2) - 65 then f else _
      by_cases e : bt s (i + 2) = bt s i
      · rw [if_neg (fun q => q.2.2 e), e, if_pos rfl]
      · rw [if_pos ⟨hg, e1, e⟩, if_neg]
        simp [greatN] at hg hg2
        omega
    · unfold useN
      rw [if_neg n126, if_neg (fun q => by rw [e1] at q; exact absurd q.2 (by decide)), if_pos ⟨hg, hg2⟩]
      exact ⟨by omega, rfl⟩
  · obtain ⟨e0, k, ho, e5, rfl⟩ := h
    rw [acN_print e0]
    have nm : smallN (bt s i) = false := by rw [e0]; rfl
    have ng : greatN (bt s i) = false := by rw [e0]; rfl
    refine ⟨fun f => simF_other (by omega) (.inl ng), .inl ⟨rfl, ?_⟩⟩
    unfold useN
    rw [if_neg (by omega), if_neg (by simp [ng]), if_neg (by simp [ng]), if_neg (by simp [nm]), if_neg (by simp [nm])]
  · obtain ⟨e0, hg, e5, rfl⟩ := h
    rw [acN_drop e0]
    refine ⟨fun f => ?_, .inr ⟨_, rfl, ?_⟩⟩
    · unfold simF
      rw [if_pos e0]
      rfl
    · unfold useN
      rw [if_pos e0]
      exact ⟨by omega, rfl⟩
end

theorem iter_congr {S T : (Nat → Bool) → Nat → Bool} (h : ∀ f, S f = T f) : ∀ (n : Nat) (f : Nat → Bool), iterF S n f = iterF T n f
  | 0, f => rfl
  | n + 1, f => by
    show iterF S n (bothF f (S f)) = iterF T n (bothF f (T f))
    rw [h f, iter_congr h n]
/-- the text's sets are the tree's -/
theorem along_pg {s : ByteArray} : ∀ (F i j : Nat), Prog s F i j → (∀ f, alongF s F i j f = aftG (pgN s F i j) f) ∧ (∀ f, misN s F i j f < 0 → okG (pgN s F i j) f)
  | 0, i, j, h => ⟨fun f => rfl, fun f _ => trivial⟩
  | F + 1, i, j, h => by
    rcases h with h | ⟨m, hst, hr⟩
    · subst h
      rw [pgN_end]
      refine ⟨fun f => ?_, fun f _ => trivial⟩
      show (if i < i then _ else f) = f
      rw [if_neg (Nat.lt_irrefl _)]
    · have hmj := hr.le
      have hlt := hst.lt
      have hbeh := beh_of hst
      have hij : i < j := by omega
      obtain ⟨r1, r2⟩ := along_pg F m j hr
      have key : ∀ f, misN s (F + 1) i j f < 0 → misP s (alongF s F) (misN s F) i f < 0 ∧ misN s F m j (afterF (alongF s F) s i f) < 0 := fun f hf => by
        rw [misN_step hst hij] at hf
        split at hf
        · omega
        · exact ⟨by omega, hf⟩
      have step : ∀ f, alongF s (F + 1) i j f = alongF s F m j (afterF (alongF s F) s i f) := fun f => by
        show (if i < j then alongF s F (behN s i) j (afterF (alongF s F) s i f) else f) = _
        rw [if_pos hij, hbeh]
      rcases hst with h | ⟨e, a, b, c, ho, ha, hp, hb, hb1, hq, hc, rfl⟩ | ⟨e, a, b, ho, ha, hp, hb, rfl⟩
      · rw [pgN_simple h hij]
        obtain ⟨w1, w2⟩ := simple_words h
        refine ⟨fun f => ?_, fun f hf => ?_⟩
        · rw [step, afterF_simple h, r1, w1, aftG_act]
        · obtain ⟨k1, k2⟩ := key f hf
          rw [afterF_simple h, w1] at k2
          rw [okG_act]
          refine ⟨fun b hb => ?_, r2 _ k2⟩
          rw [misP_simple h] at k1
          rcases w2 with ⟨w3, _⟩ | ⟨b', w3, w4, w5⟩
          · rw [w3] at hb; cases hb
          · rw [w3] at hb
            cases hb
            cases hfb : f b
            · rw [if_pos ⟨w4, by rw [w5]; exact hfb⟩] at k1; omega
            · rfl
      · have hI := ifAt_of e ho ha hp hb hb1 hq hc
        rw [pgN_if hI hij]
        obtain ⟨p1, p2⟩ := along_pg F _ _ hp
        obtain ⟨q1, q2⟩ := along_pg F _ _ hq
        refine ⟨fun f => ?_, fun f hf => ?_⟩
        · rw [step, afterF_if hI, r1, p1, q1, aftG_ite]
        · obtain ⟨k1, k2⟩ := key f hf
          rw [afterF_if hI, p1, q1] at k2
          rw [misP_if hI] at k1
          rw [okG_ite]
          split at k1
          · exact ⟨p2 _ (by assumption), q2 _ k1, r2 _ k2⟩
          · omega
      · have hL := loopAt_of e ho ha hp hb
        rw [pgN_loop hL hij]
        obtain ⟨p1, p2⟩ := along_pg F _ _ hp
        have hit : ∀ f, iterF (alongF s F (a + 1) b) 27 f = iterF (aftG (pgN s F (a + 1) b)) 27 f := iter_congr p1 27
        refine ⟨fun f => ?_, fun f hf => ?_⟩
        · rw [step, afterF_loop hL, r1, hit, aftG_loop]
        · obtain ⟨k1, k2⟩ := key f hf
          rw [afterF_loop hL, hit] at k2
          rw [misP_loop hL, hit] at k1
          rw [okG_loop]
          exact ⟨p2 _ k1, r2 _ k2⟩
end Go.Proofs.YthcjcjfgdgnljaaDoor
