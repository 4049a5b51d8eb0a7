/-
  RunD, RunE, RunF, RunG, RunJ, RunL, ExeA, Taken, NextRun, Alloc, Runs: one behind the other.
-/
import Derived.Test.YthcjcjfgdgnljabDoorGRunC
import Derived.Test.YthcjcjfgdgnljabDoorGSynD
namespace Go.Proofs.YthcjcjfgdgnljabDoor
open Go.RowKit
set_option linter.unusedVariables false

def updL (f : Nat → List Int) (k : Nat) (v : List Int) : Nat → List Int := fun i => if i = k then v else f i
theorem updL_at (f : Nat → List Int) (k : Nat) (v : List Int) : updL f k v k = v := by simp [updL]
theorem updL_ne (f : Nat → List Int) {k i : Nat} (v : List Int) (h : i ≠ k) : updL f k v i = f i := by simp [updL, h]
theorem updV_at (f : Nat → Value) (k : Nat) (v : Value) : updV f k v k = v := by simp [updV]
theorem updV_ne (f : Nat → Value) {k i : Nat} (v : Value) (h : i ≠ k) : updV f k v i = f i := by simp [updV, h]
theorem RunAt.setWv {w : World} {rp : Nat} {s : ByteArray} {x : Rn} (h : RunAt w rp s x) {k : Nat} (hk : k < 26) (v : Value) : RunAt (w.setCell ⟨rp, 27 + k, none⟩ v) rp s { x with wv := updV x.wv k v } :=
  ⟨cell_at h.cs (by omega), fun j hj => cell_at (h.cn j hj) (by omega), fun j hj => by
      by_cases e : j = k
      · subst e; show _ = some (updV x.wv j v j); rw [updV_at]; exact cell_same (h.cw j hj)
      · show _ = some (updV x.wv k v j); rw [updV_ne _ _ e]; exact cell_at (h.cw j hj) (by omega),
    cell_at h.ch (by omega), fun j hj => cell_at (h.ca j hj) (by omega), fun j hj => cell_at (h.cl j hj) (by omega),
    cell_at h.cf (by omega), cell_at h.co (by omega), cell_at h.ct (by omega), cell_at h.cu (by omega), cell_at h.cp (by omega), fun o => by rw [World.frozen?_setCell]; exact h.fz o⟩
section
variable {w : World} {rp base : Nat} {s : ByteArray} {x : Rn} {bx : Nat → List Int} {blk : Nat → Nat}
/-- a box is emptied -/
theorem PlayAt.empty (h : PlayAt w rp base s x bx blk) {k : Nat} (hk : k < 26) : PlayAt (w.setCell ⟨rp, 27 + k, none⟩ (.slice none 0 0)) rp base s { x with wv := updV x.wv k (.slice none 0 0) } (updL bx k []) blk := by
  have hF := (Fr.refl (OneB rp) w).setCell (p := ⟨rp, 27 + k, none⟩) (fun _ => rfl) (.slice none 0 0)
  have hne : ∀ j, j < 26 → bx j ≠ [] → ¬ OneB rp (blk j) := fun j hj hb e => by
    have := (h.b j hj hb).1
    have := h.rb
    unfold OneB at e
    omega
  have hup : ∀ j, updL bx k [] j ≠ [] → j ≠ k ∧ bx j ≠ [] := fun j hj => by
    by_cases e : j = k
    · subst e; rw [updL_at] at hj; exact absurd rfl hj
    · rw [updL_ne _ _ e] at hj; exact ⟨e, hj⟩
  refine ⟨h.r.setWv hk _, h.hn, h.rb, fun j hj hb => ?_, fun j hj hb => ?_, fun j hj i v hv => ?_, fun j hj hb o => ?_, fun i j hi hj hij hb1 hb2 => h.d i j hi hj hij (hup i hb1).2 (hup j hb2).2, fun j hj hb => ?_, fun j hj => ?_⟩
  · show updV x.wv k (.slice none 0 0) j = _
    by_cases e : j = k
    · subst e; rw [updV_at]
    · rw [updV_ne _ _ e]; rw [updL_ne _ _ e] at hb; exact h.e j hj hb
  · obtain ⟨e, hb2⟩ := hup j hb
    show updV x.wv k (.slice none 0 0) j = _
    rw [updV_ne _ _ e, updL_ne _ _ e]
    exact h.f j hj hb2
  · obtain ⟨e, hb2⟩ := hup j (ne_nil_of_get hv)
    rw [updL_ne _ _ e] at hv
    exact hF.cell_some (h.c j hj i v hv) (hne j hj hb2)
  · obtain ⟨e, hb2⟩ := hup j hb
    exact (hF.frozen (p := ⟨blk j, o, none⟩) (h.b j hj hb2).2 (hne j hj hb2)).trans (h.z j hj hb2 o)
  · obtain ⟨e, hb2⟩ := hup j hb
    rw [setCell_size]
    exact h.b j hj hb2
  · by_cases e : j = k
    · subst e; rw [updL_at]; simp
    · rw [updL_ne _ _ e]; exact h.n j hj
end

section
variable (w : World) (rp base : Nat) (s : ByteArray) (x : Rn) (bx : Nat → List Int) (blk : Nat → Nat)
/-- how a sentence on boxes ends: it goes on or not; the run and its boxes then -/
def PlaySays (rp base : Nat) (s : ByteArray) (b : Bool) (x : Rn) (bx : Nat → List Int) (w : World) (e : Ending) (w' : World) : Prop := e = .returned (.bool b) ∧ (∃ blk wv a l, PlayAt w' rp base s { x with wv := wv, at_ := a, len := l } bx blk) ∧ Fr (fun k => k = rp ∨ base ≤ k) w w'
end
end Go.Proofs.YthcjcjfgdgnljabDoor

namespace Go.Proofs.YthcjcjfgdgnljabDoor
open Go.RowKit
set_option linter.unusedVariables false

theorem Tryd.infoInt2 : (Tryd.prog.info? 3).map (fun i => (i.zero, i.size, i.bytes)) = some (some (.int .i64 0), 1, 8) := by kernel_rfl
theorem made_one (n j : Nat) (h : j < n) : (madeCells #[Value.int .i64 0] n)[j]? = some (.int .i64 0) := by
  unfold madeCells
  have h2 : j % 1 = 0 := by omega
  simp [h, h2]
theorem ints_made (n : Nat) (hn : n ≤ 100000) : ∃ C : Array Value, (∀ j, j < n → C[j]? = some (.int .i64 0)) ∧
    ∀ u : World, (Instr.makeSlice 46 (.int .i64 (n : Int)) (.int .i64 (n : Int))).run Tryd.prog u = .ok (.slice (some ⟨u.heap.size, 0, none⟩) n n) (u.alloc (.cells C 3)) := by
  obtain ⟨i0, hi, hz0, hz1, hz2⟩ := info_parts Tryd.infoInt2
  refine ⟨madeCells #[Value.int .i64 0] (n * 1), fun j hj => made_one _ _ (by omega), fun u => ?_⟩
  have h := run_make (P := Tryd.prog) u 46 3 i0 (.int .i64 0) Tryd.underlying46 hi hz0 .i64 .i64 (n : Int) (n : Int) (by omega) (Int.le_refl _) (by rw [hz2]; omega) (by omega)
  simpa [hz1, Value.cells] using h

def updN (f : Nat → Nat) (k v : Nat) : Nat → Nat := fun i => if i = k then v else f i
theorem updN_at (f : Nat → Nat) (k v : Nat) : updN f k v k = v := by simp [updN]
theorem updN_ne (f : Nat → Nat) {k i : Nat} (v : Nat) (h : i ≠ k) : updN f k v i = f i := by simp [updN, h]
/-- a box gets words that lie in a block of none; only the run's own block turned -/
theorem PlayAt.fill {w w' : World} {rp base g : Nat} {s : ByteArray} {x : Rn} {bx : Nat → List Int} {blk : Nat → Nat} {l : List Int} {n : Nat} (h : PlayAt w rp base s x bx blk) {k : Nat} (hk : k < 26) (hn : l.length = n) (hl : l ≠ []) (hl2 : l.length ≤ 64)
    (hF : Fr (OneB rp) w w') (hR : RunAt w' rp s { x with wv := updV x.wv k (.slice (some ⟨g, 0, none⟩) n n) })
    (hg : base ≤ g ∧ g < w'.heap.size) (hgn : ∀ j, j < 26 → bx j ≠ [] → blk j ≠ g) (hc : ∀ i v, l[i]? = some v → w'.cell? ⟨g, i, none⟩ = some (.int .i64 v)) (hz : ∀ o, w'.frozen? ⟨g, o, none⟩ = false) :
    PlayAt w' rp base s { x with wv := updV x.wv k (.slice (some ⟨g, 0, none⟩) n n) } (updL bx k l) (updN blk k g) := by
  subst hn
  have hrb := h.rb
  have hne : ∀ j, j < 26 → bx j ≠ [] → ¬ OneB rp (blk j) := fun j hj hb e => by
    have := (h.b j hj hb).1
    unfold OneB at e
    omega
  refine ⟨hR, h.hn, h.rb, fun j hj hb => ?_, fun j hj hb => ?_, fun j hj i v hv => ?_, fun j hj hb o => ?_, fun i j hi hj hij hb1 hb2 => ?_, fun j hj hb => ?_, fun j hj => ?_⟩
  · show updV x.wv k _ j = _
    by_cases e : j = k
    · subst e; rw [updL_at] at hb; exact absurd hb hl
    · rw [updV_ne _ _ e]; rw [updL_ne _ _ e] at hb; exact h.e j hj hb
  · show updV x.wv k _ j = _
    by_cases e : j = k
    · subst e; rw [updV_at, updL_at, updN_at]
    · rw [updV_ne _ _ e, updL_ne _ _ e, updN_ne _ _ e]; rw [updL_ne _ _ e] at hb; exact h.f j hj hb
  · by_cases e : j = k
    · subst e; rw [updL_at] at hv; rw [updN_at]; exact hc i v hv
    · rw [updL_ne _ _ e] at hv; rw [updN_ne _ _ e]; exact hF.cell_some (h.c j hj i v hv) (hne j hj (ne_nil_of_get hv))
  · by_cases e : j = k
    · subst e; rw [updN_at]; exact hz o
    · rw [updL_ne _ _ e] at hb; rw [updN_ne _ _ e]; exact (hF.frozen (p := ⟨blk j, o, none⟩) (h.b j hj hb).2 (hne j hj hb)).trans (h.z j hj hb o)
  · by_cases e1 : i = k
    · have e2 : j ≠ k := fun q => hij (by omega)
      rw [updL_ne _ _ e2] at hb2
      subst e1
      rw [updN_at, updN_ne _ _ e2]
      exact (hgn j hj hb2).symm
    · rw [updL_ne _ _ e1] at hb1
      rw [updN_ne _ _ e1]
      by_cases e2 : j = k
      · subst e2
        rw [updN_at]
        exact hgn i hi hb1
      · rw [updL_ne _ _ e2] at hb2
        rw [updN_ne _ _ e2]
        exact h.d i j hi hj hij hb1 hb2
  · by_cases e : j = k
    · subst e; rw [updN_at]; exact hg
    · rw [updL_ne _ _ e] at hb; rw [updN_ne _ _ e]; exact ⟨(h.b j hj hb).1, Nat.lt_of_lt_of_le (h.b j hj hb).2 hF.size⟩
  · by_cases e : j = k
    · subst e; rw [updL_at]; exact hl2
    · rw [updL_ne _ _ e]; exact h.n j hj

section
variable (w : World) (rp base : Nat) (s : ByteArray) (x : Rn) (bx : Nat → List Int) (blk : Nat → Nat)
end
end Go.Proofs.YthcjcjfgdgnljabDoor

namespace Go.Proofs.YthcjcjfgdgnljabDoor
open Go.RowKit
set_option linter.unusedVariables false

theorem RunAt.setAt {w : World} {rp : Nat} {s : ByteArray} {x : Rn} (h : RunAt w rp s x) {k : Nat} (hk : k < 26) (v : Int) : RunAt (w.setCell ⟨rp, 54 + k, none⟩ (.int .i64 v)) rp s { x with at_ := updI x.at_ k v } :=
  ⟨cell_at h.cs (by omega), fun j hj => cell_at (h.cn j hj) (by omega), fun j hj => cell_at (h.cw j hj) (by omega),
    cell_at h.ch (by omega), fun j hj => by
      by_cases e : j = k
      · subst e; show _ = some (Value.int .i64 (updI x.at_ j v j)); rw [show updI x.at_ j v j = v by simp [updI]]; exact cell_same (h.ca j hj)
      · show _ = some (Value.int .i64 (updI x.at_ k v j)); rw [show updI x.at_ k v j = x.at_ j by simp [updI, e]]; exact cell_at (h.ca j hj) (by omega), fun j hj => cell_at (h.cl j hj) (by omega),
    cell_at h.cf (by omega), cell_at h.co (by omega), cell_at h.ct (by omega), cell_at h.cu (by omega), cell_at h.cp (by omega), fun o => by rw [World.frozen?_setCell]; exact h.fz o⟩
theorem RunAt.setLen {w : World} {rp : Nat} {s : ByteArray} {x : Rn} (h : RunAt w rp s x) {k : Nat} (hk : k < 26) (v : Int) : RunAt (w.setCell ⟨rp, 80 + k, none⟩ (.int .i64 v)) rp s { x with len := updI x.len k v } :=
  ⟨cell_at h.cs (by omega), fun j hj => cell_at (h.cn j hj) (by omega), fun j hj => cell_at (h.cw j hj) (by omega),
    cell_at h.ch (by omega), fun j hj => cell_at (h.ca j hj) (by omega), fun j hj => by
      by_cases e : j = k
      · subst e; show _ = some (Value.int .i64 (updI x.len j v j)); rw [show updI x.len j v j = v by simp [updI]]; exact cell_same (h.cl j hj)
      · show _ = some (Value.int .i64 (updI x.len k v j)); rw [show updI x.len k v j = x.len j by simp [updI, e]]; exact cell_at (h.cl j hj) (by omega),
    cell_at h.cf (by omega), cell_at h.co (by omega), cell_at h.ct (by omega), cell_at h.cu (by omega), cell_at h.cp (by omega), fun o => by rw [World.frozen?_setCell]; exact h.fz o⟩
/-- boxes change places -/
theorem PlayAt.perm {w w' : World} {rp base : Nat} {s : ByteArray} {x x' : Rn} {bx bx' : Nat → List Int} {blk : Nat → Nat} (h : PlayAt w rp base s x bx blk) (hF : Fr (OneB rp) w w') (hR : RunAt w' rp s x') (h1 : x'.hv = x.hv) (q : Nat → Nat)
    (he : ∀ k, k < 26 → bx' k = [] → x'.wv k = .slice none 0 0) (hs : ∀ k, k < 26 → bx' k ≠ [] → q k < 26 ∧ bx' k = bx (q k) ∧ x'.wv k = x.wv (q k))
    (hi : ∀ k l, k < 26 → l < 26 → k ≠ l → bx' k ≠ [] → bx' l ≠ [] → q k ≠ q l) : PlayAt w' rp base s x' bx' (fun k => blk (q k)) := by
  have hne : ∀ k, k < 26 → bx k ≠ [] → ¬ OneB rp (blk k) := fun k hk hb e => by
    have := (h.b k hk hb).1
    have := h.rb
    unfold OneB at e
    omega
  refine ⟨hR, by rw [h1]; exact h.hn, h.rb, he, fun k hk hb => ?_, fun k hk i v hv => ?_, fun k hk hb o => ?_, fun k l hk hl hkl hb1 hb2 => ?_, fun k hk hb => ?_, fun k hk => ?_⟩
  · obtain ⟨a1, a2, a3⟩ := hs k hk hb
    rw [a3, a2]
    exact h.f _ a1 (by rwa [← a2])
  · obtain ⟨a1, a2, a3⟩ := hs k hk (ne_nil_of_get hv)
    rw [a2] at hv
    exact hF.cell_some (h.c _ a1 i v hv) (hne _ a1 (ne_nil_of_get hv))
  · obtain ⟨a1, a2, a3⟩ := hs k hk hb
    rw [a2] at hb
    exact (hF.frozen (p := ⟨blk (q k), o, none⟩) (h.b _ a1 hb).2 (hne _ a1 hb)).trans (h.z _ a1 hb o)
  · obtain ⟨a1, a2, a3⟩ := hs k hk hb1
    obtain ⟨b1, b2, b3⟩ := hs l hl hb2
    exact h.d _ _ a1 b1 (hi k l hk hl hkl hb1 hb2) (by rwa [← a2]) (by rwa [← b2])
  · obtain ⟨a1, a2, a3⟩ := hs k hk hb
    rw [a2] at hb
    exact ⟨(h.b _ a1 hb).1, Nat.lt_of_lt_of_le (h.b _ a1 hb).2 hF.size⟩
  · by_cases e : bx' k = []
    · rw [e]; simp
    · obtain ⟨a1, a2, a3⟩ := hs k hk e
      rw [a2]; exact h.n _ a1

section
variable (w : World) (rp base : Nat) (s : ByteArray) (x : Rn) (bx : Nat → List Int) (blk : Nat → Nat)
end
end Go.Proofs.YthcjcjfgdgnljabDoor

namespace Go.Proofs.YthcjcjfgdgnljabDoor
open Go.RowKit
set_option linter.unusedVariables false

/-- a box's word is turned -/
theorem PlayAt.put {w : World} {rp base : Nat} {s : ByteArray} {x : Rn} {bx : Nat → List Int} {blk : Nat → Nat} (h : PlayAt w rp base s x bx blk) {k q : Nat} (hk : k < 26) (hq : q < (bx k).length) (v : Int) :
    PlayAt (w.setCell ⟨blk k, q, none⟩ (.int .i64 v)) rp base s x (updL bx k ((bx k).set q v)) blk := by
  have hF := (Fr.refl (OneB (blk k)) w).setCell (p := ⟨blk k, q, none⟩) (fun _ => rfl) (.int .i64 v)
  have hkn : bx k ≠ [] := fun e => by rw [e] at hq; simp at hq
  have hrb := h.rb
  have hkb := (h.b k hk hkn).1
  have hup : ∀ j, updL bx k ((bx k).set q v) j ≠ [] → bx j ≠ [] := fun j hj => by
    by_cases e : j = k
    · subst e; exact hkn
    · rwa [updL_ne _ _ e] at hj
  have hlen : ∀ j, (updL bx k ((bx k).set q v) j).length = (bx j).length := fun j => by
    by_cases e : j = k
    · subst e; rw [updL_at]; simp
    · rw [updL_ne _ _ e]
  refine ⟨h.r.fr hF (fun e => by unfold OneB at e; omega), h.hn, h.rb, fun j hj hb => ?_, fun j hj hb => ?_, fun j hj i u hv => ?_, fun j hj hb o => by rw [World.frozen?_setCell]; exact h.z j hj (hup j hb) o, fun i j hi hj hij hb1 hb2 => h.d i j hi hj hij (hup i hb1) (hup j hb2), fun j hj hb => by rw [setCell_size]; exact h.b j hj (hup j hb), fun j hj => by rw [hlen]; exact h.n j hj⟩
  · have hb2 : bx j = [] := List.eq_nil_of_length_eq_zero (by rw [← hlen j, hb]; rfl)
    exact h.e j hj hb2
  · rw [hlen]; exact h.f j hj (hup j hb)
  · by_cases e : j = k
    · subst e
      rw [updL_at] at hv
      by_cases e2 : i = q
      · subst e2
        rw [List.getElem?_set_self hq] at hv
        obtain ⟨c, hc⟩ : ∃ c, (bx j)[i]? = some c := ⟨_, List.getElem?_eq_getElem hq⟩
        rw [← Option.some.inj hv]
        exact cell_same (h.c j hj i c hc)
      · rw [List.getElem?_set_ne (by omega)] at hv
        exact cell_at (h.c j hj i u hv) (by omega)
    · rw [updL_ne _ _ e] at hv
      exact hF.cell_some (h.c j hj i u hv) (fun e3 => h.d j k hj hk e (ne_nil_of_get hv) hkn e3)

section
variable (w : World) (rp base : Nat) (s : ByteArray) (x : Rn) (bx : Nat → List Int) (blk : Nat → Nat)
end
end Go.Proofs.YthcjcjfgdgnljabDoor

namespace Go.Proofs.YthcjcjfgdgnljabDoor
open Go.RowKit
set_option linter.unusedVariables false

theorem updI_two (f : Nat → Int) (k : Nat) (u v : Int) : updI (updI f k u) k v = updI f k v := by
  funext i
  unfold updI
  split <;> rfl

section
variable (w : World) (rp base : Nat) (s : ByteArray) (x : Rn) (bx : Nat → List Int) (blk : Nat → Nat)
end
end Go.Proofs.YthcjcjfgdgnljabDoor

namespace Go.Proofs.YthcjcjfgdgnljabDoor
open Go.RowKit
set_option linter.unusedVariables false

theorem div_wrap {a b n : Nat} (ha : a < 1000) (hb : b < 1000) (h : n * b ≤ a) (hb0 : 0 < b) : wrap64 (((n : Int) + 1) * (b : Int)) = (((n + 1) * b : Nat) : Int) := by
  have h1 : (n + 1) * b ≤ 2000 := by rw [Nat.succ_mul]; omega
  have h2 : (((n + 1) * b : Nat) : Int) = ((n : Int) + 1) * (b : Int) := by simp
  rw [← h2]
  generalize (n + 1) * b = m at *
  unfold wrap64
  omega
section
variable (w : World) (rp base : Nat) (s : ByteArray) (x : Rn) (bx : Nat → List Int) (blk : Nat → Nat)
end
end Go.Proofs.YthcjcjfgdgnljabDoor

namespace Go.Proofs.YthcjcjfgdgnljabDoor
open Go.RowKit
set_option linter.unusedVariables false

def CalcS (rp : Nat) (s : ByteArray) (b : Bool) (x : Rn) (w : World) (e : Ending) (w' : World) : Prop := e = .returned (.bool b) ∧ RunAt w' rp s x ∧ Fr (OneB rp) w w'


section
variable (w : World) (rp : Nat) (s : ByteArray) (x : Rn)
end


section
variable (w : World) (rp : Nat) (s : ByteArray) (x : Rn)
end


section
variable (w : World) (rp : Nat) (s : ByteArray) (x : Rn)
end
end Go.Proofs.YthcjcjfgdgnljabDoor

namespace Go.Proofs.YthcjcjfgdgnljabDoor
open Go.RowKit

theorem ret_bool {a b : Bool} (h : a = b) : Ending.returned (.bool a) = .returned (.bool b) := by rw [h]
theorem ret_int {k : IntKind} {a b : Int} (h : a = b) : Ending.returned (.int k a) = .returned (.int k b) := by rw [h]
theorem takenB_in {B : Nat → Int} {n k : Nat} (h : k < n) : takenB B n (k : Int) = (B k != 0) := by
  unfold takenB
  have h1 : (0 : Int) ≤ (k : Int) := by omega
  have h2 : (k : Int) < (n : Int) := by omega
  by_cases hb : B k = 0 <;> simp [h1, h2, hb]
theorem takenB_hi {B : Nat → Int} {n k : Nat} (h : ¬ k < n) : takenB B n (k : Int) = false := by
  unfold takenB
  have h2 : ¬ (k : Int) < (n : Int) := by omega
  simp [h2]
theorem takenB_neg {B : Nat → Int} {n : Nat} {a : Int} (h : ¬ 0 ≤ a) : takenB B n a = false := by
  unfold takenB
  simp [h]
theorem takenB_true {B : Nat → Int} {n : Nat} {a : Int} (h : takenB B n a = true) : ∃ k : Nat, a = (k : Int) ∧ k < n ∧ B k ≠ 0 := by
  unfold takenB at h
  simp at h
  refine ⟨a.toNat, by omega, by omega, h.2⟩

set_option maxHeartbeats 400000 in
theorem taken_any (w : World) (p r n : Nat) (B V : Nat → Int) (a : Int) (h : HeapAt w p r n B V) :
    Calls Tryd.prog 75 #[.pointer (some ⟨p, 0, none⟩), .int .i64 a] w fun e w' => e = .returned (.bool (takenB B n a)) ∧ w' = w := by
  have hn := h.hi
  have hp := h.ptr
  by_cases h0 : 0 ≤ a
  · obtain ⟨k, rfl⟩ := Int.eq_ofNat_of_zero_le h0
    by_cases h1 : k < n
    · have hc := h.blk k h1
      clear h
      go_enter Tryd.func75, Tryd.ntmps75
      go_wp2
      go_ret
      exact ⟨ret_bool (takenB_in h1).symm, rfl⟩
    · clear h
      go_enter Tryd.func75, Tryd.ntmps75
      go_wp2
      go_ret
      exact ⟨ret_bool (takenB_hi h1).symm, rfl⟩
  · clear h
    go_enter Tryd.func75, Tryd.ntmps75
    go_wp2
    go_ret
    exact ⟨ret_bool (takenB_neg (by omega)).symm, rfl⟩
/-- at a number that the caller holds as a natural one -/
theorem taken_in (w : World) (p r n : Nat) (B V : Nat → Int) (k : Nat) (h : HeapAt w p r n B V) (hk : k < n) :
    Calls Tryd.prog 75 #[.pointer (some ⟨p, 0, none⟩), .int .i64 (k : Int)] w fun e w' => e = .returned (.bool (B k != 0)) ∧ w' = w := by
  have := taken_any w p r n B V k h
  rwa [takenB_in hk] at this

set_option maxHeartbeats 400000 in
theorem load_no (w : World) (p r n : Nat) (B V : Nat → Int) (a : Int) (h : HeapAt w p r n B V) (ht : takenB B n a = false) :
    Calls Tryd.prog 69 #[.pointer (some ⟨p, 0, none⟩), .int .i64 a] w fun e w' => e = .returned (.tuple #[.int .i64 0, .int .i64 7]) ∧ w' = w := by
  go_enter Tryd.func69, Tryd.ntmps69
  go_wp2_with (go_at_call 75; refine (taken_any _ p r n B V a h).mono ?_; rintro e w' ⟨rfl, rfl⟩; rw [ht])
  go_ret2
  exact ⟨rfl, rfl⟩

set_option maxHeartbeats 400000 in
theorem load_yes (w : World) (p r n : Nat) (B V : Nat → Int) (k : Nat) (h : HeapAt w p r n B V) (hk : k < n) (ht : B k ≠ 0) :
    Calls Tryd.prog 69 #[.pointer (some ⟨p, 0, none⟩), .int .i64 (k : Int)] w fun e w' => e = .returned (.tuple #[.int .i64 (V k), .int .i64 0]) ∧ w' = w := by
  have hn := h.hi
  have hp := h.ptr
  have hc := h.val k hk
  have hb : (B k != 0) = true := by simpa using ht
  go_enter Tryd.func69, Tryd.ntmps69
  go_wp2_with (go_at_call 75; refine (taken_in _ p r n B V k h hk).mono ?_; rintro e w' ⟨rfl, rfl⟩; rw [hb])
  go_ret2
  exact ⟨rfl, rfl⟩

set_option maxHeartbeats 400000 in
theorem store_no (w : World) (p r n : Nat) (B V : Nat → Int) (a u : Int) (h : HeapAt w p r n B V) (ht : takenB B n a = false) :
    Calls Tryd.prog 72 #[.pointer (some ⟨p, 0, none⟩), .int .i64 a, .int .i64 u] w fun e w' => e = .returned (.int .i64 7) ∧ w' = w := by
  go_enter Tryd.func72, Tryd.ntmps72
  go_wp2_with (go_at_call 75; refine (taken_any _ p r n B V a h).mono ?_; rintro e w' ⟨rfl, rfl⟩; rw [ht])
  go_ret
  exact ⟨rfl, rfl⟩

set_option maxHeartbeats 400000 in
theorem store_arg (w : World) (p r n : Nat) (B V : Nat → Int) (k : Nat) (u : Int) (h : HeapAt w p r n B V) (hk : k < n) (ht : B k ≠ 0) (hu : u < 0 ∨ 1000 ≤ u) :
    Calls Tryd.prog 72 #[.pointer (some ⟨p, 0, none⟩), .int .i64 (k : Int), .int .i64 u] w fun e w' => e = .returned (.int .i64 5) ∧ w' = w := by
  have hb : (B k != 0) = true := by simpa using ht
  rcases hu with hu | hu
  · go_enter Tryd.func72, Tryd.ntmps72
    go_wp2_with (go_at_call 75; refine (taken_in _ p r n B V k h hk).mono ?_; rintro e w' ⟨rfl, rfl⟩; rw [hb])
    go_ret
    exact ⟨rfl, rfl⟩
  · have hu0 : ¬ u < 0 := by omega
    go_enter Tryd.func72, Tryd.ntmps72
    go_wp2_with (go_at_call 75; refine (taken_in _ p r n B V k h hk).mono ?_; rintro e w' ⟨rfl, rfl⟩; rw [hb])
    go_ret
    exact ⟨rfl, rfl⟩

set_option maxHeartbeats 400000 in
theorem store_yes (w : World) (p r n : Nat) (B V : Nat → Int) (k : Nat) (u : Int) (h : HeapAt w p r n B V) (hk : k < n) (ht : B k ≠ 0) (hu0 : 0 ≤ u) (hu1 : u < 1000) :
    Calls Tryd.prog 72 #[.pointer (some ⟨p, 0, none⟩), .int .i64 (k : Int), .int .i64 u] w fun e w' => e = .returned (.int .i64 0) ∧ w' = w.setCell ⟨r, k * 2 + 1, none⟩ (.int .i64 u) := by
  have hn := h.hi
  have hp := h.ptr
  have hc := h.val k hk
  have hf := h.frz (k * 2 + 1)
  have hb : (B k != 0) = true := by simpa using ht
  go_enter Tryd.func72, Tryd.ntmps72
  go_wp2_with (go_at_call 75; refine (taken_in _ p r n B V k h hk).mono ?_; rintro e w' ⟨rfl, rfl⟩; rw [hb])
  go_ret
  exact ⟨rfl, rfl⟩
end Go.Proofs.YthcjcjfgdgnljabDoor

namespace Go.Proofs.YthcjcjfgdgnljabDoor
open Go.RowKit

/-- a .. e: the first free run from f on. -/
structure RunFrom (B : Nat → Int) (n f a e : Nat) : Prop where
  fa : f ≤ a
  ae : a ≤ e
  en : e ≤ n
  skip : ∀ i, f ≤ i → i < a → B i ≠ 0
  free : ∀ i, a ≤ i → i < e → B i = 0
  top : a = n ∨ B a = 0
  stop : e = n ∨ B e ≠ 0

theorem grow_ne {B : Nat → Int} {f k : Nat} (h : ∀ i, f ≤ i → i < k → B i ≠ 0) (hk : B k ≠ 0) : ∀ i, f ≤ i → i < k + 1 → B i ≠ 0 := fun i h1 h2 => by
  by_cases e : i = k
  · subst e; exact hk
  · exact h i h1 (by omega)
theorem grow_eq {B : Nat → Int} {f k : Nat} (h : ∀ i, f ≤ i → i < k → B i = 0) (hk : B k = 0) : ∀ i, f ≤ i → i < k + 1 → B i = 0 := fun i h1 h2 => by
  by_cases e : i = k
  · subst e; exact hk
  · exact h i h1 (by omega)
theorem top_of {B : Nat → Int} {k n : Nat} (hk : k ≤ n) (h : ¬ (k < n ∧ B k ≠ 0)) : k = n ∨ B k = 0 := by
  by_cases e : B k = 0
  · exact .inr e
  · exact .inl (by have : ¬ k < n := fun hl => h ⟨hl, e⟩; omega)
theorem stop_of {B : Nat → Int} {k n : Nat} (hk : k ≤ n) (h : ¬ (k < n ∧ B k = 0)) : k = n ∨ B k ≠ 0 := by
  by_cases e : B k = 0
  · exact .inl (by have : ¬ k < n := fun hl => h ⟨hl, e⟩; omega)
  · exact .inr e

set_option maxHeartbeats 1000000 in
theorem nextRun_any (w : World) (p r n : Nat) (B V : Nat → Int) (f : Nat) (h : HeapAt w p r n B V) (hf : f ≤ n) :
    Calls Tryd.prog 78 #[.pointer (some ⟨p, 0, none⟩), .int .i64 (f : Int)] w fun e w' =>
      ∃ a z : Nat, e = .returned (.agg #[.int .i64 (a : Int), .int .i64 ((z : Int) - (a : Int))]) ∧ RunFrom B n f a z ∧ Fr NoB w w' := by
  have hn := h.hi
  have hpl := h.pl
  have hp := h.ptr
  go_enter Tryd.func78, Tryd.ntmps78
  go_wp2
  go_loop [5] (fun t => ∃ k : Nat, f ≤ k ∧ k ≤ n ∧ (∀ i, f ≤ i → i < k → B i ≠ 0) ∧ t = .int .i64 k) (fun t => n - (intOf t).toNat)
  case atStart => exact ⟨f, Nat.le_refl _, hf, fun i h1 h2 => absurd h2 (by omega), rfl⟩
  case round =>
    obtain ⟨k, hk1, hk2, hk3, rfl⟩ := hrel
    have h1 : HeapAt (w.alloc (.cells #[.int .i64 0, .int .i64 0] 71)) p r n B V := h.no ((Fr.refl _ _).alloc _)
    have Hk3 : Hid (∀ i, f ≤ i → i < k → B i ≠ 0) := hk3
    clear hk3
    by_cases hgo : k < n ∧ B k ≠ 0
    · obtain ⟨hlt, hb⟩ := hgo
      have hbb : (B k != 0) = true := by simpa using hb
      have Hb : Hid (B k ≠ 0) := hb
      clear hb
      go_wp2_with (go_at_call 75; refine (taken_in _ p r n B V k h1 hlt).mono ?_; rintro e w' ⟨rfl, rfl⟩; rw [hbb])
      go_round
      case rel => exact ⟨k + 1, by omega, by omega, grow_ne Hk3.out Hb.out, by go_num⟩
      case measure => simp [intOf]; omega
    · have Htop : Hid (k = n ∨ B k = 0) := top_of hk2 hgo
      have hbb : k < n → (B k != 0) = false := fun hlt => by
        rcases Htop.out with h | h
        · omega
        · simpa using h
      clear hgo
      by_cases hlt : k < n
      all_goals
        go_wp2_with (go_at_call 75; refine (taken_in _ p r n B V k h1 hlt).mono ?_; rintro e w' ⟨rfl, rfl⟩; rw [hbb hlt])
        go_loop [6] (fun t => ∃ z : Nat, k ≤ z ∧ z ≤ n ∧ (∀ i, k ≤ i → i < z → B i = 0) ∧ t = .int .i64 z) (fun t => n - (intOf t).toNat)
        case atStart => exact ⟨k, Nat.le_refl _, hk2, fun i h1 h2 => absurd h2 (by omega), rfl⟩
        case round =>
          obtain ⟨z, hz1, hz2, hz3, rfl⟩ := hrel
          have Hz3 : Hid (∀ i, k ≤ i → i < z → B i = 0) := hz3
          clear hz3
          by_cases hgo : z < n ∧ B z = 0
          · obtain ⟨hzl, hzb⟩ := hgo
            have hbz : (B z != 0) = false := by simpa using hzb
            have Hzb : Hid (B z = 0) := hzb
            clear hzb
            first
            | (exfalso; omega)
            | (go_wp2_with (go_at_call 75; refine (taken_in _ p r n B V z h1 hzl).mono ?_; rintro e w' ⟨rfl, rfl⟩; rw [hbz])
               go_round
               case rel => exact ⟨z + 1, by omega, by omega, grow_eq Hz3.out Hzb.out, by go_num⟩
               case measure => simp [intOf]; omega)
          · have Hstop : Hid (z = n ∨ B z ≠ 0) := stop_of hz2 hgo
            have hbz : z < n → (B z != 0) = true := fun hlt => by
              rcases Hstop.out with h | h
              · omega
              · simpa using h
            clear hgo
            by_cases hzl : z < n
            all_goals
              first
              | (exfalso; omega)
              | (go_wp2_with (go_at_call 75; refine (taken_in _ p r n B V z h1 hzl).mono ?_; rintro e w' ⟨rfl, rfl⟩; rw [hbz hzl])
                 refine bodyPost_ret (v := .agg #[.int .i64 (k : Int), .int .i64 ((z : Int) - (k : Int))]) (by simp [results, Tryd.results78, go_sem]) rfl ⟨k, z, rfl, ⟨hk1, hz1, hz2, Hk3.out, Hz3.out, Htop.out, Hstop.out⟩, ?_⟩
                 repeat (first | exact Fr.refl _ _ | refine Fr.setCell ?_ (fun h => absurd h (Nat.lt_irrefl _)) _ | refine Fr.alloc ?_ _))
end Go.Proofs.YthcjcjfgdgnljabDoor

namespace Go.Proofs.YthcjcjfgdgnljabDoor
open Go.RowKit

/-- k free words from a on -/
def FreeAt (B : Nat → Int) (n k a : Nat) : Prop := a + k ≤ n ∧ ∀ i, a ≤ i → i < a + k → B i = 0
def markTo (B : Nat → Int) (a j : Nat) : Nat → Int := fun i => if a ≤ i ∧ i < j then (a : Int) + 1 else B i
def cellInt (w : World) (b o : Nat) : Int := match w.cell? ⟨b, o, none⟩ with | some (.int _ q) => q | _ => 0
theorem cellInt_of {w : World} {b o : Nat} {q : Int} (h : w.cell? ⟨b, o, none⟩ = some (.int .i64 q)) : cellInt w b o = q := by simp [cellInt, h]

theorem free_first {B : Nat → Int} {n k a z : Nat} (hk : 1 ≤ k) (h : RunFrom B n 0 a z) : ∀ b, FreeAt B n k b → a ≤ b := fun b hb => by
  by_cases e : a ≤ b
  · exact e
  · exact absurd (hb.2 b (Nat.le_refl _) (by omega)) (h.skip b (Nat.zero_le _) (by omega))
theorem free_next {B : Nat → Int} {n k f a z a' z' : Nat} (hk : 1 ≤ k) (h : RunFrom B n f a z) (h' : RunFrom B n z a' z') (hlen : z < a + k) (hf : ∀ b, FreeAt B n k b → a ≤ b) : ∀ b, FreeAt B n k b → a' ≤ b := fun b hb => by
  have h1 := hf b hb
  have hz : z ≤ b := by
    by_cases e : z ≤ b
    · exact e
    · rcases h.stop with hs | hs
      · have := hb.1; omega
      · exact absurd (hb.2 z (by omega) (by omega)) hs
  by_cases e : a' ≤ b
  · exact e
  · exact absurd (hb.2 b (Nat.le_refl _) (by omega)) (h'.skip b hz (by omega))
theorem next_later {B : Nat → Int} {n f a z a' z' : Nat} (h : RunFrom B n f a z) (h' : RunFrom B n z a' z') : z < z' ∨ (z = n ∧ a' = n ∧ z' = n) := by
  have h1 := h'.fa
  have h2 := h'.ae
  have h3 := h'.en
  rcases h.stop with hs | hs
  · exact .inr ⟨hs, by omega, by omega⟩
  · rcases h'.top with ht | ht
    · have := h.en
      by_cases e : z < z'
      · exact .inl e
      · exact .inr ⟨by omega, by omega, by omega⟩
    · refine .inl ?_
      by_cases e : a' = z
      · subst e; exact absurd ht hs
      · omega
theorem no_room {B : Nat → Int} {n k f a z : Nat} (hk : 1 ≤ k) (h : RunFrom B n f a z) (hl : a = z) (hf : ∀ b, FreeAt B n k b → a ≤ b) : ∀ b, ¬ FreeAt B n k b := fun b hb => by
  have h1 := hf b hb
  have h2 := hb.1
  subst hl
  rcases h.stop with hs | hs
  · omega
  · rcases h.top with ht | ht
    · omega
    · exact hs ht
theorem has_room {B : Nat → Int} {n k f a z : Nat} (h : RunFrom B n f a z) (hl : a + k ≤ z) : FreeAt B n k a :=
  ⟨by have := h.en; omega, fun i h1 h2 => h.free i h1 (by omega)⟩

theorem markTo_start (B : Nat → Int) (a : Nat) {n : Nat} : ∀ i, i < n → markTo B a a i = B i := fun i _ => by
  unfold markTo; rw [if_neg (by omega)]
theorem markTo_step (B : Nat → Int) {a j : Nat} (h : a ≤ j) {n : Nat} : ∀ i, i < n → markTo B a (j + 1) i = upd (markTo B a j) j ((a : Int) + 1) i := fun i _ => by
  unfold markTo upd
  by_cases e : i = j
  · subst e; rw [if_pos (by omega), if_pos rfl]
  · rw [if_neg e]
    by_cases e2 : a ≤ i ∧ i < j
    · rw [if_pos (by omega)]; exact (if_pos e2).symm
    · rw [if_neg (by omega)]; exact (if_neg e2).symm

set_option maxHeartbeats 400000 in
theorem alloc_arg (w : World) (p : Nat) (k : Int) (hk : k < 1 ∨ 64 < k) :
    Calls Tryd.prog 76 #[.pointer (some ⟨p, 0, none⟩), .int .i64 k] w fun e w' => e = .returned (.tuple #[.int .i64 0, .int .i64 5]) ∧ w' = w := by
  rcases hk with hk | hk
  · go_enter Tryd.func76, Tryd.ntmps76
    go_wp2
    go_ret2
    exact ⟨rfl, rfl⟩
  · have hk0 : ¬ k < 1 := by omega
    go_enter Tryd.func76, Tryd.ntmps76
    go_wp2
    go_ret2
    exact ⟨rfl, rfl⟩

set_option maxHeartbeats 1000000 in
theorem alloc_any (w : World) (p r n : Nat) (B V : Nat → Int) (k : Nat) (h : HeapAt w p r n B V) (hk1 : 1 ≤ k) (hk2 : k ≤ 64) :
    Calls Tryd.prog 76 #[.pointer (some ⟨p, 0, none⟩), .int .i64 (k : Int)] w fun e w' =>
      (∃ a : Nat, FreeAt B n k a ∧ (∀ b, FreeAt B n k b → a ≤ b) ∧ e = .returned (.tuple #[.int .i64 (a : Int), .int .i64 0]) ∧ HeapAt w' p r n (markTo B a (a + k)) V ∧ Fr (OneB r) w w') ∨
      ((∀ b, ¬ FreeAt B n k b) ∧ e = .returned (.tuple #[.int .i64 0, .int .i64 6]) ∧ Fr NoB w w') := by
  have hn := h.hi
  have hd1 : (decide ((k : Int) < 1)) = false := by simp; omega
  have hd2 : (decide ((64 : Int) < (k : Int))) = false := by simp; omega
  go_enter Tryd.func76, Tryd.ntmps76
  go_wp2_with fail
  refine (nextRun_any _ p r n B V 0 h (Nat.zero_le _)).mono ?_
  rintro e w1 ⟨a0, z0, rfl, hr0, hf0⟩
  go_wp2_with fail
  go_loopw [] (fun wr => ∃ f a z : Nat, RunFrom B n f a z ∧ (∀ b, FreeAt B n k b → a ≤ b) ∧ wr.cell? ⟨w1.heap.size, 0, none⟩ = some (.int .i64 a) ∧ wr.cell? ⟨w1.heap.size, 1, none⟩ = some (.int .i64 ((z : Int) - (a : Int))) ∧
      (∀ o, wr.frozen? ⟨w1.heap.size, o, none⟩ = false) ∧ Fr NoB w wr ∧ w1.heap.size < wr.heap.size)
    (fun wr => (2 * ((n : Int) - (cellInt wr w1.heap.size 0 + cellInt wr w1.heap.size 1)) + min (cellInt wr w1.heap.size 1) 1).toNat)
  case atStart => exact ⟨0, a0, z0, hr0, free_first hk1 hr0, by simp, by simp, fun o => by simp, hf0.alloc _, by simp⟩
  case round =>
    obtain ⟨f, a, z, hr, hfr, hc0, hc1, hfz, hF, hsz⟩ := hrel
    have hae := hr.ae
    have hen := hr.en
    have hW : HeapAt wr p r n B V := h.no hF
    have Hfr : Hid (∀ b, FreeAt B n k b → a ≤ b) := hfr
    clear hfr
    by_cases hlen : a < z ∧ z < a + k
    · obtain ⟨hl1, hl2⟩ := hlen
      go_wp2_with fail
      rw [show (a : Int) + ((z : Int) - (a : Int)) = (z : Int) from by omega]
      refine (nextRun_any _ p r n B V z hW hen).mono ?_
      rintro e w2 ⟨a', z', rfl, hr', hf'⟩
      have hlat := next_later hr hr'
      have hR := free_next hk1 hr hr' hl2 Hfr.out
      have hae' := hr'.ae
      have hen' := hr'.en
      have hc0' := hf'.cell_some hc0 id
      have hc1' := hf'.cell_some hc1 id
      have hfz' : ∀ o, w2.frozen? ⟨w1.heap.size, o, none⟩ = false := fun o => (hf'.frozen (p := ⟨w1.heap.size, o, none⟩) hsz id).trans (hfz o)
      have hfa := hfz' 0
      have hfb := hfz' 1
      have HR : Hid (∀ b, FreeAt B n k b → a' ≤ b) := hR
      have HL : Hid (z < z' ∨ (z = n ∧ a' = n ∧ z' = n)) := hlat
      have hs2 := hf'.size
      have hgw : w.heap.size ≤ w1.heap.size := hf0.size
      clear hR hlat
      go_wp2_with fail
      go_roundw
      case rel =>
        refine ⟨z, a', z', hr', HR.out, (two_set hc0' hc1').1, (two_set hc0' hc1').2, fun o => by simp [hfz'], ?_, by simp; omega⟩
        exact ((hF.trans hf').setCell (fun hlt => absurd hlt (by simp; omega)) _).setCell (fun hlt => absurd hlt (by simp; omega)) _
      case measure =>
        have hL := HL.out
        rw [cellInt_of hc0, cellInt_of hc1, cellInt_of (two_set hc0' hc1').1, cellInt_of (two_set hc0' hc1').2]
        omega
    · by_cases hz : a = z
      · have hno := no_room hk1 hr hz Hfr.out
        have Hno : Hid (∀ b, ¬ FreeAt B n k b) := hno
        clear hno hlen
        subst hz
        go_wp2
        go_ret2
        exact .inr ⟨Hno.out, rfl, hF⟩
      · have hge : a + k ≤ z := by omega
        have hyes := has_room hr hge
        have Hyes : Hid (FreeAt B n k a) := hyes
        clear hyes
        clear hlen
        have hlt : a < z := by omega
        go_wp2_with fail
        have hgw : w.heap.size ≤ w1.heap.size := hf0.size
        have hrl := h.rl
        have hne : r ≠ w1.heap.size := by omega
        go_loopw [7] (fun t wq => ∃ j : Nat, a ≤ j ∧ j ≤ a + k ∧ t = .int .i64 j ∧ HeapAt wq p r n (markTo B a j) V ∧ wq.cell? ⟨w1.heap.size, 0, none⟩ = some (.int .i64 a) ∧ Fr (OneB r) w wq)
          (fun t _ => a + k - (intOf t).toNat)
        case atStart => exact ⟨a, Nat.le_refl _, by omega, rfl, hW.congr (markTo_start B a) (fun _ _ => rfl), hc0, hF.of_no⟩
        case round =>
          obtain ⟨j, hj1, hj2, rfl, hq, hcq, hFq⟩ := hrel
          by_cases hlt2 : j < a + k
          · have hjn : j < n := by omega
            have hqp := hq.ptr
            have hqb := hq.blk j hjn
            have hqf := hq.frz (j * 2)
            have hset := (hq.setBlk hjn ((a : Int) + 1) (by omega) (by omega)).congr (markTo_step B hj1) (fun _ _ => rfl)
            have hFs := hFq.setCell (p := ⟨r, j * 2, none⟩) (fun _ => rfl) (.int .i64 ((a : Int) + 1))
            have hcs : (wr.setCell ⟨r, j * 2, none⟩ (.int .i64 ((a : Int) + 1))).cell? ⟨w1.heap.size, 0, none⟩ = some (.int .i64 a) := (cell_other (.inl hne)).trans hcq
            have H : Hid (HeapAt (wr.setCell ⟨r, j * 2, none⟩ (.int .i64 ((a : Int) + 1))) p r n (markTo B a (j + 1)) V ∧ Fr (OneB r) w (wr.setCell ⟨r, j * 2, none⟩ (.int .i64 ((a : Int) + 1))) ∧ (wr.setCell ⟨r, j * 2, none⟩ (.int .i64 ((a : Int) + 1))).cell? ⟨w1.heap.size, 0, none⟩ = some (.int .i64 a)) := ⟨hset, hFs, hcs⟩
            clear hset hFs hcs hq hFq
            go_wp2
            go_region
            all_goals
              go_wp2
              go_roundw
              case rel => exact ⟨j + 1, by omega, by omega, by go_num, H.out.1.no ((Fr.refl _ _).drew), H.out.2.2, H.out.2.1.drew⟩
              case measure => simp [intOf]; omega
          · have hja : j = a + k := by omega
            subst hja
            go_wp2
            go_ret2
            exact .inl ⟨a, Hyes.out, Hfr.out, rfl, hq, hFq⟩
end Go.Proofs.YthcjcjfgdgnljabDoor

namespace Go.Proofs.YthcjcjfgdgnljabDoor
open Go.RowKit

/-- L: the free runs from lo on. -/
def IsRuns (B : Nat → Int) (n : Nat) : Nat → List (Nat × Nat) → Prop
  | lo, [] => ∀ i, lo ≤ i → i < n → B i ≠ 0
  | lo, (a, l) :: L => lo ≤ a ∧ 0 < l ∧ a + l ≤ n ∧ (∀ i, lo ≤ i → i < a → B i ≠ 0) ∧ (∀ i, a ≤ i → i < a + l → B i = 0) ∧ (a + l = n ∨ B (a + l) ≠ 0) ∧ IsRuns B n (a + l) L

def spanCells (L : List (Nat × Nat)) : List Value := L.flatMap (fun s => [.int .i64 (s.1 : Int), .int .i64 (s.2 : Int)])
theorem spanCells_snoc (L : List (Nat × Nat)) (a l : Nat) : spanCells (L ++ [(a, l)]) = spanCells L ++ [.int .i64 (a : Int), .int .i64 (l : Int)] := by simp [spanCells]

theorem owns_mono {w : World} {base base' : Nat} {e : TypeId} {size : Nat} {v : Value} {n : Nat} {xs : List Value} (h : w.ownsRow base e size v n xs) (hb : base' ≤ base) : w.ownsRow base' e size v n xs := by
  obtain ⟨h1, h2⟩ := h
  refine ⟨h1, ?_⟩
  rcases h2 with h2 | ⟨g, cap, cur, hv, hg, r⟩
  · exact .inl h2
  · exact .inr ⟨g, cap, cur, hv, by omega, r⟩

theorem Tryd.infoSpan : (Tryd.prog.info? 71).map (fun i => (i.zero, i.size, i.bytes)) = some (some (.agg #[.int .i64 0, .int .i64 0]), 2, 16) := by kernel_rfl

theorem runs_step {B : Nat → Int} {n f a z : Nat} {L : List (Nat × Nat)} (h : RunFrom B n f a z) (hlt : a < z) (hL : ∀ M, IsRuns B n f M → IsRuns B n 0 (L ++ M)) : ∀ M, IsRuns B n z M → IsRuns B n 0 ((L ++ [(a, z - a)]) ++ M) := fun M hM => by
  rw [List.append_assoc]
  apply hL
  have e : a + (z - a) = z := by omega
  have hen := h.en
  refine ⟨h.fa, by omega, by omega, h.skip, fun i h1 h2 => h.free i h1 (by omega), ?_, ?_⟩
  · rw [e]; exact h.stop
  · rw [e]; exact hM
theorem runs_end {B : Nat → Int} {n f a z : Nat} {L : List (Nat × Nat)} (h : RunFrom B n f a z) (he : a = z) (hL : ∀ M, IsRuns B n f M → IsRuns B n 0 (L ++ M)) : IsRuns B n 0 L := by
  have := hL [] (fun i h1 h2 => by
    by_cases e : i < a
    · exact h.skip i h1 e
    · exfalso
      subst he
      rcases h.stop with hs | hs
      · omega
      · rcases h.top with ht | ht
        · omega
        · exact hs ht)
  simpa using this

theorem runs_grown {w wr w2 : World} {o : Obj} {g : Nat} {e : TypeId} {size m : Nat} {v : Value} {xs : List Value} {x0 x1 : Value} (hF : Fr NoB w wr) (hgw : w.heap.size ≤ g)
    (hown : wr.ownsRow (g + 1) e size v m xs) (hg : (wr.alloc o).grownBy w2 v.ownBlock)
    (hc0 : wr.cell? ⟨g, 0, none⟩ = some x0) (hc1 : wr.cell? ⟨g, 1, none⟩ = some x1) (hfz : ∀ o, wr.frozen? ⟨g, o, none⟩ = false) (hsz : g < wr.heap.size) :
    Fr NoB w w2 ∧ w2.cell? ⟨g, 0, none⟩ = some x0 ∧ w2.cell? ⟨g, 1, none⟩ = some x1 ∧ (∀ o, w2.frozen? ⟨g, o, none⟩ = false) ∧ g < w2.heap.size := by
  have hlt := hown.lt
  have hfr : Fr (fun k => v.ownBlock = some k) wr w2 := ((Fr.refl _ wr).alloc o).then (Fr.of_grown (S := fun k => v.ownBlock = some k) hg (fun k _ e => e)) (fun _ _ h => h)
  have hng : ¬ v.ownBlock = some g := fun e => by have := (hlt g e).1; omega
  refine ⟨hF.then hfr (fun i hi e => by have := (hlt i e).1; omega), hfr.cell_some hc0 hng, hfr.cell_some hc1 hng, fun o => ?_, ?_⟩
  · exact (hfr.frozen (p := ⟨g, o, none⟩) hsz hng).trans (hfz o)
  · have := hfr.size; omega

end Go.Proofs.YthcjcjfgdgnljabDoor
