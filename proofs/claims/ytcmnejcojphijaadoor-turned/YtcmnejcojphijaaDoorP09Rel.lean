/-
  RunE, RunF, RunG, Taken, NextRun, Alloc, Free, New, RefA, RefB, Rel: one behind the other.
-/
import Derived.Test.YtcmnejcojphijaaDoorP08RunD
import Derived.Test.YtcmnejcojphijaaDoorP00AppK
import Derived.Deep.QuietTactic
import Derived.BigQuiet
import Derived.Deep.RegionWith
import Derived.Deep.DeepCutAuto
namespace Go.Proofs.YtcmnejcojphijaaDoor
open Go.RowKit
set_option linter.unusedVariables false

def updN (f : Nat → Nat) (k v : Nat) : Nat → Nat := fun i => if i = k then v else f i
theorem updN_at (f : Nat → Nat) (k v : Nat) : updN f k v k = v := by simp [updN]
theorem updN_ne (f : Nat → Nat) {k i : Nat} (v : Nat) (h : i ≠ k) : updN f k v i = f i := by simp [updN, h]
/-- a box gets words that lie in a block of none; only the run's own block turned -/
theorem PlayAt.fill {w w' : World} {rp base g : Nat} {s : ByteArray} {x : Rn} {bx : Nat → List Int} {blk : Nat → Nat} {l : List Int} {n : Nat} (h : PlayAt w rp base s x bx blk) {k : Nat} (hk : k < 26) (hn : l.length = n) (hl : l ≠ []) (hl2 : l.length ≤ 64)
    (hF : Fr (OneB rp) w w') (hR : RunAt w' rp s { x with wv := updV x.wv k (.slice (some ⟨g, 0, none⟩) n n) })
    (hg : base ≤ g ∧ g < w'.heap.size) (hgn : ∀ j, j < 26 → bx j ≠ [] → blk j ≠ g) (hc : ∀ i v, l[i]? = some v → w'.cell? ⟨g, i, none⟩ = some (.int .i64 v)) (hz : ∀ o, w'.frozen? ⟨g, o, none⟩ = false) :
    PlayAt w' rp base s { x with wv := updV x.wv k (.slice (some ⟨g, 0, none⟩) n n) } (updL bx k l) (updN blk k g) := by
  subst hn
  have hrb := h.rb
  have hne : ∀ j, j < 26 → bx j ≠ [] → ¬ OneB rp (blk j) := fun j hj hb e => by
    have := (h.b j hj hb).1
    unfold OneB at e
    omega
  refine ⟨hR, h.hn, h.rb, fun j hj hb => ?_, fun j hj hb => ?_, fun j hj i v hv => ?_, fun j hj hb o => ?_, fun i j hi hj hij hb1 hb2 => ?_, fun j hj hb => ?_, fun j hj => ?_⟩
  · show updV x.wv k _ j = _
    by_cases e : j = k
    · subst e; rw [updL_at] at hb; exact absurd hb hl
    · rw [updV_ne _ _ e]; rw [updL_ne _ _ e] at hb; exact h.e j hj hb
  · show updV x.wv k _ j = _
    by_cases e : j = k
    · subst e; rw [updV_at, updL_at, updN_at]
    · rw [updV_ne _ _ e, updL_ne _ _ e, updN_ne _ _ e]; rw [updL_ne _ _ e] at hb; exact h.f j hj hb
  · by_cases e : j = k
    · subst e; rw [updL_at] at hv; rw [updN_at]; exact hc i v hv
    · rw [updL_ne _ _ e] at hv; rw [updN_ne _ _ e]; exact hF.cell_some (h.c j hj i v hv) (hne j hj (ne_nil_of_get hv))
  · by_cases e : j = k
    · subst e; rw [updN_at]; exact hz o
    · rw [updL_ne _ _ e] at hb; rw [updN_ne _ _ e]; exact (hF.frozen (p := ⟨blk j, o, none⟩) (h.b j hj hb).2 (hne j hj hb)).trans (h.z j hj hb o)
  · by_cases e1 : i = k
    · have e2 : j ≠ k := fun q => hij (by omega)
      rw [updL_ne _ _ e2] at hb2
      subst e1
      rw [updN_at, updN_ne _ _ e2]
      exact (hgn j hj hb2).symm
    · rw [updL_ne _ _ e1] at hb1
      rw [updN_ne _ _ e1]
      by_cases e2 : j = k
      · subst e2
        rw [updN_at]
        exact hgn i hi hb1
      · rw [updL_ne _ _ e2] at hb2
        rw [updN_ne _ _ e2]
        exact h.d i j hi hj hij hb1 hb2
  · by_cases e : j = k
    · subst e; rw [updN_at]; exact hg
    · rw [updL_ne _ _ e] at hb; rw [updN_ne _ _ e]; exact ⟨(h.b j hj hb).1, Nat.lt_of_lt_of_le (h.b j hj hb).2 hF.size⟩
  · by_cases e : j = k
    · subst e; rw [updL_at]; exact hl2
    · rw [updL_ne _ _ e]; exact h.n j hj

section
variable (w : World) (rp base : Nat) (s : ByteArray) (x : Rn) (bx : Nat → List Int) (blk : Nat → Nat)
end
end Go.Proofs.YtcmnejcojphijaaDoor

namespace Go.Proofs.YtcmnejcojphijaaDoor
open Go.RowKit
set_option linter.unusedVariables false

theorem RunAt.setAt {w : World} {rp : Nat} {s : ByteArray} {x : Rn} (h : RunAt w rp s x) {k : Nat} (hk : k < 26) (v : Int) : RunAt (w.setCell ⟨rp, 54 + k, none⟩ (.int .i64 v)) rp s { x with at_ := updI x.at_ k v } :=
  ⟨cell_at h.cs (by omega), fun j hj => cell_at (h.cn j hj) (by omega), fun j hj => cell_at (h.cw j hj) (by omega),
    cell_at h.ch (by omega), fun j hj => by
      by_cases e : j = k
      · subst e; show _ = some (Value.int .i64 (updI x.at_ j v j)); rw [show updI x.at_ j v j = v by simp [updI]]; exact cell_same (h.ca j hj)
      · show _ = some (Value.int .i64 (updI x.at_ k v j)); rw [show updI x.at_ k v j = x.at_ j by simp [updI, e]]; exact cell_at (h.ca j hj) (by omega), fun j hj => cell_at (h.cl j hj) (by omega),
    cell_at h.cf (by omega), cell_at h.co (by omega), cell_at h.ct (by omega), cell_at h.cu (by omega), cell_at h.cp (by omega), fun o => by rw [World.frozen?_setCell]; exact h.fz o⟩
theorem RunAt.setLen {w : World} {rp : Nat} {s : ByteArray} {x : Rn} (h : RunAt w rp s x) {k : Nat} (hk : k < 26) (v : Int) : RunAt (w.setCell ⟨rp, 80 + k, none⟩ (.int .i64 v)) rp s { x with len := updI x.len k v } :=
  ⟨cell_at h.cs (by omega), fun j hj => cell_at (h.cn j hj) (by omega), fun j hj => cell_at (h.cw j hj) (by omega),
    cell_at h.ch (by omega), fun j hj => cell_at (h.ca j hj) (by omega), fun j hj => by
      by_cases e : j = k
      · subst e; show _ = some (Value.int .i64 (updI x.len j v j)); rw [show updI x.len j v j = v by simp [updI]]; exact cell_same (h.cl j hj)
      · show _ = some (Value.int .i64 (updI x.len k v j)); rw [show updI x.len k v j = x.len j by simp [updI, e]]; exact cell_at (h.cl j hj) (by omega),
    cell_at h.cf (by omega), cell_at h.co (by omega), cell_at h.ct (by omega), cell_at h.cu (by omega), cell_at h.cp (by omega), fun o => by rw [World.frozen?_setCell]; exact h.fz o⟩
section
variable (w : World) (rp base : Nat) (s : ByteArray) (x : Rn) (bx : Nat → List Int) (blk : Nat → Nat)
end
end Go.Proofs.YtcmnejcojphijaaDoor

namespace Go.Proofs.YtcmnejcojphijaaDoor
open Go.RowKit
set_option linter.unusedVariables false

/-- a box's word is turned -/
theorem PlayAt.put {w : World} {rp base : Nat} {s : ByteArray} {x : Rn} {bx : Nat → List Int} {blk : Nat → Nat} (h : PlayAt w rp base s x bx blk) {k q : Nat} (hk : k < 26) (hq : q < (bx k).length) (v : Int) :
    PlayAt (w.setCell ⟨blk k, q, none⟩ (.int .i64 v)) rp base s x (updL bx k ((bx k).set q v)) blk := by
  have hF := (Fr.refl (OneB (blk k)) w).setCell (p := ⟨blk k, q, none⟩) (fun _ => rfl) (.int .i64 v)
  have hkn : bx k ≠ [] := fun e => by rw [e] at hq; simp at hq
  have hrb := h.rb
  have hkb := (h.b k hk hkn).1
  have hup : ∀ j, updL bx k ((bx k).set q v) j ≠ [] → bx j ≠ [] := fun j hj => by
    by_cases e : j = k
    · subst e; exact hkn
    · rwa [updL_ne _ _ e] at hj
  have hlen : ∀ j, (updL bx k ((bx k).set q v) j).length = (bx j).length := fun j => by
    by_cases e : j = k
    · subst e; rw [updL_at]; simp
    · rw [updL_ne _ _ e]
  refine ⟨h.r.fr hF (fun e => by unfold OneB at e; omega), h.hn, h.rb, fun j hj hb => ?_, fun j hj hb => ?_, fun j hj i u hv => ?_, fun j hj hb o => by rw [World.frozen?_setCell]; exact h.z j hj (hup j hb) o, fun i j hi hj hij hb1 hb2 => h.d i j hi hj hij (hup i hb1) (hup j hb2), fun j hj hb => by rw [setCell_size]; exact h.b j hj (hup j hb), fun j hj => by rw [hlen]; exact h.n j hj⟩
  · have hb2 : bx j = [] := List.eq_nil_of_length_eq_zero (by rw [← hlen j, hb]; rfl)
    exact h.e j hj hb2
  · rw [hlen]; exact h.f j hj (hup j hb)
  · by_cases e : j = k
    · subst e
      rw [updL_at] at hv
      by_cases e2 : i = q
      · subst e2
        rw [List.getElem?_set_self hq] at hv
        obtain ⟨c, hc⟩ : ∃ c, (bx j)[i]? = some c := ⟨_, List.getElem?_eq_getElem hq⟩
        rw [← Option.some.inj hv]
        exact cell_same (h.c j hj i c hc)
      · rw [List.getElem?_set_ne (by omega)] at hv
        exact cell_at (h.c j hj i u hv) (by omega)
    · rw [updL_ne _ _ e] at hv
      exact hF.cell_some (h.c j hj i u hv) (fun e3 => h.d j k hj hk e (ne_nil_of_get hv) hkn e3)

section
variable (w : World) (rp base : Nat) (s : ByteArray) (x : Rn) (bx : Nat → List Int) (blk : Nat → Nat)
end
end Go.Proofs.YtcmnejcojphijaaDoor

namespace Go.Proofs.YtcmnejcojphijaaDoor
open Go.RowKit

theorem ret_bool {a b : Bool} (h : a = b) : Ending.returned (.bool a) = .returned (.bool b) := by rw [h]
theorem ret_int {k : IntKind} {a b : Int} (h : a = b) : Ending.returned (.int k a) = .returned (.int k b) := by rw [h]
theorem takenB_in {B : Nat → Int} {n k : Nat} (h : k < n) : takenB B n (k : Int) = (B k != 0) := by
  unfold takenB
  have h1 : (0 : Int) ≤ (k : Int) := by omega
  have h2 : (k : Int) < (n : Int) := by omega
  by_cases hb : B k = 0 <;> simp [h1, h2, hb]
theorem takenB_hi {B : Nat → Int} {n k : Nat} (h : ¬ k < n) : takenB B n (k : Int) = false := by
  unfold takenB
  have h2 : ¬ (k : Int) < (n : Int) := by omega
  simp [h2]
theorem takenB_neg {B : Nat → Int} {n : Nat} {a : Int} (h : ¬ 0 ≤ a) : takenB B n a = false := by
  unfold takenB
  simp [h]
end Go.Proofs.YtcmnejcojphijaaDoor

namespace Go.Proofs.YtcmnejcojphijaaDoor
open Go.RowKit

/-- a .. e: the first free run from f on. -/
structure RunFrom (B : Nat → Int) (n f a e : Nat) : Prop where
  fa : f ≤ a
  ae : a ≤ e
  en : e ≤ n
  skip : ∀ i, f ≤ i → i < a → B i ≠ 0
  free : ∀ i, a ≤ i → i < e → B i = 0
  top : a = n ∨ B a = 0
  stop : e = n ∨ B e ≠ 0

theorem grow_ne {B : Nat → Int} {f k : Nat} (h : ∀ i, f ≤ i → i < k → B i ≠ 0) (hk : B k ≠ 0) : ∀ i, f ≤ i → i < k + 1 → B i ≠ 0 := fun i h1 h2 => by
  by_cases e : i = k
  · subst e; exact hk
  · exact h i h1 (by omega)
theorem grow_eq {B : Nat → Int} {f k : Nat} (h : ∀ i, f ≤ i → i < k → B i = 0) (hk : B k = 0) : ∀ i, f ≤ i → i < k + 1 → B i = 0 := fun i h1 h2 => by
  by_cases e : i = k
  · subst e; exact hk
  · exact h i h1 (by omega)
theorem top_of {B : Nat → Int} {k n : Nat} (hk : k ≤ n) (h : ¬ (k < n ∧ B k ≠ 0)) : k = n ∨ B k = 0 := by
  by_cases e : B k = 0
  · exact .inr e
  · exact .inl (by have : ¬ k < n := fun hl => h ⟨hl, e⟩; omega)
theorem stop_of {B : Nat → Int} {k n : Nat} (hk : k ≤ n) (h : ¬ (k < n ∧ B k = 0)) : k = n ∨ B k ≠ 0 := by
  by_cases e : B k = 0
  · exact .inl (by have : ¬ k < n := fun hl => h ⟨hl, e⟩; omega)
  · exact .inr e

end Go.Proofs.YtcmnejcojphijaaDoor

namespace Go.Proofs.YtcmnejcojphijaaDoor
open Go.RowKit

/-- k free words from a on -/
def FreeAt (B : Nat → Int) (n k a : Nat) : Prop := a + k ≤ n ∧ ∀ i, a ≤ i → i < a + k → B i = 0
def markTo (B : Nat → Int) (a j : Nat) : Nat → Int := fun i => if a ≤ i ∧ i < j then (a : Int) + 1 else B i
def cellInt (w : World) (b o : Nat) : Int := match w.cell? ⟨b, o, none⟩ with | some (.int _ q) => q | _ => 0
theorem cellInt_of {w : World} {b o : Nat} {q : Int} (h : w.cell? ⟨b, o, none⟩ = some (.int .i64 q)) : cellInt w b o = q := by simp [cellInt, h]

theorem free_first {B : Nat → Int} {n k a z : Nat} (hk : 1 ≤ k) (h : RunFrom B n 0 a z) : ∀ b, FreeAt B n k b → a ≤ b := fun b hb => by
  by_cases e : a ≤ b
  · exact e
  · exact absurd (hb.2 b (Nat.le_refl _) (by omega)) (h.skip b (Nat.zero_le _) (by omega))
theorem free_next {B : Nat → Int} {n k f a z a' z' : Nat} (hk : 1 ≤ k) (h : RunFrom B n f a z) (h' : RunFrom B n z a' z') (hlen : z < a + k) (hf : ∀ b, FreeAt B n k b → a ≤ b) : ∀ b, FreeAt B n k b → a' ≤ b := fun b hb => by
  have h1 := hf b hb
  have hz : z ≤ b := by
    by_cases e : z ≤ b
    · exact e
    · rcases h.stop with hs | hs
      · have := hb.1; omega
      · exact absurd (hb.2 z (by omega) (by omega)) hs
  by_cases e : a' ≤ b
  · exact e
  · exact absurd (hb.2 b (Nat.le_refl _) (by omega)) (h'.skip b hz (by omega))
theorem next_later {B : Nat → Int} {n f a z a' z' : Nat} (h : RunFrom B n f a z) (h' : RunFrom B n z a' z') : z < z' ∨ (z = n ∧ a' = n ∧ z' = n) := by
  have h1 := h'.fa
  have h2 := h'.ae
  have h3 := h'.en
  rcases h.stop with hs | hs
  · exact .inr ⟨hs, by omega, by omega⟩
  · rcases h'.top with ht | ht
    · have := h.en
      by_cases e : z < z'
      · exact .inl e
      · exact .inr ⟨by omega, by omega, by omega⟩
    · refine .inl ?_
      by_cases e : a' = z
      · subst e; exact absurd ht hs
      · omega
theorem no_room {B : Nat → Int} {n k f a z : Nat} (hk : 1 ≤ k) (h : RunFrom B n f a z) (hl : a = z) (hf : ∀ b, FreeAt B n k b → a ≤ b) : ∀ b, ¬ FreeAt B n k b := fun b hb => by
  have h1 := hf b hb
  have h2 := hb.1
  subst hl
  rcases h.stop with hs | hs
  · omega
  · rcases h.top with ht | ht
    · omega
    · exact hs ht
theorem has_room {B : Nat → Int} {n k f a z : Nat} (h : RunFrom B n f a z) (hl : a + k ≤ z) : FreeAt B n k a :=
  ⟨by have := h.en; omega, fun i h1 h2 => h.free i h1 (by omega)⟩

theorem markTo_start (B : Nat → Int) (a : Nat) {n : Nat} : ∀ i, i < n → markTo B a a i = B i := fun i _ => by
  unfold markTo; rw [if_neg (by omega)]
theorem markTo_step (B : Nat → Int) {a j : Nat} (h : a ≤ j) {n : Nat} : ∀ i, i < n → markTo B a (j + 1) i = upd (markTo B a j) j ((a : Int) + 1) i := fun i _ => by
  unfold markTo upd
  by_cases e : i = j
  · subst e; rw [if_pos (by omega), if_pos rfl]
  · rw [if_neg e]
    by_cases e2 : a ≤ i ∧ i < j
    · rw [if_pos (by omega)]; exact (if_pos e2).symm
    · rw [if_neg (by omega)]; exact (if_neg e2).symm

end Go.Proofs.YtcmnejcojphijaaDoor

namespace Go.Proofs.YtcmnejcojphijaaDoor
open Go.RowKit

def clearTo (f : Nat → Int) (k j : Nat) : Nat → Int := fun i => if k ≤ i ∧ i < j then 0 else f i
theorem clearTo_start (f : Nat → Int) (k : Nat) {n : Nat} : ∀ i, i < n → clearTo f k k i = f i := fun i _ => by
  unfold clearTo; rw [if_neg (by omega)]
theorem clearTo_step (f : Nat → Int) {k j : Nat} (h : k ≤ j) {n : Nat} : ∀ i, i < n → clearTo f k (j + 1) i = upd (clearTo f k j) j 0 i := fun i _ => by
  unfold clearTo upd
  by_cases e : i = j
  · subst e; rw [if_pos (by omega), if_pos rfl]
  · rw [if_neg e]
    by_cases e2 : k ≤ i ∧ i < j
    · rw [if_pos (by omega)]; exact (if_pos e2).symm
    · rw [if_neg (by omega)]; exact (if_neg e2).symm
theorem clearTo_at (f : Nat → Int) (k j : Nat) : clearTo f k j j = f j := by unfold clearTo; rw [if_neg (by omega)]

theorem all_step {B : Nat → Int} {k j : Nat} {x : Int} (h : ∀ i, k ≤ i → i < j → B i = x) (hj : B j = x) : ∀ i, k ≤ i → i < j + 1 → B i = x := fun i h1 h2 => by
  by_cases e : i = j
  · subst e; exact hj
  · exact h i h1 (by omega)
theorem stop_at {B : Nat → Int} {j n : Nat} {x : Int} (hj : j ≤ n) (h : ¬ (j < n ∧ B j = x)) : j = n ∨ B j ≠ x := by
  by_cases e : B j = x
  · exact .inl (by have : ¬ j < n := fun hl => h ⟨hl, e⟩; omega)
  · exact .inr e
theorem lt_of_stop {B : Nat → Int} {k j n : Nat} {x : Int} (h1 : k ≤ j) (hk : k < n) (hb : B k = x) (h : j = n ∨ B j ≠ x) : k < j := by
  rcases h with h | h
  · omega
  · by_cases e : k = j
    · subst e; exact absurd hb h
    · omega

end Go.Proofs.YtcmnejcojphijaaDoor

namespace Go.Proofs.YtcmnejcojphijaaDoor
open Go.RowKit

theorem Tryd.infoWord : (Tryd.prog.info? 108).map (fun i => (i.zero, i.size, i.bytes)) = some (some (.agg #[.int .i64 0, .int .i64 0]), 2, 16) := by kernel_rfl

theorem made_two (n j : Nat) (h : j < n) : (madeCells #[Value.int .i64 0, Value.int .i64 0] n)[j]? = some (.int .i64 0) := by
  unfold madeCells
  have h2 : j % 2 = 0 ∨ j % 2 = 1 := by omega
  rcases h2 with h2 | h2 <;> simp [h, h2]

/-- the words' cells, new -/
theorem words_made (n : Nat) (hn : n ≤ 4096) : ∃ C : Array Value, (∀ j, j < n * 2 → C[j]? = some (.int .i64 0)) ∧
    ∀ u : World, (Instr.makeSlice 64 (.int .i64 (n : Int)) (.int .i64 (n : Int))).run Tryd.prog u = .ok (.slice (some ⟨u.heap.size, 0, none⟩) n n) (u.alloc (.cells C 108)) := by
  obtain ⟨i0, hi, hz0, hz1, hz2⟩ := info_parts Tryd.infoWord
  refine ⟨madeCells #[Value.int .i64 0, Value.int .i64 0] (n * 2), fun j hj => made_two _ _ hj, fun u => ?_⟩
  have h := run_make (P := Tryd.prog) u 64 108 i0 (.agg #[.int .i64 0, .int .i64 0]) Tryd.underlying64 hi hz0 .i64 .i64 (n : Int) (n : Int) (by omega) (Int.le_refl _) (by rw [hz2]; omega) (by omega)
  simpa [hz1, Value.cells] using h

set_option maxHeartbeats 400000 in
theorem hnew_yes (w : World) (n : Nat) (h1 : 1 ≤ n) (h2 : n ≤ 4096) :
    Calls Tryd.prog 36 #[.int .i64 (n : Int)] w fun e w' => ∃ r, e = .returned (.tuple #[.agg #[.slice (some ⟨r, 0, none⟩) n n], .int .i64 0]) ∧ Fr NoB w w' ∧
      w.heap.size ≤ r ∧ r < w'.heap.size ∧ (∀ j, j < n * 2 → w'.cell? ⟨r, j, none⟩ = some (.int .i64 0)) ∧ (∀ o, w'.frozen? ⟨r, o, none⟩ = false) := by
  obtain ⟨C, hC, hmk⟩ := words_made n h2
  have HC : Hid (∀ j, j < n * 2 → C[j]? = some (.int .i64 0)) := hC
  clear hC
  go_enter Tryd.func36, Tryd.ntmps36
  go_wp2
  refine bodyPost_ret (v := .tuple #[.agg #[.slice (some ⟨w.heap.size + 1, 0, none⟩) n n], .int .i64 0]) (by simp [results, Tryd.results36, go_sem]) rfl ⟨w.heap.size + 1, rfl, ?_, by omega, by simp, ?_, ?_⟩
  · repeat (first | exact Fr.refl _ _ | refine Fr.setCell ?_ (fun h => absurd h (Nat.lt_irrefl _)) _ | refine Fr.alloc ?_ _)
  · intro j hj
    rw [World.cell?_alloc_at _ _ _ _ (by simp)]
    exact HC.out j hj
  · intro o
    rw [World.frozen?_alloc_at _ _ _ _ (by simp)]

/- The wrappers of package steward. -/
end Go.Proofs.YtcmnejcojphijaaDoor

namespace Go.Proofs.YtcmnejcojphijaaDoor
open Go.RowKit

structure RefAt (w : World) (q ri rh n : Nat) (I H : Nat → Int) (md : Int) : Prop where
  lo : 1 ≤ n
  hi : n ≤ 4096
  qi : q ≠ ri
  qh : q ≠ rh
  ih : ri ≠ rh
  c0 : w.cell? ⟨q, 0, none⟩ = some (.slice (some ⟨ri, 0, none⟩) n n)
  c1 : w.cell? ⟨q, 1, none⟩ = some (.slice (some ⟨rh, 0, none⟩) n n)
  c2 : w.cell? ⟨q, 2, none⟩ = some (.int .i64 md)
  ci : ∀ i, i < n → w.cell? ⟨ri, i, none⟩ = some (.int .i64 (I i))
  ch : ∀ i, i < n → w.cell? ⟨rh, i, none⟩ = some (.int .i64 (H i))
  fq : ∀ o, w.frozen? ⟨q, o, none⟩ = false
  fi : ∀ o, w.frozen? ⟨ri, o, none⟩ = false
  fh : ∀ o, w.frozen? ⟨rh, o, none⟩ = false

def RefS (q ri rh : Nat) : Nat → Prop := fun k => k = q ∨ k = ri ∨ k = rh

theorem RefAt.ql {w : World} {q ri rh n : Nat} {I H : Nat → Int} {md : Int} (h : RefAt w q ri rh n I H md) : q < w.heap.size := World.block_lt_of_cell? w _ h.c0
theorem RefAt.il {w : World} {q ri rh n : Nat} {I H : Nat → Int} {md : Int} (h : RefAt w q ri rh n I H md) : ri < w.heap.size := World.block_lt_of_cell? w _ (h.ci 0 (by have := h.lo; omega))
theorem RefAt.hl {w : World} {q ri rh n : Nat} {I H : Nat → Int} {md : Int} (h : RefAt w q ri rh n I H md) : rh < w.heap.size := World.block_lt_of_cell? w _ (h.ch 0 (by have := h.lo; omega))
theorem RefAt.fr {S : Nat → Prop} {w w' : World} {q ri rh n : Nat} {I H : Nat → Int} {md : Int} (h : RefAt w q ri rh n I H md) (hf : Fr S w w') (h1 : ¬ S q) (h2 : ¬ S ri) (h3 : ¬ S rh) : RefAt w' q ri rh n I H md :=
  ⟨h.lo, h.hi, h.qi, h.qh, h.ih, hf.cell_some h.c0 h1, hf.cell_some h.c1 h1, hf.cell_some h.c2 h1, fun i hi => hf.cell_some (h.ci i hi) h2, fun i hi => hf.cell_some (h.ch i hi) h3,
    fun o => (hf.frozen (p := ⟨q, o, none⟩) h.ql h1).trans (h.fq o), fun o => (hf.frozen (p := ⟨ri, o, none⟩) h.il h2).trans (h.fi o), fun o => (hf.frozen (p := ⟨rh, o, none⟩) h.hl h3).trans (h.fh o)⟩
theorem RefAt.no {w w' : World} {q ri rh n : Nat} {I H : Nat → Int} {md : Int} (h : RefAt w q ri rh n I H md) (hf : Fr NoB w w') : RefAt w' q ri rh n I H md := h.fr hf id id id
theorem RefAt.congr {w : World} {q ri rh n : Nat} {I H I' H' : Nat → Int} {md : Int} (h : RefAt w q ri rh n I H md) (hi : ∀ i, i < n → I' i = I i) (hh : ∀ i, i < n → H' i = H i) : RefAt w q ri rh n I' H' md :=
  ⟨h.lo, h.hi, h.qi, h.qh, h.ih, h.c0, h.c1, h.c2, fun i hl => by rw [hi i hl]; exact h.ci i hl, fun i hl => by rw [hh i hl]; exact h.ch i hl, h.fq, h.fi, h.fh⟩
def setTo (f : Nat → Int) (a j : Nat) (v : Int) : Nat → Int := fun i => if a ≤ i ∧ i < j then v else f i
end Go.Proofs.YtcmnejcojphijaaDoor

namespace Go.Proofs.YtcmnejcojphijaaDoor
open Go.RowKit

def clearEq (I : Nat → Int) (x : Int) (j : Nat) : Nat → Int := fun i => if i < j ∧ I i = x then 0 else I i
end Go.Proofs.YtcmnejcojphijaaDoor

namespace Go.Proofs.YtcmnejcojphijaaDoor
open Go.RowKit

structure Rel (n : Nat) (B V I H : Nat → Int) (md : Int) : Prop where
  zz : ∀ i, i < n → (B i = 0 ↔ I i = 0)
  eqv : ∀ i j, i < n → j < n → I i ≠ 0 → (I i = I j ↔ B i = B j)
  vh : ∀ i, i < n → B i ≠ 0 → V i = H i
  zv : ∀ i, i < n → B i = 0 → V i = 0
  st : ∀ i, i < n → B i ≠ 0 → ∃ s : Nat, B i = (s : Int) + 1 ∧ s ≤ i ∧ ∀ j, s ≤ j → j ≤ i → B j = B i
  mx : ∀ i, i < n → I i ≤ md
  md0 : 0 ≤ md

theorem Rel.start (n : Nat) : Rel n (fun _ => 0) (fun _ => 0) (fun _ => 0) (fun _ => 0) 0 :=
  ⟨fun _ _ => Iff.rfl, fun _ _ _ _ h => absurd rfl h, fun _ _ h => absurd rfl h, fun _ _ _ => rfl, fun _ _ h => absurd rfl h, fun _ _ => Int.le_refl _, Int.le_refl _⟩

theorem Rel.alloc {n : Nat} {B V I H : Nat → Int} {md : Int} (h : Rel n B V I H md) {k a : Nat} (hk : 1 ≤ k) (hf : FreeAt B n k a) : Rel n (markTo B a (a + k)) V (setTo I a (a + k) (md + 1)) (setTo H a (a + k) 0) (md + 1) := by
  have hm0 := h.md0
  have hin : ∀ i, (a ≤ i ∧ i < a + k) → markTo B a (a + k) i = (a : Int) + 1 := fun i e => by unfold markTo; rw [if_pos e]
  have hout : ∀ i, ¬ (a ≤ i ∧ i < a + k) → markTo B a (a + k) i = B i := fun i e => by unfold markTo; rw [if_neg e]
  have sin : ∀ (f : Nat → Int) (v : Int) i, (a ≤ i ∧ i < a + k) → setTo f a (a + k) v i = v := fun f v i e => by unfold setTo; rw [if_pos e]
  have sout : ∀ (f : Nat → Int) (v : Int) i, ¬ (a ≤ i ∧ i < a + k) → setTo f a (a + k) v i = f i := fun f v i e => by unfold setTo; rw [if_neg e]
  have hnew : ∀ j, j < n → ¬ (a ≤ j ∧ j < a + k) → B j ≠ (a : Int) + 1 := fun j hj e hb => by
    obtain ⟨s, h1, h2, h3⟩ := h.st j hj (by omega)
    have hs : s = a := by omega
    subst hs
    have := h3 s (Nat.le_refl _) h2
    have := hf.2 s (Nat.le_refl _) (by omega)
    omega
  refine ⟨fun i hi => ?_, fun i j hi hj hne => ?_, fun i hi hne => ?_, fun i hi hz => ?_, fun i hi hne => ?_, fun i hi => ?_, by omega⟩
  · by_cases e : a ≤ i ∧ i < a + k
    · rw [hin i e, sin I _ i e]; constructor <;> intro h <;> omega
    · rw [hout i e, sout I _ i e]; exact h.zz i hi
  · by_cases e : a ≤ i ∧ i < a + k <;> by_cases e2 : a ≤ j ∧ j < a + k
    · rw [hin i e, hin j e2, sin I _ i e, sin I _ j e2]; constructor <;> intro _ <;> rfl
    · rw [hin i e, hout j e2, sin I _ i e, sout I _ j e2]
      have h1 := h.mx j hj
      have h2 := hnew j hj e2
      constructor
      · intro g; omega
      · intro g; exact absurd g.symm h2
    · rw [hout i e, hin j e2, sout I _ i e, sin I _ j e2]
      have h1 := h.mx i hi
      have h2 := hnew i hi e
      constructor
      · intro g; omega
      · intro g; exact absurd g h2
    · rw [hout i e, hout j e2, sout I _ i e, sout I _ j e2]
      rw [sout I _ i e] at hne
      exact h.eqv i j hi hj hne
  · by_cases e : a ≤ i ∧ i < a + k
    · rw [sin H _ i e]; exact h.zv i hi (hf.2 i e.1 e.2)
    · rw [sout H _ i e]; rw [hout i e] at hne; exact h.vh i hi hne
  · by_cases e : a ≤ i ∧ i < a + k
    · rw [hin i e] at hz; omega
    · rw [hout i e] at hz; exact h.zv i hi hz
  · by_cases e : a ≤ i ∧ i < a + k
    · refine ⟨a, hin i e, e.1, fun j h1 h2 => ?_⟩
      rw [hin i e, hin j ⟨h1, by omega⟩]
    · rw [hout i e] at hne
      obtain ⟨s, h1, h2, h3⟩ := h.st i hi hne
      refine ⟨s, by rw [hout i e]; exact h1, h2, fun j g1 g2 => ?_⟩
      have e2 : ¬ (a ≤ j ∧ j < a + k) := fun e2 => by
        have := hf.2 j e2.1 e2.2
        rw [h3 j g1 g2] at this
        exact hne this
      rw [hout i e, hout j e2]
      exact h3 j g1 g2
  · by_cases e : a ≤ i ∧ i < a + k
    · rw [sin I _ i e]; omega
    · rw [sout I _ i e]; have := h.mx i hi; omega

theorem Rel.free {n : Nat} {B V I H : Nat → Int} {md : Int} (h : Rel n B V I H md) {k z : Nat} (hk : k < n) (hb : B k = (k : Int) + 1) (hz1 : k < z)
    (hall : ∀ i, k ≤ i → i < z → B i = (k : Int) + 1) (hstop : z = n ∨ B z ≠ (k : Int) + 1) : Rel n (clearTo B k z) (clearTo V k z) (clearEq I (I k) n) H md := by
  have hik : I k ≠ 0 := fun hz => by have := (h.zz k hk).2 hz; omega
  have key : ∀ i, i < n → ((k ≤ i ∧ i < z) ↔ B i = (k : Int) + 1) := fun i hi => by
    constructor
    · intro e; exact hall i e.1 e.2
    · intro e
      obtain ⟨s, g1, g2, g3⟩ := h.st i hi (by omega)
      have hs : s = k := by omega
      subst hs
      refine ⟨g2, ?_⟩
      by_cases hiz : i < z
      · exact hiz
      · exfalso
        rcases hstop with h1 | h1
        · omega
        · have := g3 z (by omega) (by omega); rw [e] at this; exact h1 this
  have key2 : ∀ i, i < n → (I i = I k ↔ B i = (k : Int) + 1) := fun i hi => by
    have := h.eqv k i hk hi hik
    rw [hb] at this
    constructor
    · intro e; exact (this.1 e.symm).symm
    · intro e; exact (this.2 e.symm).symm
  have bin : ∀ i, i < n → B i = (k : Int) + 1 → (∀ f : Nat → Int, clearTo f k z i = 0) ∧ clearEq I (I k) n i = 0 := fun i hi e => by
    refine ⟨fun f => ?_, ?_⟩
    · unfold clearTo; rw [if_pos ((key i hi).2 e)]
    · unfold clearEq; rw [if_pos ⟨hi, (key2 i hi).2 e⟩]
  have bout : ∀ i, i < n → B i ≠ (k : Int) + 1 → (∀ f : Nat → Int, clearTo f k z i = f i) ∧ clearEq I (I k) n i = I i := fun i hi e => by
    refine ⟨fun f => ?_, ?_⟩
    · unfold clearTo; rw [if_neg (fun g => e ((key i hi).1 g))]
    · unfold clearEq; rw [if_neg (fun g => e ((key2 i hi).1 g.2))]
  refine ⟨fun i hi => ?_, fun i j hi hj hne => ?_, fun i hi hne => ?_, fun i hi hz => ?_, fun i hi hne => ?_, fun i hi => ?_, h.md0⟩
  · by_cases e : B i = (k : Int) + 1
    · rw [(bin i hi e).1 B, (bin i hi e).2]
    · rw [(bout i hi e).1 B, (bout i hi e).2]; exact h.zz i hi
  · by_cases e : B i = (k : Int) + 1
    · rw [(bin i hi e).2] at hne; exact absurd rfl hne
    · rw [(bout i hi e).2] at hne
      rw [(bout i hi e).1 B, (bout i hi e).2]
      by_cases e2 : B j = (k : Int) + 1
      · rw [(bin j hj e2).1 B, (bin j hj e2).2]
        exact (h.zz i hi).symm
      · rw [(bout j hj e2).1 B, (bout j hj e2).2]
        exact h.eqv i j hi hj hne
  · by_cases e : B i = (k : Int) + 1
    · rw [(bin i hi e).1 B] at hne; exact absurd rfl hne
    · rw [(bout i hi e).1 B] at hne; rw [(bout i hi e).1 V]; exact h.vh i hi hne
  · by_cases e : B i = (k : Int) + 1
    · exact (bin i hi e).1 V
    · rw [(bout i hi e).1 B] at hz; rw [(bout i hi e).1 V]; exact h.zv i hi hz
  · by_cases e : B i = (k : Int) + 1
    · rw [(bin i hi e).1 B] at hne; exact absurd rfl hne
    · rw [(bout i hi e).1 B] at hne
      obtain ⟨s, g1, g2, g3⟩ := h.st i hi hne
      refine ⟨s, by rw [(bout i hi e).1 B]; exact g1, g2, fun j q1 q2 => ?_⟩
      have hj := g3 j q1 q2
      rw [(bout i hi e).1 B, (bout j (by omega) (by rw [hj]; exact e)).1 B]
      exact hj
  · by_cases e : B i = (k : Int) + 1
    · rw [(bin i hi e).2]; exact h.md0
    · rw [(bout i hi e).2]; exact h.mx i hi

theorem Rel.store {n : Nat} {B V I H : Nat → Int} {md : Int} (h : Rel n B V I H md) {k : Nat} (hb : B k ≠ 0) (u : Int) : Rel n B (upd V k u) I (upd H k u) md :=
  ⟨h.zz, h.eqv, fun i hi hne => by
    by_cases e : i = k
    · subst e; rw [upd_at, upd_at]
    · rw [upd_ne _ _ e, upd_ne _ _ e]; exact h.vh i hi hne, fun i hi hz => by
    rw [upd_ne _ _ (fun e => by subst e; exact hb hz)]; exact h.zv i hi hz, h.st, h.mx, h.md0⟩

end Go.Proofs.YtcmnejcojphijaaDoor
