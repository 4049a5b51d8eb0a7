/-
  RunA, RunB, RunC, RunD, RunE, RunF, RunG: one behind the other.
-/
import Derived.Test.YtcmnejcojphijaaDoorP04RunP
namespace Go.Proofs.YtcmnejcojphijaaDoor
open Go.RowKit
set_option linter.unusedVariables false

/-- a run: numbers, boxes' words (of Play), heap, boxes' places and lengths (of Exec), steps left, how it ends, what was printed -/
structure Rn where
  num : Nat → Int
  wv : Nat → Value
  hv : Value
  at_ : Nat → Int
  len : Nat → Int
  left : Int
  status : Int
  tr : ByteArray
  used : Int
  peak : Int
/-- a run in memory -/
structure RunAt (w : World) (rp : Nat) (s : ByteArray) (x : Rn) : Prop where
  cs : w.cell? ⟨rp, 0, none⟩ = some (.string s)
  cn : ∀ k, k < 26 → w.cell? ⟨rp, 1 + k, none⟩ = some (.int .i64 (x.num k))
  cw : ∀ k, k < 26 → w.cell? ⟨rp, 27 + k, none⟩ = some (x.wv k)
  ch : w.cell? ⟨rp, 53, none⟩ = some x.hv
  ca : ∀ k, k < 26 → w.cell? ⟨rp, 54 + k, none⟩ = some (.int .i64 (x.at_ k))
  cl : ∀ k, k < 26 → w.cell? ⟨rp, 80 + k, none⟩ = some (.int .i64 (x.len k))
  cf : w.cell? ⟨rp, 106, none⟩ = some (.int .i64 x.left)
  co : w.cell? ⟨rp, 107, none⟩ = some (.int .i64 x.status)
  ct : w.cell? ⟨rp, 108, none⟩ = some (.string x.tr)
  cu : w.cell? ⟨rp, 109, none⟩ = some (.int .i64 x.used)
  cp : w.cell? ⟨rp, 110, none⟩ = some (.int .i64 x.peak)
  fz : ∀ o, w.frozen? ⟨rp, o, none⟩ = false
theorem RunAt.lt {w : World} {rp : Nat} {s : ByteArray} {x : Rn} (h : RunAt w rp s x) : rp < w.heap.size := World.block_lt_of_cell? w _ h.cs
theorem RunAt.fr {S : Nat → Prop} {w w' : World} {rp : Nat} {s : ByteArray} {x : Rn} (h : RunAt w rp s x) (hF : Fr S w w') (hS : ¬ S rp) : RunAt w' rp s x :=
  ⟨hF.cell_some h.cs hS, fun k hk => hF.cell_some (h.cn k hk) hS, fun k hk => hF.cell_some (h.cw k hk) hS, hF.cell_some h.ch hS, fun k hk => hF.cell_some (h.ca k hk) hS, fun k hk => hF.cell_some (h.cl k hk) hS,
    hF.cell_some h.cf hS, hF.cell_some h.co hS, hF.cell_some h.ct hS, hF.cell_some h.cu hS, hF.cell_some h.cp hS, fun o => (hF.frozen (p := ⟨rp, o, none⟩) h.lt hS).trans (h.fz o)⟩
theorem RunAt.no {w w' : World} {rp : Nat} {s : ByteArray} {x : Rn} (h : RunAt w rp s x) (hF : Fr NoB w w') : RunAt w' rp s x := h.fr hF id
/-- one cell turned, that is none of those read by c -/
theorem cell_at {w : World} {b o q : Nat} {u v : Value} (h : w.cell? ⟨b, q, none⟩ = some v) (hne : o ≠ q) : (w.setCell ⟨b, o, none⟩ u).cell? ⟨b, q, none⟩ = some v := (cell_other (.inr hne)).trans h
theorem RunAt.setLeft {w : World} {rp : Nat} {s : ByteArray} {x : Rn} (h : RunAt w rp s x) (v : Int) : RunAt (w.setCell ⟨rp, 106, none⟩ (.int .i64 v)) rp s { x with left := v } :=
  ⟨cell_at h.cs (by omega), fun k hk => cell_at (h.cn k hk) (by omega), fun k hk => cell_at (h.cw k hk) (by omega), cell_at h.ch (by omega), fun k hk => cell_at (h.ca k hk) (by omega), fun k hk => cell_at (h.cl k hk) (by omega),
    cell_same h.cf, cell_at h.co (by omega), cell_at h.ct (by omega), cell_at h.cu (by omega), cell_at h.cp (by omega), fun o => by rw [World.frozen?_setCell]; exact h.fz o⟩
theorem RunAt.setStatus {w : World} {rp : Nat} {s : ByteArray} {x : Rn} (h : RunAt w rp s x) (v : Int) : RunAt (w.setCell ⟨rp, 107, none⟩ (.int .i64 v)) rp s { x with status := v } :=
  ⟨cell_at h.cs (by omega), fun k hk => cell_at (h.cn k hk) (by omega), fun k hk => cell_at (h.cw k hk) (by omega), cell_at h.ch (by omega), fun k hk => cell_at (h.ca k hk) (by omega), fun k hk => cell_at (h.cl k hk) (by omega),
    cell_at h.cf (by omega), cell_same h.co, cell_at h.ct (by omega), cell_at h.cu (by omega), cell_at h.cp (by omega), fun o => by rw [World.frozen?_setCell]; exact h.fz o⟩
def updI (f : Nat → Int) (k : Nat) (v : Int) : Nat → Int := fun i => if i = k then v else f i
def updV (f : Nat → Value) (k : Nat) (v : Value) : Nat → Value := fun i => if i = k then v else f i
theorem RunAt.setNum {w : World} {rp : Nat} {s : ByteArray} {x : Rn} (h : RunAt w rp s x) {k : Nat} (hk : k < 26) (v : Int) : RunAt (w.setCell ⟨rp, 1 + k, none⟩ (.int .i64 v)) rp s { x with num := updI x.num k v } :=
  ⟨cell_at h.cs (by omega), fun j hj => by
      by_cases e : j = k
      · subst e; show _ = some (Value.int .i64 (updI x.num j v j)); rw [show updI x.num j v j = v by simp [updI]]; exact cell_same (h.cn j hj)
      · show _ = some (Value.int .i64 (updI x.num k v j)); rw [show updI x.num k v j = x.num j by simp [updI, e]]; exact cell_at (h.cn j hj) (by omega),
    fun j hj => cell_at (h.cw j hj) (by omega), cell_at h.ch (by omega), fun j hj => cell_at (h.ca j hj) (by omega), fun j hj => cell_at (h.cl j hj) (by omega),
    cell_at h.cf (by omega), cell_at h.co (by omega), cell_at h.ct (by omega), cell_at h.cu (by omega), cell_at h.cp (by omega), fun o => by rw [World.frozen?_setCell]; exact h.fz o⟩

section
variable (w : World) (rp : Nat) (s : ByteArray) (x : Rn)
end

section
variable (w : World) (rp : Nat) (s : ByteArray) (x : Rn)
end
end Go.Proofs.YtcmnejcojphijaaDoor

namespace Go.Proofs.YtcmnejcojphijaaDoor
open Go.RowKit
set_option linter.unusedVariables false

/-- the digits of a number, f + 1 at most -/
def decF : Nat → Nat → List Nat
  | 0, n => [48 + n % 10]
  | f + 1, n => if n < 10 then [48 + n % 10] else decF f (n / 10) ++ [48 + n % 10]
theorem decF_len : ∀ (f n : Nat), (decF f n).length ≤ f + 1
  | 0, n => by simp [decF]
  | f + 1, n => by
    have := decF_len f (n / 10)
    unfold decF
    split
    · simp
    · simp; omega
end Go.Proofs.YtcmnejcojphijaaDoor

namespace Go.Proofs.YtcmnejcojphijaaDoor
open Go.RowKit
set_option linter.unusedVariables false

/-- a Play in memory: bx: each box's words, none if it is empty; blk: where they lie -/
structure PlayAt (w : World) (rp base : Nat) (s : ByteArray) (x : Rn) (bx : Nat → List Int) (blk : Nat → Nat) : Prop where
  r : RunAt w rp s x
  hn : x.hv = .pointer none
  rb : rp < base
  e : ∀ k, k < 26 → bx k = [] → x.wv k = .slice none 0 0
  f : ∀ k, k < 26 → bx k ≠ [] → x.wv k = .slice (some ⟨blk k, 0, none⟩) (bx k).length (bx k).length
  c : ∀ k, k < 26 → ∀ i v, (bx k)[i]? = some v → w.cell? ⟨blk k, i, none⟩ = some (.int .i64 v)
  z : ∀ k, k < 26 → bx k ≠ [] → ∀ o, w.frozen? ⟨blk k, o, none⟩ = false
  d : ∀ k l, k < 26 → l < 26 → k ≠ l → bx k ≠ [] → bx l ≠ [] → blk k ≠ blk l
  b : ∀ k, k < 26 → bx k ≠ [] → base ≤ blk k ∧ blk k < w.heap.size
  n : ∀ k, k < 26 → (bx k).length ≤ 64
section
variable {w w' : World} {rp base : Nat} {s : ByteArray} {x x' : Rn} {bx : Nat → List Int} {blk : Nat → Nat}
theorem ne_nil_of_get {l : List Int} {i : Nat} {v : Int} (h : l[i]? = some v) : l ≠ [] := fun e => by rw [e] at h; simp at h
theorem PlayAt.no (h : PlayAt w rp base s x bx blk) (hF : Fr NoB w w') : PlayAt w' rp base s x bx blk :=
  ⟨h.r.no hF, h.hn, h.rb, h.e, h.f, fun k hk i v hv => hF.cell_some (h.c k hk i v hv) id, fun k hk hb o => (hF.frozen (p := ⟨blk k, o, none⟩) (h.b k hk hb).2 id).trans (h.z k hk hb o), h.d, fun k hk hb => ⟨(h.b k hk hb).1, Nat.lt_of_lt_of_le (h.b k hk hb).2 hF.size⟩, h.n⟩
/-- what turns in the run's own block alone, boxes' words apart -/
theorem PlayAt.own (h : PlayAt w rp base s x bx blk) (hF : Fr (OneB rp) w w') (hR : RunAt w' rp s x') (h1 : x'.hv = x.hv) (h2 : x'.wv = x.wv) : PlayAt w' rp base s x' bx blk := by
  have hne : ∀ k, k < 26 → bx k ≠ [] → ¬ OneB rp (blk k) := fun k hk hb e => by
    have := (h.b k hk hb).1
    have := h.rb
    unfold OneB at e
    omega
  refine ⟨hR, by rw [h1]; exact h.hn, h.rb, fun k hk hb => by rw [h2]; exact h.e k hk hb, fun k hk hb => by rw [h2]; exact h.f k hk hb, fun k hk i v hv => hF.cell_some (h.c k hk i v hv) (hne k hk (ne_nil_of_get hv)), fun k hk hb o => (hF.frozen (p := ⟨blk k, o, none⟩) (h.b k hk hb).2 (hne k hk hb)).trans (h.z k hk hb o), h.d, fun k hk hb => ⟨(h.b k hk hb).1, Nat.lt_of_lt_of_le (h.b k hk hb).2 hF.size⟩, h.n⟩
end

section
variable (w : World) (rp base : Nat) (s : ByteArray) (x : Rn) (bx : Nat → List Int) (blk : Nat → Nat)
end
end Go.Proofs.YtcmnejcojphijaaDoor

namespace Go.Proofs.YtcmnejcojphijaaDoor
open Go.RowKit
set_option linter.unusedVariables false

def updL (f : Nat → List Int) (k : Nat) (v : List Int) : Nat → List Int := fun i => if i = k then v else f i
theorem updL_at (f : Nat → List Int) (k : Nat) (v : List Int) : updL f k v k = v := by simp [updL]
theorem updL_ne (f : Nat → List Int) {k i : Nat} (v : List Int) (h : i ≠ k) : updL f k v i = f i := by simp [updL, h]
theorem updV_at (f : Nat → Value) (k : Nat) (v : Value) : updV f k v k = v := by simp [updV]
theorem updV_ne (f : Nat → Value) {k i : Nat} (v : Value) (h : i ≠ k) : updV f k v i = f i := by simp [updV, h]
theorem RunAt.setWv {w : World} {rp : Nat} {s : ByteArray} {x : Rn} (h : RunAt w rp s x) {k : Nat} (hk : k < 26) (v : Value) : RunAt (w.setCell ⟨rp, 27 + k, none⟩ v) rp s { x with wv := updV x.wv k v } :=
  ⟨cell_at h.cs (by omega), fun j hj => cell_at (h.cn j hj) (by omega), fun j hj => by
      by_cases e : j = k
      · subst e; show _ = some (updV x.wv j v j); rw [updV_at]; exact cell_same (h.cw j hj)
      · show _ = some (updV x.wv k v j); rw [updV_ne _ _ e]; exact cell_at (h.cw j hj) (by omega),
    cell_at h.ch (by omega), fun j hj => cell_at (h.ca j hj) (by omega), fun j hj => cell_at (h.cl j hj) (by omega),
    cell_at h.cf (by omega), cell_at h.co (by omega), cell_at h.ct (by omega), cell_at h.cu (by omega), cell_at h.cp (by omega), fun o => by rw [World.frozen?_setCell]; exact h.fz o⟩
section
variable {w : World} {rp base : Nat} {s : ByteArray} {x : Rn} {bx : Nat → List Int} {blk : Nat → Nat}
/-- a box is emptied -/
theorem PlayAt.empty (h : PlayAt w rp base s x bx blk) {k : Nat} (hk : k < 26) : PlayAt (w.setCell ⟨rp, 27 + k, none⟩ (.slice none 0 0)) rp base s { x with wv := updV x.wv k (.slice none 0 0) } (updL bx k []) blk := by
  have hF := (Fr.refl (OneB rp) w).setCell (p := ⟨rp, 27 + k, none⟩) (fun _ => rfl) (.slice none 0 0)
  have hne : ∀ j, j < 26 → bx j ≠ [] → ¬ OneB rp (blk j) := fun j hj hb e => by
    have := (h.b j hj hb).1
    have := h.rb
    unfold OneB at e
    omega
  have hup : ∀ j, updL bx k [] j ≠ [] → j ≠ k ∧ bx j ≠ [] := fun j hj => by
    by_cases e : j = k
    · subst e; rw [updL_at] at hj; exact absurd rfl hj
    · rw [updL_ne _ _ e] at hj; exact ⟨e, hj⟩
  refine ⟨h.r.setWv hk _, h.hn, h.rb, fun j hj hb => ?_, fun j hj hb => ?_, fun j hj i v hv => ?_, fun j hj hb o => ?_, fun i j hi hj hij hb1 hb2 => h.d i j hi hj hij (hup i hb1).2 (hup j hb2).2, fun j hj hb => ?_, fun j hj => ?_⟩
  · show updV x.wv k (.slice none 0 0) j = _
    by_cases e : j = k
    · subst e; rw [updV_at]
    · rw [updV_ne _ _ e]; rw [updL_ne _ _ e] at hb; exact h.e j hj hb
  · obtain ⟨e, hb2⟩ := hup j hb
    show updV x.wv k (.slice none 0 0) j = _
    rw [updV_ne _ _ e, updL_ne _ _ e]
    exact h.f j hj hb2
  · obtain ⟨e, hb2⟩ := hup j (ne_nil_of_get hv)
    rw [updL_ne _ _ e] at hv
    exact hF.cell_some (h.c j hj i v hv) (hne j hj hb2)
  · obtain ⟨e, hb2⟩ := hup j hb
    exact (hF.frozen (p := ⟨blk j, o, none⟩) (h.b j hj hb2).2 (hne j hj hb2)).trans (h.z j hj hb2 o)
  · obtain ⟨e, hb2⟩ := hup j hb
    rw [setCell_size]
    exact h.b j hj hb2
  · by_cases e : j = k
    · subst e; rw [updL_at]; simp
    · rw [updL_ne _ _ e]; exact h.n j hj
end

section
variable (w : World) (rp base : Nat) (s : ByteArray) (x : Rn) (bx : Nat → List Int) (blk : Nat → Nat)
end
end Go.Proofs.YtcmnejcojphijaaDoor

namespace Go.Proofs.YtcmnejcojphijaaDoor
open Go.RowKit
set_option linter.unusedVariables false

def updN (f : Nat → Nat) (k v : Nat) : Nat → Nat := fun i => if i = k then v else f i
theorem updN_at (f : Nat → Nat) (k v : Nat) : updN f k v k = v := by simp [updN]
theorem updN_ne (f : Nat → Nat) {k i : Nat} (v : Nat) (h : i ≠ k) : updN f k v i = f i := by simp [updN, h]
/-- a box gets words that lie in a block of none; only the run's own block turned -/
theorem PlayAt.fill {w w' : World} {rp base g : Nat} {s : ByteArray} {x : Rn} {bx : Nat → List Int} {blk : Nat → Nat} {l : List Int} {n : Nat} (h : PlayAt w rp base s x bx blk) {k : Nat} (hk : k < 26) (hn : l.length = n) (hl : l ≠ []) (hl2 : l.length ≤ 64)
    (hF : Fr (OneB rp) w w') (hR : RunAt w' rp s { x with wv := updV x.wv k (.slice (some ⟨g, 0, none⟩) n n) })
    (hg : base ≤ g ∧ g < w'.heap.size) (hgn : ∀ j, j < 26 → bx j ≠ [] → blk j ≠ g) (hc : ∀ i v, l[i]? = some v → w'.cell? ⟨g, i, none⟩ = some (.int .i64 v)) (hz : ∀ o, w'.frozen? ⟨g, o, none⟩ = false) :
    PlayAt w' rp base s { x with wv := updV x.wv k (.slice (some ⟨g, 0, none⟩) n n) } (updL bx k l) (updN blk k g) := by
  subst hn
  have hrb := h.rb
  have hne : ∀ j, j < 26 → bx j ≠ [] → ¬ OneB rp (blk j) := fun j hj hb e => by
    have := (h.b j hj hb).1
    unfold OneB at e
    omega
  refine ⟨hR, h.hn, h.rb, fun j hj hb => ?_, fun j hj hb => ?_, fun j hj i v hv => ?_, fun j hj hb o => ?_, fun i j hi hj hij hb1 hb2 => ?_, fun j hj hb => ?_, fun j hj => ?_⟩
  · show updV x.wv k _ j = _
    by_cases e : j = k
    · subst e; rw [updL_at] at hb; exact absurd hb hl
    · rw [updV_ne _ _ e]; rw [updL_ne _ _ e] at hb; exact h.e j hj hb
  · show updV x.wv k _ j = _
    by_cases e : j = k
    · subst e; rw [updV_at, updL_at, updN_at]
    · rw [updV_ne _ _ e, updL_ne _ _ e, updN_ne _ _ e]; rw [updL_ne _ _ e] at hb; exact h.f j hj hb
  · by_cases e : j = k
    · subst e; rw [updL_at] at hv; rw [updN_at]; exact hc i v hv
    · rw [updL_ne _ _ e] at hv; rw [updN_ne _ _ e]; exact hF.cell_some (h.c j hj i v hv) (hne j hj (ne_nil_of_get hv))
  · by_cases e : j = k
    · subst e; rw [updN_at]; exact hz o
    · rw [updL_ne _ _ e] at hb; rw [updN_ne _ _ e]; exact (hF.frozen (p := ⟨blk j, o, none⟩) (h.b j hj hb).2 (hne j hj hb)).trans (h.z j hj hb o)
  · by_cases e1 : i = k
    · have e2 : j ≠ k := fun q => hij (by omega)
      rw [updL_ne _ _ e2] at hb2
      subst e1
      rw [updN_at, updN_ne _ _ e2]
      exact (hgn j hj hb2).symm
    · rw [updL_ne _ _ e1] at hb1
      rw [updN_ne _ _ e1]
      by_cases e2 : j = k
      · subst e2
        rw [updN_at]
        exact hgn i hi hb1
      · rw [updL_ne _ _ e2] at hb2
        rw [updN_ne _ _ e2]
        exact h.d i j hi hj hij hb1 hb2
  · by_cases e : j = k
    · subst e; rw [updN_at]; exact hg
    · rw [updL_ne _ _ e] at hb; rw [updN_ne _ _ e]; exact ⟨(h.b j hj hb).1, Nat.lt_of_lt_of_le (h.b j hj hb).2 hF.size⟩
  · by_cases e : j = k
    · subst e; rw [updL_at]; exact hl2
    · rw [updL_ne _ _ e]; exact h.n j hj

section
variable (w : World) (rp base : Nat) (s : ByteArray) (x : Rn) (bx : Nat → List Int) (blk : Nat → Nat)
end
end Go.Proofs.YtcmnejcojphijaaDoor

namespace Go.Proofs.YtcmnejcojphijaaDoor
open Go.RowKit
set_option linter.unusedVariables false

theorem RunAt.setAt {w : World} {rp : Nat} {s : ByteArray} {x : Rn} (h : RunAt w rp s x) {k : Nat} (hk : k < 26) (v : Int) : RunAt (w.setCell ⟨rp, 54 + k, none⟩ (.int .i64 v)) rp s { x with at_ := updI x.at_ k v } :=
  ⟨cell_at h.cs (by omega), fun j hj => cell_at (h.cn j hj) (by omega), fun j hj => cell_at (h.cw j hj) (by omega),
    cell_at h.ch (by omega), fun j hj => by
      by_cases e : j = k
      · subst e; show _ = some (Value.int .i64 (updI x.at_ j v j)); rw [show updI x.at_ j v j = v by simp [updI]]; exact cell_same (h.ca j hj)
      · show _ = some (Value.int .i64 (updI x.at_ k v j)); rw [show updI x.at_ k v j = x.at_ j by simp [updI, e]]; exact cell_at (h.ca j hj) (by omega), fun j hj => cell_at (h.cl j hj) (by omega),
    cell_at h.cf (by omega), cell_at h.co (by omega), cell_at h.ct (by omega), cell_at h.cu (by omega), cell_at h.cp (by omega), fun o => by rw [World.frozen?_setCell]; exact h.fz o⟩
theorem RunAt.setLen {w : World} {rp : Nat} {s : ByteArray} {x : Rn} (h : RunAt w rp s x) {k : Nat} (hk : k < 26) (v : Int) : RunAt (w.setCell ⟨rp, 80 + k, none⟩ (.int .i64 v)) rp s { x with len := updI x.len k v } :=
  ⟨cell_at h.cs (by omega), fun j hj => cell_at (h.cn j hj) (by omega), fun j hj => cell_at (h.cw j hj) (by omega),
    cell_at h.ch (by omega), fun j hj => cell_at (h.ca j hj) (by omega), fun j hj => by
      by_cases e : j = k
      · subst e; show _ = some (Value.int .i64 (updI x.len j v j)); rw [show updI x.len j v j = v by simp [updI]]; exact cell_same (h.cl j hj)
      · show _ = some (Value.int .i64 (updI x.len k v j)); rw [show updI x.len k v j = x.len j by simp [updI, e]]; exact cell_at (h.cl j hj) (by omega),
    cell_at h.cf (by omega), cell_at h.co (by omega), cell_at h.ct (by omega), cell_at h.cu (by omega), cell_at h.cp (by omega), fun o => by rw [World.frozen?_setCell]; exact h.fz o⟩
section
variable (w : World) (rp base : Nat) (s : ByteArray) (x : Rn) (bx : Nat → List Int) (blk : Nat → Nat)
end
end Go.Proofs.YtcmnejcojphijaaDoor

namespace Go.Proofs.YtcmnejcojphijaaDoor
open Go.RowKit
set_option linter.unusedVariables false

/-- a box's word is turned -/
theorem PlayAt.put {w : World} {rp base : Nat} {s : ByteArray} {x : Rn} {bx : Nat → List Int} {blk : Nat → Nat} (h : PlayAt w rp base s x bx blk) {k q : Nat} (hk : k < 26) (hq : q < (bx k).length) (v : Int) :
    PlayAt (w.setCell ⟨blk k, q, none⟩ (.int .i64 v)) rp base s x (updL bx k ((bx k).set q v)) blk := by
  have hF := (Fr.refl (OneB (blk k)) w).setCell (p := ⟨blk k, q, none⟩) (fun _ => rfl) (.int .i64 v)
  have hkn : bx k ≠ [] := fun e => by rw [e] at hq; simp at hq
  have hrb := h.rb
  have hkb := (h.b k hk hkn).1
  have hup : ∀ j, updL bx k ((bx k).set q v) j ≠ [] → bx j ≠ [] := fun j hj => by
    by_cases e : j = k
    · subst e; exact hkn
    · rwa [updL_ne _ _ e] at hj
  have hlen : ∀ j, (updL bx k ((bx k).set q v) j).length = (bx j).length := fun j => by
    by_cases e : j = k
    · subst e; rw [updL_at]; simp
    · rw [updL_ne _ _ e]
  refine ⟨h.r.fr hF (fun e => by unfold OneB at e; omega), h.hn, h.rb, fun j hj hb => ?_, fun j hj hb => ?_, fun j hj i u hv => ?_, fun j hj hb o => by rw [World.frozen?_setCell]; exact h.z j hj (hup j hb) o, fun i j hi hj hij hb1 hb2 => h.d i j hi hj hij (hup i hb1) (hup j hb2), fun j hj hb => by rw [setCell_size]; exact h.b j hj (hup j hb), fun j hj => by rw [hlen]; exact h.n j hj⟩
  · have hb2 : bx j = [] := List.eq_nil_of_length_eq_zero (by rw [← hlen j, hb]; rfl)
    exact h.e j hj hb2
  · rw [hlen]; exact h.f j hj (hup j hb)
  · by_cases e : j = k
    · subst e
      rw [updL_at] at hv
      by_cases e2 : i = q
      · subst e2
        rw [List.getElem?_set_self hq] at hv
        obtain ⟨c, hc⟩ : ∃ c, (bx j)[i]? = some c := ⟨_, List.getElem?_eq_getElem hq⟩
        rw [← Option.some.inj hv]
        exact cell_same (h.c j hj i c hc)
      · rw [List.getElem?_set_ne (by omega)] at hv
        exact cell_at (h.c j hj i u hv) (by omega)
    · rw [updL_ne _ _ e] at hv
      exact hF.cell_some (h.c j hj i u hv) (fun e3 => h.d j k hj hk e (ne_nil_of_get hv) hkn e3)

section
variable (w : World) (rp base : Nat) (s : ByteArray) (x : Rn) (bx : Nat → List Int) (blk : Nat → Nat)
end
end Go.Proofs.YtcmnejcojphijaaDoor
