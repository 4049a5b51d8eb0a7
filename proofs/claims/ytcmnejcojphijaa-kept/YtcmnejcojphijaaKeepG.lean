import Derived.Test.YtcmnejcojphijaaKeepP
import Derived.Test.YtcmnejcojphijaaApp
namespace Go.Proofs.Ytcmnejcojphijaa
open Go.RowKit

/-- the list in memory, and the words of each of its blocks -/
structure Mem (w : World) (base p r : Nat) (v : Value) (hs : List Held) (V : Nat → Int) : Prop where
  row : w.ownsRow base 34 3 v hs.length (heldCells hs)
  cell : ∀ h, h ∈ hs → ∀ j, j < h.n → w.cell? ⟨h.wb, j, none⟩ = some (.int .i64 (V (h.at_ + j)))
  frz : ∀ h, h ∈ hs → ∀ o, w.frozen? ⟨h.wb, o, none⟩ = false
  lo : ∀ h, h ∈ hs → base ≤ h.wb ∧ h.wb < w.heap.size
  ne : ∀ h, h ∈ hs → h.wb ≠ p ∧ h.wb ≠ r ∧ v.ownBlock ≠ some h.wb
  dist : hs.Pairwise (fun x y => x.wb ≠ y.wb)
  vp : v.ownBlock ≠ some p
  vr : v.ownBlock ≠ some r

theorem Mem.fr {S : Nat → Prop} {w w' : World} {base p r : Nat} {v : Value} {hs : List Held} {V : Nat → Int} (h : Mem w base p r v hs V) (hf : Fr S w w') (hv : ∀ g, v.ownBlock = some g → ¬ S g) (hw : ∀ x, x ∈ hs → ¬ S x.wb) : Mem w' base p r v hs V :=
  ⟨hf.owns h.row hv, fun x hx j hj => hf.cell_some (h.cell x hx j hj) (hw x hx), fun x hx o => (hf.frozen (p := ⟨x.wb, o, none⟩) (h.lo x hx).2 (hw x hx)).trans (h.frz x hx o),
    fun x hx => ⟨(h.lo x hx).1, Nat.lt_of_lt_of_le (h.lo x hx).2 hf.size⟩, h.ne, h.dist, h.vp, h.vr⟩
/-- the heap's words may have turned -/
theorem Mem.fr_r {w w' : World} {base p r : Nat} {v : Value} {hs : List Held} {V : Nat → Int} (h : Mem w base p r v hs V) (hf : Fr (OneB r) w w') : Mem w' base p r v hs V :=
  h.fr hf (fun g hg e => h.vr (by rw [hg]; exact congrArg some e)) (fun x hx e => (h.ne x hx).2.1 e)
theorem Mem.no {w w' : World} {base p r : Nat} {v : Value} {hs : List Held} {V : Nat → Int} (h : Mem w base p r v hs V) (hf : Fr NoB w w') : Mem w' base p r v hs V := h.fr hf (fun _ _ e => e) (fun _ _ e => e)

theorem Mem.heldRow {w : World} {base p r n : Nat} {v : Value} {hs : List Held} {B V : Nat → Int} (h : Mem w base p r v hs V) (hi : Inv n B V hs) (hn : n ≤ 4096) :
    ∃ ao cap, v = .slice ao hs.length cap ∧ HeldRow w ao hs.length (fun i => (hs.getD i heldZ).at_) (fun i => (hs.getD i heldZ).n) (fun i => words (hs.getD i heldZ)) ∧ (∀ g, ao = some ⟨g, 0, none⟩ → v.ownBlock = some g) :=
  heldRow_of h.row (fun x hx => by have := (hi.pos x hx).2.1; omega) (by have := hi.len; omega)

theorem Try.infoInt : (Try.prog.info? 3).map (fun i => (i.zero, i.size, i.bytes)) = some (some (.int .i64 0), 1, 8) := by kernel_rfl

theorem made_one (n j : Nat) (h : j < n) : (madeCells #[Value.int .i64 0] n)[j]? = some (.int .i64 0) := by
  unfold madeCells
  simp [h, Nat.mod_one]

theorem ints_made (n : Nat) (hn : n ≤ 4096) : ∃ C : Array Value, (∀ j, j < n → C[j]? = some (.int .i64 0)) ∧
    ∀ u : World, (Instr.makeSlice 32 (.int .i64 (n : Int)) (.int .i64 (n : Int))).run Try.prog u = .ok (.slice (some ⟨u.heap.size, 0, none⟩) n n) (u.alloc (.cells C 3)) := by
  obtain ⟨i0, hi, hz0, hz1, hz2⟩ := info_parts Try.infoInt
  refine ⟨madeCells #[Value.int .i64 0] n, fun j hj => made_one _ _ hj, fun u => ?_⟩
  have h := run_make (P := Try.prog) u 32 3 i0 (.int .i64 0) Try.underlying32 hi hz0 .i64 .i64 (n : Int) (n : Int) (by omega) (Int.le_refl _) (by rw [hz2]; omega) (by omega)
  simpa [hz1, Value.cells] using h

def GrowS (r : Nat) (v : Value) : Nat → Prop := fun q => q = r ∨ v.ownBlock = some q

set_option maxHeartbeats 1000000 in
theorem kgrows_no (w : World) (base p r n k : Nat) (B V : Nat → Int) (v : Value) (hs : List Held) (h : HeapAt w p r n B V) (hi : Inv n B V hs) (hm : Mem w base p r v hs V) (hk1 : 1 ≤ k) (hk2 : k ≤ 64)
    (hno : ∀ b, ¬ FreeAt B n k b) :
    Calls Try.prog 9 #[.pointer (some ⟨p, 0, none⟩), v, .int .i64 (k : Int), .int .i64 (n : Int)] w fun e w' => e = .returned (.tuple #[v, .bool true]) ∧ Fr NoB w w' := by
  have hn := h.hi
  obtain ⟨ao, cap, rfl, hrow, hao⟩ := hm.heldRow hi hn
  have Hno : Hid (∀ b, ¬ FreeAt B n k b) := hno
  clear hno hao
  go_enter Try.func9, Try.ntmps9
  go_wp2_with fail
  refine (salloc_any _ p r n B V k h hk1 hk2).mono ?_
  intro e w1 hq
  rcases hq with ⟨a, h1, _⟩ | ⟨_, rfl, hF1⟩
  · exact absurd h1 (Hno.out a)
  go_wp2_with fail
  refine (kroom_any _ ao hs.length cap _ _ _ k n (hrow.no hF1) hk1 hk2 hn).mono ?_
  rintro e w2 ⟨⟨a, _, h2, _⟩ | ⟨rfl, _⟩, hF2⟩
  · exact absurd ((hi.room k a).2 h2) (Hno.out a)
  have H : Hid (Fr NoB w w2) := hF1.trans hF2
  clear hF1 hF2 hrow
  go_wp2
  go_ret2
  exact ⟨rfl, H.out⟩

theorem grow_apart {n k a : Nat} {B V : Nat → Int} {hs : List Held} (hi : Inv n B V hs) (hf : FreeAt B n k a) (hk : 1 ≤ k) : ∀ i, i < hs.length → ¬ (a < (hs.getD i heldZ).at_ + (hs.getD i heldZ).n ∧ (hs.getD i heldZ).at_ < a + k) := fun i h ⟨h1, h2⟩ => by
  have e : hs.getD i heldZ = hs[i] := by simp [h]
  rw [e] at h1 h2
  have hm := List.getElem_mem h
  have hp := hi.pos _ hm
  by_cases g : a ≤ hs[i].at_
  · have e1 := hf.2 hs[i].at_ g h2
    have e2 := hi.own _ hm hs[i].at_ (Nat.le_refl _) (by omega)
    omega
  · have e1 := hf.2 a (Nat.le_refl _) (by omega)
    have e2 := hi.own _ hm a (by omega) h1
    omega

theorem grow_end {w w3 w4 : World} {o : Obj} {base p r n k a wb : Nat} {B V : Nat → Int} {v v' : Value} {hs : List Held} (hi : Inv n B V hs) (hF : Fr (OneB r) w w3) (hM : Mem w3 base p r v hs V) (hH : HeapAt w3 p r n (markTo B a (a + k)) V)
    (hc : ∀ j, j < k → w3.cell? ⟨wb, j, none⟩ = some (.int .i64 0)) (hz : ∀ o, w3.frozen? ⟨wb, o, none⟩ = false) (hb : base ≤ w.heap.size) (hwb : w.heap.size ≤ wb) (hwl : wb < w3.heap.size) (hfa : FreeAt B n k a)
    (hown : w4.ownsRow base 34 3 v' (hs.length + 1) (heldCells hs ++ [.int .i64 (a : Int), .int .i64 (k : Int), .slice (some ⟨wb, 0, none⟩) k k])) (hg : (w3.alloc o).grownBy w4 v.ownBlock)
    (hw : v'.ownBlock = some (w3.heap.size + 1) ∨ (v'.ownBlock = v.ownBlock ∧ v.ownBlock ≠ none)) (hvwb : v.ownBlock ≠ some wb) (hwp : wb ≠ p ∧ wb ≠ r) (hdw : ∀ x, x ∈ hs → x.wb ≠ wb) :
    HeapAt w4 p r n (markTo B a (a + k)) V ∧ Mem w4 base p r v' (hs ++ [⟨a, k, wb⟩]) V ∧ Fr (GrowS r v) w w4 := by
  have hfr : Fr (fun q => v.ownBlock = some q) w3 w4 := ((Fr.refl _ w3).alloc o).then (Fr.of_grown (S := fun q => v.ownBlock = some q) hg (fun k _ e => e)) (fun _ _ h => h)
  have hnew : ∀ q, q < w3.heap.size → v.ownBlock ≠ some q → v'.ownBlock ≠ some q := fun q hq hv e => by
    rcases hw with h | h
    · rw [h] at e; injection e with e; omega
    · rw [h.1] at e; exact hv e
  have hpl := hH.pl
  have hrl := hH.rl
  have hsz := hfr.size
  refine ⟨hH.fr hfr hM.vp hM.vr, ⟨?_, fun x hx j hj => ?_, fun x hx q => ?_, fun x hx => ?_, fun x hx => ?_, ?_, hnew p hpl hM.vp, hnew r hrl hM.vr⟩, ?_⟩
  · rw [heldCells_snoc, List.length_append]; exact hown
  · rw [List.mem_append] at hx
    rcases hx with hx | hx
    · exact hfr.cell_some (hM.cell x hx j hj) (hM.ne x hx).2.2
    · simp at hx; subst hx
      have hv0 : V (a + j) = 0 := hi.zer _ (by have := hfa.1; simp at hj; omega) (hfa.2 _ (by omega) (by simp at hj; omega))
      show w4.cell? ⟨wb, j, none⟩ = some (.int .i64 (V (a + j)))
      rw [hv0]
      exact hfr.cell_some (hc j hj) hvwb
  · rw [List.mem_append] at hx
    rcases hx with hx | hx
    · exact (hfr.frozen (p := ⟨x.wb, q, none⟩) (hM.lo x hx).2 (hM.ne x hx).2.2).trans (hM.frz x hx q)
    · simp at hx; subst hx
      exact (hfr.frozen (p := ⟨wb, q, none⟩) hwl hvwb).trans (hz q)
  · rw [List.mem_append] at hx
    rcases hx with hx | hx
    · have := hM.lo x hx; omega
    · simp at hx; subst hx
      show base ≤ wb ∧ wb < w4.heap.size
      omega
  · rw [List.mem_append] at hx
    rcases hx with hx | hx
    · exact ⟨(hM.ne x hx).1, (hM.ne x hx).2.1, hnew _ (hM.lo x hx).2 (hM.ne x hx).2.2⟩
    · simp at hx; subst hx
      exact ⟨hwp.1, hwp.2, hnew wb hwl hvwb⟩
  · rw [List.pairwise_append]
    refine ⟨hM.dist, List.pairwise_singleton _ _, fun x hx y hy => ?_⟩
    simp at hy; subst hy
    exact hdw x hx
  · exact (hF.mono (fun q _ e => .inl e)).then hfr (fun q _ e => .inr e)

set_option maxRecDepth 20000 in
set_option maxHeartbeats 1000000 in
theorem kgrows_yes (w : World) (base p r n k a : Nat) (B V : Nat → Int) (v : Value) (hs : List Held) (h : HeapAt w p r n B V) (hi : Inv n B V hs) (hm : Mem w base p r v hs V) (hb : base ≤ w.heap.size) (hk1 : 1 ≤ k) (hk2 : k ≤ 64)
    (hfa : FreeAt B n k a) (hmin : ∀ b, FreeAt B n k b → a ≤ b) :
    Calls Try.prog 9 #[.pointer (some ⟨p, 0, none⟩), v, .int .i64 (k : Int), .int .i64 (n : Int)] w fun e w' => ∃ v' wb, e = .returned (.tuple #[v', .bool true]) ∧
      HeapAt w' p r n (markTo B a (a + k)) V ∧ Mem w' base p r v' (hs ++ [⟨a, k, wb⟩]) V ∧ Fr (GrowS r v) w w' := by
  have hn := h.hi
  have han := hfa.1
  have hlen := hi.len
  obtain ⟨ao, cap, hv, hrow, hao⟩ := hm.heldRow hi hn
  have Hfa : Hid (FreeAt B n k a) := hfa
  have Hmin : Hid (∀ b, FreeAt B n k b → a ≤ b) := hmin
  obtain ⟨C, hC, hmk⟩ := ints_made k (by omega)
  obtain ⟨i0, hi0, hz0, hz1, hz2⟩ := info_parts Try.infoHeld
  have HC : Hid (∀ j, j < k → C[j]? = some (.int .i64 0)) := hC
  have HM : Hid (Mem w base p r v hs V) := hm
  have HAO : Hid (∀ g, ao = some ⟨g, 0, none⟩ → v.ownBlock = some g) := hao
  have HV : Hid (v = .slice ao hs.length cap) := hv
  clear hfa hmin hC hm hao
  rw [hv]
  clear hv
  go_enter Try.func9, Try.ntmps9
  go_wp2_with fail
  refine (salloc_any _ p r n B V k h hk1 hk2).mono ?_
  intro e w1 hq
  rcases hq with ⟨a', h1, h2, rfl, hH1, hF1⟩ | ⟨h1, _⟩
  rotate_left
  · exact absurd Hfa.out (h1 a)
  have ha' : a' = a := by have := h2 a Hfa.out; have := Hmin.out a' h1; omega
  subst ha'
  clear h1 h2
  have hrow1 := hrow.fr hF1 (fun g hg e => HM.out.vr (by rw [HAO.out g hg]; exact congrArg some e))
  go_wp2_with fail
  refine (kroom_any _ ao hs.length cap _ _ _ k n hrow1 hk1 hk2 hn).mono ?_
  rintro e w2 ⟨⟨a2, rfl, h2, h3⟩ | ⟨_, h2⟩, hF2⟩
  rotate_left
  · exact absurd ((hi.room k a').1 Hfa.out) (h2 a')
  have ha2 : a2 = a' := by have := h3 a' ((hi.room k a').1 Hfa.out); have := Hmin.out a2 ((hi.room k a2).2 h2); omega
  subst ha2
  clear h2 h3
  have hrow2 := hrow1.no hF2
  have hH2 := hH1.no hF2
  have HF : Hid (Fr (OneB r) w w2) := hF1.then hF2 (fun _ _ e => e.elim)
  clear hF1 hF2 hrow1 hrow hH1 h
  go_wp2_with fail
  have hal : Fr NoB w2 ((w2.alloc (Obj.cells C 3)).alloc (Obj.cells #[Value.int .i64 a2, Value.int .i64 k, Value.slice (some ⟨w2.heap.size, 0, none⟩) k k] 34)) := ((Fr.refl _ _).alloc _).alloc _
  refine (kapart_yes _ ao hs.length cap n a2 k _ _ _ _ (hrow2.no hal) hn han (grow_apart hi Hfa.out hk1)).mono ?_
  rintro e w3 ⟨rfl, hF3⟩
  have hb0 : w3.cell? ⟨w2.heap.size + 1, 0, none⟩ = some (.int .i64 a2) := hF3.cell_some (by rw [World.cell?_alloc_at _ _ _ _ (by simp)]; rfl) id
  have hb1 : w3.cell? ⟨w2.heap.size + 1, 1, none⟩ = some (.int .i64 k) := hF3.cell_some (by rw [World.cell?_alloc_at _ _ _ _ (by simp)]; rfl) id
  have hb2 : w3.cell? ⟨w2.heap.size + 1, 2, none⟩ = some (.slice (some ⟨w2.heap.size, 0, none⟩) k k) := hF3.cell_some (by rw [World.cell?_alloc_at _ _ _ _ (by simp)]; rfl) id
  have hF3' : Fr NoB w2 w3 := hal.trans hF3
  have hwc : ∀ j, j < k → w3.cell? ⟨w2.heap.size, j, none⟩ = some (.int .i64 0) := fun j hj =>
    hF3.cell_some (by rw [World.cell?_alloc_past _ _ _ (by simp), World.cell?_alloc_at _ _ _ _ (by simp)]; exact HC.out j hj) id
  have hwf : ∀ o, w3.frozen? ⟨w2.heap.size, o, none⟩ = false := fun o => by
    rw [hF3.frozen (p := ⟨w2.heap.size, o, none⟩) (by simp; omega) id, World.frozen?_alloc_past _ _ _ (by simp), World.frozen?_alloc_at _ _ _ _ (by simp)]
  have hs3 : w2.heap.size + 1 < w3.heap.size := World.block_lt_of_cell? _ _ hb0
  have hs2 := HF.out.size
  have HW : Hid ((∀ j, j < k → w3.cell? ⟨w2.heap.size, j, none⟩ = some (.int .i64 0)) ∧ (∀ o, w3.frozen? ⟨w2.heap.size, o, none⟩ = false) ∧ HeapAt w3 p r n (markTo B a2 (a2 + k)) V) := ⟨hwc, hwf, hH2.no hF3'⟩
  have hM2 := HM.out.fr_r HF.out
  have HNW : Hid (v.ownBlock ≠ some w2.heap.size ∧ (w2.heap.size ≠ p ∧ w2.heap.size ≠ r) ∧ ∀ x, x ∈ hs → x.wb ≠ w2.heap.size) :=
    ⟨fun e => by have := (hM2.row.lt _ e).2; omega, ⟨by have := hH2.pl; omega, by have := hH2.rl; omega⟩, fun x hx => by have := (hM2.lo x hx).2; omega⟩
  have hM3 := hM2.no hF3'
  have hown := hM3.row
  have HM3 : Hid (Mem w3 base p r v hs V) := hM3
  rw [HV.out] at hown
  have HFr : Hid (Fr (OneB r) w w3) := HF.out.then hF3' (fun _ _ e => e.elim)
  clear hwc hwf hH2 hrow2 hF3 hF3' hal HF hmk hM3 hM2
  go_wp2_with (at_builtin; refine wpList_append_where _ rfl _ _ 28 rfl base 34 i0 (.agg #[.int .i64 0, .int .i64 0, .slice none 0 0]) 3 40 Try.underlying28 hi0 hz0 hz1 hz2 rfl (by decide) _ _ _ rfl (hown.alloc _) ⟨w3.heap.size, 0, none⟩ 1 1 [.int .i64 (a2 : Int), .int .i64 (k : Int), .slice (some ⟨w2.heap.size, 0, none⟩) k k] (by decide) rfl rfl ?c1 ?c2 ?c3 ?c4 ?c5 ?_)
  case c1 =>
    intro j u hj
    match j, hj with
    | 0, hj => simp at hj; subst hj; simp [Addr.add]
    | 1, hj => simp at hj; subst hj; simp [Addr.add]
    | 2, hj => simp at hj; subst hj; simp [Addr.add]
  case c2 => intro u hu; simp at hu; rcases hu with rfl | rfl | rfl <;> rfl
  case c3 => unfold maxLen; omega
  case c4 => omega
  case c5 => simp; omega
  intro v' w4 hown' hgrow hwhere
  rw [← HV.out] at hgrow hwhere
  have HE : Hid (HeapAt w4 p r n (markTo B a2 (a2 + k)) V ∧ Mem w4 base p r v' (hs ++ [⟨a2, k, w2.heap.size⟩]) V ∧ Fr (GrowS r v) w w4) :=
    grow_end hi HFr.out HM3.out HW.out.2.2 HW.out.1 HW.out.2.1 hb hs2 (by omega) Hfa.out hown' hgrow hwhere HNW.out.1 HNW.out.2.1 HNW.out.2.2
  clear hown' hgrow hown hwhere
  go_wp2
  go_ret2
  exact ⟨v', w2.heap.size, rfl, by have h := HE.out; rw [HV.out] at h; exact h⟩
end Go.Proofs.Ytcmnejcojphijaa
