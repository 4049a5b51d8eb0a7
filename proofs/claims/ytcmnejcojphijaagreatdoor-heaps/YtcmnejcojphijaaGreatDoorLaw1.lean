/-
  The small functions of the law's package.
-/
import Derived.Test.YtcmnejcojphijaaGreatDoorRel
import Derived.Test.YtcmnejcojphijaaGreatDoorAppK
namespace Go.Proofs.YtcmnejcojphijaaGreatDoor
open Go.RowKit

set_option maxHeartbeats 400000 in
theorem lpick_fn (w : World) (c : Int) (n : Nat) (hn : 1 ≤ n) (hn2 : n ≤ 4611686018427387904) (h1 : -9223372036854775808 ≤ c) (h2 : c ≤ 9223372036854775807) :
    Calls Tryz.prog 49 #[.int .i64 c, .int .i64 (n : Int)] w fun e w' => e = .returned (.int .i64 (pickZ c n : Nat)) ∧ w' = w := by
  by_cases hc : c < 0
  · have hm1 := Int.emod_nonneg (-(c + 1)) (show (n : Int) ≠ 0 by omega)
    have HP : Hid (pickZ c n = ((-(c + 1)) % (n : Int)).toNat) := by unfold pickZ; exact if_pos hc
    go_enter Tryz.func49, Tryz.ntmps49
    go_wp2
    go_ret
    have e : (c + 1).tmod (n : Int) = -((-(c + 1)) % n) := by
      rw [← Int.tmod_eq_emod_of_nonneg (by omega), Int.neg_tmod, Int.neg_neg]
    exact ⟨ret_int (by rw [HP.out]; omega), rfl⟩
  · have hm1 := Int.emod_nonneg c (show (n : Int) ≠ 0 by omega)
    have HP : Hid (pickZ c n = (c % (n : Int)).toNat) := by unfold pickZ; exact if_neg hc
    go_enter Tryz.func49, Tryz.ntmps49
    go_wp2
    go_ret
    exact ⟨ret_int (by rw [HP.out]; omega), rfl⟩

set_option maxHeartbeats 400000 in
theorem lmark_fn (w : World) (k : Nat) (hk : k ≤ 4611686018427387904) :
    Calls Tryz.prog 91 #[.int .i64 (k : Int)] w fun e w' => e = .returned (.agg #[.int .i64 (-1 - (k : Int)), .int .i64 (-1 - (k : Int))]) ∧ Fr NoB w w' := by
  go_enter Tryz.func91, Tryz.ntmps91
  go_wp2
  refine bodyPost_ret (v := .agg #[.int .i64 (-1 - (k : Int)), .int .i64 (-1 - (k : Int))]) (by simp [results, Tryz.results91, go_sem]) rfl ⟨rfl, ?_⟩
  repeat (first | exact Fr.refl _ _ | refine Fr.setCell ?_ (fun h => absurd h (Nat.lt_irrefl _)) _ | refine Fr.alloc ?_ _)

/-- spans with numbers of any sign, in a row: by index -/
structure IntRow (w : World) (ao : Option Addr) (m : Nat) (A N : Nat → Int) : Prop where
  some_ : 0 < m → ∃ g, ao = some ⟨g, 0, none⟩
  c0 : ∀ g i, i < m → ao = some ⟨g, 0, none⟩ → w.cell? ⟨g, i * 2, none⟩ = some (.int .i64 (A i))
  c1 : ∀ g i, i < m → ao = some ⟨g, 0, none⟩ → w.cell? ⟨g, i * 2 + 1, none⟩ = some (.int .i64 (N i))
theorem IntRow.fr {S : Nat → Prop} {w w' : World} {ao : Option Addr} {m : Nat} {A N : Nat → Int} (h : IntRow w ao m A N) (hf : Fr S w w') (hs : ∀ g, ao = some ⟨g, 0, none⟩ → ¬ S g) : IntRow w' ao m A N :=
  ⟨h.some_, fun g i hi e => hf.cell_some (h.c0 g i hi e) (hs g e), fun g i hi e => hf.cell_some (h.c1 g i hi e) (hs g e)⟩
theorem IntRow.no {w w' : World} {ao : Option Addr} {m : Nat} {A N : Nat → Int} (h : IntRow w ao m A N) (hf : Fr NoB w w') : IntRow w' ao m A N := h.fr hf (fun _ _ h => h)
theorem IntRow.take {w : World} {ao : Option Addr} {m k : Nat} {A N : Nat → Int} (h : IntRow w ao m A N) (hk : k ≤ m) : IntRow w ao k A N :=
  ⟨fun h0 => h.some_ (by omega), fun g i hi e => h.c0 g i (by omega) e, fun g i hi e => h.c1 g i (by omega) e⟩

set_option maxHeartbeats 1000000 in
theorem lsame_yes (w : World) (ao bo : Option Addr) (m ca cb : Nat) (A N : Nat → Int) (ha : IntRow w ao m A N) (hb : IntRow w bo m A N) (hm : m ≤ 4611686018427387904) :
    Calls Tryz.prog 29 #[.slice ao m ca, .slice bo m cb] w fun e w' => e = .returned (.bool true) ∧ Fr NoB w w' := by
  go_enter Tryz.func29, Tryz.ntmps29
  go_wp2_with fail
  go_loopw [5] (fun t wr => ∃ i : Nat, i ≤ m ∧ t = .int .i64 i ∧ Fr NoB w wr) (fun t _ => m - (intOf t).toNat)
  case atStart => exact ⟨0, Nat.zero_le _, rfl, Fr.refl _ _⟩
  case round =>
    obtain ⟨i, hi, rfl, hF⟩ := hrel
    by_cases hlt : i < m
    · obtain ⟨ga, rfl⟩ := ha.some_ (by omega)
      obtain ⟨gb, rfl⟩ := hb.some_ (by omega)
      have a0 := (ha.no hF).c0 ga i hlt rfl
      have a1 := (ha.no hF).c1 ga i hlt rfl
      have b0 := (hb.no hF).c0 gb i hlt rfl
      have b1 := (hb.no hF).c1 gb i hlt rfl
      go_wp2_with fail
      go_quiet (fail)
      go_wp2
      go_roundw
      case rel => exact ⟨i + 1, by omega, by go_num, hF.drewM _⟩
      case measure => simp [intOf]; omega
    · go_wp2
      go_ret
      exact ⟨rfl, hF⟩

theorem owns_sub {w1 w2 : World} {base g n n1 cap1 : Nat} {e : TypeId} {size : Nat} {v : Value} {xs ys : List Value} (hv : v.ownBlock = some g) (ho : w1.ownsRow base e size v n xs)
    (h1 : w1.ownsRow base e size (.slice (some ⟨g, 0, none⟩) n1 cap1) n1 (xs ++ ys)) (h2 : w2.ownsRow base e size (.slice (some ⟨g, 0, none⟩) n1 cap1) n1 (xs ++ ys)) (hs : 0 < size) : w2.ownsRow base e size v n xs := by
  refine ⟨ho.1, ?_⟩
  rcases ho.2 with ⟨rfl, _⟩ | ⟨g0, cap0, cur0, rfl, hb0, hh0, hn0, hc0, hs0, _⟩
  · cases hv
  · injection hv with hv
    simp at hv
    subst hv
    rcases h1.2 with ⟨hx, _⟩ | ⟨g1, cap1', cur1, hx, _, hh1, _, _, hs1, _⟩
    · cases hx
    · cases hx
      rcases h2.2 with ⟨hx, _⟩ | ⟨g2, cap2, cur2, hx, _, hh2, hn2, hc2, hs2, ht2⟩
      · cases hx
      · cases hx
        have hcur : cur0 = cur1 := by rw [hh0] at hh1; injection hh1 with hh1; injection hh1
        have hcap : cap0 = cap1 := by
          rw [hcur, hs1] at hs0
          exact (Nat.eq_of_mul_eq_mul_right hs hs0).symm
        subst hcap
        refine .inr ⟨g0, cap0, cur2, rfl, hb0, hh2, hn0, hc0, hs2, ?_⟩
        have hx := ho.1
        have hle : n * size ≤ n1 * size := by
          have := h1.1
          rw [List.length_append, hx] at this
          omega
        have : cur2.toList.take (n * size) = (cur2.toList.take (n1 * size)).take (n * size) := by
          rw [List.take_take, Nat.min_eq_left hle]
        rw [this, ht2, ← hx, List.take_left]

theorem marked_end {w w1 w2 : World} {o : Obj} {base g1 n cap1 : Nat} {v v2 : Value} {xs : List Value} {x y : Int} (hown1 : w1.ownsRow base 82 2 (.slice (some ⟨g1, 0, none⟩) (n + 1) cap1) (n + 1) (xs ++ [.int .i64 x, .int .i64 y]))
    (hko : w1.ownsRow base 82 2 v n xs) (hF : Fr (fun q => v.ownBlock = some q) w w1) (hpl : g1 = w.heap.size + 2 ∨ v.ownBlock = some g1) (hsz : w.heap.size + 2 ≤ w1.heap.size)
    (hown2 : w2.ownsRow base 82 2 v2 (n + 1 + 1) (xs ++ [.int .i64 x, .int .i64 y, .int .i64 x, .int .i64 y])) (hk : AppKind (w1.alloc o) w2 (.slice (some ⟨g1, 0, none⟩) (n + 1) cap1) v2 (n + 1) 1) :
    w2.ownsRow base 82 2 v2 (n + 2) (xs ++ [.int .i64 x, .int .i64 y, .int .i64 x, .int .i64 y]) ∧ w2.ownsRow base 82 2 v n xs ∧ Fr (fun q => v.ownBlock = some q) w w2 ∧ (∀ g, v2.ownBlock = some g → w.heap.size ≤ g ∨ v.ownBlock = some g) := by
  have hown3 : w2.ownsRow base 82 2 v2 (n + 1 + 1) ((xs ++ [.int .i64 x, .int .i64 y]) ++ [.int .i64 x, .int .i64 y]) := by simpa using hown2
  have hkk := hk.keep (hown1.alloc o) hown3
  have hfr := hk.fr
  refine ⟨hown2, ?_, ?_, ?_⟩
  · by_cases e : v.ownBlock = some g1
    · exact owns_sub e hko hown1 hkk (by decide)
    · exact (((Fr.refl _ w1).alloc o).trans hfr).owns hko (fun k hk2 e2 => by
        have e3 : g1 = k := by simpa [Value.ownBlock] using e2
        subst e3; exact e hk2)
  · refine hF.then (((Fr.refl _ w1).alloc o).trans hfr) (fun q hq e2 => ?_)
    have e3 : g1 = q := by simpa [Value.ownBlock] using e2
    subst e3
    rcases hpl with h | h
    · omega
    · exact h
  · intro g hg
    obtain ⟨g2, cap2, rfl, h⟩ := hk.place
    have e : g2 = g := by simpa [Value.ownBlock] using hg
    subst e
    rcases h with h | h
    · refine .inl ?_
      simp at h
      omega
    · have e3 : g1 = g2 := by simpa [Value.ownBlock] using h
      subst e3
      rcases hpl with h | h
      · exact .inl (by omega)
      · exact .inr h

set_option maxHeartbeats 1000000 in
theorem lmarked_any (w : World) (base : Nat) (v : Value) (n : Nat) (xs : List Value) (x y : Int) (hown : w.ownsRow base 82 2 v n xs) (hb : base ≤ w.heap.size) (hn : n ≤ 8192) :
    Calls Tryz.prog 100 #[v, .agg #[.int .i64 x, .int .i64 y]] w fun e w' => ∃ v', e = .returned v' ∧ w'.ownsRow base 82 2 v' (n + 2) (xs ++ [.int .i64 x, .int .i64 y, .int .i64 x, .int .i64 y]) ∧
      w'.ownsRow base 82 2 v n xs ∧ Fr (fun q => v.ownBlock = some q) w w' ∧ (∀ g, v'.ownBlock = some g → w.heap.size ≤ g ∨ v.ownBlock = some g) := by
  obtain ⟨i0, hi0, hz0, hz1, hz2⟩ := info_parts Tryz.infoSpan
  have hvl : ∀ k, v.ownBlock = some k → k < w.heap.size := fun k hk => (hown.lt k hk).2
  have Hvl : Hid (∀ k, v.ownBlock = some k → k < w.heap.size) := hvl
  clear hvl
  go_enter Tryz.func100, Tryz.ntmps100
  go_wp2_with (at_builtin; refine wpList_append_kind _ rfl (.tmp 6) (.tmp 8) 67 rfl base 82 i0 (.agg #[.int .i64 0, .int .i64 0]) 2 16 Tryz.underlying67 hi0 hz0 hz1 hz2 rfl (by decide) _ _ _ rfl ((hown.alloc _).alloc _) ⟨w.heap.size + 1, 0, none⟩ 1 1 [.int .i64 x, .int .i64 y] (by decide) rfl rfl ?c1 ?c2 ?c3 ?c4 ?c5 ?_)
  case c1 =>
    intro j u hj
    match j, hj with
    | 0, hj => simp at hj; subst hj; simp [Addr.add]
    | 1, hj => simp at hj; subst hj; simp [Addr.add]
  case c2 => intro u hu; simp at hu; rcases hu with rfl | rfl <;> rfl
  case c3 => unfold maxLen; omega
  case c4 => omega
  case c5 => simp; omega
  intro v1 w1 hown1 hk1
  have hko := hk1.keep ((hown.alloc _).alloc _) hown1
  have hf1 := hk1.fr
  have hs1 := hf1.size
  have hnb : ¬ v.ownBlock = some w.heap.size := fun e => absurd (Hvl.out _ e) (Nat.lt_irrefl _)
  have b0 : w1.cell? ⟨w.heap.size, 0, none⟩ = some (.int .i64 x) := hf1.cell_some (by simp) hnb
  have b1 : w1.cell? ⟨w.heap.size, 1, none⟩ = some (.int .i64 y) := hf1.cell_some (by simp) hnb
  have hF1 : Fr (fun q => v.ownBlock = some q) w w1 := (((Fr.refl _ w).alloc _).alloc _).trans hf1
  obtain ⟨g1, cap1, rfl, hpl⟩ := hk1.place
  have HA : Hid (w1.ownsRow base 82 2 v n xs ∧ Fr (fun q => v.ownBlock = some q) w w1 ∧ (g1 = w.heap.size + 2 ∨ v.ownBlock = some g1)) := ⟨hko, hF1, by simpa using hpl⟩
  have hsz : w.heap.size + 2 ≤ w1.heap.size := by simpa using hs1
  clear hk1 hko hf1 hF1 hpl hs1 hnb hown
  go_wp2_with (at_builtin; refine wpList_append_kind _ rfl (.tmp 10) (.tmp 12) 67 rfl base 82 i0 (.agg #[.int .i64 0, .int .i64 0]) 2 16 Tryz.underlying67 hi0 hz0 hz1 hz2 rfl (by decide) _ _ _ rfl (hown1.alloc _) ⟨w1.heap.size, 0, none⟩ 1 1 [.int .i64 x, .int .i64 y] (by decide) rfl rfl ?d1 ?d2 ?d3 ?d4 ?d5 ?_)
  case d1 =>
    intro j u hj
    match j, hj with
    | 0, hj => simp at hj; subst hj; simp [Addr.add]
    | 1, hj => simp at hj; subst hj; simp [Addr.add]
  case d2 => intro u hu; simp at hu; rcases hu with rfl | rfl <;> rfl
  case d3 => unfold maxLen; omega
  case d4 => omega
  case d5 => simp; omega
  intro v2 w2 hown2 hk2
  have HB : Hid (∃ vv, vv = v2 ∧ w2.ownsRow base 82 2 vv (n + 2) (xs ++ [.int .i64 x, .int .i64 y, .int .i64 x, .int .i64 y]) ∧ w2.ownsRow base 82 2 v n xs ∧ Fr (fun q => v.ownBlock = some q) w w2 ∧ (∀ g, vv.ownBlock = some g → w.heap.size ≤ g ∨ v.ownBlock = some g)) :=
    ⟨v2, rfl, marked_end hown1 HA.out.1 HA.out.2.1 HA.out.2.2 hsz hown2 hk2⟩
  clear hown2 hk2 hown1
  go_wp2
  go_ret
  obtain ⟨vv, rfl, h1, h2, h3, h4⟩ := HB.out
  exact ⟨_, rfl, h1, h2, h3, h4⟩
end Go.Proofs.YtcmnejcojphijaaGreatDoor
