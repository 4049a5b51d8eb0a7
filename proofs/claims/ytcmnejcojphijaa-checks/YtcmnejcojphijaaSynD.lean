import Derived.Test.YtcmnejcojphijaaSynC
namespace Go.Proofs.Ytcmnejcojphijaa
open Go.RowKit

def entS (s : ByteArray) (own : Bool) (j : Nat) : Nat × Bool := (bt s j, partB (bt s j) && !(own && (j + 1 == s.size)))
def pushS (s : ByteArray) (own : Bool) (i : Nat) : List (Nat × Bool) := (List.range i).map (entS s own)
theorem pushS_succ (s : ByteArray) (own : Bool) (i : Nat) : pushS s own (i + 1) = pushS s own i ++ [entS s own i] := by simp [pushS, List.range_succ]

theorem StkAt.grow {w wr w2 : World} {o : Obj} {kp base : Nat} {v v' : Value} {stk : List (Nat × Bool)} {e : Nat × Bool} (h : StkAt wr kp base v stk) (hk : AppKind (wr.alloc o).drew w2 v v' stk.length 1)
    (hown : w2.ownsRow base 102 2 v' (stk.length + 1) (stk.flatMap entC ++ [.int .u8 (e.1 : Int), .bool e.2])) :
    w2.cell? ⟨kp, 0, none⟩ = some v ∧ w2.frozen? ⟨kp, 0, none⟩ = false ∧ StkAt (w2.setCell ⟨kp, 0, none⟩ v') kp base v' (stk ++ [e]) ∧ (∀ S : Nat → Prop, Fr S w wr → (∀ k, k < w.heap.size → (k = kp ∨ v.ownBlock = some k) → S k) → Fr S w (w2.setCell ⟨kp, 0, none⟩ v')) ∧
      (∀ k, v'.ownBlock = some k → wr.heap.size ≤ k ∨ v.ownBlock = some k) := by
  have hF : Fr (fun k => v.ownBlock = some k) wr w2 := (((Fr.refl _ wr).alloc o).drew).trans hk.fr
  have hkl : kp < wr.heap.size := World.block_lt_of_cell? _ _ h.c
  have c2 := hF.cell_some h.c h.ne
  have f2 : ∀ x, w2.frozen? ⟨kp, x, none⟩ = false := fun x => (hF.frozen (p := ⟨kp, x, none⟩) hkl h.ne).trans (h.f x)
  have hpl : ∀ k, v'.ownBlock = some k → wr.heap.size ≤ k ∨ v.ownBlock = some k := fun k hk2 => by
    obtain ⟨g2, cap2, rfl, hp⟩ := hk.place
    have e3 : g2 = k := by simpa [Value.ownBlock] using hk2
    subst e3
    rcases hp with q | q
    · exact .inl (by simp at q; omega)
    · exact .inr q
  have hne : v'.ownBlock ≠ some kp := fun e => by
    rcases hpl kp e with q | q
    · omega
    · exact h.ne q
  refine ⟨c2, f2 0, ⟨cell_same c2, fun x => by rw [World.frozen?_setCell]; exact f2 x, ?_, hne⟩, fun S hS hsub => ?_, hpl⟩
  · have hx : (stk ++ [e]).flatMap entC = stk.flatMap entC ++ [.int .u8 (e.1 : Int), .bool e.2] := by simp [entC]
    rw [hx, List.length_append]
    exact ((Fr.refl (OneB kp) w2).setCell (p := ⟨kp, 0, none⟩) (fun _ => rfl) _).owns hown (fun k hk2 e => by have e' : k = kp := e; subst e'; exact hne hk2)
  · exact (hS.then hF (fun k hk2 e => hsub k hk2 (.inr e))).setCell (p := ⟨kp, 0, none⟩) (fun hlt => hsub _ hlt (.inl rfl)) _

set_option maxRecDepth 8000 in
set_option maxHeartbeats 2000000 in
theorem push_any (w : World) (kp base : Nat) (v : Value) (stk : List (Nat × Bool)) (s : ByteArray) (own : Bool) (h : StkAt w kp base v stk) (hb : base ≤ w.heap.size) (hs : s.size ≤ 1000) (hl : stk.length ≤ 1000000) :
    Calls Try.prog 40 #[.pointer (some ⟨kp, 0, none⟩), .string s, .bool own] w fun e w' => e = .returned (.tuple #[]) ∧ ∃ v', StkAt w' kp base v' (stk ++ pushS s own s.size) ∧ Fr (fun k => k = kp ∨ v.ownBlock = some k) w w' := by
  obtain ⟨i0, hi0, hz0, hz1, hz2⟩ := info_parts Try.infoExp
  go_enter Try.func40, Try.ntmps40
  go_wp2
  go_loopw [6] (fun t wr => ∃ (i : Nat) (v' : Value), i ≤ s.size ∧ t = .int .i64 i ∧ StkAt wr kp base v' (stk ++ pushS s own i) ∧ Fr (fun k => k = kp ∨ v.ownBlock = some k) w wr ∧ (∀ k, v'.ownBlock = some k → w.heap.size ≤ k ∨ v.ownBlock = some k)) (fun t _ => s.size - (intOf t).toNat)
  case atStart => exact ⟨0, v, Nat.zero_le _, rfl, by simpa [pushS] using h, Fr.refl _ _, fun k hk => .inr hk⟩
  case round =>
    obtain ⟨i, v1, hi, rfl, hS, hF, hv⟩ := hrel
    by_cases hlt : i < s.size
    · have Hbt : Hid (bt s i = s[i].toNat) := bt_in hlt
      have HP : Hid (∀ W : World, Calls Try.prog 59 #[.int .u8 (s[i].toNat : Int), .string ⟨#[83, 111, 100, 101, 86, 103, 116, 71, 112]⟩] W fun e w' => e = .returned (.bool (partB (bt s i))) ∧ w' = W) := fun W => by
        rw [Hbt.out]; exact among_part W _
      obtain ⟨pb, hpb⟩ : ∃ pb, pb = partB (bt s i) := ⟨_, rfl⟩
      rw [← hpb] at HP
      have HE : Hid (entS s own i = (s[i].toNat, pb && !(own && (i + 1 == s.size)))) := by show entS s own i = _; unfold entS; rw [Hbt.out, ← Hbt.out, ← hpb]
      clear hpb
      go_upto_region 3 with fail
      go_cut [7] (fun t wx => t = .bool (entS s own i).2 ∧ wx = wr)
      case first =>
        go_wp2_with fail
        refine (HP.out _).mono ?_
        rintro e w1 ⟨rfl, hw⟩
        have hw2 := hw.symm
        clear hw
        subst hw2
        cases pb
        · go_wp2_with fail
          go_meet
          case rel => exact ⟨by rw [HE.out]; rfl, rfl⟩
        · cases own
          · go_wp2_with fail
            go_meet
            case rel => exact ⟨by rw [HE.out]; rfl, rfl⟩
          · by_cases hlast : i + 1 = s.size
            · have hb1 : ((i : Int) == (s.size : Int) - 1) = true := beq_iff_eq.2 (by omega)
              have hb2 : (i + 1 == s.size) = true := beq_iff_eq.2 hlast
              have Hb2 : Hid _ := hb2
              clear hb2
              clear hlast
              go_wp2_with fail
              go_meet
              case rel => exact ⟨by rw [HE.out, Hb2.out]; rfl, rfl⟩
            · have hb1 : ((i : Int) == (s.size : Int) - 1) = false := beq_eq_false_iff_ne.2 (by omega)
              have hb2 : (i + 1 == s.size) = false := beq_eq_false_iff_ne.2 hlast
              have Hb2 : Hid _ := hb2
              clear hb2
              clear hlast
              go_wp2_with fail
              go_meet
              case rel => exact ⟨by rw [HE.out, Hb2.out]; rfl, rfl⟩
      case rest =>
        obtain ⟨rfl, rfl⟩ := hcut
        have hc := hS.c
        have hrow := hS.row
        have hkl : kp < wc.heap.size := World.block_lt_of_cell? _ _ hc
        have hlen : (stk ++ pushS s own i).length = stk.length + i := by simp [pushS]
        have hsz := hF.size
        obtain ⟨q, hq⟩ : ∃ q, q = (entS s own i).2 := ⟨_, rfl⟩
        have HEE : Hid (entS s own i = (s[i].toNat, q)) := by show _ = _; rw [hq, HE.out]
        have HSt : Hid (StkAt wc kp base v1 (stk ++ pushS s own i)) := hS
        have HPS : Hid (stk ++ pushS s own (i + 1) = (stk ++ pushS s own i) ++ [(s[i].toNat, q)]) := by show _ = _; rw [pushS_succ, HEE.out, List.append_assoc]
        generalize hst : stk ++ pushS s own i = st at *
        rw [← hq]
        clear hq HE HP hS hst HEE
        have Hv : Hid (∀ k, v1.ownBlock = some k → w.heap.size ≤ k ∨ v.ownBlock = some k) := hv
        clear hv
        have hln : st.length ≤ 1001000 := by omega
        clear hlen
        go_upto_region 4 with fail
        go_region_law ((refine step_append_kind rfl _ _ 94 rfl base 102 i0 (.agg #[.int .u8 0, .bool false]) 2 2 Try.underlying94 hi0 hz0 hz1 hz2 rfl (by decide) _ _ _ rfl ((hrow.alloc _).drew) ⟨wc.heap.size, 0, none⟩ 1 1 [.int .u8 (s[i].toNat : Int), .bool q] (by decide) rfl rfl (by intro j u hj; match j, hj with | 0, hj => (simp at hj; subst hj; simp [Addr.add]) | 1, hj => (simp at hj; subst hj; simp [Addr.add])) (by intro u hu; simp at hu; rcases hu with rfl | rfl <;> rfl) (by unfold maxLen; omega) (by omega) (by simp; omega) ?_; intro v2 w2 hown2 hk2; obtain ⟨g1, g2, g3, g4, g5⟩ := HSt.out.grow (w := w) (e := (s[i].toNat, q)) hk2 hown2; obtain ⟨gb, cb, hve, _⟩ := hk2.place; subst hve; have HG := show Hid (_ ∧ _ ∧ _) from ⟨g3, g4, g5⟩; clear g3 g4 g5 hown2 hk2))
        all_goals
          go_wp2
          go_roundw
          case rel =>
            refine ⟨i + 1, _, by omega, by go_num, by rw [HPS.out]; exact HG.out.1, HG.out.2.1 _ hF (fun k hk e => ?_), fun k hk => ?_⟩
            · rcases e with e | e
              · exact .inl e
              · rcases Hv.out k e with e2 | e2
                · omega
                · exact .inr e2
            · rcases HG.out.2.2 k hk with e | e
              · exact .inl (by omega)
              · exact Hv.out k e
          case measure => simp [intOf]; omega
    · have hie : i = s.size := by omega
      subst hie
      go_wp2
      go_end0
      exact ⟨rfl, v1, hS, hF⟩
end Go.Proofs.Ytcmnejcojphijaa
