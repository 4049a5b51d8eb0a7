/-
  The program's reader tells the document's error and place. (No walk here.)
-/
import Derived.Test.YtcmnejcojphijaaDevR
namespace Go.Proofs.Ytcmnejcojphijaa
open Go.RowKit
set_option linter.unusedVariables false

section
variable {s : ByteArray} {y : Nat × Nat} {d : Int} (t : List (Nat × Bool))
theorem pk_zero {c : Nat} (hc : c ≠ 0) (h : pk s y = c) : y.2 = 0 ∧ bt s y.1 = c := by
  obtain ⟨_, h2, h3⟩ := pk_in (s := s) (z := y) (by rw [h]; exact hc)
  exact ⟨h2, by rw [← h3, h]⟩
theorem fin_ok {S : List (Nat × Bool)} (h : y.2 = 0) : fin s y S d = run s S y.1 d := by unfold fin; rw [if_pos h]
theorem fin_g1 (h : pk s y = 35) : fin s y ((103, true) :: t) d = fin s (tk s 35 y) ((86, true) :: t) d := by
  obtain ⟨h1, h2⟩ := pk_zero (by decide) h
  unfold tk
  rw [if_pos h, fin_ok h1, R_g_hash t h2, fin_ok (show ((y.1 + 1, y.2) : Nat × Nat).2 = 0 from h1)]
theorem fin_g2 (h : greatN (pk s y) = true) : fin s y ((103, true) :: t) d = fin s (bx s y) ((91, false) :: (111, true) :: (93, false) :: t) d := by
  obtain ⟨_, h1, h2⟩ := pk_in (great0 h)
  unfold bx
  rw [if_pos h, fin_ok h1, R_g_great t (by rw [← h2]; exact h), fin_ok (show ((y.1 + 1, y.2) : Nat × Nat).2 = 0 from h1)]
theorem fin_g3 (hi : In s y) (h1 : pk s y ≠ 35) (h2 : greatN (pk s y) ≠ true) : fin s y ((103, true) :: t) d = fin s y ((111, true) :: (116, true) :: t) d := by
  by_cases h : y.2 = 0
  · rw [pk_ok h] at h1 h2
    rw [fin_ok h, fin_ok h, R_g_else t hi (Bool.eq_false_iff.2 h2) h1]
  · exact fin_bad h
theorem fin_p1 (h : pk s y = 91) : fin s y ((112, true) :: t) d = fin s y ((91, false) :: (111, true) :: (93, false) :: (61, false) :: (111, true) :: t) d := by
  obtain ⟨h1, h2⟩ := pk_zero (by decide) h
  rw [fin_ok h1, fin_ok h1, R_p_br t h2, run_take _ (by decide) (by decide) (by decide) h2]
theorem fin_p2 (hi : In s y) (h1 : pk s y ≠ 91) : fin s y ((112, true) :: t) d = fin s y ((61, false) :: (71, true) :: t) d := by
  by_cases h : y.2 = 0
  · rw [pk_ok h] at h1
    rw [fin_ok h, fin_ok h, R_p_else t hi h1]
  · exact fin_bad h
theorem fin_G1 (h : pk s y = 91) : fin s y ((71, true) :: t) d = fin s y ((91, false) :: (111, true) :: (93, false) :: t) d := by
  obtain ⟨h1, h2⟩ := pk_zero (by decide) h
  rw [fin_ok h1, fin_ok h1, R_G_br t h2, run_take _ (by decide) (by decide) (by decide) h2]
theorem fin_G2 (hi : In s y) (h1 : pk s y ≠ 91) : fin s y ((71, true) :: t) d = fin s y ((86, true) :: t) d := by
  by_cases h : y.2 = 0
  · rw [pk_ok h] at h1
    rw [fin_ok h, fin_ok h, R_G_else t hi h1]
  · exact fin_bad h
theorem fin_open (n : Nat) (hi : In s y) : fin s y ((123, false) :: t) (n : Int) = fin s (tk s 123 (if pk s y = 123 ∧ 8 ≤ n then rf 3 y else y)) t ((n : Int) + 1) := by
  by_cases h : y.2 = 0
  · rw [pk_ok h]
    by_cases e : bt s y.1 = 123
    · have hl := byte_in e (by decide)
      by_cases h8 : 8 ≤ n
      · rw [if_pos ⟨e, h8⟩, rf_ok 3 h, tk_bad (by decide) (show ((y.1, 3) : Nat × Nat).2 ≠ 0 by simp), fin_ok h, run_hit _ hl e, if_pos rfl, if_pos (by omega)]
        rfl
      · rw [if_neg (fun q => h8 q.2), fin_ok h, run_hit _ hl e, if_pos rfl, if_neg (by omega)]
        unfold tk
        rw [pk_ok h, if_pos e, fin_ok (show ((y.1 + 1, y.2) : Nat × Nat).2 = 0 from h)]
    · rw [if_neg (fun q => e q.1), fin_ok h, run_miss t hi e]
      unfold tk
      rw [pk_ok h, if_neg e, rf_ok 2 h]
      rfl
  · rw [pk_bad h, if_neg (by omega), tk_bad (by decide) h]
    unfold fin
    rw [if_neg h, if_neg h]
theorem fin_close (hi : In s y) : fin s y ((125, false) :: t) d = fin s (tk s 125 y) t (d - 1) := by
  by_cases h : y.2 = 0
  · unfold tk
    rw [pk_ok h]
    by_cases e : bt s y.1 = 125
    · rw [if_pos e, fin_ok h, run_hit _ (byte_in e (by decide)) e, if_neg (by decide), if_pos rfl, fin_ok (show ((y.1 + 1, y.2) : Nat × Nat).2 = 0 from h)]
    · rw [if_neg e, rf_ok 2 h, fin_ok h, run_miss t hi e]
      rfl
  · rw [tk_bad (by decide) h]
    unfold fin
    rw [if_neg h, if_neg h]
end

/-- what is expected behind the S in which the reader is; K: the open parts' kinds, the innermost first -/
def tl : List Nat → List (Nat × Bool)
  | [] => []
  | k :: K => if k = 8 then (125, false) :: (123, false) :: (83, true) :: (125, false) :: (83, true) :: tl K else (125, false) :: (83, true) :: tl K
theorem tl_cons (k : Nat) (K : List Nat) : tl (k :: K) = if k = 8 then (125, false) :: (123, false) :: (83, true) :: (125, false) :: (83, true) :: tl K else (125, false) :: (83, true) :: tl K := rfl
def ks (P : List Pt) (O : List Nat) : List Nat := (O.map (fun o => (pOf P o).kind)).reverse
theorem pOf_app {P : List Pt} (X : List Pt) {o : Nat} (h : o < P.length) : pOf (P ++ X) o = pOf P o := by
  unfold pOf
  simp [List.getD_eq_getElem?_getD, List.getElem?_append_left h]
theorem pOf_new (P : List Pt) (t : Pt) : pOf (P ++ [t]) P.length = t := by
  unfold pOf
  simp [List.getD_eq_getElem?_getD]
theorem ks_app {P : List Pt} (X : List Pt) {O : List Nat} (h : ∀ o, o ∈ O → o < P.length) : ks (P ++ X) O = ks P O := by
  unfold ks
  congr 1
  exact List.map_congr_left fun o ho => by rw [pOf_app X (h o ho)]
theorem ks_push (P : List Pt) (O : List Nat) (o : Nat) : ks P (O ++ [o]) = (pOf P o).kind :: ks P O := by
  unfold ks; simp
theorem ks_len (P : List Pt) (O : List Nat) : (ks P O).length = O.length := by unfold ks; simp

/-- what the reader keeps to -/
structure RI (s : ByteArray) (r : Rs) : Prop where
  hin : In s r.z
  ho : ∀ o, o ∈ r.O → o < r.P.length ∧ ((pOf r.P o).kind = 8 ∨ (pOf r.P o).kind = 9 ∨ (pOf r.P o).kind = 11)
  h8 : r.z.2 = 0 → r.O.length ≤ 8

theorem last_split {O : List Nat} (h : O ≠ []) : O = O.dropLast ++ [O.getLast?.getD 0] := by
  have := List.dropLast_concat_getLast h
  rw [List.getLast?_eq_some_getLast h]
  exact this.symm

/-- the reader's error and place are the document's: one part -/
theorem part_fin {s : ByteArray} {r : Rs} (hI : RI s r) (hw : r.z.2 = 0) (hl : r.z.1 < s.size) :
    fin s r.z ((83, true) :: tl (ks r.P r.O)) (r.O.length : Int) = fin s (rPart s r).z ((83, true) :: tl (ks (rPart s r).P (rPart s r).O)) ((rPart s r).O.length : Int) := by
  obtain ⟨⟨i, w⟩, P, O⟩ := r
  have hw0 : w = 0 := hw
  subst hw0
  have hi : In s (i, 0) := hI.hin
  have hlen := fun o h => (hI.ho o h).1
  have hpk : pk s (i, 0) = bt s i := pk_ok rfl
  have hi1 : In s (i + 1, 0) := hl
  unfold rPart
  simp only [] at hlen hl ⊢
  rw [fin_ok (show ((i, 0) : Nat × Nat).2 = 0 from rfl)]
  by_cases c1 : smallN (pk s (i, 0)) = true
  · rw [if_pos c1, R_S_small _ (by rw [← hpk]; exact c1), ← fin_ok (y := (i + 1, 0)) rfl, fin_tk _ hi1 (by decide) (by decide) (by decide)]
    have hy := hi1.tk (c := 61) (by decide)
    unfold rNumber
    simp only []
    generalize tk s 61 (i + 1, 0) = y at hy ⊢
    by_cases d1 : pk s y = 35
    · rw [if_pos d1, fin_g1 _ d1, fin_bx _ (hy.tk (by decide)), fin_tk _ (hy.tk (by decide)).bx (by decide) (by decide) (by decide), ks_app _ hlen]
    · rw [if_neg d1]
      by_cases d2 : greatN (pk s y) = true
      · rw [if_pos d2, fin_g2 _ d2, fin_ix _ hy.bx, fin_tk _ hy.bx.ix (by decide) (by decide) (by decide), ks_app _ hlen]
      · rw [if_neg d2, fin_g3 _ hy d1 d2, fin_rk _ hy, fin_tk _ hy.rk (by decide) (by decide) (by decide), ks_app _ hlen]
  · rw [if_neg c1]
    by_cases c2 : greatN (pk s (i, 0)) = true
    · have hb : bx s (i, 0) = (i + 1, 0) := by unfold bx; rw [if_pos c2]
      rw [if_pos c2, R_S_great _ (by rw [← hpk]; exact c2), ← fin_ok (y := (i + 1, 0)) rfl]
      unfold rBox
      simp only []
      rw [hb]
      by_cases d1 : pk s (i + 1, 0) = 91
      · rw [if_pos d1, fin_p1 _ d1, fin_ix _ hi1, fin_tk _ hi1.ix (by decide) (by decide) (by decide), fin_op _ (hi1.ix.tk (by decide)), fin_tk _ (hi1.ix.tk (by decide)).op (by decide) (by decide) (by decide), ks_app _ hlen]
      · rw [if_neg d1, fin_p2 _ hi1 d1, fin_tk _ hi1 (by decide) (by decide) (by decide)]
        have hy := hi1.tk (c := 61) (by decide)
        generalize tk s 61 (i + 1, 0) = y at hy ⊢
        by_cases d2 : pk s y = 91
        · rw [if_pos d2, fin_G1 _ d2, fin_ix _ hy, fin_tk _ hy.ix (by decide) (by decide) (by decide), ks_app _ hlen]
        · rw [if_neg d2, fin_G2 _ hy d2, fin_bx _ hy, fin_tk _ hy.bx (by decide) (by decide) (by decide), ks_app _ hlen]
    · rw [if_neg c2]
      rw [hpk] at c1 c2 ⊢
      have htk : ∀ c, bt s i = c → tk s c (i, 0) = (i + 1, 0) := fun c e => by unfold tk; rw [hpk, if_pos e]
      by_cases c3 : bt s i = 126
      · rw [if_pos c3, R_S_drop _ c3, ← fin_ok (y := (i + 1, 0)) rfl, fin_bx _ hi1, fin_tk _ hi1.bx (by decide) (by decide) (by decide)]
        unfold rEnd
        simp only []
        rw [htk 126 c3, ks_app _ hlen]
      · rw [if_neg c3]
        by_cases c4 : bt s i = 33
        · rw [if_pos c4, R_S_print _ c4, ← fin_ok (y := (i + 1, 0)) rfl, fin_op _ hi1, fin_tk _ hi1.op (by decide) (by decide) (by decide)]
          unfold rPrint
          simp only []
          rw [htk 33 c4, ks_app _ hlen]
        · rw [if_neg c4]
          have hpush : ∀ t : Pt, ks (P ++ [t]) (O ++ [P.length]) = t.kind :: ks P O := fun t => by rw [ks_push, pOf_new, ks_app _ hlen]
          have hcast : ((O.length + 1 : Nat) : Int) = (O.length : Int) + 1 := by omega
          by_cases c5 : bt s i = 63
          · rw [if_pos c5, R_S_if _ c5, ← fin_ok (y := (i + 1, 0)) rfl, fin_op _ hi1, fin_open _ O.length hi1.op]
            unfold rOpen
            simp only [List.length_append, List.length_cons, List.length_nil, Nat.zero_add]
            rw [htk 63 c5, hpush, hcast]
            rfl
          · rw [if_neg c5]
            by_cases c6 : bt s i = 64
            · rw [if_pos c6, R_S_loop _ c6, ← fin_ok (y := (i + 1, 0)) rfl, fin_op _ hi1, fin_open _ O.length hi1.op]
              unfold rOpen
              simp only [List.length_append, List.length_cons, List.length_nil, Nat.zero_add]
              rw [htk 64 c6, hpush, hcast]
              rfl
            · rw [if_neg c6]
              have hno : noStmt (bt s i) := ⟨Bool.eq_false_iff.2 c1, Bool.eq_false_iff.2 c2, c4, c3, c5, c6⟩
              rw [R_S_none _ hi hno]
              have hmiss : ∀ K, bt s i ≠ 125 ∨ K = [] → run s (tl K) i (O.length : Int) = (2, i) := fun K h => by
                cases K with
                | nil => rw [show tl [] = [] from rfl, run_nil hi, if_pos hl]
                | cons k K =>
                  have h2 : bt s i ≠ 125 := by
                    rcases h with h | h
                    · exact h
                    · cases h
                  unfold tl
                  split
                  · exact run_miss _ hi h2
                  · exact run_miss _ hi h2
              by_cases c7 : bt s i = 125
              · rw [if_pos c7]
                unfold rClose
                simp only []
                by_cases hO : O = []
                · subst hO
                  rw [if_pos rfl, show ks P [] = [] from rfl, hmiss [] (.inr rfl), rf_ok 2 rfl]
                  rfl
                · rw [if_neg hO]
                  have hsp := last_split hO
                  generalize hla : O.getLast?.getD 0 = la at hsp ⊢
                  generalize O.dropLast = O1 at hsp ⊢
                  have hk := (hI.ho la (by rw [hsp]; simp)).2
                  have hlen1 : ∀ o, o ∈ O1 → o < P.length := fun o ho => hlen o (by rw [hsp]; simp [ho])
                  simp only [] at hk
                  subst hsp
                  rw [ks_push, List.length_append, List.length_singleton]
                  have h9 : O1.length + 1 ≤ 8 := by have := hI.h8 rfl; simpa using this
                  have hcd : ((O1.length + 1 : Nat) : Int) - 1 = (O1.length : Int) := by omega
                  by_cases k7 : (pOf P la).kind = 8
                  · rw [if_pos k7]
                    rw [tl_cons, if_pos k7, ← fin_ok (y := (i, 0)) rfl, fin_close _ hi, hcd, fin_open _ O1.length (hi.tk (by decide)), if_neg (fun q => absurd q.2 (by omega))]
                    simp only [List.length_append, List.length_cons, List.length_nil, Nat.zero_add]
                    rw [ks_push, pOf_new, ks_app _ hlen1]
                    rw [show ((O1.length + 1 : Nat) : Int) = (O1.length : Int) + 1 by omega]
                    rfl
                  · rw [if_neg k7]
                    rw [tl_cons, if_neg k7, ← fin_ok (y := (i, 0)) rfl, fin_close _ hi, hcd]
                    split
                    · simp only []
                      rw [ks_app _ hlen1]
                    · simp only []
                      rw [ks_app _ hlen1]
              · rw [if_neg c7, hmiss _ (.inl c7), rf_ok 2 rfl]
                rfl
end Go.Proofs.Ytcmnejcojphijaa
