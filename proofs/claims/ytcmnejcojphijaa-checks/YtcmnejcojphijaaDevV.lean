/-
  The program's reader at its end. (No walk here.)
-/
import Derived.Test.YtcmnejcojphijaaDevU
namespace Go.Proofs.Ytcmnejcojphijaa
open Go.RowKit
set_option linter.unusedVariables false

def r0 : Rs := ⟨(0, 0), [], []⟩
theorem rj0 (s : ByteArray) : RJ s r0 :=
  ⟨⟨Nat.zero_le _, fun o ho => absurd ho (by simp [r0]), fun _ => Nat.zero_le _⟩, ⟨fun i hi => absurd hi (Nat.not_lt_zero _), fun i hi => absurd hi (Nat.not_lt_zero _), fun i hi => absurd hi (Nat.not_lt_zero _)⟩, Nat.zero_le _, fun _ => Nat.le_refl _, Nat.zero_le _, Nat.zero_le _⟩
theorem rj_step {s : ByteArray} {r : Rs} (hs : s.size ≤ 90000) (h : RJ s r) : RJ s (rStep s r) := by
  unfold rStep
  split
  · rename_i q
    exact (rj_part hs h q.1 q.2).1
  · exact h
theorem rj_iter {s : ByteArray} (hs : s.size ≤ 90000) : ∀ (n : Nat) {r : Rs}, RJ s r → RJ s (rIter s n r)
  | 0, _, h => h
  | n + 1, _, h => rj_iter hs n (rj_step hs h)
theorem fin_iter {s : ByteArray} (hs : s.size ≤ 90000) : ∀ (n : Nat) {r : Rs}, RJ s r → fin s r.z ((83, true) :: tl (ks r.P r.O)) (r.O.length : Int) = fin s (rIter s n r).z ((83, true) :: tl (ks (rIter s n r).P (rIter s n r).O)) ((rIter s n r).O.length : Int)
  | 0, _, _ => rfl
  | n + 1, r, h => by
    refine Eq.trans ?_ (fin_iter hs n (rj_step hs h))
    unfold rStep
    split
    · rename_i q
      exact part_fin h.toRI q.1 q.2
    · rfl

/-- what the reader tells -/
def told (r : Rs) : Nat × Nat := if r.z.2 ≠ 0 then (r.z.2, r.z.1) else if r.O = [] then (0, 0) else (2, r.z.1)
theorem run_told {s : ByteArray} (hs : s.size ≤ 90000) (n : Nat) (hst : (rIter s n r0).z.2 ≠ 0 ∨ ¬ (rIter s n r0).z.1 < s.size) : run s [(83, true)] 0 0 = told (rIter s n r0) := by
  have h1 := fin_iter hs n (rj0 s)
  have hj := rj_iter hs n (rj0 s)
  have h0 : fin s r0.z ((83, true) :: tl (ks r0.P r0.O)) (r0.O.length : Int) = run s [(83, true)] 0 0 := rfl
  rw [h0] at h1
  rw [h1]
  generalize rIter s n r0 = r at hj hst ⊢
  unfold told fin
  by_cases h2 : r.z.2 = 0
  · rw [if_pos h2, if_neg (fun q => q h2)]
    have hl : ¬ r.z.1 < s.size := by
      rcases hst with q | q
      · exact absurd h2 q
      · exact q
    have hin : r.z.1 ≤ s.size := hj.hin
    have e : r.z.1 = s.size := by omega
    have hb : bt s r.z.1 = 0 := bt_out hl
    rw [R_S_none _ hin (by rw [hb]; unfold noStmt; decide)]
    by_cases hO : r.O = []
    · rw [if_pos hO, hO]
      show run s [] r.z.1 _ = _
      rw [run_nil hin, if_neg hl]
    · rw [if_neg hO]
      have hk : ks r.P r.O ≠ [] := fun q => hO (by have := ks_len r.P r.O; rw [q] at this; exact List.length_eq_zero_iff.1 this.symm)
      obtain ⟨k, K, hkk⟩ := List.exists_cons_of_ne_nil hk
      rw [hkk, tl_cons]
      split
      · exact run_miss _ hin (by rw [hb]; decide)
      · exact run_miss _ hin (by rw [hb]; decide)
  · rw [if_neg h2, if_pos h2]

/-- where nothing is wrong the parts are those of the text -/
theorem seg_told {s : ByteArray} (hs : s.size ≤ 90000) (n : Nat) (h2 : (rIter s n r0).z.2 = 0) (hl : ¬ (rIter s n r0).z.1 < s.size) (hO : (rIter s n r0).O = []) : Seg0 (pOf (rIter s n r0).P) s (rIter s n r0).P.length := by
  have hr := run_told hs n (.inr hl)
  have ht : told (rIter s n r0) = (0, 0) := by unfold told; rw [if_neg (fun q => q h2), if_pos hO]
  rw [ht] at hr
  have hp := prog_of_ok hr
  obtain ⟨m, hm⟩ := read_all _ _ _ hp [] []
  have still : rStep s (rIter s n r0) = rIter s n r0 := rStep_end hl
  have meet : ∀ d, rIter s (n + d) r0 = rIter s n r0 := fun d => by rw [rIter_add, rIter_still still]
  have hr0 : (⟨(0, 0), [], []⟩ : Rs) = r0 := rfl
  rw [hr0] at hm
  rcases hm with hm | ⟨X, hm, hseg⟩
  · exfalso
    by_cases q : m ≤ n
    · have := rIter_bad (n := n - m) hm
      rw [show m + (n - m) = n by omega] at this
      exact this h2
    · have := meet (m - n)
      rw [show n + (m - n) = m by omega] at this
      rw [this] at hm
      exact hm h2
  · have he : rIter s n r0 = rIter s m r0 := by
      by_cases q : m ≤ n
      · have hst2 : rStep s (rIter s m r0) = rIter s m r0 := rStep_end (by rw [hm]; exact Nat.lt_irrefl _)
        have := rIter_add s m (n - m) r0
        rw [show m + (n - m) = n by omega, rIter_still hst2] at this
        exact this
      · have := meet (m - n)
        rw [show n + (m - n) = m by omega] at this
        exact this.symm
    rw [he, hm]
    have := hseg (fun _ => false) clean_none
    simpa [ACond, Seg0] using this

theorem list_last {P : List Pt} (h : P ≠ []) : ∃ P' t, P = P' ++ [t] := ⟨P.dropLast, P.getLast h, (List.dropLast_concat_getLast h).symm⟩
/-- behind the parts nothing is closed -/
theorem clo_zero : ∀ (n : Nat) (P : List Pt), P.length = n → (∀ i, i < P.length → closes (pOf P i) = true → (pOf P i).opn < i) → ∀ q, P.length ≤ q → cloL P q = 0
  | 0, P, hn, _, q, _ => by
    have e : P = [] := List.eq_nil_of_length_eq_zero hn
    subst e
    rfl
  | n + 1, P, hn, h, q, hq => by
    obtain ⟨P', t, rfl⟩ := list_last (P := P) (fun e => by rw [e] at hn; simp at hn)
    have hl : (P' ++ [t]).length = P'.length + 1 := by simp
    rw [hl] at hq hn
    have ih := clo_zero n P' (by omega) (fun i hi hc => by
      have := h i (by rw [hl]; omega)
      rw [pOf_app _ hi] at this
      exact this hc) q (by omega)
    rw [clo_push]
    split
    · rename_i hc
      have := h P'.length (by rw [hl]; omega) (by rw [pOf_new]; exact hc)
      rw [pOf_new] at this
      rw [upN_ne _ _ (by omega)]
      exact ih
    · exact ih
theorem rj_zero {s : ByteArray} {r : Rs} (h : RJ s r) : cloL r.P r.P.length = 0 := clo_zero _ r.P rfl (fun i hi hc => h.fl.op i hi (by unfold closes at hc; simp at hc; omega)) _ (Nat.le_refl _)
/-- a brace that one part alone closes -/
theorem clo_at : ∀ (n : Nat) (P : List Pt), P.length = n → ∀ k, k < P.length → closes (pOf P k) = true → (∀ q, q < P.length → closes (pOf P q) = true → (pOf P q).opn = (pOf P k).opn → q = k) → cloL P (pOf P k).opn = k
  | 0, P, hn, k, hk, _, _ => by omega
  | n + 1, P, hn, k, hk, hc, hu => by
    obtain ⟨P', t, rfl⟩ := list_last (P := P) (fun e => by rw [e] at hn; simp at hn)
    have hl : (P' ++ [t]).length = P'.length + 1 := by simp
    rw [hl] at hn hk hu
    rw [clo_push]
    by_cases e : k = P'.length
    · subst e
      rw [pOf_new] at hc ⊢
      rw [if_pos hc, upN_at]
    · have hk' : k < P'.length := by omega
      rw [pOf_app _ hk'] at hc hu ⊢
      have ih := clo_at n P' (by omega) k hk' hc (fun q hq hqc hqo => hu q (by omega) (by rw [pOf_app _ hq]; exact hqc) (by rw [pOf_app _ hq]; exact hqo))
      split
      · rename_i hct
        have hne : (pOf P' k).opn ≠ t.opn := fun q => e (hu P'.length (by omega) (by rw [pOf_new]; exact hct) (by rw [pOf_new]; exact q.symm)).symm
        rw [upN_ne _ _ hne]
        exact ih
      · exact ih
/-- what is open is not closed yet; nothing is closed twice -/
structure RU (r : Rs) : Prop where
  nd : r.O.Nodup
  un : ∀ o, o ∈ r.O → ∀ q, q < r.P.length → closes (pOf r.P q) = true → (pOf r.P q).opn ≠ o
  uq : ∀ q q', q < r.P.length → q' < r.P.length → closes (pOf r.P q) = true → closes (pOf r.P q') = true → (pOf r.P q).opn = (pOf r.P q').opn → q = q'
theorem ru_plain {s : ByteArray} {r : Rs} (h : RU r) (hJ : RJ s r) {z' : Nat × Nat} {t : Pt} {O' : List Nat} (ht : closes t = false) (hO : O' = r.O ∨ O' = r.O ++ [r.P.length]) : RU ⟨z', r.P ++ [t], O'⟩ := by
  have hl : (r.P ++ [t]).length = r.P.length + 1 := by simp
  have key : ∀ q, q < (r.P ++ [t]).length → closes (pOf (r.P ++ [t]) q) = true → q < r.P.length ∧ pOf (r.P ++ [t]) q = pOf r.P q := fun q hq hc => by
    by_cases e : q = r.P.length
    · subst e; rw [pOf_new, ht] at hc; cases hc
    · have : q < r.P.length := by omega
      exact ⟨this, pOf_app _ this⟩
  refine ⟨?_, fun o ho q hq hc => ?_, fun q q' hq hq' hc hc' he => ?_⟩
  · rcases hO with rfl | rfl
    · exact h.nd
    · show (r.O ++ [r.P.length]).Nodup
      rw [List.nodup_append]
      refine ⟨h.nd, by simp, fun a ha b hb => ?_⟩
      have e : b = r.P.length := by simpa using hb
      have := (hJ.ho a ha).1
      omega
  · obtain ⟨h1, h2⟩ := key q hq hc
    show (pOf (r.P ++ [t]) q).opn ≠ o
    have hc2 : closes (pOf (r.P ++ [t]) q) = true := hc
    rw [h2] at hc2 ⊢
    have ho' : o ∈ r.O ∨ o = r.P.length := by
      rcases hO with rfl | rfl
      · exact .inl ho
      · have ho2 : o ∈ r.O ++ [r.P.length] := ho
        simpa using ho2
    rcases ho' with ho' | ho'
    · exact h.un o ho' q h1 hc2
    · have := hJ.fl.op q h1 (by unfold closes at hc2; simp at hc2; omega)
      omega
  · obtain ⟨h1, h2⟩ := key q hq hc
    obtain ⟨h3, h4⟩ := key q' hq' hc'
    have hc1 : closes (pOf (r.P ++ [t]) q) = true := hc
    have hc2 : closes (pOf (r.P ++ [t]) q') = true := hc'
    have he2 : (pOf (r.P ++ [t]) q).opn = (pOf (r.P ++ [t]) q').opn := he
    rw [h2] at hc1 he2
    rw [h4] at hc2 he2
    exact h.uq q q' h1 h3 hc1 hc2 he2
theorem ru_close {s : ByteArray} {z z' : Nat × Nat} {P : List Pt} {O1 O' : List Nat} {la : Nat} {t : Pt} (h : RU ⟨z, P, O1 ++ [la]⟩) (hJ : RJ s ⟨z, P, O1 ++ [la]⟩) (ht : t.opn = la) (hO : O' = O1 ∨ O' = O1 ++ [P.length]) : RU ⟨z', P ++ [t], O'⟩ := by
  have hl : (P ++ [t]).length = P.length + 1 := by simp
  have hnd := h.nd
  simp only [] at hnd
  rw [List.nodup_append] at hnd
  have hla : ∀ q, q < P.length → closes (pOf P q) = true → (pOf P q).opn ≠ la := fun q hq hc => h.un la (by simp) q hq hc
  have hnot : ∀ o, o ∈ O1 → o ≠ la := fun o ho e => hnd.2.2 o ho la (by simp) e
  have hlt : la < P.length := (hJ.ho la (by simp)).1
  refine ⟨?_, fun o ho q hq hc => ?_, fun q q' hq hq' hc hc' he => ?_⟩
  · rcases hO with rfl | rfl
    · exact hnd.1
    · show (O1 ++ [P.length]).Nodup
      rw [List.nodup_append]
      refine ⟨hnd.1, by simp, fun a ha b hb => ?_⟩
      have e : b = P.length := by simpa using hb
      have := (hJ.ho a (by simp [ha])).1
      simp only [] at this
      omega
  · show (pOf (P ++ [t]) q).opn ≠ o
    have hq' : q < (P ++ [t]).length := hq
    have hc2 : closes (pOf (P ++ [t]) q) = true := hc
    have ho' : o ∈ O1 ∨ o = P.length := by
      rcases hO with rfl | rfl
      · exact .inl ho
      · have ho2 : o ∈ O1 ++ [P.length] := ho
        simpa using ho2
    by_cases e : q = P.length
    · subst e
      rw [pOf_new, ht]
      rcases ho' with ho' | ho'
      · exact fun e => hnot o ho' e.symm
      · omega
    · have h1 : q < P.length := by omega
      rw [pOf_app _ h1] at hc2 ⊢
      rcases ho' with ho' | ho'
      · exact h.un o (by simp [ho']) q h1 hc2
      · have := hJ.fl.op q h1 (by unfold closes at hc2; simp at hc2; simp only []; omega)
        simp only [] at this
        omega
  · have hq1 : q < (P ++ [t]).length := hq
    have hq2 : q' < (P ++ [t]).length := hq'
    have hc1 : closes (pOf (P ++ [t]) q) = true := hc
    have hc2 : closes (pOf (P ++ [t]) q') = true := hc'
    have he2 : (pOf (P ++ [t]) q).opn = (pOf (P ++ [t]) q').opn := he
    by_cases e : q = P.length
    · by_cases e' : q' = P.length
      · omega
      · have h1 : q' < P.length := by omega
        subst e
        rw [pOf_app _ h1] at hc2 he2
        rw [pOf_new, ht] at he2
        exact absurd he2.symm (hla q' h1 hc2)
    · have h1 : q < P.length := by omega
      rw [pOf_app _ h1] at hc1 he2
      by_cases e' : q' = P.length
      · subst e'
        rw [pOf_new, ht] at he2
        exact absurd he2 (hla q h1 hc1)
      · have h2 : q' < P.length := by omega
        rw [pOf_app _ h2] at hc2 he2
        exact h.uq q q' h1 h2 hc1 hc2 he2
theorem ru_part {s : ByteArray} {r : Rs} (h : RU r) (hJ : RJ s r) : RU (rPart s r) := by
  have bad : RU ⟨rf 2 r.z, r.P, r.O⟩ := ⟨h.nd, h.un, h.uq⟩
  unfold rPart
  split
  · unfold rNumber
    split
    · exact ru_plain h hJ rfl (.inl rfl)
    · split
      · exact ru_plain h hJ rfl (.inl rfl)
      · exact ru_plain h hJ rfl (.inl rfl)
  · split
    · unfold rBox
      split
      · exact ru_plain h hJ rfl (.inl rfl)
      · split
        · exact ru_plain h hJ rfl (.inl rfl)
        · exact ru_plain h hJ rfl (.inl rfl)
    · split
      · exact ru_plain h hJ rfl (.inl rfl)
      · split
        · exact ru_plain h hJ rfl (.inl rfl)
        · split
          · exact ru_plain h hJ rfl (.inr rfl)
          · split
            · exact ru_plain h hJ rfl (.inr rfl)
            · split
              · unfold rClose
                split
                · exact bad
                · rename_i hO
                  obtain ⟨z, P, O⟩ := r
                  simp only [] at hO ⊢
                  have hsp := last_split hO
                  generalize O.getLast?.getD 0 = la at hsp ⊢
                  generalize O.dropLast = O1 at hsp ⊢
                  subst hsp
                  split
                  · exact ru_close h hJ rfl (.inr rfl)
                  · split
                    · exact ru_close h hJ rfl (.inl rfl)
                    · exact ru_close h hJ rfl (.inl rfl)
              · exact bad
theorem ru0 : RU r0 := ⟨List.nodup_nil, fun o ho => absurd ho (by simp [r0]), fun q q' hq => absurd hq (Nat.not_lt_zero _)⟩
theorem ru_iter {s : ByteArray} (hs : s.size ≤ 90000) : ∀ (n : Nat) {r : Rs}, RU r → RJ s r → RU (rIter s n r)
  | 0, _, h, _ => h
  | n + 1, r, h, hJ => by
    refine ru_iter hs n ?_ (rj_step hs hJ)
    unfold rStep
    split
    · exact ru_part h hJ
    · exact h
end Go.Proofs.Ytcmnejcojphijaa
