/-
  The program's reader at its end. (No walk here.)
-/
import Derived.Test.YtdpkcniiljpdbaaDevU
namespace Go.Proofs.Ytdpkcniiljpdbaa
open Go.RowKit
set_option linter.unusedVariables false

def r0 : Rs := ⟨(0, 0), [], []⟩
theorem rj0 (s : ByteArray) : RJ s r0 :=
  ⟨⟨Nat.zero_le _, fun o ho => absurd ho (by simp [r0]), fun _ => Nat.zero_le _⟩, ⟨fun i hi => absurd hi (Nat.not_lt_zero _), fun i hi => absurd hi (Nat.not_lt_zero _), fun i hi => absurd hi (Nat.not_lt_zero _)⟩, Nat.zero_le _, fun _ => Nat.le_refl _, Nat.zero_le _, Nat.zero_le _⟩
theorem rj_step {s : ByteArray} {r : Rs} (hs : s.size ≤ 90000) (h : RJ s r) : RJ s (rStep s r) := by
  unfold rStep
  split
  · rename_i q
    exact (rj_part hs h q.1 q.2).1
  · exact h
theorem rj_iter {s : ByteArray} (hs : s.size ≤ 90000) : ∀ (n : Nat) {r : Rs}, RJ s r → RJ s (rIter s n r)
  | 0, _, h => h
  | n + 1, _, h => rj_iter hs n (rj_step hs h)
theorem fin_iter {s : ByteArray} (hs : s.size ≤ 90000) : ∀ (n : Nat) {r : Rs}, RJ s r → fin s r.z ((83, true) :: tl (ks r.P r.O)) (r.O.length : Int) = fin s (rIter s n r).z ((83, true) :: tl (ks (rIter s n r).P (rIter s n r).O)) ((rIter s n r).O.length : Int)
  | 0, _, _ => rfl
  | n + 1, r, h => by
    refine Eq.trans ?_ (fin_iter hs n (rj_step hs h))
    unfold rStep
    split
    · rename_i q
      exact part_fin h.toRI q.1 q.2
    · rfl

/-- what the reader tells -/
def told (r : Rs) : Nat × Nat := if r.z.2 ≠ 0 then (r.z.2, r.z.1) else if r.O = [] then (0, 0) else (2, r.z.1)
theorem run_told {s : ByteArray} (hs : s.size ≤ 90000) (n : Nat) (hst : (rIter s n r0).z.2 ≠ 0 ∨ ¬ (rIter s n r0).z.1 < s.size) : run s [(83, true)] 0 0 = told (rIter s n r0) := by
  have h1 := fin_iter hs n (rj0 s)
  have hj := rj_iter hs n (rj0 s)
  have h0 : fin s r0.z ((83, true) :: tl (ks r0.P r0.O)) (r0.O.length : Int) = run s [(83, true)] 0 0 := rfl
  rw [h0] at h1
  rw [h1]
  generalize rIter s n r0 = r at hj hst ⊢
  unfold told fin
  by_cases h2 : r.z.2 = 0
  · rw [if_pos h2, if_neg (fun q => q h2)]
    have hl : ¬ r.z.1 < s.size := by
      rcases hst with q | q
      · exact absurd h2 q
      · exact q
    have hin : r.z.1 ≤ s.size := hj.hin
    have e : r.z.1 = s.size := by omega
    have hb : bt s r.z.1 = 0 := bt_out hl
    rw [R_S_none _ hin (by rw [hb]; unfold noStmt; decide)]
    by_cases hO : r.O = []
    · rw [if_pos hO, hO]
      show run s [] r.z.1 _ = _
      rw [run_nil hin, if_neg hl]
    · rw [if_neg hO]
      have hk : ks r.P r.O ≠ [] := fun q => hO (by have := ks_len r.P r.O; rw [q] at this; exact List.length_eq_zero_iff.1 this.symm)
      obtain ⟨k, K, hkk⟩ := List.exists_cons_of_ne_nil hk
      rw [hkk, tl_cons]
      split
      · exact run_miss _ hin (by rw [hb]; decide)
      · exact run_miss _ hin (by rw [hb]; decide)
  · rw [if_neg h2, if_pos h2]

/-- where nothing is wrong the parts are those of the text -/
theorem seg_told {s : ByteArray} (hs : s.size ≤ 90000) (n : Nat) (h2 : (rIter s n r0).z.2 = 0) (hl : ¬ (rIter s n r0).z.1 < s.size) (hO : (rIter s n r0).O = []) : Seg0 (pOf (rIter s n r0).P) s (rIter s n r0).P.length := by
  have hr := run_told hs n (.inr hl)
  have ht : told (rIter s n r0) = (0, 0) := by unfold told; rw [if_neg (fun q => q h2), if_pos hO]
  rw [ht] at hr
  have hp := prog_of_ok hr
  obtain ⟨m, hm⟩ := read_all _ _ _ hp [] []
  have still : rStep s (rIter s n r0) = rIter s n r0 := rStep_end hl
  have meet : ∀ d, rIter s (n + d) r0 = rIter s n r0 := fun d => by rw [rIter_add, rIter_still still]
  have hr0 : (⟨(0, 0), [], []⟩ : Rs) = r0 := rfl
  rw [hr0] at hm
  rcases hm with hm | ⟨X, hm, hseg⟩
  · exfalso
    by_cases q : m ≤ n
    · have := rIter_bad (n := n - m) hm
      rw [show m + (n - m) = n by omega] at this
      exact this h2
    · have := meet (m - n)
      rw [show n + (m - n) = m by omega] at this
      rw [this] at hm
      exact hm h2
  · have he : rIter s n r0 = rIter s m r0 := by
      by_cases q : m ≤ n
      · have hst2 : rStep s (rIter s m r0) = rIter s m r0 := rStep_end (by rw [hm]; exact Nat.lt_irrefl _)
        have := rIter_add s m (n - m) r0
        rw [show m + (n - m) = n by omega, rIter_still hst2] at this
        exact this
      · have := meet (m - n)
        rw [show n + (m - n) = m by omega] at this
        exact this.symm
    rw [he, hm]
    have := hseg (fun _ => false) clean_none
    simpa [ACond, Seg0] using this
end Go.Proofs.Ytdpkcniiljpdbaa
