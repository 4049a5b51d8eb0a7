/-
  TurB, RunA, RunC, RunD, RunE, RunG, RefA, RefB: one behind the other.
-/
import Derived.Test.YthcjcjfgdgnljaaGTurA
import Derived.Test.YthcjcjfgdgnljaaGMacB
import Derived.Test.YthcjcjfgdgnljaaGNew
import Derived.Deep.QuietTactic
import Derived.BigQuiet
import Derived.Deep.RegionWith
import Derived.Deep.DeepCutAuto
namespace Go.Proofs.Ythcjcjfgdgnljaa
set_option linter.unusedVariables false

theorem chosen_okT {b c : Nat} (hc : letN c = false) : ∀ x, x ∈ (chosenN b c).1 → partB x = true ∨ letN x = false := by
  have hs : smallN c = false := by unfold letN at hc; simp only [Bool.or_eq_false_iff] at hc; exact hc.1
  have hg : greatN c = false := by unfold letN at hc; simp only [Bool.or_eq_false_iff] at hc; exact hc.2
  intro x hx
  have key : x = c ∨ partB x = true ∨ letN x = false := by
    unfold chosenN stmtN at hx
    (repeat' split at hx) <;> simp at hx
    all_goals first
      | exact .inl hx
      | (rcases hx with rfl | rfl | rfl | rfl | rfl | rfl | rfl | rfl | rfl <;> first | exact .inl rfl | exact .inr (.inl rfl) | exact .inr (.inr rfl))
      | (rcases hx with rfl | rfl | rfl | rfl | rfl | rfl <;> first | exact .inl rfl | exact .inr (.inl rfl) | exact .inr (.inr rfl))
      | (rcases hx with rfl | rfl | rfl | rfl | rfl <;> first | exact .inl rfl | exact .inr (.inl rfl) | exact .inr (.inr rfl))
      | (rcases hx with rfl | rfl | rfl | rfl <;> first | exact .inl rfl | exact .inr (.inl rfl) | exact .inr (.inr rfl))
      | (rcases hx with rfl | rfl | rfl <;> first | exact .inl rfl | exact .inr (.inl rfl) | exact .inr (.inr rfl))
      | (rcases hx with rfl | rfl <;> first | exact .inl rfl | exact .inr (.inl rfl) | exact .inr (.inr rfl))
      | (subst hx; first | exact .inl rfl | exact .inr (.inl rfl) | exact .inr (.inr rfl))
  rcases key with rfl | h
  · exact .inr hc
  · exact h
theorem expand_okT {b c : Nat} {es : List (Nat × Bool)} (hc : letN c = false) (h : expand b c = some es) : OkT es := by
  unfold expand at h
  split at h
  · injection h with h
    subst h
    have hl := chosen_okT (b := b) hc
    generalize (chosenN b c).1 = l at hl
    intro e he h2
    rw [List.mem_reverse] at he
    cases ho : ownL l c
    · rw [ho, pushL_plain] at he
      obtain ⟨x, hx, rfl⟩ := List.mem_map.1 he
      rcases hl x hx with q | q
      · rw [show (prt x).2 = partB x from rfl, q] at h2; cases h2
      · exact q
    · have hne : l ≠ [] := fun e => by rw [e] at ho; simp [ownL] at ho
      have hlast : l.getLast hne = c := by
        simp [ownL, List.getLast?_eq_some_getLast hne] at ho
        exact ho.1.2
      rw [← List.dropLast_concat_getLast hne, hlast] at he hl
      rw [← List.dropLast_concat_getLast hne, hlast] at ho
      rw [ho, pushL_own] at he
      rcases List.mem_append.1 he with q | q
      · obtain ⟨x, hx, rfl⟩ := List.mem_map.1 q
        rcases hl x (List.mem_append_left _ hx) with r | r
        · rw [show (prt x).2 = partB x from rfl, r] at h2; cases h2
        · exact r
      · rw [List.mem_singleton] at q; rw [q]; exact hc
  · cases h
theorem OkT.app {S T : List (Nat × Bool)} (h : OkT S) (g : OkT T) : OkT (S ++ T) := fun e he => by
  rcases List.mem_append.1 he with q | q
  · exact h e q
  · exact g e q
theorem open_okT {c : Nat} (hc : letN c = false) : ∀ (f : Nat) (S : List (Nat × Bool)), OkT S → OkT (openN f S c).1
  | 0, S, h => by rw [openN]; exact h
  | f + 1, [], h => by rw [openN]; exact h
  | f + 1, (b, false) :: t, h => by rw [openN]; exact h
  | f + 1, (b, true) :: t, h => by
    rw [openN]
    split
    · exact h.tl
    · rename_i es he
      exact open_okT hc f _ ((expand_okT hc he).app h.tl)
theorem adv_okT {sm : Bool} : ∀ {S T : List (Nat × Bool)}, OkT S → adv sm S = some T → OkT T
  | [], T, h, e => by simp [adv] at e
  | (b, false) :: t, T, h, e => by simp [adv] at e
  | (b, true) :: t, T, h, e => by
    have ih := fun {T} (q : adv sm t = some T) => adv_okT h.tl q
    have g := h.tl
    simp only [adv] at e
    have k : ∀ {x : Nat} {y : Bool} {S : List (Nat × Bool)}, (y = true ∨ letN x = false) → OkT S → OkT ((x, y) :: S) := fun {x y S} q r => OkT.cons (fun h2 => by
      rcases q with q | q
      · have h2' : y = false := h2
        rw [q] at h2'; cases h2'
      · exact q) r
    (repeat' split at e) <;> first
      | exact ih e
      | (cases e; done)
      | (injection e with e; subst e; first | exact g | exact k (.inl rfl) g | exact k (.inr rfl) (k (.inl rfl) (k (.inr rfl) (k (.inl rfl) g))) | exact k (.inl rfl) (k (.inr rfl) (k (.inl rfl) g)) | exact k (.inr rfl) (k (.inl rfl) (k (.inr rfl) g)))

/-- t is s under other letters -/
structure Trn (a b : Nat) (s t : ByteArray) : Prop where
  sz : t.size = s.size
  by_ : ∀ i, bt t i = lettN a b (bt s i)
/-- where a letter goes -/
def ring (x k : Nat) : Nat := if k < 26 then (k + x) % 26 else k
theorem ring_inj {x k l : Nat} (h : ring x k = ring x l) : k = l := by
  unfold ring at h
  split at h <;> split at h <;> omega
section
variable {a b : Nat} {s t : ByteArray}
theorem Trn.eq (h : Trn a b s t) {i x : Nat} (hx : letN x = false) : bt t i = x ↔ bt s i = x := by rw [h.by_]; exact lett_eq hx
theorem Trn.small (h : Trn a b s t) (i : Nat) : smallN (bt t i) = smallN (bt s i) := by rw [h.by_]; exact lett_small
theorem Trn.great (h : Trn a b s t) (i : Nat) : greatN (bt t i) = greatN (bt s i) := by rw [h.by_]; exact lett_great
theorem Trn.digit (h : Trn a b s t) (i : Nat) : digitN (bt t i) = digitN (bt s i) := by rw [h.by_]; exact lett_digit
theorem Trn.num (h : Trn a b s t) {i : Nat} (hs : smallN (bt s i) = true) : bt t i - 97 = ring a (bt s i - 97) := by
  rw [h.by_]
  unfold lettN ring
  rw [if_pos hs]
  simp [smallN] at hs
  rw [if_pos (by omega)]
  omega
theorem Trn.box (h : Trn a b s t) {i : Nat} (hs : greatN (bt s i) = true) : bt t i - 65 = ring b (bt s i - 65) := by
  rw [h.by_]
  unfold lettN ring
  have hn : ¬ smallN (bt s i) = true := by simp [greatN] at hs; simp [smallN]; omega
  rw [if_neg hn, if_pos hs]
  simp [greatN] at hs
  rw [if_pos (by omega)]
  omega
/-- the text is read alike -/
theorem Trn.runN (h : Trn a b s t) : ∀ (m : Nat) (S : List (Nat × Bool)) (i : Nat) (d : Int), OkT S → runN t m S i d = runN s m S i d
  | 0, S, i, d, hok => by
    show (if _ then (2, t.size) else (0, 0)) = (if _ then (2, s.size) else (0, 0))
    rw [h.sz]
  | m + 1, S, i, d, hok => by
    have ih := fun S i d (q : OkT S) => Trn.runN h m S i d q
    rw [Go.Proofs.Ythcjcjfgdgnljaa.runN, Go.Proofs.Ythcjcjfgdgnljaa.runN]
    by_cases hl : letN (bt s i) = true
    · have hl2 : letN (bt t i) = true := by rw [h.by_, lett_let]; exact hl
      have hg : greatN (bt s i) = !smallN (bt s i) := by
        unfold letN at hl
        cases hsm : smallN (bt s i)
        · rw [hsm] at hl; simpa using hl
        · simp [smallN] at hsm; simp [greatN]; omega
      have hneq : ∀ {x : Nat}, letN x = false → bt s i ≠ x := fun {x} hx e => by rw [e, hx] at hl; cases hl
      have hneq2 : ∀ {x : Nat}, letN x = false → bt t i ≠ x := fun {x} hx e => by rw [e, hx] at hl2; cases hl2
      obtain ⟨k1, k2⟩ := open_let hl rfl hg S (mu S + 1) (Nat.lt_succ_self _) hok
      obtain ⟨l1, l2⟩ := open_let hl2 (h.small i) (by rw [h.great]; exact hg) S (mu S + 1) (Nat.lt_succ_self _) hok
      cases ha : adv (smallN (bt s i)) S with
      | none =>
        have q1 := k2 ha
        have q2 := l2 ha
        unfold badO at q1 q2
        unfold opened
        rw [if_pos q1, if_pos q2]
      | some T =>
        have q1 := k1 T ha
        have q2 := l1 T ha
        unfold opened
        have n1 : bt s i ≠ 123 := hneq rfl
        have n2 : bt s i ≠ 125 := hneq rfl
        have n3 : bt t i ≠ 123 := hneq2 rfl
        have n4 : bt t i ≠ 125 := hneq2 rfl
        rw [q1, q2]
        simp [n1, n2, n3, n4]
        exact ih T (i + 1) d (adv_okT hok ha)
    · have hl' : letN (bt s i) = false := by simpa using hl
      have e : bt t i = bt s i := by rw [h.by_, lett_no hl']
      have hO : OkT (opened S (bt s i)).1 := open_okT hl' _ S hok
      have hT : OkT (opened S (bt s i)).1.tail := fun x hx => hO x (List.mem_of_mem_tail hx)
      rw [e, ih _ _ _ hT, ih _ _ _ hT]
theorem Trn.run (h : Trn a b s t) : run t [(83, true)] 0 0 = run s [(83, true)] 0 0 := by
  unfold Go.Proofs.Ythcjcjfgdgnljaa.run
  rw [h.sz]
  exact h.runN _ _ _ _ (fun e he h2 => by rw [List.mem_singleton] at he; rw [he] at h2; cases h2)
theorem Trn.opnd (h : Trn a b s t) {i j : Nat} (ho : Opnd s i j) : Opnd t i j := by
  rcases ho with ⟨h1, h2⟩ | ⟨h1, h2, h3⟩
  · exact .inl ⟨by rw [h.small]; exact h1, h2⟩
  · exact .inr ⟨h1, h2, fun k a1 a2 => by rw [h.digit]; exact h3 k a1 a2⟩
theorem Trn.op (h : Trn a b s t) {k : Nat} (ho : isOp (bt s k)) : isOp (bt t k) := by
  have e : letN (bt s k) = false := by
    unfold isOp at ho
    rcases ho with q | q | q | q | q <;> rw [q] <;> rfl
  rw [h.by_, lett_no e]
  exact ho
theorem Trn.simple (h : Trn a b s t) {i m : Nat} (hS : Simple s i m) : Simple t i m := by
  have S' := fun {i : Nat} (q : smallN (bt s i) = true) => (show smallN (bt t i) = true by rw [h.small]; exact q)
  have G' := fun {i : Nat} (q : greatN (bt s i) = true) => (show greatN (bt t i) = true by rw [h.great]; exact q)
  rcases hS with q | q | q | q | q | q | q | q | q
  · obtain ⟨h1, h2, h3, h4, h5, h6⟩ := q
    exact .inl ⟨S' h1, (h.eq rfl).2 h2, (h.eq rfl).2 h3, G' h4, (h.eq rfl).2 h5, h6⟩
  · obtain ⟨h1, h2, h3, h4, k, h5, h6, h7, h8⟩ := q
    exact .inr (.inl ⟨S' h1, (h.eq rfl).2 h2, G' h3, (h.eq rfl).2 h4, k, h.opnd h5, (h.eq rfl).2 h6, (h.eq rfl).2 h7, h8⟩)
  · obtain ⟨h1, h2, k, h5, h6, h8⟩ := q
    exact .inr (.inr (.inl ⟨S' h1, (h.eq rfl).2 h2, k, h.opnd h5, (h.eq rfl).2 h6, h8⟩))
  · obtain ⟨h1, h2, k, l, h5, h6, h7, h8, h9⟩ := q
    exact .inr (.inr (.inr (.inl ⟨S' h1, (h.eq rfl).2 h2, k, l, h.opnd h5, h.op h6, h.opnd h7, (h.eq rfl).2 h8, h9⟩)))
  · obtain ⟨h1, h2, k, l, h5, h6, h7, h8, h9, h10⟩ := q
    exact .inr (.inr (.inr (.inr (.inl ⟨G' h1, (h.eq rfl).2 h2, k, l, h.opnd h5, (h.eq rfl).2 h6, (h.eq rfl).2 h7, h.opnd h8, (h.eq rfl).2 h9, h10⟩))))
  · obtain ⟨h1, h2, h3, k, h5, h6, h7, h8⟩ := q
    exact .inr (.inr (.inr (.inr (.inr (.inl ⟨G' h1, (h.eq rfl).2 h2, (h.eq rfl).2 h3, k, h.opnd h5, (h.eq rfl).2 h6, (h.eq rfl).2 h7, h8⟩)))))
  · obtain ⟨h1, h2, h3, h4, h5⟩ := q
    exact .inr (.inr (.inr (.inr (.inr (.inr (.inl ⟨G' h1, (h.eq rfl).2 h2, G' h3, (h.eq rfl).2 h4, h5⟩))))))
  · obtain ⟨h1, k, h5, h6, h7⟩ := q
    exact .inr (.inr (.inr (.inr (.inr (.inr (.inr (.inl ⟨(h.eq rfl).2 h1, k, h.opnd h5, (h.eq rfl).2 h6, h7⟩)))))))
  · obtain ⟨h1, h2, h3, h4⟩ := q
    exact .inr (.inr (.inr (.inr (.inr (.inr (.inr (.inr ⟨(h.eq rfl).2 h1, G' h2, (h.eq rfl).2 h3, h4⟩)))))))
theorem Trn.prog (h : Trn a b s t) : ∀ {F i j : Nat}, Prog s F i j → Prog t F i j
  | 0, i, j, hp => hp
  | F + 1, i, j, hp => by
    rcases hp with hp | ⟨m, hst, hr⟩
    · exact .inl hp
    · refine .inr ⟨m, ?_, Trn.prog h hr⟩
      rcases hst with hS | ⟨e, x, y, z, ho, ha, hp, hb, hb1, hq, hc, hm⟩ | ⟨e, x, y, ho, ha, hp, hb, hm⟩
      · exact .inl (h.simple hS)
      · exact .inr (.inl ⟨(h.eq rfl).2 e, x, y, z, h.opnd ho, (h.eq rfl).2 ha, Trn.prog h hp, (h.eq rfl).2 hb, (h.eq rfl).2 hb1, Trn.prog h hq, (h.eq rfl).2 hc, hm⟩)
      · exact .inr (.inr ⟨(h.eq rfl).2 e, x, y, h.opnd ho, (h.eq rfl).2 ha, Trn.prog h hp, (h.eq rfl).2 hb, hm⟩)
theorem Trn.dec (h : Trn a b s t) {i : Nat} : ∀ {n : Nat}, (∀ k, i ≤ k → k < i + n → digitN (bt s k) = true) → decN t i n = decN s i n
  | 0, _ => rfl
  | n + 1, hd => by
    show 10 * decN t i n + (bt t (i + n) - 48) = 10 * decN s i n + (bt s (i + n) - 48)
    have hl : letN (bt s (i + n)) = false := by
      have := hd (i + n) (by omega) (by omega)
      simp [digitN] at this
      simp [letN, smallN, greatN]
      omega
    rw [Trn.dec h (fun k h1 h2 => hd k h1 (by omega)), h.by_, lett_no hl]
end
/-- an operand under other letters -/
def renO (a : Nat) : Od → Od
  | .n k => .n (ring a k)
  | .v x => .v x
def renA (a b : Nat) : Ac → Ac
  | .set v o => .set (ring a v) (renO a o)
  | .bin v o c p => .bin (ring a v) (renO a o) c (renO a p)
  | .load v k o => .load (ring a v) (ring b k) (renO a o)
  | .size v k => .size (ring a v) (ring b k)
  | .make k o => .make (ring b k) (renO a o)
  | .move k l => .move (ring b k) (ring b l)
  | .store k o p => .store (ring b k) (renO a o) (renO a p)
  | .drop k => .drop (ring b k)
  | .print o => .print (renO a o)
def renP (a b : Nat) : Pg → Pg
  | .nil => .nil
  | .act x r => .act (renA a b x) (renP a b r)
  | .ite o p q r => .ite (renO a o) (renP a b p) (renP a b q) (renP a b r)
  | .loop o p r => .loop (renO a o) (renP a b p) (renP a b r)
section
variable {a b : Nat} {s t : ByteArray}
theorem Trn.od (h : Trn a b s t) {i j : Nat} (ho : Opnd s i j) (hj : j < s.size) (hd : digitN (bt s j) = false) : odN t i = renO a (odN s i) := by
  unfold odN
  rw [bopN_eq ho hj hd, bopN_eq (h.opnd ho) (by rw [h.sz]; exact hj) (by rw [h.digit]; exact hd), h.small]
  rcases ho with ⟨h1, rfl⟩ | ⟨h1, h2, h3⟩
  · rw [if_pos h1, if_pos h1, h.num h1]; rfl
  · have hs : ¬ smallN (bt s i) = true := by
      have := h3 i (Nat.le_refl _) h1
      simp [digitN] at this
      simp [smallN]
      omega
    rw [if_neg hs, if_neg hs, h.dec (fun k k1 k2 => h3 k k1 (by omega))]
    rfl
theorem Trn.ac (h : Trn a b s t) {i m : Nat} (hS : Simple s i m) : acN t i = renA a b (acN s i) := by
  have T := h.simple hS
  have od := fun {i k x : Nat} (ho : Opnd s i k) (e : bt s k = x) (hx : x ≠ 0) (hd : digitN x = false) => h.od ho (byte_in e hx) (by rw [e]; exact hd)
  rcases hS with q | q | q | q | q | q | q | q | q
  · rw [acN_size q]
    obtain ⟨h1, h2, h3, h4, h5, h6⟩ := q
    rw [acN_size (s := t) (i := i) (j := m) ⟨by rw [h.small]; exact h1, (h.eq rfl).2 h2, (h.eq rfl).2 h3, by rw [h.great]; exact h4, (h.eq rfl).2 h5, h6⟩, h.num h1, h.box h4]
    rfl
  · rw [acN_load q]
    obtain ⟨h1, h2, h3, h4, k, h5, h6, h7, h8⟩ := q
    rw [acN_load (s := t) (i := i) (j := m) ⟨by rw [h.small]; exact h1, (h.eq rfl).2 h2, by rw [h.great]; exact h3, (h.eq rfl).2 h4, k, h.opnd h5, (h.eq rfl).2 h6, (h.eq rfl).2 h7, h8⟩, h.num h1, h.box h3, od h5 h6 (by decide) rfl]
    rfl
  · obtain ⟨h1, h2, k, h5, h6, h8⟩ := q
    rw [acN_set h1 h5 h6, acN_set (s := t) (by rw [h.small]; exact h1) (h.opnd h5) ((h.eq rfl).2 h6), h.num h1, od h5 h6 (by decide) rfl]
    rfl
  · obtain ⟨h1, h2, k, l, h5, h6, h7, h8, h9⟩ := q
    have hks : k < s.size := byte_in rfl (by unfold isOp at h6; omega)
    have hdk : digitN (bt s k) = false := by
      unfold isOp at h6
      rcases h6 with q | q | q | q | q <;> rw [q] <;> rfl
    have hlk : letN (bt s k) = false := by
      unfold isOp at h6
      rcases h6 with q | q | q | q | q <;> rw [q] <;> rfl
    rw [acN_bin h1 h5 h6 hks, acN_bin (s := t) (by rw [h.small]; exact h1) (h.opnd h5) (h.op h6) (by rw [h.sz]; exact hks), h.num h1, h.od h5 hks hdk, od h7 h8 (by decide) rfl, show bt t k = bt s k by rw [h.by_, lett_no hlk]]
    rfl
  · obtain ⟨h1, h2, k, l, h5, h6, h7, h8, h9, h10⟩ := q
    rw [acN_store h1 h2 h5 h6, acN_store (s := t) (by rw [h.great]; exact h1) ((h.eq rfl).2 h2) (h.opnd h5) ((h.eq rfl).2 h6), h.box h1, od h5 h6 (by decide) rfl, od h8 h9 (by decide) rfl]
    rfl
  · rw [acN_make q]
    obtain ⟨h1, h2, h3, k, h5, h6, h7, h8⟩ := q
    rw [acN_make (s := t) (i := i) (j := m) ⟨by rw [h.great]; exact h1, (h.eq rfl).2 h2, (h.eq rfl).2 h3, k, h.opnd h5, (h.eq rfl).2 h6, (h.eq rfl).2 h7, h8⟩, h.box h1, od h5 h6 (by decide) rfl]
    rfl
  · rw [acN_move q]
    obtain ⟨h1, h2, h3, h4, h5⟩ := q
    rw [acN_move (s := t) (i := i) (j := m) ⟨by rw [h.great]; exact h1, (h.eq rfl).2 h2, by rw [h.great]; exact h3, (h.eq rfl).2 h4, h5⟩, h.box h1, h.box h3]
    rfl
  · obtain ⟨h1, k, h5, h6, h7⟩ := q
    rw [acN_print h1, acN_print (s := t) ((h.eq rfl).2 h1), od h5 h6 (by decide) rfl]
    rfl
  · obtain ⟨h1, h2, h3, h4⟩ := q
    rw [acN_drop h1, acN_drop (s := t) ((h.eq rfl).2 h1), h.box h2]
    rfl
theorem Trn.pg (h : Trn a b s t) : ∀ {F i j : Nat}, Prog s F i j → pgN t F i j = renP a b (pgN s F i j)
  | 0, i, j, hp => rfl
  | F + 1, i, j, hp => by
    rcases hp with hp | ⟨m, hst, hr⟩
    · subst hp; rw [pgN_end, pgN_end]; rfl
    · have hmj := hr.le
      have hlt := hst.lt
      have hij : i < j := by omega
      have r := Trn.pg h hr
      rcases hst with hS | ⟨e, x, y, z, ho, ha, hp, hb, hb1, hq, hc, rfl⟩ | ⟨e, x, y, ho, ha, hp, hb, rfl⟩
      · rw [pgN_simple hS hij, pgN_simple (h.simple hS) hij, h.ac hS, r]; rfl
      · have hI := ifAt_of e ho ha hp hb hb1 hq hc
        have hI2 := ifAt_of ((h.eq rfl).2 e) (h.opnd ho) ((h.eq rfl).2 ha) (h.prog hp) ((h.eq rfl).2 hb) ((h.eq rfl).2 hb1) (h.prog hq) ((h.eq rfl).2 hc)
        rw [pgN_if hI hij, pgN_if hI2 hij, r, Trn.pg h hp, Trn.pg h hq, h.od ho (byte_in ha (by decide)) (by rw [ha]; rfl)]
        rfl
      · have hL := loopAt_of e ho ha hp hb
        have hL2 := loopAt_of ((h.eq rfl).2 e) (h.opnd ho) ((h.eq rfl).2 ha) (h.prog hp) ((h.eq rfl).2 hb)
        rw [pgN_loop hL hij, pgN_loop hL2 hij, r, Trn.pg h hp, h.od ho (byte_in ha (by decide)) (by rw [ha]; rfl)]
        rfl
end
end Go.Proofs.Ythcjcjfgdgnljaa

namespace Go.Proofs.Ythcjcjfgdgnljaa
open Go.RowKit
set_option linter.unusedVariables false

/-- a run: numbers, boxes' words (of Play), heap, boxes' places and lengths (of Exec), steps left, how it ends, what was printed -/
structure Rn where
  num : Nat → Int
  wv : Nat → Value
  hv : Value
  at_ : Nat → Int
  len : Nat → Int
  left : Int
  status : Int
  tr : ByteArray
  used : Int
  peak : Int
/-- a run in memory -/
structure RunAt (w : World) (rp : Nat) (s : ByteArray) (x : Rn) : Prop where
  cs : w.cell? ⟨rp, 0, none⟩ = some (.string s)
  cn : ∀ k, k < 26 → w.cell? ⟨rp, 1 + k, none⟩ = some (.int .i64 (x.num k))
  cw : ∀ k, k < 26 → w.cell? ⟨rp, 27 + k, none⟩ = some (x.wv k)
  ch : w.cell? ⟨rp, 53, none⟩ = some x.hv
  ca : ∀ k, k < 26 → w.cell? ⟨rp, 54 + k, none⟩ = some (.int .i64 (x.at_ k))
  cl : ∀ k, k < 26 → w.cell? ⟨rp, 80 + k, none⟩ = some (.int .i64 (x.len k))
  cf : w.cell? ⟨rp, 106, none⟩ = some (.int .i64 x.left)
  co : w.cell? ⟨rp, 107, none⟩ = some (.int .i64 x.status)
  ct : w.cell? ⟨rp, 108, none⟩ = some (.string x.tr)
  cu : w.cell? ⟨rp, 109, none⟩ = some (.int .i64 x.used)
  cp : w.cell? ⟨rp, 110, none⟩ = some (.int .i64 x.peak)
  fz : ∀ o, w.frozen? ⟨rp, o, none⟩ = false
theorem RunAt.lt {w : World} {rp : Nat} {s : ByteArray} {x : Rn} (h : RunAt w rp s x) : rp < w.heap.size := World.block_lt_of_cell? w _ h.cs
theorem RunAt.fr {S : Nat → Prop} {w w' : World} {rp : Nat} {s : ByteArray} {x : Rn} (h : RunAt w rp s x) (hF : Fr S w w') (hS : ¬ S rp) : RunAt w' rp s x :=
  ⟨hF.cell_some h.cs hS, fun k hk => hF.cell_some (h.cn k hk) hS, fun k hk => hF.cell_some (h.cw k hk) hS, hF.cell_some h.ch hS, fun k hk => hF.cell_some (h.ca k hk) hS, fun k hk => hF.cell_some (h.cl k hk) hS,
    hF.cell_some h.cf hS, hF.cell_some h.co hS, hF.cell_some h.ct hS, hF.cell_some h.cu hS, hF.cell_some h.cp hS, fun o => (hF.frozen (p := ⟨rp, o, none⟩) h.lt hS).trans (h.fz o)⟩
theorem RunAt.no {w w' : World} {rp : Nat} {s : ByteArray} {x : Rn} (h : RunAt w rp s x) (hF : Fr NoB w w') : RunAt w' rp s x := h.fr hF id
/-- one cell turned, that is none of those read by c -/
theorem cell_at {w : World} {b o q : Nat} {u v : Value} (h : w.cell? ⟨b, q, none⟩ = some v) (hne : o ≠ q) : (w.setCell ⟨b, o, none⟩ u).cell? ⟨b, q, none⟩ = some v := (cell_other (.inr hne)).trans h
def updI (f : Nat → Int) (k : Nat) (v : Int) : Nat → Int := fun i => if i = k then v else f i
def updV (f : Nat → Value) (k : Nat) (v : Value) : Nat → Value := fun i => if i = k then v else f i
section
variable (w : World) (rp : Nat) (s : ByteArray) (x : Rn)
end

section
variable (w : World) (rp : Nat) (s : ByteArray) (x : Rn)
end
end Go.Proofs.Ythcjcjfgdgnljaa

namespace Go.Proofs.Ythcjcjfgdgnljaa
open Go.RowKit
set_option linter.unusedVariables false

/-- a Play in memory: bx: each box's words, none if it is empty; blk: where they lie -/
structure PlayAt (w : World) (rp base : Nat) (s : ByteArray) (x : Rn) (bx : Nat → List Int) (blk : Nat → Nat) : Prop where
  r : RunAt w rp s x
  hn : x.hv = .pointer none
  rb : rp < base
  e : ∀ k, k < 26 → bx k = [] → x.wv k = .slice none 0 0
  f : ∀ k, k < 26 → bx k ≠ [] → x.wv k = .slice (some ⟨blk k, 0, none⟩) (bx k).length (bx k).length
  c : ∀ k, k < 26 → ∀ i v, (bx k)[i]? = some v → w.cell? ⟨blk k, i, none⟩ = some (.int .i64 v)
  z : ∀ k, k < 26 → bx k ≠ [] → ∀ o, w.frozen? ⟨blk k, o, none⟩ = false
  d : ∀ k l, k < 26 → l < 26 → k ≠ l → bx k ≠ [] → bx l ≠ [] → blk k ≠ blk l
  b : ∀ k, k < 26 → bx k ≠ [] → base ≤ blk k ∧ blk k < w.heap.size
  n : ∀ k, k < 26 → (bx k).length ≤ 64
section
variable {w w' : World} {rp base : Nat} {s : ByteArray} {x x' : Rn} {bx : Nat → List Int} {blk : Nat → Nat}
theorem ne_nil_of_get {l : List Int} {i : Nat} {v : Int} (h : l[i]? = some v) : l ≠ [] := fun e => by rw [e] at h; simp at h
theorem PlayAt.no (h : PlayAt w rp base s x bx blk) (hF : Fr NoB w w') : PlayAt w' rp base s x bx blk :=
  ⟨h.r.no hF, h.hn, h.rb, h.e, h.f, fun k hk i v hv => hF.cell_some (h.c k hk i v hv) id, fun k hk hb o => (hF.frozen (p := ⟨blk k, o, none⟩) (h.b k hk hb).2 id).trans (h.z k hk hb o), h.d, fun k hk hb => ⟨(h.b k hk hb).1, Nat.lt_of_lt_of_le (h.b k hk hb).2 hF.size⟩, h.n⟩
/-- what turns in the run's own block alone, boxes' words apart -/
theorem PlayAt.own (h : PlayAt w rp base s x bx blk) (hF : Fr (OneB rp) w w') (hR : RunAt w' rp s x') (h1 : x'.hv = x.hv) (h2 : x'.wv = x.wv) : PlayAt w' rp base s x' bx blk := by
  have hne : ∀ k, k < 26 → bx k ≠ [] → ¬ OneB rp (blk k) := fun k hk hb e => by
    have := (h.b k hk hb).1
    have := h.rb
    unfold OneB at e
    omega
  refine ⟨hR, by rw [h1]; exact h.hn, h.rb, fun k hk hb => by rw [h2]; exact h.e k hk hb, fun k hk hb => by rw [h2]; exact h.f k hk hb, fun k hk i v hv => hF.cell_some (h.c k hk i v hv) (hne k hk (ne_nil_of_get hv)), fun k hk hb o => (hF.frozen (p := ⟨blk k, o, none⟩) (h.b k hk hb).2 (hne k hk hb)).trans (h.z k hk hb o), h.d, fun k hk hb => ⟨(h.b k hk hb).1, Nat.lt_of_lt_of_le (h.b k hk hb).2 hF.size⟩, h.n⟩
end

section
variable (w : World) (rp base : Nat) (s : ByteArray) (x : Rn) (bx : Nat → List Int) (blk : Nat → Nat)
end
end Go.Proofs.Ythcjcjfgdgnljaa

namespace Go.Proofs.Ythcjcjfgdgnljaa
open Go.RowKit
set_option linter.unusedVariables false

def updL (f : Nat → List Int) (k : Nat) (v : List Int) : Nat → List Int := fun i => if i = k then v else f i
theorem updL_at (f : Nat → List Int) (k : Nat) (v : List Int) : updL f k v k = v := by simp [updL]
theorem updL_ne (f : Nat → List Int) {k i : Nat} (v : List Int) (h : i ≠ k) : updL f k v i = f i := by simp [updL, h]
theorem updV_at (f : Nat → Value) (k : Nat) (v : Value) : updV f k v k = v := by simp [updV]
theorem updV_ne (f : Nat → Value) {k i : Nat} (v : Value) (h : i ≠ k) : updV f k v i = f i := by simp [updV, h]
theorem RunAt.setWv {w : World} {rp : Nat} {s : ByteArray} {x : Rn} (h : RunAt w rp s x) {k : Nat} (hk : k < 26) (v : Value) : RunAt (w.setCell ⟨rp, 27 + k, none⟩ v) rp s { x with wv := updV x.wv k v } :=
  ⟨cell_at h.cs (by omega), fun j hj => cell_at (h.cn j hj) (by omega), fun j hj => by
      by_cases e : j = k
      · subst e; show _ = some (updV x.wv j v j); rw [updV_at]; exact cell_same (h.cw j hj)
      · show _ = some (updV x.wv k v j); rw [updV_ne _ _ e]; exact cell_at (h.cw j hj) (by omega),
    cell_at h.ch (by omega), fun j hj => cell_at (h.ca j hj) (by omega), fun j hj => cell_at (h.cl j hj) (by omega),
    cell_at h.cf (by omega), cell_at h.co (by omega), cell_at h.ct (by omega), cell_at h.cu (by omega), cell_at h.cp (by omega), fun o => by rw [World.frozen?_setCell]; exact h.fz o⟩
section
variable {w : World} {rp base : Nat} {s : ByteArray} {x : Rn} {bx : Nat → List Int} {blk : Nat → Nat}
/-- a box is emptied -/
theorem PlayAt.empty (h : PlayAt w rp base s x bx blk) {k : Nat} (hk : k < 26) : PlayAt (w.setCell ⟨rp, 27 + k, none⟩ (.slice none 0 0)) rp base s { x with wv := updV x.wv k (.slice none 0 0) } (updL bx k []) blk := by
  have hF := (Fr.refl (OneB rp) w).setCell (p := ⟨rp, 27 + k, none⟩) (fun _ => rfl) (.slice none 0 0)
  have hne : ∀ j, j < 26 → bx j ≠ [] → ¬ OneB rp (blk j) := fun j hj hb e => by
    have := (h.b j hj hb).1
    have := h.rb
    unfold OneB at e
    omega
  have hup : ∀ j, updL bx k [] j ≠ [] → j ≠ k ∧ bx j ≠ [] := fun j hj => by
    by_cases e : j = k
    · subst e; rw [updL_at] at hj; exact absurd rfl hj
    · rw [updL_ne _ _ e] at hj; exact ⟨e, hj⟩
  refine ⟨h.r.setWv hk _, h.hn, h.rb, fun j hj hb => ?_, fun j hj hb => ?_, fun j hj i v hv => ?_, fun j hj hb o => ?_, fun i j hi hj hij hb1 hb2 => h.d i j hi hj hij (hup i hb1).2 (hup j hb2).2, fun j hj hb => ?_, fun j hj => ?_⟩
  · show updV x.wv k (.slice none 0 0) j = _
    by_cases e : j = k
    · subst e; rw [updV_at]
    · rw [updV_ne _ _ e]; rw [updL_ne _ _ e] at hb; exact h.e j hj hb
  · obtain ⟨e, hb2⟩ := hup j hb
    show updV x.wv k (.slice none 0 0) j = _
    rw [updV_ne _ _ e, updL_ne _ _ e]
    exact h.f j hj hb2
  · obtain ⟨e, hb2⟩ := hup j (ne_nil_of_get hv)
    rw [updL_ne _ _ e] at hv
    exact hF.cell_some (h.c j hj i v hv) (hne j hj hb2)
  · obtain ⟨e, hb2⟩ := hup j hb
    exact (hF.frozen (p := ⟨blk j, o, none⟩) (h.b j hj hb2).2 (hne j hj hb2)).trans (h.z j hj hb2 o)
  · obtain ⟨e, hb2⟩ := hup j hb
    rw [setCell_size]
    exact h.b j hj hb2
  · by_cases e : j = k
    · subst e; rw [updL_at]; simp
    · rw [updL_ne _ _ e]; exact h.n j hj
end

section
variable (w : World) (rp base : Nat) (s : ByteArray) (x : Rn) (bx : Nat → List Int) (blk : Nat → Nat)
end
end Go.Proofs.Ythcjcjfgdgnljaa

namespace Go.Proofs.Ythcjcjfgdgnljaa
open Go.RowKit
set_option linter.unusedVariables false

theorem Try.infoInt2 : (Try.prog.info? 3).map (fun i => (i.zero, i.size, i.bytes)) = some (some (.int .i64 0), 1, 8) := by kernel_rfl
theorem made_one (n j : Nat) (h : j < n) : (madeCells #[Value.int .i64 0] n)[j]? = some (.int .i64 0) := by
  unfold madeCells
  have h2 : j % 1 = 0 := by omega
  simp [h, h2]
theorem ints_made (n : Nat) (hn : n ≤ 100000) : ∃ C : Array Value, (∀ j, j < n → C[j]? = some (.int .i64 0)) ∧
    ∀ u : World, (Instr.makeSlice 32 (.int .i64 (n : Int)) (.int .i64 (n : Int))).run Try.prog u = .ok (.slice (some ⟨u.heap.size, 0, none⟩) n n) (u.alloc (.cells C 3)) := by
  obtain ⟨i0, hi, hz0, hz1, hz2⟩ := info_parts Try.infoInt2
  refine ⟨madeCells #[Value.int .i64 0] (n * 1), fun j hj => made_one _ _ (by omega), fun u => ?_⟩
  have h := run_make (P := Try.prog) u 32 3 i0 (.int .i64 0) Try.underlying32 hi hz0 .i64 .i64 (n : Int) (n : Int) (by omega) (Int.le_refl _) (by rw [hz2]; omega) (by omega)
  simpa [hz1, Value.cells] using h

def updN (f : Nat → Nat) (k v : Nat) : Nat → Nat := fun i => if i = k then v else f i
theorem updN_at (f : Nat → Nat) (k v : Nat) : updN f k v k = v := by simp [updN]
theorem updN_ne (f : Nat → Nat) {k i : Nat} (v : Nat) (h : i ≠ k) : updN f k v i = f i := by simp [updN, h]
/-- a box gets words that lie in a block of none; only the run's own block turned -/
theorem PlayAt.fill {w w' : World} {rp base g : Nat} {s : ByteArray} {x : Rn} {bx : Nat → List Int} {blk : Nat → Nat} {l : List Int} {n : Nat} (h : PlayAt w rp base s x bx blk) {k : Nat} (hk : k < 26) (hn : l.length = n) (hl : l ≠ []) (hl2 : l.length ≤ 64)
    (hF : Fr (OneB rp) w w') (hR : RunAt w' rp s { x with wv := updV x.wv k (.slice (some ⟨g, 0, none⟩) n n) })
    (hg : base ≤ g ∧ g < w'.heap.size) (hgn : ∀ j, j < 26 → bx j ≠ [] → blk j ≠ g) (hc : ∀ i v, l[i]? = some v → w'.cell? ⟨g, i, none⟩ = some (.int .i64 v)) (hz : ∀ o, w'.frozen? ⟨g, o, none⟩ = false) :
    PlayAt w' rp base s { x with wv := updV x.wv k (.slice (some ⟨g, 0, none⟩) n n) } (updL bx k l) (updN blk k g) := by
  subst hn
  have hrb := h.rb
  have hne : ∀ j, j < 26 → bx j ≠ [] → ¬ OneB rp (blk j) := fun j hj hb e => by
    have := (h.b j hj hb).1
    unfold OneB at e
    omega
  refine ⟨hR, h.hn, h.rb, fun j hj hb => ?_, fun j hj hb => ?_, fun j hj i v hv => ?_, fun j hj hb o => ?_, fun i j hi hj hij hb1 hb2 => ?_, fun j hj hb => ?_, fun j hj => ?_⟩
  · show updV x.wv k _ j = _
    by_cases e : j = k
    · subst e; rw [updL_at] at hb; exact absurd hb hl
    · rw [updV_ne _ _ e]; rw [updL_ne _ _ e] at hb; exact h.e j hj hb
  · show updV x.wv k _ j = _
    by_cases e : j = k
    · subst e; rw [updV_at, updL_at, updN_at]
    · rw [updV_ne _ _ e, updL_ne _ _ e, updN_ne _ _ e]; rw [updL_ne _ _ e] at hb; exact h.f j hj hb
  · by_cases e : j = k
    · subst e; rw [updL_at] at hv; rw [updN_at]; exact hc i v hv
    · rw [updL_ne _ _ e] at hv; rw [updN_ne _ _ e]; exact hF.cell_some (h.c j hj i v hv) (hne j hj (ne_nil_of_get hv))
  · by_cases e : j = k
    · subst e; rw [updN_at]; exact hz o
    · rw [updL_ne _ _ e] at hb; rw [updN_ne _ _ e]; exact (hF.frozen (p := ⟨blk j, o, none⟩) (h.b j hj hb).2 (hne j hj hb)).trans (h.z j hj hb o)
  · by_cases e1 : i = k
    · have e2 : j ≠ k := fun q => hij (by omega)
      rw [updL_ne _ _ e2] at hb2
      subst e1
      rw [updN_at, updN_ne _ _ e2]
      exact (hgn j hj hb2).symm
    · rw [updL_ne _ _ e1] at hb1
      rw [updN_ne _ _ e1]
      by_cases e2 : j = k
      · subst e2
        rw [updN_at]
        exact hgn i hi hb1
      · rw [updL_ne _ _ e2] at hb2
        rw [updN_ne _ _ e2]
        exact h.d i j hi hj hij hb1 hb2
  · by_cases e : j = k
    · subst e; rw [updN_at]; exact hg
    · rw [updL_ne _ _ e] at hb; rw [updN_ne _ _ e]; exact ⟨(h.b j hj hb).1, Nat.lt_of_lt_of_le (h.b j hj hb).2 hF.size⟩
  · by_cases e : j = k
    · subst e; rw [updL_at]; exact hl2
    · rw [updL_ne _ _ e]; exact h.n j hj

section
variable (w : World) (rp base : Nat) (s : ByteArray) (x : Rn) (bx : Nat → List Int) (blk : Nat → Nat)
end
end Go.Proofs.Ythcjcjfgdgnljaa

namespace Go.Proofs.Ythcjcjfgdgnljaa
open Go.RowKit
set_option linter.unusedVariables false

/-- a box's word is turned -/
theorem PlayAt.put {w : World} {rp base : Nat} {s : ByteArray} {x : Rn} {bx : Nat → List Int} {blk : Nat → Nat} (h : PlayAt w rp base s x bx blk) {k q : Nat} (hk : k < 26) (hq : q < (bx k).length) (v : Int) :
    PlayAt (w.setCell ⟨blk k, q, none⟩ (.int .i64 v)) rp base s x (updL bx k ((bx k).set q v)) blk := by
  have hF := (Fr.refl (OneB (blk k)) w).setCell (p := ⟨blk k, q, none⟩) (fun _ => rfl) (.int .i64 v)
  have hkn : bx k ≠ [] := fun e => by rw [e] at hq; simp at hq
  have hrb := h.rb
  have hkb := (h.b k hk hkn).1
  have hup : ∀ j, updL bx k ((bx k).set q v) j ≠ [] → bx j ≠ [] := fun j hj => by
    by_cases e : j = k
    · subst e; exact hkn
    · rwa [updL_ne _ _ e] at hj
  have hlen : ∀ j, (updL bx k ((bx k).set q v) j).length = (bx j).length := fun j => by
    by_cases e : j = k
    · subst e; rw [updL_at]; simp
    · rw [updL_ne _ _ e]
  refine ⟨h.r.fr hF (fun e => by unfold OneB at e; omega), h.hn, h.rb, fun j hj hb => ?_, fun j hj hb => ?_, fun j hj i u hv => ?_, fun j hj hb o => by rw [World.frozen?_setCell]; exact h.z j hj (hup j hb) o, fun i j hi hj hij hb1 hb2 => h.d i j hi hj hij (hup i hb1) (hup j hb2), fun j hj hb => by rw [setCell_size]; exact h.b j hj (hup j hb), fun j hj => by rw [hlen]; exact h.n j hj⟩
  · have hb2 : bx j = [] := List.eq_nil_of_length_eq_zero (by rw [← hlen j, hb]; rfl)
    exact h.e j hj hb2
  · rw [hlen]; exact h.f j hj (hup j hb)
  · by_cases e : j = k
    · subst e
      rw [updL_at] at hv
      by_cases e2 : i = q
      · subst e2
        rw [List.getElem?_set_self hq] at hv
        obtain ⟨c, hc⟩ : ∃ c, (bx j)[i]? = some c := ⟨_, List.getElem?_eq_getElem hq⟩
        rw [← Option.some.inj hv]
        exact cell_same (h.c j hj i c hc)
      · rw [List.getElem?_set_ne (by omega)] at hv
        exact cell_at (h.c j hj i u hv) (by omega)
    · rw [updL_ne _ _ e] at hv
      exact hF.cell_some (h.c j hj i u hv) (fun e3 => h.d j k hj hk e (ne_nil_of_get hv) hkn e3)

section
variable (w : World) (rp base : Nat) (s : ByteArray) (x : Rn) (bx : Nat → List Int) (blk : Nat → Nat)
end
end Go.Proofs.Ythcjcjfgdgnljaa

namespace Go.Proofs.Ythcjcjfgdgnljaa
open Go.RowKit

structure RefAt (w : World) (q ri rh n : Nat) (I H : Nat → Int) (md : Int) : Prop where
  lo : 1 ≤ n
  hi : n ≤ 4096
  qi : q ≠ ri
  qh : q ≠ rh
  ih : ri ≠ rh
  c0 : w.cell? ⟨q, 0, none⟩ = some (.slice (some ⟨ri, 0, none⟩) n n)
  c1 : w.cell? ⟨q, 1, none⟩ = some (.slice (some ⟨rh, 0, none⟩) n n)
  c2 : w.cell? ⟨q, 2, none⟩ = some (.int .i64 md)
  ci : ∀ i, i < n → w.cell? ⟨ri, i, none⟩ = some (.int .i64 (I i))
  ch : ∀ i, i < n → w.cell? ⟨rh, i, none⟩ = some (.int .i64 (H i))
  fq : ∀ o, w.frozen? ⟨q, o, none⟩ = false
  fi : ∀ o, w.frozen? ⟨ri, o, none⟩ = false
  fh : ∀ o, w.frozen? ⟨rh, o, none⟩ = false

def RefS (q ri rh : Nat) : Nat → Prop := fun k => k = q ∨ k = ri ∨ k = rh

theorem RefAt.ql {w : World} {q ri rh n : Nat} {I H : Nat → Int} {md : Int} (h : RefAt w q ri rh n I H md) : q < w.heap.size := World.block_lt_of_cell? w _ h.c0
theorem RefAt.il {w : World} {q ri rh n : Nat} {I H : Nat → Int} {md : Int} (h : RefAt w q ri rh n I H md) : ri < w.heap.size := World.block_lt_of_cell? w _ (h.ci 0 (by have := h.lo; omega))
theorem RefAt.hl {w : World} {q ri rh n : Nat} {I H : Nat → Int} {md : Int} (h : RefAt w q ri rh n I H md) : rh < w.heap.size := World.block_lt_of_cell? w _ (h.ch 0 (by have := h.lo; omega))
theorem RefAt.fr {S : Nat → Prop} {w w' : World} {q ri rh n : Nat} {I H : Nat → Int} {md : Int} (h : RefAt w q ri rh n I H md) (hf : Fr S w w') (h1 : ¬ S q) (h2 : ¬ S ri) (h3 : ¬ S rh) : RefAt w' q ri rh n I H md :=
  ⟨h.lo, h.hi, h.qi, h.qh, h.ih, hf.cell_some h.c0 h1, hf.cell_some h.c1 h1, hf.cell_some h.c2 h1, fun i hi => hf.cell_some (h.ci i hi) h2, fun i hi => hf.cell_some (h.ch i hi) h3,
    fun o => (hf.frozen (p := ⟨q, o, none⟩) h.ql h1).trans (h.fq o), fun o => (hf.frozen (p := ⟨ri, o, none⟩) h.il h2).trans (h.fi o), fun o => (hf.frozen (p := ⟨rh, o, none⟩) h.hl h3).trans (h.fh o)⟩
theorem RefAt.no {w w' : World} {q ri rh n : Nat} {I H : Nat → Int} {md : Int} (h : RefAt w q ri rh n I H md) (hf : Fr NoB w w') : RefAt w' q ri rh n I H md := h.fr hf id id id
theorem RefAt.congr {w : World} {q ri rh n : Nat} {I H I' H' : Nat → Int} {md : Int} (h : RefAt w q ri rh n I H md) (hi : ∀ i, i < n → I' i = I i) (hh : ∀ i, i < n → H' i = H i) : RefAt w q ri rh n I' H' md :=
  ⟨h.lo, h.hi, h.qi, h.qh, h.ih, h.c0, h.c1, h.c2, fun i hl => by rw [hi i hl]; exact h.ci i hl, fun i hl => by rw [hh i hl]; exact h.ch i hl, h.fq, h.fi, h.fh⟩
def setTo (f : Nat → Int) (a j : Nat) (v : Int) : Nat → Int := fun i => if a ≤ i ∧ i < j then v else f i
end Go.Proofs.Ythcjcjfgdgnljaa

namespace Go.Proofs.Ythcjcjfgdgnljaa
open Go.RowKit

def clearEq (I : Nat → Int) (x : Int) (j : Nat) : Nat → Int := fun i => if i < j ∧ I i = x then 0 else I i
end Go.Proofs.Ythcjcjfgdgnljaa
