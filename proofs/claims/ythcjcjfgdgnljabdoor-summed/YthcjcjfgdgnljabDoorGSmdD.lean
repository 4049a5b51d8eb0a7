/-
  SumA, SumB, SumC, SmdD: one behind the other.
-/
import Derived.Test.YthcjcjfgdgnljabDoorGTxtG
import Derived.Test.YthcjcjfgdgnljabDoorGExeH
namespace Go.Proofs.YthcjcjfgdgnljabDoor
set_option linter.unusedVariables false

/-- no box is used that is not full, reckoned -/
def okB : Pg → (Nat → Bool) → Bool
  | .nil, _ => true
  | .act a r, f => (match useA a with | none => true | some b => f b) && okB r (aftA a f)
  | .ite _ p q r, f => okB p f && okB q f && okB r (bothF (aftG p f) (aftG q f))
  | .loop _ p r, f => okB p (iterF (aftG p) 27 f) && okB r (iterF (aftG p) 27 f)
theorem okB_ok : ∀ (P : Pg) (f : Nat → Bool), okB P f = true → okG P f
  | .nil, f, h => trivial
  | .act a r, f, h => by
    rw [okB, Bool.and_eq_true] at h
    rw [okG_act]
    refine ⟨fun b hb => ?_, okB_ok r _ h.2⟩
    have h1 := h.1
    rw [hb] at h1
    exact h1
  | .ite o p q r, f, h => by
    rw [okB, Bool.and_eq_true, Bool.and_eq_true] at h
    rw [okG_ite]
    exact ⟨okB_ok p _ h.1.1, okB_ok q _ h.1.2, okB_ok r _ h.2⟩
  | .loop o p r, f, h => by
    rw [okB, Bool.and_eq_true] at h
    rw [okG_loop]
    exact ⟨okB_ok p _ h.1, okB_ok r _ h.2⟩
def byB (l : List Nat) : ByteArray := trB l
theorem bt_trB {l : List Nat} (h : ∀ x, x ∈ l → x < 256) (i : Nat) : bt (trB l) i = l.getD i 0 := by
  have hs : (trB l).size = l.length := by simp [trB, ByteArray.size]
  by_cases hi : i < l.length
  · rw [bt_in (by rw [hs]; exact hi)]
    have e : l.getD i 0 = l[i] := by simp [List.getD, hi]
    rw [e]
    show ((l.map UInt8.ofNat).toArray[i]'(by simpa using hi)).toNat = l[i]
    simp
    exact h _ (List.getElem_mem hi)
  · rw [bt_out (by rw [hs]; exact hi)]
    simp [List.getD, hi]
/-- the digits of a number below 1000 -/
theorem dig_cases {n : Nat} (h : n < 1000) : (n < 10 ∧ digF 3 n = [48 + n]) ∨ (10 ≤ n ∧ n < 100 ∧ digF 3 n = [48 + n / 10, 48 + n % 10]) ∨ (100 ≤ n ∧ digF 3 n = [48 + n / 100, 48 + n / 10 % 10, 48 + n % 10]) := by
  by_cases h1 : n < 10
  · left
    refine ⟨h1, ?_⟩
    rw [digF, if_pos h1, Nat.mod_eq_of_lt h1]
  · by_cases h2 : n < 100
    · right; left
      refine ⟨by omega, h2, ?_⟩
      rw [digF, if_neg h1, digF, if_pos (by omega), show n / 10 % 10 = n / 10 by omega]
      rfl
    · right; right
      refine ⟨by omega, ?_⟩
      rw [digF, if_neg h1, digF, if_neg (by omega), digF, if_pos (by omega), show n / 10 / 10 % 10 = n / 100 by omega]
      rfl
/-- digits behind whatever -/
theorem dig_opnd {p : List Nat} (hp : ∀ x, x ∈ p → x < 256) {n : Nat} (h : n < 1000) : Opnd (trB (p ++ digF 3 n ++ [59])) p.length (p.length + (digF 3 n).length) ∧ odN (trB (p ++ digF 3 n ++ [59])) p.length = .v n ∧ bt (trB (p ++ digF 3 n ++ [59])) (p.length + (digF 3 n).length) = 59 ∧ (∀ i, i < p.length → bt (trB (p ++ digF 3 n ++ [59])) i = p.getD i 0) ∧ (∀ x, x ∈ p ++ digF 3 n ++ [59] → x < 256) := by
  have hd : ∀ x, x ∈ digF 3 n → x < 256 := fun x hx => by
    rcases dig_cases h with ⟨h1, e⟩ | ⟨h1, h2, e⟩ | ⟨h1, e⟩ <;> rw [e] at hx <;> simp at hx <;> omega
  have hall : ∀ x, x ∈ p ++ digF 3 n ++ [59] → x < 256 := fun x hx => by
    simp at hx
    rcases hx with q | q | q
    · exact hp x q
    · exact hd x q
    · omega
  have hb := bt_trB hall
  have hr : ∀ j, bt (trB (p ++ digF 3 n ++ [59])) (p.length + j) = (digF 3 n ++ [59]).getD j 0 := fun j => by
    rw [hb, List.append_assoc]
    unfold List.getD
    rw [List.getElem?_append_right (by omega), show p.length + j - p.length = j by omega]
  have hl : ∀ i, i < p.length → bt (trB (p ++ digF 3 n ++ [59])) i = p.getD i 0 := fun i hi => by
    rw [hb, List.append_assoc]
    simp [List.getD, List.getElem?_append_left hi]
  have e59 : bt (trB (p ++ digF 3 n ++ [59])) (p.length + (digF 3 n).length) = 59 := by rw [hr]; simp [List.getD]
  have ho : Opnd (trB (p ++ digF 3 n ++ [59])) p.length (p.length + (digF 3 n).length) := by
    rcases dig_cases h with ⟨h1, e⟩ | ⟨h1, h2, e⟩ | ⟨h1, e⟩
    · refine .inr ⟨by rw [e]; simp, by rw [e]; simp, fun k k1 k2 => ?_⟩
      rw [e] at k2
      simp at k2
      obtain ⟨j, rfl⟩ : ∃ j, k = p.length + j := ⟨k - p.length, by omega⟩
      rw [hr, e, show j = 0 by omega]
      simp [digitN]
      omega
    · refine .inr ⟨by rw [e]; simp, by rw [e]; simp, fun k k1 k2 => ?_⟩
      rw [e] at k2
      simp at k2
      obtain ⟨j, rfl⟩ : ∃ j, k = p.length + j := ⟨k - p.length, by omega⟩
      rw [hr, e]
      rcases (show j = 0 ∨ j = 1 by omega) with rfl | rfl <;> simp [digitN] <;> omega
    · refine .inr ⟨by rw [e]; simp, by rw [e]; simp, fun k k1 k2 => ?_⟩
      rw [e] at k2
      simp at k2
      obtain ⟨j, rfl⟩ : ∃ j, k = p.length + j := ⟨k - p.length, by omega⟩
      rw [hr, e]
      rcases (show j = 0 ∨ j = 1 ∨ j = 2 by omega) with rfl | rfl | rfl <;> simp [digitN] <;> omega
  refine ⟨ho, ?_, e59, hl, hall⟩
  unfold odN
  rw [bopN_eq ho (byte_in e59 (by decide)) (by rw [e59]; rfl)]
  have h0 := hr 0
  rw [Nat.add_zero] at h0
  have h1 := hr 1
  have h2 := hr 2
  generalize trB (p ++ digF 3 n ++ [59]) = T at *
  generalize p.length = q at *
  rcases dig_cases h with ⟨k1, e⟩ | ⟨k1, k2, e⟩ | ⟨k1, e⟩
  · rw [e] at h0 ⊢
    have h0' : bt T q = 48 + n := h0
    rw [if_neg (by rw [h0']; simp [smallN]; omega)]
    congr 1
    rw [show q + [48 + n].length - q = 1 by simp]
    show 10 * 0 + (bt T (q + 0) - 48) = n
    rw [Nat.add_zero, h0']
    omega
  · rw [e] at h0 h1 ⊢
    have h0' : bt T q = 48 + n / 10 := h0
    have h1' : bt T (q + 1) = 48 + n % 10 := h1
    rw [if_neg (by rw [h0']; simp [smallN]; omega)]
    congr 1
    rw [show q + [48 + n / 10, 48 + n % 10].length - q = 2 by simp]
    show 10 * (10 * 0 + (bt T (q + 0) - 48)) + (bt T (q + 1) - 48) = n
    rw [Nat.add_zero, h0', h1']
    omega
  · rw [e] at h0 h1 h2 ⊢
    have h0' : bt T q = 48 + n / 100 := h0
    have h1' : bt T (q + 1) = 48 + n / 10 % 10 := h1
    have h2' : bt T (q + 2) = 48 + n % 10 := h2
    rw [if_neg (by rw [h0']; simp [smallN]; omega)]
    congr 1
    rw [show q + [48 + n / 100, 48 + n / 10 % 10, 48 + n % 10].length - q = 3 by simp]
    show 10 * (10 * (10 * 0 + (bt T (q + 0) - 48)) + (bt T (q + 1) - 48)) + (bt T (q + 2) - 48) = n
    rw [Nat.add_zero, h0', h1', h2']
    omega
theorem trB_len (l : List Nat) : (trB l).size = l.length := by simp [trB, ByteArray.size]
/-- n=D; -/
theorem text_set {n : Nat} (h : n < 1000) : Text (trB ([110, 61] ++ digF 3 n ++ [59])) (fun Q => .act (.set 13 (.v n)) Q) := by
  obtain ⟨o1, o2, o3, o4, o5⟩ := dig_opnd (p := [110, 61]) (fun x hx => by simp at hx; omega) h
  have hm : smallN (bt (trB ([110, 61] ++ digF 3 n ++ [59])) 0) = true := by rw [o4 0 (by decide)]; rfl
  have h1 : bt (trB ([110, 61] ++ digF 3 n ++ [59])) 1 = 61 := by rw [o4 1 (by decide)]; rfl
  have b0 : bt (trB ([110, 61] ++ digF 3 n ++ [59])) 0 = 110 := by rw [o4 0 (by decide)]; rfl
  have hK : KSet (trB ([110, 61] ++ digF 3 n ++ [59])) 0 (2 + (digF 3 n).length + 1) := ⟨hm, h1, 2 + (digF 3 n).length, o1, o3, rfl⟩
  have hs := Text.simple (.inr (.inr (.inl hK)))
  rw [acN_set hm o1 o3, b0, show odN (trB ([110, 61] ++ digF 3 n ++ [59])) (0 + 2) = .v n from o2] at hs
  have hz : (trB ([110, 61] ++ digF 3 n ++ [59])).size = 2 + (digF 3 n).length + 1 := by rw [trB_len]; simp; omega
  rw [← hz, ext_all] at hs
  exact hs
/-- a=i*D; -/
theorem text_mul {n : Nat} (h : n < 1000) : Text (trB ([97, 61, 105, 42] ++ digF 3 n ++ [59])) (fun Q => .act (.bin 0 (.n 8) 42 (.v n)) Q) := by
  obtain ⟨o1, o2, o3, o4, o5⟩ := dig_opnd (p := [97, 61, 105, 42]) (fun x hx => by simp at hx; omega) h
  generalize hT : trB ([97, 61, 105, 42] ++ digF 3 n ++ [59]) = T at *
  have b0 : bt T 0 = 97 := by rw [o4 0 (by decide)]; rfl
  have b1 : bt T 1 = 61 := by rw [o4 1 (by decide)]; rfl
  have b2 : bt T 2 = 105 := by rw [o4 2 (by decide)]; rfl
  have b3 : bt T 3 = 42 := by rw [o4 3 (by decide)]; rfl
  have hm : smallN (bt T 0) = true := by rw [b0]; rfl
  have ho : Opnd T (0 + 2) 3 := .inl ⟨by rw [show bt T (0 + 2) = 105 from b2]; rfl, rfl⟩
  have hop : isOp (bt T 3) := by rw [b3]; unfold isOp; decide
  have hK : KCalc T 0 (4 + (digF 3 n).length + 1) := ⟨hm, b1, 3, 4 + (digF 3 n).length, ho, hop, o1, o3, rfl⟩
  have hs := Text.simple (.inr (.inr (.inr (.inl hK))))
  have h3s : 3 < T.size := byte_in b3 (by decide)
  have e2 : odN T (0 + 2) = .n 8 := by
    unfold odN
    rw [show bt T (0 + 2) = 105 from b2]
    rfl
  rw [acN_bin hm ho hop h3s, b0, b3, e2, show odN T (3 + 1) = .v n from o2] at hs
  have hz : T.size = 4 + (digF 3 n).length + 1 := by rw [← hT, trB_len]; simp; omega
  rw [← hz, ext_all] at hs
  exact hs
/-- a text that is written out -/
theorem text_of {s : ByteArray} (h : run s [(83, true)] 0 0 = (0, 0)) : Text s (fun Q => seqP (pgN s (s.size + 1) 0 s.size) Q) := by
  have := text_copy (prog_of_ok h) (Nat.le_refl _)
  rwa [ext_all] at this
/-- @v{ .. } around a piece -/
theorem text_loop {v : Nat} (hv : v < 26) {x : ByteArray} {C : Pg → Pg} (hx : Text x C) : Text (trB [64, 97 + v, 123] ++ x ++ trB [125]) (fun Q => .loop (.n v) (C .nil) Q) := by
  have hb := bt_trB (l := [64, 97 + v, 123, 125]) (fun x hx => by simp at hx; omega)
  have hm : smallN (97 + v) = true := by simp [smallN]; omega
  have ho : Opnd (trB [64, 97 + v, 123, 125]) (0 + 1) 2 := .inl ⟨by rw [hb]; exact hm, rfl⟩
  have hh := Text.loop (s := trB [64, 97 + v, 123, 125]) (i := 0) (a := 2) (b := 3) (by rw [hb]; rfl) ho (by rw [hb]; rfl) (by omega) (by rw [hb]; rfl) hx
  have e1 : odN (trB [64, 97 + v, 123, 125]) (0 + 1) = .n v := by
    unfold odN
    rw [hb]
    show (if smallN (97 + v) = true then Od.n (97 + v - 97) else _) = _
    rw [if_pos hm]
    congr 1
    omega
  rw [e1] at hh
  have x1 : (trB [64, 97 + v, 123, 125]).extract 0 (2 + 1) = trB [64, 97 + v, 123] := by apply ByteArray.ext; simp [trB]
  have x2 : (trB [64, 97 + v, 123, 125]).extract 3 (3 + 1) = trB [125] := by apply ByteArray.ext; simp [trB]
  rw [x1, x2] at hh
  exact hh
end Go.Proofs.YthcjcjfgdgnljabDoor

namespace Go.Proofs.YthcjcjfgdgnljabDoor
set_option linter.unusedVariables false

def sc1 : List Nat := [110, 61]
def sc2 : List Nat := [59, 65, 61, 91, 110, 93, 59, 105, 61, 110, 59, 64, 105, 123, 105, 61, 105, 45, 49, 59, 97, 61, 105, 42]
def sc3 : List Nat := [59, 65, 91, 105, 93, 61, 97, 59, 125, 66, 61, 65, 59, 64, 110, 123, 110, 61, 110, 45, 49, 59, 97, 61, 66, 91, 110, 93, 59, 116, 61, 116, 43, 97, 59, 125, 33, 116, 59]
/-- the text -/
def sumS (n k : Nat) : ByteArray := trB (sc1 ++ digF 3 n ++ sc2 ++ digF 3 k ++ sc3)
/-- the tree -/
def sumP (n k : Nat) : Pg := .act (.set 13 (.v n)) (.act (.make 0 (.n 13)) (.act (.set 8 (.n 13)) (.loop (.n 8) (.act (.bin 8 (.n 8) 45 (.v 1)) (.act (.bin 0 (.n 8) 42 (.v k)) (.act (.store 0 (.n 8) (.n 0)) .nil)))
  (.act (.move 1 0) (.loop (.n 13) (.act (.bin 13 (.n 13) 45 (.v 1)) (.act (.load 0 1 (.n 13)) (.act (.bin 19 (.n 19) 43 (.n 0)) .nil))) (.act (.print (.n 19)) .nil))))))
def sy1 : ByteArray := trB [65, 61, 91, 110, 93, 59, 105, 61, 110, 59]
def sy2 : ByteArray := trB [105, 61, 105, 45, 49, 59]
def sy3 : ByteArray := trB [65, 91, 105, 93, 61, 97, 59]
def sy4 : ByteArray := trB [66, 61, 65, 59]
def sy5 : ByteArray := trB [110, 61, 110, 45, 49, 59, 97, 61, 66, 91, 110, 93, 59, 116, 61, 116, 43, 97, 59]
def sy6 : ByteArray := trB [33, 116, 59]
set_option maxRecDepth 100000 in
theorem sy1_t : Text sy1 (fun Q => .act (.make 0 (.n 13)) (.act (.set 8 (.n 13)) Q)) := by
  have h := text_of (s := sy1) (by kernel_rfl)
  have e : pgN sy1 (sy1.size + 1) 0 sy1.size = .act (.make 0 (.n 13)) (.act (.set 8 (.n 13)) .nil) := by kernel_rfl
  rw [e] at h
  exact h
set_option maxRecDepth 100000 in
theorem sy2_t : Text sy2 (fun Q => .act (.bin 8 (.n 8) 45 (.v 1)) Q) := by
  have h := text_of (s := sy2) (by kernel_rfl)
  have e : pgN sy2 (sy2.size + 1) 0 sy2.size = .act (.bin 8 (.n 8) 45 (.v 1)) .nil := by kernel_rfl
  rw [e] at h
  exact h
set_option maxRecDepth 100000 in
theorem sy3_t : Text sy3 (fun Q => .act (.store 0 (.n 8) (.n 0)) Q) := by
  have h := text_of (s := sy3) (by kernel_rfl)
  have e : pgN sy3 (sy3.size + 1) 0 sy3.size = .act (.store 0 (.n 8) (.n 0)) .nil := by kernel_rfl
  rw [e] at h
  exact h
set_option maxRecDepth 100000 in
theorem sy4_t : Text sy4 (fun Q => .act (.move 1 0) Q) := by
  have h := text_of (s := sy4) (by kernel_rfl)
  have e : pgN sy4 (sy4.size + 1) 0 sy4.size = .act (.move 1 0) .nil := by kernel_rfl
  rw [e] at h
  exact h
set_option maxRecDepth 100000 in
theorem sy5_t : Text sy5 (fun Q => .act (.bin 13 (.n 13) 45 (.v 1)) (.act (.load 0 1 (.n 13)) (.act (.bin 19 (.n 19) 43 (.n 0)) Q))) := by
  have h := text_of (s := sy5) (by kernel_rfl)
  have e : pgN sy5 (sy5.size + 1) 0 sy5.size = .act (.bin 13 (.n 13) 45 (.v 1)) (.act (.load 0 1 (.n 13)) (.act (.bin 19 (.n 19) 43 (.n 0)) .nil)) := by kernel_rfl
  rw [e] at h
  exact h
set_option maxRecDepth 100000 in
theorem sy6_t : Text sy6 (fun Q => .act (.print (.n 19)) Q) := by
  have h := text_of (s := sy6) (by kernel_rfl)
  have e : pgN sy6 (sy6.size + 1) 0 sy6.size = .act (.print (.n 19)) .nil := by kernel_rfl
  rw [e] at h
  exact h
theorem sum_text {n k : Nat} (hn : n < 1000) (hk : k < 1000) : Text (sumS n k) (fun Q => seqP (sumP n k) Q) := by
  have h := ((((((text_set hn).app sy1_t).app (text_loop (v := 8) (by omega) (sy2_t.app ((text_mul hk).app sy3_t)))).app sy4_t).app (text_loop (v := 13) (by omega) sy5_t)).app sy6_t)
  have e : sumS n k = trB ([110, 61] ++ digF 3 n ++ [59]) ++ sy1 ++ (trB [64, 97 + 8, 123] ++ (sy2 ++ (trB ([97, 61, 105, 42] ++ digF 3 k ++ [59]) ++ sy3)) ++ trB [125]) ++ sy4 ++ (trB [64, 97 + 13, 123] ++ sy5 ++ trB [125]) ++ sy6 := by
    unfold sumS sy1 sy2 sy3 sy4 sy5 sy6
    simp only [← trB_app]
    congr 1
    simp [sc1, sc2, sc3]
  rw [e]
  exact text_like h (fun Q => by unfold sumP; simp only [seqP])
theorem sum_size {n k : Nat} : (sumS n k).size ≤ 100 := by
  unfold sumS
  rw [trB_len]
  have h1 := dig_len 3 n
  have h2 := dig_len 3 k
  simp [sc1, sc2, sc3]
  omega
theorem sum_prog {n k : Nat} (hn : n < 1000) (hk : k < 1000) : Prog (sumS n k) ((sumS n k).size + 1) 0 (sumS n k).size ∧ pgN (sumS n k) ((sumS n k).size + 1) 0 (sumS n k).size = sumP n k := by
  have hg := ((sum_text hn hk).good (T := sumS n k) (i := 0) (Emb.self _)).2 ((sumS n k).size + 1) (by omega)
  rw [Nat.zero_add, seq_nil] at hg
  exact hg
set_option maxRecDepth 100000 in
theorem sum_okB (n k : Nat) : okB (sumP n k) noF = true := by kernel_rfl
set_option maxRecDepth 100000 in
theorem sum_low (n k : Nat) : lowG (sumP n k) noF = sumP n k := by kernel_rfl
set_option maxRecDepth 100000 in
theorem sum_min (n k : Nat) : minL (aftG (sumP n k) noF) noF = [1] := by kernel_rfl
set_option maxRecDepth 100000 in
theorem sum_dep (n k : Nat) : dep (sumP n k) = 1 := by kernel_rfl
theorem sum_check {n k : Nat} (hn : n < 1000) (hk : k < 1000) : checkN (sumS n k) = (0, 0) := by
  obtain ⟨h1, h2⟩ := sum_prog hn hk
  have hs := sum_size (n := n) (k := k)
  have hr : run (sumS n k) [(83, true)] 0 0 = (0, 0) := right_of h1 (by rw [h2, sum_dep]; omega)
  have hm : misT (sumS n k) < 0 := mis_none h1 (by rw [h2]; exact okB_ok _ _ (sum_okB n k))
  unfold checkN
  rw [hr, if_neg (by omega), if_neg (by simp), if_neg (by omega)]
theorem sum_lower {n k : Nat} (hn : n < 1000) (hk : k < 1000) : lowTT (sumS n k) = sumS n k ++ trB [126, 66, 59] := by
  obtain ⟨h1, h2⟩ := sum_prog hn hk
  unfold lowTT
  rw [text_fix h1 (by rw [h2]; exact sum_low n k), ext_all, (along_pg _ _ _ h1).1, h2, sum_min]
  rfl
end Go.Proofs.YthcjcjfgdgnljabDoor

namespace Go.Proofs.YthcjcjfgdgnljabDoor
set_option linter.unusedVariables false

/-- a run went on: only box 0 and the numbers 0 and 8 turned, m steps are gone -/
structure Sm (σ σ' : St) (m : Nat) : Prop where
  bx : ∀ j, j ≠ 0 → σ'.bx j = σ.bx j
  at_ : σ'.at_ = σ.at_
  status : σ'.status = σ.status
  tr : σ'.tr = σ.tr
  peak : σ'.peak = σ.peak
  left : σ'.left + m = σ.left
  num : ∀ j, j ≠ 0 → j ≠ 8 → σ'.num j = σ.num j
theorem stp_go {c : Cf} {a : Ac} {σ σ' : St} (hs : isStep a = true) (h0 : σ.left ≠ 0) (h : act c a (due σ) = (σ', true)) : stp c a σ = (σ', true) := by
  rw [stp_yes hs h0]; exact h
theorem bin_45 {x y : Nat} : binN 45 x y = some ((x + 1000 - y) % 1000) := by unfold binN; simp
theorem bin_42 {x y : Nat} : binN 42 x y = some (x * y % 1000) := by unfold binN; simp
theorem bin_43 {x y : Nat} : binN 43 x y = some ((x + y) % 1000) := by unfold binN; simp
def body1 (k : Nat) : Pg := .act (.bin 8 (.n 8) 45 (.v 1)) (.act (.bin 0 (.n 8) 42 (.v k)) (.act (.store 0 (.n 8) (.n 0)) .nil))
def body2 : Pg := .act (.bin 13 (.n 13) 45 (.v 1)) (.act (.load 0 1 (.n 13)) (.act (.bin 19 (.n 19) 43 (.n 0)) .nil))
theorem sum_body1 {c : Cf} {k n i : Nat} (hi : i + 1 ≤ n) (hn : n ≤ 64) {σ : St} (h8 : σ.num 8 = i + 1) (hl : (σ.bx 0).length = n) (hle : 3 ≤ σ.left) :
    ∃ σ', Ex c (body1 k) σ σ' true ∧ Sm σ σ' 3 ∧ σ'.num 8 = i ∧ σ'.bx 0 = (σ.bx 0).set i (i * k % 1000) := by
  let σ1 : St := { due σ with num := upN σ.num 8 i }
  let σ2 : St := { due σ1 with num := upN σ1.num 0 (i * k % 1000) }
  let σ3 : St := { due σ2 with bx := upB σ2.bx 0 ((σ.bx 0).set i (i * k % 1000)) }
  have e1 : stp c (.bin 8 (.n 8) 45 (.v 1)) σ = (σ1, true) := stp_go rfl (by omega) (by
    simp only [act]
    show (match binN 45 (σ.num 8) 1 with | none => ends (due σ) 1 | some x => ({ due σ with num := upN σ.num 8 x }, true)) = _
    rw [bin_45, h8, show (i + 1 + 1000 - 1) % 1000 = i by omega])
  have l1 : σ1.left = σ.left - 1 := rfl
  have n1 : σ1.num 8 = i := by show upN σ.num 8 i 8 = i; rw [upN_at]
  have e2 : stp c (.bin 0 (.n 8) 42 (.v k)) σ1 = (σ2, true) := stp_go rfl (by omega) (by
    simp only [act]
    show (match binN 42 (σ1.num 8) k with | none => ends (due σ1) 1 | some x => ({ due σ1 with num := upN σ1.num 0 x }, true)) = _
    rw [bin_42, n1])
  have l2 : σ2.left = σ.left - 1 - 1 := rfl
  have n2 : σ2.num 8 = i := (upN_ne σ1.num (i * k % 1000) (show 8 ≠ 0 by decide)).trans n1
  have n20 : σ2.num 0 = i * k % 1000 := upN_at σ1.num 0 (i * k % 1000)
  have b2 : σ2.bx 0 = σ.bx 0 := rfl
  have e3 : stp c (.store 0 (.n 8) (.n 0)) σ2 = (σ3, true) := stp_go rfl (by omega) (by
    simp only [act]
    show (if σ2.bx 0 = [] then ends (due σ2) 4 else if (σ2.bx 0).length ≤ σ2.num 8 then ends (due σ2) 1 else ({ due σ2 with bx := upB σ2.bx 0 ((σ2.bx 0).set (σ2.num 8) (σ2.num 0)) }, true)) = _
    rw [b2, n2, n20, if_neg (fun q => by rw [q] at hl; simp at hl; omega), if_neg (by omega)])
  refine ⟨σ3, .go e1 (.go e2 (.go e3 (.nil _))), ⟨fun j hj => upB_ne σ2.bx ((σ.bx 0).set i (i * k % 1000)) hj, rfl, rfl, rfl, rfl, by show σ.left - 1 - 1 - 1 + 3 = σ.left; omega, fun j h0 h8 => ?_⟩, n2, ?_⟩
  · exact (upN_ne σ1.num (i * k % 1000) h0).trans (upN_ne σ.num i h8)
  · exact upB_at σ2.bx 0 ((σ.bx 0).set i (i * k % 1000))
theorem Sm.trans {σ σ1 σ2 : St} {m m' : Nat} (h : Sm σ σ1 m) (g : Sm σ1 σ2 m') : Sm σ σ2 (m + m') :=
  ⟨fun j hj => (g.bx j hj).trans (h.bx j hj), g.at_.trans h.at_, g.status.trans h.status, g.tr.trans h.tr, g.peak.trans h.peak, by have := h.left; have := g.left; omega, fun j h0 h8 => (g.num j h0 h8).trans (h.num j h0 h8)⟩
theorem sm_due {σ : St} (h : σ.left ≠ 0) : Sm σ (due σ) 1 := ⟨fun _ _ => rfl, rfl, rfl, rfl, rfl, by show σ.left - 1 + 1 = σ.left; omega, fun _ _ _ => rfl⟩
theorem sum_loop1 {c : Cf} {k n : Nat} (hn : n ≤ 64) : ∀ (i : Nat), i ≤ n → ∀ {σ : St}, σ.num 8 = i → (σ.bx 0).length = n → (∀ x, i ≤ x → x < n → (σ.bx 0).getD x 0 = x * k % 1000) → 4 * i + 1 ≤ σ.left →
    ∃ σ', Sm σ σ' (4 * i + 1) ∧ (σ'.bx 0).length = n ∧ (∀ x, x < n → (σ'.bx 0).getD x 0 = x * k % 1000) ∧ ∀ {r : Pg} {τ : St} {b : Bool}, Ex c r σ' τ b → Ex c (.loop (.n 8) (body1 k) r) σ τ b
  | 0, hi, σ, h8, hl, ht, hle => ⟨due σ, sm_due (by omega), hl, fun x hx => ht x (Nat.zero_le _) hx, fun h => .loopEnd (by omega) h8 h⟩
  | i + 1, hi, σ, h8, hl, ht, hle => by
    have d := sm_due (σ := σ) (by omega)
    have dl : (due σ).left = σ.left - 1 := rfl
    obtain ⟨σ1, x1, m1, n1, b1⟩ := sum_body1 (c := c) (k := k) hi hn (σ := due σ) h8 hl (by omega)
    have hl1 : (σ1.bx 0).length = n := by rw [b1, List.length_set]; exact hl
    have ml := m1.left
    obtain ⟨σ2, m2, l2, t2, x2⟩ := sum_loop1 (c := c) (k := k) hn i (by omega) (σ := σ1) n1 hl1 (fun x hx hxn => by
      rw [b1]
      show (((σ.bx 0).set i (i * k % 1000)).getD x 0) = _
      unfold List.getD
      rw [List.getElem?_set]
      by_cases e : i = x
      · subst e
        rw [if_pos rfl, if_pos (by omega)]
        rfl
      · rw [if_neg e]
        exact ht x (by omega) hxn) (by omega)
    refine ⟨σ2, ?_, l2, t2, fun h => .loopGo (by omega) (show σ.num 8 ≠ 0 by omega) x1 (x2 h)⟩
    have := (d.trans m1).trans m2
    rw [show 1 + 3 + (4 * i + 1) = 4 * (i + 1) + 1 by omega] at this
    exact this
/-- only the numbers turned -/
structure Sn (σ σ' : St) (m : Nat) : Prop where
  bx : σ'.bx = σ.bx
  status : σ'.status = σ.status
  tr : σ'.tr = σ.tr
  peak : σ'.peak = σ.peak
  left : σ'.left + m = σ.left
theorem Sn.trans {σ σ1 σ2 : St} {m m' : Nat} (h : Sn σ σ1 m) (g : Sn σ1 σ2 m') : Sn σ σ2 (m + m') :=
  ⟨g.bx.trans h.bx, g.status.trans h.status, g.tr.trans h.tr, g.peak.trans h.peak, by have := h.left; have := g.left; omega⟩
theorem sn_due {σ : St} (h : σ.left ≠ 0) : Sn σ (due σ) 1 := ⟨rfl, rfl, rfl, rfl, by show σ.left - 1 + 1 = σ.left; omega⟩
theorem sum_body2 {c : Cf} {k n i : Nat} (hi : i + 1 ≤ n) (hn : n ≤ 64) {σ : St} (h13 : σ.num 13 = i + 1) (hl : (σ.bx 1).length = n) (ht : (σ.bx 1).getD i 0 = i * k % 1000) (hle : 3 ≤ σ.left) :
    ∃ σ', Ex c body2 σ σ' true ∧ Sn σ σ' 3 ∧ σ'.num 13 = i ∧ σ'.num 19 = (σ.num 19 + i * k % 1000) % 1000 := by
  let σ1 : St := { due σ with num := upN σ.num 13 i }
  let σ2 : St := { due σ1 with num := upN σ1.num 0 (i * k % 1000) }
  let σ3 : St := { due σ2 with num := upN σ2.num 19 ((σ.num 19 + i * k % 1000) % 1000) }
  have e1 : stp c (.bin 13 (.n 13) 45 (.v 1)) σ = (σ1, true) := stp_go rfl (by omega) (by
    simp only [act]
    show (match binN 45 (σ.num 13) 1 with | none => ends (due σ) 1 | some x => ({ due σ with num := upN σ.num 13 x }, true)) = _
    rw [bin_45, h13, show (i + 1 + 1000 - 1) % 1000 = i by omega])
  have l1 : σ1.left = σ.left - 1 := rfl
  have n1 : σ1.num 13 = i := by show upN σ.num 13 i 13 = i; rw [upN_at]
  have b1 : σ1.bx 1 = σ.bx 1 := rfl
  have e2 : stp c (.load 0 1 (.n 13)) σ1 = (σ2, true) := stp_go rfl (by omega) (by
    simp only [act]
    show (if σ1.bx 1 = [] then ends (due σ1) 4 else if (σ1.bx 1).length ≤ σ1.num 13 then ends (due σ1) 1 else ({ due σ1 with num := upN σ1.num 0 ((σ1.bx 1).getD (σ1.num 13) 0) }, true)) = _
    rw [b1, n1, if_neg (fun q => by rw [q] at hl; simp at hl; omega), if_neg (by omega), ht])
  have l2 : σ2.left = σ.left - 1 - 1 := rfl
  have n20 : σ2.num 0 = i * k % 1000 := upN_at σ1.num 0 (i * k % 1000)
  have n219 : σ2.num 19 = σ.num 19 := (upN_ne σ1.num (i * k % 1000) (show 19 ≠ 0 by decide)).trans (upN_ne σ.num i (show 19 ≠ 13 by decide))
  have e3 : stp c (.bin 19 (.n 19) 43 (.n 0)) σ2 = (σ3, true) := stp_go rfl (by omega) (by
    simp only [act]
    show (match binN 43 (σ2.num 19) (σ2.num 0) with | none => ends (due σ2) 1 | some x => ({ due σ2 with num := upN σ2.num 19 x }, true)) = _
    rw [bin_43, n20, n219])
  refine ⟨σ3, .go e1 (.go e2 (.go e3 (.nil _))), ⟨rfl, rfl, rfl, rfl, by show σ.left - 1 - 1 - 1 + 3 = σ.left; omega⟩, ?_, ?_⟩
  · exact (upN_ne σ2.num ((σ.num 19 + i * k % 1000) % 1000) (show 13 ≠ 19 by decide)).trans ((upN_ne σ1.num (i * k % 1000) (show 13 ≠ 0 by decide)).trans n1)
  · exact upN_at σ2.num 19 ((σ.num 19 + i * k % 1000) % 1000)
theorem sum_loop2 {c : Cf} {k n : Nat} (hn : n ≤ 64) : ∀ (i : Nat), i ≤ n → ∀ {σ : St}, σ.num 13 = i → (σ.bx 1).length = n → (∀ x, x < n → (σ.bx 1).getD x 0 = x * k % 1000) → σ.num 19 < 1000 → 4 * i + 1 ≤ σ.left →
    ∃ σ', Sn σ σ' (4 * i + 1) ∧ σ'.num 19 = (σ.num 19 + sumN (fun x => x * k % 1000) i) % 1000 ∧ ∀ {r : Pg} {τ : St} {b : Bool}, Ex c r σ' τ b → Ex c (.loop (.n 13) body2 r) σ τ b
  | 0, hi, σ, h13, hl, ht, h19, hle => ⟨due σ, sn_due (by omega), by show σ.num 19 = (σ.num 19 + 0) % 1000; omega, fun h => .loopEnd (by omega) h13 h⟩
  | i + 1, hi, σ, h13, hl, ht, h19, hle => by
    have d := sn_due (σ := σ) (by omega)
    have dl : (due σ).left = σ.left - 1 := rfl
    obtain ⟨σ1, x1, m1, n1, t1⟩ := sum_body2 (c := c) (k := k) hi hn (σ := due σ) h13 hl (ht i (by omega)) (by omega)
    have ml := m1.left
    have eb : σ1.bx = σ.bx := m1.bx
    obtain ⟨σ2, m2, t2, x2⟩ := sum_loop2 (c := c) (k := k) hn i (by omega) (σ := σ1) n1 (by rw [eb]; exact hl) (by rw [eb]; exact ht) (by rw [t1]; omega) (by omega)
    refine ⟨σ2, ?_, ?_, fun h => .loopGo (by omega) (show σ.num 13 ≠ 0 by omega) x1 (x2 h)⟩
    · have := (d.trans m1).trans m2
      rw [show 1 + 3 + (4 * i + 1) = 4 * (i + 1) + 1 by omega] at this
      exact this
    · rw [t2, t1]
      show ((σ.num 19 + i * k % 1000) % 1000 + sumN (fun x => x * k % 1000) i) % 1000 = (σ.num 19 + (sumN (fun x => x * k % 1000) i + i * k % 1000)) % 1000
      omega
/-- the sum -/
theorem sum_tri (n : Nat) : (n + 1) * n / 2 = n * (n - 1) / 2 + n := by
  cases n with
  | zero => rfl
  | succ m =>
    show (m + 1 + 1) * (m + 1) / 2 = (m + 1) * m / 2 + (m + 1)
    have e : (m + 1 + 1) * (m + 1) = (m + 1) * m + (m + 1) * 2 := by rw [Nat.mul_comm (m + 1 + 1), ← Nat.mul_add]
    rw [e, Nat.add_mul_div_right _ _ (by omega)]
theorem sum_is (k : Nat) : ∀ n, sumN (fun x => x * k % 1000) n % 1000 = n * (n - 1) / 2 * k % 1000
  | 0 => by simp [sumN]
  | n + 1 => by
    show (sumN (fun x => x * k % 1000) n + n * k % 1000) % 1000 = (n + 1) * n / 2 * k % 1000
    rw [sum_tri, Nat.add_mul]
    have := sum_is k n
    omega
/-- the run, behind it Q -/
theorem sum_goes {c : Cf} {n k : Nat} (h1 : 1 ≤ n) (hn : n ≤ 64) (hal : ∀ σ : St, (∀ j, σ.bx j = []) → c.al σ n = some 0) :
    ∃ σ : St, σ.status = 0 ∧ σ.tr = digF 3 (n * (n - 1) / 2 * k % 1000) ++ [59] ∧ σ.peak = n ∧ (∀ j, j ≠ 1 → σ.bx j = []) ∧ σ.bx 1 ≠ [] ∧ ∀ {Q : Pg} {τ : St} {b : Bool}, Ex c Q σ τ b → Ex c (seqP (sumP n k) Q) (st0 5000) τ b := by
  let s1 : St := { due (st0 5000) with num := upN (st0 5000).num 13 n }
  let s2 : St := { due s1 with bx := upB s1.bx 0 (List.replicate n 0), at_ := upN s1.at_ 0 0, peak := max s1.peak (0 + n) }
  let s3 : St := { due s2 with num := upN s2.num 8 n }
  have e1 : stp c (.set 13 (.v n)) (st0 5000) = (s1, true) := stp_go rfl (by show 5000 ≠ 0; omega) rfl
  have l1 : s1.left = 4999 := rfl
  have n1 : s1.num 13 = n := upN_at (st0 5000).num 13 n
  have z1 : ∀ j, s1.bx j = [] := fun _ => rfl
  have e2 : stp c (.make 0 (.n 13)) s1 = (s2, true) := stp_go rfl (by omega) (by
    simp only [act]
    show (if c.strict = true ∧ s1.bx 0 ≠ [] then ends (due s1) 4 else if s1.num 13 < 1 ∨ 64 < s1.num 13 then ends (due s1) 1 else match c.al { due s1 with bx := upB s1.bx 0 [] } (s1.num 13) with | none => ends { due s1 with bx := upB s1.bx 0 [] } 3 | some a => ({ due s1 with bx := upB s1.bx 0 (List.replicate (s1.num 13) 0), at_ := upN s1.at_ 0 a, peak := max s1.peak (a + s1.num 13) }, true)) = _
    rw [n1, if_neg (fun q => q.2 (z1 0)), if_neg (by omega), hal { due s1 with bx := upB s1.bx 0 [] } (fun j => by
      show upB s1.bx 0 [] j = []
      by_cases e : j = 0
      · subst e; rw [upB_at]
      · rw [upB_ne _ _ e]; exact z1 j)])
  have l2 : s2.left = 4998 := rfl
  have n2 : s2.num 13 = n := n1
  have e3 : stp c (.set 8 (.n 13)) s2 = (s3, true) := stp_go rfl (by omega) (by
    simp only [act]
    show ({ due s2 with num := upN s2.num 8 (s2.num 13) }, true) = _
    rw [n2])
  have l3 : s3.left = 4997 := rfl
  have b3 : s3.bx 0 = List.replicate n 0 := upB_at s1.bx 0 (List.replicate n 0)
  have bz3 : ∀ j, j ≠ 0 → s3.bx j = [] := fun j hj => (upB_ne s1.bx (List.replicate n 0) hj).trans (z1 j)
  obtain ⟨s4, m4, l4, t4, x4⟩ := sum_loop1 (c := c) (k := k) hn n (Nat.le_refl _) (σ := s3) (by show upN s2.num 8 n 8 = n; rw [upN_at]) (by rw [b3]; simp) (fun x hx hxn => by omega) (by omega)
  have ml4 := m4.left
  have ne4 : s4.bx 0 ≠ [] := fun q => by rw [q] at l4; simp at l4; omega
  have b41 : s4.bx 1 = [] := (m4.bx 1 (by decide)).trans (bz3 1 (by decide))
  let s5 : St := { due s4 with bx := upB (upB s4.bx 1 (s4.bx 0)) 0 [], at_ := upN s4.at_ 1 (s4.at_ 0) }
  have e5 : stp c (.move 1 0) s4 = (s5, true) := stp_go rfl (by omega) (by
    simp only [act]
    show (if s4.bx 0 = [] then ends (due s4) 4 else if 1 = 0 then (due s4, true) else if c.strict = true ∧ s4.bx 1 ≠ [] then ends (due s4) 4 else (s5, true)) = _
    rw [if_neg ne4, if_neg (by decide), if_neg (fun q => q.2 b41)])
  have l5 : s5.left = s4.left - 1 := rfl
  have b5 : s5.bx 1 = s4.bx 0 := by show upB (upB s4.bx 1 (s4.bx 0)) 0 [] 1 = _; rw [upB_ne _ _ (by decide), upB_at]
  have bz5 : ∀ j, j ≠ 1 → s5.bx j = [] := fun j hj => by
    show upB (upB s4.bx 1 (s4.bx 0)) 0 [] j = []
    by_cases e : j = 0
    · subst e; rw [upB_at]
    · rw [upB_ne _ _ e, upB_ne _ _ hj, m4.bx j e]; exact bz3 j e
  have n513 : s5.num 13 = n := (m4.num 13 (by decide) (by decide)).trans (by show upN s2.num 8 n 13 = n; rw [upN_ne _ _ (by decide)]; exact n2)
  have n519 : s5.num 19 = 0 := (m4.num 19 (by decide) (by decide)).trans (by show upN (upN (st0 5000).num 13 n) 8 n 19 = 0; rw [upN_ne _ _ (by decide), upN_ne _ _ (by decide)]; rfl)
  obtain ⟨s6, m6, t6, x6⟩ := sum_loop2 (c := c) (k := k) hn n (Nat.le_refl _) (σ := s5) n513 (by rw [b5]; exact l4) (by rw [b5]; exact t4) (by rw [n519]; omega) (by omega)
  have ml6 := m6.left
  rw [n519, Nat.zero_add, sum_is] at t6
  let s7 : St := { due s6 with tr := s6.tr ++ digF 3 (s6.num 19) ++ [59] }
  have e7 : stp c (.print (.n 19)) s6 = (s7, true) := stp_go rfl (by omega) rfl
  refine ⟨s7, ?_, ?_, ?_, fun j hj => ?_, ?_, fun hQ => ?_⟩
  · show s6.status = 0
    rw [m6.status]; show s4.status = 0
    rw [m4.status]; rfl
  · show s6.tr ++ digF 3 (s6.num 19) ++ [59] = _
    rw [t6, m6.tr]
    show s4.tr ++ _ ++ _ = _
    rw [m4.tr]
    rfl
  · show s6.peak = n
    rw [m6.peak]; show s4.peak = n
    rw [m4.peak]; show max 0 (0 + n) = n
    omega
  · show s6.bx j = []
    rw [m6.bx]; exact bz5 j hj
  · show s6.bx 1 ≠ []
    rw [m6.bx, b5]; exact ne4
  · unfold sumP
    simp only [seqP]
    exact .go e1 (.go e2 (.go e3 (x4 (.go e5 (x6 (.go e7 hQ))))))
theorem cP_al (n : Nat) : ∀ σ : St, (∀ j, σ.bx j = []) → cP.al σ n = some 0 := fun _ _ => rfl
theorem cE_al (n : Nat) : ∀ σ : St, (∀ j, σ.bx j = []) → (cE true n).al σ n = some 0 := fun σ h => alloc_some ⟨by omega, fun b _ q => absurd (h b) q⟩ (fun b hb => absurd hb (by omega))
/-- Play of it, and Exec of what Lower makes of it -/
theorem sum_play {n k : Nat} (h1 : 1 ≤ n) (hn : n ≤ 64) (hk : k < 1000) : ∃ σ, Ends cP (sumS n k) 5000 σ ∧ σ.status = 0 ∧ σ.tr = digF 3 (n * (n - 1) / 2 * k % 1000) ++ [59] := by
  obtain ⟨σ, a1, a2, a3, a4, a5, a6⟩ := sum_goes (c := cP) (k := k) h1 hn (cP_al n)
  refine ⟨σ, ⟨true, ?_⟩, a1, a2⟩
  rw [(sum_prog (show n < 1000 by omega) hk).2]
  have := a6 (.nil σ)
  rw [seq_nil] at this
  exact this
theorem sum_exec {n k : Nat} (h1 : 1 ≤ n) (hn : n ≤ 64) (hk : k < 1000) : ∃ σ, Ends (cE true n) (lowTT (sumS n k)) 5000 σ ∧ σ.status = 0 ∧ σ.tr = digF 3 (n * (n - 1) / 2 * k % 1000) ++ [59] ∧ usedN σ 26 = 0 ∧ σ.peak = n := by
  obtain ⟨σ, a1, a2, a3, a4, a5, a6⟩ := sum_goes (c := cE true n) (k := k) h1 hn (cE_al n)
  have hp := sum_prog (show n < 1000 by omega) hk
  refine ⟨{ σ with bx := upB σ.bx 1 [] }, ⟨true, ?_⟩, a1, a2, ?_, a3⟩
  · rw [(text_top hp.1).2, hp.2]
    unfold lowP
    rw [sum_low, sum_min]
    refine a6 (.go (σ1 := { σ with bx := upB σ.bx 1 [] }) ?_ (.nil _))
    show act (cE true n) (.drop 1) σ = _
    simp only [act]
    rw [if_neg a5]
  · have hz : ∀ j, upB σ.bx 1 [] j = [] := fun j => by
      by_cases e : j = 1
      · subst e; rw [upB_at]
      · rw [upB_ne _ _ e]; exact a4 j e
    have key : ∀ m, usedN { σ with bx := upB σ.bx 1 [] } m = 0 := fun m => by
      induction m with
      | zero => rfl
      | succ m ih =>
        show usedN { σ with bx := upB σ.bx 1 [] } m + (upB σ.bx 1 [] m).length = 0
        rw [ih, hz]
        rfl
    exact key 26
end Go.Proofs.YthcjcjfgdgnljabDoor

namespace Go.Proofs.YthcjcjfgdgnljabDoor
open Go.RowKit Go.Lib
set_option linter.unusedVariables false

theorem dig_str (m : Nat) (u : World) : (convert 33 9 (.slice (some ⟨u.heap.size, 0, none⟩) 1 1)).run Tryd.prog (u.alloc (.cells #[.int .u8 (48 + (m : Int))] 5)) = .ok (strN [48 + m]) (u.alloc (.cells #[.int .u8 (48 + (m : Int))] 5)) := by
  have e : (48 + (m : Int)) = ((48 + m : Nat) : Int) := by omega
  rw [e]
  exact bytes_str u [48 + m]
set_option maxRecDepth 8000 in
set_option maxHeartbeats 1000000 in
theorem digits_one (w : World) (n : Nat) (h : n < 10) : Calls Tryd.prog 5 #[.int .i64 (n : Int)] w fun e w' => e = .returned (.string ⟨([48 + n].map UInt8.ofNat).toArray⟩) ∧ Fr NoB w w' := by
  have hm : ((n : Int) % 10) = (n : Int) := by omega
  have hm2 : Int.tmod (n : Int) 10 = (n : Int) := by rw [Int.tmod_eq_emod_of_nonneg (by omega)]; omega
  have hv := dig_str n
  unfold strN at hv
  generalize (⟨([48 + n].map UInt8.ofNat).toArray⟩ : ByteArray) = L at *
  go_enter Tryd.func5, Tryd.ntmps5
  go_wp2
  go_ret
  exact ⟨rfl, (Fr.refl _ _).alloc _⟩
set_option maxRecDepth 8000 in
set_option maxHeartbeats 1000000 in
theorem digits_more (w : World) (n k m : Nat) (T : ByteArray) (h : 10 ≤ n) (h2 : n < 1000) (hk : n / 10 = k) (hm : n % 10 = m) (hT : T.size ≤ 100) (H : ∀ W, Calls Tryd.prog 5 #[.int .i64 (k : Int)] W fun e w' => e = .returned (.string T) ∧ Fr NoB W w') :
    Calls Tryd.prog 5 #[.int .i64 (n : Int)] w fun e w' => e = .returned (.string (T ++ ⟨([48 + m].map UInt8.ofNat).toArray⟩)) ∧ Fr NoB w w' := by
  have HH : Hid _ := H
  have hm1 : ((n : Int) % 10) = (m : Int) := by omega
  have hm2 : Int.tmod (n : Int) 10 = (m : Int) := by rw [Int.tmod_eq_emod_of_nonneg (by omega)]; omega
  have hk1 : ((n : Int) / 10) = (k : Int) := by omega
  have hk2 : Int.tdiv (n : Int) 10 = (k : Int) := by rw [Int.tdiv_eq_ediv_of_nonneg (by omega)]; omega
  have hml : m < 10 := by omega
  have hv := dig_str m
  unfold strN at hv
  have hL : (⟨([48 + m].map UInt8.ofNat).toArray⟩ : ByteArray).size = 1 := rfl
  generalize (⟨([48 + m].map UInt8.ofNat).toArray⟩ : ByteArray) = L at *
  clear H hk hm
  go_enter Tryd.func5, Tryd.ntmps5
  go_wp2_with (go_at_call 5; refine (HH.out _).mono ?_; rintro e w1 ⟨rfl, hF1⟩)
  go_ret
  exact ⟨rfl, ((Fr.refl _ _).alloc _).trans hF1⟩
theorem dig_app (a b : List Nat) : (⟨(a.map UInt8.ofNat).toArray⟩ : ByteArray) ++ ⟨(b.map UInt8.ofNat).toArray⟩ = ⟨((a ++ b).map UInt8.ofNat).toArray⟩ := by
  apply ByteArray.ext
  simp
theorem digits_fn (w : World) (n : Nat) (h : n < 1000) : Calls Tryd.prog 5 #[.int .i64 (n : Int)] w fun e w' => e = .returned (.string (trB (digF 3 n))) ∧ Fr NoB w w' := by
  have two : ∀ (W : World) (n : Nat), 10 ≤ n → n < 100 → Calls Tryd.prog 5 #[.int .i64 (n : Int)] W fun e w' => e = .returned (.string ⟨([48 + n / 10, 48 + n % 10].map UInt8.ofNat).toArray⟩) ∧ Fr NoB W w' := fun W n h1 h2 => by
    have := digits_more W n (n / 10) (n % 10) _ h1 (by omega) rfl rfl (by simp [ByteArray.size]) (fun X => digits_one X (n / 10) (by omega))
    rwa [dig_app] at this
  rcases dig_cases h with ⟨h1, e⟩ | ⟨h1, h2, e⟩ | ⟨h1, e⟩
  · rw [e]
    exact digits_one w n h1
  · rw [e]
    exact two w n h1 h2
  · rw [e]
    have := digits_more w n (n / 10) (n % 10) _ (by omega) h rfl rfl (by simp [ByteArray.size]) (fun X => two X (n / 10) (by omega) (by omega))
    rw [dig_app, show n / 10 / 10 = n / 100 by omega] at this
    exact this
end Go.Proofs.YthcjcjfgdgnljabDoor
