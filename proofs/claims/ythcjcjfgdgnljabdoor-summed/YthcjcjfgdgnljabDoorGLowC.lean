/-
  ExeI, ExeJ, TurC, LowC: one behind the other.
-/
import Derived.Test.YthcjcjfgdgnljabDoorGExeH
import Derived.Test.YthcjcjfgdgnljabDoorGRunC
import Derived.Test.YthcjcjfgdgnljabDoorGTxtB
namespace Go.Proofs.YthcjcjfgdgnljabDoor
open Go.RowKit
set_option linter.unusedVariables false

theorem rnE_due (σ : St) (q : Nat) (h0 : σ.left ≠ 0) : ({ rnE σ q with left := (rnE σ q).left - 1 } : Rn) = rnE (due σ) q := by
  unfold rnE due
  simp only [Rn.mk.injEq, true_and, and_true]
  omega
section
variable (w : World) (rp q ri rh n : Nat) (s : ByteArray) (σ : St) (md : Int) (i m : Nat)
theorem ExR.run {w : World} {rp q ri rh n : Nat} {s : ByteArray} {σ : St} {md : Int} (h : ExR w rp q ri rh n s σ md) : RunAt w rp s (rnE σ q) := by
  obtain ⟨I, H, B, V, mm, hP, hm⟩ := h
  exact hP.r
theorem ExR.ok {w : World} {rp q ri rh n : Nat} {s : ByteArray} {σ : St} {md : Int} (h : ExR w rp q ri rh n s σ md) : NumOk σ := by
  obtain ⟨I, H, B, V, mm, hP, hm⟩ := h
  exact hP.ok
theorem ExR.pos {w : World} {rp q ri rh n : Nat} {s : ByteArray} {σ : St} {md : Int} (h : ExR w rp q ri rh n s σ md) : 0 ≤ md := by
  obtain ⟨I, H, B, V, mm, hP, hm⟩ := h
  have := hP.m0
  omega
theorem ExR.no {w w' : World} {rp q ri rh n : Nat} {s : ByteArray} {σ : St} {md : Int} (h : ExR w rp q ri rh n s σ md) (hF : Fr NoB w w') : ExR w' rp q ri rh n s σ md := by
  obtain ⟨I, H, B, V, mm, hP, hm⟩ := h
  exact ⟨I, H, B, V, mm, hP.no hF, hm⟩
/-- how a counted sentence ends -/
def ExT (rp q ri rh n : Nat) (s : ByteArray) (z : Int) (x : St × Bool) (w : World) (e : Ending) (w' : World) : Prop := e = .returned (.bool x.2) ∧ (∃ m, ExR w' rp q ri rh n s x.1 m ∧ m + x.1.left ≤ z) ∧ Fr (ExF rp q ri rh) w w'
theorem ExS.t {x : St × Bool} {e : Ending} {w' : World} {md z : Int} {rp q ri rh n : Nat} {s : ByteArray} {w : World} (h : ExS rp q ri rh n s md x w e w') (hz : md + x.1.left ≤ z) : ExT rp q ri rh n s z x w e w' := ⟨h.1, ⟨md, h.2.1, hz⟩, h.2.2⟩
end
/-- the document's Exec is a run in memory -/
def ExM (rp q ri rh n : Nat) (s : ByteArray) (W : World) (σ : St) : Prop := (∃ m, ExR W rp q ri rh n s σ m ∧ m + (σ.left : Int) ≤ 5000) ∧ TrOk σ
end Go.Proofs.YthcjcjfgdgnljabDoor

namespace Go.Proofs.YthcjcjfgdgnljabDoor
open Go.RowKit
set_option linter.unusedVariables false

theorem RunAt.setUsed {w : World} {rp : Nat} {s : ByteArray} {x : Rn} (h : RunAt w rp s x) (v : Int) : RunAt (w.setCell ⟨rp, 109, none⟩ (.int .i64 v)) rp s { x with used := v } :=
  ⟨cell_at h.cs (by omega), fun k hk => cell_at (h.cn k hk) (by omega), fun k hk => cell_at (h.cw k hk) (by omega), cell_at h.ch (by omega), fun k hk => cell_at (h.ca k hk) (by omega), fun k hk => cell_at (h.cl k hk) (by omega),
    cell_at h.cf (by omega), cell_at h.co (by omega), cell_at h.ct (by omega), cell_same h.cu, cell_at h.cp (by omega), fun o => by rw [World.frozen?_setCell]; exact h.fz o⟩
/-- the words of the first k boxes -/
def usedN (σ : St) : Nat → Nat
  | 0 => 0
  | k + 1 => usedN σ k + (σ.bx k).length
theorem used_le {σ : St} (h : NumOk σ) : ∀ k, usedN σ k ≤ 64 * k
  | 0 => Nat.le_refl _
  | k + 1 => by
    have := used_le h k
    have := h.sz k
    show usedN σ k + (σ.bx k).length ≤ 64 * (k + 1)
    omega
/-- the outcome of an Exec -/
def outE (σ : St) : Value := .agg #[.int .i64 (σ.status : Int), .string (trB σ.tr), .int .i64 (usedN σ 26 : Int), .int .i64 (σ.peak : Int)]
end Go.Proofs.YthcjcjfgdgnljabDoor

namespace Go.Proofs.YthcjcjfgdgnljabDoor
set_option linter.unusedVariables false

/-- what is full, under other letters -/
def RF (b : Nat) (f g : Nat → Bool) : Prop := ∀ k, g (ring b k) = f k
theorem RF.upd {b : Nat} {f g : Nat → Bool} (h : RF b f g) (k : Nat) (v : Bool) : RF b (updB f k v) (updB g (ring b k) v) := fun x => by
  unfold updB
  by_cases e : x = k
  · subst e; rw [if_pos rfl, if_pos rfl]
  · rw [if_neg e, if_neg (fun q => e (ring_inj q))]; exact h x
theorem RF.both {b : Nat} {f g f' g' : Nat → Bool} (h : RF b f g) (h' : RF b f' g') : RF b (bothF f f') (bothF g g') := fun x => by
  unfold bothF
  rw [h x, h' x]
theorem RF.iter {b : Nat} {S T : (Nat → Bool) → Nat → Bool} (hT : ∀ f g, RF b f g → RF b (S f) (T g)) : ∀ (n : Nat) {f g : Nat → Bool}, RF b f g → RF b (iterF S n f) (iterF T n g)
  | 0, f, g, h => h
  | n + 1, f, g, h => RF.iter hT n (h.both (hT f g h))
theorem RF.act {a b : Nat} {f g : Nat → Bool} (h : RF b f g) (x : Ac) : RF b (aftA x f) (aftA (renA a b x) g) := by
  cases x with
  | make k o => exact h.upd k true
  | drop k => exact h.upd k false
  | move k l =>
    show RF b (if k = l then f else updB (updB f k (f l)) l false) (if ring b k = ring b l then g else updB (updB g (ring b k) (g (ring b l))) (ring b l) false)
    by_cases e : k = l
    · subst e; rw [if_pos rfl, if_pos rfl]; exact h
    · rw [if_neg e, if_neg (fun q => e (ring_inj q)), h l]
      exact (h.upd k _).upd l false
  | _ => exact h
theorem RF.pg {a b : Nat} : ∀ (P : Pg) {f g : Nat → Bool}, RF b f g → RF b (aftG P f) (aftG (renP a b P) g)
  | .nil, f, g, h => by rw [renP, aftG, aftG]; exact h
  | .act x r, f, g, h => by rw [renP, aftG_act, aftG_act]; exact RF.pg r (h.act x)
  | .ite o p q r, f, g, h => by rw [renP, aftG_ite, aftG_ite]; exact RF.pg r ((RF.pg p h).both (RF.pg q h))
  | .loop o p r, f, g, h => by rw [renP, aftG_loop, aftG_loop]; exact RF.pg r (RF.iter (fun f g q => RF.pg p q) 27 h)
theorem use_ren (a b : Nat) (x : Ac) : useA (renA a b x) = (useA x).map (ring b) := by cases x <;> rfl
section
variable {a b : Nat} {s t : ByteArray}
theorem Trn.use (h : Trn a b s t) (i : Nat) : useN t i = useN s i := by
  unfold useN
  simp only [h.eq (x := 126) rfl, h.eq (x := 91) rfl, h.eq (x := 35) rfl, h.great, h.small]
theorem Trn.along (h : Trn a b s t) {F i j : Nat} (hp : Prog s F i j) {f g : Nat → Bool} (hf : RF b f g) : RF b (alongF s F i j f) (alongF t F i j g) := by
  rw [(along_pg F i j hp).1, (along_pg F i j (h.prog hp)).1, h.pg hp]
  exact RF.pg _ hf
theorem Trn.mis (h : Trn a b s t) : ∀ {F i j : Nat}, Prog s F i j → ∀ {f g : Nat → Bool}, RF b f g → misN t F i j g = misN s F i j f
  | 0, i, j, hp, f, g, hf => rfl
  | F + 1, i, j, hp, f, g, hf => by
    have hp' := hp
    rcases hp with hp | ⟨m, hst, hr⟩
    · subst hp; rw [misN_end, misN_end]
    · have hmj := hr.le
      have hlt := hst.lt
      have hij : i < j := by omega
      have hst2 : StmtF (Prog t F) t i m := by
        rcases hst with hS | ⟨e, x, y, z, ho, ha, hp, hb, hb1, hq, hc, hm⟩ | ⟨e, x, y, ho, ha, hp, hb, hm⟩
        · exact .inl (h.simple hS)
        · exact .inr (.inl ⟨(h.eq rfl).2 e, x, y, z, h.opnd ho, (h.eq rfl).2 ha, h.prog hp, (h.eq rfl).2 hb, (h.eq rfl).2 hb1, h.prog hq, (h.eq rfl).2 hc, hm⟩)
        · exact .inr (.inr ⟨(h.eq rfl).2 e, x, y, h.opnd ho, (h.eq rfl).2 ha, h.prog hp, (h.eq rfl).2 hb, hm⟩)
      rw [misN_step hst hij, misN_step hst2 hij]
      have key : misP t (alongF t F) (misN t F) i g = misP s (alongF s F) (misN s F) i f ∧ RF b (afterF (alongF s F) s i f) (afterF (alongF t F) t i g) := by
        rcases hst with hS | ⟨e, x, y, z, ho, ha, hp, hb, hb1, hq, hc, rfl⟩ | ⟨e, x, y, ho, ha, hp, hb, rfl⟩
        · obtain ⟨w1, w2⟩ := simple_words hS
          obtain ⟨v1, v2⟩ := simple_words (h.simple hS)
          rw [afterF_simple hS, afterF_simple (h.simple hS), w1, v1, h.ac hS, misP_simple hS, misP_simple (h.simple hS), h.use]
          refine ⟨?_, hf.act _⟩
          rw [h.ac hS, use_ren, h.use] at v2
          rcases w2 with ⟨q1, q2⟩ | ⟨k, q1, q2, q3⟩
          · rw [q2, if_neg (by omega), if_neg (by omega)]
          · rcases v2 with ⟨r1, r2⟩ | ⟨l, r1, r2, r3⟩
            · omega
            · rw [q1] at r1
              have e : ring b k = l := by simpa using r1
              rw [q3, r3, ← e, hf k]
        · have hI := ifAt_of e ho ha hp hb hb1 hq hc
          have hI2 := ifAt_of ((h.eq rfl).2 e) (h.opnd ho) ((h.eq rfl).2 ha) (h.prog hp) ((h.eq rfl).2 hb) ((h.eq rfl).2 hb1) (h.prog hq) ((h.eq rfl).2 hc)
          rw [misP_if hI, misP_if hI2, afterF_if hI, afterF_if hI2, Trn.mis h hp hf, Trn.mis h hq hf]
          exact ⟨rfl, (h.along hp hf).both (h.along hq hf)⟩
        · have hL := loopAt_of e ho ha hp hb
          have hL2 := loopAt_of ((h.eq rfl).2 e) (h.opnd ho) ((h.eq rfl).2 ha) (h.prog hp) ((h.eq rfl).2 hb)
          have hi := RF.iter (fun f g q => h.along hp q) 27 hf
          rw [misP_loop hL, misP_loop hL2, afterF_loop hL, afterF_loop hL2, Trn.mis h hp hi]
          exact ⟨rfl, hi⟩
      rw [key.1, Trn.mis h hr key.2]
theorem Trn.check (h : Trn a b s t) : checkN t = checkN s := by
  unfold checkN
  rw [h.sz, h.run]
  split
  · rfl
  · split
    · rfl
    · rename_i h1 h2
      have hpr := prog_of_ok (run_zero (show (Go.Proofs.YthcjcjfgdgnljabDoor.run s [(83, true)] 0 0).1 = 0 by omega))
      have e : misT t = misT s := by
        unfold misT
        rw [h.sz]
        exact h.mis hpr (fun _ => rfl)
      rw [e]
end

/-- a run under other letters -/
structure RS (a b : Nat) (σ τ : St) : Prop where
  num : ∀ k, τ.num (ring a k) = σ.num k
  bx : ∀ k, τ.bx (ring b k) = σ.bx k
  at_ : ∀ k, τ.at_ (ring b k) = σ.at_ k
  left : τ.left = σ.left
  status : τ.status = σ.status
  tr : τ.tr = σ.tr
  peak : τ.peak = σ.peak
theorem ring_upN {x : Nat} {f g : Nat → Nat} (h : ∀ k, g (ring x k) = f k) (k v : Nat) : ∀ j, upN g (ring x k) v (ring x j) = upN f k v j := fun j => by
  unfold upN
  by_cases e : j = k
  · subst e; rw [if_pos rfl, if_pos rfl]
  · rw [if_neg e, if_neg (fun q => e (ring_inj q))]; exact h j
theorem ring_upB {x : Nat} {f g : Nat → List Nat} (h : ∀ k, g (ring x k) = f k) (k : Nat) (v : List Nat) : ∀ j, upB g (ring x k) v (ring x j) = upB f k v j := fun j => by
  unfold upB
  by_cases e : j = k
  · subst e; rw [if_pos rfl, if_pos rfl]
  · rw [if_neg e, if_neg (fun q => e (ring_inj q))]; exact h j
section
variable {a b : Nat} {σ τ : St}
theorem RS.val (h : RS a b σ τ) (o : Od) : valO τ.num (renO a o) = valO σ.num o := by
  cases o with
  | n k => exact h.num k
  | v x => rfl
theorem RS.set (h : RS a b σ τ) (k v : Nat) : RS a b { σ with num := upN σ.num k v } { τ with num := upN τ.num (ring a k) v } := ⟨ring_upN h.num k v, h.bx, h.at_, h.left, h.status, h.tr, h.peak⟩
theorem RS.box (h : RS a b σ τ) (k : Nat) (l : List Nat) : RS a b { σ with bx := upB σ.bx k l } { τ with bx := upB τ.bx (ring b k) l } := ⟨h.num, ring_upB h.bx k l, h.at_, h.left, h.status, h.tr, h.peak⟩
theorem RS.ends (h : RS a b σ τ) (k : Nat) : RS a b (ends σ k).1 (ends τ k).1 := ⟨h.num, h.bx, h.at_, h.left, rfl, h.tr, h.peak⟩
theorem RS.due (h : RS a b σ τ) : RS a b (due σ) (due τ) := ⟨h.num, h.bx, h.at_, by show τ.left - 1 = σ.left - 1; rw [h.left], h.status, h.tr, h.peak⟩
theorem RS.tire (h : RS a b σ τ) : RS a b (tire σ) (tire τ) := ⟨h.num, h.bx, h.at_, h.left, rfl, h.tr, h.peak⟩
end
/-- where blocks are made does not hang on letters -/
def AlOk (a b : Nat) (c : Cf) : Prop := ∀ σ τ m, RS a b σ τ → c.al τ m = c.al σ m
theorem alP (a b : Nat) : AlOk a b cP := fun _ _ _ _ => rfl
theorem alE (a b : Nat) (st : Bool) (n : Nat) : AlOk a b (cE st n) := fun σ τ m h => by
  show allocS n τ m = allocS n σ m
  unfold allocS
  have e : (fun x => decide (FreeS n τ m x)) = (fun x => decide (FreeS n σ m x)) := by
    funext x
    refine decide_eq_decide.2 ⟨fun ⟨h1, h2⟩ => ⟨h1, fun k hk hb => ?_⟩, fun ⟨h1, h2⟩ => ⟨h1, fun k hk hb => ?_⟩⟩
    · have := h2 (ring b k) (ring_lt hk) (by rw [h.bx]; exact hb)
      rw [h.bx, h.at_] at this
      exact this
    · obtain ⟨l, hl, rfl⟩ := ring_onto b hk
      rw [h.bx] at hb
      rw [h.bx, h.at_]
      exact h2 l hl hb
  rw [e]
theorem act_ren {a b : Nat} {c : Cf} (hal : AlOk a b c) (x : Ac) {σ τ : St} (h : RS a b σ τ) : RS a b (act c x σ).1 (act c (renA a b x) τ).1 ∧ (act c (renA a b x) τ).2 = (act c x σ).2 := by
  cases x with
  | set v o => exact ⟨by simp only [renA, act]; rw [h.val]; exact h.set _ _, rfl⟩
  | bin v o k p =>
    simp only [renA, act]
    rw [h.val, h.val]
    cases binN k (valO σ.num o) (valO σ.num p) with
    | none => exact ⟨h.ends 1, rfl⟩
    | some y => exact ⟨h.set _ _, rfl⟩
  | load v k o =>
    simp only [renA, act]
    rw [h.val, h.bx]
    split
    · exact ⟨h.ends 4, rfl⟩
    · split
      · exact ⟨h.ends 1, rfl⟩
      · exact ⟨h.set _ _, rfl⟩
  | size v k =>
    simp only [renA, act]
    rw [h.bx]
    split
    · exact ⟨h.ends 4, rfl⟩
    · exact ⟨h.set _ _, rfl⟩
  | make k o =>
    simp only [renA, act]
    rw [h.val, h.bx, hal _ _ _ (h.box k [])]
    split
    · exact ⟨h.ends 4, rfl⟩
    · split
      · exact ⟨h.ends 1, rfl⟩
      · cases c.al { σ with bx := upB σ.bx k [] } (valO σ.num o) with
        | none => exact ⟨(h.box k []).ends 3, rfl⟩
        | some y => exact ⟨⟨h.num, ring_upB h.bx k _, ring_upN h.at_ k y, h.left, h.status, h.tr, by show max τ.peak _ = max σ.peak _; rw [h.peak]⟩, rfl⟩
  | move k l =>
    simp only [renA, act]
    rw [h.bx, h.bx, h.at_]
    by_cases e1 : σ.bx l = []
    · rw [if_pos e1, if_pos e1]; exact ⟨h.ends 4, rfl⟩
    · rw [if_neg e1, if_neg e1]
      by_cases e2 : k = l
      · subst e2; rw [if_pos rfl, if_pos rfl]; exact ⟨h, rfl⟩
      · rw [if_neg e2, if_neg (fun q => e2 (ring_inj q))]
        split
        · exact ⟨h.ends 4, rfl⟩
        · exact ⟨⟨h.num, ring_upB (ring_upB h.bx k _) l [], ring_upN h.at_ k _, h.left, h.status, h.tr, h.peak⟩, rfl⟩
  | store k o p =>
    simp only [renA, act]
    rw [h.val, h.val, h.bx]
    split
    · exact ⟨h.ends 4, rfl⟩
    · split
      · exact ⟨h.ends 1, rfl⟩
      · exact ⟨h.box _ _, rfl⟩
  | drop k =>
    simp only [renA, act]
    rw [h.bx]
    split
    · exact ⟨h.ends 4, rfl⟩
    · exact ⟨h.box _ _, rfl⟩
  | print o =>
    simp only [renA, act]
    rw [h.val]
    exact ⟨⟨h.num, h.bx, h.at_, h.left, h.status, by show τ.tr ++ _ ++ _ = σ.tr ++ _ ++ _; rw [h.tr], h.peak⟩, trivial⟩
theorem stp_ren {a b : Nat} {c : Cf} (hal : AlOk a b c) (x : Ac) {σ τ : St} (h : RS a b σ τ) : RS a b (stp c x σ).1 (stp c (renA a b x) τ).1 ∧ (stp c (renA a b x) τ).2 = (stp c x σ).2 := by
  have e : isStep (renA a b x) = isStep x := by cases x <;> rfl
  unfold stp
  rw [e, h.left]
  split
  · split
    · exact ⟨h.tire, rfl⟩
    · exact act_ren hal x h.due
  · exact act_ren hal x h
theorem Ex.ren {a b : Nat} {c : Cf} (hal : AlOk a b c) {P : Pg} {σ σ' : St} {bb : Bool} (hE : Ex c P σ σ' bb) : ∀ {τ : St}, RS a b σ τ → ∃ τ', Ex c (renP a b P) τ τ' bb ∧ RS a b σ' τ' := by
  have step : ∀ {x : Ac} {σ σ1 τ : St} {bb : Bool}, stp c x σ = (σ1, bb) → RS a b σ τ → ∃ τ1, stp c (renA a b x) τ = (τ1, bb) ∧ RS a b σ1 τ1 := fun {x σ σ1 τ bb} h hR => by
    obtain ⟨h1, h2⟩ := stp_ren hal x hR
    rw [h] at h1 h2
    exact ⟨(stp c (renA a b x) τ).1, Prod.ext rfl h2, h1⟩
  have ifs : ∀ {σ τ : St} {o : Od} {p q : Pg}, RS a b σ τ → renP a b (if valO σ.num o ≠ 0 then p else q) = (if valO τ.num (renO a o) ≠ 0 then renP a b p else renP a b q) := fun {σ τ o p q} hR => by
    rw [hR.val]
    split <;> rfl
  induction hE with
  | nil σ => exact fun {τ} h => ⟨τ, .nil _, h⟩
  | stop h =>
    intro τ hR
    obtain ⟨τ1, h1, h2⟩ := step h hR
    exact ⟨τ1, .stop h1, h2⟩
  | go h hr ih =>
    intro τ hR
    obtain ⟨τ1, h1, h2⟩ := step h hR
    obtain ⟨τ2, h3, h4⟩ := ih h2
    exact ⟨τ2, .go h1 h3, h4⟩
  | iteTired h => exact fun {τ} hR => ⟨tire τ, .iteTired (by rw [hR.left]; exact h), hR.tire⟩
  | iteStop h hp ih =>
    intro τ hR
    obtain ⟨τ1, h1, h2⟩ := ih hR.due
    rw [ifs hR] at h1
    exact ⟨τ1, .iteStop (by rw [hR.left]; exact h) h1, h2⟩
  | iteGo h hp hr ih1 ih2 =>
    intro τ hR
    obtain ⟨τ1, h1, h2⟩ := ih1 hR.due
    rw [ifs hR] at h1
    obtain ⟨τ2, h3, h4⟩ := ih2 h2
    exact ⟨τ2, .iteGo (by rw [hR.left]; exact h) h1 h3, h4⟩
  | loopTired h => exact fun {τ} hR => ⟨tire τ, .loopTired (by rw [hR.left]; exact h), hR.tire⟩
  | loopEnd h h0 hr ih =>
    intro τ hR
    obtain ⟨τ2, h3, h4⟩ := ih hR.due
    exact ⟨τ2, .loopEnd (by rw [hR.left]; exact h) (by rw [hR.val]; exact h0) h3, h4⟩
  | loopStop h h0 hp ih =>
    intro τ hR
    obtain ⟨τ1, h1, h2⟩ := ih hR.due
    exact ⟨τ1, .loopStop (by rw [hR.left]; exact h) (by rw [hR.val]; exact h0) h1, h2⟩
  | loopGo h h0 hp hr ih1 ih2 =>
    intro τ hR
    obtain ⟨τ1, h1, h2⟩ := ih1 hR.due
    obtain ⟨τ2, h3, h4⟩ := ih2 h2
    exact ⟨τ2, .loopGo (by rw [hR.left]; exact h) (by rw [hR.val]; exact h0) h1 h3, h4⟩
theorem Trn.ends {a b : Nat} {s t : ByteArray} (h : Trn a b s t) {c : Cf} (hal : AlOk a b c) (hp : Prog s (s.size + 1) 0 s.size) {n : Nat} {σ : St} (hE : Ends c s n σ) : ∃ τ, Ends c t n τ ∧ RS a b σ τ := by
  obtain ⟨bb, hE⟩ := hE
  obtain ⟨τ, h1, h2⟩ := hE.ren hal (a := a) (b := b) (τ := st0 n) ⟨fun _ => rfl, fun _ => rfl, fun _ => rfl, rfl, rfl, rfl, rfl⟩
  refine ⟨τ, ⟨bb, ?_⟩, h2⟩
  rw [h.sz, h.pg hp]
  exact h1
/-- a sum along a ring -/
def sumN (f : Nat → Nat) : Nat → Nat
  | 0 => 0
  | k + 1 => sumN f k + f k
theorem sum_congr {f g : Nat → Nat} : ∀ {n : Nat}, (∀ k, k < n → f k = g k) → sumN f n = sumN g n
  | 0, _ => rfl
  | n + 1, h => by
    show sumN f n + f n = sumN g n + g n
    rw [sum_congr (fun k hk => h k (by omega)), h n (by omega)]
theorem sum_one (f : Nat → Nat) : sumN (fun k => f ((k + 1) % 26)) 26 = sumN f 26 := by
  simp only [sumN]
  simp
  omega
theorem sum_ring (f : Nat → Nat) : ∀ x, sumN (fun k => f ((k + x) % 26)) 26 = sumN f 26
  | 0 => sum_congr (fun k hk => by show f ((k + 0) % 26) = f k; rw [Nat.add_zero, Nat.mod_eq_of_lt hk])
  | x + 1 => by
    rw [← sum_ring f x, ← sum_one (fun k => f ((k + x) % 26))]
    refine sum_congr (fun k hk => ?_)
    show f ((k + (x + 1)) % 26) = f (((k + 1) % 26 + x) % 26)
    rw [show (k + (x + 1)) % 26 = ((k + 1) % 26 + x) % 26 by omega]
theorem used_sum (σ : St) : ∀ n, usedN σ n = sumN (fun k => (σ.bx k).length) n
  | 0 => rfl
  | n + 1 => by
    show usedN σ n + (σ.bx n).length = sumN (fun k => (σ.bx k).length) n + (σ.bx n).length
    rw [used_sum]
theorem RS.used {a b : Nat} {σ τ : St} (h : RS a b σ τ) : usedN τ 26 = usedN σ 26 := by
  rw [used_sum, used_sum, ← sum_ring (fun k => (τ.bx k).length) b]
  refine sum_congr (fun k hk => ?_)
  show (τ.bx ((k + b) % 26)).length = (σ.bx k).length
  rw [← h.bx k]
  unfold ring
  rw [if_pos hk]
end Go.Proofs.YthcjcjfgdgnljabDoor

namespace Go.Proofs.YthcjcjfgdgnljabDoor
set_option linter.unusedVariables false

/-- blocks lie apart, below the greatest word so far, which is in the heap -/
structure Pk (n : Nat) (σ : St) : Prop where
  ap : Ap n σ
  pk : ∀ b, b < 26 → σ.bx b ≠ [] → σ.at_ b + (σ.bx b).length ≤ σ.peak
  top : σ.peak ≤ n
theorem Pk.like {n : Nat} {σ τ : St} (h : Pk n σ) (h1 : τ.bx = σ.bx) (h2 : τ.at_ = σ.at_) (h3 : τ.peak = σ.peak) : Pk n τ := ⟨h.ap.keep h1 h2, by rw [h1, h2, h3]; exact h.pk, by rw [h3]; exact h.top⟩
theorem act_pk {n : Nat} {st : Bool} {a : Ac} (ha : AcOk a) {σ : St} (h : Pk n σ) : Pk n (act (cE st n) a σ).1 := by
  have ends_ : ∀ k, Pk n (ends σ k).1 := fun k => h.like rfl rfl rfl
  have drop_ : ∀ k, Pk n { σ with bx := upB σ.bx k [] } := fun k => ⟨h.ap.drop k, fun b hb hx => by
    have hx' : upB σ.bx k [] b ≠ [] := hx
    show σ.at_ b + (upB σ.bx k [] b).length ≤ σ.peak
    by_cases e : b = k
    · subst e; rw [upB_at] at hx'; exact absurd rfl hx'
    · rw [upB_ne _ _ e] at hx' ⊢; exact h.pk b hb hx', h.top⟩
  cases a with
  | set v o => exact h.like rfl rfl rfl
  | bin v o k p =>
    simp only [act]
    split
    · exact ends_ 1
    · exact h.like rfl rfl rfl
  | load v k o =>
    simp only [act]
    split
    · exact ends_ 4
    · split
      · exact ends_ 1
      · exact h.like rfl rfl rfl
  | size v k =>
    simp only [act]
    split
    · exact ends_ 4
    · exact h.like rfl rfl rfl
  | print o => exact h.like rfl rfl rfl
  | drop k =>
    simp only [act]
    split
    · exact ends_ 4
    · exact drop_ k
  | store k o p =>
    simp only [act]
    split
    · exact ends_ 4
    · split
      · exact ends_ 1
      · refine ⟨h.ap.less (fun b hb => ?_) rfl, fun b hb hx => ?_, h.top⟩
        · have hb' : upB σ.bx k ((σ.bx k).set (valO σ.num o) (valO σ.num p)) b ≠ [] := hb
          show σ.bx b ≠ [] ∧ (upB σ.bx k ((σ.bx k).set (valO σ.num o) (valO σ.num p)) b).length = (σ.bx b).length
          by_cases e : b = k
          · subst e
            rw [upB_at] at hb' ⊢
            exact ⟨fun q => hb' (by rw [q]; rfl), by simp⟩
          · rw [upB_ne _ _ e] at hb' ⊢
            exact ⟨hb', rfl⟩
        · have hx' : upB σ.bx k ((σ.bx k).set (valO σ.num o) (valO σ.num p)) b ≠ [] := hx
          show σ.at_ b + (upB σ.bx k ((σ.bx k).set (valO σ.num o) (valO σ.num p)) b).length ≤ σ.peak
          by_cases e : b = k
          · subst e
            rw [upB_at] at hx' ⊢
            have := h.pk b hb (fun q => hx' (by rw [q]; rfl))
            simpa using this
          · rw [upB_ne _ _ e] at hx' ⊢
            exact h.pk b hb hx'
  | make k o =>
    simp only [act]
    split
    · exact ends_ 4
    · split
      · exact ends_ 1
      · rename_i h1 hv
        cases hal : (cE st n).al { σ with bx := upB σ.bx k [] } (valO σ.num o) with
        | none => exact (drop_ k).like rfl rfl rfl
        | some y =>
          have hf := (alloc_is (show allocS n { σ with bx := upB σ.bx k [] } (valO σ.num o) = some y from hal)).1
          refine ⟨Ap.fill (drop_ k).ap (by simp) (by omega) hf, fun b hb hx => ?_, ?_⟩
          · have hx' : upB σ.bx k (List.replicate (valO σ.num o) 0) b ≠ [] := hx
            show upN σ.at_ k y b + (upB σ.bx k (List.replicate (valO σ.num o) 0) b).length ≤ max σ.peak (y + valO σ.num o)
            by_cases e : b = k
            · subst e
              rw [upN_at, upB_at, List.length_replicate]
              omega
            · rw [upB_ne _ _ e] at hx' ⊢
              rw [upN_ne _ _ e]
              have := h.pk b hb hx'
              omega
          · have := hf.1
            have := h.top
            show max σ.peak (y + valO σ.num o) ≤ n
            omega
  | move k d =>
    simp only [act]
    split
    · exact ends_ 4
    · split
      · exact h
      · split
        · exact ends_ 4
        · rename_i h1 h2 h3
          refine ⟨h.ap.move ha.1 ha.2 h2, fun b hb hx => ?_, h.top⟩
          have hx' : upB (upB σ.bx k (σ.bx d)) d [] b ≠ [] := hx
          show upN σ.at_ k (σ.at_ d) b + (upB (upB σ.bx k (σ.bx d)) d [] b).length ≤ σ.peak
          by_cases e1 : b = d
          · subst e1; rw [upB_at] at hx'; exact absurd rfl hx'
          · rw [upB_ne _ _ e1] at hx' ⊢
            by_cases e2 : b = k
            · subst e2
              rw [upB_at] at hx' ⊢
              rw [upN_at]
              exact h.pk d ha.2 hx'
            · rw [upB_ne _ _ e2] at hx' ⊢
              rw [upN_ne _ _ e2]
              exact h.pk b hb hx'
theorem stp_pk {n : Nat} {st : Bool} {a : Ac} (ha : AcOk a) {σ : St} (h : Pk n σ) : Pk n (stp (cE st n) a σ).1 := by
  unfold stp
  split
  · split
    · exact h.like rfl rfl rfl
    · exact act_pk ha (h.like (τ := due σ) rfl rfl rfl)
  · exact act_pk ha h
theorem Ex.pk {n : Nat} {st : Bool} {P : Pg} {σ σ' : St} {b : Bool} (h : Ex (cE st n) P σ σ' b) : PgOk P → Pk n σ → Pk n σ' := by
  induction h with
  | nil σ => exact fun _ q => q
  | @stop a r σ σ' h => exact fun hp q => by have := stp_pk (n := n) (st := st) hp.1 q; rw [h] at this; exact this
  | @go a r σ σ1 σ2 b h hr ih => exact fun hp q => ih hp.2 (by have := stp_pk (n := n) (st := st) hp.1 q; rw [h] at this; exact this)
  | iteTired h => exact fun _ q => q.like rfl rfl rfl
  | @iteStop o p q r σ σ1 h hp ih => exact fun hpo k => ih (by split; exact hpo.2.1; exact hpo.2.2.1) (k.like rfl rfl rfl)
  | @iteGo o p q r σ σ1 σ2 b h hp hr ih1 ih2 => exact fun hpo k => ih2 hpo.2.2.2 (ih1 (by split; exact hpo.2.1; exact hpo.2.2.1) (k.like rfl rfl rfl))
  | loopTired h => exact fun _ q => q.like rfl rfl rfl
  | loopEnd h h0 hr ih => exact fun hpo q => ih hpo.2.2 (q.like rfl rfl rfl)
  | loopStop h h0 hp ih => exact fun hpo q => ih hpo.2.1 (q.like rfl rfl rfl)
  | loopGo h h0 hp hr ih1 ih2 => exact fun hpo q => ih2 hpo (ih1 hpo.2.1 (q.like rfl rfl rfl))
/-- with 3264 words there is room -/
theorem act_room {n : Nat} (hn : 3264 ≤ n) {a : Ac} (ha : AcOk a) {σ : St} (h : Pk n σ) (h3 : σ.status ≠ 3) : (act (cE true n) a σ).1.status ≠ 3 := by
  cases a with
  | make k o =>
    simp only [act]
    split
    · simp [ends]
    · split
      · simp [ends]
      · rename_i h1 hv
        have hk : σ.bx k = [] := Classical.byContradiction (fun q => h1 ⟨rfl, q⟩)
        cases hal : (cE true n).al { σ with bx := upB σ.bx k [] } (valO σ.num o) with
        | none =>
          obtain ⟨y, hy⟩ := room hn (h.ap.drop k) ha.1 (by show upB σ.bx k [] k = []; rw [upB_at]) (k := valO σ.num o) (by omega)
          exact absurd hy (alloc_no hal y)
        | some y => exact h3
  | bin v o k p =>
    simp only [act]
    split
    · simp [ends]
    · exact h3
  | load v k o =>
    simp only [act]
    (repeat' split) <;> first | exact h3 | simp [ends]
  | size v k =>
    simp only [act]
    (repeat' split) <;> first | exact h3 | simp [ends]
  | store k o p =>
    simp only [act]
    (repeat' split) <;> first | exact h3 | simp [ends]
  | drop k =>
    simp only [act]
    (repeat' split) <;> first | exact h3 | simp [ends]
  | move k d =>
    simp only [act]
    (repeat' split) <;> first | exact h3 | simp [ends]
  | set v o => exact h3
  | print o => exact h3
theorem stp_room {n : Nat} (hn : 3264 ≤ n) {a : Ac} (ha : AcOk a) {σ : St} (h : Pk n σ) (h3 : σ.status ≠ 3) : (stp (cE true n) a σ).1.status ≠ 3 := by
  unfold stp
  split
  · split
    · simp [tire]
    · exact act_room hn ha (h.like (τ := due σ) rfl rfl rfl) h3
  · exact act_room hn ha h h3
theorem Ex.room {n : Nat} (hn : 3264 ≤ n) {P : Pg} {σ σ' : St} {b : Bool} (h : Ex (cE true n) P σ σ' b) : PgOk P → Pk n σ → σ.status ≠ 3 → σ'.status ≠ 3 := by
  induction h with
  | nil σ => exact fun _ _ q => q
  | @stop a r σ σ' h => exact fun hp k q => by have := stp_room hn hp.1 k q; rw [h] at this; exact this
  | @go a r σ σ1 σ2 b h hr ih => exact fun hp k q => ih hp.2 (by have := stp_pk (n := n) (st := true) hp.1 k; rw [h] at this; exact this) (by have := stp_room hn hp.1 k q; rw [h] at this; exact this)
  | iteTired h => exact fun _ _ q => by simp [tire]
  | @iteStop o p q r σ σ1 h hp ih => exact fun hpo k j => ih (by split; exact hpo.2.1; exact hpo.2.2.1) (k.like rfl rfl rfl) j
  | @iteGo o p q r σ σ1 σ2 b h hp hr ih1 ih2 =>
    intro hpo k j
    have hpq : PgOk (if valO σ.num o ≠ 0 then p else q) := by split; exact hpo.2.1; exact hpo.2.2.1
    exact ih2 hpo.2.2.2 (hp.pk hpq (k.like rfl rfl rfl)) (ih1 hpq (k.like rfl rfl rfl) j)
  | loopTired h => exact fun _ _ q => by simp [tire]
  | loopEnd h h0 hr ih => exact fun hpo k q => ih hpo.2.2 (k.like rfl rfl rfl) q
  | loopStop h h0 hp ih => exact fun hpo k q => ih hpo.2.1 (k.like rfl rfl rfl) q
  | loopGo h h0 hp hr ih1 ih2 => exact fun hpo k q => ih2 hpo (hp.pk hpo.2.1 (k.like rfl rfl rfl)) (ih1 hpo.2.1 (k.like rfl rfl rfl) q)

/-- how many of the first p words lie in a run of l from a on -/
theorem sum_run (a l : Nat) : ∀ p, sumN (fun i => if a ≤ i ∧ i < a + l then 1 else 0) p = min p (a + l) - min p a
  | 0 => by simp [sumN]
  | p + 1 => by
    show sumN _ p + (if a ≤ p ∧ p < a + l then 1 else 0) = _
    rw [sum_run a l p]
    split <;> omega
theorem sum_add (f g : Nat → Nat) : ∀ n, sumN (fun i => f i + g i) n = sumN f n + sumN g n
  | 0 => rfl
  | n + 1 => by
    show sumN (fun i => f i + g i) n + (f n + g n) = sumN f n + f n + (sumN g n + g n)
    rw [sum_add f g n]
    omega
theorem sum_le {f g : Nat → Nat} : ∀ {n : Nat}, (∀ i, i < n → f i ≤ g i) → sumN f n ≤ sumN g n
  | 0, _ => Nat.le_refl _
  | n + 1, h => by
    have := sum_le (fun i hi => h i (Nat.lt_succ_of_lt hi))
    have := h n (Nat.lt_succ_self n)
    show sumN f n + f n ≤ sumN g n + g n
    omega
theorem sum_const (c : Nat) : ∀ n, sumN (fun _ => c) n = n * c
  | 0 => by simp [sumN]
  | n + 1 => by show sumN (fun _ => c) n + c = _; rw [sum_const c n, Nat.succ_mul]
/-- runs that lie apart below p have together p words at most -/
theorem runs_sum (A L : Nat → Nat) (p : Nat) : ∀ m, (∀ b, b < m → A b + L b ≤ p ∨ L b = 0) → sumN L m = sumN (fun i => sumN (fun b => if A b ≤ i ∧ i < A b + L b then 1 else 0) m) p
  | 0, _ => by
    show 0 = sumN (fun _ => 0) p
    rw [sum_const, Nat.mul_zero]
  | m + 1, h => by
    show sumN L m + L m = sumN (fun i => sumN (fun b => if A b ≤ i ∧ i < A b + L b then 1 else 0) m + (if A m ≤ i ∧ i < A m + L m then 1 else 0)) p
    rw [sum_add, runs_sum A L p m (fun b hb => h b (by omega)), sum_run]
    have := h m (by omega)
    omega
theorem one_of (A L : Nat → Nat) (i : Nat) : ∀ m, (∀ b c, b < m → c < m → b ≠ c → ¬ ((A b ≤ i ∧ i < A b + L b) ∧ (A c ≤ i ∧ i < A c + L c))) → sumN (fun b => if A b ≤ i ∧ i < A b + L b then 1 else 0) m ≤ 1
  | 0, _ => by simp [sumN]
  | m + 1, h => by
    show sumN _ m + (if A m ≤ i ∧ i < A m + L m then 1 else 0) ≤ 1
    by_cases e : A m ≤ i ∧ i < A m + L m
    · rw [if_pos e]
      have : sumN (fun b => if A b ≤ i ∧ i < A b + L b then 1 else 0) m = 0 := by
        have h2 : sumN (fun b => if A b ≤ i ∧ i < A b + L b then 1 else 0) m = sumN (fun _ => 0) m := sum_congr (fun b hb => if_neg (fun q => h b m (by omega) (by omega) (by omega) ⟨q, e⟩))
        rw [h2, sum_const]
        omega
      omega
    · rw [if_neg e]
      have := one_of A L i m (fun b c hb hc => h b c (by omega) (by omega))
      omega
/-- what is used lies below the greatest word -/
theorem Pk.used {n : Nat} {σ : St} (h : Pk n σ) : usedN σ 26 ≤ σ.peak := by
  rw [used_sum, runs_sum σ.at_ (fun k => (σ.bx k).length) σ.peak 26 (fun b hb => by
    by_cases e : σ.bx b = []
    · exact .inr (by rw [e]; rfl)
    · exact .inl (h.pk b hb e))]
  refine Nat.le_trans (sum_le (g := fun _ => 1) (fun i hi => one_of _ _ i 26 (fun b c hb hc hbc q => ?_))) (by rw [sum_const]; omega)
  have e1 : σ.bx b ≠ [] := fun e => by simp [e] at q; omega
  have e2 : σ.bx c ≠ [] := fun e => by simp [e] at q; omega
  have := h.ap.ap b c hb hc hbc e1 e2
  omega
theorem pk_st0 (n k : Nat) : Pk n (st0 k) := ⟨⟨fun j hj q => absurd rfl q, fun j hj => by simp [st0], fun i j _ _ _ q => absurd rfl q⟩, fun j hj q => absurd rfl q, Nat.zero_le _⟩
end Go.Proofs.YthcjcjfgdgnljabDoor
