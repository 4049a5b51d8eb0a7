import Derived.Test.YthcjcjfgdgnljabGreatDoorGFulD
set_option linter.unusedVariables false
set_option maxHeartbeats 4000000
set_option maxRecDepth 8000
open Go.Proofs.Tryz
namespace Go.Proofs.YthcjcjfgdgnljabGreatDoor
open Go.RowKit
def useN (s:ByteArray) (i:Nat):Int :=
 if bt s i = 126 then (i:Int) + 1
 else if greatN (bt s i) = true ∧ bt s (i + 1) = 91 then (i:Int)
 else if greatN (bt s i) = true ∧ greatN (bt s (i + 2)) = true then (i:Int) + 2
 else if smallN (bt s i) = true ∧ bt s (i + 2) = 35 then (i:Int) + 3
 else if smallN (bt s i) = true ∧ greatN (bt s (i + 2)) = true then (i:Int) + 2
 else -1
theorem us_drop (w:World) (s:ByteArray) (hs:s.size ≤ 100000) (i:Nat) (hi:i < s.size) (b3:((s[i].toNat:Int) == 126) = true) :
  CS 75 #[.string s,.int .i64 i] w (.int .i64 ((i:Int) + 1)):=by
 go_enter func75,ntmps75
 go_wp2
 go_ret
 exact ⟨rfl,rfl⟩
theorem us_store (w:World) (s:ByteArray) (hs:s.size ≤ 100000) (i:Nat) (hi:i + 1 < s.size) (b3:((s[i].toNat:Int) == 126) = false) (hg:greatN s[i].toNat = true) (b4:((s[i + 1].toNat:Int) == 91) = true) :
  CS 75 #[.string s,.int .i64 i] w (.int .i64 ((i:Int))):=by
 go_enter func75,ntmps75
 go_wp2_with (first
  | (go_at_call 88;refine sameC (great_fn _ _ (UInt8.toNat_lt _)) ?_;first | rw [hg]))
 go_ret
 exact ⟨rfl,rfl⟩
theorem us_move (w:World) (s:ByteArray) (hs:s.size ≤ 100000) (i:Nat) (hi:i + 2 < s.size) (b3:((s[i].toNat:Int) == 126) = false) (hg:greatN s[i].toNat = true) (b4:((s[i + 1].toNat:Int) == 91) = false) (hg2:greatN s[i + 2].toNat = true) :
  CS 75 #[.string s,.int .i64 i] w (.int .i64 ((i:Int) + 2)):=by
 go_enter func75,ntmps75
 go_wp2_with (first
  | (go_at_call 88;refine sameC (great_fn _ _ (UInt8.toNat_lt _)) ?_;first | rw [hg] | rw [hg2]))
 go_ret
 exact ⟨rfl,rfl⟩
theorem us_make (w:World) (s:ByteArray) (hs:s.size ≤ 100000) (i:Nat) (hi:i + 2 < s.size) (b3:((s[i].toNat:Int) == 126) = false) (hg:greatN s[i].toNat = true) (b4:((s[i + 1].toNat:Int) == 91) = false) (hg2:greatN s[i + 2].toNat = false) (hm:smallN s[i].toNat = false) :
  CS 75 #[.string s,.int .i64 i] w (.int .i64 (-1)):=by
 go_enter func75,ntmps75
 go_wp2_with (first
  | (go_at_call 88;refine sameC (great_fn _ _ (UInt8.toNat_lt _)) ?_;first | rw [hg] | rw [hg2])
  | (go_at_call 106;refine sameC (small_fn _ _ (UInt8.toNat_lt _)) ?_;first | rw [hm]))
 go_ret
 exact ⟨rfl,rfl⟩
theorem us_size (w:World) (s:ByteArray) (hs:s.size ≤ 100000) (i:Nat) (hi:i + 2 < s.size) (b3:((s[i].toNat:Int) == 126) = false) (hg:greatN s[i].toNat = false) (hm:smallN s[i].toNat = true) (b4:((s[i + 2].toNat:Int) == 35) = true) :
  CS 75 #[.string s,.int .i64 i] w (.int .i64 ((i:Int) + 3)):=by
 go_enter func75,ntmps75
 go_wp2_with (first
  | (go_at_call 88;refine sameC (great_fn _ _ (UInt8.toNat_lt _)) ?_;first | rw [hg])
  | (go_at_call 106;refine sameC (small_fn _ _ (UInt8.toNat_lt _)) ?_;first | rw [hm]))
 go_ret
 exact ⟨rfl,rfl⟩
theorem us_load (w:World) (s:ByteArray) (hs:s.size ≤ 100000) (i:Nat) (hi:i + 2 < s.size) (b3:((s[i].toNat:Int) == 126) = false) (hg:greatN s[i].toNat = false) (hm:smallN s[i].toNat = true) (b4:((s[i + 2].toNat:Int) == 35) = false) (hg2:greatN s[i + 2].toNat = true) :
  CS 75 #[.string s,.int .i64 i] w (.int .i64 ((i:Int) + 2)):=by
 go_enter func75,ntmps75
 go_wp2_with (first
  | (go_at_call 88;refine sameC (great_fn _ _ (UInt8.toNat_lt _)) ?_;first | rw [hg] | rw [hg2])
  | (go_at_call 106;refine sameC (small_fn _ _ (UInt8.toNat_lt _)) ?_;first | rw [hm]))
 go_ret
 exact ⟨rfl,rfl⟩
theorem us_set (w:World) (s:ByteArray) (hs:s.size ≤ 100000) (i:Nat) (hi:i + 2 < s.size) (b3:((s[i].toNat:Int) == 126) = false) (hg:greatN s[i].toNat = false) (hm:smallN s[i].toNat = true) (b4:((s[i + 2].toNat:Int) == 35) = false) (hg2:greatN s[i + 2].toNat = false) :
  CS 75 #[.string s,.int .i64 i] w (.int .i64 (-1)):=by
 go_enter func75,ntmps75
 go_wp2_with (first
  | (go_at_call 88;refine sameC (great_fn _ _ (UInt8.toNat_lt _)) ?_;first | rw [hg] | rw [hg2])
  | (go_at_call 106;refine sameC (small_fn _ _ (UInt8.toNat_lt _)) ?_;first | rw [hm]))
 go_ret
 exact ⟨rfl,rfl⟩
theorem us_print (w:World) (s:ByteArray) (hs:s.size ≤ 100000) (i:Nat) (hi:i < s.size) (b3:((s[i].toNat:Int) == 126) = false) (hg:greatN s[i].toNat = false) (hm:smallN s[i].toNat = false) :
  CS 75 #[.string s,.int .i64 i] w (.int .i64 (-1)):=by
 go_enter func75,ntmps75
 go_wp2_with (first
  | (go_at_call 88;refine sameC (great_fn _ _ (UInt8.toNat_lt _)) ?_;first | rw [hg])
  | (go_at_call 106;refine sameC (small_fn _ _ (UInt8.toNat_lt _)) ?_;first | rw [hm]))
 go_ret
 exact ⟨rfl,rfl⟩
theorem Opnd.head {s:ByteArray} {i j:Nat} (h:Opnd s i j):greatN (bt s i) = false ∧ bt s i ≠ 35 ∧ i < s.size:=by
 rcases h with ⟨h,_⟩ | ⟨h1,_,h2⟩
 ·have:=small_in h
  exact ⟨this.2.2.2.2,fun e=>by rw [e] at h;simp [smallN] at h,this.1⟩
 ·have h3:=h2 i (Nat.le_refl _) h1
  have:=digit_in h3
  exact ⟨this.2.2.2.2,fun e=>by rw [e] at h3;simp [digitN] at h3,this.1⟩
theorem used_fn (s:ByteArray) (hs:s.size ≤ 100000) (i j:Nat) (h:Simple s i j) :
  (useN s i = -1 ∨ ∃ q:Nat,useN s i = (q:Int) ∧ q < s.size ∧ greatN (bt s q) = true) ∧
  ∀ w:World,CS 75 #[.string s,.int .i64 i] w (.int .i64 (useN s i)):=by
 have hl:=h.line
 have hi:i < s.size:=by omega
 have b3:bt s i ≠ 126 → ((s[i].toNat:Int) == 126) = false:=fun h=>beq_eq_false_iff_ne.2 (by rw [bt_in hi] at h;omega)
 rcases h with h | h | h | h | h | h | h | h | h
 ·obtain ⟨hm,e1,e2,hg3,_⟩:=h
  have hn:bt s i ≠ 126:=fun e=>by rw [e] at hm;simp [smallN] at hm
  have hg:=(small_in hm).2.2.2.2
  have hi2:=byte_in e2 (by decide)
  have hu:useN s i = (i:Int) + 3:=by
   unfold useN
   rw [if_neg hn,if_neg (by simp [hg]),if_neg (by simp [hg]),if_pos ⟨hm,e2⟩]
  rw [hu]
  refine ⟨.inr ⟨i + 3,by omega,(great_in hg3).1,hg3⟩,fun w=>?_⟩
  rw [bt_in hi] at hm hg
  rw [bt_in hi2] at e2
  exact us_size w s hs i hi2 (b3 hn) hg hm (beq_iff_eq.2 (by omega))
 ·obtain ⟨hm,e1,hg2,_⟩:=h
  have hn:bt s i ≠ 126:=fun e=>by rw [e] at hm;simp [smallN] at hm
  have hg:=(small_in hm).2.2.2.2
  have hi2:=(great_in hg2).1
  have h35:bt s (i + 2) ≠ 35:=fun e=>by rw [e] at hg2;simp [greatN] at hg2
  have hu:useN s i = (i:Int) + 2:=by
   unfold useN
   rw [if_neg hn,if_neg (by simp [hg]),if_neg (by simp [hg]),if_neg (fun q=>h35 q.2),if_pos ⟨hm,hg2⟩]
  rw [hu]
  refine ⟨.inr ⟨i + 2,by omega,hi2,hg2⟩,fun w=>?_⟩
  rw [bt_in hi] at hm hg
  rw [bt_in hi2] at h35 hg2
  exact us_load w s hs i hi2 (b3 hn) hg hm (bF (by omega)) hg2
 ·obtain ⟨hm,e1,k,ho,_⟩:=h
  have hn:bt s i ≠ 126:=fun e=>by rw [e] at hm;simp [smallN] at hm
  have hg:=(small_in hm).2.2.2.2
  obtain ⟨hg2,h35,hi2⟩:=ho.head
  have hu:useN s i = -1:=by
   unfold useN
   rw [if_neg hn,if_neg (by simp [hg]),if_neg (by simp [hg]),if_neg (fun q=>h35 q.2),if_neg (by simp [hg2])]
  rw [hu]
  refine ⟨.inl rfl,fun w=>?_⟩
  rw [bt_in hi] at hm hg
  rw [bt_in hi2] at h35 hg2
  exact us_set w s hs i hi2 (b3 hn) hg hm (bF (by omega)) hg2
 ·obtain ⟨hm,e1,k,l,ho,_⟩:=h
  have hn:bt s i ≠ 126:=fun e=>by rw [e] at hm;simp [smallN] at hm
  have hg:=(small_in hm).2.2.2.2
  obtain ⟨hg2,h35,hi2⟩:=ho.head
  have hu:useN s i = -1:=by
   unfold useN
   rw [if_neg hn,if_neg (by simp [hg]),if_neg (by simp [hg]),if_neg (fun q=>h35 q.2),if_neg (by simp [hg2])]
  rw [hu]
  refine ⟨.inl rfl,fun w=>?_⟩
  rw [bt_in hi] at hm hg
  rw [bt_in hi2] at h35 hg2
  exact us_set w s hs i hi2 (b3 hn) hg hm (bF (by omega)) hg2
 ·obtain ⟨hg,e1,_⟩:=h
  have hn:bt s i ≠ 126:=fun e=>by rw [e] at hg;simp [greatN] at hg
  have hi1:=byte_in e1 (by decide)
  have hu:useN s i = (i:Int):=by
   unfold useN
   rw [if_neg hn,if_pos ⟨hg,e1⟩]
  rw [hu]
  refine ⟨.inr ⟨i,rfl,hi,hg⟩,fun w=>?_⟩
  rw [bt_in hi] at hg
  rw [bt_in hi1] at e1
  exact us_store w s hs i hi1 (b3 hn) hg (beq_iff_eq.2 (by omega))
 ·obtain ⟨hg,e1,e2,_⟩:=h
  have hn:bt s i ≠ 126:=fun e=>by rw [e] at hg;simp [greatN] at hg
  have hi1:=byte_in e1 (by decide)
  have hi2:=byte_in e2 (by decide)
  have hg2:greatN (bt s (i + 2)) = false:=by rw [e2];rfl
  have hm:=(great_in hg).2.2.2.2
  have hu:useN s i = -1:=by
   unfold useN
   rw [if_neg hn,if_neg (fun q=>by rw [e1] at q;exact absurd q.2 (by decide)),if_neg (by simp [hg2]),if_neg (by simp [hm]),if_neg (by simp [hm])]
  rw [hu]
  refine ⟨.inl rfl,fun w=>?_⟩
  rw [bt_in hi] at hg hm
  rw [bt_in hi1] at e1
  rw [bt_in hi2] at hg2
  exact us_make w s hs i hi2 (b3 hn) hg (bF (by omega)) hg2 hm
 ·obtain ⟨hg,e1,hg2,_⟩:=h
  have hn:bt s i ≠ 126:=fun e=>by rw [e] at hg;simp [greatN] at hg
  have hi1:=byte_in e1 (by decide)
  have hi2:=(great_in hg2).1
  have hu:useN s i = (i:Int) + 2:=by
   unfold useN
   rw [if_neg hn,if_neg (fun q=>by rw [e1] at q;exact absurd q.2 (by decide)),if_pos ⟨hg,hg2⟩]
  rw [hu]
  refine ⟨.inr ⟨i + 2,by omega,hi2,hg2⟩,fun w=>?_⟩
  rw [bt_in hi] at hg
  rw [bt_in hi1] at e1
  rw [bt_in hi2] at hg2
  exact us_move w s hs i hi2 (b3 hn) hg (bF (by omega)) hg2
 ·have e:=h.1
  have hn:bt s i ≠ 126:=by omega
  have hg:greatN (bt s i) = false:=by rw [e];rfl
  have hm:smallN (bt s i) = false:=by rw [e];rfl
  have hu:useN s i = -1:=by
   unfold useN
   rw [if_neg hn,if_neg (by simp [hg]),if_neg (by simp [hg]),if_neg (by simp [hm]),if_neg (by simp [hm])]
  rw [hu]
  refine ⟨.inl rfl,fun w=>?_⟩
  rw [bt_in hi] at hg hm
  exact us_print w s hs i hi (b3 hn) hg hm
 ·obtain ⟨e,hg,_⟩:=h
  have hi1:=(great_in hg).1
  have hu:useN s i = (i:Int) + 1:=by
   unfold useN
   rw [if_pos e]
  rw [hu]
  refine ⟨.inr ⟨i + 1,by omega,hi1,hg⟩,fun w=>?_⟩
  rw [bt_in hi] at e
  exact us_drop w s hs i hi (beq_iff_eq.2 (by omega))
def misP (s:ByteArray) (al:Nat → Nat → (Nat → Bool) → Nat → Bool) (mis:Nat → Nat → (Nat → Bool) → Int) (i:Nat) (f:Nat → Bool):Int :=
 if bt s i = 63 then (if mis (bopN s (i + 1) + 1) (bbrN s (bopN s (i + 1)) - 1) f < 0 then mis (bbrN s (bopN s (i + 1)) + 1) (bbrN s (bbrN s (bopN s (i + 1))) - 1) f else mis (bopN s (i + 1) + 1) (bbrN s (bopN s (i + 1)) - 1) f)
 else if bt s i = 64 then mis (bopN s (i + 1) + 1) (bbrN s (bopN s (i + 1)) - 1) (iterF (al (bopN s (i + 1) + 1) (bbrN s (bopN s (i + 1)) - 1)) 27 f)
 else if 0 ≤ useN s i ∧ f (bt s (useN s i).toNat - 65) = false then useN s i else -1
def misN (s:ByteArray):Nat → Nat → Nat → (Nat → Bool) → Int
 | 0,_,_,_=>-1
 | F + 1,i,j,f=>if i < j then (if 0 ≤ misP s (alongF s F) (misN s F) i f then misP s (alongF s F) (misN s F) i f else misN s F (behN s i) j (afterF (alongF s F) s i f)) else -1
theorem misP_if {s:ByteArray} {al:Nat → Nat → (Nat → Bool) → Nat → Bool} {mis:Nat → Nat → (Nat → Bool) → Int} {i a b c:Nat} (h:IfAt s i a b c) (f:Nat → Bool) :
  misP s al mis i f = if mis (a + 1) b f < 0 then mis (b + 2) c f else mis (a + 1) b f:=by
 unfold misP
 rw [if_pos h.q,h.p1,h.p2,h.p3]
 rfl
theorem misP_loop {s:ByteArray} {al:Nat → Nat → (Nat → Bool) → Nat → Bool} {mis:Nat → Nat → (Nat → Bool) → Int} {i a b:Nat} (h:LoopAt s i a b) (f:Nat → Bool) :
  misP s al mis i f = mis (a + 1) b (iterF (al (a + 1) b) 27 f):=by
 unfold misP
 rw [if_neg (by rw [h.q];decide),if_pos h.q,h.p1,h.p2]
 rfl
theorem misP_simple {s:ByteArray} {al:Nat → Nat → (Nat → Bool) → Nat → Bool} {mis:Nat → Nat → (Nat → Bool) → Int} {i j:Nat} (h:Simple s i j) (f:Nat → Bool) :
  misP s al mis i f = if 0 ≤ useN s i ∧ f (bt s (useN s i).toNat - 65) = false then useN s i else -1:=by
 unfold misP
 rw [if_neg h.first.1,if_neg h.first.2]
theorem misN_step {s:ByteArray} {F i m j:Nat} (h:StmtF (Prog s F) s i m) (hij:i < j) (f:Nat → Bool) :
  misN s (F + 1) i j f = if 0 ≤ misP s (alongF s F) (misN s F) i f then misP s (alongF s F) (misN s F) i f else misN s F m j (afterF (alongF s F) s i f):=by
 show (if i < j then _ else _) = _
 rw [if_pos hij,beh_of h]
theorem misN_end {s:ByteArray} {F i:Nat} (f:Nat → Bool):misN s F i i f = -1:=by
 cases F with
 | zero=>rfl
 | succ F=>show (if i < i then _ else (-1:Int)) = -1;rw [if_neg (Nat.lt_irrefl _)]
def MisIs (s:ByteArray) (i j:Nat) (M:(Nat → Bool) → Int):Prop:=∀ (W:World) (g:Nat → Bool),Clean g → CR 53 #[.string s,.int .i64 i,.int .i64 j,.agg (arrF g)] W (.int .i64 (M g))
theorem mis_step (s:ByteArray) (hs:s.size ≤ 100000) (F:Nat) (IH:∀ F',F' < F → ∀ a b,Prog s F' a b → MisIs s a b (misN s F' a b)) (i j:Nat) (hp:Prog s F i j):MisIs s i j (misN s F i j):=by
 intro w f hc
 have HF0:Hid (RowF (w.alloc (.cells (arrF f) 93)) w.heap.size f ∧ Fr NoB w (w.alloc (.cells (arrF f) 93))):=⟨RowF.new w f,(Fr.refl _ _).alloc _⟩
 have HIH:Hid (∀ F',F' < F → ∀ a b,Prog s F' a b → MisIs s a b (misN s F' a b)):=IH
 clear IH
 have hij:=hp.le
 generalize hR:misN s F i j f = R
 have HR:Hid _:=hR
 clear hR
 go_enter func53,ntmps53
 go_wp2
 generalize (w.alloc (Obj.cells (arrF f) 93)) = W at *
 have HP:Hid _:=hp
 have HC:Hid (Clean f):=hc
 clear hp hc
 go_loopg [1] F (fun k t wr=>∃ (p:Nat) (g:Nat → Bool),k ≤ F ∧ t = .int .i64 p ∧ p ≤ j ∧ Prog s k p j ∧ Clean g ∧ R = misN s k p j g ∧ RowF wr w.heap.size g ∧ Fr NoB w wr)
 case atStart=>exact ⟨i,f,Nat.le_refl _,rfl,hij,HP.out,HC.out,HR.out.symm,HF0.out.1,HF0.out.2⟩
 case round =>
  obtain ⟨p,g,hk,rfl,hpj,hp,hcg,hR,h1,h3⟩:=hrel
  have H1:Hid _:=h1
  have H3:Hid _:=h3
  have HR2:Hid _:=hR
  have Hcg:Hid (Clean g):=hcg
  have Hp:Hid (Prog s gk p j):=hp
  clear h1 h3 hR hcg hp HF0 HR
  by_cases hlt:p < j
  ·have hdec:∃ F' m,gk = F' + 1 ∧ StmtF (Prog s F') s p m ∧ Prog s F' m j:=by
    have:=Hp.out
    cases gk with
    | zero=>exact absurd (show p = j from this) (by omega)
    | succ F' =>
     rcases this with q | ⟨m,q1,q2⟩
     ·omega
     ·exact ⟨F',m,rfl,q1,q2⟩
   obtain ⟨F',m,rfl,hst,hpm⟩:=hdec
   have hml:=hpm.le
   have hps:=hst.lt
   have hpl:p < s.size:=by omega
   have Hpm:Hid (Prog s F' m j):=hpm
   have HR3:Hid _:=HR2.out.trans (misN_step hst hlt g)
   have HA2:Hid (∀ X:World,CR 76 #[.string s,.int .i64 p,.agg (arrF g)] X (.agg (arrF (afterF (alongF s F') s p g)))):=fun X=>after_of s hs F' (along_fn s hs F') X p m g hst Hcg.out
   have HBh:Hid (∀ X:World,CS 77 #[.string s,.int .i64 p] X (.int .i64 m)):=fun X=>behind_of s hs F' X p m hst
   have Hcl:Hid (Clean (afterF (alongF s F') s p g)):=Clean.after (fun a b g hg=>Clean.along hg) Hcg.out
   generalize afterF (alongF s F') s p g = G at *
   clear hpm HR2 Hp
   have HIH2:Hid (∀ a b,Prog s F' a b → MisIs s a b (misN s F' a b)):=HIH.out F' (by omega)
   rcases hst with hsm | ⟨e,a,b,c,ho,ha,hp,hb,hb1,hq,hc',rfl⟩ | ⟨e,a,b,ho,ha,hp,hb,rfl⟩
   ·obtain ⟨hu,hcall⟩:=used_fn s hs p m hsm
    have HU:Hid _:=hcall
    have hms:=misP_simple (al:=alongF s F') (mis:=misN s F') hsm g
    have hf:=hsm.first
    rw [bt_in hpl] at hf
    have b1:((s[p].toNat:Int) == 63) = false:=bF (by omega)
    have b2:((s[p].toNat:Int) == 64) = false:=bF (by omega)
    clear hcall hf hsm HIH2 HIH
    rcases hu with hu | ⟨q,hu,hql,hqg⟩
    ·have HRR:Hid (R = misN s F' m j G):=by
      show R = _
      rw [HR3.out,hms,hu]
      rfl
     rw [hu] at HU
     clear hms hu HR3
     go_wp2_with (first
      | (go_at_call 75;refine sameC (HU.out _) ?_)
      | (refine wpList_load_row rfl 93 _ rfl (w.heap.size) rfl 93 (arrF (g)) (0,0) _ (H1.out).h underlying93 rfl (sizeArr _) ?_) | (go_at_call 76;refine (HA2.out _).mono ?_;rintro e wa ⟨rfl,hFa⟩) | (refine wpList_store_row rfl 93 _ _ rfl (w.heap.size) (arrF (G)) rfl rfl 93 _ (H1.out.no hFa).h (sizeArr _) (by rw [arrF_size,arrF_size]) (arrF_one _) ?_) | (go_at_call 77;refine sameC (HBh.out _) ?_))
     go_roundg F'
     case measure=>omega
     case rel=>exact ⟨m,G,by omega,rfl,hml,Hpm.out,Hcl.out,HRR.out,(H1.out.no hFa).row _,(H3.out.trans hFa).setRow (fun q=>absurd q (by omega)) _⟩
    ·obtain ⟨k1,k2⟩:=great_k hqg
     rw [bt_in hql] at k1 k2
     have hms2:misP s (alongF s F') (misN s F') p g = if g (s[q].toNat - 65) = false then (q:Int) else -1:=by
      rw [hms,hu]
      have e1:((q:Int)).toNat = q:=rfl
      rw [e1,bt_in hql]
      by_cases hz:g (s[q].toNat - 65) = false
      ·rw [if_pos ⟨by omega,hz⟩,if_pos hz]
      ·rw [if_neg (fun r=>hz r.2),if_neg hz]
     rw [hu] at HU
     clear hms hu hqg
     generalize hkk:s[q].toNat - 65 = kk at *
     have c1:=H1.out.cell k1
     cases hgk:g kk
     ·have HRR:Hid (R = (q:Int)):=by
       show R = _
       rw [HR3.out,hms2,hgk,if_pos rfl,if_pos (by omega)]
      rw [hgk] at c1
      clear hms2 hgk HR3 hkk
      go_wp2_with (first
       | (go_at_call 75;refine sameC (HU.out _) ?_))
      go_ret
      exact ⟨retI HRR.out.symm,H3.out⟩
     ·have HRR:Hid (R = misN s F' m j G):=by
       show R = _
       rw [HR3.out,hms2,hgk]
       rfl
      rw [hgk] at c1
      clear hms2 hgk HR3 hkk
      go_wp2_with (first
       | (go_at_call 75;refine sameC (HU.out _) ?_)
       | (refine wpList_load_row rfl 93 _ rfl (w.heap.size) rfl 93 (arrF (g)) (0,0) _ (H1.out).h underlying93 rfl (sizeArr _) ?_) | (go_at_call 76;refine (HA2.out _).mono ?_;rintro e wa ⟨rfl,hFa⟩) | (refine wpList_store_row rfl 93 _ _ rfl (w.heap.size) (arrF (G)) rfl rfl 93 _ (H1.out.no hFa).h (sizeArr _) (by rw [arrF_size,arrF_size]) (arrF_one _) ?_) | (go_at_call 77;refine sameC (HBh.out _) ?_))
      go_roundg F'
      case measure=>omega
      case rel=>exact ⟨m,G,by omega,rfl,hml,Hpm.out,Hcl.out,HRR.out,(H1.out.no hFa).row _,(H3.out.trans hFa).setRow (fun q=>absurd q (by omega)) _⟩
   ·have hI:=ifAt_of e ho ha hp hb hb1 hq hc'
    have hms:=misP_if (al:=alongF s F') (mis:=misN s F') hI g
    have HH:Hid _:=fun X=>halves_fn X s p a b c hI hs
    have hbd:=hI.bnd
    have HI1:Hid (∀ X:World,CR 53 #[.string s,.int .i64 ((a:Int) + 1),.int .i64 b,.agg (arrF g)] X (.int .i64 (misN s F' (a + 1) b g))):=fun X=>HIH2.out _ _ hp X g Hcg.out
    have HI2:Hid (∀ X:World,CR 53 #[.string s,.int .i64 ((b:Int) + 2),.int .i64 c,.agg (arrF g)] X (.int .i64 (misN s F' (b + 2) c g))):=fun X=>HIH2.out _ _ hq X g Hcg.out
    generalize misN s F' (a + 1) b g = p1 at *
    generalize misN s F' (b + 2) c g = p2 at *
    rw [bt_in hpl] at e
    have b1:((s[p].toNat:Int) == 63) = true:=beq_iff_eq.2 (by omega)
    clear e ho ha hp hb hb1 hq hc' hI HIH2 HIH
    by_cases h1:p1 < 0
    ·by_cases h2:0 ≤ p2
     ·have HRR:Hid (R = p2):=by
       show R = _
       rw [HR3.out,hms,if_pos h1,if_pos h2]
      clear hms HR3
      go_upto_region 11 with (first
       | (go_at_call 72;refine sameC (HH.out _) ?_)
       | (refine wpList_load_row rfl 93 _ rfl (w.heap.size) rfl 93 (arrF (g)) (0,0) _ (H1.out).h underlying93 rfl (sizeArr _) ?_)
       | (go_at_call 53;refine (HI1.out _).mono ?_;rintro e w1 ⟨rfl,hF1⟩))
      have HG1:Hid _:=H1.out.no hF1
      have HG3:Hid _:=H3.out.trans hF1
      clear H1 H3 hF1
      go_wp2_with (first
       | (refine wpList_load_row rfl 93 _ rfl (w.heap.size) rfl 93 (arrF (g)) (0,0) _ (HG1.out).h underlying93 rfl (sizeArr _) ?_)
       | (go_at_call 53;refine (HI2.out _).mono ?_;rintro e w2 ⟨rfl,hF2⟩))
      go_ret
      exact ⟨retI HRR.out.symm,HG3.out.trans hF2⟩
     ·have HRR:Hid (R = misN s F' (c + 1) j G):=by
       show R = _
       rw [HR3.out,hms,if_pos h1,if_neg h2]
      have h2':p2 < 0:=by omega
      clear hms HR3 h2
      go_upto_region 11 with (first
       | (go_at_call 72;refine sameC (HH.out _) ?_)
       | (refine wpList_load_row rfl 93 _ rfl (w.heap.size) rfl 93 (arrF (g)) (0,0) _ (H1.out).h underlying93 rfl (sizeArr _) ?_)
       | (go_at_call 53;refine (HI1.out _).mono ?_;rintro e w1 ⟨rfl,hF1⟩))
      have HG1:Hid _:=H1.out.no hF1
      have HG3:Hid _:=H3.out.trans hF1
      clear H1 H3 hF1
      go_upto_region 17 with (first
       | (refine wpList_load_row rfl 93 _ rfl (w.heap.size) rfl 93 (arrF (g)) (0,0) _ (HG1.out).h underlying93 rfl (sizeArr _) ?_)
       | (go_at_call 53;refine (HI2.out _).mono ?_;rintro e w2 ⟨rfl,hF2⟩))
      have H1:Hid _:=HG1.out.no hF2
      have H3:Hid _:=HG3.out.trans hF2
      clear HG1 HG3 hF2
      go_wp2_with (first
       | (refine wpList_load_row rfl 93 _ rfl (w.heap.size) rfl 93 (arrF (g)) (0,0) _ (H1.out).h underlying93 rfl (sizeArr _) ?_) | (go_at_call 76;refine (HA2.out _).mono ?_;rintro e wa ⟨rfl,hFa⟩) | (refine wpList_store_row rfl 93 _ _ rfl (w.heap.size) (arrF (G)) rfl rfl 93 _ (H1.out.no hFa).h (sizeArr _) (by rw [arrF_size,arrF_size]) (arrF_one _) ?_) | (go_at_call 77;refine sameC (HBh.out _) ?_))
      go_roundg F'
      case measure=>omega
      case rel=>exact ⟨c + 1,G,by omega,rfl,hml,Hpm.out,Hcl.out,HRR.out,(H1.out.no hFa).row _,(H3.out.trans hFa).setRow (fun q=>absurd q (by omega)) _⟩
    ·have h1':0 ≤ p1:=by omega
     have HRR:Hid (R = p1):=by
      show R = _
      rw [HR3.out,hms,if_neg h1,if_pos h1']
     clear hms HR3 h1
     go_wp2_with (first
      | (go_at_call 72;refine sameC (HH.out _) ?_)
      | (refine wpList_load_row rfl 93 _ rfl (w.heap.size) rfl 93 (arrF (g)) (0,0) _ (H1.out).h underlying93 rfl (sizeArr _) ?_)
      | (go_at_call 53;refine (HI1.out _).mono ?_;rintro e w1 ⟨rfl,hF1⟩))
     go_ret
     exact ⟨retI HRR.out.symm,H3.out.trans hF1⟩
   ·have hL:=loopAt_of e ho ha hp hb
    have hms:=misP_loop (al:=alongF s F') (mis:=misN s F') hL g
    have HH:Hid _:=fun X=>body_fn X s p a b hL hs
    have hbd:=hL.bnd
    have HHd:Hid _:=fun X=>head_of X s hs p a b hL (alongF s F' (a + 1) b) g Hcg.out (fun g hg=>Clean.along hg) (along_fn s hs F' _ _ hp)
    have hcE:Clean (iterF (alongF s F' (a + 1) b) 27 g):=Clean.iter Hcg.out
    generalize iterF (alongF s F' (a + 1) b) 27 g = E at *
    have HI1:Hid (∀ X:World,CR 53 #[.string s,.int .i64 ((a:Int) + 1),.int .i64 b,.agg (arrF E)] X (.int .i64 (misN s F' (a + 1) b E))):=fun X=>HIH2.out _ _ hp X E hcE
    generalize misN s F' (a + 1) b E = p1 at *
    rw [bt_in hpl] at e
    have b1:((s[p].toNat:Int) == 63) = false:=bF (by omega)
    have b2:((s[p].toNat:Int) == 64) = true:=beq_iff_eq.2 (by omega)
    clear e ho ha hp hb hL HIH2 HIH hcE
    by_cases h1:p1 < 0
    ·have HRR:Hid (R = misN s F' (b + 1) j G):=by
      show R = _
      rw [HR3.out,hms,if_neg (by omega)]
     clear hms HR3
     go_upto_region 17 with (first
      | (go_at_call 73;refine sameC (HH.out _) ?_)
      | (refine wpList_load_row rfl 93 _ rfl (w.heap.size) rfl 93 (arrF (g)) (0,0) _ (H1.out).h underlying93 rfl (sizeArr _) ?_)
      | (go_at_call 74;refine (HHd.out _).mono ?_;rintro e w1 ⟨rfl,hF1⟩)
      | (go_at_call 53;refine (HI1.out _).mono ?_;rintro e w2 ⟨rfl,hF2⟩))
     have HG1:Hid _:=(H1.out.no hF1).no hF2
     have HG3:Hid _:=(H3.out.trans hF1).trans hF2
     clear H1 H3 hF1 hF2
     have H1:Hid _:=HG1.out
     have H3:Hid _:=HG3.out
     clear HG1 HG3
     go_wp2_with (first
      | (refine wpList_load_row rfl 93 _ rfl (w.heap.size) rfl 93 (arrF (g)) (0,0) _ (H1.out).h underlying93 rfl (sizeArr _) ?_) | (go_at_call 76;refine (HA2.out _).mono ?_;rintro e wa ⟨rfl,hFa⟩) | (refine wpList_store_row rfl 93 _ _ rfl (w.heap.size) (arrF (G)) rfl rfl 93 _ (H1.out.no hFa).h (sizeArr _) (by rw [arrF_size,arrF_size]) (arrF_one _) ?_) | (go_at_call 77;refine sameC (HBh.out _) ?_))
     go_roundg F'
     case measure=>omega
     case rel=>exact ⟨b + 1,G,by omega,rfl,hml,Hpm.out,Hcl.out,HRR.out,(H1.out.no hFa).row _,(H3.out.trans hFa).setRow (fun q=>absurd q (by omega)) _⟩
    ·have h1':0 ≤ p1:=by omega
     have HRR:Hid (R = p1):=by
      show R = _
      rw [HR3.out,hms,if_pos h1']
     clear hms HR3 h1
     go_wp2_with (first
      | (go_at_call 73;refine sameC (HH.out _) ?_)
      | (refine wpList_load_row rfl 93 _ rfl (w.heap.size) rfl 93 (arrF (g)) (0,0) _ (H1.out).h underlying93 rfl (sizeArr _) ?_)
      | (go_at_call 74;refine (HHd.out _).mono ?_;rintro e w1 ⟨rfl,hF1⟩)
      | (go_at_call 53;refine (HI1.out _).mono ?_;rintro e w2 ⟨rfl,hF2⟩))
     go_ret
     exact ⟨retI HRR.out.symm,(H3.out.trans hF1).trans hF2⟩
  ·have hpe:p = j:=by omega
   subst hpe
   have HE:Hid (R = -1):=by show R = -1;rw [HR2.out,misN_end]
   clear HR2
   go_wp2
   go_ret
   exact ⟨retI HE.out.symm,H3.out⟩
theorem mis_fn (s:ByteArray) (hs:s.size ≤ 100000) (F:Nat):∀ i j,Prog s F i j → MisIs s i j (misN s F i j):=by
 induction F using Nat.strongRecOn with
 | _ F ih =>
  intro i j hp
  exact mis_step s hs F ih i j hp
theorem runN_zero (s:ByteArray):∀ (m:Nat) (S:List (Nat × Bool)) (i:Nat) (d:Int),(runN s m S i d).1 = 0 → runN s m S i d = (0,0)
 | 0,S,i,d,h=>by
  unfold runN at h ⊢
  split at h
  ·simp at h
  ·rename_i hn
   rw [if_neg hn]
 | m + 1,S,i,d,h=>by
  unfold runN at h ⊢
  split at h
  ·simp at h
  ·rename_i hn
   rw [if_neg hn]
   split at h
   ·rename_i h1
    rw [if_pos h1]
    split at h
    ·simp at h
    ·rename_i h2
     rw [if_neg h2]
     exact runN_zero s m _ _ _ h
   ·rename_i h1
    rw [if_neg h1]
    exact runN_zero s m _ _ _ h
theorem run_zero {s:ByteArray} {S:List (Nat × Bool)} {i:Nat} {d:Int} (h:(run s S i d).1 = 0):run s S i d = (0,0):=runN_zero s _ _ _ _ h
def misT (s:ByteArray):Int:=misN s (s.size + 1) 0 s.size (fun _=>false)
def checkN (s:ByteArray):Nat × Int :=
 if 400 < s.size then (1,0)
 else if (run s [(83,true)] 0 0).1 ≠ 0 then ((run s [(83,true)] 0 0).1,((run s [(83,true)] 0 0).2:Int))
 else if 0 ≤ misT s then (4,misT s) else (0,0)
theorem refCheck_fn (w:World) (s:ByteArray) (hs:s.size ≤ 9223372036854775807) :
  CR 31 #[.string s] w (.tuple #[.int .i64 ((checkN s).1:Nat),.int .i64 (checkN s).2]):=by
 by_cases h4:400 < s.size
 ·have hc:checkN s = (1,0):=by unfold checkN;rw [if_pos h4]
  rw [hc]
  clear hc
  go_enter func31,ntmps31
  go_wp2
  go_ret2
  exact ⟨rfl,Fr.refl _ _⟩
 ·have HW:Hid _:=fun X=>wrong_fn X s (by omega)
  by_cases hr:(run s [(83,true)] 0 0).1 = 0
  ·have hz:=run_zero hr
   rw [hz] at HW
   have hp:=prog_of_ok hz
   have hM:∀ X:World,CR 53 #[.string s,.int .i64 0,.int .i64 s.size,.agg zrs] X (.int .i64 (misT s)):=fun X=>mis_fn s (by omega) _ 0 s.size hp X (fun _=>false) clean_none
   unfold zrs at hM
   have HM:Hid _:=hM
   clear hM hp hz
   by_cases hm:0 ≤ misT s
   ·have hc:checkN s = (4,misT s):=by unfold checkN;rw [if_neg h4,if_neg (fun q=>q hr),if_pos hm]
    rw [hc]
    generalize misT s = M at *
    clear hc hr
    go_enter func31,ntmps31
    go_wp2_with (first
     | (go_at_call 52;refine (HW.out _).mono ?_;rintro e w1 ⟨rfl,hF1⟩)
     | (go_at_call 53;refine (HM.out _).mono ?_;rintro e w2 ⟨rfl,hF2⟩))
    go_ret2
    exact ⟨rfl,hF1.trans hF2⟩
   ·have hc:checkN s = (0,0):=by unfold checkN;rw [if_neg h4,if_neg (fun q=>q hr),if_neg hm]
    rw [hc]
    generalize misT s = M at *
    clear hc hr
    go_enter func31,ntmps31
    go_wp2_with (first
     | (go_at_call 52;refine (HW.out _).mono ?_;rintro e w1 ⟨rfl,hF1⟩)
     | (go_at_call 53;refine (HM.out _).mono ?_;rintro e w2 ⟨rfl,hF2⟩))
    go_ret2
    exact ⟨rfl,hF1.trans hF2⟩
  ·have hc:checkN s = ((run s [(83,true)] 0 0).1,((run s [(83,true)] 0 0).2:Int)):=by unfold checkN;rw [if_neg h4,if_pos hr]
   rw [hc]
   have hb:(((run s [(83,true)] 0 0).1:Int) != 0) = true:=bne_iff_ne.2 (by omega)
   generalize run s [(83,true)] 0 0 = R at *
   clear hc hr
   go_enter func31,ntmps31
   go_wp2_with (first
    | (go_at_call 52;refine (HW.out _).mono ?_;rintro e w1 ⟨rfl,hF1⟩))
   go_ret2
   exact ⟨rfl,hF1⟩
def decN (s:ByteArray) (i:Nat):Nat → Nat
 | 0=>0
 | n + 1=>10 * decN s i n + (bt s (i + n) - 48)
theorem decN_lt {s:ByteArray} {i:Nat}:∀ {n:Nat},(∀ k,i ≤ k → k < i + n → digitN (bt s k) = true) → decN s i n < 10 ^ n
 | 0,_=>by simp [decN]
 | n + 1,h=>by
  have h1:=decN_lt (n:=n) (fun k a b=>h k a (by omega))
  have h2:=h (i + n) (by omega) (by omega)
  simp [digitN] at h2
  have h3:10 ^ (n + 1) = 10 * 10 ^ n:=by rw [Nat.pow_succ,Nat.mul_comm]
  show 10 * decN s i n + (bt s (i + n) - 48) < 10 ^ (n + 1)
  rw [h3]
  omega
def valN (s:ByteArray) (num:Nat → Int) (i j:Nat):Int:=if smallN (bt s i) = true then num (bt s i - 97) else (decN s i (j - i):Int)
end Go.Proofs.YthcjcjfgdgnljabGreatDoor
