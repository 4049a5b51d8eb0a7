import Derived.Test.YthcjcjfgdgnljabGreatDoorProg
import Derived.WalkKit
import Derived.WalkSpells
import Derived.WalkLawsBesides
set_option linter.unusedVariables false
set_option maxHeartbeats 4000000
set_option maxRecDepth 8000
open Go.Proofs.Tryz
namespace Go.Proofs.YthcjcjfgdgnljabGreatDoor
open Go.RowKit
structure Fr (S:Nat → Prop) (w w':World):Prop where
 os:w'.os = w.os
 tape:w'.tape = w.tape
 output:w'.output = w.output
 size:w.heap.size ≤ w'.heap.size
 block:∀ k,k < w.heap.size → ¬ S k → w'.heap[k]? = w.heap[k]?
def NoB:Nat → Prop:=fun _=>False
def OneB (r:Nat):Nat → Prop:=fun k=>k = r
theorem Fr.refl (S:Nat → Prop) (w:World):Fr S w w:=⟨rfl,rfl,rfl,Nat.le_refl _,fun _ _ _=>rfl⟩
theorem Fr.trans {S:Nat → Prop} {a b c:World} (h:Fr S a b) (k:Fr S b c):Fr S a c :=
 ⟨k.os.trans h.os,k.tape.trans h.tape,k.output.trans h.output,Nat.le_trans h.size k.size,
  fun i hi hs=>(k.block i (Nat.lt_of_lt_of_le hi h.size) hs).trans (h.block i hi hs)⟩
theorem Fr.mono {S T:Nat → Prop} {w w':World} (h:Fr S w w') (hst:∀ k,k < w.heap.size → S k → T k):Fr T w w' :=
 ⟨h.os,h.tape,h.output,h.size,fun k hk ht=>h.block k hk (fun hs=>ht (hst k hk hs))⟩
theorem Fr.of_no {T:Nat → Prop} {w w':World} (h:Fr NoB w w'):Fr T w w':=h.mono (fun _ _ hs=>hs.elim)
theorem Fr.then {S T:Nat → Prop} {a b c:World} (h:Fr S a b) (k:Fr T b c) (hT:∀ i,i < a.heap.size → T i → S i):Fr S a c :=
 ⟨k.os.trans h.os,k.tape.trans h.tape,k.output.trans h.output,Nat.le_trans h.size k.size,
  fun i hi hs=>(k.block i (Nat.lt_of_lt_of_le hi h.size) (fun ht=>hs (hT i hi ht))).trans (h.block i hi hs)⟩
theorem Fr.drew {S:Nat → Prop} {a w:World} (h:Fr S a w):Fr S a w.drew:=⟨h.os,h.tape,h.output,h.size,h.block⟩
theorem Fr.alloc {S:Nat → Prop} {a w:World} (h:Fr S a w) (o:Obj):Fr S a (w.alloc o) :=
 h.trans ⟨rfl,rfl,rfl,by simp,fun k hk _=>Below.heap_alloc _ _ _ hk⟩
theorem Fr.setCell {S:Nat → Prop} {a w:World} (h:Fr S a w) {p:Addr} (hp:p.block < a.heap.size → S p.block) (u:Value):Fr S a (w.setCell p u) :=
 ⟨h.os,h.tape,h.output,by simpa [World.setCell] using h.size,fun k hk hs =>
  (Below.heap_setCell _ _ _ _ (fun e=>hs (by subst e;exact hp hk))).trans (h.block k hk hs)⟩
theorem Fr.of_grown {S:Nat → Prop} {w w':World} {row:Option Nat} (h:w.grownBy w' row) (hr:∀ k,k < w.heap.size → row = some k → S k):Fr S w w' :=
 ⟨h.os,h.tape,h.output,h.size,fun k hk hs=>h.block k hk (fun e=>hs (hr k hk e.symm))⟩
theorem Fr.cell {S:Nat → Prop} {w w':World} (h:Fr S w w') {p:Addr} (hp:p.block < w.heap.size) (hS:¬ S p.block):w'.cell? p = w.cell? p :=
 World.cell?_of_block (w:=w) (h.block p.block hp hS)
theorem Fr.frozen {S:Nat → Prop} {w w':World} (h:Fr S w w') {p:Addr} (hp:p.block < w.heap.size) (hS:¬ S p.block):w'.frozen? p = w.frozen? p :=
 World.frozen?_of_block (w:=w) (h.block p.block hp hS)
theorem Fr.cell_some {S:Nat → Prop} {w w':World} (h:Fr S w w') {p:Addr} {v:Value} (hc:w.cell? p = some v) (hS:¬ S p.block):w'.cell? p = some v :=
 (h.cell (World.block_lt_of_cell? w p hc) hS).trans hc
theorem Fr.owns {S:Nat → Prop} {w w':World} {base:Nat} {e:TypeId} {size:Nat} {v:Value} {n:Nat} {xs:List Value} (h:Fr S w w')
  (ho:w.ownsRow base e size v n xs) (hS:∀ k,v.ownBlock = some k → ¬ S k):w'.ownsRow base e size v n xs:=by
 refine ⟨ho.1,?_⟩
 rcases ho.2 with hn | ⟨g,cap,cur,rfl,hb,hgg,rest⟩
 ·exact .inl hn
 ·refine .inr ⟨g,cap,cur,rfl,hb,?_,rest⟩
  rw [h.block g (Array.getElem?_eq_some_iff.1 hgg).1 (hS g rfl)]
  exact hgg
structure HeapAt (w:World) (p r n:Nat) (B V:Nat → Int):Prop where
 lo:1 ≤ n
 hi:n ≤ 4096
 ne:p ≠ r
 ptr:w.cell? ⟨p,0,none⟩ = some (.slice (some ⟨r,0,none⟩) n n)
 blk:∀ i,i < n → w.cell? ⟨r,i * 2,none⟩ = some (.int .i64 (B i))
 val:∀ i,i < n → w.cell? ⟨r,i * 2 + 1,none⟩ = some (.int .i64 (V i))
 frz:∀ o,w.frozen? ⟨r,o,none⟩ = false
 b0:∀ i,i < n → 0 ≤ B i
 b1:∀ i,i < n → B i ≤ i + 1
theorem HeapAt.pl {w:World} {p r n:Nat} {B V:Nat → Int} (h:HeapAt w p r n B V):p < w.heap.size:=World.block_lt_of_cell? w _ h.ptr
theorem HeapAt.rl {w:World} {p r n:Nat} {B V:Nat → Int} (h:HeapAt w p r n B V):r < w.heap.size:=World.block_lt_of_cell? w _ (h.blk 0 (by have:=h.lo;omega))
theorem HeapAt.fr {S:Nat → Prop} {w w':World} {p r n:Nat} {B V:Nat → Int} (h:HeapAt w p r n B V) (hf:Fr S w w') (hp:¬ S p) (hr:¬ S r):HeapAt w' p r n B V :=
 ⟨h.lo,h.hi,h.ne,hf.cell_some h.ptr hp,fun i hi=>hf.cell_some (h.blk i hi) hr,fun i hi=>hf.cell_some (h.val i hi) hr,
  fun o=>(hf.frozen (p:=⟨r,o,none⟩) h.rl hr).trans (h.frz o),h.b0,h.b1⟩
theorem HeapAt.no {w w':World} {p r n:Nat} {B V:Nat → Int} (h:HeapAt w p r n B V) (hf:Fr NoB w w'):HeapAt w' p r n B V:=h.fr hf id id
theorem HeapAt.congr {w:World} {p r n:Nat} {B V B' V':Nat → Int} (h:HeapAt w p r n B V) (hb:∀ i,i < n → B' i = B i) (hv:∀ i,i < n → V' i = V i):HeapAt w p r n B' V' :=
 ⟨h.lo,h.hi,h.ne,h.ptr,fun i hi=>by rw [hb i hi];exact h.blk i hi,fun i hi=>by rw [hv i hi];exact h.val i hi,h.frz,
  fun i hi=>by rw [hb i hi];exact h.b0 i hi,fun i hi=>by rw [hb i hi];exact h.b1 i hi⟩
def upd (f:Nat → Int) (k:Nat) (v:Int):Nat → Int:=fun i=>if i = k then v else f i
theorem upd_at (f:Nat → Int) (k:Nat) (v:Int):upd f k v k = v:=by simp [upd]
theorem upd_ne (f:Nat → Int) {k i:Nat} (v:Int) (h:i ≠ k):upd f k v i = f i:=by simp [upd,h]
theorem cell_other {w:World} {b o c q:Nat} {u:Value} (h:b ≠ c ∨ o ≠ q):(w.setCell ⟨b,o,none⟩ u).cell? ⟨c,q,none⟩ = w.cell? ⟨c,q,none⟩ :=
 World.cell?_setCell_other _ _ _ _ (fun e=>by injection e with e1 e2;rcases h with h | h <;> contradiction)
theorem cell_same {w:World} {b o:Nat} {u v:Value} (h:w.cell? ⟨b,o,none⟩ = some v):(w.setCell ⟨b,o,none⟩ u).cell? ⟨b,o,none⟩ = some u :=
 World.cell?_setCell_same _ _ _ h
theorem two_set {w:World} {b:Nat} {x0 x1 u0 u1:Value} (h0:w.cell? ⟨b,0,none⟩ = some x0) (h1:w.cell? ⟨b,1,none⟩ = some x1) :
  ((w.setCell ⟨b,0,none⟩ u0).setCell ⟨b,1,none⟩ u1).cell? ⟨b,0,none⟩ = some u0 ∧ ((w.setCell ⟨b,0,none⟩ u0).setCell ⟨b,1,none⟩ u1).cell? ⟨b,1,none⟩ = some u1 :=
 ⟨(cell_other (.inr (by omega))).trans (cell_same h0),cell_same ((cell_other (.inr (by omega))).trans h1)⟩
theorem HeapAt.setVal {w:World} {p r n:Nat} {B V:Nat → Int} (h:HeapAt w p r n B V) {k:Nat} (hk:k < n) (u:Int):HeapAt (w.setCell ⟨r,k * 2 + 1,none⟩ (.int .i64 u)) p r n B (upd V k u) :=
 ⟨h.lo,h.hi,h.ne,(cell_other (.inl (Ne.symm h.ne))).trans h.ptr,fun i hi=>(cell_other (.inr (by omega))).trans (h.blk i hi),
  fun i hi=>by
   by_cases e:i = k
   ·subst e;rw [upd_at];exact cell_same (h.val i hi)
   ·rw [upd_ne _ _ e];exact (cell_other (.inr (by omega))).trans (h.val i hi),
  fun o=>by rw [World.frozen?_setCell];exact h.frz o,h.b0,h.b1⟩
theorem HeapAt.setBlk {w:World} {p r n:Nat} {B V:Nat → Int} (h:HeapAt w p r n B V) {k:Nat} (hk:k < n) (u:Int) (h0:0 ≤ u) (h1:u ≤ k + 1):HeapAt (w.setCell ⟨r,k * 2,none⟩ (.int .i64 u)) p r n (upd B k u) V :=
 ⟨h.lo,h.hi,h.ne,(cell_other (.inl (Ne.symm h.ne))).trans h.ptr,
  fun i hi=>by
   by_cases e:i = k
   ·subst e;rw [upd_at];exact cell_same (h.blk i hi)
   ·rw [upd_ne _ _ e];exact (cell_other (.inr (by omega))).trans (h.blk i hi),
  fun i hi=>(cell_other (.inr (by omega))).trans (h.val i hi),
  fun o=>by rw [World.frozen?_setCell];exact h.frz o,
  fun i hi=>by
   by_cases e:i = k
   ·subst e;rw [upd_at];exact h0
   ·rw [upd_ne _ _ e];exact h.b0 i hi,
  fun i hi=>by
   by_cases e:i = k
   ·subst e;rw [upd_at];exact h1
   ·rw [upd_ne _ _ e];exact h.b1 i hi⟩
theorem Fr.drewN {S:Nat → Prop} {a w:World} (h:Fr S a w) (n:Nat):Fr S a (w.drewN n):=⟨h.os,h.tape,h.output,h.size,h.block⟩
def pickZ (c:Int) (n:Nat):Nat:=if c < 0 then ((-(c + 1)) % (n:Int)).toNat else (c % (n:Int)).toNat
theorem pickZ_lt (c:Int) {n:Nat} (hn:1 ≤ n):pickZ c n < n:=by
 unfold pickZ
 have hm1:=Int.emod_nonneg (-(c + 1)) (show (n:Int) ≠ 0 by omega)
 have hm2:=Int.emod_lt_of_pos (-(c + 1)) (show (0:Int) < n by omega)
 have hm3:=Int.emod_nonneg c (show (n:Int) ≠ 0 by omega)
 have hm4:=Int.emod_lt_of_pos c (show (0:Int) < n by omega)
 split <;> omega
def Says (P:Prop) (e:Ending):Prop:=∃ b:Bool,e = .returned (.bool b) ∧ (b = true ↔ P)
def takenB (B:Nat → Int) (n:Nat) (at_:Int):Bool:=decide (0 ≤ at_) && decide (at_ < n) && decide (B at_.toNat ≠ 0)
theorem sameC {P : Program} {f : FuncId} {a : Array Value} {w : World} {v : Value} {Q : Ending → World → Prop} (h : Calls P f a w fun e w' => e = .returned v ∧ w' = w) (k : Q (.returned v) w) : Calls P f a w Q := h.mono fun e w' h => by
 obtain ⟨h1, h2⟩ := h
 subst h1
 subst h2
 exact k
theorem frC {P : Program} {f : FuncId} {a : Array Value} {w : World} {v : Value} {R : World → Prop} {Q : Ending → World → Prop} (h : Calls P f a w fun e w' => e = .returned v ∧ R w') (k : ∀ w', R w' → Q (.returned v) w') : Calls P f a w Q := h.mono fun e w' h => by
 obtain ⟨h1, h2⟩ := h
 subst h1
 exact k w' h2
theorem hd {p : Prop} (h : p) : Hid p := h
abbrev pt (b : Nat) : Value := .pointer (some ⟨b, 0, none⟩)
abbrev CR (f : FuncId) (a : Array Value) (w : World) (v : Value) : Prop := Calls prog f a w fun e w' => e = .returned v ∧ Fr NoB w w'
abbrev CS (f : FuncId) (a : Array Value) (w : World) (v : Value) : Prop := Calls prog f a w fun e w' => e = .returned v ∧ w' = w
theorem bF {α : Type} [BEq α] [LawfulBEq α] {a b : α} (h : a ≠ b) : (a == b) = false := beq_eq_false_iff_ne.2 h
theorem nwD {w : World} {L : List Value} {t : TypeId} : ∀ (j : Nat) (u : Value), L[j]? = some u → ((w.alloc (.cells L.toArray t)).drew).cell? (Addr.add ⟨w.heap.size, 0, none⟩ j) = some u := fun j u h => by
 have e : (Addr.add ⟨w.heap.size, 0, none⟩ j) = ⟨w.heap.size, j, none⟩ := by unfold Addr.add; split <;> simp_all
 rw [e]
 show (w.alloc (.cells L.toArray t)).cell? ⟨w.heap.size, j, none⟩ = some u
 rw [World.cell?_alloc_at _ _ _ _ rfl]
 simpa using h
theorem ret_bool {a b:Bool} (h:a = b):Ending.returned (.bool a) = .returned (.bool b):=by rw [h]
theorem ret_int {k:IntKind} {a b:Int} (h:a = b):Ending.returned (.int k a) = .returned (.int k b):=by rw [h]
theorem takenB_in {B:Nat → Int} {n k:Nat} (h:k < n):takenB B n (k:Int) = (B k != 0):=by
 unfold takenB
 have h1:(0:Int) ≤ (k:Int):=by omega
 have h2:(k:Int) < (n:Int):=by omega
 by_cases hb:B k = 0 <;> simp [h1,h2,hb]
theorem takenB_hi {B:Nat → Int} {n k:Nat} (h:¬ k < n):takenB B n (k:Int) = false:=by
 unfold takenB
 have h2:¬ (k:Int) < (n:Int):=by omega
 simp [h2]
theorem takenB_neg {B:Nat → Int} {n:Nat} {a:Int} (h:¬ 0 ≤ a):takenB B n a = false:=by
 unfold takenB
 simp [h]
theorem takenB_true {B:Nat → Int} {n:Nat} {a:Int} (h:takenB B n a = true):∃ k:Nat,a = (k:Int) ∧ k < n ∧ B k ≠ 0:=by
 unfold takenB at h
 simp at h
 refine ⟨a.toNat,by omega,by omega,h.2⟩
theorem taken_any (w:World) (p r n:Nat) (B V:Nat → Int) (a:Int) (h:HeapAt w p r n B V) :
  CS 63 #[.pointer (some ⟨p,0,none⟩),.int .i64 a] w (.bool (takenB B n a)):=by
 have hn:=h.hi
 have hp:=h.ptr
 by_cases h0:0 ≤ a
 ·obtain ⟨k,rfl⟩:=Int.eq_ofNat_of_zero_le h0
  by_cases h1:k < n
  ·have hc:=h.blk k h1
   clear h
   go_enter func63,ntmps63
   go_wp2
   go_ret
   exact ⟨ret_bool (takenB_in h1).symm,rfl⟩
  ·clear h
   go_enter func63,ntmps63
   go_wp2
   go_ret
   exact ⟨ret_bool (takenB_hi h1).symm,rfl⟩
 ·clear h
  go_enter func63,ntmps63
  go_wp2
  go_ret
  exact ⟨ret_bool (takenB_neg (by omega)).symm,rfl⟩
theorem taken_in (w:World) (p r n:Nat) (B V:Nat → Int) (k:Nat) (h:HeapAt w p r n B V) (hk:k < n) :
  CS 63 #[.pointer (some ⟨p,0,none⟩),.int .i64 k] w (.bool (B k != 0)):=by
 have:=taken_any w p r n B V k h
 rwa [takenB_in hk] at this
theorem load_no (w:World) (p r n:Nat) (B V:Nat → Int) (a:Int) (h:HeapAt w p r n B V) (ht:takenB B n a = false) :
  CS 44 #[.pointer (some ⟨p,0,none⟩),.int .i64 a] w (.tuple #[.int .i64 0,.int .i64 7]):=by
 go_enter func44,ntmps44
 go_wp2_with (go_at_call 63;refine (taken_any _ p r n B V a h).mono ?_;rintro e w' ⟨rfl,rfl⟩;rw [ht])
 go_ret2
 exact ⟨rfl,rfl⟩
theorem load_yes (w:World) (p r n:Nat) (B V:Nat → Int) (k:Nat) (h:HeapAt w p r n B V) (hk:k < n) (ht:B k ≠ 0) :
  CS 44 #[.pointer (some ⟨p,0,none⟩),.int .i64 k] w (.tuple #[.int .i64 (V k),.int .i64 0]):=by
 have hn:=h.hi
 have hp:=h.ptr
 have hc:=h.val k hk
 have hb:(B k != 0) = true:=by simpa using ht
 go_enter func44,ntmps44
 go_wp2_with (go_at_call 63;refine (taken_in _ p r n B V k h hk).mono ?_;rintro e w' ⟨rfl,rfl⟩;rw [hb])
 go_ret2
 exact ⟨rfl,rfl⟩
theorem store_no (w:World) (p r n:Nat) (B V:Nat → Int) (a u:Int) (h:HeapAt w p r n B V) (ht:takenB B n a = false) :
  CS 45 #[.pointer (some ⟨p,0,none⟩),.int .i64 a,.int .i64 u] w (.int .i64 7):=by
 go_enter func45,ntmps45
 go_wp2_with (go_at_call 63;refine (taken_any _ p r n B V a h).mono ?_;rintro e w' ⟨rfl,rfl⟩;rw [ht])
 go_ret
 exact ⟨rfl,rfl⟩
theorem store_arg (w:World) (p r n:Nat) (B V:Nat → Int) (k:Nat) (u:Int) (h:HeapAt w p r n B V) (hk:k < n) (ht:B k ≠ 0) (hu:u < 0 ∨ 1000 ≤ u) :
  CS 45 #[.pointer (some ⟨p,0,none⟩),.int .i64 k,.int .i64 u] w (.int .i64 5):=by
 have hb:(B k != 0) = true:=by simpa using ht
 rcases hu with hu | hu
 ·go_enter func45,ntmps45
  go_wp2_with (go_at_call 63;refine (taken_in _ p r n B V k h hk).mono ?_;rintro e w' ⟨rfl,rfl⟩;rw [hb])
  go_ret
  exact ⟨rfl,rfl⟩
 ·have hu0:¬ u < 0:=by omega
  go_enter func45,ntmps45
  go_wp2_with (go_at_call 63;refine (taken_in _ p r n B V k h hk).mono ?_;rintro e w' ⟨rfl,rfl⟩;rw [hb])
  go_ret
  exact ⟨rfl,rfl⟩
theorem store_yes (w:World) (p r n:Nat) (B V:Nat → Int) (k:Nat) (u:Int) (h:HeapAt w p r n B V) (hk:k < n) (ht:B k ≠ 0) (hu0:0 ≤ u) (hu1:u < 1000) :
  Calls prog 45 #[.pointer (some ⟨p,0,none⟩),.int .i64 k,.int .i64 u] w fun e w'=>e = .returned (.int .i64 0) ∧ w' = w.setCell ⟨r,k * 2 + 1,none⟩ (.int .i64 u):=by
 have hn:=h.hi
 have hp:=h.ptr
 have hc:=h.val k hk
 have hf:=h.frz (k * 2 + 1)
 have hb:(B k != 0) = true:=by simpa using ht
 go_enter func45,ntmps45
 go_wp2_with (go_at_call 63;refine (taken_in _ p r n B V k h hk).mono ?_;rintro e w' ⟨rfl,rfl⟩;rw [hb])
 go_ret
 exact ⟨rfl,rfl⟩
structure RunFrom (B:Nat → Int) (n f a e:Nat):Prop where
 fa:f ≤ a
 ae:a ≤ e
 en:e ≤ n
 skip:∀ i,f ≤ i → i < a → B i ≠ 0
 free:∀ i,a ≤ i → i < e → B i = 0
 top:a = n ∨ B a = 0
 stop:e = n ∨ B e ≠ 0
theorem grow_ne {B:Nat → Int} {f k:Nat} (h:∀ i,f ≤ i → i < k → B i ≠ 0) (hk:B k ≠ 0):∀ i,f ≤ i → i < k + 1 → B i ≠ 0:=fun i h1 h2=>by
 by_cases e:i = k
 ·subst e;exact hk
 ·exact h i h1 (by omega)
theorem grow_eq {B:Nat → Int} {f k:Nat} (h:∀ i,f ≤ i → i < k → B i = 0) (hk:B k = 0):∀ i,f ≤ i → i < k + 1 → B i = 0:=fun i h1 h2=>by
 by_cases e:i = k
 ·subst e;exact hk
 ·exact h i h1 (by omega)
theorem top_of {B:Nat → Int} {k n:Nat} (hk:k ≤ n) (h:¬ (k < n ∧ B k ≠ 0)):k = n ∨ B k = 0:=by
 by_cases e:B k = 0
 ·exact .inr e
 ·exact .inl (by have:¬ k < n:=fun hl=>h ⟨hl,e⟩;omega)
theorem stop_of {B:Nat → Int} {k n:Nat} (hk:k ≤ n) (h:¬ (k < n ∧ B k = 0)):k = n ∨ B k ≠ 0:=by
 by_cases e:B k = 0
 ·exact .inl (by have:¬ k < n:=fun hl=>h ⟨hl,e⟩;omega)
 ·exact .inr e
theorem nextRun_any (w:World) (p r n:Nat) (B V:Nat → Int) (f:Nat) (h:HeapAt w p r n B V) (hf:f ≤ n) :
  Calls prog 62 #[.pointer (some ⟨p,0,none⟩),.int .i64 f] w fun e w' =>
   ∃ a z:Nat,e = .returned (.agg #[.int .i64 a,.int .i64 ((z:Int) - (a:Int))]) ∧ RunFrom B n f a z ∧ Fr NoB w w':=by
 have hn:=h.hi
 have hpl:=h.pl
 have hp:=h.ptr
 go_enter func62,ntmps62
 go_wp2
 go_loop [5] (fun t=>∃ k:Nat,f ≤ k ∧ k ≤ n ∧ (∀ i,f ≤ i → i < k → B i ≠ 0) ∧ t = .int .i64 k) (fun t=>n - (intOf t).toNat)
 case atStart=>exact ⟨f,Nat.le_refl _,hf,fun i h1 h2=>absurd h2 (by omega),rfl⟩
 case round =>
  obtain ⟨k,hk1,hk2,hk3,rfl⟩:=hrel
  have h1:HeapAt (w.alloc (.cells #[.int .i64 0,.int .i64 0] 79)) p r n B V:=h.no ((Fr.refl _ _).alloc _)
  have Hk3:Hid (∀ i,f ≤ i → i < k → B i ≠ 0):=hk3
  clear hk3
  by_cases hgo:k < n ∧ B k ≠ 0
  ·obtain ⟨hlt,hb⟩:=hgo
   have hbb:(B k != 0) = true:=by simpa using hb
   have Hb:Hid (B k ≠ 0):=hb
   clear hb
   go_wp2_with (go_at_call 63;refine (taken_in _ p r n B V k h1 hlt).mono ?_;rintro e w' ⟨rfl,rfl⟩;rw [hbb])
   go_round
   case rel=>exact ⟨k + 1,by omega,by omega,grow_ne Hk3.out Hb.out,by go_num⟩
   case measure=>simp [intOf];omega
  ·have Htop:Hid (k = n ∨ B k = 0):=top_of hk2 hgo
   have hbb:k < n → (B k != 0) = false:=fun hlt=>by
    rcases Htop.out with h | h
    ·omega
    ·simpa using h
   clear hgo
   by_cases hlt:k < n
   all_goals
    go_wp2_with (go_at_call 63;refine (taken_in _ p r n B V k h1 hlt).mono ?_;rintro e w' ⟨rfl,rfl⟩;rw [hbb hlt])
    go_loop [6] (fun t=>∃ z:Nat,k ≤ z ∧ z ≤ n ∧ (∀ i,k ≤ i → i < z → B i = 0) ∧ t = .int .i64 z) (fun t=>n - (intOf t).toNat)
    case atStart=>exact ⟨k,Nat.le_refl _,hk2,fun i h1 h2=>absurd h2 (by omega),rfl⟩
    case round =>
     obtain ⟨z,hz1,hz2,hz3,rfl⟩:=hrel
     have Hz3:Hid (∀ i,k ≤ i → i < z → B i = 0):=hz3
     clear hz3
     by_cases hgo:z < n ∧ B z = 0
     ·obtain ⟨hzl,hzb⟩:=hgo
      have hbz:(B z != 0) = false:=by simpa using hzb
      have Hzb:Hid (B z = 0):=hzb
      clear hzb
      first
      | (exfalso;omega)
      | (go_wp2_with (go_at_call 63;refine (taken_in _ p r n B V z h1 hzl).mono ?_;rintro e w' ⟨rfl,rfl⟩;rw [hbz])
         go_round
         case rel=>exact ⟨z + 1,by omega,by omega,grow_eq Hz3.out Hzb.out,by go_num⟩
         case measure=>simp [intOf];omega)
     ·have Hstop:Hid (z = n ∨ B z ≠ 0):=stop_of hz2 hgo
      have hbz:z < n → (B z != 0) = true:=fun hlt=>by
       rcases Hstop.out with h | h
       ·omega
       ·simpa using h
      clear hgo
      by_cases hzl:z < n
      all_goals
       first
       | (exfalso;omega)
       | (go_wp2_with (go_at_call 63;refine (taken_in _ p r n B V z h1 hzl).mono ?_;rintro e w' ⟨rfl,rfl⟩;rw [hbz hzl])
          refine bodyPost_ret (v:=.agg #[.int .i64 k,.int .i64 ((z:Int) - (k:Int))]) (by simp [results,results62,go_sem]) rfl ⟨k,z,rfl,⟨hk1,hz1,hz2,Hk3.out,Hz3.out,Htop.out,Hstop.out⟩,?_⟩
          repeat (first | exact Fr.refl _ _ | refine Fr.setCell ?_ (fun h=>absurd h (Nat.lt_irrefl _)) _ | refine Fr.alloc ?_ _))
def FreeAt (B:Nat → Int) (n k a:Nat):Prop:=a + k ≤ n ∧ ∀ i,a ≤ i → i < a + k → B i = 0
def markTo (B:Nat → Int) (a j:Nat):Nat → Int:=fun i=>if a ≤ i ∧ i < j then (a:Int) + 1 else B i
def cellInt (w:World) (b o:Nat):Int:=match w.cell? ⟨b,o,none⟩ with | some (.int _ q)=>q | _=>0
theorem cellInt_of {w:World} {b o:Nat} {q:Int} (h:w.cell? ⟨b,o,none⟩ = some (.int .i64 q)):cellInt w b o = q:=by simp [cellInt,h]
theorem free_first {B:Nat → Int} {n k a z:Nat} (hk:1 ≤ k) (h:RunFrom B n 0 a z):∀ b,FreeAt B n k b → a ≤ b:=fun b hb=>by
 by_cases e:a ≤ b
 ·exact e
 ·exact absurd (hb.2 b (Nat.le_refl _) (by omega)) (h.skip b (Nat.zero_le _) (by omega))
theorem free_next {B:Nat → Int} {n k f a z a' z':Nat} (hk:1 ≤ k) (h:RunFrom B n f a z) (h':RunFrom B n z a' z') (hlen:z < a + k) (hf:∀ b,FreeAt B n k b → a ≤ b):∀ b,FreeAt B n k b → a' ≤ b:=fun b hb=>by
 have h1:=hf b hb
 have hz:z ≤ b:=by
  by_cases e:z ≤ b
  ·exact e
  ·rcases h.stop with hs | hs
   ·have:=hb.1;omega
   ·exact absurd (hb.2 z (by omega) (by omega)) hs
 by_cases e:a' ≤ b
 ·exact e
 ·exact absurd (hb.2 b (Nat.le_refl _) (by omega)) (h'.skip b hz (by omega))
theorem next_later {B:Nat → Int} {n f a z a' z':Nat} (h:RunFrom B n f a z) (h':RunFrom B n z a' z'):z < z' ∨ (z = n ∧ a' = n ∧ z' = n):=by
 have h1:=h'.fa
 have h2:=h'.ae
 have h3:=h'.en
 rcases h.stop with hs | hs
 ·exact .inr ⟨hs,by omega,by omega⟩
 ·rcases h'.top with ht | ht
  ·have:=h.en
   by_cases e:z < z'
   ·exact .inl e
   ·exact .inr ⟨by omega,by omega,by omega⟩
  ·refine .inl ?_
   by_cases e:a' = z
   ·subst e;exact absurd ht hs
   ·omega
theorem no_room {B:Nat → Int} {n k f a z:Nat} (hk:1 ≤ k) (h:RunFrom B n f a z) (hl:a = z) (hf:∀ b,FreeAt B n k b → a ≤ b):∀ b,¬ FreeAt B n k b:=fun b hb=>by
 have h1:=hf b hb
 have h2:=hb.1
 subst hl
 rcases h.stop with hs | hs
 ·omega
 ·rcases h.top with ht | ht
  ·omega
  ·exact hs ht
theorem has_room {B:Nat → Int} {n k f a z:Nat} (h:RunFrom B n f a z) (hl:a + k ≤ z):FreeAt B n k a :=
 ⟨by have:=h.en;omega,fun i h1 h2=>h.free i h1 (by omega)⟩
theorem markTo_start (B:Nat → Int) (a:Nat) {n:Nat}:∀ i,i < n → markTo B a a i = B i:=fun i _=>by
 unfold markTo;rw [if_neg (by omega)]
theorem markTo_step (B:Nat → Int) {a j:Nat} (h:a ≤ j) {n:Nat}:∀ i,i < n → markTo B a (j + 1) i = upd (markTo B a j) j ((a:Int) + 1) i:=fun i _=>by
 unfold markTo upd
 by_cases e:i = j
 ·subst e;rw [if_pos (by omega),if_pos rfl]
 ·rw [if_neg e]
  by_cases e2:a ≤ i ∧ i < j
  ·rw [if_pos (by omega)];exact (if_pos e2).symm
  ·rw [if_neg (by omega)];exact (if_neg e2).symm
theorem alloc_arg (w:World) (p:Nat) (k:Int) (hk:k < 1 ∨ 64 < k) :
  CS 40 #[.pointer (some ⟨p,0,none⟩),.int .i64 k] w (.tuple #[.int .i64 0,.int .i64 5]):=by
 rcases hk with hk | hk
 ·go_enter func40,ntmps40
  go_wp2
  go_ret2
  exact ⟨rfl,rfl⟩
 ·have hk0:¬ k < 1:=by omega
  go_enter func40,ntmps40
  go_wp2
  go_ret2
  exact ⟨rfl,rfl⟩
theorem alloc_any (w:World) (p r n:Nat) (B V:Nat → Int) (k:Nat) (h:HeapAt w p r n B V) (hk1:1 ≤ k) (hk2:k ≤ 64) :
  Calls prog 40 #[.pointer (some ⟨p,0,none⟩),.int .i64 k] w fun e w' =>
   (∃ a:Nat,FreeAt B n k a ∧ (∀ b,FreeAt B n k b → a ≤ b) ∧ e = .returned (.tuple #[.int .i64 a,.int .i64 0]) ∧ HeapAt w' p r n (markTo B a (a + k)) V ∧ Fr (OneB r) w w') ∨
   ((∀ b,¬ FreeAt B n k b) ∧ e = .returned (.tuple #[.int .i64 0,.int .i64 6]) ∧ Fr NoB w w'):=by
 have hn:=h.hi
 have hd1:(decide ((k:Int) < 1)) = false:=by simp;omega
 have hd2:(decide ((64:Int) < (k:Int))) = false:=by simp;omega
 go_enter func40,ntmps40
 go_wp2_with fail
 refine (nextRun_any _ p r n B V 0 h (Nat.zero_le _)).mono ?_
 rintro e w1 ⟨a0,z0,rfl,hr0,hf0⟩
 go_wp2_with fail
 go_loopw [] (fun wr=>∃ f a z:Nat,RunFrom B n f a z ∧ (∀ b,FreeAt B n k b → a ≤ b) ∧ wr.cell? ⟨w1.heap.size,0,none⟩ = some (.int .i64 a) ∧ wr.cell? ⟨w1.heap.size,1,none⟩ = some (.int .i64 ((z:Int) - (a:Int))) ∧
   (∀ o,wr.frozen? ⟨w1.heap.size,o,none⟩ = false) ∧ Fr NoB w wr ∧ w1.heap.size < wr.heap.size)
  (fun wr=>(2 * ((n:Int) - (cellInt wr w1.heap.size 0 + cellInt wr w1.heap.size 1)) + min (cellInt wr w1.heap.size 1) 1).toNat)
 case atStart=>exact ⟨0,a0,z0,hr0,free_first hk1 hr0,by simp,by simp,fun o=>by simp,hf0.alloc _,by simp⟩
 case round =>
  obtain ⟨f,a,z,hr,hfr,hc0,hc1,hfz,hF,hsz⟩:=hrel
  have hae:=hr.ae
  have hen:=hr.en
  have hW:HeapAt wr p r n B V:=h.no hF
  have Hfr:Hid (∀ b,FreeAt B n k b → a ≤ b):=hfr
  clear hfr
  by_cases hlen:a < z ∧ z < a + k
  ·obtain ⟨hl1,hl2⟩:=hlen
   go_wp2_with fail
   rw [show (a:Int) + ((z:Int) - (a:Int)) = (z:Int) from by omega]
   refine (nextRun_any _ p r n B V z hW hen).mono ?_
   rintro e w2 ⟨a',z',rfl,hr',hf'⟩
   have hlat:=next_later hr hr'
   have hR:=free_next hk1 hr hr' hl2 Hfr.out
   have hae':=hr'.ae
   have hen':=hr'.en
   have hc0':=hf'.cell_some hc0 id
   have hc1':=hf'.cell_some hc1 id
   have hfz':∀ o,w2.frozen? ⟨w1.heap.size,o,none⟩ = false:=fun o=>(hf'.frozen (p:=⟨w1.heap.size,o,none⟩) hsz id).trans (hfz o)
   have hfa:=hfz' 0
   have hfb:=hfz' 1
   have HR:Hid (∀ b,FreeAt B n k b → a' ≤ b):=hR
   have HL:Hid (z < z' ∨ (z = n ∧ a' = n ∧ z' = n)):=hlat
   have hs2:=hf'.size
   have hgw:w.heap.size ≤ w1.heap.size:=hf0.size
   clear hR hlat
   go_wp2_with fail
   go_roundw
   case rel =>
    refine ⟨z,a',z',hr',HR.out,(two_set hc0' hc1').1,(two_set hc0' hc1').2,fun o=>by simp [hfz'],?_,by simp;omega⟩
    exact ((hF.trans hf').setCell (fun hlt=>absurd hlt (by simp;omega)) _).setCell (fun hlt=>absurd hlt (by simp;omega)) _
   case measure =>
    have hL:=HL.out
    rw [cellInt_of hc0,cellInt_of hc1,cellInt_of (two_set hc0' hc1').1,cellInt_of (two_set hc0' hc1').2]
    omega
  ·by_cases hz:a = z
   ·have hno:=no_room hk1 hr hz Hfr.out
    have Hno:Hid (∀ b,¬ FreeAt B n k b):=hno
    clear hno hlen
    subst hz
    go_wp2
    go_ret2
    exact .inr ⟨Hno.out,rfl,hF⟩
   ·have hge:a + k ≤ z:=by omega
    have hyes:=has_room hr hge
    have Hyes:Hid (FreeAt B n k a):=hyes
    clear hyes
    clear hlen
    have hlt:a < z:=by omega
    go_wp2_with fail
    have hgw:w.heap.size ≤ w1.heap.size:=hf0.size
    have hrl:=h.rl
    have hne:r ≠ w1.heap.size:=by omega
    go_loopw [7] (fun t wq=>∃ j:Nat,a ≤ j ∧ j ≤ a + k ∧ t = .int .i64 j ∧ HeapAt wq p r n (markTo B a j) V ∧ wq.cell? ⟨w1.heap.size,0,none⟩ = some (.int .i64 a) ∧ Fr (OneB r) w wq)
     (fun t _=>a + k - (intOf t).toNat)
    case atStart=>exact ⟨a,Nat.le_refl _,by omega,rfl,hW.congr (markTo_start B a) (fun _ _=>rfl),hc0,hF.of_no⟩
    case round =>
     obtain ⟨j,hj1,hj2,rfl,hq,hcq,hFq⟩:=hrel
     by_cases hlt2:j < a + k
     ·have hjn:j < n:=by omega
      have hqp:=hq.ptr
      have hqb:=hq.blk j hjn
      have hqf:=hq.frz (j * 2)
      have hset:=(hq.setBlk hjn ((a:Int) + 1) (by omega) (by omega)).congr (markTo_step B hj1) (fun _ _=>rfl)
      have hFs:=hFq.setCell (p:=⟨r,j * 2,none⟩) (fun _=>rfl) (.int .i64 ((a:Int) + 1))
      have hcs:(wr.setCell ⟨r,j * 2,none⟩ (.int .i64 ((a:Int) + 1))).cell? ⟨w1.heap.size,0,none⟩ = some (.int .i64 a):=(cell_other (.inl hne)).trans hcq
      have H:Hid (HeapAt (wr.setCell ⟨r,j * 2,none⟩ (.int .i64 ((a:Int) + 1))) p r n (markTo B a (j + 1)) V ∧ Fr (OneB r) w (wr.setCell ⟨r,j * 2,none⟩ (.int .i64 ((a:Int) + 1))) ∧ (wr.setCell ⟨r,j * 2,none⟩ (.int .i64 ((a:Int) + 1))).cell? ⟨w1.heap.size,0,none⟩ = some (.int .i64 a)):=⟨hset,hFs,hcs⟩
      clear hset hFs hcs hq hFq
      go_wp2
      go_region
      all_goals
       go_wp2
       go_roundw
       case rel=>exact ⟨j + 1,by omega,by omega,by go_num,H.out.1.no ((Fr.refl _ _).drew),H.out.2.2,H.out.2.1.drew⟩
       case measure=>simp [intOf];omega
     ·have hja:j = a + k:=by omega
      subst hja
      go_wp2
      go_ret2
      exact .inl ⟨a,Hyes.out,Hfr.out,rfl,hq,hFq⟩
def IsRuns (B:Nat → Int) (n:Nat):Nat → List (Nat × Nat) → Prop
 | lo,[]=>∀ i,lo ≤ i → i < n → B i ≠ 0
 | lo,(a,l) :: L=>lo ≤ a ∧ 0 < l ∧ a + l ≤ n ∧ (∀ i,lo ≤ i → i < a → B i ≠ 0) ∧ (∀ i,a ≤ i → i < a + l → B i = 0) ∧ (a + l = n ∨ B (a + l) ≠ 0) ∧ IsRuns B n (a + l) L
def spanCells (L:List (Nat × Nat)):List Value:=L.flatMap (fun s=>[.int .i64 s.1,.int .i64 s.2])
theorem spanCells_snoc (L:List (Nat × Nat)) (a l:Nat):spanCells (L ++ [(a,l)]) = spanCells L ++ [.int .i64 a,.int .i64 l]:=by simp [spanCells]
theorem owns_mono {w:World} {base base':Nat} {e:TypeId} {size:Nat} {v:Value} {n:Nat} {xs:List Value} (h:w.ownsRow base e size v n xs) (hb:base' ≤ base):w.ownsRow base' e size v n xs:=by
 obtain ⟨h1,h2⟩:=h
 refine ⟨h1,?_⟩
 rcases h2 with h2 | ⟨g,cap,cur,hv,hg,r⟩
 ·exact .inl h2
 ·exact .inr ⟨g,cap,cur,hv,by omega,r⟩
theorem Tryz.infoSpan:(prog.info? 79).map (fun i=>(i.zero,i.size,i.bytes)) = some (some (.agg #[.int .i64 0,.int .i64 0]),2,16):=by kernel_rfl
theorem runs_step {B:Nat → Int} {n f a z:Nat} {L:List (Nat × Nat)} (h:RunFrom B n f a z) (hlt:a < z) (hL:∀ M,IsRuns B n f M → IsRuns B n 0 (L ++ M)):∀ M,IsRuns B n z M → IsRuns B n 0 ((L ++ [(a,z - a)]) ++ M):=fun M hM=>by
 rw [List.append_assoc]
 apply hL
 have e:a + (z - a) = z:=by omega
 have hen:=h.en
 refine ⟨h.fa,by omega,by omega,h.skip,fun i h1 h2=>h.free i h1 (by omega),?_,?_⟩
 ·rw [e];exact h.stop
 ·rw [e];exact hM
theorem runs_end {B:Nat → Int} {n f a z:Nat} {L:List (Nat × Nat)} (h:RunFrom B n f a z) (he:a = z) (hL:∀ M,IsRuns B n f M → IsRuns B n 0 (L ++ M)):IsRuns B n 0 L:=by
 have:=hL [] (fun i h1 h2=>by
  by_cases e:i < a
  ·exact h.skip i h1 e
  ·exfalso
   subst he
   rcases h.stop with hs | hs
   ·omega
   ·rcases h.top with ht | ht
    ·omega
    ·exact hs ht)
 simpa using this
theorem runs_grown {w wr w2:World} {o:Obj} {g:Nat} {e:TypeId} {size m:Nat} {v:Value} {xs:List Value} {x0 x1:Value} (hF:Fr NoB w wr) (hgw:w.heap.size ≤ g)
  (hown:wr.ownsRow (g + 1) e size v m xs) (hg:(wr.alloc o).grownBy w2 v.ownBlock)
  (hc0:wr.cell? ⟨g,0,none⟩ = some x0) (hc1:wr.cell? ⟨g,1,none⟩ = some x1) (hfz:∀ o,wr.frozen? ⟨g,o,none⟩ = false) (hsz:g < wr.heap.size) :
  Fr NoB w w2 ∧ w2.cell? ⟨g,0,none⟩ = some x0 ∧ w2.cell? ⟨g,1,none⟩ = some x1 ∧ (∀ o,w2.frozen? ⟨g,o,none⟩ = false) ∧ g < w2.heap.size:=by
 have hlt:=hown.lt
 have hfr:Fr (fun k=>v.ownBlock = some k) wr w2:=((Fr.refl _ wr).alloc o).then (Fr.of_grown (S:=fun k=>v.ownBlock = some k) hg (fun k _ e=>e)) (fun _ _ h=>h)
 have hng:¬ v.ownBlock = some g:=fun e=>by have:=(hlt g e).1;omega
 refine ⟨hF.then hfr (fun i hi e=>by have:=(hlt i e).1;omega),hfr.cell_some hc0 hng,hfr.cell_some hc1 hng,fun o=>?_,?_⟩
 ·exact (hfr.frozen (p:=⟨g,o,none⟩) hsz hng).trans (hfz o)
 ·have:=hfr.size;omega
theorem runs_any (w:World) (p r n:Nat) (B V:Nat → Int) (h:HeapAt w p r n B V) :
  Calls prog 64 #[.pointer (some ⟨p,0,none⟩)] w fun e w' =>
   ∃ v L,e = .returned v ∧ IsRuns B n 0 L ∧ w'.ownsRow w.heap.size 79 2 v L.length (spanCells L) ∧ Fr NoB w w':=by
 have hn:=h.hi
 obtain ⟨i0,hi,hz0,hz1,hz2⟩:=info_parts Tryz.infoSpan
 go_enter func64,ntmps64
 go_wp2_with fail
 refine (nextRun_any _ p r n B V 0 h (Nat.zero_le _)).mono ?_
 rintro e w1 ⟨a0,z0,rfl,hr0,hf0⟩
 go_wp2_with fail
 go_loopw [3] (fun t wr=>∃ (f a z:Nat) (L:List (Nat × Nat)),RunFrom B n f a z ∧ (∀ M,IsRuns B n f M → IsRuns B n 0 (L ++ M)) ∧ L.length ≤ f ∧ wr.ownsRow (w1.heap.size + 1) 79 2 t L.length (spanCells L) ∧
   wr.cell? ⟨w1.heap.size,0,none⟩ = some (.int .i64 a) ∧ wr.cell? ⟨w1.heap.size,1,none⟩ = some (.int .i64 ((z:Int) - (a:Int))) ∧
   (∀ o,wr.frozen? ⟨w1.heap.size,o,none⟩ = false) ∧ Fr NoB w wr ∧ w1.heap.size < wr.heap.size)
  (fun _ wr=>(2 * ((n:Int) - (cellInt wr w1.heap.size 0 + cellInt wr w1.heap.size 1)) + min (cellInt wr w1.heap.size 1) 1).toNat)
 case atStart=>exact ⟨0,a0,z0,[],hr0,fun M hM=>hM,Nat.zero_le _,World.ownsRow_nil _ _ _ _,by simp,by simp,fun o=>by simp,hf0.alloc _,by simp⟩
 case round =>
  obtain ⟨f,a,z,L,hr,hL,hLl,hown,hc0,hc1,hfz,hF,hsz⟩:=hrel
  have hfa:=hr.fa
  have hae:=hr.ae
  have hen:=hr.en
  have hgw:w.heap.size ≤ w1.heap.size:=hf0.size
  have HL:Hid (∀ M,IsRuns B n f M → IsRuns B n 0 (L ++ M)):=hL
  clear hL
  by_cases hlt:a < z
  ·have hW:HeapAt wr p r n B V:=h.no hF
   have HOld:Hid (cellInt wr w1.heap.size 0 = (a:Int) ∧ cellInt wr w1.heap.size 1 = (z:Int) - (a:Int)):=⟨cellInt_of hc0,cellInt_of hc1⟩
   go_wp2_with (at_builtin;refine wpList_append_own _ rfl _ _ 47 rfl (w1.heap.size + 1) 79 i0 (.agg #[.int .i64 0,.int .i64 0]) 2 16 underlying47 hi hz0 hz1 hz2 rfl (by decide) _ _ _ rfl (hown.alloc _) ⟨wr.heap.size,0,none⟩ 1 1 [.int .i64 a,.int .i64 ((z:Int) - (a:Int))] rfl rfl ?c1 ?c2 ?c3 ?c4 ?c5 ?_)
   case c1 =>
    intro j u hj
    match j,hj with
    | 0,hj=>simp at hj;subst hj;simp [Addr.add]
    | 1,hj=>simp at hj;subst hj;simp [Addr.add]
   case c2=>intro u hu;simp at hu;rcases hu with rfl | rfl <;> rfl
   case c3=>unfold maxLen;omega
   case c4=>omega
   case c5=>simp;omega
   intro v' w2 hown' hgrow _
   obtain ⟨hF2,hc0',hc1',hfz',hs2⟩:=runs_grown hF hgw hown hgrow hc0 hc1 hfz hsz
   have hW2:HeapAt w2 p r n B V:=h.no hF2
   have Hown':Hid (w2.ownsRow (w1.heap.size + 1) 79 2 v' (L.length + 1) (spanCells L ++ [.int .i64 a,.int .i64 ((z:Int) - (a:Int))])):=hown'
   clear hown' hgrow hown hc0 hc1 hfz hW
   go_wp2_with fail
   rw [show (a:Int) + ((z:Int) - (a:Int)) = (z:Int) from by omega]
   refine (nextRun_any _ p r n B V z hW2 hen).mono ?_
   rintro e w3 ⟨a',z',rfl,hr',hf'⟩
   have HLat:Hid (z < z' ∨ (z = n ∧ a' = n ∧ z' = n)):=next_later hr hr'
   have hae':=hr'.ae
   have hen':=hr'.en
   have hd0:=hf'.cell_some hc0' id
   have hd1:=hf'.cell_some hc1' id
   have hdz:∀ o,w3.frozen? ⟨w1.heap.size,o,none⟩ = false:=fun o=>(hf'.frozen (p:=⟨w1.heap.size,o,none⟩) hs2 id).trans (hfz' o)
   have hdza:=hdz 0
   have hdzb:=hdz 1
   have hs3:=hf'.size
   have Hold:Hid (cellInt wr w1.heap.size 0 = (a:Int) ∧ cellInt wr w1.heap.size 1 = (z:Int) - (a:Int)):=HOld
   clear HOld
   go_wp2_with fail
   go_roundw
   case rel =>
    refine ⟨z,a',z',L ++ [(a,z - a)],hr',runs_step hr hlt HL.out,by simp;omega,?_,(two_set hd0 hd1).1,(two_set hd0 hd1).2,fun o=>by simp [hdz],?_,by simp;omega⟩
    ·rw [spanCells_snoc,List.length_append,show ((z - a:Nat):Int) = (z:Int) - (a:Int) from by omega]
     have ho:=(hf'.owns Hown'.out (fun _ _ h=>h))
     exact ownsRow_setCell_below (ownsRow_setCell_below ho (Nat.lt_succ_self _) _) (Nat.lt_succ_self _) _
    ·exact ((hF2.trans hf').setCell (fun hlt=>absurd hlt (by simp;omega)) _).setCell (fun hlt=>absurd hlt (by simp;omega)) _
   case measure =>
    have hL:=HLat.out
    rw [Hold.out.1,Hold.out.2,cellInt_of (two_set hd0 hd1).1,cellInt_of (two_set hd0 hd1).2]
    omega
  ·have hz:a = z:=by omega
   have hend:=runs_end hr hz HL.out
   have Hend:Hid (IsRuns B n 0 L):=hend
   clear hend
   subst hz
   go_wp2
   go_ret
   exact ⟨_,L,rfl,Hend.out,owns_mono hown (by omega),hF⟩
end Go.Proofs.YthcjcjfgdgnljabGreatDoor
