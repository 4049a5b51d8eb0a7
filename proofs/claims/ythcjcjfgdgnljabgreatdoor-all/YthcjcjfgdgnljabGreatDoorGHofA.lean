import Derived.Test.YthcjcjfgdgnljabGreatDoorGLaw8e
set_option linter.unusedVariables false
set_option maxHeartbeats 4000000
set_option maxRecDepth 8000
open Go.Proofs.Tryz
namespace Go.Proofs.YthcjcjfgdgnljabGreatDoor
open Go.RowKit
theorem lmade_any (w0 w:World) (wp bd:Nat) (a:Int) (h:WOkH w0 w wp bd) (hbd:bd ≤ 2932031007402) :
  Calls prog 5 #[.pointer (some ⟨wp,0,none⟩),.int .i64 a] w fun e w'=>e = .returned (.bool true) ∧ WOkH w0 w' wp (bd + 1):=by
 obtain ⟨own,hv,lv,hs,ls,hW,hpos⟩:=h
 by_cases ha:a < 1 ∨ 4096 < a
 ·refine (lmade_no w wp a ha).mono ?_
  rintro e w' ⟨rfl,hF⟩
  exact ⟨rfl,hW.okH hF hpos⟩
 ·obtain ⟨n,rfl⟩:=Int.eq_ofNat_of_zero_le (show 0 ≤ a by omega)
  exact lmade_yes w0 w wp own bd hv lv hs ls n (by omega) (by omega) hW hbd
theorem lheap1 (w0 w:World) (wp bd:Nat) (hI a b:Int) (s:ByteArray) (h:WOkH w0 w wp bd) (hbd:bd ≤ 2932031007402) :
  Calls prog 10 #[.pointer (some ⟨wp,0,none⟩),.agg #[.int .i64 1,.int .i64 hI,.int .i64 a,.int .i64 b,.string s]] w fun e w'=>e = .returned (.bool true) ∧ WOkH w0 w' wp (bd + 1):=by
 have HM:Hid (∀ W:World,Fr NoB w W → Calls prog 5 #[.pointer (some ⟨wp,0,none⟩),.int .i64 a] W fun e w'=>e = .returned (.bool true) ∧ WOkH w0 w' wp (bd + 1)):=fun W hF=>by
  obtain ⟨own,hv,lv,hs,ls,hW,hpos⟩:=h
  exact lmade_any w0 W wp bd a ⟨own,hv,lv,hs,ls,hW.no hF,hpos⟩ hbd
 clear h
 go_enter func10,ntmps10
 go_wp2_with fail
 refine (HM.out _ ((Fr.refl _ _).alloc _)).mono ?_
 rintro e w1 ⟨rfl,hE⟩
 have HE:Hid (WOkH w0 w1 wp (bd + 1)):=hE
 clear hE
 go_wp2
 go_ret
 exact ⟨rfl,HE.out⟩
theorem lheap7 (w0 w:World) (wp bd:Nat) (hI a b:Int) (s:ByteArray) (h:WOkH w0 w wp bd) (hbd:bd ≤ 2932031007402) (h1:-9223372036854775808 ≤ a) (h2:a ≤ 9223372036854775807) :
  Calls prog 10 #[.pointer (some ⟨wp,0,none⟩),.agg #[.int .i64 7,.int .i64 hI,.int .i64 a,.int .i64 b,.string s]] w fun e w'=>e = .returned (.bool true) ∧ WOkH w0 w' wp (bd + 1):=by
 have HM:Hid (∀ W:World,Fr NoB w W → Calls prog 19 #[.pointer (some ⟨wp,0,none⟩),.int .i64 a] W fun e w'=>e = .returned (.tuple #[]) ∧ WOkH w0 w' wp (bd + 1)):=fun W hF=>by
  obtain ⟨own,hv,lv,hs,ls,hW,hpos⟩:=h
  refine (lover_any w0 W wp own bd hv lv hs ls a (hW.no hF) hbd h1 h2).mono ?_
  rintro e w' ⟨he,ls',hW'⟩
  exact ⟨he,own,hv,lv,hs,ls',hW'.mono (by omega),hpos⟩
 clear h
 go_enter func10,ntmps10
 go_wp2_with fail
 refine (HM.out _ ((Fr.refl _ _).alloc _)).mono ?_
 rintro e w1 ⟨rfl,hE⟩
 have HE:Hid (WOkH w0 w1 wp (bd + 1)):=hE
 clear hE
 go_wp2
 go_ret
 exact ⟨rfl,HE.out⟩
theorem lheap_any (w0 w:World) (wp bd:Nat) (k hI a b:Int) (s:ByteArray) (h:WOkH w0 w wp bd) (hbd:bd ≤ 2932031007402) (hk1:1 ≤ k) (hk2:k ≤ 7) (h1:-9223372036854775808 ≤ hI) (h2:hI ≤ 9223372036854775807) (h3:-9223372036854775808 ≤ a) (h4:a ≤ 9223372036854775807) :
  Calls prog 10 #[.pointer (some ⟨wp,0,none⟩),.agg #[.int .i64 k,.int .i64 hI,.int .i64 a,.int .i64 b,.string s]] w fun e w'=>e = .returned (.bool true) ∧ WOkH w0 w' wp (bd + 1):=by
 have hk:k = 1 ∨ k = 2 ∨ k = 3 ∨ k = 4 ∨ k = 5 ∨ k = 6 ∨ k = 7:=by omega
 rcases hk with rfl | rfl | rfl | rfl | rfl | rfl | rfl
 ·exact lheap1 w0 w wp bd hI a b s h hbd
 ·obtain ⟨own,hv,lv,hs,ls,hW,hpos⟩:=h
  exact lheap2 w0 w wp own bd hv lv hs ls hI a b s hW hpos hbd h1 h2
 ·obtain ⟨own,hv,lv,hs,ls,hW,hpos⟩:=h
  exact lheap3 w0 w wp own bd hv lv hs ls hI a b s hW hpos hbd h1 h2
 ·obtain ⟨own,hv,lv,hs,ls,hW,hpos⟩:=h
  exact lheap4 w0 w wp own bd hv lv hs ls hI a b s hW hpos hbd h1 h2
 ·obtain ⟨own,hv,lv,hs,ls,hW,hpos⟩:=h
  exact lheap5 w0 w wp own bd hv lv hs ls hI a b s hW hpos hbd h1 h2
 ·obtain ⟨own,hv,lv,hs,ls,hW,hpos⟩:=h
  exact lheap6 w0 w wp own bd hv lv hs ls hI a b s hW hpos hbd h1 h2
 ·exact lheap7 w0 w wp bd hI a b s h hbd h3 h4
theorem lstep_any (w0 w:World) (wp bd:Nat) (k hI a b:Int) (s:ByteArray) (h:WOkH w0 w wp bd) (hbd:bd ≤ 2932031007402) (hk2:k ≤ 7) (h1:-9223372036854775808 ≤ hI) (h2:hI ≤ 9223372036854775807) (h3:-9223372036854775808 ≤ a) (h4:a ≤ 9223372036854775807) :
  Calls prog 6 #[.pointer (some ⟨wp,0,none⟩),.agg #[.int .i64 k,.int .i64 hI,.int .i64 a,.int .i64 b,.string s]] w fun e w'=>e = .returned (.bool true) ∧ WOkH w0 w' wp (bd + 1):=by
 by_cases hk1:1 ≤ k
 ·have HM:Hid (∀ W:World,Fr NoB w W → Calls prog 10 #[.pointer (some ⟨wp,0,none⟩),.agg #[.int .i64 k,.int .i64 hI,.int .i64 a,.int .i64 b,.string s]] W fun e w'=>e = .returned (.bool true) ∧ WOkH w0 w' wp (bd + 1)):=fun W hF=>by
   obtain ⟨own,hv,lv,hs,ls,hW,hpos⟩:=h
   exact lheap_any w0 W wp bd k hI a b s ⟨own,hv,lv,hs,ls,hW.no hF,hpos⟩ hbd hk1 hk2 h1 h2 h3 h4
  clear h
  have hk:k = 1 ∨ k = 2 ∨ k = 3 ∨ k = 4 ∨ k = 5 ∨ k = 6 ∨ k = 7:=by omega
  rcases hk with rfl | rfl | rfl | rfl | rfl | rfl | rfl
  all_goals
   go_enter func6,ntmps6
   go_wp2_with fail
   refine (HM.out _ ((Fr.refl _ _).alloc _)).mono ?_
   rintro e w1 ⟨rfl,hE⟩
   have HE:Hid (WOkH w0 w1 wp (bd + 1)):=hE
   clear hE
   go_wp2
   go_ret
   exact ⟨rfl,HE.out⟩
 ·have HE:Hid (∀ W,Fr NoB w W → WOkH w0 W wp (bd + 1)):=fun W hF=>by
   obtain ⟨own,hv,lv,hs,ls,hW,hpos⟩:=h
   exact hW.okH hF hpos
  clear h
  go_enter func6,ntmps6
  go_wp2
  go_ret
  exact ⟨rfl,HE.out _ ((Fr.refl _ _).alloc _)⟩
structure OpRow (w:World) (ao:Option Addr) (m:Nat) (K Hh A B:Nat → Int) (S:Nat → ByteArray):Prop where
 some_:0 < m → ∃ b off,ao = some ⟨b,off,none⟩
 c0:∀ b off i,i < m → ao = some ⟨b,off,none⟩ → w.cell? ⟨b,off + i * 5,none⟩ = some (.int .i64 (K i))
 c1:∀ b off i,i < m → ao = some ⟨b,off,none⟩ → w.cell? ⟨b,off + i * 5 + 1,none⟩ = some (.int .i64 (Hh i))
 c2:∀ b off i,i < m → ao = some ⟨b,off,none⟩ → w.cell? ⟨b,off + i * 5 + 2,none⟩ = some (.int .i64 (A i))
 c3:∀ b off i,i < m → ao = some ⟨b,off,none⟩ → w.cell? ⟨b,off + i * 5 + 3,none⟩ = some (.int .i64 (B i))
 c4:∀ b off i,i < m → ao = some ⟨b,off,none⟩ → w.cell? ⟨b,off + i * 5 + 4,none⟩ = some (.string (S i))
 rH:∀ i,i < m → -9223372036854775808 ≤ Hh i ∧ Hh i ≤ 9223372036854775807
 rA:∀ i,i < m → -9223372036854775808 ≤ A i ∧ A i ≤ 9223372036854775807
 rS:∀ i,i < m → (S i).size ≤ 9223372036854775807
 hm:m ≤ 2932031007317
theorem OpRow.no {w w':World} {ao:Option Addr} {m:Nat} {K Hh A B:Nat → Int} {S:Nat → ByteArray} (h:OpRow w ao m K Hh A B S) (hf:Fr NoB w w'):OpRow w' ao m K Hh A B S :=
 ⟨h.some_,fun b off i hi e=>hf.cell_some (h.c0 b off i hi e) id,fun b off i hi e=>hf.cell_some (h.c1 b off i hi e) id,fun b off i hi e=>hf.cell_some (h.c2 b off i hi e) id,
  fun b off i hi e=>hf.cell_some (h.c3 b off i hi e) id,fun b off i hi e=>hf.cell_some (h.c4 b off i hi e) id,h.rH,h.rA,h.rS,h.hm⟩
theorem WOkH.fr {w0 w:World} {wp bd:Nat} (h:WOkH w0 w wp bd):Fr NoB w0 w:=by
 obtain ⟨own,hv,lv,hs,ls,hW,hpos⟩:=h
 exact hW.fr
theorem world_start (w:World):WSt w (w.alloc (.cells #[.slice none 0 0,.slice none 0 0] 29)) w.heap.size (fun k=>if k < w.heap.size then 0 else 1) 0 (.slice none 0 0) (.slice none 0 0) [] []:=by
 refine ⟨by simp,by simp,fun o=>by simp,by simp,World.ownsRow_nil _ _ _ _,World.ownsRow_nil _ _ _ _,fun g hg=>by simp [Value.ownBlock] at hg,fun g hg=>by simp [Value.ownBlock] at hg,fun i e he=>by simp at he,fun i e he=>by simp at he,fun k hk=>if_pos hk,(Fr.refl _ _).alloc _,by simp,by simp⟩
set_option maxRecDepth 20000 in
theorem lplayed_any (w:World) (ao:Option Addr) (m cap:Nat) (K Hh A B:Nat → Int) (S:Nat → ByteArray) (last:Int) (h:OpRow w ao m K Hh A B S)
  (HSt:∀ (wr:World) (bd i:Nat),i < m → K i ≤ last → WOkH w wr w.heap.size bd → bd ≤ 2932031007402 → Calls prog 6 #[.pointer (some ⟨w.heap.size,0,none⟩),.agg #[.int .i64 (K i),.int .i64 (Hh i),.int .i64 (A i),.int .i64 (B i),.string (S i)]] wr fun e w'=>e = .returned (.bool true) ∧ WOkH w w' w.heap.size (bd + 1)) :
  CR 4 #[.slice ao m cap,.int .i64 last] w (.bool true):=by
 have hm:=h.hm
 have HS:Hid _:=HSt
 clear HSt
 go_enter func4,ntmps4
 go_wp2_with fail
 refine (lmade_yes w _ w.heap.size _ 0 _ _ [] [] 10 (by omega) (by omega) (world_start w) (by omega)).mono ?_
 rintro e w1 ⟨rfl,hO⟩
 have HO:Hid (WOkH w w1 w.heap.size 1):=hO
 clear hO
 go_wp2_with fail
 go_loopw [7] (fun u wr=>∃ i:Nat,i ≤ m ∧ u = .int .i64 i ∧ WOkH w wr w.heap.size (i + 1)) (fun u _=>m - (intOf u).toNat)
 case atStart=>exact ⟨0,Nat.zero_le _,rfl,HO.out⟩
 case round =>
  obtain ⟨i,hi,rfl,hW⟩:=hrel
  clear HO
  by_cases hlt:i < m
  ·obtain ⟨b,off,rfl⟩:=h.some_ (by omega)
   have hr:=h.no hW.fr
   have c0:=hr.c0 b off i hlt rfl
   have c1:=hr.c1 b off i hlt rfl
   have c2:=hr.c2 b off i hlt rfl
   have c3:=hr.c3 b off i hlt rfl
   have c4:=hr.c4 b off i hlt rfl
   have HW:Hid (WOkH w wr w.heap.size (i + 1)):=hW
   clear hr hW
   by_cases hk:last < K i
   ·have HE:Hid (WOkH w wr w.heap.size (i + 1 + 1)):=by
     obtain ⟨own,hv,lv,hs,ls,hW,hpos⟩:=HW.out
     exact hW.okH (Fr.refl _ _) hpos
    go_wp2
    go_roundw
    case rel=>exact ⟨i + 1,by omega,by go_num,HE.out⟩
    case measure=>simp [intOf];omega
   ·go_wp2_with fail
    refine (HS.out _ (i + 1) i hlt (by omega) HW.out (by omega)).mono ?_
    rintro e w2 ⟨rfl,hO2⟩
    obtain ⟨own,hv,lv,hs,ls,hW2,hpos⟩:=hO2
    have HW2:Hid (WSt w w2 w.heap.size own (i + 1 + 1) hv lv hs ls ∧ 0 < hs.length):=⟨hW2,hpos⟩
    clear hW2 hpos HW c0 c1 c2 c3 c4
    go_wp2_with fail
    refine (llooks_yes w _ w.heap.size own (i + 1 + 1) hv lv hs ls HW2.out.1 (by omega)).mono ?_
    rintro e w3 ⟨rfl,hF3⟩
    have HE:Hid (WOkH w w3 w.heap.size (i + 1 + 1)):=⟨own,hv,lv,hs,ls,HW2.out.1.no hF3,HW2.out.2⟩
    clear hF3
    go_wp2
    go_roundw
    case rel=>exact ⟨i + 1,by omega,by go_num,HE.out⟩
    case measure=>simp [intOf];omega
  ·have HE:Hid (Fr NoB w wr):=hW.fr
   clear hW
   go_wp2
   go_ret
   exact ⟨rfl,HE.out⟩
structure HeapM (w:World) (p r n:Nat) (B V:Nat → Int):Prop where
 lo:1 ≤ n
 hi:n ≤ 4096
 ne:p ≠ r
 ptr:w.cell? ⟨p,30,none⟩ = some (.slice (some ⟨r,0,none⟩) n n)
 blk:∀ i,i < n → w.cell? ⟨r,i * 2,none⟩ = some (.int .i64 (B i))
 val:∀ i,i < n → w.cell? ⟨r,i * 2 + 1,none⟩ = some (.int .i64 (V i))
 frz:∀ o,w.frozen? ⟨r,o,none⟩ = false
 b0:∀ i,i < n → 0 ≤ B i
 b1:∀ i,i < n → B i ≤ i + 1
theorem HeapM.pl {w:World} {p r n:Nat} {B V:Nat → Int} (h:HeapM w p r n B V):p < w.heap.size:=World.block_lt_of_cell? w _ h.ptr
theorem HeapM.rl {w:World} {p r n:Nat} {B V:Nat → Int} (h:HeapM w p r n B V):r < w.heap.size:=World.block_lt_of_cell? w _ (h.blk 0 (by have:=h.lo;omega))
theorem HeapM.fr {S:Nat → Prop} {w w':World} {p r n:Nat} {B V:Nat → Int} (h:HeapM w p r n B V) (hf:Fr S w w') (hp:¬ S p) (hr:¬ S r):HeapM w' p r n B V :=
 ⟨h.lo,h.hi,h.ne,hf.cell_some h.ptr hp,fun i hi=>hf.cell_some (h.blk i hi) hr,fun i hi=>hf.cell_some (h.val i hi) hr,
  fun o=>(hf.frozen (p:=⟨r,o,none⟩) h.rl hr).trans (h.frz o),h.b0,h.b1⟩
theorem HeapM.no {w w':World} {p r n:Nat} {B V:Nat → Int} (h:HeapM w p r n B V) (hf:Fr NoB w w'):HeapM w' p r n B V:=h.fr hf id id
theorem HeapM.congr {w:World} {p r n:Nat} {B V B' V':Nat → Int} (h:HeapM w p r n B V) (hb:∀ i,i < n → B' i = B i) (hv:∀ i,i < n → V' i = V i):HeapM w p r n B' V' :=
 ⟨h.lo,h.hi,h.ne,h.ptr,fun i hi=>by rw [hb i hi];exact h.blk i hi,fun i hi=>by rw [hv i hi];exact h.val i hi,h.frz,
  fun i hi=>by rw [hb i hi];exact h.b0 i hi,fun i hi=>by rw [hb i hi];exact h.b1 i hi⟩
theorem HeapM.setVal {w:World} {p r n:Nat} {B V:Nat → Int} (h:HeapM w p r n B V) {k:Nat} (hk:k < n) (u:Int):HeapM (w.setCell ⟨r,k * 2 + 1,none⟩ (.int .i64 u)) p r n B (upd V k u) :=
 ⟨h.lo,h.hi,h.ne,(cell_other (.inl (Ne.symm h.ne))).trans h.ptr,fun i hi=>(cell_other (.inr (by omega))).trans (h.blk i hi),
  fun i hi=>by
   by_cases e:i = k
   ·subst e;rw [upd_at];exact cell_same (h.val i hi)
   ·rw [upd_ne _ _ e];exact (cell_other (.inr (by omega))).trans (h.val i hi),
  fun o=>by rw [World.frozen?_setCell];exact h.frz o,h.b0,h.b1⟩
theorem HeapM.setBlk {w:World} {p r n:Nat} {B V:Nat → Int} (h:HeapM w p r n B V) {k:Nat} (hk:k < n) (u:Int) (h0:0 ≤ u) (h1:u ≤ k + 1):HeapM (w.setCell ⟨r,k * 2,none⟩ (.int .i64 u)) p r n (upd B k u) V :=
 ⟨h.lo,h.hi,h.ne,(cell_other (.inl (Ne.symm h.ne))).trans h.ptr,
  fun i hi=>by
   by_cases e:i = k
   ·subst e;rw [upd_at];exact cell_same (h.blk i hi)
   ·rw [upd_ne _ _ e];exact (cell_other (.inr (by omega))).trans (h.blk i hi),
  fun i hi=>(cell_other (.inr (by omega))).trans (h.val i hi),
  fun o=>by rw [World.frozen?_setCell];exact h.frz o,
  fun i hi=>by
   by_cases e:i = k
   ·subst e;rw [upd_at];exact h0
   ·rw [upd_ne _ _ e];exact h.b0 i hi,
  fun i hi=>by
   by_cases e:i = k
   ·subst e;rw [upd_at];exact h1
   ·rw [upd_ne _ _ e];exact h.b1 i hi⟩
theorem mtaken_any (w:World) (p r n:Nat) (B V:Nat → Int) (a:Int) (h:HeapM w p r n B V) :
  CS 63 #[.pointer (some ⟨p,30,none⟩),.int .i64 a] w (.bool (takenB B n a)):=by
 have hn:=h.hi
 have hp:=h.ptr
 by_cases h0:0 ≤ a
 ·obtain ⟨k,rfl⟩:=Int.eq_ofNat_of_zero_le h0
  by_cases h1:k < n
  ·have hc:=h.blk k h1
   clear h
   go_enter func63,ntmps63
   go_wp2
   go_ret
   exact ⟨ret_bool (takenB_in h1).symm,rfl⟩
  ·clear h
   go_enter func63,ntmps63
   go_wp2
   go_ret
   exact ⟨ret_bool (takenB_hi h1).symm,rfl⟩
 ·clear h
  go_enter func63,ntmps63
  go_wp2
  go_ret
  exact ⟨ret_bool (takenB_neg (by omega)).symm,rfl⟩
theorem mtaken_in (w:World) (p r n:Nat) (B V:Nat → Int) (k:Nat) (h:HeapM w p r n B V) (hk:k < n) :
  CS 63 #[.pointer (some ⟨p,30,none⟩),.int .i64 k] w (.bool (B k != 0)):=by
 have:=mtaken_any w p r n B V k h
 rwa [takenB_in hk] at this
theorem mload_yes (w:World) (p r n:Nat) (B V:Nat → Int) (k:Nat) (h:HeapM w p r n B V) (hk:k < n) (ht:B k ≠ 0) :
  CS 44 #[.pointer (some ⟨p,30,none⟩),.int .i64 k] w (.tuple #[.int .i64 (V k),.int .i64 0]):=by
 have hn:=h.hi
 have hp:=h.ptr
 have hc:=h.val k hk
 have hb:(B k != 0) = true:=by simpa using ht
 go_enter func44,ntmps44
 go_wp2_with (go_at_call 63;refine (mtaken_in _ p r n B V k h hk).mono ?_;rintro e w' ⟨rfl,rfl⟩;rw [hb])
 go_ret2
 exact ⟨rfl,rfl⟩
theorem mstore_yes (w:World) (p r n:Nat) (B V:Nat → Int) (k:Nat) (u:Int) (h:HeapM w p r n B V) (hk:k < n) (ht:B k ≠ 0) (hu0:0 ≤ u) (hu1:u < 1000) :
  Calls prog 45 #[.pointer (some ⟨p,30,none⟩),.int .i64 k,.int .i64 u] w fun e w'=>e = .returned (.int .i64 0) ∧ w' = w.setCell ⟨r,k * 2 + 1,none⟩ (.int .i64 u):=by
 have hn:=h.hi
 have hp:=h.ptr
 have hc:=h.val k hk
 have hf:=h.frz (k * 2 + 1)
 have hb:(B k != 0) = true:=by simpa using ht
 go_enter func45,ntmps45
 go_wp2_with (go_at_call 63;refine (mtaken_in _ p r n B V k h hk).mono ?_;rintro e w' ⟨rfl,rfl⟩;rw [hb])
 go_ret
 exact ⟨rfl,rfl⟩
theorem mnextRun_any (w:World) (p r n:Nat) (B V:Nat → Int) (f:Nat) (h:HeapM w p r n B V) (hf:f ≤ n) :
  Calls prog 62 #[.pointer (some ⟨p,30,none⟩),.int .i64 f] w fun e w' =>
   ∃ a z:Nat,e = .returned (.agg #[.int .i64 a,.int .i64 ((z:Int) - (a:Int))]) ∧ RunFrom B n f a z ∧ Fr NoB w w':=by
 have hn:=h.hi
 have hpl:=h.pl
 have hp:=h.ptr
 go_enter func62,ntmps62
 go_wp2
 go_loop [5] (fun t=>∃ k:Nat,f ≤ k ∧ k ≤ n ∧ (∀ i,f ≤ i → i < k → B i ≠ 0) ∧ t = .int .i64 k) (fun t=>n - (intOf t).toNat)
 case atStart=>exact ⟨f,Nat.le_refl _,hf,fun i h1 h2=>absurd h2 (by omega),rfl⟩
 case round =>
  obtain ⟨k,hk1,hk2,hk3,rfl⟩:=hrel
  have h1:HeapM (w.alloc (.cells #[.int .i64 0,.int .i64 0] 79)) p r n B V:=h.no ((Fr.refl _ _).alloc _)
  have Hk3:Hid (∀ i,f ≤ i → i < k → B i ≠ 0):=hk3
  clear hk3
  by_cases hgo:k < n ∧ B k ≠ 0
  ·obtain ⟨hlt,hb⟩:=hgo
   have hbb:(B k != 0) = true:=by simpa using hb
   have Hb:Hid (B k ≠ 0):=hb
   clear hb
   go_wp2_with (go_at_call 63;refine (mtaken_in _ p r n B V k h1 hlt).mono ?_;rintro e w' ⟨rfl,rfl⟩;rw [hbb])
   go_round
   case rel=>exact ⟨k + 1,by omega,by omega,grow_ne Hk3.out Hb.out,by go_num⟩
   case measure=>simp [intOf];omega
  ·have Htop:Hid (k = n ∨ B k = 0):=top_of hk2 hgo
   have hbb:k < n → (B k != 0) = false:=fun hlt=>by
    rcases Htop.out with h | h
    ·omega
    ·simpa using h
   clear hgo
   by_cases hlt:k < n
   all_goals
    go_wp2_with (go_at_call 63;refine (mtaken_in _ p r n B V k h1 hlt).mono ?_;rintro e w' ⟨rfl,rfl⟩;rw [hbb hlt])
    go_loop [6] (fun t=>∃ z:Nat,k ≤ z ∧ z ≤ n ∧ (∀ i,k ≤ i → i < z → B i = 0) ∧ t = .int .i64 z) (fun t=>n - (intOf t).toNat)
    case atStart=>exact ⟨k,Nat.le_refl _,hk2,fun i h1 h2=>absurd h2 (by omega),rfl⟩
    case round =>
     obtain ⟨z,hz1,hz2,hz3,rfl⟩:=hrel
     have Hz3:Hid (∀ i,k ≤ i → i < z → B i = 0):=hz3
     clear hz3
     by_cases hgo:z < n ∧ B z = 0
     ·obtain ⟨hzl,hzb⟩:=hgo
      have hbz:(B z != 0) = false:=by simpa using hzb
      have Hzb:Hid (B z = 0):=hzb
      clear hzb
      first
      | (exfalso;omega)
      | (go_wp2_with (go_at_call 63;refine (mtaken_in _ p r n B V z h1 hzl).mono ?_;rintro e w' ⟨rfl,rfl⟩;rw [hbz])
         go_round
         case rel=>exact ⟨z + 1,by omega,by omega,grow_eq Hz3.out Hzb.out,by go_num⟩
         case measure=>simp [intOf];omega)
     ·have Hstop:Hid (z = n ∨ B z ≠ 0):=stop_of hz2 hgo
      have hbz:z < n → (B z != 0) = true:=fun hlt=>by
       rcases Hstop.out with h | h
       ·omega
       ·simpa using h
      clear hgo
      by_cases hzl:z < n
      all_goals
       first
       | (exfalso;omega)
       | (go_wp2_with (go_at_call 63;refine (mtaken_in _ p r n B V z h1 hzl).mono ?_;rintro e w' ⟨rfl,rfl⟩;rw [hbz hzl])
          refine bodyPost_ret (v:=.agg #[.int .i64 k,.int .i64 ((z:Int) - (k:Int))]) (by simp [results,results62,go_sem]) rfl ⟨k,z,rfl,⟨hk1,hz1,hz2,Hk3.out,Hz3.out,Htop.out,Hstop.out⟩,?_⟩
          repeat (first | exact Fr.refl _ _ | refine Fr.setCell ?_ (fun h=>absurd h (Nat.lt_irrefl _)) _ | refine Fr.alloc ?_ _))
theorem malloc_any (w:World) (p r n:Nat) (B V:Nat → Int) (k:Nat) (h:HeapM w p r n B V) (hk1:1 ≤ k) (hk2:k ≤ 64) :
  Calls prog 40 #[.pointer (some ⟨p,30,none⟩),.int .i64 k] w fun e w' =>
   (∃ a:Nat,FreeAt B n k a ∧ (∀ b,FreeAt B n k b → a ≤ b) ∧ e = .returned (.tuple #[.int .i64 a,.int .i64 0]) ∧ HeapM w' p r n (markTo B a (a + k)) V ∧ Fr (OneB r) w w') ∨
   ((∀ b,¬ FreeAt B n k b) ∧ e = .returned (.tuple #[.int .i64 0,.int .i64 6]) ∧ Fr NoB w w'):=by
 have hn:=h.hi
 have hd1:(decide ((k:Int) < 1)) = false:=by simp;omega
 have hd2:(decide ((64:Int) < (k:Int))) = false:=by simp;omega
 go_enter func40,ntmps40
 go_wp2_with fail
 refine (mnextRun_any _ p r n B V 0 h (Nat.zero_le _)).mono ?_
 rintro e w1 ⟨a0,z0,rfl,hr0,hf0⟩
 go_wp2_with fail
 go_loopw [] (fun wr=>∃ f a z:Nat,RunFrom B n f a z ∧ (∀ b,FreeAt B n k b → a ≤ b) ∧ wr.cell? ⟨w1.heap.size,0,none⟩ = some (.int .i64 a) ∧ wr.cell? ⟨w1.heap.size,1,none⟩ = some (.int .i64 ((z:Int) - (a:Int))) ∧
   (∀ o,wr.frozen? ⟨w1.heap.size,o,none⟩ = false) ∧ Fr NoB w wr ∧ w1.heap.size < wr.heap.size)
  (fun wr=>(2 * ((n:Int) - (cellInt wr w1.heap.size 0 + cellInt wr w1.heap.size 1)) + min (cellInt wr w1.heap.size 1) 1).toNat)
 case atStart=>exact ⟨0,a0,z0,hr0,free_first hk1 hr0,by simp,by simp,fun o=>by simp,hf0.alloc _,by simp⟩
 case round =>
  obtain ⟨f,a,z,hr,hfr,hc0,hc1,hfz,hF,hsz⟩:=hrel
  have hae:=hr.ae
  have hen:=hr.en
  have hW:HeapM wr p r n B V:=h.no hF
  have Hfr:Hid (∀ b,FreeAt B n k b → a ≤ b):=hfr
  clear hfr
  by_cases hlen:a < z ∧ z < a + k
  ·obtain ⟨hl1,hl2⟩:=hlen
   go_wp2_with fail
   rw [show (a:Int) + ((z:Int) - (a:Int)) = (z:Int) from by omega]
   refine (mnextRun_any _ p r n B V z hW hen).mono ?_
   rintro e w2 ⟨a',z',rfl,hr',hf'⟩
   have hlat:=next_later hr hr'
   have hR:=free_next hk1 hr hr' hl2 Hfr.out
   have hae':=hr'.ae
   have hen':=hr'.en
   have hc0':=hf'.cell_some hc0 id
   have hc1':=hf'.cell_some hc1 id
   have hfz':∀ o,w2.frozen? ⟨w1.heap.size,o,none⟩ = false:=fun o=>(hf'.frozen (p:=⟨w1.heap.size,o,none⟩) hsz id).trans (hfz o)
   have hfa:=hfz' 0
   have hfb:=hfz' 1
   have HR:Hid (∀ b,FreeAt B n k b → a' ≤ b):=hR
   have HL:Hid (z < z' ∨ (z = n ∧ a' = n ∧ z' = n)):=hlat
   have hs2:=hf'.size
   have hgw:w.heap.size ≤ w1.heap.size:=hf0.size
   clear hR hlat
   go_wp2_with fail
   go_roundw
   case rel =>
    refine ⟨z,a',z',hr',HR.out,(two_set hc0' hc1').1,(two_set hc0' hc1').2,fun o=>by simp [hfz'],?_,by simp;omega⟩
    exact ((hF.trans hf').setCell (fun hlt=>absurd hlt (by simp;omega)) _).setCell (fun hlt=>absurd hlt (by simp;omega)) _
   case measure =>
    have hL:=HL.out
    rw [cellInt_of hc0,cellInt_of hc1,cellInt_of (two_set hc0' hc1').1,cellInt_of (two_set hc0' hc1').2]
    omega
  ·by_cases hz:a = z
   ·have hno:=no_room hk1 hr hz Hfr.out
    have Hno:Hid (∀ b,¬ FreeAt B n k b):=hno
    clear hno hlen
    subst hz
    go_wp2
    go_ret2
    exact .inr ⟨Hno.out,rfl,hF⟩
   ·have hge:a + k ≤ z:=by omega
    have hyes:=has_room hr hge
    have Hyes:Hid (FreeAt B n k a):=hyes
    clear hyes
    clear hlen
    have hlt:a < z:=by omega
    go_wp2_with fail
    have hgw:w.heap.size ≤ w1.heap.size:=hf0.size
    have hrl:=h.rl
    have hne:r ≠ w1.heap.size:=by omega
    go_loopw [7] (fun t wq=>∃ j:Nat,a ≤ j ∧ j ≤ a + k ∧ t = .int .i64 j ∧ HeapM wq p r n (markTo B a j) V ∧ wq.cell? ⟨w1.heap.size,0,none⟩ = some (.int .i64 a) ∧ Fr (OneB r) w wq)
     (fun t _=>a + k - (intOf t).toNat)
    case atStart=>exact ⟨a,Nat.le_refl _,by omega,rfl,hW.congr (markTo_start B a) (fun _ _=>rfl),hc0,hF.of_no⟩
    case round =>
     obtain ⟨j,hj1,hj2,rfl,hq,hcq,hFq⟩:=hrel
     by_cases hlt2:j < a + k
     ·have hjn:j < n:=by omega
      have hqp:=hq.ptr
      have hqb:=hq.blk j hjn
      have hqf:=hq.frz (j * 2)
      have hset:=(hq.setBlk hjn ((a:Int) + 1) (by omega) (by omega)).congr (markTo_step B hj1) (fun _ _=>rfl)
      have hFs:=hFq.setCell (p:=⟨r,j * 2,none⟩) (fun _=>rfl) (.int .i64 ((a:Int) + 1))
      have hcs:(wr.setCell ⟨r,j * 2,none⟩ (.int .i64 ((a:Int) + 1))).cell? ⟨w1.heap.size,0,none⟩ = some (.int .i64 a):=(cell_other (.inl hne)).trans hcq
      have H:Hid (HeapM (wr.setCell ⟨r,j * 2,none⟩ (.int .i64 ((a:Int) + 1))) p r n (markTo B a (j + 1)) V ∧ Fr (OneB r) w (wr.setCell ⟨r,j * 2,none⟩ (.int .i64 ((a:Int) + 1))) ∧ (wr.setCell ⟨r,j * 2,none⟩ (.int .i64 ((a:Int) + 1))).cell? ⟨w1.heap.size,0,none⟩ = some (.int .i64 a)):=⟨hset,hFs,hcs⟩
      clear hset hFs hcs hq hFq
      go_wp2
      go_region
      all_goals
       go_wp2
       go_roundw
       case rel=>exact ⟨j + 1,by omega,by omega,by go_num,H.out.1.no ((Fr.refl _ _).drew),H.out.2.2,H.out.2.1.drew⟩
       case measure=>simp [intOf];omega
     ·have hja:j = a + k:=by omega
      subst hja
      go_wp2
      go_ret2
      exact .inl ⟨a,Hyes.out,Hfr.out,rfl,hq,hFq⟩
theorem mfree_yes (w:World) (p r n:Nat) (B V:Nat → Int) (k:Nat) (h:HeapM w p r n B V) (hk:k < n) (hs:B k = (k:Int) + 1) :
  Calls prog 42 #[.pointer (some ⟨p,30,none⟩),.int .i64 k] w fun e w'=>e = .returned (.int .i64 0) ∧
   ∃ z,k < z ∧ z ≤ n ∧ (∀ i,k ≤ i → i < z → B i = (k:Int) + 1) ∧ (z = n ∨ B z ≠ (k:Int) + 1) ∧ HeapM w' p r n (clearTo B k z) (clearTo V k z) ∧ Fr (OneB r) w w':=by
 have hn:=h.hi
 have hp:=h.ptr
 have hc:=h.blk k hk
 have hb:(B k != 0) = true:=by simp [hs];omega
 have hs':(B k != (k:Int) + 1) = false:=by simpa using hs
 have Hs:Hid (B k = (k:Int) + 1):=hs
 clear hs
 go_enter func42,ntmps42
 go_wp2_with (go_at_call 63;refine (mtaken_in _ p r n B V k h hk).mono ?_;rintro e w' ⟨rfl,hw⟩;have hw2:=hw.symm;clear hw;subst hw2;rw [hb])
 clear hc hp
 go_loopw [5] (fun t wq=>∃ j:Nat,k ≤ j ∧ j ≤ n ∧ t = .int .i64 j ∧ (∀ i,k ≤ i → i < j → B i = (k:Int) + 1) ∧ HeapM wq p r n (clearTo B k j) (clearTo V k j) ∧ Fr (OneB r) w wq)
  (fun t _=>n - (intOf t).toNat)
 case atStart=>exact ⟨k,Nat.le_refl _,by omega,rfl,fun i h1 h2=>absurd h2 (by omega),h.congr (clearTo_start B k) (clearTo_start V k),Fr.refl _ _⟩
 case round =>
  obtain ⟨j,hj1,hj2,rfl,hall,hq,hFq⟩:=hrel
  have Hall:Hid (∀ i,k ≤ i → i < j → B i = (k:Int) + 1):=hall
  clear hall
  by_cases hgo:j < n ∧ B j = (k:Int) + 1
  ·obtain ⟨hjn,hjb⟩:=hgo
   have hqp:=hq.ptr
   have hqb:=hq.blk j hjn
   have hqv:=hq.val j hjn
   have hqf:=hq.frz (j * 2)
   have hqg:=hq.frz (j * 2 + 1)
   rw [clearTo_at] at hqb
   have hjb':(B j == (k:Int) + 1) = true:=by simpa using hjb
   have Hjb:Hid (B j = (k:Int) + 1):=hjb
   clear hjb
   have hset:=((hq.setBlk hjn 0 (by omega) (by omega)).setVal hjn 0).congr (clearTo_step B hj1) (clearTo_step V hj1)
   have hFs:=(hFq.setCell (p:=⟨r,j * 2,none⟩) (fun _=>rfl) (.int .i64 0)).setCell (p:=⟨r,j * 2 + 1,none⟩) (fun _=>rfl) (.int .i64 0)
   have H:Hid (HeapM ((wr.setCell ⟨r,j * 2,none⟩ (.int .i64 0)).setCell ⟨r,j * 2 + 1,none⟩ (.int .i64 0)) p r n (clearTo B k (j + 1)) (clearTo V k (j + 1)) ∧ Fr (OneB r) w ((wr.setCell ⟨r,j * 2,none⟩ (.int .i64 0)).setCell ⟨r,j * 2 + 1,none⟩ (.int .i64 0))):=⟨hset,hFs⟩
   clear hset hFs hq hFq
   go_wp2
   go_roundw
   case rel=>exact ⟨j + 1,by omega,by omega,by go_num,all_step Hall.out Hjb.out,H.out.1,H.out.2⟩
   case measure=>simp [intOf];omega
  ·have Hstop:Hid (j = n ∨ B j ≠ (k:Int) + 1):=stop_at hj2 hgo
   have hkj:k < j:=lt_of_stop hj1 hk Hs.out Hstop.out
   have hqp:=hq.ptr
   have hqb:j < n → wr.cell? ⟨r,j * 2,none⟩ = some (.int .i64 (B j)):=fun hjn=>by have:=hq.blk j hjn;rwa [clearTo_at] at this
   have hjb:j < n → (B j == (k:Int) + 1) = false:=fun hjn=>by
    rcases Hstop.out with h | h
    ·omega
    ·simpa using h
   clear hgo
   by_cases hjn:j < n
   all_goals
    go_wp2
    go_ret
    exact ⟨rfl,j,hkj,hj2,Hall.out,Hstop.out,hq,hFq⟩
end Go.Proofs.YthcjcjfgdgnljabGreatDoor
