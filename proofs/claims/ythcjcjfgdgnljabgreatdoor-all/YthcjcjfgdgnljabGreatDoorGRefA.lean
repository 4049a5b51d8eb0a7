import Derived.Test.YthcjcjfgdgnljabGreatDoorGRuns
import Derived.Deep.QuietTactic
import Derived.BigQuiet
import Derived.Deep.RegionWith
import Derived.Deep.DeepCutAuto
set_option linter.unusedVariables false
set_option maxHeartbeats 4000000
set_option maxRecDepth 8000
open Go.Proofs.Tryz
namespace Go.Proofs.YthcjcjfgdgnljabGreatDoor
open Go.RowKit
def clearTo (f:Nat → Int) (k j:Nat):Nat → Int:=fun i=>if k ≤ i ∧ i < j then 0 else f i
theorem clearTo_start (f:Nat → Int) (k:Nat) {n:Nat}:∀ i,i < n → clearTo f k k i = f i:=fun i _=>by
 unfold clearTo;rw [if_neg (by omega)]
theorem clearTo_step (f:Nat → Int) {k j:Nat} (h:k ≤ j) {n:Nat}:∀ i,i < n → clearTo f k (j + 1) i = upd (clearTo f k j) j 0 i:=fun i _=>by
 unfold clearTo upd
 by_cases e:i = j
 ·subst e;rw [if_pos (by omega),if_pos rfl]
 ·rw [if_neg e]
  by_cases e2:k ≤ i ∧ i < j
  ·rw [if_pos (by omega)];exact (if_pos e2).symm
  ·rw [if_neg (by omega)];exact (if_neg e2).symm
theorem clearTo_at (f:Nat → Int) (k j:Nat):clearTo f k j j = f j:=by unfold clearTo;rw [if_neg (by omega)]
theorem all_step {B:Nat → Int} {k j:Nat} {x:Int} (h:∀ i,k ≤ i → i < j → B i = x) (hj:B j = x):∀ i,k ≤ i → i < j + 1 → B i = x:=fun i h1 h2=>by
 by_cases e:i = j
 ·subst e;exact hj
 ·exact h i h1 (by omega)
theorem stop_at {B:Nat → Int} {j n:Nat} {x:Int} (hj:j ≤ n) (h:¬ (j < n ∧ B j = x)):j = n ∨ B j ≠ x:=by
 by_cases e:B j = x
 ·exact .inl (by have:¬ j < n:=fun hl=>h ⟨hl,e⟩;omega)
 ·exact .inr e
theorem lt_of_stop {B:Nat → Int} {k j n:Nat} {x:Int} (h1:k ≤ j) (hk:k < n) (hb:B k = x) (h:j = n ∨ B j ≠ x):k < j:=by
 rcases h with h | h
 ·omega
 ·by_cases e:k = j
  ·subst e;exact absurd hb h
  ·omega
theorem free_no (w:World) (p r n:Nat) (B V:Nat → Int) (a:Int) (h:HeapAt w p r n B V) (ht:takenB B n a = false) :
  CS 42 #[.pointer (some ⟨p,0,none⟩),.int .i64 a] w (.int .i64 7):=by
 go_enter func42,ntmps42
 go_wp2_with (go_at_call 63;refine (taken_any _ p r n B V a h).mono ?_;rintro e w' ⟨rfl,rfl⟩;rw [ht])
 go_ret
 exact ⟨rfl,rfl⟩
theorem free_mid (w:World) (p r n:Nat) (B V:Nat → Int) (k:Nat) (h:HeapAt w p r n B V) (hk:k < n) (ht:B k ≠ 0) (hs:B k ≠ (k:Int) + 1) :
  CS 42 #[.pointer (some ⟨p,0,none⟩),.int .i64 k] w (.int .i64 7):=by
 have hn:=h.hi
 have hp:=h.ptr
 have hc:=h.blk k hk
 have hb:(B k != 0) = true:=by simpa using ht
 have hs':(B k != (k:Int) + 1) = true:=by simpa using hs
 go_enter func42,ntmps42
 go_wp2_with (go_at_call 63;refine (taken_in _ p r n B V k h hk).mono ?_;rintro e w' ⟨rfl,rfl⟩;rw [hb])
 go_ret
 exact ⟨rfl,rfl⟩
theorem free_yes (w:World) (p r n:Nat) (B V:Nat → Int) (k:Nat) (h:HeapAt w p r n B V) (hk:k < n) (hs:B k = (k:Int) + 1) :
  Calls prog 42 #[.pointer (some ⟨p,0,none⟩),.int .i64 k] w fun e w'=>e = .returned (.int .i64 0) ∧
   ∃ z,k < z ∧ z ≤ n ∧ (∀ i,k ≤ i → i < z → B i = (k:Int) + 1) ∧ (z = n ∨ B z ≠ (k:Int) + 1) ∧ HeapAt w' p r n (clearTo B k z) (clearTo V k z) ∧ Fr (OneB r) w w':=by
 have hn:=h.hi
 have hp:=h.ptr
 have hc:=h.blk k hk
 have hb:(B k != 0) = true:=by simp [hs];omega
 have hs':(B k != (k:Int) + 1) = false:=by simpa using hs
 have Hs:Hid (B k = (k:Int) + 1):=hs
 clear hs
 go_enter func42,ntmps42
 go_wp2_with (go_at_call 63;refine (taken_in _ p r n B V k h hk).mono ?_;rintro e w' ⟨rfl,hw⟩;have hw2:=hw.symm;clear hw;subst hw2;rw [hb])
 clear hc hp
 go_loopw [5] (fun t wq=>∃ j:Nat,k ≤ j ∧ j ≤ n ∧ t = .int .i64 j ∧ (∀ i,k ≤ i → i < j → B i = (k:Int) + 1) ∧ HeapAt wq p r n (clearTo B k j) (clearTo V k j) ∧ Fr (OneB r) w wq)
  (fun t _=>n - (intOf t).toNat)
 case atStart=>exact ⟨k,Nat.le_refl _,by omega,rfl,fun i h1 h2=>absurd h2 (by omega),h.congr (clearTo_start B k) (clearTo_start V k),Fr.refl _ _⟩
 case round =>
  obtain ⟨j,hj1,hj2,rfl,hall,hq,hFq⟩:=hrel
  have Hall:Hid (∀ i,k ≤ i → i < j → B i = (k:Int) + 1):=hall
  clear hall
  by_cases hgo:j < n ∧ B j = (k:Int) + 1
  ·obtain ⟨hjn,hjb⟩:=hgo
   have hqp:=hq.ptr
   have hqb:=hq.blk j hjn
   have hqv:=hq.val j hjn
   have hqf:=hq.frz (j * 2)
   have hqg:=hq.frz (j * 2 + 1)
   rw [clearTo_at] at hqb
   have hjb':(B j == (k:Int) + 1) = true:=by simpa using hjb
   have Hjb:Hid (B j = (k:Int) + 1):=hjb
   clear hjb
   have hset:=((hq.setBlk hjn 0 (by omega) (by omega)).setVal hjn 0).congr (clearTo_step B hj1) (clearTo_step V hj1)
   have hFs:=(hFq.setCell (p:=⟨r,j * 2,none⟩) (fun _=>rfl) (.int .i64 0)).setCell (p:=⟨r,j * 2 + 1,none⟩) (fun _=>rfl) (.int .i64 0)
   have H:Hid (HeapAt ((wr.setCell ⟨r,j * 2,none⟩ (.int .i64 0)).setCell ⟨r,j * 2 + 1,none⟩ (.int .i64 0)) p r n (clearTo B k (j + 1)) (clearTo V k (j + 1)) ∧ Fr (OneB r) w ((wr.setCell ⟨r,j * 2,none⟩ (.int .i64 0)).setCell ⟨r,j * 2 + 1,none⟩ (.int .i64 0))):=⟨hset,hFs⟩
   clear hset hFs hq hFq
   go_wp2
   go_roundw
   case rel=>exact ⟨j + 1,by omega,by omega,by go_num,all_step Hall.out Hjb.out,H.out.1,H.out.2⟩
   case measure=>simp [intOf];omega
  ·have Hstop:Hid (j = n ∨ B j ≠ (k:Int) + 1):=stop_at hj2 hgo
   have hkj:k < j:=lt_of_stop hj1 hk Hs.out Hstop.out
   have hqp:=hq.ptr
   have hqb:j < n → wr.cell? ⟨r,j * 2,none⟩ = some (.int .i64 (B j)):=fun hjn=>by have:=hq.blk j hjn;rwa [clearTo_at] at this
   have hjb:j < n → (B j == (k:Int) + 1) = false:=fun hjn=>by
    rcases Hstop.out with h | h
    ·omega
    ·simpa using h
   clear hgo
   by_cases hjn:j < n
   all_goals
    go_wp2
    go_ret
    exact ⟨rfl,j,hkj,hj2,Hall.out,Hstop.out,hq,hFq⟩
theorem Tryz.infoWord:(prog.info? 107).map (fun i=>(i.zero,i.size,i.bytes)) = some (some (.agg #[.int .i64 0,.int .i64 0]),2,16):=by kernel_rfl
theorem made_two (n j:Nat) (h:j < n):(madeCells #[Value.int .i64 0,Value.int .i64 0] n)[j]? = some (.int .i64 0):=by
 unfold madeCells
 have h2:j % 2 = 0 ∨ j % 2 = 1:=by omega
 rcases h2 with h2 | h2 <;> simp [h,h2]
theorem words_made (n:Nat) (hn:n ≤ 4096):∃ C:Array Value,(∀ j,j < n * 2 → C[j]? = some (.int .i64 0)) ∧
  ∀ u:World,(Instr.makeSlice 51 (.int .i64 n) (.int .i64 n)).run prog u = .ok (.slice (some ⟨u.heap.size,0,none⟩) n n) (u.alloc (.cells C 107)):=by
 obtain ⟨i0,hi,hz0,hz1,hz2⟩:=info_parts Tryz.infoWord
 refine ⟨madeCells #[Value.int .i64 0,Value.int .i64 0] (n * 2),fun j hj=>made_two _ _ hj,fun u=>?_⟩
 have h:=run_make (P:=prog) u 51 107 i0 (.agg #[.int .i64 0,.int .i64 0]) underlying51 hi hz0 .i64 .i64 (n:Int) (n:Int) (by omega) (Int.le_refl _) (by rw [hz2];omega) (by omega)
 simpa [hz1,Value.cells] using h
theorem hnew_no (w:World) (a:Int) (ha:a < 1 ∨ 4096 < a) :
  CR 17 #[.int .i64 a] w (.tuple #[.agg #[.slice none 0 0],.int .i64 5]):=by
 rcases ha with ha | ha
 ·go_enter func17,ntmps17
  go_wp2
  refine bodyPost_ret (v:=.tuple #[.agg #[.slice none 0 0],.int .i64 5]) (by simp [results,results17,go_sem]) rfl ⟨rfl,?_⟩
  repeat (first | exact Fr.refl _ _ | refine Fr.setCell ?_ (fun h=>absurd h (Nat.lt_irrefl _)) _ | refine Fr.alloc ?_ _)
 ·have ha0:¬ a < 1:=by omega
  go_enter func17,ntmps17
  go_wp2
  refine bodyPost_ret (v:=.tuple #[.agg #[.slice none 0 0],.int .i64 5]) (by simp [results,results17,go_sem]) rfl ⟨rfl,?_⟩
  repeat (first | exact Fr.refl _ _ | refine Fr.setCell ?_ (fun h=>absurd h (Nat.lt_irrefl _)) _ | refine Fr.alloc ?_ _)
theorem hnew_yes (w:World) (n:Nat) (h1:1 ≤ n) (h2:n ≤ 4096) :
  Calls prog 17 #[.int .i64 n] w fun e w'=>∃ r,e = .returned (.tuple #[.agg #[.slice (some ⟨r,0,none⟩) n n],.int .i64 0]) ∧ Fr NoB w w' ∧
   w.heap.size ≤ r ∧ r < w'.heap.size ∧ (∀ j,j < n * 2 → w'.cell? ⟨r,j,none⟩ = some (.int .i64 0)) ∧ (∀ o,w'.frozen? ⟨r,o,none⟩ = false):=by
 obtain ⟨C,hC,hmk⟩:=words_made n h2
 have HC:Hid (∀ j,j < n * 2 → C[j]? = some (.int .i64 0)):=hC
 clear hC
 go_enter func17,ntmps17
 go_wp2
 refine bodyPost_ret (v:=.tuple #[.agg #[.slice (some ⟨w.heap.size + 1,0,none⟩) n n],.int .i64 0]) (by simp [results,results17,go_sem]) rfl ⟨w.heap.size + 1,rfl,?_,by omega,by simp,?_,?_⟩
 ·repeat (first | exact Fr.refl _ _ | refine Fr.setCell ?_ (fun h=>absurd h (Nat.lt_irrefl _)) _ | refine Fr.alloc ?_ _)
 ·intro j hj
  rw [World.cell?_alloc_at _ _ _ _ (by simp)]
  exact HC.out j hj
 ·intro o
  rw [World.frozen?_alloc_at _ _ _ _ (by simp)]
theorem new_no (w:World) (a:Int) (ha:a < 1 ∨ 4096 < a) :
  CR 8 #[.int .i64 a] w (.tuple #[.pointer none,.int .i64 5]):=by
 go_enter func8,ntmps8
 go_wp2_with (go_at_call 17;refine (hnew_no _ a ha).mono ?_;rintro e w1 ⟨rfl,hf⟩)
 go_ret2
 refine ⟨rfl,?_⟩
 repeat (first | exact hf | refine Fr.setCell ?_ (fun h=>absurd h (by have:=hf.size;simp;omega)) _ | refine Fr.alloc ?_ _)
theorem new_yes (w:World) (n:Nat) (h1:1 ≤ n) (h2:n ≤ 4096) :
  Calls prog 8 #[.int .i64 n] w fun e w'=>∃ p r,e = .returned (.tuple #[.pointer (some ⟨p,0,none⟩),.int .i64 0]) ∧ Fr NoB w w' ∧
   w.heap.size ≤ p ∧ w.heap.size ≤ r ∧ HeapAt w' p r n (fun _=>0) (fun _=>0):=by
 go_enter func8,ntmps8
 go_wp2_with fail
 refine (hnew_yes _ n h1 h2).mono ?_
 rintro e w1 ⟨r,rfl,hf,hr1,hr2,hc,hz⟩
 have Hc:Hid (∀ j,j < n * 2 → w1.cell? ⟨r,j,none⟩ = some (.int .i64 0)):=hc
 have Hz:Hid (∀ o,w1.frozen? ⟨r,o,none⟩ = false):=hz
 clear hc hz
 go_wp2
 go_ret2
 have hs:=hf.size
 refine ⟨w1.heap.size + 1,r,rfl,(hf.alloc _).alloc _,by omega,hr1,?_⟩
 have hkeep:Fr NoB w1 ((w1.alloc (Obj.cells #[Value.slice (some { block:=r,off:=0 }) n n] 53)).alloc (Obj.cells #[Value.slice (some { block:=r,off:=0 }) n n] 57)):=((Fr.refl _ _).alloc _).alloc _
 refine ⟨h1,h2,by omega,?_,?_,?_,?_,fun _ _=>Int.le_refl _,fun i _=>by omega⟩
 ·rw [World.cell?_alloc_at _ _ _ _ (by simp)];rfl
 ·intro i hi;exact hkeep.cell_some (Hc.out (i * 2) (by omega)) id
 ·intro i hi;exact hkeep.cell_some (Hc.out (i * 2 + 1) (by omega)) id
 ·intro o;exact (hkeep.frozen (p:=⟨r,o,none⟩) hr2 id).trans (Hz.out o)
theorem sload_no (w:World) (p r n:Nat) (B V:Nat → Int) (a:Int) (h:HeapAt w p r n B V) (ht:takenB B n a = false) :
  CS 25 #[.pointer (some ⟨p,0,none⟩),.int .i64 a] w (.tuple #[.int .i64 0,.int .i64 7]):=by
 have hp:=h.ptr
 go_enter func25,ntmps25
 go_wp2_with (go_at_call 44;refine (load_no _ p r n B V a h ht).mono ?_;rintro e w' ⟨rfl,rfl⟩)
 go_ret2
 exact ⟨rfl,rfl⟩
theorem sload_yes (w:World) (p r n:Nat) (B V:Nat → Int) (k:Nat) (h:HeapAt w p r n B V) (hk:k < n) (ht:B k ≠ 0) :
  CS 25 #[.pointer (some ⟨p,0,none⟩),.int .i64 k] w (.tuple #[.int .i64 (V k),.int .i64 0]):=by
 have hp:=h.ptr
 go_enter func25,ntmps25
 go_wp2_with (go_at_call 44;refine (load_yes _ p r n B V k h hk ht).mono ?_;rintro e w' ⟨rfl,rfl⟩)
 go_ret2
 exact ⟨rfl,rfl⟩
theorem sstore_no (w:World) (p r n:Nat) (B V:Nat → Int) (a u:Int) (h:HeapAt w p r n B V) (ht:takenB B n a = false) :
  CS 27 #[.pointer (some ⟨p,0,none⟩),.int .i64 a,.int .i64 u] w (.int .i64 7):=by
 have hp:=h.ptr
 go_enter func27,ntmps27
 go_wp2_with (go_at_call 45;refine (store_no _ p r n B V a u h ht).mono ?_;rintro e w' ⟨rfl,rfl⟩)
 go_ret
 exact ⟨rfl,rfl⟩
theorem sstore_arg (w:World) (p r n:Nat) (B V:Nat → Int) (k:Nat) (u:Int) (h:HeapAt w p r n B V) (hk:k < n) (ht:B k ≠ 0) (hu:u < 0 ∨ 1000 ≤ u) :
  CS 27 #[.pointer (some ⟨p,0,none⟩),.int .i64 k,.int .i64 u] w (.int .i64 5):=by
 have hp:=h.ptr
 go_enter func27,ntmps27
 go_wp2_with (go_at_call 45;refine (store_arg _ p r n B V k u h hk ht hu).mono ?_;rintro e w' ⟨rfl,rfl⟩)
 go_ret
 exact ⟨rfl,rfl⟩
theorem sstore_yes (w:World) (p r n:Nat) (B V:Nat → Int) (k:Nat) (u:Int) (h:HeapAt w p r n B V) (hk:k < n) (ht:B k ≠ 0) (hu0:0 ≤ u) (hu1:u < 1000) :
  Calls prog 27 #[.pointer (some ⟨p,0,none⟩),.int .i64 k,.int .i64 u] w fun e w'=>e = .returned (.int .i64 0) ∧ HeapAt w' p r n B (upd V k u) ∧ Fr (OneB r) w w':=by
 have hp:=h.ptr
 have H:Hid (HeapAt (w.setCell ⟨r,k * 2 + 1,none⟩ (.int .i64 u)) p r n B (upd V k u) ∧ Fr (OneB r) w (w.setCell ⟨r,k * 2 + 1,none⟩ (.int .i64 u))):=⟨h.setVal hk u,(Fr.refl (OneB r) w).setCell (p:=⟨r,k * 2 + 1,none⟩) (fun _=>rfl) _⟩
 go_enter func27,ntmps27
 go_wp2_with (go_at_call 45;refine (store_yes _ p r n B V k u h hk ht hu0 hu1).mono ?_;rintro e w' ⟨rfl,rfl⟩)
 go_ret
 exact ⟨rfl,H.out⟩
theorem sfree_no (w:World) (p r n:Nat) (B V:Nat → Int) (a:Int) (h:HeapAt w p r n B V) (ht:takenB B n a = false) :
  CS 23 #[.pointer (some ⟨p,0,none⟩),.int .i64 a] w (.int .i64 7):=by
 have hp:=h.ptr
 go_enter func23,ntmps23
 go_wp2_with (go_at_call 42;refine (free_no _ p r n B V a h ht).mono ?_;rintro e w' ⟨rfl,rfl⟩)
 go_ret
 exact ⟨rfl,rfl⟩
theorem sfree_mid (w:World) (p r n:Nat) (B V:Nat → Int) (k:Nat) (h:HeapAt w p r n B V) (hk:k < n) (ht:B k ≠ 0) (hs:B k ≠ (k:Int) + 1) :
  CS 23 #[.pointer (some ⟨p,0,none⟩),.int .i64 k] w (.int .i64 7):=by
 have hp:=h.ptr
 go_enter func23,ntmps23
 go_wp2_with (go_at_call 42;refine (free_mid _ p r n B V k h hk ht hs).mono ?_;rintro e w' ⟨rfl,rfl⟩)
 go_ret
 exact ⟨rfl,rfl⟩
theorem sfree_yes (w:World) (p r n:Nat) (B V:Nat → Int) (k:Nat) (h:HeapAt w p r n B V) (hk:k < n) (hs:B k = (k:Int) + 1) :
  Calls prog 23 #[.pointer (some ⟨p,0,none⟩),.int .i64 k] w fun e w'=>e = .returned (.int .i64 0) ∧
   ∃ z,k < z ∧ z ≤ n ∧ (∀ i,k ≤ i → i < z → B i = (k:Int) + 1) ∧ (z = n ∨ B z ≠ (k:Int) + 1) ∧ HeapAt w' p r n (clearTo B k z) (clearTo V k z) ∧ Fr (OneB r) w w':=by
 have hp:=h.ptr
 have Hs:Hid (B k = (k:Int) + 1):=hs
 clear hs
 go_enter func23,ntmps23
 go_wp2_with fail
 refine (free_yes _ p r n B V k h hk Hs.out).mono ?_
 rintro e w' ⟨rfl,hq⟩
 have Hq:=show Hid (∃ z,k < z ∧ z ≤ n ∧ (∀ i,k ≤ i → i < z → B i = (k:Int) + 1) ∧ (z = n ∨ B z ≠ (k:Int) + 1) ∧ HeapAt w' p r n (clearTo B k z) (clearTo V k z) ∧ Fr (OneB r) w w') from hq
 clear hq
 go_wp2
 go_ret
 exact ⟨rfl,Hq.out⟩
theorem salloc_arg (w:World) (p r n:Nat) (B V:Nat → Int) (k:Int) (h:HeapAt w p r n B V) (hk:k < 1 ∨ 64 < k) :
  CS 21 #[.pointer (some ⟨p,0,none⟩),.int .i64 k] w (.tuple #[.int .i64 0,.int .i64 5]):=by
 have hp:=h.ptr
 go_enter func21,ntmps21
 go_wp2_with (go_at_call 40;refine (alloc_arg _ p k hk).mono ?_;rintro e w' ⟨rfl,rfl⟩)
 go_ret2
 exact ⟨rfl,rfl⟩
theorem salloc_any (w:World) (p r n:Nat) (B V:Nat → Int) (k:Nat) (h:HeapAt w p r n B V) (hk1:1 ≤ k) (hk2:k ≤ 64) :
  Calls prog 21 #[.pointer (some ⟨p,0,none⟩),.int .i64 k] w fun e w' =>
   (∃ a:Nat,FreeAt B n k a ∧ (∀ b,FreeAt B n k b → a ≤ b) ∧ e = .returned (.tuple #[.int .i64 a,.int .i64 0]) ∧ HeapAt w' p r n (markTo B a (a + k)) V ∧ Fr (OneB r) w w') ∨
   ((∀ b,¬ FreeAt B n k b) ∧ e = .returned (.tuple #[.int .i64 0,.int .i64 6]) ∧ Fr NoB w w'):=by
 have hp:=h.ptr
 go_enter func21,ntmps21
 go_wp2_with fail
 refine (alloc_any _ p r n B V k h hk1 hk2).mono ?_
 intro e w' hq
 rcases hq with ⟨a,h1,h2,rfl,h4,h5⟩ | ⟨h1,rfl,h3⟩
 ·have H:Hid (FreeAt B n k a ∧ (∀ b,FreeAt B n k b → a ≤ b) ∧ HeapAt w' p r n (markTo B a (a + k)) V ∧ Fr (OneB r) w w'):=⟨h1,h2,h4,h5⟩
  clear h1 h2 h4 h5
  go_wp2
  go_ret2
  exact .inl ⟨a,H.out.1,H.out.2.1,rfl,H.out.2.2⟩
 ·have H:Hid ((∀ b,¬ FreeAt B n k b) ∧ Fr NoB w w'):=⟨h1,h3⟩
  clear h1 h3
  go_wp2
  go_ret2
  exact .inr ⟨H.out.1,rfl,H.out.2⟩
theorem sruns_any (w:World) (p r n:Nat) (B V:Nat → Int) (h:HeapAt w p r n B V) :
  Calls prog 46 #[.pointer (some ⟨p,0,none⟩)] w fun e w' =>
   ∃ v L,e = .returned v ∧ IsRuns B n 0 L ∧ w'.ownsRow w.heap.size 79 2 v L.length (spanCells L) ∧ Fr NoB w w':=by
 have hp:=h.ptr
 go_enter func46,ntmps46
 go_wp2_with fail
 refine (runs_any _ p r n B V h).mono ?_
 rintro e w' ⟨v,L,rfl,h2,h3,h4⟩
 have H:Hid (IsRuns B n 0 L ∧ w'.ownsRow w.heap.size 79 2 v L.length (spanCells L) ∧ Fr NoB w w'):=⟨h2,h3,h4⟩
 clear h2 h3 h4
 go_wp2
 go_ret
 exact ⟨v,L,rfl,H.out⟩
structure RefAt (w:World) (q ri rh n:Nat) (I H:Nat → Int) (md:Int):Prop where
 lo:1 ≤ n
 hi:n ≤ 4096
 qi:q ≠ ri
 qh:q ≠ rh
 ih:ri ≠ rh
 c0:w.cell? ⟨q,0,none⟩ = some (.slice (some ⟨ri,0,none⟩) n n)
 c1:w.cell? ⟨q,1,none⟩ = some (.slice (some ⟨rh,0,none⟩) n n)
 c2:w.cell? ⟨q,2,none⟩ = some (.int .i64 md)
 ci:∀ i,i < n → w.cell? ⟨ri,i,none⟩ = some (.int .i64 (I i))
 ch:∀ i,i < n → w.cell? ⟨rh,i,none⟩ = some (.int .i64 (H i))
 fq:∀ o,w.frozen? ⟨q,o,none⟩ = false
 fi:∀ o,w.frozen? ⟨ri,o,none⟩ = false
 fh:∀ o,w.frozen? ⟨rh,o,none⟩ = false
def RefS (q ri rh:Nat):Nat → Prop:=fun k=>k = q ∨ k = ri ∨ k = rh
theorem RefAt.ql {w:World} {q ri rh n:Nat} {I H:Nat → Int} {md:Int} (h:RefAt w q ri rh n I H md):q < w.heap.size:=World.block_lt_of_cell? w _ h.c0
theorem RefAt.il {w:World} {q ri rh n:Nat} {I H:Nat → Int} {md:Int} (h:RefAt w q ri rh n I H md):ri < w.heap.size:=World.block_lt_of_cell? w _ (h.ci 0 (by have:=h.lo;omega))
theorem RefAt.hl {w:World} {q ri rh n:Nat} {I H:Nat → Int} {md:Int} (h:RefAt w q ri rh n I H md):rh < w.heap.size:=World.block_lt_of_cell? w _ (h.ch 0 (by have:=h.lo;omega))
theorem RefAt.fr {S:Nat → Prop} {w w':World} {q ri rh n:Nat} {I H:Nat → Int} {md:Int} (h:RefAt w q ri rh n I H md) (hf:Fr S w w') (h1:¬ S q) (h2:¬ S ri) (h3:¬ S rh):RefAt w' q ri rh n I H md :=
 ⟨h.lo,h.hi,h.qi,h.qh,h.ih,hf.cell_some h.c0 h1,hf.cell_some h.c1 h1,hf.cell_some h.c2 h1,fun i hi=>hf.cell_some (h.ci i hi) h2,fun i hi=>hf.cell_some (h.ch i hi) h3,
  fun o=>(hf.frozen (p:=⟨q,o,none⟩) h.ql h1).trans (h.fq o),fun o=>(hf.frozen (p:=⟨ri,o,none⟩) h.il h2).trans (h.fi o),fun o=>(hf.frozen (p:=⟨rh,o,none⟩) h.hl h3).trans (h.fh o)⟩
theorem RefAt.no {w w':World} {q ri rh n:Nat} {I H:Nat → Int} {md:Int} (h:RefAt w q ri rh n I H md) (hf:Fr NoB w w'):RefAt w' q ri rh n I H md:=h.fr hf id id id
theorem RefAt.congr {w:World} {q ri rh n:Nat} {I H I' H':Nat → Int} {md:Int} (h:RefAt w q ri rh n I H md) (hi:∀ i,i < n → I' i = I i) (hh:∀ i,i < n → H' i = H i):RefAt w q ri rh n I' H' md :=
 ⟨h.lo,h.hi,h.qi,h.qh,h.ih,h.c0,h.c1,h.c2,fun i hl=>by rw [hi i hl];exact h.ci i hl,fun i hl=>by rw [hh i hl];exact h.ch i hl,h.fq,h.fi,h.fh⟩
theorem RefAt.setI {w:World} {q ri rh n:Nat} {I H:Nat → Int} {md:Int} (h:RefAt w q ri rh n I H md) {k:Nat} (hk:k < n) (u:Int):RefAt (w.setCell ⟨ri,k,none⟩ (.int .i64 u)) q ri rh n (upd I k u) H md :=
 ⟨h.lo,h.hi,h.qi,h.qh,h.ih,(cell_other (.inl (Ne.symm h.qi))).trans h.c0,(cell_other (.inl (Ne.symm h.qi))).trans h.c1,(cell_other (.inl (Ne.symm h.qi))).trans h.c2,
  fun i hi=>by
   by_cases e:i = k
   ·subst e;rw [upd_at];exact cell_same (h.ci i hi)
   ·rw [upd_ne _ _ e];exact (cell_other (.inr (by omega))).trans (h.ci i hi),
  fun i hi=>(cell_other (.inl h.ih)).trans (h.ch i hi),
  fun o=>by rw [World.frozen?_setCell];exact h.fq o,fun o=>by rw [World.frozen?_setCell];exact h.fi o,fun o=>by rw [World.frozen?_setCell];exact h.fh o⟩
theorem RefAt.setH {w:World} {q ri rh n:Nat} {I H:Nat → Int} {md:Int} (h:RefAt w q ri rh n I H md) {k:Nat} (hk:k < n) (u:Int):RefAt (w.setCell ⟨rh,k,none⟩ (.int .i64 u)) q ri rh n I (upd H k u) md :=
 ⟨h.lo,h.hi,h.qi,h.qh,h.ih,(cell_other (.inl (Ne.symm h.qh))).trans h.c0,(cell_other (.inl (Ne.symm h.qh))).trans h.c1,(cell_other (.inl (Ne.symm h.qh))).trans h.c2,
  fun i hi=>(cell_other (.inl (Ne.symm h.ih))).trans (h.ci i hi),
  fun i hi=>by
   by_cases e:i = k
   ·subst e;rw [upd_at];exact cell_same (h.ch i hi)
   ·rw [upd_ne _ _ e];exact (cell_other (.inr (by omega))).trans (h.ch i hi),
  fun o=>by rw [World.frozen?_setCell];exact h.fq o,fun o=>by rw [World.frozen?_setCell];exact h.fi o,fun o=>by rw [World.frozen?_setCell];exact h.fh o⟩
theorem RefAt.setM {w:World} {q ri rh n:Nat} {I H:Nat → Int} {md:Int} (h:RefAt w q ri rh n I H md) (u:Int):RefAt (w.setCell ⟨q,2,none⟩ (.int .i64 u)) q ri rh n I H u :=
 ⟨h.lo,h.hi,h.qi,h.qh,h.ih,(cell_other (.inr (by omega))).trans h.c0,(cell_other (.inr (by omega))).trans h.c1,cell_same h.c2,
  fun i hi=>(cell_other (.inl h.qi)).trans (h.ci i hi),fun i hi=>(cell_other (.inl h.qh)).trans (h.ch i hi),
  fun o=>by rw [World.frozen?_setCell];exact h.fq o,fun o=>by rw [World.frozen?_setCell];exact h.fi o,fun o=>by rw [World.frozen?_setCell];exact h.fh o⟩
theorem rtaken_any (w:World) (q ri rh n:Nat) (I H:Nat → Int) (md a:Int) (h:RefAt w q ri rh n I H md) :
  CS 43 #[.pointer (some ⟨q,0,none⟩),.int .i64 a] w (.bool (takenB I n a)):=by
 have hn:=h.hi
 have hp:=h.c0
 by_cases h0:0 ≤ a
 ·obtain ⟨k,rfl⟩:=Int.eq_ofNat_of_zero_le h0
  by_cases h1:k < n
  ·have hc:=h.ci k h1
   clear h
   go_enter func43,ntmps43
   go_wp2
   go_ret
   exact ⟨ret_bool (takenB_in h1).symm,rfl⟩
  ·clear h
   go_enter func43,ntmps43
   go_wp2
   go_ret
   exact ⟨ret_bool (takenB_hi h1).symm,rfl⟩
 ·clear h
  go_enter func43,ntmps43
  go_wp2
  go_ret
  exact ⟨ret_bool (takenB_neg (by omega)).symm,rfl⟩
theorem rtaken_in (w:World) (q ri rh n:Nat) (I H:Nat → Int) (md:Int) (k:Nat) (h:RefAt w q ri rh n I H md) (hk:k < n) :
  CS 43 #[.pointer (some ⟨q,0,none⟩),.int .i64 k] w (.bool (I k != 0)):=by
 have:=rtaken_any w q ri rh n I H md k h
 rwa [takenB_in hk] at this
theorem rload_no (w:World) (q ri rh n:Nat) (I H:Nat → Int) (md a:Int) (h:RefAt w q ri rh n I H md) (ht:takenB I n a = false) :
  CS 26 #[.pointer (some ⟨q,0,none⟩),.int .i64 a] w (.tuple #[.int .i64 0,.int .i64 7]):=by
 go_enter func26,ntmps26
 go_wp2_with (go_at_call 43;refine (rtaken_any _ q ri rh n I H md a h).mono ?_;rintro e w' ⟨rfl,rfl⟩;rw [ht])
 go_ret2
 exact ⟨rfl,rfl⟩
theorem rload_yes (w:World) (q ri rh n:Nat) (I H:Nat → Int) (md:Int) (k:Nat) (h:RefAt w q ri rh n I H md) (hk:k < n) (ht:I k ≠ 0) :
  CS 26 #[.pointer (some ⟨q,0,none⟩),.int .i64 k] w (.tuple #[.int .i64 (H k),.int .i64 0]):=by
 have hn:=h.hi
 have hp:=h.c1
 have hc:=h.ch k hk
 have hb:(I k != 0) = true:=by simpa using ht
 go_enter func26,ntmps26
 go_wp2_with (go_at_call 43;refine (rtaken_in _ q ri rh n I H md k h hk).mono ?_;rintro e w' ⟨rfl,rfl⟩;rw [hb])
 go_ret2
 exact ⟨rfl,rfl⟩
theorem rstore_no (w:World) (q ri rh n:Nat) (I H:Nat → Int) (md a u:Int) (h:RefAt w q ri rh n I H md) (ht:takenB I n a = false) :
  CS 28 #[.pointer (some ⟨q,0,none⟩),.int .i64 a,.int .i64 u] w (.int .i64 7):=by
 go_enter func28,ntmps28
 go_wp2_with (go_at_call 43;refine (rtaken_any _ q ri rh n I H md a h).mono ?_;rintro e w' ⟨rfl,rfl⟩;rw [ht])
 go_ret
 exact ⟨rfl,rfl⟩
theorem rstore_arg (w:World) (q ri rh n:Nat) (I H:Nat → Int) (md:Int) (k:Nat) (u:Int) (h:RefAt w q ri rh n I H md) (hk:k < n) (ht:I k ≠ 0) (hu:u < 0 ∨ 1000 ≤ u) :
  CS 28 #[.pointer (some ⟨q,0,none⟩),.int .i64 k,.int .i64 u] w (.int .i64 5):=by
 have hb:(I k != 0) = true:=by simpa using ht
 rcases hu with hu | hu
 ·go_enter func28,ntmps28
  go_wp2_with (go_at_call 43;refine (rtaken_in _ q ri rh n I H md k h hk).mono ?_;rintro e w' ⟨rfl,rfl⟩;rw [hb])
  go_ret
  exact ⟨rfl,rfl⟩
 ·have hu0:¬ u < 0:=by omega
  go_enter func28,ntmps28
  go_wp2_with (go_at_call 43;refine (rtaken_in _ q ri rh n I H md k h hk).mono ?_;rintro e w' ⟨rfl,rfl⟩;rw [hb])
  go_ret
  exact ⟨rfl,rfl⟩
theorem rstore_yes (w:World) (q ri rh n:Nat) (I H:Nat → Int) (md:Int) (k:Nat) (u:Int) (h:RefAt w q ri rh n I H md) (hk:k < n) (ht:I k ≠ 0) (hu0:0 ≤ u) (hu1:u < 1000) :
  Calls prog 28 #[.pointer (some ⟨q,0,none⟩),.int .i64 k,.int .i64 u] w fun e w'=>e = .returned (.int .i64 0) ∧ RefAt w' q ri rh n I (upd H k u) md ∧ Fr (RefS q ri rh) w w':=by
 have hn:=h.hi
 have hp:=h.c1
 have hc:=h.ch k hk
 have hf:=h.fh k
 have hb:(I k != 0) = true:=by simpa using ht
 have HE:Hid (RefAt (w.setCell ⟨rh,k,none⟩ (.int .i64 u)) q ri rh n I (upd H k u) md ∧ Fr (RefS q ri rh) w (w.setCell ⟨rh,k,none⟩ (.int .i64 u))) :=
  ⟨h.setH hk u,(Fr.refl (RefS q ri rh) w).setCell (p:=⟨rh,k,none⟩) (fun _=>.inr (.inr rfl)) _⟩
 go_enter func28,ntmps28
 go_wp2_with (go_at_call 43;refine (rtaken_in _ q ri rh n I H md k h hk).mono ?_;rintro e w' ⟨rfl,rfl⟩;rw [hb])
 go_ret
 exact ⟨rfl,HE.out⟩
theorem rfree_any (w:World) (q ri rh n:Nat) (I H:Nat → Int) (md:Int) (a k:Nat) (h:RefAt w q ri rh n I H md) (hak:a + k ≤ n) :
  Calls prog 41 #[.pointer (some ⟨q,0,none⟩),.int .i64 a,.int .i64 k] w fun e w'=>Says (FreeAt I n k a) e ∧ w' = w:=by
 have hn:=h.hi
 have hp:=h.c0
 go_enter func41,ntmps41
 go_wp2
 go_loop [7] (fun t=>∃ i:Nat,a ≤ i ∧ i ≤ a + k ∧ t = .int .i64 i ∧ (∀ j,a ≤ j → j < i → I j = 0)) (fun t=>a + k - (intOf t).toNat)
 case atStart=>exact ⟨a,Nat.le_refl _,by omega,rfl,fun j h1 h2=>absurd h2 (by omega)⟩
 case round =>
  obtain ⟨i,hi1,hi2,rfl,hall⟩:=hrel
  have Hall:Hid (∀ j,a ≤ j → j < i → I j = 0):=hall
  clear hall
  by_cases hlt:i < a + k
  ·have hc:=h.ci i (by omega)
   by_cases hz:I i = 0
   ·have hzb:(I i != 0) = false:=by simpa using hz
    have Hz:Hid (I i = 0):=hz
    clear hz
    go_wp2
    go_round
    case rel=>exact ⟨i + 1,by omega,by omega,by go_num,grow_eq Hall.out Hz.out⟩
    case measure=>simp [intOf];omega
   ·have hzb:(I i != 0) = true:=by simpa using hz
    have Hz:Hid (I i ≠ 0):=hz
    clear hz
    go_wp2
    go_ret
    exact ⟨⟨false,rfl,⟨fun e=>absurd e (by simp),fun e=>absurd (e.2 i hi1 hlt) Hz.out⟩⟩,rfl⟩
  ·have hie:i = a + k:=by omega
   subst hie
   go_wp2
   go_ret
   exact ⟨⟨true,rfl,⟨fun _=>⟨hak,Hall.out⟩,fun _=>rfl⟩⟩,rfl⟩
theorem ralloc_arg (w:World) (p:Nat) (k:Int) (hk:k < 1 ∨ 64 < k) :
  CS 22 #[.pointer (some ⟨p,0,none⟩),.int .i64 k] w (.tuple #[.int .i64 0,.int .i64 5]):=by
 rcases hk with hk | hk
 ·go_enter func22,ntmps22
  go_wp2
  go_ret2
  exact ⟨rfl,rfl⟩
 ·have hk0:¬ k < 1:=by omega
  go_enter func22,ntmps22
  go_wp2
  go_ret2
  exact ⟨rfl,rfl⟩
def setTo (f:Nat → Int) (a j:Nat) (v:Int):Nat → Int:=fun i=>if a ≤ i ∧ i < j then v else f i
theorem setTo_start (f:Nat → Int) (a:Nat) (v:Int) {n:Nat}:∀ i,i < n → setTo f a a v i = f i:=fun i _=>by
 unfold setTo;rw [if_neg (by omega)]
theorem setTo_step (f:Nat → Int) {a j:Nat} (v:Int) (h:a ≤ j) {n:Nat}:∀ i,i < n → setTo f a (j + 1) v i = upd (setTo f a j v) j v i:=fun i _=>by
 unfold setTo upd
 by_cases e:i = j
 ·subst e;rw [if_pos (by omega),if_pos rfl]
 ·rw [if_neg e]
  by_cases e2:a ≤ i ∧ i < j
  ·rw [if_pos (by omega)];exact (if_pos e2).symm
  ·rw [if_neg (by omega)];exact (if_neg e2).symm
theorem ralloc_any (w:World) (q ri rh n:Nat) (I H:Nat → Int) (md:Int) (k:Nat) (h:RefAt w q ri rh n I H md) (hk1:1 ≤ k) (hk2:k ≤ 64) (hmd0:0 ≤ md) (hmd:md < 9223372036854775807) :
  Calls prog 22 #[.pointer (some ⟨q,0,none⟩),.int .i64 k] w fun e w' =>
   (∃ a:Nat,FreeAt I n k a ∧ (∀ b,FreeAt I n k b → a ≤ b) ∧ e = .returned (.tuple #[.int .i64 a,.int .i64 0]) ∧ RefAt w' q ri rh n (setTo I a (a + k) (md + 1)) (setTo H a (a + k) 0) (md + 1) ∧ Fr (RefS q ri rh) w w') ∨
   ((∀ b,¬ FreeAt I n k b) ∧ e = .returned (.tuple #[.int .i64 0,.int .i64 6]) ∧ w' = w):=by
 have hn:=h.hi
 have hp:=h.c0
 have hd1:(decide ((k:Int) < 1)) = false:=by simp;omega
 have hd2:(decide ((64:Int) < (k:Int))) = false:=by simp;omega
 go_enter func22,ntmps22
 go_wp2_with fail
 go_loop [6] (fun t=>∃ a:Nat,a ≤ n + 1 ∧ t = .int .i64 a ∧ (∀ b,FreeAt I n k b → a ≤ b)) (fun t=>n + 1 - (intOf t).toNat)
 case atStart=>exact ⟨0,Nat.zero_le _,rfl,fun b _=>Nat.zero_le _⟩
 case round =>
  obtain ⟨a,ha,rfl,hmin⟩:=hrel
  have Hmin:Hid (∀ b,FreeAt I n k b → a ≤ b):=hmin
  clear hmin
  by_cases hlt:a + k ≤ n
  ·have hdl:decide ((a:Int) + (k:Int) ≤ (n:Int)) = true:=by simp;omega
   go_wp2_with fail
   refine (rfree_any _ q ri rh n I H md a k h hlt).mono ?_
   rintro e w2 ⟨⟨b,rfl,hb⟩,hw2⟩
   have hw2':=hw2.symm
   clear hw2
   subst hw2'
   cases b
   ·have hno:∀ b,FreeAt I n k b → a + 1 ≤ b:=fun b hb2=>by
     have h1:=Hmin.out b hb2
     by_cases e:b = a
     ·subst e;exact absurd (hb.2 hb2) (by simp)
     ·omega
    have Hno:Hid (∀ b,FreeAt I n k b → a + 1 ≤ b):=hno
    clear hno hb
    go_wp2_with fail
    go_round
    case rel=>exact ⟨a + 1,by omega,by go_num,Hno.out⟩
    case measure=>simp [intOf];omega
   ·have Hyes:Hid (FreeAt I n k a):=hb.1 rfl
    clear hb
    have hcm:=h.c2
    have hfm:=h.fq 2
    go_wp2_with fail
    go_loopw [8] (fun t wq=>∃ j:Nat,a ≤ j ∧ j ≤ a + k ∧ t = .int .i64 j ∧ RefAt wq q ri rh n (setTo I a j (md + 1)) (setTo H a j 0) (md + 1) ∧ Fr (RefS q ri rh) w wq) (fun t _=>a + k - (intOf t).toNat)
    case atStart=>exact ⟨a,Nat.le_refl _,by omega,rfl,(h.setM (md + 1)).congr (setTo_start I a _) (setTo_start H a _),(Fr.refl (RefS q ri rh) w).setCell (p:=⟨q,2,none⟩) (fun _=>.inl rfl) _⟩
    case round =>
     obtain ⟨j,hj1,hj2,rfl,hr,hF⟩:=hrel
     clear hcm hfm
     by_cases hjl:j < a + k
     ·have hjn:j < n:=by omega
      have r0:=hr.c0
      have r1:=hr.c1
      have r2:=hr.c2
      have ri_:=hr.ci j hjn
      have rh_:=hr.ch j hjn
      have f1:=hr.fi j
      have f2:=hr.fh j
      have n1:=h.qi
      have n2:=h.qh
      have n3:=h.ih
      have hset:=((hr.setI hjn (md + 1)).setH hjn 0).congr (setTo_step I (md + 1) hj1) (setTo_step H 0 hj1)
      have hFs:=(hF.setCell (p:=⟨ri,j,none⟩) (fun _=>.inr (.inl rfl)) (.int .i64 (md + 1))).setCell (p:=⟨rh,j,none⟩) (fun _=>.inr (.inr rfl)) (.int .i64 0)
      have HE:Hid (RefAt ((wr.setCell ⟨ri,j,none⟩ (.int .i64 (md + 1))).setCell ⟨rh,j,none⟩ (.int .i64 0)) q ri rh n (setTo I a (j + 1) (md + 1)) (setTo H a (j + 1) 0) (md + 1) ∧ Fr (RefS q ri rh) w ((wr.setCell ⟨ri,j,none⟩ (.int .i64 (md + 1))).setCell ⟨rh,j,none⟩ (.int .i64 0))):=⟨hset,hFs⟩
      clear hset hFs hr hF
      go_wp2
      go_region
      all_goals
       go_wp2
       go_roundw
       case rel=>exact ⟨j + 1,by omega,by omega,by go_num,HE.out.1.no ((Fr.refl _ _).drew),HE.out.2.drew⟩
       case measure=>simp [intOf];omega
     ·have hja:j = a + k:=by omega
      subst hja
      go_wp2
      go_ret2
      exact .inl ⟨a,Hyes.out,Hmin.out,rfl,hr,hF⟩
  ·go_wp2
   go_ret2
   exact .inr ⟨fun b hb=>by have h1:=Hmin.out b hb;have h2:=hb.1;omega,rfl,rfl⟩
end Go.Proofs.YthcjcjfgdgnljabGreatDoor
