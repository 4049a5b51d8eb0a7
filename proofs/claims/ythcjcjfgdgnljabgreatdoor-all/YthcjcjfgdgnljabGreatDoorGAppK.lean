import Derived.Test.YthcjcjfgdgnljabGreatDoorGRefA
import Derived.Deep.DeepAppendWide
set_option linter.unusedVariables false
set_option maxHeartbeats 4000000
set_option maxRecDepth 8000
open Go.Proofs.Tryz
namespace Go.Proofs.YthcjcjfgdgnljabGreatDoor
open Go.RowKit
theorem Fr.drewM {S:Nat → Prop} {a w:World} (h:Fr S a w) (n:Nat):Fr S a (w.drewN n):=⟨h.os,h.tape,h.output,h.size,h.block⟩
def clearEq (I:Nat → Int) (x:Int) (j:Nat):Nat → Int:=fun i=>if i < j ∧ I i = x then 0 else I i
theorem clearEq_start (I:Nat → Int) (x:Int) {n:Nat}:∀ i,i < n → clearEq I x 0 i = I i:=fun i _=>by
 unfold clearEq;rw [if_neg (by omega)]
theorem clearEq_at (I:Nat → Int) (x:Int) (j:Nat):clearEq I x j j = I j:=by unfold clearEq;rw [if_neg (by omega)]
theorem clearEq_yes {I:Nat → Int} {x:Int} {j:Nat} (h:I j = x) {n:Nat}:∀ i,i < n → clearEq I x (j + 1) i = upd (clearEq I x j) j 0 i:=fun i _=>by
 unfold clearEq upd
 by_cases e:i = j
 ·subst e;rw [if_pos ⟨by omega,h⟩,if_pos rfl]
 ·rw [if_neg e]
  by_cases e2:i < j ∧ I i = x
  ·rw [if_pos ⟨by omega,e2.2⟩];exact (if_pos e2).symm
  ·rw [if_neg (fun g=>e2 ⟨by omega,g.2⟩)];exact (if_neg e2).symm
theorem clearEq_no {I:Nat → Int} {x:Int} {j:Nat} (h:I j ≠ x) {n:Nat}:∀ i,i < n → clearEq I x (j + 1) i = clearEq I x j i:=fun i _=>by
 unfold clearEq
 by_cases e:i = j
 ·subst e;rw [if_neg (fun g=>h g.2),if_neg (fun g=>h g.2)]
 ·by_cases e2:i < j ∧ I i = x
  ·rw [if_pos ⟨by omega,e2.2⟩,if_pos e2]
  ·rw [if_neg (fun g=>e2 ⟨by omega,g.2⟩),if_neg e2]
theorem rfr_no (w:World) (q ri rh n:Nat) (I H:Nat → Int) (md a:Int) (h:RefAt w q ri rh n I H md) (ht:takenB I n a = false) :
  CR 24 #[.pointer (some ⟨q,0,none⟩),.int .i64 a] w (.int .i64 7):=by
 go_enter func24,ntmps24
 go_wp2_with fail
 refine sameC (rtaken_any _ q ri rh n I H md a h) ?_
 rw [ht]
 clear ht
 go_wp2_with fail
 go_quiet (fail)
 go_wp2
 go_ret
 exact ⟨rfl,(Fr.refl _ _).drewM _⟩
theorem rfr_mid (w:World) (q ri rh n:Nat) (I H:Nat → Int) (md:Int) (k:Nat) (h:RefAt w q ri rh n I H md) (hk:k < n) (ht:I k ≠ 0) (hk0:0 < k) (hs:I (k - 1) = I k) :
  CR 24 #[.pointer (some ⟨q,0,none⟩),.int .i64 k] w (.int .i64 7):=by
 have hn:=h.hi
 have hp:=h.c0
 have hc:=h.ci k hk
 have hc1:=h.ci (k - 1) (by omega)
 have hb:(I k != 0) = true:=by simpa using ht
 have hs':(I (k - 1) == I k) = true:=by simpa using hs
 have hd:decide ((0:Int) < (k:Int)) = true:=by simp;omega
 clear hs ht
 go_enter func24,ntmps24
 go_wp2_with fail
 refine sameC (rtaken_in _ q ri rh n I H md k h hk) ?_
 rw [hb]
 go_wp2_with fail
 go_quiet (fail)
 go_wp2
 go_ret
 exact ⟨rfl,(Fr.refl _ _).drewM _⟩
theorem rfr_yes (w:World) (q ri rh n:Nat) (I H:Nat → Int) (md:Int) (k:Nat) (h:RefAt w q ri rh n I H md) (hk:k < n) (ht:I k ≠ 0) (hs:k = 0 ∨ (0 < k ∧ I (k - 1) ≠ I k)) :
  Calls prog 24 #[.pointer (some ⟨q,0,none⟩),.int .i64 k] w fun e w'=>e = .returned (.int .i64 0) ∧ RefAt w' q ri rh n (clearEq I (I k) n) H md ∧ Fr (RefS q ri rh) w w':=by
 have hn:=h.hi
 have hp:=h.c0
 have hc:=h.ci k hk
 have hb:(I k != 0) = true:=by simpa using ht
 clear ht
 go_enter func24,ntmps24
 go_wp2_with fail
 refine sameC (rtaken_in _ q ri rh n I H md k h hk) ?_
 rw [hb]
 clear hb
 go_upto_region 2 with fail
 go_cut [34] (fun s wx=>s = .bool false ∧ Fr NoB w wx)
 case first =>
  rcases hs with hs | ⟨hk0,hs⟩
  ·subst hs
   go_quiet (fail)
   go_wp2_with fail
   go_meet
   case rel=>exact ⟨rfl,(Fr.refl _ _).drewM _⟩
  ·have hc1:=h.ci (k - 1) (by omega)
   have hs':(I (k - 1) == I k) = false:=by simpa using hs
   have hd:decide ((0:Int) < (k:Int)) = true:=by simp;omega
   clear hs
   go_quiet (fail)
   go_wp2_with fail
   go_meet
   case rel=>exact ⟨rfl,(Fr.refl _ _).drewM _⟩
 case rest =>
  obtain ⟨rfl,hF0⟩:=hcut
  have h1:=h.no hF0
  have hp1:=h1.c0
  have hc1:=h1.ci k hk
  clear hp hc hs
  obtain ⟨x,hx⟩:∃ x,x = I k:=⟨_,rfl⟩
  rw [← hx] at hc1
  have Hx:Hid (x = I k):=hx
  clear hx
  go_wp2_with fail
  go_loopw [7] (fun t wq=>∃ j:Nat,j ≤ n ∧ t = .int .i64 j ∧ RefAt wq q ri rh n (clearEq I x j) H md ∧ Fr (RefS q ri rh) w wq) (fun t _=>n - (intOf t).toNat)
  case atStart=>exact ⟨0,Nat.zero_le _,rfl,h1.congr (clearEq_start I x) (fun _ _=>rfl),hF0.of_no⟩
  case round =>
   obtain ⟨j,hj,rfl,hr,hF⟩:=hrel
   clear hp1 hc1 h1 hF0
   have r0:=hr.c0
   by_cases hjl:j < n
   ·have rc:=hr.ci j hjl
    rw [clearEq_at] at rc
    have rf:=hr.fi j
    by_cases hjx:I j = x
    ·have hjb:(I j == x) = true:=by simpa using hjx
     have HE:Hid (RefAt (wr.setCell ⟨ri,j,none⟩ (.int .i64 0)) q ri rh n (clearEq I x (j + 1)) H md ∧ Fr (RefS q ri rh) w (wr.setCell ⟨ri,j,none⟩ (.int .i64 0))) :=
      ⟨(hr.setI hjl 0).congr (clearEq_yes hjx) (fun _ _=>rfl),hF.setCell (p:=⟨ri,j,none⟩) (fun _=>.inr (.inl rfl)) _⟩
     clear hjx hr hF
     go_wp2
     go_roundw
     case rel=>exact ⟨j + 1,by omega,by go_num,HE.out⟩
     case measure=>simp [intOf];omega
    ·have hjb:(I j == x) = false:=by simpa using hjx
     have HE:Hid (RefAt wr q ri rh n (clearEq I x (j + 1)) H md ∧ Fr (RefS q ri rh) w wr):=⟨hr.congr (clearEq_no hjx) (fun _ _=>rfl),hF⟩
     clear hjx hr hF
     go_wp2
     go_roundw
     case rel=>exact ⟨j + 1,by omega,by go_num,HE.out⟩
     case measure=>simp [intOf];omega
   ·have hje:j = n:=by omega
    subst hje
    go_wp2
    go_ret
    exact ⟨rfl,by rw [← Hx.out];exact hr,hF⟩
theorem skip_runs {I:Nat → Int} {n i:Nat} (h:n ≤ i ∨ I i ≠ 0) {M:List (Nat × Nat)} (hM:IsRuns I n (i + 1) M):IsRuns I n i M:=by
 cases M with
 | nil =>
  intro j h1 h2
  by_cases e:j = i
  ·subst e;rcases h with h | h
   ·omega
   ·exact h
  ·exact hM j (by omega) h2
 | cons s t =>
  obtain ⟨a,l⟩:=s
  obtain ⟨h1,h2,h3,h4,h5,h6,h7⟩:=hM
  refine ⟨by omega,h2,h3,fun j g1 g2=>?_,h5,h6,h7⟩
  by_cases e:j = i
  ·subst e;rcases h with h | h
   ·omega
   ·exact h
  ·exact h4 j (by omega) g2
theorem close_run {I:Nat → Int} {n f i:Nat} {L:List (Nat × Nat)} (hi:i ≤ n) (hlt:f < i) (hfree:∀ j,f ≤ j → j < i → I j = 0) (hstop:n ≤ i ∨ I i ≠ 0)
  (hL:∀ M,IsRuns I n f M → IsRuns I n 0 (L ++ M)):∀ M,IsRuns I n (i + 1) M → IsRuns I n 0 ((L ++ [(f,i - f)]) ++ M):=fun M hM=>by
 rw [List.append_assoc]
 apply hL
 have e:f + (i - f) = i:=by omega
 refine ⟨Nat.le_refl _,by omega,by omega,fun j h1 h2=>absurd h2 (by omega),fun j h1 h2=>hfree j h1 (by omega),?_,?_⟩
 ·rw [e];rcases hstop with h | h
  ·exact .inl (by omega)
  ·exact .inr h
 ·rw [e];exact skip_runs hstop hM
theorem rruns_any (w:World) (q ri rh n:Nat) (I H:Nat → Int) (md:Int) (h:RefAt w q ri rh n I H md) :
  Calls prog 47 #[.pointer (some ⟨q,0,none⟩)] w fun e w' =>
   ∃ v L,e = .returned v ∧ IsRuns I n 0 L ∧ w'.ownsRow w.heap.size 79 2 v L.length (spanCells L) ∧ Fr NoB w w':=by
 have hn:=h.hi
 obtain ⟨i0,hi0,hz0,hz1,hz2⟩:=info_parts Tryz.infoSpan
 go_enter func47,ntmps47
 go_wp2_with fail
 go_loopw [3,4,5] (fun t u s wr=>∃ (f i:Nat) (L:List (Nat × Nat)),i ≤ n + 1 ∧ f ≤ i ∧ (i ≤ n ∨ f = i) ∧ u = .int .i64 f ∧ s = .int .i64 i ∧ (∀ j,f ≤ j → j < i → I j = 0) ∧ (∀ M,IsRuns I n f M → IsRuns I n 0 (L ++ M)) ∧ L.length ≤ f ∧
   wr.ownsRow w.heap.size 79 2 t L.length (spanCells L) ∧ Fr NoB w wr) (fun _ _ s _=>n + 1 - (intOf s).toNat)
 case atStart=>exact ⟨0,0,[],by omega,Nat.le_refl _,.inl (Nat.zero_le _),rfl,rfl,fun j h1 h2=>absurd h2 (by omega),fun M hM=>hM,Nat.le_refl _,World.ownsRow_nil _ _ _ _,Fr.refl _ _⟩
 case round =>
  obtain ⟨f,i,L,hi1,hi2,hi3,rfl,rfl,hfree,hL,hLl,hown,hF⟩:=hrel
  have Hfree:Hid (∀ j,f ≤ j → j < i → I j = 0):=hfree
  have HL:Hid (∀ M,IsRuns I n f M → IsRuns I n 0 (L ++ M)):=hL
  have hr:=h.no hF
  have r0:=hr.c0
  clear hfree hL
  by_cases hin:i ≤ n
  ·by_cases hgo:i < n ∧ I i = 0
   ·obtain ⟨hlt,hz⟩:=hgo
    have rc:=hr.ci i hlt
    have hzb:(I i == 0) = true:=by simpa using hz
    have Hz:Hid (I i = 0):=hz
    clear hz hr hi3
    go_wp2
    go_roundw
    case rel=>exact ⟨f,i + 1,L,by omega,by omega,.inl (by omega),rfl,by go_num,grow_eq Hfree.out Hz.out,HL.out,hLl,hown,hF⟩
    case measure=>simp [intOf];omega
   ·have Hstop:Hid (n ≤ i ∨ I i ≠ 0):=by
     by_cases e:n ≤ i
     ·exact .inl e
     ·exact .inr (fun hz=>hgo ⟨by omega,hz⟩)
    have rc:i < n → wr.cell? ⟨ri,i,none⟩ = some (.int .i64 (I i)):=hr.ci i
    have hzb:i < n → (I i == 0) = false:=fun hlt=>by
     rcases Hstop.out with h | h
     ·omega
     ·simpa using h
    clear hgo hr hi3
    by_cases hfi:f < i
    ·have HC:Hid (∀ M,IsRuns I n (i + 1) M → IsRuns I n 0 ((L ++ [(f,i - f)]) ++ M)):=close_run hin hfi Hfree.out Hstop.out HL.out
     have hsz:=hF.size
     by_cases hlt:i < n
     all_goals
      go_wp2_with (at_builtin;refine wpList_append_own _ rfl _ _ 47 rfl w.heap.size 79 i0 (.agg #[.int .i64 0,.int .i64 0]) 2 16 underlying47 hi0 hz0 hz1 hz2 rfl (by decide) _ _ _ rfl (hown.alloc _) ⟨wr.heap.size,0,none⟩ 1 1 [.int .i64 f,.int .i64 ((i:Int) - (f:Int))] rfl rfl ?_ ?_ ?_ ?_ ?_ ?_)
      ·intro j u hj
       match j,hj with
       | 0,hj=>simp at hj;subst hj;simp [Addr.add]
       | 1,hj=>simp at hj;subst hj;simp [Addr.add]
      ·intro u hu;simp at hu;rcases hu with rfl | rfl <;> rfl
      ·unfold maxLen;omega
      ·omega
      ·simp;omega
      intro v' w2 hown' hgrow _
      have hlt2:=hown.lt
      have hF2:Fr NoB w w2:=(hF.alloc _).then (Fr.of_grown (S:=fun q=>u3.ownBlock = some q) hgrow (fun k _ e=>e)) (fun q hq e=>by have:=(hlt2 q e).1;omega)
      clear hgrow hown hlt2
      go_wp2
      go_roundw
      case rel =>
       refine ⟨i + 1,i + 1,L ++ [(f,i - f)],by omega,Nat.le_refl _,.inr rfl,by go_num,by go_num,fun j h1 h2=>absurd h2 (by omega),HC.out,by simp;omega,?_,hF2⟩
       rw [spanCells_snoc,List.length_append,show ((i - f:Nat):Int) = (i:Int) - (f:Int) from by omega]
       exact hown'
      case measure=>simp [intOf];omega
    ·have hfe:f = i:=by omega
     have HC:Hid (∀ M,IsRuns I n (i + 1) M → IsRuns I n 0 (L ++ M)):=fun M hM=>HL.out M (by rw [hfe];exact skip_runs Hstop.out hM)
     clear hfe
     by_cases hlt:i < n
     all_goals
      go_wp2
      go_roundw
      case rel=>exact ⟨i + 1,i + 1,L,by omega,Nat.le_refl _,.inr rfl,by go_num,by go_num,fun j h1 h2=>absurd h2 (by omega),HC.out,by omega,hown,hF⟩
      case measure=>simp [intOf];omega
  ·have hfi:f = n + 1:=by omega
   have Hend:Hid (IsRuns I n 0 L):=by
    have:=HL.out [] (by intro j h1 h2;omega)
    show IsRuns I n 0 L
    simpa using this
   clear hr hi3 hfi
   go_wp2
   go_ret
   exact ⟨_,L,rfl,Hend.out,hown,hF⟩
theorem Tryz.infoIntR:(prog.info? 3).map (fun i=>(i.zero,i.size,i.bytes)) = some (some (.int .i64 0),1,8):=by kernel_rfl
theorem made_oneR (n j:Nat) (h:j < n):(madeCells #[Value.int .i64 0] n)[j]? = some (.int .i64 0):=by
 unfold madeCells
 simp [h,Nat.mod_one]
theorem ints_madeR (n:Nat) (hn:n ≤ 4096):∃ C:Array Value,(∀ j,j < n → C[j]? = some (.int .i64 0)) ∧
  ∀ u:World,(Instr.makeSlice 58 (.int .i64 n) (.int .i64 n)).run prog u = .ok (.slice (some ⟨u.heap.size,0,none⟩) n n) (u.alloc (.cells C 3)):=by
 obtain ⟨i0,hi,hz0,hz1,hz2⟩:=info_parts Tryz.infoIntR
 refine ⟨madeCells #[Value.int .i64 0] n,fun j hj=>made_oneR _ _ hj,fun u=>?_⟩
 have h:=run_make (P:=prog) u 58 3 i0 (.int .i64 0) underlying58 hi hz0 .i64 .i64 (n:Int) (n:Int) (by omega) (Int.le_refl _) (by rw [hz2];omega) (by omega)
 simpa [hz1,Value.cells] using h
theorem rfits_no (w:World) (a:Int) (ha:a < 1 ∨ 4096 < a) :
  CS 18 #[.int .i64 a] w (.bool false):=by
 rcases ha with ha | ha
 ·go_enter func18,ntmps18
  go_wp2
  go_ret
  exact ⟨rfl,rfl⟩
 ·have h1:(1:Int) ≤ a:=by omega
  have h2:decide (a ≤ 4096) = false:=by simp;omega
  go_enter func18,ntmps18
  go_wp2
  go_ret
  exact ⟨rfl,rfl⟩
theorem rfits_yes (w:World) (a:Int) (h1:1 ≤ a) (h2:a ≤ 4096) :
  CS 18 #[.int .i64 a] w (.bool true):=by
 have h3:decide (a ≤ 4096) = true:=by simp;omega
 go_enter func18,ntmps18
 go_wp2
 go_ret
 exact ⟨rfl,rfl⟩
theorem rnew_no (w:World) (a:Int) (ha:a < 1 ∨ 4096 < a) :
  CS 9 #[.int .i64 a] w (.tuple #[.pointer none,.int .i64 5]):=by
 go_enter func9,ntmps9
 go_wp2_with (go_at_call 18;refine (rfits_no _ a ha).mono ?_;rintro e w1 ⟨rfl,rfl⟩)
 go_ret2
 exact ⟨rfl,rfl⟩
theorem refAt_new {w:World} {C:Array Value} {n:Nat} (h1:1 ≤ n) (h2:n ≤ 4096) (hC:∀ j,j < n → C[j]? = some (.int .i64 0)) {ri rh:Nat} {w':World}
  (hw:w' = ((w.alloc (.cells C 3)).alloc (.cells C 3)).alloc (.cells #[.slice (some ⟨ri,0,none⟩) n n,.slice (some ⟨rh,0,none⟩) n n,.int .i64 0] 60))
  (hr:(ri = w.heap.size ∧ rh = w.heap.size + 1) ∨ (ri = w.heap.size + 1 ∧ rh = w.heap.size)):RefAt w' (w.heap.size + 2) ri rh n (fun _=>0) (fun _=>0) 0 ∧ Fr NoB w w' ∧ w.heap.size ≤ ri ∧ w.heap.size ≤ rh:=by
 subst hw
 have ha:∀ j,j < n → (((w.alloc (.cells C 3)).alloc (.cells C 3)).alloc (.cells #[.slice (some ⟨ri,0,none⟩) n n,.slice (some ⟨rh,0,none⟩) n n,.int .i64 0] 60)).cell? ⟨w.heap.size,j,none⟩ = some (.int .i64 0):=fun j hj=>by
  rw [World.cell?_alloc_past _ _ _ (by simp;omega),World.cell?_alloc_past _ _ _ (by simp),World.cell?_alloc_at _ _ _ _ rfl];exact hC j hj
 have hb:∀ j,j < n → (((w.alloc (.cells C 3)).alloc (.cells C 3)).alloc (.cells #[.slice (some ⟨ri,0,none⟩) n n,.slice (some ⟨rh,0,none⟩) n n,.int .i64 0] 60)).cell? ⟨w.heap.size + 1,j,none⟩ = some (.int .i64 0):=fun j hj=>by
  rw [World.cell?_alloc_past _ _ _ (by simp),World.cell?_alloc_at _ _ _ _ (by simp)];exact hC j hj
 have fa:∀ j,(((w.alloc (.cells C 3)).alloc (.cells C 3)).alloc (.cells #[.slice (some ⟨ri,0,none⟩) n n,.slice (some ⟨rh,0,none⟩) n n,.int .i64 0] 60)).frozen? ⟨w.heap.size,j,none⟩ = false:=fun j=>by
  rw [World.frozen?_alloc_past _ _ _ (by simp;omega),World.frozen?_alloc_past _ _ _ (by simp),World.frozen?_alloc_at _ _ _ _ rfl]
 have fb:∀ j,(((w.alloc (.cells C 3)).alloc (.cells C 3)).alloc (.cells #[.slice (some ⟨ri,0,none⟩) n n,.slice (some ⟨rh,0,none⟩) n n,.int .i64 0] 60)).frozen? ⟨w.heap.size + 1,j,none⟩ = false:=fun j=>by
  rw [World.frozen?_alloc_past _ _ _ (by simp),World.frozen?_alloc_at _ _ _ _ (by simp)]
 refine ⟨?_,(((Fr.refl _ _).alloc _).alloc _).alloc _,by omega,by omega⟩
 refine ⟨h1,h2,by omega,by omega,by omega,?_,?_,?_,?_,?_,?_,?_,?_⟩
 ·rw [World.cell?_alloc_at _ _ _ _ (by simp)];rfl
 ·rw [World.cell?_alloc_at _ _ _ _ (by simp)];rfl
 ·rw [World.cell?_alloc_at _ _ _ _ (by simp)];rfl
 ·intro i hi;rcases hr with ⟨rfl,rfl⟩ | ⟨rfl,rfl⟩
  ·exact ha i hi
  ·exact hb i hi
 ·intro i hi;rcases hr with ⟨rfl,rfl⟩ | ⟨rfl,rfl⟩
  ·exact hb i hi
  ·exact ha i hi
 ·intro o;rw [World.frozen?_alloc_at _ _ _ _ (by simp)]
 ·intro o;rcases hr with ⟨rfl,rfl⟩ | ⟨rfl,rfl⟩
  ·exact fa o
  ·exact fb o
 ·intro o;rcases hr with ⟨rfl,rfl⟩ | ⟨rfl,rfl⟩
  ·exact fb o
  ·exact fa o
theorem rnew_yes (w:World) (n:Nat) (h1:1 ≤ n) (h2:n ≤ 4096) :
  Calls prog 9 #[.int .i64 n] w fun e w'=>∃ q ri rh,e = .returned (.tuple #[.pointer (some ⟨q,0,none⟩),.int .i64 0]) ∧ Fr NoB w w' ∧
   w.heap.size ≤ q ∧ w.heap.size ≤ ri ∧ w.heap.size ≤ rh ∧ RefAt w' q ri rh n (fun _=>0) (fun _=>0) 0:=by
 obtain ⟨C,hC,hmk⟩:=ints_madeR n h2
 have HC:Hid (∀ j,j < n → C[j]? = some (.int .i64 0)):=hC
 clear hC
 go_enter func9,ntmps9
 go_wp2_with (go_at_call 18;refine (rfits_yes _ n (by omega) (by omega)).mono ?_;rintro e w1 ⟨rfl,rfl⟩)
 go_region
 all_goals
  go_wp2
  go_ret2
 ·obtain ⟨hR,hF,g1,g2⟩:=refAt_new (w:=w1) h1 h2 HC.out rfl (.inl ⟨rfl,rfl⟩)
  exact ⟨_,_,_,rfl,hF.drew,by omega,g1,g2,hR.no (Fr.refl _ _).drew⟩
 ·obtain ⟨hR,hF,g1,g2⟩:=refAt_new (w:=w1) h1 h2 HC.out rfl (.inr ⟨rfl,rfl⟩)
  exact ⟨_,_,_,rfl,hF.drew,by omega,g1,g2,hR.no (Fr.refl _ _).drew⟩
structure Rel (n:Nat) (B V I H:Nat → Int) (md:Int):Prop where
 zz:∀ i,i < n → (B i = 0 ↔ I i = 0)
 eqv:∀ i j,i < n → j < n → I i ≠ 0 → (I i = I j ↔ B i = B j)
 vh:∀ i,i < n → B i ≠ 0 → V i = H i
 zv:∀ i,i < n → B i = 0 → V i = 0
 st:∀ i,i < n → B i ≠ 0 → ∃ s:Nat,B i = (s:Int) + 1 ∧ s ≤ i ∧ ∀ j,s ≤ j → j ≤ i → B j = B i
 mx:∀ i,i < n → I i ≤ md
 md0:0 ≤ md
theorem Rel.start (n:Nat):Rel n (fun _=>0) (fun _=>0) (fun _=>0) (fun _=>0) 0 :=
 ⟨fun _ _=>Iff.rfl,fun _ _ _ _ h=>absurd rfl h,fun _ _ h=>absurd rfl h,fun _ _ _=>rfl,fun _ _ h=>absurd rfl h,fun _ _=>Int.le_refl _,Int.le_refl _⟩
theorem Rel.freeAt {n:Nat} {B V I H:Nat → Int} {md:Int} (h:Rel n B V I H md) (k a:Nat):FreeAt B n k a ↔ FreeAt I n k a :=
 ⟨fun ⟨h1,h2⟩=>⟨h1,fun i g1 g2=>(h.zz i (by omega)).1 (h2 i g1 g2)⟩,fun ⟨h1,h2⟩=>⟨h1,fun i g1 g2=>(h.zz i (by omega)).2 (h2 i g1 g2)⟩⟩
theorem Rel.taken {n:Nat} {B V I H:Nat → Int} {md:Int} (h:Rel n B V I H md) (a:Int):takenB B n a = takenB I n a:=by
 by_cases h0:0 ≤ a
 ·obtain ⟨k,rfl⟩:=Int.eq_ofNat_of_zero_le h0
  by_cases hk:k < n
  ·rw [takenB_in hk,takenB_in hk,Bool.eq_iff_iff]
   have:=h.zz k hk
   simp only [bne_iff_ne,ne_eq,this]
  ·rw [takenB_hi hk,takenB_hi hk]
 ·rw [takenB_neg h0,takenB_neg h0]
theorem Rel.alloc {n:Nat} {B V I H:Nat → Int} {md:Int} (h:Rel n B V I H md) {k a:Nat} (hk:1 ≤ k) (hf:FreeAt B n k a):Rel n (markTo B a (a + k)) V (setTo I a (a + k) (md + 1)) (setTo H a (a + k) 0) (md + 1):=by
 have hm0:=h.md0
 have hin:∀ i,(a ≤ i ∧ i < a + k) → markTo B a (a + k) i = (a:Int) + 1:=fun i e=>by unfold markTo;rw [if_pos e]
 have hout:∀ i,¬ (a ≤ i ∧ i < a + k) → markTo B a (a + k) i = B i:=fun i e=>by unfold markTo;rw [if_neg e]
 have sin:∀ (f:Nat → Int) (v:Int) i,(a ≤ i ∧ i < a + k) → setTo f a (a + k) v i = v:=fun f v i e=>by unfold setTo;rw [if_pos e]
 have sout:∀ (f:Nat → Int) (v:Int) i,¬ (a ≤ i ∧ i < a + k) → setTo f a (a + k) v i = f i:=fun f v i e=>by unfold setTo;rw [if_neg e]
 have hnew:∀ j,j < n → ¬ (a ≤ j ∧ j < a + k) → B j ≠ (a:Int) + 1:=fun j hj e hb=>by
  obtain ⟨s,h1,h2,h3⟩:=h.st j hj (by omega)
  have hs:s = a:=by omega
  subst hs
  have:=h3 s (Nat.le_refl _) h2
  have:=hf.2 s (Nat.le_refl _) (by omega)
  omega
 refine ⟨fun i hi=>?_,fun i j hi hj hne=>?_,fun i hi hne=>?_,fun i hi hz=>?_,fun i hi hne=>?_,fun i hi=>?_,by omega⟩
 ·by_cases e:a ≤ i ∧ i < a + k
  ·rw [hin i e,sin I _ i e];constructor <;> intro h <;> omega
  ·rw [hout i e,sout I _ i e];exact h.zz i hi
 ·by_cases e:a ≤ i ∧ i < a + k <;> by_cases e2:a ≤ j ∧ j < a + k
  ·rw [hin i e,hin j e2,sin I _ i e,sin I _ j e2];constructor <;> intro _ <;> rfl
  ·rw [hin i e,hout j e2,sin I _ i e,sout I _ j e2]
   have h1:=h.mx j hj
   have h2:=hnew j hj e2
   constructor
   ·intro g;omega
   ·intro g;exact absurd g.symm h2
  ·rw [hout i e,hin j e2,sout I _ i e,sin I _ j e2]
   have h1:=h.mx i hi
   have h2:=hnew i hi e
   constructor
   ·intro g;omega
   ·intro g;exact absurd g h2
  ·rw [hout i e,hout j e2,sout I _ i e,sout I _ j e2]
   rw [sout I _ i e] at hne
   exact h.eqv i j hi hj hne
 ·by_cases e:a ≤ i ∧ i < a + k
  ·rw [sin H _ i e];exact h.zv i hi (hf.2 i e.1 e.2)
  ·rw [sout H _ i e];rw [hout i e] at hne;exact h.vh i hi hne
 ·by_cases e:a ≤ i ∧ i < a + k
  ·rw [hin i e] at hz;omega
  ·rw [hout i e] at hz;exact h.zv i hi hz
 ·by_cases e:a ≤ i ∧ i < a + k
  ·refine ⟨a,hin i e,e.1,fun j h1 h2=>?_⟩
   rw [hin i e,hin j ⟨h1,by omega⟩]
  ·rw [hout i e] at hne
   obtain ⟨s,h1,h2,h3⟩:=h.st i hi hne
   refine ⟨s,by rw [hout i e];exact h1,h2,fun j g1 g2=>?_⟩
   have e2:¬ (a ≤ j ∧ j < a + k):=fun e2=>by
    have:=hf.2 j e2.1 e2.2
    rw [h3 j g1 g2] at this
    exact hne this
   rw [hout i e,hout j e2]
   exact h3 j g1 g2
 ·by_cases e:a ≤ i ∧ i < a + k
  ·rw [sin I _ i e];omega
  ·rw [sout I _ i e];have:=h.mx i hi;omega
theorem Rel.starts {n:Nat} {B V I H:Nat → Int} {md:Int} (h:Rel n B V I H md) {k:Nat} (hk:k < n) (hb:B k = (k:Int) + 1):k = 0 ∨ (0 < k ∧ I (k - 1) ≠ I k):=by
 by_cases e:k = 0
 ·exact .inl e
 ·refine .inr ⟨by omega,fun he=>?_⟩
  have hi:I k ≠ 0:=fun hz=>by have:=(h.zz k hk).2 hz;omega
  have h1:=(h.eqv k (k - 1) hk (by omega) hi).1 he.symm
  obtain ⟨s,g1,g2,_⟩:=h.st (k - 1) (by omega) (by omega)
  omega
theorem Rel.inside {n:Nat} {B V I H:Nat → Int} {md:Int} (h:Rel n B V I H md) {k:Nat} (hk:k < n) (hb:B k ≠ 0) (hne:B k ≠ (k:Int) + 1):0 < k ∧ I (k - 1) = I k:=by
 obtain ⟨s,g1,g2,g3⟩:=h.st k hk hb
 have hs:s < k:=by
  by_cases e:s = k
  ·subst e;exact absurd g1 hne
  ·omega
 have hi:I k ≠ 0:=fun hz=>hb ((h.zz k hk).2 hz)
 exact ⟨by omega,((h.eqv k (k - 1) hk (by omega) hi).2 (g3 (k - 1) (by omega) (by omega)).symm).symm⟩
theorem Rel.free {n:Nat} {B V I H:Nat → Int} {md:Int} (h:Rel n B V I H md) {k z:Nat} (hk:k < n) (hb:B k = (k:Int) + 1) (hz1:k < z)
  (hall:∀ i,k ≤ i → i < z → B i = (k:Int) + 1) (hstop:z = n ∨ B z ≠ (k:Int) + 1):Rel n (clearTo B k z) (clearTo V k z) (clearEq I (I k) n) H md:=by
 have hik:I k ≠ 0:=fun hz=>by have:=(h.zz k hk).2 hz;omega
 have key:∀ i,i < n → ((k ≤ i ∧ i < z) ↔ B i = (k:Int) + 1):=fun i hi=>by
  constructor
  ·intro e;exact hall i e.1 e.2
  ·intro e
   obtain ⟨s,g1,g2,g3⟩:=h.st i hi (by omega)
   have hs:s = k:=by omega
   subst hs
   refine ⟨g2,?_⟩
   by_cases hiz:i < z
   ·exact hiz
   ·exfalso
    rcases hstop with h1 | h1
    ·omega
    ·have:=g3 z (by omega) (by omega);rw [e] at this;exact h1 this
 have key2:∀ i,i < n → (I i = I k ↔ B i = (k:Int) + 1):=fun i hi=>by
  have:=h.eqv k i hk hi hik
  rw [hb] at this
  constructor
  ·intro e;exact (this.1 e.symm).symm
  ·intro e;exact (this.2 e.symm).symm
 have bin:∀ i,i < n → B i = (k:Int) + 1 → (∀ f:Nat → Int,clearTo f k z i = 0) ∧ clearEq I (I k) n i = 0:=fun i hi e=>by
  refine ⟨fun f=>?_,?_⟩
  ·unfold clearTo;rw [if_pos ((key i hi).2 e)]
  ·unfold clearEq;rw [if_pos ⟨hi,(key2 i hi).2 e⟩]
 have bout:∀ i,i < n → B i ≠ (k:Int) + 1 → (∀ f:Nat → Int,clearTo f k z i = f i) ∧ clearEq I (I k) n i = I i:=fun i hi e=>by
  refine ⟨fun f=>?_,?_⟩
  ·unfold clearTo;rw [if_neg (fun g=>e ((key i hi).1 g))]
  ·unfold clearEq;rw [if_neg (fun g=>e ((key2 i hi).1 g.2))]
 refine ⟨fun i hi=>?_,fun i j hi hj hne=>?_,fun i hi hne=>?_,fun i hi hz=>?_,fun i hi hne=>?_,fun i hi=>?_,h.md0⟩
 ·by_cases e:B i = (k:Int) + 1
  ·rw [(bin i hi e).1 B,(bin i hi e).2]
  ·rw [(bout i hi e).1 B,(bout i hi e).2];exact h.zz i hi
 ·by_cases e:B i = (k:Int) + 1
  ·rw [(bin i hi e).2] at hne;exact absurd rfl hne
  ·rw [(bout i hi e).2] at hne
   rw [(bout i hi e).1 B,(bout i hi e).2]
   by_cases e2:B j = (k:Int) + 1
   ·rw [(bin j hj e2).1 B,(bin j hj e2).2]
    exact (h.zz i hi).symm
   ·rw [(bout j hj e2).1 B,(bout j hj e2).2]
    exact h.eqv i j hi hj hne
 ·by_cases e:B i = (k:Int) + 1
  ·rw [(bin i hi e).1 B] at hne;exact absurd rfl hne
  ·rw [(bout i hi e).1 B] at hne;rw [(bout i hi e).1 V];exact h.vh i hi hne
 ·by_cases e:B i = (k:Int) + 1
  ·exact (bin i hi e).1 V
  ·rw [(bout i hi e).1 B] at hz;rw [(bout i hi e).1 V];exact h.zv i hi hz
 ·by_cases e:B i = (k:Int) + 1
  ·rw [(bin i hi e).1 B] at hne;exact absurd rfl hne
  ·rw [(bout i hi e).1 B] at hne
   obtain ⟨s,g1,g2,g3⟩:=h.st i hi hne
   refine ⟨s,by rw [(bout i hi e).1 B];exact g1,g2,fun j q1 q2=>?_⟩
   have hj:=g3 j q1 q2
   rw [(bout i hi e).1 B,(bout j (by omega) (by rw [hj];exact e)).1 B]
   exact hj
 ·by_cases e:B i = (k:Int) + 1
  ·rw [(bin i hi e).2];exact h.md0
  ·rw [(bout i hi e).2];exact h.mx i hi
theorem Rel.store {n:Nat} {B V I H:Nat → Int} {md:Int} (h:Rel n B V I H md) {k:Nat} (hb:B k ≠ 0) (u:Int):Rel n B (upd V k u) I (upd H k u) md :=
 ⟨h.zz,h.eqv,fun i hi hne=>by
  by_cases e:i = k
  ·subst e;rw [upd_at,upd_at]
  ·rw [upd_ne _ _ e,upd_ne _ _ e];exact h.vh i hi hne,fun i hi hz=>by
  rw [upd_ne _ _ (fun e=>by subst e;exact hb hz)];exact h.zv i hi hz,h.st,h.mx,h.md0⟩
theorem runs_congr {B I:Nat → Int} {n:Nat} (hz:∀ i,i < n → (B i = 0 ↔ I i = 0)) (L:List (Nat × Nat)) (lo:Nat) (h:IsRuns B n lo L):IsRuns I n lo L:=by
 induction L generalizing lo with
 | nil=>exact fun i h1 h2 e=>h i h1 h2 ((hz i h2).2 e)
 | cons s t ih =>
  obtain ⟨a,l⟩:=s
  obtain ⟨h1,h2,h3,h4,h5,h6,h7⟩:=h
  refine ⟨h1,h2,h3,fun i g1 g2 e=>h4 i g1 g2 ((hz i (by omega)).2 e),fun i g1 g2=>(hz i (by omega)).1 (h5 i g1 g2),?_,ih _ h7⟩
  rcases h6 with h6 | h6
  ·exact .inl h6
  ·by_cases e:a + l = n
   ·exact .inl e
   ·exact .inr (fun g=>h6 ((hz _ (by omega)).2 g))
theorem runs_unique {B:Nat → Int} {n:Nat} (L M:List (Nat × Nat)) (lo:Nat) (h:IsRuns B n lo L) (g:IsRuns B n lo M):L = M:=by
 induction L generalizing lo M with
 | nil =>
  cases M with
  | nil=>rfl
  | cons s t =>
   obtain ⟨a,l⟩:=s
   obtain ⟨h1,h2,h3,h4,h5,h6,h7⟩:=g
   exact absurd (h5 a (Nat.le_refl _) (by omega)) (h a h1 (by omega))
 | cons s t ih =>
  obtain ⟨a,l⟩:=s
  obtain ⟨h1,h2,h3,h4,h5,h6,h7⟩:=h
  cases M with
  | nil=>exact absurd (h5 a (Nat.le_refl _) (by omega)) (g a h1 (by omega))
  | cons s' t' =>
   obtain ⟨a',l'⟩:=s'
   obtain ⟨g1,g2,g3,g4,g5,g6,g7⟩:=g
   have ha:a = a':=by
    by_cases e:a < a'
    ·exact absurd (h5 a (Nat.le_refl _) (by omega)) (g4 a h1 e)
    ·by_cases e2:a' < a
     ·exact absurd (g5 a' (Nat.le_refl _) (by omega)) (h4 a' g1 e2)
     ·omega
   subst ha
   have hl:l = l':=by
    by_cases e:l < l'
    ·rcases h6 with h6 | h6
     ·omega
     ·exact absurd (g5 (a + l) (by omega) (by omega)) h6
    ·by_cases e2:l' < l
     ·rcases g6 with g6 | g6
      ·omega
      ·exact absurd (h5 (a + l') (by omega) (by omega)) g6
     ·omega
   subst hl
   rw [ih t' (a + l) h7 g7]
section
def AppKind (w w':World) (v v':Value) (n m:Nat):Prop :=
 (∃ cap,v' = .slice (some ⟨w.heap.size,0,none⟩) (n + m) cap ∧ w.grownBy w' none) ∨
 (∃ g cap,v = .slice (some ⟨g,0,none⟩) n cap ∧ v' = .slice (some ⟨g,0,none⟩) (n + m) cap ∧ w.grownBy w' (some g))
section
variable {P:Program} (w:World)
theorem run_append_kind (base:Nat) (t ty e:TypeId) (i:TypeInfo) (z:Value) (size bytes:Nat) (ht:P.underlying t = some (.slice e)) (hi:P.info? e = some i) (hz:i.zero = some z)
  (hsize:i.size = size) (hby:i.bytes = bytes) (hzs:z.cells.size = size) (hsz:0 < size)
  (v:Value) (n:Nat) (xs:List Value) (hown:w.ownsRow base e size v n xs)
  (a:Addr) (m c:Nat) (news:List Value) (hm:0 < m) (hl:news.length = m * size) (hnews:∀ j u,news[j]? = some u → w.cell? (a.add j) = some u) (h1:∀ u ∈ news,u.oneCell' = true)
  (h63:n + m ≤ maxLen) (hbytes:((n + m) + (n + m) / 4 + 192) * bytes ≤ 281474976710656) (hbase:base ≤ w.heap.size) :
  ∃ v' w',(Builtin.append_ #[t,t] ty #[v,.slice (some a) m c]).run P w = .ok v' w' ∧ w'.ownsRow base e size v' (n + m) (xs ++ news) ∧ AppKind w w' v v' n m:=by
 obtain ⟨v',w',hr,h2,h3,_⟩:=run_append_own_wide (P:=P) w base t ty e i z size bytes ht hi hz hsize hby hzs hsz v n xs hown a m c news hl hnews h1 h63 hbytes hbase
 refine ⟨v',w',hr,h2,?_⟩
 have hsmall:n + m ≤ 9223372036854775807:=by simp only [maxLen] at h63;omega
 subst hsize
 subst hby
 rcases hown.2 with ⟨rfl,rfl⟩ | ⟨g,cap,cur,rfl,hbg,hg,hnc,hcm,hcs,htake⟩
 ·have h48:m * i.bytes ≤ 281474976710656:=Nat.le_trans (Nat.mul_le_mul_right _ (by omega)) hbytes
  have hr2:=run_append_nil (P:=P) w t ty e i z ht hi hz a m c news hl hnews hm (by omega) h48
  have he:=hr.symm.trans hr2
  injection he with e1 e2
  refine .inl ⟨grownCap w m 0 e,by rw [e1];simp,?_⟩
  rw [e2]
  exact ⟨rfl,rfl,rfl,by simp,fun k hk _=>Below.heap_alloc w.drew _ k hk⟩
 ·by_cases hroom:n + m ≤ cap
  ·have hfit:n * i.size + news.length ≤ cur.size:=by rw [hl,hcs,← Nat.add_mul];exact Nat.mul_le_mul_right _ hroom
   have hr2:=run_append_room (P:=P) w t ty e i ht hi g n cap cur hg a m c news hl hnews h1 hroom hfit
   have he:=hr.symm.trans hr2
   injection he with e1 e2
   exact .inr ⟨g,cap,rfl,e1,h3⟩
  ·have holds:∀ j u,xs[j]? = some u → w.cell? ((⟨g,0,none⟩:Addr).add j) = some u:=hown.cells (g:=g) rfl
   have hr2:=run_append_grow (P:=P) w t ty e i z ht hi hz ⟨g,0,none⟩ n cap xs hown.1 holds a m c news hl hnews (by omega) (by omega) (growslice_fits_wide (by omega) hbytes)
   have he:=hr.symm.trans hr2
   injection he with e1 e2
   refine .inl ⟨grownCap w (n + m) cap e,e1,?_⟩
   rw [e2]
   exact ⟨rfl,rfl,rfl,by simp,fun k hk _=>Below.heap_alloc w.drew _ k hk⟩
theorem wpList_append_kind {ops:Array Oper} {rest:List Oper} {o:Oper} {a:Act} {Q:Exit → Act → World → Prop} (hgd:o.guard = none) (s x:Operand) (t:TypeId)
  (ho:o.op = .call { callee:=.builtin .append,args:=#[s,x],argTypes:=#[t,t] })
  (base:Nat) (e:TypeId) (i:TypeInfo) (z:Value) (size bytes:Nat) (ht:P.underlying t = some (.slice e)) (hi:P.info? e = some i) (hz:i.zero = some z)
  (hsize:i.size = size) (hby:i.bytes = bytes) (hzs:z.cells.size = size) (hsz:0 < size)
  (v:Value) (n:Nat) (xs:List Value) (hs:a.eval s = v) (hown:w.ownsRow base e size v n xs)
  (ad:Addr) (m c:Nat) (news:List Value) (hm:0 < m) (hx:a.eval x = .slice (some ad) m c) (hl:news.length = m * size) (hnews:∀ j u,news[j]? = some u → w.cell? (ad.add j) = some u) (h1:∀ u ∈ news,u.oneCell' = true)
  (h63:n + m ≤ maxLen) (hbytes:((n + m) + (n + m) / 4 + 192) * bytes ≤ 281474976710656) (hbase:base ≤ w.heap.size)
  (h:∀ v' w',w'.ownsRow base e size v' (n + m) (xs ++ news) → AppKind w w' v v' n m → wpList P ops Q rest (a.put o.dst v') w'):wpList P ops Q (o :: rest) a w:=by
 refine wpList_plain hgd fun K hK=>?_
 obtain ⟨v',w',hr,h2,h3⟩:=run_append_kind (P:=P) w base t o.type e i z size bytes ht hi hz hsize hby hzs hsz v n xs hown ad m c news hm hl hnews h1 h63 hbytes hbase
 unfold Oper.wp execOp
 simp only [ho,resolve,invoke,builtin,Sem.run_bind,Sem.run_pure,Result.andThen_ok,List.map_toArray,List.map_cons,List.map_nil,hs,hx,hr]
 exact hK _ _ (h v' w' h2 h3)
end
theorem AppKind.keep {w w':World} {v v':Value} {n m base:Nat} {e:TypeId} {size:Nat} {xs news:List Value} (h:AppKind w w' v v' n m) (ho:w.ownsRow base e size v n xs) (ho':w'.ownsRow base e size v' (n + m) (xs ++ news)):w'.ownsRow base e size v n xs:=by
 rcases h with ⟨cap,_,hg⟩ | ⟨g,cap,rfl,rfl,hg⟩
 ·exact ho.kept hg (by cases hv:v.ownBlock <;> simp)
 ·refine ⟨ho.1,.inr ?_⟩
  rcases ho.2 with ⟨hv,_⟩ | ⟨g0,cap0,cur0,hv,hb0,_,hn0,hc0,_,_⟩
  ·cases hv
  ·cases hv
   rcases ho'.2 with ⟨hv,_⟩ | ⟨g1,cap1,cur1,hv,hb1,hh1,hn1,hc1,hs1,ht1⟩
   ·cases hv
   ·cases hv
    refine ⟨g,cap,cur1,rfl,hb0,hh1,hn0,hc0,hs1,?_⟩
    have hx:=ho.1
    have:cur1.toList.take (n * size) = (cur1.toList.take ((n + m) * size)).take (n * size):=by
     rw [List.take_take,Nat.min_eq_left (Nat.mul_le_mul_right _ (by omega))]
    rw [this,ht1,← hx,List.take_left]
theorem AppKind.fr {w w':World} {v v':Value} {n m:Nat} (h:AppKind w w' v v' n m):Fr (fun q=>v.ownBlock = some q) w w':=by
 rcases h with ⟨cap,_,hg⟩ | ⟨g,cap,rfl,rfl,hg⟩
 ·exact Fr.of_grown hg (fun k _ e=>by cases e)
 ·exact Fr.of_grown hg (fun k _ e=>e)
theorem AppKind.place {w w':World} {v v':Value} {n m:Nat} (h:AppKind w w' v v' n m):∃ g cap,v' = .slice (some ⟨g,0,none⟩) (n + m) cap ∧ (g = w.heap.size ∨ v.ownBlock = some g):=by
 rcases h with ⟨cap,hv,_⟩ | ⟨g,cap,rfl,hv,_⟩
 ·exact ⟨_,cap,hv,.inl rfl⟩
 ·exact ⟨g,cap,hv,.inr rfl⟩
end
end Go.Proofs.YthcjcjfgdgnljabGreatDoor
