import Derived.Deep.QuietTactic
import Derived.BigQuiet
import Derived.Deep.RegionWith
import Derived.Test.YthcjcjfgdgnljabGreatDoorGAppK
import Derived.Deep.DeepCutAuto
import Derived.Deep.RegionHeldLaw
import Derived.Deep.RegionLaw
import Derived.Deep.LoopGhost
set_option linter.unusedVariables false
set_option maxHeartbeats 4000000
set_option maxRecDepth 8000
open Go.Proofs.Tryz
namespace Go.Proofs.YthcjcjfgdgnljabGreatDoor
open Go.RowKit
def smallN (c:Nat):Bool:=decide (97 ≤ c) && decide (c ≤ 122)
def greatN (c:Nat):Bool:=decide (65 ≤ c) && decide (c ≤ 90)
def digitN (c:Nat):Bool:=decide (48 ≤ c) && decide (c ≤ 57)
def strN (l:List Nat):Value:=.string ⟨(l.map UInt8.ofNat).toArray⟩
theorem retb {a b:Bool} (h:a = b):Ending.returned (.bool a) = .returned (.bool b):=by rw [h]
theorem small_fn (w:World) (c:Nat) (hc:c < 256):CS 106 #[.int .u8 c] w (.bool (smallN c)):=by
 by_cases h1:97 ≤ c
 ·have hd:smallN c = decide ((c:Int) ≤ 122):=by
   have:decide ((c:Int) ≤ 122) = decide (c ≤ 122):=by simp;omega
   rw [this];simp [smallN,h1]
  rw [hd]
  clear hd
  go_enter func106,ntmps106
  go_wp2
  go_ret
  exact ⟨rfl,rfl⟩
 ·have hd:smallN c = false:=by simp [smallN];omega
  rw [hd]
  clear hd
  go_enter func106,ntmps106
  go_wp2
  go_ret
  exact ⟨rfl,rfl⟩
theorem foldl_push (l:List Nat) (r:ByteArray):(l.map (fun b:Nat=>(b:Int))).foldl (fun r n=>r.push (UInt8.ofNat n.toNat)) r = ⟨r.data ++ (l.map UInt8.ofNat).toArray⟩:=by
 induction l generalizing r with
 | nil=>cases r;simp
 | cons b t ih=>simp only [List.map_cons,List.foldl_cons];rw [ih];cases r;simp [ByteArray.push]
theorem bytes_str (u:World) (bs:List Nat):(convert 128 9 (.slice (some ⟨u.heap.size,0,none⟩) bs.length bs.length)).run prog (u.alloc (.cells (bs.map (fun b:Nat=>Value.int .u8 b)).toArray 5)) =
  .ok (strN bs) (u.alloc (.cells (bs.map (fun b:Nat=>Value.int .u8 b)).toArray 5)):=by
 rw [run_convert_bytes_string _ 128 9 5 _ _ _ underlying128 underlying5 underlying9]
 rw [run_bytesToString _ _ _ _ (bs.map (fun b:Nat=>(b:Int))) ?_]
 ·rw [foldl_push];simp [strN]
 ·have h:=run_loadCells_list (P:=prog) (w:=u.alloc (.cells (bs.map (fun b:Nat=>Value.int .u8 b)).toArray 5)) ⟨u.heap.size,0,none⟩ (bs.map (fun b:Nat=>Value.int .u8 b)) (fun j v hj=>by
   have hadd:(⟨u.heap.size,0,none⟩:Addr).add j = ⟨u.heap.size,j,none⟩:=by unfold Addr.add;split <;> simp_all
   rw [hadd,World.cell?_alloc_at _ _ _ _ rfl]
   simpa using hj)
  simpa [Function.comp_def] using h
theorem great_fn (w:World) (c:Nat) (hc:c < 256):CS 88 #[.int .u8 c] w (.bool (greatN c)):=by
 by_cases h1:65 ≤ c
 ·have hd:greatN c = decide ((c:Int) ≤ 90):=by
   have:decide ((c:Int) ≤ 90) = decide (c ≤ 90):=by simp;omega
   rw [this];simp [greatN,h1]
  rw [hd]
  clear hd
  go_enter func88,ntmps88
  go_wp2
  go_ret
  exact ⟨rfl,rfl⟩
 ·have hd:greatN c = false:=by simp [greatN];omega
  rw [hd]
  clear hd
  go_enter func88,ntmps88
  go_wp2
  go_ret
  exact ⟨rfl,rfl⟩
theorem digit_fn (w:World) (c:Nat) (hc:c < 256):CS 109 #[.int .u8 c] w (.bool (digitN c)):=by
 by_cases h1:48 ≤ c
 ·have hd:digitN c = decide ((c:Int) ≤ 57):=by
   have:decide ((c:Int) ≤ 57) = decide (c ≤ 57):=by simp;omega
   rw [this];simp [digitN,h1]
  rw [hd]
  clear hd
  go_enter func109,ntmps109
  go_wp2
  go_ret
  exact ⟨rfl,rfl⟩
 ·have hd:digitN c = false:=by simp [digitN];omega
  rw [hd]
  clear hd
  go_enter func109,ntmps109
  go_wp2
  go_ret
  exact ⟨rfl,rfl⟩
def stmtN (c:Nat):List Nat :=
 if smallN c then [83,59,103,61,c] else if greatN c then [83,59,112,c] else if c = 33 then [83,59,111,c] else if c = 126 then [83,59,86,c]
 else if c = 63 then [83,125,83,123,125,83,123,111,c] else if c = 64 then [83,125,83,123,111,c] else []
theorem neI {c k:Nat} (h:c ≠ k):((c:Int) == (k:Int)) = false:=bF (by omega)
theorem stmt_33 (w:World) :
  CR 126 #[.int .u8 33] w (strN [83,59,111,33]):=by
 have hv:∀ u:World,(convert 128 9 (.slice (some ⟨u.heap.size,0,none⟩) 4 4)).run prog (u.alloc (.cells #[.int .u8 83,.int .u8 59,.int .u8 111,.int .u8 33] 5)) = .ok (strN [83,59,111,33]) (u.alloc (.cells #[.int .u8 83,.int .u8 59,.int .u8 111,.int .u8 33] 5)) :=
  fun u=>bytes_str u [83,59,111,33]
 have hs:smallN 33 = false:=rfl
 have hg:greatN 33 = false:=rfl
 go_enter func126,ntmps126
 go_wp2_with (first | (go_at_call 106;refine sameC (small_fn _ 33 (by omega)) ?_;rw [hs]) | (go_at_call 88;refine sameC (great_fn _ 33 (by omega)) ?_;rw [hg]))
 go_ret
 exact ⟨rfl,by repeat (first | exact Fr.refl _ _ | refine Fr.alloc ?_ _)⟩
theorem stmt_126 (w:World) :
  CR 126 #[.int .u8 126] w (strN [83,59,86,126]):=by
 have hv:∀ u:World,(convert 128 9 (.slice (some ⟨u.heap.size,0,none⟩) 4 4)).run prog (u.alloc (.cells #[.int .u8 83,.int .u8 59,.int .u8 86,.int .u8 126] 5)) = .ok (strN [83,59,86,126]) (u.alloc (.cells #[.int .u8 83,.int .u8 59,.int .u8 86,.int .u8 126] 5)) :=
  fun u=>bytes_str u [83,59,86,126]
 have hs:smallN 126 = false:=rfl
 have hg:greatN 126 = false:=rfl
 go_enter func126,ntmps126
 go_wp2_with (first | (go_at_call 106;refine sameC (small_fn _ 126 (by omega)) ?_;rw [hs]) | (go_at_call 88;refine sameC (great_fn _ 126 (by omega)) ?_;rw [hg]))
 go_ret
 exact ⟨rfl,by repeat (first | exact Fr.refl _ _ | refine Fr.alloc ?_ _)⟩
theorem stmt_63 (w:World) :
  CR 126 #[.int .u8 63] w (strN [83,125,83,123,125,83,123,111,63]):=by
 have hv:∀ u:World,(convert 128 9 (.slice (some ⟨u.heap.size,0,none⟩) 9 9)).run prog (u.alloc (.cells #[.int .u8 83,.int .u8 125,.int .u8 83,.int .u8 123,.int .u8 125,.int .u8 83,.int .u8 123,.int .u8 111,.int .u8 63] 5)) = .ok (strN [83,125,83,123,125,83,123,111,63]) (u.alloc (.cells #[.int .u8 83,.int .u8 125,.int .u8 83,.int .u8 123,.int .u8 125,.int .u8 83,.int .u8 123,.int .u8 111,.int .u8 63] 5)) :=
  fun u=>bytes_str u [83,125,83,123,125,83,123,111,63]
 have hs:smallN 63 = false:=rfl
 have hg:greatN 63 = false:=rfl
 go_enter func126,ntmps126
 go_wp2_with (first | (go_at_call 106;refine sameC (small_fn _ 63 (by omega)) ?_;rw [hs]) | (go_at_call 88;refine sameC (great_fn _ 63 (by omega)) ?_;rw [hg]))
 go_ret
 exact ⟨rfl,by repeat (first | exact Fr.refl _ _ | refine Fr.alloc ?_ _)⟩
theorem stmt_64 (w:World) :
  CR 126 #[.int .u8 64] w (strN [83,125,83,123,111,64]):=by
 have hv:∀ u:World,(convert 128 9 (.slice (some ⟨u.heap.size,0,none⟩) 6 6)).run prog (u.alloc (.cells #[.int .u8 83,.int .u8 125,.int .u8 83,.int .u8 123,.int .u8 111,.int .u8 64] 5)) = .ok (strN [83,125,83,123,111,64]) (u.alloc (.cells #[.int .u8 83,.int .u8 125,.int .u8 83,.int .u8 123,.int .u8 111,.int .u8 64] 5)) :=
  fun u=>bytes_str u [83,125,83,123,111,64]
 have hs:smallN 64 = false:=rfl
 have hg:greatN 64 = false:=rfl
 go_enter func126,ntmps126
 go_wp2_with (first | (go_at_call 106;refine sameC (small_fn _ 64 (by omega)) ?_;rw [hs]) | (go_at_call 88;refine sameC (great_fn _ 64 (by omega)) ?_;rw [hg]))
 go_ret
 exact ⟨rfl,by repeat (first | exact Fr.refl _ _ | refine Fr.alloc ?_ _)⟩
theorem stmt_small (w:World) (c:Nat) (hc:c < 256) (hs:smallN c = true) :
  CR 126 #[.int .u8 c] w (strN [83,59,103,61,c]):=by
 have hv:∀ u:World,(convert 128 9 (.slice (some ⟨u.heap.size,0,none⟩) 5 5)).run prog (u.alloc (.cells #[.int .u8 83,.int .u8 59,.int .u8 103,.int .u8 61,.int .u8 c] 5)) = .ok (strN [83,59,103,61,c]) (u.alloc (.cells #[.int .u8 83,.int .u8 59,.int .u8 103,.int .u8 61,.int .u8 c] 5)) :=
  fun u=>bytes_str u [83,59,103,61,c]
 go_enter func126,ntmps126
 go_wp2_with (first | (go_at_call 106;refine sameC (small_fn _ c (by omega)) ?_;rw [hs]))
 go_ret
 exact ⟨rfl,by repeat (first | exact Fr.refl _ _ | refine Fr.alloc ?_ _)⟩
theorem stmt_great (w:World) (c:Nat) (hc:c < 256) (hs:smallN c = false) (hg:greatN c = true) :
  CR 126 #[.int .u8 c] w (strN [83,59,112,c]):=by
 have hv:∀ u:World,(convert 128 9 (.slice (some ⟨u.heap.size,0,none⟩) 4 4)).run prog (u.alloc (.cells #[.int .u8 83,.int .u8 59,.int .u8 112,.int .u8 c] 5)) = .ok (strN [83,59,112,c]) (u.alloc (.cells #[.int .u8 83,.int .u8 59,.int .u8 112,.int .u8 c] 5)) :=
  fun u=>bytes_str u [83,59,112,c]
 go_enter func126,ntmps126
 go_wp2_with (first | (go_at_call 106;refine sameC (small_fn _ c (by omega)) ?_;rw [hs]) | (go_at_call 88;refine sameC (great_fn _ c (by omega)) ?_;rw [hg]))
 go_ret
 exact ⟨rfl,by repeat (first | exact Fr.refl _ _ | refine Fr.alloc ?_ _)⟩
theorem stmt_none (w:World) (c:Nat) (hc:c < 256) (hs:smallN c = false) (hg:greatN c = false) (b1:((c:Int) == 33) = false) (b2:((c:Int) == 126) = false) (b3:((c:Int) == 63) = false) (b4:((c:Int) == 64) = false) :
  CR 126 #[.int .u8 c] w (strN []):=by
 go_enter func126,ntmps126
 go_wp2_with (first | (go_at_call 106;refine sameC (small_fn _ c (by omega)) ?_;rw [hs]) | (go_at_call 88;refine sameC (great_fn _ c (by omega)) ?_;rw [hg]))
 go_ret
 exact ⟨rfl,by repeat (first | exact Fr.refl _ _ | refine Fr.alloc ?_ _)⟩
theorem stmt_fn (w:World) (c:Nat) (hc:c < 256):CR 126 #[.int .u8 c] w (strN (stmtN c)):=by
 cases hs:smallN c
 ·cases hg:greatN c
  ·by_cases h1:c = 33
   ·subst h1;exact stmt_33 w
   ·by_cases h2:c = 126
    ·subst h2;exact stmt_126 w
    ·by_cases h3:c = 63
     ·subst h3;exact stmt_63 w
     ·by_cases h4:c = 64
      ·subst h4;exact stmt_64 w
      ·have e:stmtN c = []:=by simp [stmtN,hs,hg,h1,h2,h3,h4]
       rw [e]
       exact stmt_none w c hc hs hg (neI h1) (neI h2) (neI h3) (neI h4)
  ·have e:stmtN c = [83,59,112,c]:=by simp [stmtN,hs,hg]
   rw [e]
   exact stmt_great w c hc hs hg
 ·have e:stmtN c = [83,59,103,61,c]:=by simp [stmtN,hs]
  rw [e]
  exact stmt_small w c hc hs
def chosenN (top c:Nat):List Nat × Bool :=
 if top = 83 then (stmtN c,true)
 else if top = 111 then (if digitN c then ([100,c],true) else ([c],smallN c))
 else if top = 100 then (if digitN c then ([101,c],true) else ([],true))
 else if top = 101 then (if digitN c then ([c],true) else ([],true))
 else if top = 86 then ([c],greatN c)
 else if top = 103 then (if c = 35 then ([86,c],true) else if greatN c then ([93,111,91,c],true) else ([116,111],true))
 else if top = 116 then (if c = 43 ∨ c = 45 ∨ c = 42 ∨ c = 47 ∨ c = 60 then ([111,c],true) else ([],true))
 else if top = 71 then (if c = 91 then ([93,111,c],true) else ([86],true))
 else (if c = 91 then ([111,61,93,111,c],true) else ([71,61],true))
theorem bytes_strW (W:World) (b:Nat) (bs:List Nat) (h:∀ j v,(bs.map (fun b:Nat=>Value.int .u8 b))[j]? = some v → W.cell? ⟨b,j,none⟩ = some v) :
  (convert 128 9 (.slice (some ⟨b,0,none⟩) bs.length bs.length)).run prog W = .ok (strN bs) W:=by
 rw [run_convert_bytes_string _ 128 9 5 _ _ _ underlying128 underlying5 underlying9]
 rw [run_bytesToString _ _ _ _ (bs.map (fun b:Nat=>(b:Int))) ?_]
 ·rw [foldl_push];simp [strN]
 ·have g:=run_loadCells_list (P:=prog) (w:=W) ⟨b,0,none⟩ (bs.map (fun b:Nat=>Value.int .u8 b)) (fun j v hj=>by
   have hadd:(⟨b,0,none⟩:Addr).add j = ⟨b,j,none⟩:=by unfold Addr.add;split <;> simp_all
   rw [hadd];exact h j v hj)
  simpa [Function.comp_def] using g
def isPart (b:Nat):Prop:=b = 83 ∨ b = 111 ∨ b = 100 ∨ b = 101 ∨ b = 86 ∨ b = 103 ∨ b = 116 ∨ b = 71 ∨ b = 112
theorem ch_more (w:World) (c:Nat) (hc:c < 256) :
  CR 101 #[.int .u8 83,.int .u8 c] w (.tuple #[strN (stmtN c),.bool true]):=by
 generalize hl:stmtN c = l
 have HS:Hid (∀ W:World,CR 126 #[.int .u8 c] W (strN l)):=fun W=>by rw [← hl];exact stmt_fn W c hc
 clear hl
 unfold strN at HS ⊢
 go_enter func101,ntmps101
 go_wp2_with fail
 refine (HS.out _).mono ?_
 rintro e w1 ⟨rfl,hF⟩
 go_wp2
 go_ret2
 exact ⟨rfl,hF⟩
theorem ch_o1 (w:World) (c:Nat) (hc:c < 256) (hd:digitN c = true) :
  CR 101 #[.int .u8 111,.int .u8 c] w (.tuple #[strN [100,c],.bool true]):=by
 have hv:∀ u:World,(convert 128 9 (.slice (some ⟨u.heap.size,0,none⟩) 2 2)).run prog (u.alloc (.cells #[.int .u8 100,.int .u8 c] 5)) = .ok (strN [100,c]) (u.alloc (.cells #[.int .u8 100,.int .u8 c] 5)) :=
  fun u=>bytes_str u [100,c]
 go_enter func101,ntmps101
 go_wp2_with (first | (go_at_call 109;refine sameC (digit_fn _ c (by omega)) ?_;rw [hd]))
 go_ret2
 exact ⟨rfl,by repeat (first | exact Fr.refl _ _ | refine Fr.alloc ?_ _)⟩
theorem ch_o2 (w:World) (c:Nat) (hc:c < 256) (hd:digitN c = false) :
  CR 101 #[.int .u8 111,.int .u8 c] w (.tuple #[strN [c],.bool (smallN c)]):=by
 have hv:∀ u:World,(convert 128 9 (.slice (some ⟨u.heap.size,0,none⟩) 1 1)).run prog (u.alloc (.cells #[.int .u8 c] 5)) = .ok (strN [c]) (u.alloc (.cells #[.int .u8 c] 5)) :=
  fun u=>bytes_str u [c]
 have hv2:∀ u:World,(convert 128 9 (.slice (some ⟨u.heap.size,0,none⟩) 1 1)).run prog (u.alloc (.cells #[.int .u8 c] 5)).drew = .ok (strN [c]) (u.alloc (.cells #[.int .u8 c] 5)).drew:=fun u=>bytes_strW _ u.heap.size [c] (fun j v hj=>by match j,hj with | 0,hj=>(simp at hj;subst hj;simp))
 go_enter func101,ntmps101
 go_wp2_with (first | (go_at_call 109;refine sameC (digit_fn _ c (by omega)) ?_;rw [hd]))
 go_region_with (go_at_call 106;refine (small_fn _ c hc).mono ?_;rintro e w' ⟨rfl,rfl⟩)
 all_goals
  go_wp2
  go_ret2
  exact ⟨rfl,by repeat (first | exact Fr.refl _ _ | refine Fr.drew ?_ | refine Fr.alloc ?_ _)⟩
theorem ch_d1 (w:World) (c:Nat) (hc:c < 256) (hd:digitN c = true) :
  CR 101 #[.int .u8 100,.int .u8 c] w (.tuple #[strN [101,c],.bool true]):=by
 have hv:∀ u:World,(convert 128 9 (.slice (some ⟨u.heap.size,0,none⟩) 2 2)).run prog (u.alloc (.cells #[.int .u8 101,.int .u8 c] 5)) = .ok (strN [101,c]) (u.alloc (.cells #[.int .u8 101,.int .u8 c] 5)) :=
  fun u=>bytes_str u [101,c]
 go_enter func101,ntmps101
 go_wp2_with (first | (go_at_call 109;refine sameC (digit_fn _ c (by omega)) ?_;rw [hd]))
 go_ret2
 exact ⟨rfl,by repeat (first | exact Fr.refl _ _ | refine Fr.alloc ?_ _)⟩
theorem ch_d2 (w:World) (c:Nat) (hc:c < 256) (hd:digitN c = false) :
  CR 101 #[.int .u8 100,.int .u8 c] w (.tuple #[strN [],.bool true]):=by
 go_enter func101,ntmps101
 go_wp2_with (first | (go_at_call 109;refine sameC (digit_fn _ c (by omega)) ?_;rw [hd]))
 go_ret2
 exact ⟨rfl,by repeat (first | exact Fr.refl _ _ | refine Fr.alloc ?_ _)⟩
theorem ch_e1 (w:World) (c:Nat) (hc:c < 256) (hd:digitN c = true) :
  CR 101 #[.int .u8 101,.int .u8 c] w (.tuple #[strN [c],.bool true]):=by
 have hv:∀ u:World,(convert 128 9 (.slice (some ⟨u.heap.size,0,none⟩) 1 1)).run prog (u.alloc (.cells #[.int .u8 c] 5)) = .ok (strN [c]) (u.alloc (.cells #[.int .u8 c] 5)) :=
  fun u=>bytes_str u [c]
 go_enter func101,ntmps101
 go_wp2_with (first | (go_at_call 109;refine sameC (digit_fn _ c (by omega)) ?_;rw [hd]))
 go_ret2
 exact ⟨rfl,by repeat (first | exact Fr.refl _ _ | refine Fr.alloc ?_ _)⟩
theorem ch_e2 (w:World) (c:Nat) (hc:c < 256) (hd:digitN c = false) :
  CR 101 #[.int .u8 101,.int .u8 c] w (.tuple #[strN [],.bool true]):=by
 go_enter func101,ntmps101
 go_wp2_with (first | (go_at_call 109;refine sameC (digit_fn _ c (by omega)) ?_;rw [hd]))
 go_ret2
 exact ⟨rfl,by repeat (first | exact Fr.refl _ _ | refine Fr.alloc ?_ _)⟩
theorem ch_V (w:World) (c:Nat) (hc:c < 256) :
  CR 101 #[.int .u8 86,.int .u8 c] w (.tuple #[strN [c],.bool (greatN c)]):=by
 have hv:∀ u:World,(convert 128 9 (.slice (some ⟨u.heap.size,0,none⟩) 1 1)).run prog (u.alloc (.cells #[.int .u8 c] 5)) = .ok (strN [c]) (u.alloc (.cells #[.int .u8 c] 5)) :=
  fun u=>bytes_str u [c]
 have hv2:∀ u:World,(convert 128 9 (.slice (some ⟨u.heap.size,0,none⟩) 1 1)).run prog (u.alloc (.cells #[.int .u8 c] 5)).drew = .ok (strN [c]) (u.alloc (.cells #[.int .u8 c] 5)).drew:=fun u=>bytes_strW _ u.heap.size [c] (fun j v hj=>by match j,hj with | 0,hj=>(simp at hj;subst hj;simp))
 go_enter func101,ntmps101
 go_wp2_with fail
 go_region_with (go_at_call 88;refine (great_fn _ c hc).mono ?_;rintro e w' ⟨rfl,rfl⟩)
 all_goals
  go_wp2
  go_ret2
  exact ⟨rfl,by repeat (first | exact Fr.refl _ _ | refine Fr.drew ?_ | refine Fr.alloc ?_ _)⟩
theorem ch_g1 (w:World) :
  CR 101 #[.int .u8 103,.int .u8 35] w (.tuple #[strN [86,35],.bool true]):=by
 have hv:∀ u:World,(convert 128 9 (.slice (some ⟨u.heap.size,0,none⟩) 2 2)).run prog (u.alloc (.cells #[.int .u8 86,.int .u8 35] 5)) = .ok (strN [86,35]) (u.alloc (.cells #[.int .u8 86,.int .u8 35] 5)) :=
  fun u=>bytes_str u [86,35]
 go_enter func101,ntmps101
 go_wp2_with fail
 go_ret2
 exact ⟨rfl,by repeat (first | exact Fr.refl _ _ | refine Fr.alloc ?_ _)⟩
theorem ch_g2 (w:World) (c:Nat) (hc:c < 256) (b1:((c:Int) == 35) = false) (hg:greatN c = true) :
  CR 101 #[.int .u8 103,.int .u8 c] w (.tuple #[strN [93,111,91,c],.bool true]):=by
 have hv:∀ u:World,(convert 128 9 (.slice (some ⟨u.heap.size,0,none⟩) 4 4)).run prog (u.alloc (.cells #[.int .u8 93,.int .u8 111,.int .u8 91,.int .u8 c] 5)) = .ok (strN [93,111,91,c]) (u.alloc (.cells #[.int .u8 93,.int .u8 111,.int .u8 91,.int .u8 c] 5)) :=
  fun u=>bytes_str u [93,111,91,c]
 go_enter func101,ntmps101
 go_wp2_with (first | (go_at_call 88;refine sameC (great_fn _ c (by omega)) ?_;rw [hg]))
 go_ret2
 exact ⟨rfl,by repeat (first | exact Fr.refl _ _ | refine Fr.alloc ?_ _)⟩
theorem ch_g3 (w:World) (c:Nat) (hc:c < 256) (b1:((c:Int) == 35) = false) (hg:greatN c = false) :
  CR 101 #[.int .u8 103,.int .u8 c] w (.tuple #[strN [116,111],.bool true]):=by
 have hv:∀ u:World,(convert 128 9 (.slice (some ⟨u.heap.size,0,none⟩) 2 2)).run prog (u.alloc (.cells #[.int .u8 116,.int .u8 111] 5)) = .ok (strN [116,111]) (u.alloc (.cells #[.int .u8 116,.int .u8 111] 5)) :=
  fun u=>bytes_str u [116,111]
 go_enter func101,ntmps101
 go_wp2_with (first | (go_at_call 88;refine sameC (great_fn _ c (by omega)) ?_;rw [hg]))
 go_ret2
 exact ⟨rfl,by repeat (first | exact Fr.refl _ _ | refine Fr.alloc ?_ _)⟩
theorem ch_t43 (w:World) :
  CR 101 #[.int .u8 116,.int .u8 43] w (.tuple #[strN [111,43],.bool true]):=by
 have hv:∀ u:World,(convert 128 9 (.slice (some ⟨u.heap.size,0,none⟩) 2 2)).run prog (u.alloc (.cells #[.int .u8 111,.int .u8 43] 5)) = .ok (strN [111,43]) (u.alloc (.cells #[.int .u8 111,.int .u8 43] 5)) :=
  fun u=>bytes_str u [111,43]
 go_enter func101,ntmps101
 go_wp2_with fail
 go_ret2
 exact ⟨rfl,by repeat (first | exact Fr.refl _ _ | refine Fr.alloc ?_ _)⟩
theorem ch_t45 (w:World) :
  CR 101 #[.int .u8 116,.int .u8 45] w (.tuple #[strN [111,45],.bool true]):=by
 have hv:∀ u:World,(convert 128 9 (.slice (some ⟨u.heap.size,0,none⟩) 2 2)).run prog (u.alloc (.cells #[.int .u8 111,.int .u8 45] 5)) = .ok (strN [111,45]) (u.alloc (.cells #[.int .u8 111,.int .u8 45] 5)) :=
  fun u=>bytes_str u [111,45]
 go_enter func101,ntmps101
 go_wp2_with fail
 go_ret2
 exact ⟨rfl,by repeat (first | exact Fr.refl _ _ | refine Fr.alloc ?_ _)⟩
theorem ch_t42 (w:World) :
  CR 101 #[.int .u8 116,.int .u8 42] w (.tuple #[strN [111,42],.bool true]):=by
 have hv:∀ u:World,(convert 128 9 (.slice (some ⟨u.heap.size,0,none⟩) 2 2)).run prog (u.alloc (.cells #[.int .u8 111,.int .u8 42] 5)) = .ok (strN [111,42]) (u.alloc (.cells #[.int .u8 111,.int .u8 42] 5)) :=
  fun u=>bytes_str u [111,42]
 go_enter func101,ntmps101
 go_wp2_with fail
 go_ret2
 exact ⟨rfl,by repeat (first | exact Fr.refl _ _ | refine Fr.alloc ?_ _)⟩
theorem ch_t47 (w:World) :
  CR 101 #[.int .u8 116,.int .u8 47] w (.tuple #[strN [111,47],.bool true]):=by
 have hv:∀ u:World,(convert 128 9 (.slice (some ⟨u.heap.size,0,none⟩) 2 2)).run prog (u.alloc (.cells #[.int .u8 111,.int .u8 47] 5)) = .ok (strN [111,47]) (u.alloc (.cells #[.int .u8 111,.int .u8 47] 5)) :=
  fun u=>bytes_str u [111,47]
 go_enter func101,ntmps101
 go_wp2_with fail
 go_ret2
 exact ⟨rfl,by repeat (first | exact Fr.refl _ _ | refine Fr.alloc ?_ _)⟩
theorem ch_t60 (w:World) :
  CR 101 #[.int .u8 116,.int .u8 60] w (.tuple #[strN [111,60],.bool true]):=by
 have hv:∀ u:World,(convert 128 9 (.slice (some ⟨u.heap.size,0,none⟩) 2 2)).run prog (u.alloc (.cells #[.int .u8 111,.int .u8 60] 5)) = .ok (strN [111,60]) (u.alloc (.cells #[.int .u8 111,.int .u8 60] 5)) :=
  fun u=>bytes_str u [111,60]
 go_enter func101,ntmps101
 go_wp2_with fail
 go_ret2
 exact ⟨rfl,by repeat (first | exact Fr.refl _ _ | refine Fr.alloc ?_ _)⟩
theorem ch_t (w:World) (c:Nat) (_hc:c < 256) (b43:((c:Int) == 43) = false) (b45:((c:Int) == 45) = false) (b42:((c:Int) == 42) = false) (b47:((c:Int) == 47) = false) (b60:((c:Int) == 60) = false) :
  CR 101 #[.int .u8 116,.int .u8 c] w (.tuple #[strN [],.bool true]):=by
 go_enter func101,ntmps101
 go_wp2_with fail
 go_ret2
 exact ⟨rfl,by repeat (first | exact Fr.refl _ _ | refine Fr.alloc ?_ _)⟩
theorem ch_G1 (w:World) :
  CR 101 #[.int .u8 71,.int .u8 91] w (.tuple #[strN [93,111,91],.bool true]):=by
 have hv:∀ u:World,(convert 128 9 (.slice (some ⟨u.heap.size,0,none⟩) 3 3)).run prog (u.alloc (.cells #[.int .u8 93,.int .u8 111,.int .u8 91] 5)) = .ok (strN [93,111,91]) (u.alloc (.cells #[.int .u8 93,.int .u8 111,.int .u8 91] 5)) :=
  fun u=>bytes_str u [93,111,91]
 go_enter func101,ntmps101
 go_wp2_with fail
 go_ret2
 exact ⟨rfl,by repeat (first | exact Fr.refl _ _ | refine Fr.alloc ?_ _)⟩
theorem ch_G2 (w:World) (c:Nat) (_hc:c < 256) (b1:((c:Int) == 91) = false) :
  CR 101 #[.int .u8 71,.int .u8 c] w (.tuple #[strN [86],.bool true]):=by
 have hv:∀ u:World,(convert 128 9 (.slice (some ⟨u.heap.size,0,none⟩) 1 1)).run prog (u.alloc (.cells #[.int .u8 86] 5)) = .ok (strN [86]) (u.alloc (.cells #[.int .u8 86] 5)) :=
  fun u=>bytes_str u [86]
 go_enter func101,ntmps101
 go_wp2_with fail
 go_ret2
 exact ⟨rfl,by repeat (first | exact Fr.refl _ _ | refine Fr.alloc ?_ _)⟩
theorem ch_p1 (w:World) :
  CR 101 #[.int .u8 112,.int .u8 91] w (.tuple #[strN [111,61,93,111,91],.bool true]):=by
 have hv:∀ u:World,(convert 128 9 (.slice (some ⟨u.heap.size,0,none⟩) 5 5)).run prog (u.alloc (.cells #[.int .u8 111,.int .u8 61,.int .u8 93,.int .u8 111,.int .u8 91] 5)) = .ok (strN [111,61,93,111,91]) (u.alloc (.cells #[.int .u8 111,.int .u8 61,.int .u8 93,.int .u8 111,.int .u8 91] 5)) :=
  fun u=>bytes_str u [111,61,93,111,91]
 go_enter func101,ntmps101
 go_wp2_with fail
 go_ret2
 exact ⟨rfl,by repeat (first | exact Fr.refl _ _ | refine Fr.alloc ?_ _)⟩
theorem ch_p2 (w:World) (c:Nat) (_hc:c < 256) (b1:((c:Int) == 91) = false) :
  CR 101 #[.int .u8 112,.int .u8 c] w (.tuple #[strN [71,61],.bool true]):=by
 have hv:∀ u:World,(convert 128 9 (.slice (some ⟨u.heap.size,0,none⟩) 2 2)).run prog (u.alloc (.cells #[.int .u8 71,.int .u8 61] 5)) = .ok (strN [71,61]) (u.alloc (.cells #[.int .u8 71,.int .u8 61] 5)) :=
  fun u=>bytes_str u [71,61]
 go_enter func101,ntmps101
 go_wp2_with fail
 go_ret2
 exact ⟨rfl,by repeat (first | exact Fr.refl _ _ | refine Fr.alloc ?_ _)⟩
theorem chosen_fn (w:World) (t c:Nat) (hc:c < 256) (ht:isPart t) :
  CR 101 #[.int .u8 t,.int .u8 c] w (.tuple #[strN (chosenN t c).1,.bool (chosenN t c).2]):=by
 rcases ht with rfl | rfl | rfl | rfl | rfl | rfl | rfl | rfl | rfl
 ·exact ch_more w c hc
 ·cases hd:digitN c
  ·have e:chosenN 111 c = ([c],smallN c):=by simp [chosenN,hd]
   rw [e];exact ch_o2 w c hc hd
  ·have e:chosenN 111 c = ([100,c],true):=by simp [chosenN,hd]
   rw [e];exact ch_o1 w c hc hd
 ·cases hd:digitN c
  ·have e:chosenN 100 c = ([],true):=by simp [chosenN,hd]
   rw [e];exact ch_d2 w c hc hd
  ·have e:chosenN 100 c = ([101,c],true):=by simp [chosenN,hd]
   rw [e];exact ch_d1 w c hc hd
 ·cases hd:digitN c
  ·have e:chosenN 101 c = ([],true):=by simp [chosenN,hd]
   rw [e];exact ch_e2 w c hc hd
  ·have e:chosenN 101 c = ([c],true):=by simp [chosenN,hd]
   rw [e];exact ch_e1 w c hc hd
 ·exact ch_V w c hc
 ·by_cases h:c = 35
  ·subst h;exact ch_g1 w
  ·cases hg:greatN c
   ·have e:chosenN 103 c = ([116,111],true):=by simp [chosenN,h,hg]
    rw [e];exact ch_g3 w c hc (neI h) hg
   ·have e:chosenN 103 c = ([93,111,91,c],true):=by simp [chosenN,h,hg]
    rw [e];exact ch_g2 w c hc (neI h) hg
 ·by_cases h1:c = 43
  ·subst h1;exact ch_t43 w
  ·by_cases h2:c = 45
   ·subst h2;exact ch_t45 w
   ·by_cases h3:c = 42
    ·subst h3;exact ch_t42 w
    ·by_cases h4:c = 47
     ·subst h4;exact ch_t47 w
     ·by_cases h5:c = 60
      ·subst h5;exact ch_t60 w
      ·have e:chosenN 116 c = ([],true):=by simp [chosenN,h1,h2,h3,h4,h5]
       rw [e];exact ch_t w c hc (neI h1) (neI h2) (neI h3) (neI h4) (neI h5)
 ·by_cases h:c = 91
  ·subst h;exact ch_G1 w
  ·have e:chosenN 71 c = ([86],true):=by simp [chosenN,h]
   rw [e];exact ch_G2 w c hc (neI h)
 ·by_cases h:c = 91
  ·subst h;exact ch_p1 w
  ·have e:chosenN 112 c = ([71,61],true):=by simp [chosenN,h]
   rw [e];exact ch_p2 w c hc (neI h)
def partB (b:Nat):Bool:=b == 83 || b == 111 || b == 100 || b == 101 || b == 86 || b == 103 || b == 116 || b == 71 || b == 112
theorem partB_iff (b:Nat):partB b = true ↔ isPart b:=by simp [partB,isPart,or_assoc]
def bt (s:ByteArray) (i:Nat):Nat:=if h:i < s.size then s[i].toNat else 0
theorem bt_in {s:ByteArray} {i:Nat} (h:i < s.size):bt s i = s[i].toNat:=by simp [bt,h]
theorem bt_lt (s:ByteArray) (i:Nat):bt s i < 256:=by
 unfold bt;split
 ·exact UInt8.toNat_lt _
 ·omega
theorem among_any (w:World) (c:Nat) (s:ByteArray) (hs:s.size ≤ 1000) :
  Calls prog 100 #[.int .u8 c,.string s] w fun e w'=>Says (∃ i,i < s.size ∧ bt s i = c) e ∧ w' = w:=by
 go_enter func100,ntmps100
 go_wp2
 go_loop [5] (fun t=>∃ i:Nat,i ≤ s.size ∧ t = .int .i64 i ∧ (∀ j,j < i → bt s j ≠ c)) (fun t=>s.size - (intOf t).toNat)
 case atStart=>exact ⟨0,Nat.zero_le _,rfl,fun j hj=>absurd hj (by omega)⟩
 case round =>
  obtain ⟨i,hi,rfl,hno⟩:=hrel
  have Hno:Hid (∀ j,j < i → bt s j ≠ c):=hno
  clear hno
  by_cases hlt:i < s.size
  ·have Hbt:Hid (bt s i = s[i].toNat):=bt_in hlt
   by_cases he:s[i].toNat = c
   ·have heb:((s[i].toNat:Int) == (c:Int)) = true:=beq_iff_eq.2 (by omega)
    have He:Hid (bt s i = c):=Hbt.out.trans he
    clear he
    go_wp2
    go_ret
    exact ⟨⟨true,rfl,⟨fun _=>⟨i,hlt,He.out⟩,fun _=>rfl⟩⟩,rfl⟩
   ·have heb:((s[i].toNat:Int) == (c:Int)) = false:=bF (by omega)
    have He:Hid (bt s i ≠ c):=by show bt s i ≠ c;rw [Hbt.out];exact he
    clear he
    go_wp2
    go_round
    case rel=>exact ⟨i + 1,by omega,by go_num,fun j hj=>by
     by_cases e:j = i
     ·subst e;exact He.out
     ·exact Hno.out j (by omega)⟩
    case measure=>simp [intOf];omega
  ·go_wp2
   go_ret
   exact ⟨⟨false,rfl,⟨fun e=>absurd e (by simp),fun ⟨j,hj,h⟩=>absurd h (Hno.out j (by omega))⟩⟩,rfl⟩
theorem among_part (w:World) (c:Nat) :
  CS 100 #[.int .u8 c,.string ⟨#[83,111,100,101,86,103,116,71,112]⟩] w (.bool (partB c)):=by
 refine (among_any w c ⟨#[83,111,100,101,86,103,116,71,112]⟩ (by decide)).mono ?_
 rintro e w' ⟨⟨b,rfl,hb⟩,hw⟩
 have key:(∃ i,i < (⟨#[83,111,100,101,86,103,116,71,112]⟩:ByteArray).size ∧ bt ⟨#[83,111,100,101,86,103,116,71,112]⟩ i = c) ↔ isPart c:=by
  constructor
  ·rintro ⟨i,hi,rfl⟩
   have hi':i < 9:=hi
   match i,hi' with
   | 0,_=>exact (partB_iff _).1 rfl
   | 1,_=>exact (partB_iff _).1 rfl
   | 2,_=>exact (partB_iff _).1 rfl
   | 3,_=>exact (partB_iff _).1 rfl
   | 4,_=>exact (partB_iff _).1 rfl
   | 5,_=>exact (partB_iff _).1 rfl
   | 6,_=>exact (partB_iff _).1 rfl
   | 7,_=>exact (partB_iff _).1 rfl
   | 8,_=>exact (partB_iff _).1 rfl
  ·rintro (rfl | rfl | rfl | rfl | rfl | rfl | rfl | rfl | rfl)
   ·exact ⟨0,by decide,rfl⟩
   ·exact ⟨1,by decide,rfl⟩
   ·exact ⟨2,by decide,rfl⟩
   ·exact ⟨3,by decide,rfl⟩
   ·exact ⟨4,by decide,rfl⟩
   ·exact ⟨5,by decide,rfl⟩
   ·exact ⟨6,by decide,rfl⟩
   ·exact ⟨7,by decide,rfl⟩
   ·exact ⟨8,by decide,rfl⟩
 have:b = partB c:=by
  rw [Bool.eq_iff_iff,hb,key,partB_iff]
 rw [this]
 exact ⟨rfl,hw⟩
def entC (e:Nat × Bool):List Value:=[.int .u8 e.1,.bool e.2]
theorem Tryz.infoExp:(prog.info? 132).map (fun i=>(i.zero,i.size,i.bytes)) = some (some (.agg #[.int .u8 0,.bool false]),2,2):=by kernel_rfl
structure StkAt (w:World) (kp base:Nat) (v:Value) (stk:List (Nat × Bool)):Prop where
 c:w.cell? ⟨kp,0,none⟩ = some v
 f:∀ o,w.frozen? ⟨kp,o,none⟩ = false
 row:w.ownsRow base 132 2 v stk.length (stk.flatMap entC)
 ne:v.ownBlock ≠ some kp
theorem step_append_kind {P:Program} {ops:Array Oper} {o:Oper} {a:Act} {w:World} {K:Act → World → Prop} {Q:Exit → Act → World → Prop} {E:Prop}
  (hg:o.guard = none) (s x:Operand) (t:TypeId) (hop:o.op = Op.call { callee:=Callee.builtin Builtin.append,args:=#[s,x],argTypes:=#[t,t] })
  (base:Nat) (e:TypeId) (i:TypeInfo) (z:Value) (size bytes:Nat) (ht:P.underlying t = some (.slice e)) (hi:P.info? e = some i) (hz:i.zero = some z)
  (hsize:i.size = size) (hby:i.bytes = bytes) (hzs:z.cells.size = size) (hsz:0 < size)
  (v:Value) (n:Nat) (xs:List Value) (hs:a.eval s = v) (hown:w.ownsRow base e size v n xs)
  (ad:Addr) (m c:Nat) (news:List Value) (hm:0 < m) (hx:a.eval x = .slice (some ad) m c) (hl:news.length = m * size) (hnews:∀ j u,news[j]? = some u → w.cell? (ad.add j) = some u) (h1:∀ u ∈ news,u.oneCell' = true)
  (h63:n + m ≤ maxLen) (hbytes:((n + m) + (n + m) / 4 + 192) * bytes ≤ 281474976710656) (hbase:base ≤ w.heap.size)
  (hK:∀ v' w',w'.ownsRow base e size v' (n + m) (xs ++ news) → AppKind w w' v v' n m → K (a.put o.dst v') w') :
  if Region.wanted o (yielded ops a.tmps) = true then Oper.wp P o a w K Q else E:=by
 have hw:Region.wanted o (yielded ops a.tmps) = true:=by simp [Region.wanted,hg]
 rw [if_pos hw]
 obtain ⟨v',w',hr,h2,h3⟩:=run_append_kind (P:=P) w base t o.type e i z size bytes ht hi hz hsize hby hzs hsz v n xs hown ad m c news hm hl hnews h1 h63 hbytes hbase
 unfold Oper.wp execOp
 simp only [hop,resolve,invoke,builtin,Sem.run_bind,Sem.run_pure,Result.andThen_ok,List.map_toArray,List.map_cons,List.map_nil,hs,hx,hr]
 exact hK v' w' h2 h3
end Go.Proofs.YthcjcjfgdgnljabGreatDoor
