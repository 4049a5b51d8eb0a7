import Derived.Test.YthcjcjfgdgnljabGreatDoorGExeL
set_option linter.unusedVariables false
set_option maxHeartbeats 4000000
set_option maxRecDepth 8000
open Go.Proofs.Tryz
namespace Go.Proofs.YthcjcjfgdgnljabGreatDoor
def minL (f g:Nat → Bool):List Nat:=(List.range 26).filter (fun k=>f k && !g k)
def ownA:Ac → (Nat → Bool) → Option Nat
 | .make b _,f=>if f b = true then some b else none
 | .move b d,f=>if b ≠ d ∧ f b = true then some b else none
 | _,_=>none
def noF:Nat → Bool:=fun _=>false
section
theorem size_ext {s:ByteArray} {a b:Nat} (h:a ≤ b) (hb:b ≤ s.size):(s.extract a b).size = b - a:=by
 rw [ByteArray.size_extract]
 omega
section
variable {s T:ByteArray} {a i n:Nat}
end
def drB (k:Nat):ByteArray:=⟨#[126,UInt8.ofNat (65 + k),59]⟩
def drsB:List Nat → ByteArray
 | []=>⟨#[]⟩
 | k :: l=>drB k ++ drsB l
end
def ownT (s:ByteArray) (i:Nat) (f:Nat → Bool):Bool:=greatN (bt s i) && (bt s (i + 1) == 61) && (bt s (i + 2) != bt s i) && f (bt s i - 65)
def lowT (s:ByteArray):Nat → Nat → Nat → (Nat → Bool) → ByteArray
 | 0,_,_,_=>⟨#[]⟩
 | F + 1,i,j,f=>if i < j then
   (if bt s i = 63 then s.extract i (bopN s (i + 1) + 1) ++ lowT s F (bopN s (i + 1) + 1) (bbrN s (bopN s (i + 1)) - 1) f ++ drsB (minL (alongF s F (bopN s (i + 1) + 1) (bbrN s (bopN s (i + 1)) - 1) f) (afterF (alongF s F) s i f))
     ++ s.extract (bbrN s (bopN s (i + 1)) - 1) (bbrN s (bopN s (i + 1)) + 1) ++ lowT s F (bbrN s (bopN s (i + 1)) + 1) (bbrN s (bbrN s (bopN s (i + 1))) - 1) f ++ drsB (minL (alongF s F (bbrN s (bopN s (i + 1)) + 1) (bbrN s (bbrN s (bopN s (i + 1))) - 1) f) (afterF (alongF s F) s i f))
     ++ s.extract (bbrN s (bbrN s (bopN s (i + 1))) - 1) (behN s i)
     else if bt s i = 64 then drsB (minL f (afterF (alongF s F) s i f)) ++ s.extract i (bopN s (i + 1) + 1) ++ lowT s F (bopN s (i + 1) + 1) (bbrN s (bopN s (i + 1)) - 1) (afterF (alongF s F) s i f)
     ++ drsB (minL (alongF s F (bopN s (i + 1) + 1) (bbrN s (bopN s (i + 1)) - 1) (afterF (alongF s F) s i f)) (afterF (alongF s F) s i f)) ++ s.extract (bbrN s (bopN s (i + 1)) - 1) (behN s i)
     else (if ownT s i f = true then drB (bt s i - 65) else ⟨#[]⟩) ++ s.extract i (behN s i))
   ++ lowT s F (behN s i) j (afterF (alongF s F) s i f) else ⟨#[]⟩
def lowTT (s:ByteArray):ByteArray:=lowT s (s.size + 1) 0 s.size noF ++ drsB (minL (alongF s (s.size + 1) 0 s.size noF) noF)
theorem own_text {s:ByteArray} {i m:Nat} (hS:Simple s i m) (f:Nat → Bool):ownA (acN s i) f = if ownT s i f = true then some (bt s i - 65) else none:=by
 have sm:smallN (bt s i) = true → ownT s i f = false:=fun h=>by
  have:=(sm_ne h).2.2
  unfold ownT
  rw [this]
  rfl
 have ng:greatN (bt s i) = false → ownT s i f = false:=fun h=>by unfold ownT;rw [h];rfl
 rcases hS with q | q | q | q | q | q | q | q | q
 ·rw [acN_size q,sm q.1];rfl
 ·rw [acN_load q,sm q.1];rfl
 ·obtain ⟨h1,h2,k,h5,h6,hm⟩:=q
  rw [acN_set h1 h5 h6,sm h1];rfl
 ·obtain ⟨h1,h2,k,l,h5,h6,h7,h8,hm⟩:=q
  rw [acN_bin h1 h5 h6 (byte_in rfl (by unfold isOp at h6;omega)),sm h1];rfl
 ·obtain ⟨h1,h2,k,l,h5,h6,h7,h8,h9,hm⟩:=q
  rw [acN_store h1 h2 h5 h6,show ownT s i f = false by unfold ownT;rw [h2];simp];rfl
 ·have h1:=q.1
  have h2:=q.2.1
  have h3:=q.2.2.1
  rw [acN_make q]
  have hne:(bt s (i + 2) != bt s i) = true:=bne_iff_ne.2 (fun e=>by rw [← e,h3] at h1;simp [greatN] at h1)
  have e:ownT s i f = f (bt s i - 65):=by unfold ownT;rw [h1,h2,hne];simp
  rw [e]
  rfl
 ·have h1:=q.1
  have h2:=q.2.1
  have h3:=q.2.2.1
  rw [acN_move q]
  show (if bt s i - 65 ≠ bt s (i + 2) - 65 ∧ f (bt s i - 65) = true then some (bt s i - 65) else none) = _
  unfold ownT
  rw [h1,h2]
  by_cases e:bt s (i + 2) = bt s i
  ·rw [e]
   simp
  ·have hne:(bt s (i + 2) != bt s i) = true:=bne_iff_ne.2 e
   have hne2:bt s i - 65 ≠ bt s (i + 2) - 65:=fun q2=>e (by simp [greatN] at h1 h3;omega)
   rw [hne]
   simp [hne2]
 ·rw [acN_print q.1,ng (by rw [q.1];rfl)];rfl
 ·rw [acN_drop q.1,ng (by rw [q.1];rfl)];rfl
section
open Go.RowKit
theorem drsB_snoc:∀ (l:List Nat) (k:Nat),drsB (l ++ [k]) = drsB l ++ drB k
 | [],k=>by
  show drB k ++ (⟨#[]⟩:ByteArray) = (⟨#[]⟩:ByteArray) ++ drB k
  apply ByteArray.ext
  simp
 | x :: l,k=>by
  show drB x ++ drsB (l ++ [k]) = (drB x ++ drsB l) ++ drB k
  rw [drsB_snoc l k,ByteArray.append_assoc]
def minT (f g:Nat → Bool) (i:Nat):List Nat:=(List.range i).filter (fun k=>f k && !g k)
theorem minT_yes {f g:Nat → Bool} {i:Nat} (h:(f i && !g i) = true):minT f g (i + 1) = minT f g i ++ [i]:=by
 unfold minT
 rw [List.range_succ,List.filter_append]
 simp [h]
theorem minT_no {f g:Nat → Bool} {i:Nat} (h:(f i && !g i) = false):minT f g (i + 1) = minT f g i:=by
 unfold minT
 rw [List.range_succ,List.filter_append]
 simp [h]
theorem drsT_size (f g:Nat → Bool) (i:Nat):(drsB (minT f g i)).size ≤ 3 * i:=by
 have key:∀ l:List Nat,(drsB l).size = 3 * l.length:=fun l=>by
  induction l with
  | nil=>rfl
  | cons k l ih =>
   have hs:(drB k ++ drsB l).size = (drB k).size + (drsB l).size:=ByteArray.size_append
   rw [drsB,hs,ih,show (drB k).size = 3 from rfl,List.length_cons]
   omega
 rw [key]
 have:(minT f g i).length ≤ i:=by
  unfold minT
  have:=List.length_filter_le (fun k=>f k && !g k) (List.range i)
  simpa using this
 omega
theorem let_str (i:Nat) (u:World):(convert 128 9 (.slice (some ⟨u.heap.size,0,none⟩) 1 1)).run prog (u.alloc (.cells #[.int .u8 (65 + (i:Int))] 5)) = .ok (strN [65 + i]) (u.alloc (.cells #[.int .u8 (65 + (i:Int))] 5)):=by
 have e:(65 + (i:Int)) = ((65 + i:Nat):Int):=by omega
 rw [e]
 exact bytes_str u [65 + i]
theorem drops_fn (w:World) (f g:Nat → Bool) :
  CR 61 #[.agg (arrF f),.agg (arrF g)] w (.string (drsB (minL f g))):=by
 have hg1:RowF ((w.alloc (.cells (arrF f) 93)).alloc (.cells (arrF g) 93)) (w.heap.size + 1) g:=by
  have:=RowF.new (w.alloc (.cells (arrF f) 93)) g
  simpa using this
 have hf1:RowF ((w.alloc (.cells (arrF f) 93)).alloc (.cells (arrF g) 93)) w.heap.size f :=
  (RowF.new w f).no ((Fr.refl _ _).alloc _)
 have HFr:Hid (Fr NoB w ((w.alloc (.cells (arrF f) 93)).alloc (.cells (arrF g) 93))):=((Fr.refl _ _).alloc _).alloc _
 have Hf1:Hid _:=hf1
 have Hg1:Hid _:=hg1
 clear hf1 hg1
 generalize hf:arrF f = af at *
 generalize hg:arrF g = ag at *
 clear hf hg
 have HD:Hid (drsB (minL f g) = drsB (minT f g 26)):=rfl
 generalize drsB (minL f g) = D at *
 go_enter func61,ntmps61
 go_wp2
 generalize ((w.alloc (Obj.cells af 93)).alloc (Obj.cells ag 93)) = W at *
 go_loopg [5,6] 26 (fun q t u wr=>∃ i:Nat,q + i = 26 ∧ t = .string (drsB (minT f g i)) ∧ u = .int .i64 i ∧ Fr NoB W wr)
 case atStart=>exact ⟨0,rfl,rfl,rfl,Fr.refl _ _⟩
 case round =>
  obtain ⟨i,hi,rfl,rfl,hF⟩:=hrel
  have HF:Hid _:=hF
  have hsz:=drsT_size f g i
  by_cases hlt:i < 26
  ·have c1:=hF.cell_some (Hf1.out.cell hlt) id
   have c2:=hF.cell_some (Hg1.out.cell hlt) id
   have HY:Hid ((f i && !g i) = true → drsB (minT f g (i + 1)) = drsB (minT f g i) ++ ⟨#[126]⟩ ++ ⟨([65 + i].map UInt8.ofNat).toArray⟩ ++ ⟨#[59]⟩):=fun h=>by
    rw [minT_yes h,drsB_snoc]
    simp only [ByteArray.append_assoc]
    congr 1
   have HN:Hid ((f i && !g i) = false → drsB (minT f g (i + 1)) = drsB (minT f g i)):=fun h=>by rw [minT_no h]
   have hv:=let_str i
   unfold strN at hv
   have hS1:(⟨([65 + i].map UInt8.ofNat).toArray⟩:ByteArray).size = 1:=rfl
   generalize (⟨([65 + i].map UInt8.ofNat).toArray⟩:ByteArray) = L at *
   generalize drsB (minT f g i) = T at *
   clear hF
   cases hfi:f i
   ·rw [hfi] at c1 HN HY
    clear hfi
    go_wp2
    go_roundg (25 - i)
    case measure=>omega
    case rel=>exact ⟨i + 1,by omega,by rw [HN.out rfl],by go_num,HF.out⟩
   ·rw [hfi] at c1 HN HY
    clear hfi
    cases hgi:g i
    ·rw [hgi] at c2 HN HY
     clear hgi
     go_wp2
     go_roundg (25 - i)
     case measure=>omega
     case rel=>exact ⟨i + 1,by omega,by rw [HY.out rfl],by go_num,HF.out.alloc _⟩
    ·rw [hgi] at c2 HN HY
     clear hgi
     go_wp2
     go_roundg (25 - i)
     case measure=>omega
     case rel=>exact ⟨i + 1,by omega,by rw [HN.out rfl],by go_num,HF.out⟩
  ·have hie:i = 26:=by omega
   subst hie
   generalize drsB (minT f g 26) = T at *
   go_wp2
   go_ret
   exact ⟨by rw [HD.out] <;> rfl,HFr.out.trans HF.out⟩
end
theorem ext_app (s:ByteArray) {i m j:Nat} (h1:i ≤ m) (h2:m ≤ j):s.extract i m ++ s.extract m j = s.extract i j:=by
 apply ByteArray.ext
 simp only [ByteArray.data_append,ByteArray.data_extract]
 rw [Array.extract_append_extract,Nat.min_eq_left h1,Nat.max_eq_right h2]
theorem pg_ok {s:ByteArray}:∀ {F i j:Nat},Prog s F i j → PgOk (pgN s F i j)
 | 0,i,j,hp=>trivial
 | F + 1,i,j,hp=>by
  have ih:=fun {i j:Nat} (q:Prog s F i j)=>pg_ok q
  rcases hp with hp | ⟨m,hst,hr⟩
  ·subst hp;rw [pgN_end];trivial
  ·have hmj:=hr.le
   have hlt:=hst.lt
   have hij:i < j:=by omega
   rcases hst with hS | ⟨e,a,b,c,ho,ha,hp,hb,hb1,hq,hc,rfl⟩ | ⟨e,a,b,ho,ha,hp,hb,rfl⟩
   ·rw [pgN_simple hS hij];exact ⟨acOk_of hS,ih hr⟩
   ·rw [pgN_if (ifAt_of e ho ha hp hb hb1 hq hc) hij];exact ⟨odN_ok ho (byte_in ha (by decide)) (by rw [ha];rfl),ih hp,ih hq,ih hr⟩
   ·rw [pgN_loop (loopAt_of e ho ha hp hb) hij];exact ⟨odN_ok ho (byte_in ha (by decide)) (by rw [ha];rfl),ih hp,ih hr⟩
theorem check_tree {s:ByteArray} (hc:checkN s = (0,0)):s.size ≤ 400 ∧ run s [(83,true)] 0 0 = (0,0) ∧ Prog s (s.size + 1) 0 s.size ∧ PgOk (pgN s (s.size + 1) 0 s.size) ∧ okG (pgN s (s.size + 1) 0 s.size) noF:=by
 unfold checkN at hc
 by_cases h4:400 < s.size
 ·rw [if_pos h4] at hc;cases hc
 ·rw [if_neg h4] at hc
  by_cases q:(run s [(83,true)] 0 0).1 ≠ 0
  ·rw [if_pos q] at hc
   exact absurd (congrArg Prod.fst hc) q
  ·rw [if_neg q] at hc
   have hr:=run_zero (show (run s [(83,true)] 0 0).1 = 0 by omega)
   have hp:=prog_of_ok hr
   refine ⟨by omega,hr,hp,pg_ok hp,(along_pg _ _ _ hp).2 noF ?_⟩
   by_cases hm:0 ≤ misT s
   ·rw [if_pos hm] at hc;cases hc
   ·have:misT s < 0:=by omega
    exact this
theorem drsB_size:∀ l:List Nat,(drsB l).size = 3 * l.length
 | []=>rfl
 | k :: l=>by
  have hs:(drB k ++ drsB l).size = (drB k).size + (drsB l).size:=ByteArray.size_append
  rw [drsB,hs,drsB_size l,show (drB k).size = 3 from rfl,List.length_cons]
  omega
theorem minL_len (f g:Nat → Bool):(minL f g).length ≤ 26:=by
 unfold minL
 have:=List.length_filter_le (fun k=>f k && !g k) (List.range 26)
 simpa using this
theorem lowT_size {s:ByteArray}:∀ {F i j:Nat},Prog s F i j → ∀ (f:Nat → Bool),(lowT s F i j f).size ≤ 40 * (j - i)
 | 0,i,j,hp,f=>Nat.zero_le _
 | F + 1,i,j,hp,f=>by
  have ih:=fun {i j:Nat} (q:Prog s F i j) (f:Nat → Bool)=>lowT_size q f
  rcases hp with hp | ⟨m,hst,hr⟩
  ·subst hp
   rw [lowT,if_neg (Nat.lt_irrefl _)]
   exact Nat.zero_le _
  ·have hmj:=hr.le
   have hlt:=hst.lt
   have hij:i < j:=by omega
   have hbeh:=beh_of hst
   have dr:=fun (f g:Nat → Bool)=>(show (drsB (minL f g)).size ≤ 78 by rw [drsB_size];have:=minL_len f g;omega)
   rw [lowT,if_pos hij,hbeh]
   have h0:=ih hr (afterF (alongF s F) s i f)
   have ex:=fun (x y:Nat) (h1:x ≤ y) (h2:y ≤ s.size)=>size_ext (s:=s) h1 h2
   rcases hst with hS | ⟨e,a,b,c,ho,ha,hp,hb,hb1,hq,hc,rfl⟩ | ⟨e,a,b,ho,ha,hp,hb,rfl⟩
   ·have hf:=hS.first
    rw [if_neg hf.1,if_neg hf.2]
    have e1:=ex i m (by omega) hS.line.2.1
    have e2:(if ownT s i f = true then drB (bt s i - 65) else ⟨#[]⟩:ByteArray).size ≤ 3:=by split;exact Nat.le_refl 3;exact Nat.zero_le _
    simp only [ByteArray.size_append]
    omega
   ·have hI:=ifAt_of e ho ha hp hb hb1 hq hc
    have l1:=hp.le
    have l2:=hq.le
    have l3:=ho.lt
    have hcs:=byte_in hc (by decide)
    have g1:=ih hp f
    have g2:=ih hq f
    have e1:=ex i (a + 1) (by omega) (by omega)
    have e2:=ex b (b + 2) (by omega) (by omega)
    have e3:=ex c (c + 1) (by omega) (by omega)
    rw [if_pos e,hI.p1,hI.p2,hI.p3,show b + 1 - 1 = b by omega,show b + 1 + 1 = b + 2 by omega,show c + 1 - 1 = c by omega]
    simp only [ByteArray.size_append]
    have d1:=dr (alongF s F (a + 1) b f) (afterF (alongF s F) s i f)
    have d2:=dr (alongF s F (b + 2) c f) (afterF (alongF s F) s i f)
    omega
   ·have hL:=loopAt_of e ho ha hp hb
    have l1:=hp.le
    have l3:=ho.lt
    have hbs:=byte_in hb (by decide)
    have g1:=ih hp (afterF (alongF s F) s i f)
    have e1:=ex i (a + 1) (by omega) (by omega)
    have e3:=ex b (b + 1) (by omega) (by omega)
    rw [if_neg (by rw [e];decide),if_pos e,hL.p1,hL.p2,show b + 1 - 1 = b by omega]
    simp only [ByteArray.size_append]
    have d1:=dr f (afterF (alongF s F) s i f)
    have d2:=dr (alongF s F (a + 1) b (afterF (alongF s F) s i f)) (afterF (alongF s F) s i f)
    omega
theorem low_size {s:ByteArray} (hp:Prog s (s.size + 1) 0 s.size) (h4:s.size ≤ 400):(lowTT s).size ≤ 20000:=by
 have h1:=lowT_size hp noF
 have h2:(drsB (minL (alongF s (s.size + 1) 0 s.size noF) noF)).size ≤ 78:=by rw [drsB_size];have:=minL_len (alongF s (s.size + 1) 0 s.size noF) noF;omega
 unfold lowTT
 rw [ByteArray.size_append]
 omega
end Go.Proofs.YthcjcjfgdgnljabGreatDoor
