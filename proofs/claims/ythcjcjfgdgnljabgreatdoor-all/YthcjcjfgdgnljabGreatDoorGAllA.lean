import Derived.Test.YthcjcjfgdgnljabGreatDoorGLwrE
import Derived.Test.YthcjcjfgdgnljabGreatDoorGLwrF
set_option linter.unusedVariables false
set_option maxHeartbeats 4000000
set_option maxRecDepth 8000
open Go.Proofs.Tryz
namespace Go.Proofs.YthcjcjfgdgnljabGreatDoor
open Go.RowKit Go.Lib
theorem endB_size (f:Nat → Bool):(endB f).size ≤ 78:=drsT_size f noF 26
theorem atEnd_zero (w:World) (ga ac:Nat) (B:Nat → Nat → Bool) :
  CR 87 #[.slice (some ⟨ga,0,none⟩) 0 ac] w (.int .u32 (msk (if (0:Nat) = 0 then noF else B (0 - 1)):Int)):=by
 have HZ:Hid (msk noF = 0):=msk_none
 rw [if_pos rfl,HZ.out]
 go_enter func87,ntmps87
 go_wp2
 go_ret
 exact ⟨rfl,Fr.refl _ _⟩
theorem retS2 {a b:ByteArray} (h:a = b):Ending.returned (.string a) = .returned (.string b):=by rw [h]
theorem wt_grow {w w':World} {wp base pl:Nat} {tv tv':Value} {T s:ByteArray} {b:Nat} {o:Obj} (h:WT w wp base tv T) (hk:AppKind (w.alloc o).drew w' tv tv' T.size 1) (ho:w'.ownsRow base 5 1 tv' (T.size + 1) (strCells T ++ [.int .u8 b])) (h1:strCells (s.extract pl (pl + 1)) = [.int .u8 b]) (hl:pl < s.size) :
  w'.cell? ⟨wp,0,none⟩ = some tv ∧ w'.frozen? ⟨wp,0,none⟩ = false ∧ WT (w'.setCell ⟨wp,0,none⟩ tv') wp base tv' (T ++ s.extract pl (pl + 1)) ∧ Fr (WS base) w (w'.setCell ⟨wp,0,none⟩ tv'):=by
 have hfa:Fr NoB w (w.alloc o).drew:=((Fr.refl _ _).alloc _).drew
 have hWa:=h.no hfa
 obtain ⟨hW6,hF6⟩:=hWa.app (X:=s.extract pl (pl + 1)) hk (by rw [h1];exact ho) (by rw [size_ext (by omega) (by omega)];omega)
 have hfr:=hk.fr
 exact ⟨hfr.cell_some hWa.ct (fun e=>hWa.nm _ e rfl),(hfr.frozen (p:=⟨wp,0,none⟩) hWa.lt (fun e=>hWa.nm _ e rfl)).trans (hWa.fz 0),hW6,(hfa.mono (fun k _ e=>e.elim)).trans hF6⟩
theorem text_fn (w:World) (s:ByteArray) (ao:Option Addr) (n pc ga ac:Nat) (p:Nat → Pt) (C:Nat → Nat) (A B:Nat → Nat → Bool) (hs:s.size ≤ 1000) (hn:n ≤ 100000) (hok:FlatOk p n) (hmid:∀ i,i < n → (p i).kind = 9 → C i < n) (hP:PartRow w ao n p C) (hA:Arnd w ga n A B) (hgl:∀ g,ao = some ⟨g,0,none⟩ → g < w.heap.size) (hga:0 < n → ga < w.heap.size) :
  Calls prog 58 #[.string s,.slice ao n pc,.slice (some ⟨ga,0,none⟩) n ac] w fun e w'=>e = .returned (.string ((txN s p n (fun q=>endB (surN p C A B q)) s.size).2 ++ endB (if n = 0 then noF else B (n - 1)))) ∧ Fr NoB w w':=by
 obtain ⟨i0,hi0,hz0,hz1,hz2⟩:=info_parts Tryz.infoU8b
 have hfin:∀ {X:World},Fr (WS w.heap.size) w X → Fr NoB w X:=fun h=>h.mono (fun k hk e=>by unfold WS at e;omega)
 have HPr:Hid (∀ X,Fr (WS w.heap.size) w X → PartRow X ao n p C):=fun X hX=>hP.no (hfin hX)
 have HSu:Hid (∀ X,Fr (WS w.heap.size) w X → ∀ i,i < n → CR 86 #[.slice ao n pc,.slice (some ⟨ga,0,none⟩) n ac,.int .i64 i] X (.int .u32 (msk (surN p C A B i):Int))):=fun X hX i hi=>surplus_fn X ao ga n pc ac i p C A B hn hi (hok.ok i hi) (hmid i hi) (hP.no (hfin hX)) (hA.no (hfin hX) (hga (by omega)))
 have HAE:Hid (∀ X,Fr (WS w.heap.size) w X → CR 87 #[.slice (some ⟨ga,0,none⟩) n ac] X (.int .u32 (msk (if n = 0 then noF else B (n - 1)):Int))):=fun X hX=>by
  by_cases h0:n = 0
  ·subst h0
   exact atEnd_zero X ga ac B
  ·exact atEnd_fn X ga n ac A B hn (hA.no (hfin hX) (hga (by omega)))
 have HEn:Hid (∀ (X:World) (tv:Value) (T:ByteArray) (f:Nat → Bool),WT X w.heap.size w.heap.size tv T → T.size ≤ 90000 → Calls prog 85 #[.pointer (some ⟨w.heap.size,0,none⟩),.int .u32 (msk f:Int)] X fun e w'=>e = .returned (.tuple #[]) ∧ (∃ tv',WT w' w.heap.size w.heap.size tv' (T ++ endB f)) ∧ Fr (WS w.heap.size) X w'):=fun X tv T f h hT=>wends_fn X w.heap.size w.heap.size tv T f h hT
 have HFn:Hid (∀ X,Fr (WS w.heap.size) w X → Fr NoB w X):=fun X h=>hfin h
 have H0:Hid (WT (w.alloc (Obj.cells #[.slice none 0 0] 149)) w.heap.size w.heap.size (.slice none 0 0) ⟨#[]⟩ ∧ Fr (WS w.heap.size) w (w.alloc (Obj.cells #[.slice none 0 0] 149))) :=
  ⟨⟨cell_new _ _ _ rfl rfl,fun o=>World.frozen?_alloc_at _ _ _ _ rfl,⟨rfl,.inl ⟨rfl,rfl⟩⟩,Nat.le_refl _,by simp,fun g hg=>by cases hg⟩,(Fr.refl _ _).alloc _⟩
 have Hok:Hid _:=hok
 obtain ⟨E,hE⟩:∃ E:Nat → ByteArray,E = fun q=>endB (surN p C A B q):=⟨_,rfl⟩
 rw [← hE]
 have HEE:Hid (∀ k,endB (surN p C A B k) = E k ∧ (E k).size ≤ 78):=fun k=>by rw [hE];exact ⟨rfl,endB_size _⟩
 clear hE
 generalize (if n = 0 then noF else B (n - 1)) = L at *
 clear hP hA hok hmid hgl hga hfin
 go_enter func58,ntmps58
 go_wp2
 generalize (w.alloc (Obj.cells #[Value.slice none 0 0] 149)) = W at *
 go_loopg [8,9] s.size (fun q t u wr=>∃ (k pl:Nat) (tv:Value) (T:ByteArray),q + pl = s.size ∧ t = .int .i64 k ∧ u = .int .i64 pl ∧ k ≤ n ∧ txN s p n E pl = (k,T) ∧ T.size ≤ 79 * pl ∧ WT wr w.heap.size w.heap.size tv T ∧ Fr (WS w.heap.size) w wr)
 case atStart=>exact ⟨0,0,_,⟨#[]⟩,by omega,rfl,rfl,Nat.zero_le _,rfl,Nat.zero_le _,H0.out.1,H0.out.2⟩
 case round =>
  obtain ⟨k,pl,tv,T,hq,rfl,rfl,hk,htx,hTs,hW,hF⟩:=hrel
  have Htx:Hid _:=htx
  have HW:Hid _:=hW
  have HF:Hid _:=hF
  clear htx hW hF H0
  by_cases hlt:pl < s.size
  ·have hone:=str_one s hlt
   have hb0:=bt_in hlt
   rw [hb0] at hone
   have Hone:Hid _:=hone
   clear hone hb0
   by_cases hn2:k < n ∧ (p k).place = pl
   ·obtain ⟨hkn,hpl⟩:=hn2
    obtain ⟨g,hg⟩:=(HPr.out wr HF.out).some_ (by omega)
    have d1:=(HPr.out wr HF.out).c g k 1 _ hkn hg rfl
    have hSu:=HSu.out wr HF.out k hkn
    have HS1:Hid _:=hSu
    have HT2:Hid (txN s p n E (pl + 1) = (k + 1,T ++ E k ++ s.extract pl (pl + 1))):=tx_part Htx.out hkn hpl
    have hEk:=HEE.out k
    rw [hpl] at d1
    clear hSu hpl
    subst hg
    go_upto_region 8 with (first
     | (go_at_call 86;refine Calls.mono HS1.out ?_;rintro e w2 ⟨rfl,hF2⟩)
     | (go_at_call 85;refine (HEn.out _ tv T _ (HW.out.no hF2) (by omega)).mono ?_;rintro e w3 ⟨rfl,⟨tv3,hW3⟩,hF3⟩))
    have HWz:Hid (WT w3 w.heap.size w.heap.size tv3 (T ++ E k)):=by show WT _ _ _ _ _;rw [← hEk.1];exact hW3
    have HFz:Hid (Fr (WS w.heap.size) w w3):=(HF.out.trans (hF2.mono (fun k _ e=>e.elim))).trans hF3
    clear hW3 hF2 hF3 HW HF HS1
    have ct:=HWz.out.ct
    have fz:=HWz.out.fz 0
    have hl:=HWz.out.lt
    have hown:=HWz.out.own
    have hXs:(T ++ E k).size ≤ 79 * pl + 78:=by rw [ByteArray.size_append];omega
    generalize hXX:T ++ E k = X at *
    clear hXX
    go_upto_region 9 with fail
    have hsz5:(X ++ s.extract pl (pl + 1)).size ≤ 79 * (pl + 1):=by rw [ByteArray.size_append,size_ext (by omega) (by omega)];omega
    go_region_law ((refine step_append_kind rfl _ _ 128 rfl w.heap.size 5 i0 (.int .u8 0) 1 1 underlying128 hi0 hz0 hz1 hz2 rfl (by decide) _ _ _ rfl ((hown.alloc _).drew) ⟨w3.heap.size,0,none⟩ 1 1 [.int .u8 (s[pl].toNat:Int)] (by decide) rfl rfl nwD (by intro u hu;simp at hu;subst hu;rfl) (by unfold maxLen;omega) (by omega) (by simp;omega) ?_;intro v3 wo hown3 hk3;obtain ⟨x1,x2,x3,x4⟩:=wt_grow HWz.out hk3 hown3 Hone.out hlt;obtain ⟨gc,cc,hvo,_⟩:=hk3.place;subst hvo;have HX:=show Hid _ from And.intro x3 (HFz.out.trans x4);clear x3 x4 hown3 hk3))
    all_goals
     clear ct fz hown HWz HFz
     go_wp2
     go_roundg (s.size - (pl + 1))
     case measure=>omega
     case rel=>exact ⟨k + 1,pl + 1,_,X ++ s.extract pl (pl + 1),by omega,by go_num,by go_num,by omega,HT2.out,hsz5,HX.out.1,HX.out.2⟩
   ·have HT2:Hid (txN s p n E (pl + 1) = (k,T ++ s.extract pl (pl + 1))):=by
     show _ = _
     rw [txN,Htx.out,if_neg hn2]
    have HWz:Hid _:=HW.out
    have HFz:Hid _:=HF.out
    by_cases hkn:k < n
    ·obtain ⟨g,hg⟩:=(HPr.out wr HF.out).some_ (by omega)
     have d1:=(HPr.out wr HF.out).c g k 1 _ hkn hg rfl
     have b1:(((p k).place:Int) == (pl:Int)) = false:=beq_eq_false_iff_ne.2 (fun e=>hn2 ⟨hkn,by omega⟩)
     clear hn2 HW HF
     subst hg
     have ct:=HWz.out.ct
     have fz:=HWz.out.fz 0
     have hl:=HWz.out.lt
     have hown:=HWz.out.own
     have hXs:(T).size ≤ 79 * pl + 78:=by omega
     generalize hXX:T = X at *
     clear hXX
     go_upto_region 9 with fail
     have hsz5:(X ++ s.extract pl (pl + 1)).size ≤ 79 * (pl + 1):=by rw [ByteArray.size_append,size_ext (by omega) (by omega)];omega
     go_region_law ((refine step_append_kind rfl _ _ 128 rfl w.heap.size 5 i0 (.int .u8 0) 1 1 underlying128 hi0 hz0 hz1 hz2 rfl (by decide) _ _ _ rfl ((hown.alloc _).drew) ⟨wr.heap.size,0,none⟩ 1 1 [.int .u8 (s[pl].toNat:Int)] (by decide) rfl rfl nwD (by intro u hu;simp at hu;subst hu;rfl) (by unfold maxLen;omega) (by omega) (by simp;omega) ?_;intro v3 wo hown3 hk3;obtain ⟨x1,x2,x3,x4⟩:=wt_grow HWz.out hk3 hown3 Hone.out hlt;obtain ⟨gc,cc,hvo,_⟩:=hk3.place;subst hvo;have HX:=show Hid _ from And.intro x3 (HFz.out.trans x4);clear x3 x4 hown3 hk3))
     all_goals
      clear ct fz hown HWz HFz
      go_wp2
      go_roundg (s.size - (pl + 1))
      case measure=>omega
      case rel=>exact ⟨k,pl + 1,_,X ++ s.extract pl (pl + 1),by omega,by go_num,by go_num,by omega,HT2.out,hsz5,HX.out.1,HX.out.2⟩
    ·clear hn2 HW HF
     have ct:=HWz.out.ct
     have fz:=HWz.out.fz 0
     have hl:=HWz.out.lt
     have hown:=HWz.out.own
     have hXs:(T).size ≤ 79 * pl + 78:=by omega
     generalize hXX:T = X at *
     clear hXX
     go_upto_region 9 with fail
     have hsz5:(X ++ s.extract pl (pl + 1)).size ≤ 79 * (pl + 1):=by rw [ByteArray.size_append,size_ext (by omega) (by omega)];omega
     go_region_law ((refine step_append_kind rfl _ _ 128 rfl w.heap.size 5 i0 (.int .u8 0) 1 1 underlying128 hi0 hz0 hz1 hz2 rfl (by decide) _ _ _ rfl ((hown.alloc _).drew) ⟨wr.heap.size,0,none⟩ 1 1 [.int .u8 (s[pl].toNat:Int)] (by decide) rfl rfl nwD (by intro u hu;simp at hu;subst hu;rfl) (by unfold maxLen;omega) (by omega) (by simp;omega) ?_;intro v3 wo hown3 hk3;obtain ⟨x1,x2,x3,x4⟩:=wt_grow HWz.out hk3 hown3 Hone.out hlt;obtain ⟨gc,cc,hvo,_⟩:=hk3.place;subst hvo;have HX:=show Hid _ from And.intro x3 (HFz.out.trans x4);clear x3 x4 hown3 hk3))
     all_goals
      clear ct fz hown HWz HFz
      go_wp2
      go_roundg (s.size - (pl + 1))
      case measure=>omega
      case rel=>exact ⟨k,pl + 1,_,X ++ s.extract pl (pl + 1),by omega,by go_num,by go_num,by omega,HT2.out,hsz5,HX.out.1,HX.out.2⟩
  ·have hpe:pl = s.size:=by omega
   have hk2:txN s p n E s.size = (k,T):=by rw [← hpe];exact Htx.out
   have HR:Hid ((txN s p n E s.size).2 ++ endB L = T ++ endB L):=by show _ = _;rw [hk2]
   have HA1:Hid _:=HAE.out wr HF.out
   clear hk2 hpe Htx
   go_upto_region 11 with (first
    | (go_at_call 87;refine Calls.mono HA1.out ?_;rintro e w2 ⟨rfl,hF2⟩)
    | (go_at_call 85;refine (HEn.out _ tv T _ (HW.out.no hF2) (by omega)).mono ?_;rintro e w3 ⟨rfl,⟨tv3,hW3⟩,hF3⟩))
   have HFz:Hid (Fr NoB w w3):=HFn.out _ ((HF.out.trans (hF2.mono (fun k _ e=>e.elim))).trans hF3)
   have ct:=hW3.ct
   have cv:=conv_wt hW3.own
   clear hW3 hF2 hF3 HW HF
   go_wp2
   go_ret
   exact ⟨retS2 HR.out.symm,HFz.out⟩
theorem low_fn (s:ByteArray) (hs:s.size ≤ 100000) (F:Nat):∀ i j,Prog s F i j → LowIs s i j (lowT s F i j):=by
 induction F using Nat.strongRecOn with
 | _ F ih =>
  intro i j hp
  exact low_step s hs F ih i j hp
theorem ret2S {a b:ByteArray} {v:Value} (h:a = b):Ending.returned (.tuple #[.string a,v]) = .returned (.tuple #[.string b,v]):=by rw [h]
theorem noF_arr:arrF noF = #[.bool false,.bool false,.bool false,.bool false,.bool false,.bool false,.bool false,.bool false,.bool false,.bool false,.bool false,.bool false,.bool false,.bool false,.bool false,.bool false,.bool false,.bool false,.bool false,.bool false,.bool false,.bool false,.bool false,.bool false,.bool false,.bool false]:=arrF_zero
theorem check_cases (s:ByteArray):(checkN s).1 ≠ 0 ∨ checkN s = (0,0):=by
 unfold checkN
 by_cases h4:400 < s.size
 ·rw [if_pos h4];exact .inl (by simp)
 ·rw [if_neg h4]
  by_cases q:(run s [(83,true)] 0 0).1 ≠ 0
  ·rw [if_pos q];exact .inl q
  ·rw [if_neg q]
   by_cases hm:0 ≤ misT s
   ·rw [if_pos hm];exact .inl (by simp)
   ·rw [if_neg hm];exact .inr rfl
theorem refLower_bad (w:World) (s:ByteArray) (hs:s.size ≤ 9223372036854775807) (hc:(checkN s).1 ≠ 0) :
  CR 38 #[.string s] w (.tuple #[.string ⟨#[]⟩,.int .i64 ((checkN s).1:Int)]):=by
 have HC:Hid _:=fun X=>refCheck_fn X s hs
 have b1:(((checkN s).1:Int) != 0) = true:=bne_iff_ne.2 (by omega)
 generalize (checkN s).1 = k at *
 generalize (checkN s).2 = p at *
 clear hc
 go_enter func38,ntmps38
 go_wp2_with (go_at_call 31;refine (HC.out _).mono ?_;rintro e w1 ⟨rfl,hF1⟩)
 go_ret2
 exact ⟨rfl,hF1⟩
theorem refLower_ok (w:World) (s:ByteArray) (hc:checkN s = (0,0)) :
  CR 38 #[.string s] w (.tuple #[.string (lowTT s),.int .i64 0]):=by
 obtain ⟨h4,hr,hp,hok,ho⟩:=check_tree hc
 have HC:Hid _:=fun X=>refCheck_fn X s (by omega)
 rw [hc] at HC
 have HLo:Hid (∀ X:World,CR 59 #[.string s,.int .i64 0,.int .i64 s.size,.agg (arrF noF)] X (.string (lowT s (s.size + 1) 0 s.size noF))):=fun X=>low_fn s (by omega) _ 0 s.size hp X noF clean_none
 have HAl:Hid (∀ X:World,CR 60 #[.string s,.int .i64 0,.int .i64 s.size,.agg (arrF noF)] X (.agg (arrF (alongF s (s.size + 1) 0 s.size noF)))):=fun X=>along_fn s (by omega) _ 0 s.size hp X noF clean_none
 have HE:Hid (lowTT s = lowT s (s.size + 1) 0 s.size noF ++ drsB (minL (alongF s (s.size + 1) 0 s.size noF) noF)):=rfl
 have hz:=lowT_size hp noF
 generalize lowTT s = R at *
 generalize lowT s (s.size + 1) 0 s.size noF = T at *
 generalize alongF s (s.size + 1) 0 s.size noF = f at *
 have HD:Hid (∀ X:World,CR 61 #[.agg (arrF f),.agg (arrF noF)] X (.string (drsB (minL f noF)))):=fun X=>drops_fn X f noF
 have m1:(drsB (minL f noF)).size ≤ 78:=by rw [drsB_size];have:=minL_len f noF;omega
 generalize drsB (minL f noF) = D at *
 have y1:=fun W=>str_add W T D 5000000 (by simp only [ByteArray.size_append];omega) (by omega)
 rw [noF_arr] at HLo HAl HD
 clear hc hr hp hok ho
 go_enter func38,ntmps38
 go_upto_region 6 with (first
  | (go_at_call 31;refine (HC.out _).mono ?_;rintro e w1 ⟨rfl,hF1⟩)
  | (go_at_call 59;refine (HLo.out _).mono ?_;rintro e w2 ⟨rfl,hF2⟩)
  | (go_at_call 60;refine (HAl.out _).mono ?_;rintro e w3 ⟨rfl,hF3⟩)
  | (refine wpList_store_row rfl 93 _ _ rfl (w3.heap.size) (arrF (f)) rfl rfl 93 _ (RowF.zero w3).h (sizeArr _) (by rw [arrF_size,arrF_size]) (arrF_one _) ?_))
 have K0:=row_laid hF3 f
 have K3:=(hF1.trans hF2).trans K0.2
 have K4:=K0.1
 clear K0 hF1 hF2 hF3
 unfold zrs at K3 K4
 generalize ((w3.alloc (Obj.cells _ 93)).setRow w3.heap.size (arrF f)) = W4 at *
 generalize w3.heap.size = r at *
 have HK4:Hid _:=K4
 have HK3:Hid _:=K3
 clear K3 K4
 go_wp2_with (first
  | (refine wpList_load_row rfl 93 _ rfl r rfl 93 (arrF (f)) (0,0) _ (HK4.out).h underlying93 rfl (sizeArr _) ?_)
  | (go_at_call 61;refine (HD.out _).mono ?_;rintro e w5 ⟨rfl,hF5⟩))
 go_ret2
 exact ⟨ret2S HE.out.symm,HK3.out.trans hF5⟩
theorem devLower_bad (w:World) (s:ByteArray) (hs:s.size ≤ 9223372036854775807) (hc:(checkN s).1 ≠ 0) :
  CR 37 #[.string s] w (.tuple #[.string ⟨#[]⟩,.int .i64 ((checkN s).1:Int)]):=by
 have HC:Hid _:=fun X=>devCheck_fn X s hs (partIs3 s)
 have b1:(((checkN s).1:Int) != 0) = true:=bne_iff_ne.2 (by omega)
 generalize (checkN s).1 = k at *
 generalize (checkN s).2 = p at *
 clear hc
 go_enter func37,ntmps37
 go_wp2_with (go_at_call 30;refine (HC.out _).mono ?_;rintro e w1 ⟨rfl,hF1⟩)
 go_ret2
 exact ⟨rfl,hF1⟩
theorem devLower_ok (w:World) (s:ByteArray) (hc:checkN s = (0,0)) :
  CR 37 #[.string s] w (.tuple #[.string (lowTT s),.int .i64 0]):=by
 obtain ⟨h4,hr,hp,hok,ho⟩:=check_tree hc
 have HC:Hid _:=fun X=>devCheck_fn X s (by omega) (partIs3 s)
 rw [hc] at HC
 have HRd:Hid (∀ X,_):=fun X=>read_okL X s hc
 have Hs:Hid (s.size ≤ 400):=h4
 clear hc hr hp hok ho h4
 go_enter func37,ntmps37
 go_upto_region 5 with (first
  | (go_at_call 30;refine (HC.out _).mono ?_;rintro e w1 ⟨rfl,hF1⟩)
  | (go_at_call 49;refine (HRd.out _).mono ?_;rintro e w2 ⟨ao,np,cap,rfl,HX⟩))
 obtain ⟨hF2,p,C,hT,hrow,hgl⟩:=HX.out
 have HFd:Hid (Calls prog 50 #[.slice ao np cap] w2 fun e w'=>FindSays2 p s np w2 e w'):=find_fn2 w2 np cap ao p C s (by have:=hT.nl;omega) hT.fl hrow hT.seg hgl
 have HF2:Hid (Fr NoB w w2):=hF1.trans hF2
 have HT:Hid _:=hT
 have HRow:Hid _:=hrow
 have HGl:Hid _:=hgl
 clear hF1 hF2 hT hrow hgl HX
 go_wp2_with fail
 refine Calls.mono HFd.out ?_
 rintro x w3 ⟨ga,A,B,rfl,hA,⟨hsg,hlast⟩,hF3⟩
 have HTx:Hid (CR 58 #[.string s,.slice ao np cap,.slice (some ⟨ga,0,none⟩) np np] w3 (.string (lowTT s))):=by
  rw [← text_dev_top HT.out.cq (fun q hq=>(HT.out.fl.ok q hq).b) hsg hlast]
  have hs4:=Hs.out
  exact text_fn w3 s ao np cap ga np p C A B (by omega) (by have:=HT.out.nl;omega) HT.out.fl (fun i hi h9=>SegL.mid HT.out.cq hsg (Nat.le_refl _) i (Nat.zero_le _) hi h9) (HRow.out.no hF3) hA (fun g e=>Nat.lt_of_lt_of_le (HGl.out g e) hF3.size) (fun h0=>World.block_lt_of_cell? w3 ⟨ga,0 * 2,none⟩ (hA.a 0 h0))
 have HF3:Hid (Fr NoB w w3):=HF2.out.trans hF3
 clear hA hsg hlast hF3
 go_wp2_with fail
 refine Calls.mono HTx.out ?_
 rintro x w4 ⟨rfl,hF4⟩
 go_wp2
 go_ret2
 exact ⟨rfl,HF3.out.trans hF4⟩
theorem lowers_any (w:World) (s:ByteArray) (hs:s.size ≤ 9223372036854775807) :
  CR 14 #[.string s] w (.bool true):=by
 have key:∃ (R:ByteArray) (k:Int),(∀ X,CR 37 #[.string s] X (.tuple #[.string R,.int .i64 k])) ∧ (∀ X,CR 38 #[.string s] X (.tuple #[.string R,.int .i64 k])):=by
  rcases check_cases s with hc | hc
  ·exact ⟨_,_,fun X=>devLower_bad X s hs hc,fun X=>refLower_bad X s hs hc⟩
  ·exact ⟨_,_,fun X=>devLower_ok X s hc,fun X=>refLower_ok X s hc⟩
 obtain ⟨R,k,h1,h2⟩:=key
 have H1:Hid _:=h1
 have H2:Hid _:=h2
 clear h1 h2
 go_enter func14,ntmps14
 go_wp2_with (first | (go_at_call 37;refine (H1.out _).mono ?_;rintro x w1 ⟨rfl,hF1⟩) | (go_at_call 38;refine (H2.out _).mono ?_;rintro x w2 ⟨rfl,hF2⟩))
 go_ret
 exact ⟨by simp,hF1.trans hF2⟩
section
open Go.RowKit
theorem done_fn (w:World) (s:ByteArray) (a b:Int) (hs:s.size ≤ 9223372036854775807) (htab:∀ W,Fr NoB w W → TabOk W) :
  CR 15 #[.string s,.int .i64 a,.int .i64 b] w (.bool true):=by
 have key:∃ (t:ByteArray) (k:Int),t.size ≤ 9223372036854775807 ∧ (∀ X,CR 37 #[.string s] X (.tuple #[.string t,.int .i64 k])):=by
  rcases check_cases s with hc | hc
  ·exact ⟨⟨#[]⟩,_,by simp [ByteArray.size],fun X=>devLower_bad X s hs hc⟩
  ·obtain ⟨h4,hr,hp,hok,ho⟩:=check_tree hc
   have:=low_size hp h4
   exact ⟨_,_,by omega,fun X=>devLower_ok X s hc⟩
 obtain ⟨t,k,ht,h1⟩:=key
 have H1:Hid _:=h1
 have H2:Hid (∀ W,Fr NoB w W → CR 13 #[.string t,.int .i64 a,.int .i64 b] W (.bool true)):=fun W hW=>execs_any W t a b ht (fun W2 hW2=>htab W2 (hW.trans hW2))
 clear h1 htab
 go_enter func15,ntmps15
 go_wp2_with (first | (go_at_call 37;refine (H1.out _).mono ?_;rintro x w1 ⟨rfl,hF1⟩) | (go_at_call 13;refine (H2.out _ hF1).mono ?_;rintro x w2 ⟨rfl,hF2⟩))
 go_ret
 exact ⟨rfl,hF1.trans hF2⟩
theorem lstep_all (w0 w:World) (wp bd:Nat) (k hI a b:Int) (s:ByteArray) (h:WOkH w0 w wp bd) (hbd:bd ≤ 2932031007402) (hk2:k ≤ 12) (h1:-9223372036854775808 ≤ hI) (h2:hI ≤ 9223372036854775807) (h3:-9223372036854775808 ≤ a) (h4:a ≤ 9223372036854775807) (hs:s.size ≤ 9223372036854775807) (htab:∀ W,Fr NoB w W → TabOk W) :
  Calls prog 6 #[.pointer (some ⟨wp,0,none⟩),.agg #[.int .i64 k,.int .i64 hI,.int .i64 a,.int .i64 b,.string s]] w fun e w'=>e = .returned (.bool true) ∧ WOkH w0 w' wp (bd + 1):=by
 by_cases hk7:k ≤ 7
 ·exact lstep_any w0 w wp bd k hI a b s h hbd hk7 h1 h2 h3 h4
 ·have HE:Hid (∀ W,Fr NoB w W → WOkH w0 W wp (bd + 1)):=fun W hF=>by
   obtain ⟨own,hv,lv,hs,ls,hW,hpos⟩:=h
   exact hW.okH hF hpos
  have M8:Hid (∀ W,CR 11 #[.string s] W (.bool true)):=fun W=>checks_any W s hs (partIs3 s)
  have M9:Hid (∀ W,Fr NoB w W → CR 12 #[.string s,.int .i64 a] W (.bool true)):=fun W hW=>plays_any W s a hs (fun W2 hW2=>htab W2 (hW.trans hW2))
  have M10:Hid (∀ W,Fr NoB w W → CR 13 #[.string s,.int .i64 a,.int .i64 b] W (.bool true)):=fun W hW=>execs_any W s a b hs (fun W2 hW2=>htab W2 (hW.trans hW2))
  have M11:Hid (∀ W,CR 14 #[.string s] W (.bool true)):=fun W=>lowers_any W s hs
  have M12:Hid (∀ W,Fr NoB w W → CR 15 #[.string s,.int .i64 a,.int .i64 b] W (.bool true)):=fun W hW=>done_fn W s a b hs (fun W2 hW2=>htab W2 (hW.trans hW2))
  clear h htab
  have hk:k = 8 ∨ k = 9 ∨ k = 10 ∨ k = 11 ∨ k = 12:=by omega
  rcases hk with rfl | rfl | rfl | rfl | rfl
  all_goals
   go_enter func6,ntmps6
   go_wp2_with (first
    | (go_at_call 11;refine (M8.out _).mono ?_;rintro e w1 ⟨rfl,hF1⟩)
    | (go_at_call 12;refine (M9.out _ ((Fr.refl _ _).alloc _)).mono ?_;rintro e w1 ⟨rfl,hF1⟩)
    | (go_at_call 13;refine (M10.out _ ((Fr.refl _ _).alloc _)).mono ?_;rintro e w1 ⟨rfl,hF1⟩)
    | (go_at_call 14;refine (M11.out _).mono ?_;rintro e w1 ⟨rfl,hF1⟩)
    | (go_at_call 15;refine (M12.out _ ((Fr.refl _ _).alloc _)).mono ?_;rintro e w1 ⟨rfl,hF1⟩))
   go_ret
   exact ⟨rfl,HE.out _ (((Fr.refl _ _).alloc _).trans hF1)⟩
theorem lall_any (w:World) (ao:Option Addr) (m cap:Nat) (K Hh A B:Nat → Int) (S:Nat → ByteArray) (h:OpRow w ao m K Hh A B S) (htab:∀ W,Fr NoB w W → TabOk W) :
  CR 3 #[.slice ao m cap] w (.bool true):=by
 have HP:Hid _:=lplayed_any w ao m cap K Hh A B S 12 h (fun wr bd i hi hk hW hb=>lstep_all w wr w.heap.size bd (K i) (Hh i) (A i) (B i) (S i) hW hb hk (h.rH i hi).1 (h.rH i hi).2 (h.rA i hi).1 (h.rA i hi).2 (h.rS i hi) (fun W2 hW2=>htab W2 (hW.fr.trans hW2)))
 clear h htab
 go_enter func3,ntmps3
 go_wp2_with fail
 refine Calls.mono HP.out ?_
 rintro e w1 ⟨rfl,hF⟩
 have HF:Hid (Fr NoB w w1):=hF
 clear hF
 go_wp2
 go_ret
 exact ⟨rfl,HF.out⟩
end
end Go.Proofs.YthcjcjfgdgnljabGreatDoor
