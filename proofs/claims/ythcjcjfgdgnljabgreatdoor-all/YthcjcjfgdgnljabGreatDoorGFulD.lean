import Derived.Test.YthcjcjfgdgnljabGreatDoorGFulB
set_option linter.unusedVariables false
set_option maxHeartbeats 4000000
set_option maxRecDepth 8000
open Go.Proofs.Tryz
namespace Go.Proofs.YthcjcjfgdgnljabGreatDoor
open Go.RowKit
theorem two_rows (w:World) (f:Nat → Bool):RowF ((w.alloc (.cells (arrF f) 93)).alloc (.cells zrs 93)) w.heap.size f ∧ RowF ((w.alloc (.cells (arrF f) 93)).alloc (.cells zrs 93)) (w.heap.size + 1) (fun _=>false) ∧ Fr NoB w ((w.alloc (.cells (arrF f) 93)).alloc (.cells zrs 93)):=by
 refine ⟨(RowF.new w f).no ((Fr.refl _ _).alloc _),?_,((Fr.refl _ _).alloc _).alloc _⟩
 have:=RowF.zero (w.alloc (.cells (arrF f) 93))
 exact (show (w.alloc (.cells (arrF f) 93)).heap.size = w.heap.size + 1 by simp) ▸ this
theorem aft_small (w:World) (s:ByteArray) (hs:s.size ≤ 100000) (i:Nat) (f:Nat → Bool) (hi:i < s.size) (b1:((s[i].toNat:Int) == 63) = false) (b2:((s[i].toNat:Int) == 64) = false) (b3:((s[i].toNat:Int) == 126) = false) (hg:greatN s[i].toNat = false) :
  CR 76 #[.string s,.int .i64 i,.agg (arrF f)] w (.agg (arrF (f))):=by
 have HG:Hid _:=fun X=>great_fn X s[i].toNat (UInt8.toNat_lt _)
 rw [hg] at HG
 have H0:Hid _:=two_rows w f
 unfold zrs at H0
 go_enter func76,ntmps76
 go_upto_region 1 with fail
 generalize ((w.alloc (Obj.cells (arrF f) 93)).alloc _) = W at *
 have H1:Hid _:=H0.out.1
 have H2:Hid _:=H0.out.2.1
 have H3:Hid _:=H0.out.2.2
 clear H0
 go_wp2_with (first
  | (go_at_call 88;refine sameC (HG.out _) ?_)
  | (refine wpList_load_row rfl 93 _ rfl (w.heap.size) rfl 93 (arrF (f)) (0,0) _ (H1.out).h underlying93 rfl (sizeArr _) ?_)
  | (refine wpList_store_row rfl 93 _ _ rfl (w.heap.size + 1) (arrF (f)) rfl rfl 93 _ (H2.out).h (sizeArr _) (by rw [arrF_size,arrF_size]) (arrF_one _) ?_))
 refine bodyPost_ret (v:=.agg (arrF (f))) ?_ rfl ⟨rfl,(H3.out).setRow (fun q=>absurd q (by omega)) _⟩
 exact results_cell_row (fn:=Tryz.f76) rfl _ _ (w.heap.size + 1) 93 _ (0,0) _ rfl ((H2.out).row (f)).h underlying93 rfl (sizeArr _)
theorem aft_store (w:World) (s:ByteArray) (hs:s.size ≤ 100000) (i:Nat) (f:Nat → Bool) (hi:i + 1 < s.size) (b1:((s[i].toNat:Int) == 63) = false) (b2:((s[i].toNat:Int) == 64) = false) (b3:((s[i].toNat:Int) == 126) = false) (hg:greatN s[i].toNat = true) (b4:((s[i + 1].toNat:Int) == 61) = false) :
  CR 76 #[.string s,.int .i64 i,.agg (arrF f)] w (.agg (arrF (f))):=by
 have HG:Hid _:=fun X=>great_fn X s[i].toNat (UInt8.toNat_lt _)
 rw [hg] at HG
 have H0:Hid _:=two_rows w f
 unfold zrs at H0
 go_enter func76,ntmps76
 go_upto_region 1 with fail
 generalize ((w.alloc (Obj.cells (arrF f) 93)).alloc _) = W at *
 have H1:Hid _:=H0.out.1
 have H2:Hid _:=H0.out.2.1
 have H3:Hid _:=H0.out.2.2
 clear H0
 go_wp2_with (first
  | (go_at_call 88;refine sameC (HG.out _) ?_)
  | (refine wpList_load_row rfl 93 _ rfl (w.heap.size) rfl 93 (arrF (f)) (0,0) _ (H1.out).h underlying93 rfl (sizeArr _) ?_)
  | (refine wpList_store_row rfl 93 _ _ rfl (w.heap.size + 1) (arrF (f)) rfl rfl 93 _ (H2.out).h (sizeArr _) (by rw [arrF_size,arrF_size]) (arrF_one _) ?_))
 refine bodyPost_ret (v:=.agg (arrF (f))) ?_ rfl ⟨rfl,(H3.out).setRow (fun q=>absurd q (by omega)) _⟩
 exact results_cell_row (fn:=Tryz.f76) rfl _ _ (w.heap.size + 1) 93 _ (0,0) _ rfl ((H2.out).row (f)).h underlying93 rfl (sizeArr _)
theorem aft_self (w:World) (s:ByteArray) (hs:s.size ≤ 100000) (i:Nat) (f:Nat → Bool) (hi:i + 2 < s.size) (b1:((s[i].toNat:Int) == 63) = false) (b2:((s[i].toNat:Int) == 64) = false) (b3:((s[i].toNat:Int) == 126) = false) (hg:greatN s[i].toNat = true) (b4:((s[i + 1].toNat:Int) == 61) = true) (b5:((s[i + 2].toNat:Int) == 91) = false) (b6:((s[i + 2].toNat:Int) != (s[i].toNat:Int)) = false) :
  CR 76 #[.string s,.int .i64 i,.agg (arrF f)] w (.agg (arrF (f))):=by
 have HG:Hid _:=fun X=>great_fn X s[i].toNat (UInt8.toNat_lt _)
 rw [hg] at HG
 have H0:Hid _:=two_rows w f
 unfold zrs at H0
 go_enter func76,ntmps76
 go_upto_region 1 with fail
 generalize ((w.alloc (Obj.cells (arrF f) 93)).alloc _) = W at *
 have H1:Hid _:=H0.out.1
 have H2:Hid _:=H0.out.2.1
 have H3:Hid _:=H0.out.2.2
 clear H0
 go_wp2_with (first
  | (go_at_call 88;refine sameC (HG.out _) ?_)
  | (refine wpList_load_row rfl 93 _ rfl (w.heap.size) rfl 93 (arrF (f)) (0,0) _ (H1.out).h underlying93 rfl (sizeArr _) ?_)
  | (refine wpList_store_row rfl 93 _ _ rfl (w.heap.size + 1) (arrF (f)) rfl rfl 93 _ (H2.out).h (sizeArr _) (by rw [arrF_size,arrF_size]) (arrF_one _) ?_))
 refine bodyPost_ret (v:=.agg (arrF (f))) ?_ rfl ⟨rfl,(H3.out).setRow (fun q=>absurd q (by omega)) _⟩
 exact results_cell_row (fn:=Tryz.f76) rfl _ _ (w.heap.size + 1) 93 _ (0,0) _ rfl ((H2.out).row (f)).h underlying93 rfl (sizeArr _)
theorem aft_drop (w:World) (s:ByteArray) (hs:s.size ≤ 100000) (i:Nat) (f:Nat → Bool) (hi:i + 1 < s.size) (b1:((s[i].toNat:Int) == 63) = false) (b2:((s[i].toNat:Int) == 64) = false) (b3:((s[i].toNat:Int) == 126) = true) (k:Nat) (hk:k < 26) (hq:s[i + 1].toNat = k + 65) :
  CR 76 #[.string s,.int .i64 i,.agg (arrF f)] w (.agg (arrF (updB f k false))):=by
 have H0:Hid _:=two_rows w f
 unfold zrs at H0
 go_enter func76,ntmps76
 go_upto_region 1 with fail
 generalize ((w.alloc (Obj.cells (arrF f) 93)).alloc _) = W at *
 have H1:Hid _:=H0.out.1
 have H2:Hid _:=H0.out.2.1
 have H3:Hid _:=H0.out.2.2
 clear H0
 have c1:=H1.out.cell hk
 have c2:=H1.out.frz k
 have HS:Hid _:=H1.out.set hk false
 have HZ:Hid (RowF (W.setCell ⟨w.heap.size,k,none⟩ (.bool false)) (w.heap.size + 1) (fun _=>false)):=H2.out.fr ((Fr.refl (OneB w.heap.size) _).setCell (p:=⟨w.heap.size,k,none⟩) (fun _=>rfl) _) (by unfold OneB;omega)
 have HF:Hid (Fr NoB w (W.setCell ⟨w.heap.size,k,none⟩ (.bool false))):=H3.out.setCell (p:=⟨w.heap.size,k,none⟩) (fun q=>absurd q (by simp)) _
 go_wp2_with (first
  | (refine wpList_load_row rfl 93 _ rfl (w.heap.size) rfl 93 (arrF (updB f k false)) (0,0) _ (HS.out).h underlying93 rfl (sizeArr _) ?_)
  | (refine wpList_store_row rfl 93 _ _ rfl (w.heap.size + 1) (arrF (updB f k false)) rfl rfl 93 _ (HZ.out).h (sizeArr _) (by rw [arrF_size,arrF_size]) (arrF_one _) ?_))
 refine bodyPost_ret (v:=.agg (arrF (updB f k false))) ?_ rfl ⟨rfl,(HF.out).setRow (fun q=>absurd q (by omega)) _⟩
 exact results_cell_row (fn:=Tryz.f76) rfl _ _ (w.heap.size + 1) 93 _ (0,0) _ rfl ((HZ.out).row (updB f k false)).h underlying93 rfl (sizeArr _)
theorem aft_make (w:World) (s:ByteArray) (hs:s.size ≤ 100000) (i:Nat) (f:Nat → Bool) (hi:i + 2 < s.size) (b1:((s[i].toNat:Int) == 63) = false) (b2:((s[i].toNat:Int) == 64) = false) (b3:((s[i].toNat:Int) == 126) = false) (hg:greatN s[i].toNat = true) (b4:((s[i + 1].toNat:Int) == 61) = true) (b5:((s[i + 2].toNat:Int) == 91) = true) (k:Nat) (hk:k < 26) (hq:s[i].toNat = k + 65) :
  CR 76 #[.string s,.int .i64 i,.agg (arrF f)] w (.agg (arrF (updB f k true))):=by
 have HG:Hid _:=fun X=>great_fn X s[i].toNat (UInt8.toNat_lt _)
 rw [hg] at HG
 have H0:Hid _:=two_rows w f
 unfold zrs at H0
 go_enter func76,ntmps76
 go_upto_region 1 with fail
 generalize ((w.alloc (Obj.cells (arrF f) 93)).alloc _) = W at *
 have H1:Hid _:=H0.out.1
 have H2:Hid _:=H0.out.2.1
 have H3:Hid _:=H0.out.2.2
 clear H0
 have c1:=H1.out.cell hk
 have c2:=H1.out.frz k
 have HS:Hid _:=H1.out.set hk true
 have HZ:Hid (RowF (W.setCell ⟨w.heap.size,k,none⟩ (.bool true)) (w.heap.size + 1) (fun _=>false)):=H2.out.fr ((Fr.refl (OneB w.heap.size) _).setCell (p:=⟨w.heap.size,k,none⟩) (fun _=>rfl) _) (by unfold OneB;omega)
 have HF:Hid (Fr NoB w (W.setCell ⟨w.heap.size,k,none⟩ (.bool true))):=H3.out.setCell (p:=⟨w.heap.size,k,none⟩) (fun q=>absurd q (by simp)) _
 rw [hq] at HG b1 b2 b3
 go_wp2_with (first
  | (go_at_call 88;refine sameC (HG.out _) ?_)
  | (refine wpList_load_row rfl 93 _ rfl (w.heap.size) rfl 93 (arrF (updB f k true)) (0,0) _ (HS.out).h underlying93 rfl (sizeArr _) ?_)
  | (refine wpList_store_row rfl 93 _ _ rfl (w.heap.size + 1) (arrF (updB f k true)) rfl rfl 93 _ (HZ.out).h (sizeArr _) (by rw [arrF_size,arrF_size]) (arrF_one _) ?_))
 refine bodyPost_ret (v:=.agg (arrF (updB f k true))) ?_ rfl ⟨rfl,(HF.out).setRow (fun q=>absurd q (by omega)) _⟩
 exact results_cell_row (fn:=Tryz.f76) rfl _ _ (w.heap.size + 1) 93 _ (0,0) _ rfl ((HZ.out).row (updB f k true)).h underlying93 rfl (sizeArr _)
theorem aft_move (w:World) (s:ByteArray) (hs:s.size ≤ 100000) (i:Nat) (f:Nat → Bool) (hi:i + 2 < s.size) (b1:((s[i].toNat:Int) == 63) = false) (b2:((s[i].toNat:Int) == 64) = false) (b3:((s[i].toNat:Int) == 126) = false) (hg:greatN s[i].toNat = true) (b4:((s[i + 1].toNat:Int) == 61) = true) (b5:((s[i + 2].toNat:Int) == 91) = false) (b6:((s[i + 2].toNat:Int) != (s[i].toNat:Int)) = true) (k:Nat) (hk:k < 26) (hq:s[i].toNat = k + 65) (l:Nat) (hl:l < 26) (hp:s[i + 2].toNat = l + 65) :
  Calls prog 76 #[.string s,.int .i64 i,.agg (arrF f)] w fun e w'=>e = .returned (.agg (arrF (updB (updB f k (f l)) l false))) ∧ Fr NoB w w':=by
 have HG:Hid _:=fun X=>great_fn X s[i].toNat (UInt8.toNat_lt _)
 rw [hg] at HG
 have H0:Hid _:=two_rows w f
 unfold zrs at H0
 go_enter func76,ntmps76
 go_upto_region 1 with fail
 generalize ((w.alloc (Obj.cells (arrF f) 93)).alloc _) = W at *
 have H1:Hid _:=H0.out.1
 have H2:Hid _:=H0.out.2.1
 have H3:Hid _:=H0.out.2.2
 clear H0
 have c1:=H1.out.cell hl
 have c2:=H1.out.frz k
 have c3:=H1.out.frz l
 have c4:=H1.out.cell hk
 have HSa:Hid _:=H1.out.set hk (f l)
 have HS:Hid _:=HSa.out.set hl false
 have HZ:Hid (RowF ((W.setCell ⟨w.heap.size,k,none⟩ (.bool (f l))).setCell ⟨w.heap.size,l,none⟩ (.bool false)) (w.heap.size + 1) (fun _=>false)):=(H2.out.fr ((Fr.refl (OneB w.heap.size) _).setCell (p:=⟨w.heap.size,k,none⟩) (fun _=>rfl) _) (by unfold OneB;omega)).fr ((Fr.refl (OneB w.heap.size) _).setCell (p:=⟨w.heap.size,l,none⟩) (fun _=>rfl) _) (by unfold OneB;omega)
 have HF:Hid (Fr NoB w ((W.setCell ⟨w.heap.size,k,none⟩ (.bool (f l))).setCell ⟨w.heap.size,l,none⟩ (.bool false))):=(H3.out.setCell (p:=⟨w.heap.size,k,none⟩) (fun q=>absurd q (by simp)) _).setCell (p:=⟨w.heap.size,l,none⟩) (fun q=>absurd q (by simp)) _
 have c5:=HSa.out.cell hl
 rw [hq] at HG b1 b2 b3 b6
 rw [hp] at b5 b6
 go_wp2_with (first
  | (go_at_call 88;refine sameC (HG.out _) ?_)
  | (refine wpList_load_row rfl 93 _ rfl (w.heap.size) rfl 93 (arrF (updB (updB f k (f l)) l false)) (0,0) _ (HS.out).h underlying93 rfl (sizeArr _) ?_)
  | (refine wpList_store_row rfl 93 _ _ rfl (w.heap.size + 1) (arrF (updB (updB f k (f l)) l false)) rfl rfl 93 _ (HZ.out).h (sizeArr _) (by rw [arrF_size,arrF_size]) (arrF_one _) ?_))
 refine bodyPost_ret (v:=.agg (arrF (updB (updB f k (f l)) l false))) ?_ rfl ⟨rfl,(HF.out).setRow (fun q=>absurd q (by omega)) _⟩
 exact results_cell_row (fn:=Tryz.f76) rfl _ _ (w.heap.size + 1) 93 _ (0,0) _ rfl ((HZ.out).row (updB (updB f k (f l)) l false)).h underlying93 rfl (sizeArr _)
theorem aft_if (w:World) (s:ByteArray) (hs:s.size ≤ 100000) (i:Nat) (f:Nat → Bool) (a b c:Nat) (h:IfAt s i a b c) (T1 T2:(Nat → Bool) → Nat → Bool) (hc:Clean f) (IH1:AlongIs s (a + 1) b T1) (IH2:AlongIs s (b + 2) c T2) :
  CR 76 #[.string s,.int .i64 i,.agg (arrF f)] w (.agg (arrF (bothF (T1 f) (T2 f)))):=by
 have hbd:=h.bnd
 have hi:i < s.size:=by omega
 have hq:s[i].toNat = 63:=by rw [← bt_in hi];exact h.q
 have b1:((s[i].toNat:Int) == 63) = true:=beq_iff_eq.2 (by omega)
 have HH:Hid _:=fun X=>halves_fn X s i a b c h hs
 have HI1:Hid (∀ (X:World),CR 60 #[.string s,.int .i64 ((a:Int) + 1),.int .i64 b,.agg (arrF f)] X (.agg (arrF (T1 f)))):=fun X=>IH1 X f hc
 have HI2:Hid (∀ (X:World),CR 60 #[.string s,.int .i64 ((b:Int) + 2),.int .i64 c,.agg (arrF f)] X (.agg (arrF (T2 f)))):=fun X=>IH2 X f hc
 clear h hq IH1 IH2
 have H0:Hid _:=two_rows w f
 unfold zrs at H0
 go_enter func76,ntmps76
 go_upto_region 1 with fail
 generalize ((w.alloc (Obj.cells (arrF f) 93)).alloc _) = W at *
 have H1:Hid _:=H0.out.1
 have H2:Hid _:=H0.out.2.1
 have H3:Hid _:=H0.out.2.2
 clear H0
 go_upto_region 5 with (first
  | (go_at_call 72;refine sameC (HH.out _) ?_)
  | (refine wpList_load_row rfl 93 _ rfl (w.heap.size) rfl 93 (arrF (f)) (0,0) _ (H1.out).h underlying93 rfl (sizeArr _) ?_)
  | (go_at_call 60;refine (HI1.out _).mono ?_;rintro e w1 ⟨rfl,hF1⟩)
  | (refine wpList_store_row rfl 93 _ _ rfl (w1.heap.size) (arrF (T1 f)) rfl rfl 93 _ (RowF.zero w1).h (sizeArr _) (by rw [arrF_size,arrF_size]) (arrF_one _) ?_))
 have hq1:w.heap.size + 1 < w1.heap.size:=Nat.lt_of_lt_of_le H2.out.lt hF1.size
 have K0:Fr NoB W ((w1.alloc (.cells zrs 93)).setRow w1.heap.size (arrF (T1 f))):=(hF1.alloc _).setRow (fun q=>absurd hF1.size (by omega)) _
 have K1:=H1.out.no K0
 have K2:=H2.out.no K0
 have K3:RowF ((w1.alloc (.cells zrs 93)).setRow w1.heap.size (arrF (T1 f))) w1.heap.size (T1 f):=(RowF.zero w1).row (T1 f)
 have K4:=H3.out.trans K0
 unfold zrs at K0 K1 K2 K3 K4
 generalize ((w1.alloc (Obj.cells _ 93)).setRow w1.heap.size (arrF (T1 f))) = W2 at *
 generalize w1.heap.size = q at *
 have HK1:Hid _:=K1
 have HK2:Hid _:=K2
 have HK3:Hid _:=K3
 have HK4:Hid _:=K4
 clear K0 K1 K2 K3 K4 hF1 H1 H2 H3
 go_upto_region 6 with (first
  | (refine wpList_load_row rfl 93 _ rfl (w.heap.size) rfl 93 (arrF (f)) (0,0) _ (HK1.out).h underlying93 rfl (sizeArr _) ?_)
  | (go_at_call 60;refine (HI2.out _).mono ?_;rintro e w2 ⟨rfl,hF2⟩)
  | (refine wpList_store_row rfl 93 _ _ rfl (w2.heap.size) (arrF (T2 f)) rfl rfl 93 _ (RowF.zero w2).h (sizeArr _) (by rw [arrF_size,arrF_size]) (arrF_one _) ?_))
 have hq2:q < w2.heap.size:=Nat.lt_of_lt_of_le HK3.out.lt hF2.size
 have K0:Fr NoB W2 ((w2.alloc (.cells zrs 93)).setRow w2.heap.size (arrF (T2 f))):=(hF2.alloc _).setRow (fun q=>absurd hF2.size (by omega)) _
 have K2:=HK2.out.no K0
 have K3:=HK3.out.no K0
 have K5:RowF ((w2.alloc (.cells zrs 93)).setRow w2.heap.size (arrF (T2 f))) w2.heap.size (T2 f):=(RowF.zero w2).row (T2 f)
 have K4:=HK4.out.trans K0
 unfold zrs at K0 K2 K3 K4 K5
 generalize ((w2.alloc (Obj.cells _ 93)).setRow w2.heap.size (arrF (T2 f))) = W3 at *
 generalize w2.heap.size = r at *
 have HL2:Hid _:=K2
 have HL3:Hid _:=K3
 have HL4:Hid _:=K4
 have HL5:Hid _:=K5
 clear K0 K2 K3 K4 K5 hF2 HK1 HK2 HK3 HK4
 go_wp2_with (first
  | (refine wpList_load_row rfl 93 _ rfl (q) rfl 93 (arrF (T1 f)) (0,0) _ (HL3.out).h underlying93 rfl (sizeArr _) ?_)
  | (refine wpList_load_row rfl 93 _ rfl (r) rfl 93 (arrF (T2 f)) (0,0) _ (HL5.out).h underlying93 rfl (sizeArr _) ?_)
  | (go_at_call 105;refine (both_fn _ (T1 f) (T2 f)).mono ?_;rintro e w3 ⟨rfl,hF3⟩)
  | (refine wpList_store_row rfl 93 _ _ rfl (w.heap.size + 1) (arrF (bothF (T1 f) (T2 f))) rfl rfl 93 _ (HL2.out.no hF3).h (sizeArr _) (by rw [arrF_size,arrF_size]) (arrF_one _) ?_))
 refine bodyPost_ret (v:=.agg (arrF (bothF (T1 f) (T2 f)))) ?_ rfl ⟨rfl,(HL4.out.trans hF3).setRow (fun q=>absurd q (by omega)) _⟩
 exact results_cell_row (fn:=Tryz.f76) rfl _ _ (w.heap.size + 1) 93 _ (0,0) _ rfl ((HL2.out.no hF3).row (bothF (T1 f) (T2 f))).h underlying93 rfl (sizeArr _)
theorem aft_loop (w:World) (s:ByteArray) (hs:s.size ≤ 100000) (i:Nat) (f:Nat → Bool) (a b:Nat) (h:LoopAt s i a b) (T:(Nat → Bool) → Nat → Bool) (hc:Clean f) (hT:∀ g,Clean g → Clean (T g)) (IH:AlongIs s (a + 1) b T) :
  CR 76 #[.string s,.int .i64 i,.agg (arrF f)] w (.agg (arrF (iterF T 27 f))):=by
 have hbd:=h.bnd
 have hi:i < s.size:=by omega
 have hq:s[i].toNat = 64:=by rw [← bt_in hi];exact h.q
 have b1:((s[i].toNat:Int) == 63) = false:=bF (by omega)
 have b2:((s[i].toNat:Int) == 64) = true:=beq_iff_eq.2 (by omega)
 have HH:Hid _:=fun X=>head_of X s hs i a b h T f hc hT IH
 generalize hR:iterF T 27 f = R at *
 clear h hq IH hR
 have H0:Hid _:=two_rows w f
 unfold zrs at H0
 go_enter func76,ntmps76
 go_upto_region 1 with fail
 generalize ((w.alloc (Obj.cells (arrF f) 93)).alloc _) = W at *
 have H1:Hid _:=H0.out.1
 have H2:Hid _:=H0.out.2.1
 have H3:Hid _:=H0.out.2.2
 clear H0
 go_wp2_with (first
  | (refine wpList_load_row rfl 93 _ rfl (w.heap.size) rfl 93 (arrF (f)) (0,0) _ (H1.out).h underlying93 rfl (sizeArr _) ?_)
  | (go_at_call 74;refine (HH.out _).mono ?_;rintro e w1 ⟨rfl,hF1⟩)
  | (refine wpList_store_row rfl 93 _ _ rfl (w.heap.size + 1) (arrF (R)) rfl rfl 93 _ (H2.out.no hF1).h (sizeArr _) (by rw [arrF_size,arrF_size]) (arrF_one _) ?_))
 refine bodyPost_ret (v:=.agg (arrF (R))) ?_ rfl ⟨rfl,(H3.out.trans hF1).setRow (fun q=>absurd q (by omega)) _⟩
 exact results_cell_row (fn:=Tryz.f76) rfl _ _ (w.heap.size + 1) 93 _ (0,0) _ rfl ((H2.out.no hF1).row (R)).h underlying93 rfl (sizeArr _)
theorem simF_other {s:ByteArray} {i:Nat} {f:Nat → Bool} (h1:bt s i ≠ 126) (h2:greatN (bt s i) = false ∨ bt s (i + 1) ≠ 61):simF s i f = f:=by
 unfold simF
 rw [if_neg h1]
 rcases h2 with h | h
 ·rw [if_neg (by rw [h];simp),if_neg (by rw [h];simp)]
 ·rw [if_neg (fun e=>h e.2.1),if_neg (fun e=>h e.2.1)]
theorem great_k {c:Nat} (h:greatN c = true):c - 65 < 26 ∧ c = (c - 65) + 65:=by simp [greatN] at h;omega
theorem aft_simple (w:World) (s:ByteArray) (hs:s.size ≤ 100000) (i j:Nat) (f:Nat → Bool) (h:Simple s i j) :
  CR 76 #[.string s,.int .i64 i,.agg (arrF f)] w (.agg (arrF (simF s i f))):=by
 have hl:=h.line
 have hf:=h.first
 have hi:i < s.size:=by omega
 have b1:((s[i].toNat:Int) == 63) = false:=beq_eq_false_iff_ne.2 (by have:=hf.1;rw [bt_in hi] at this;omega)
 have b2:((s[i].toNat:Int) == 64) = false:=beq_eq_false_iff_ne.2 (by have:=hf.2;rw [bt_in hi] at this;omega)
 have b3:bt s i ≠ 126 → ((s[i].toNat:Int) == 126) = false:=fun h=>beq_eq_false_iff_ne.2 (by rw [bt_in hi] at h;omega)
 have sm:smallN (bt s i) = true → CR 76 #[.string s,.int .i64 i,.agg (arrF f)] w (.agg (arrF (simF s i f))):=fun hsm=>by
  have hg:=(small_in hsm).2.2.2.2
  have hn:bt s i ≠ 126:=fun e=>by rw [e] at hsm;simp [smallN] at hsm
  rw [simF_other hn (.inl hg)]
  rw [bt_in hi] at hg
  exact aft_small w s hs i f hi b1 b2 (b3 hn) hg
 rcases h with h | h | h | h | h | h | h | h | h
 ·exact sm h.1
 ·exact sm h.1
 ·exact sm h.1
 ·exact sm h.1
 ·obtain ⟨hg,e1,_⟩:=h
  have hn:bt s i ≠ 126:=fun e=>by rw [e] at hg;simp [greatN] at hg
  have hi1:=byte_in e1 (by decide)
  rw [simF_other hn (.inr (by rw [e1];decide))]
  rw [bt_in hi] at hg
  rw [bt_in hi1] at e1
  exact aft_store w s hs i f hi1 b1 b2 (b3 hn) hg (bF (by omega))
 ·obtain ⟨hg,e1,e2,_⟩:=h
  have hn:bt s i ≠ 126:=fun e=>by rw [e] at hg;simp [greatN] at hg
  have hi2:=byte_in e2 (by decide)
  have hi1:=byte_in e1 (by decide)
  have hsim:simF s i f = updB f (bt s i - 65) true:=by
   unfold simF
   rw [if_neg hn,if_pos ⟨hg,e1,e2⟩]
  rw [hsim]
  obtain ⟨k1,k2⟩:=great_k hg
  rw [bt_in hi] at hg k1 k2 ⊢
  rw [bt_in hi1] at e1
  rw [bt_in hi2] at e2
  exact aft_make w s hs i f hi2 b1 b2 (b3 hn) hg (beq_iff_eq.2 (by omega)) (beq_iff_eq.2 (by omega)) _ k1 k2
 ·obtain ⟨hg,e1,hg2,_⟩:=h
  have hn:bt s i ≠ 126:=fun e=>by rw [e] at hg;simp [greatN] at hg
  have hi2:=(great_in hg2).1
  have hi1:=byte_in e1 (by decide)
  have h91:bt s (i + 2) ≠ 91:=fun e=>by rw [e] at hg2;simp [greatN] at hg2
  by_cases he:bt s (i + 2) = bt s i
  ·have hsim:simF s i f = f:=by
    unfold simF
    rw [if_neg hn,if_neg (fun q=>h91 q.2.2),if_neg (fun q=>q.2.2 he)]
   rw [hsim]
   rw [bt_in hi2,bt_in hi] at he
   rw [bt_in hi] at hg
   rw [bt_in hi1] at e1
   rw [bt_in hi2] at h91
   exact aft_self w s hs i f hi2 b1 b2 (b3 hn) hg (beq_iff_eq.2 (by omega)) (bF (by omega)) (by rw [he];simp)
  ·have hsim:simF s i f = updB (updB f (bt s i - 65) (f (bt s (i + 2) - 65))) (bt s (i + 2) - 65) false:=by
    unfold simF
    rw [if_neg hn,if_neg (fun q=>h91 q.2.2),if_pos ⟨hg,e1,he⟩]
   rw [hsim]
   obtain ⟨k1,k2⟩:=great_k hg
   obtain ⟨l1,l2⟩:=great_k hg2
   rw [bt_in hi2] at he h91 l1 l2 ⊢
   rw [bt_in hi] at he hg k1 k2 ⊢
   rw [bt_in hi1] at e1
   exact aft_move w s hs i f hi2 b1 b2 (b3 hn) hg (beq_iff_eq.2 (by omega)) (bF (by omega)) (bne_iff_ne.2 (by omega)) _ k1 k2 _ l1 l2
 ·have e:=h.1
  have hn:bt s i ≠ 126:=by omega
  have hg:greatN (bt s i) = false:=by rw [e];rfl
  rw [simF_other hn (.inl hg)]
  rw [bt_in hi] at hg
  exact aft_small w s hs i f hi b1 b2 (b3 hn) hg
 ·obtain ⟨e,hg,_⟩:=h
  have hi1:=(great_in hg).1
  have hsim:simF s i f = updB f (bt s (i + 1) - 65) false:=by
   unfold simF
   rw [if_pos e]
  rw [hsim]
  obtain ⟨k1,k2⟩:=great_k hg
  rw [bt_in hi] at e
  rw [bt_in hi1] at k1 k2 ⊢
  exact aft_drop w s hs i f hi1 b1 b2 (beq_iff_eq.2 (by omega)) _ k1 k2
theorem ifAt_of {s:ByteArray} {F i a b c:Nat} (e:bt s i = 63) (ho:Opnd s (i + 1) a) (ha:bt s a = 123) (hp:Prog s F (a + 1) b) (hb:bt s b = 125) (hb1:bt s (b + 1) = 123) (hq:Prog s F (b + 2) c) (hc:bt s c = 125):IfAt s i a b c :=
 ⟨e,ho,ha,hp.nn,hb,hb1,hq.nn,hc⟩
theorem loopAt_of {s:ByteArray} {F i a b:Nat} (e:bt s i = 64) (ho:Opnd s (i + 1) a) (ha:bt s a = 123) (hp:Prog s F (a + 1) b) (hb:bt s b = 125):LoopAt s i a b :=
 ⟨e,ho,ha,hp.nn,hb⟩
theorem after_of (s:ByteArray) (hs:s.size ≤ 100000) (F:Nat) (IH:∀ a b,Prog s F a b → AlongIs s a b (alongF s F a b)) (w:World) (i m:Nat) (f:Nat → Bool) (h:StmtF (Prog s F) s i m) (hc:Clean f) :
  CR 76 #[.string s,.int .i64 i,.agg (arrF f)] w (.agg (arrF (afterF (alongF s F) s i f))):=by
 rcases h with h | ⟨e,a,b,c,ho,ha,hp,hb,hb1,hq,hc',rfl⟩ | ⟨e,a,b,ho,ha,hp,hb,rfl⟩
 ·rw [afterF_simple h]
  exact aft_simple w s hs i m f h
 ·have hI:=ifAt_of e ho ha hp hb hb1 hq hc'
  rw [afterF_if hI]
  exact aft_if w s hs i f a b c hI _ _ hc (IH _ _ hp) (IH _ _ hq)
 ·have hL:=loopAt_of e ho ha hp hb
  rw [afterF_loop hL]
  exact aft_loop w s hs i f a b hL _ hc (fun g hg=>Clean.along hg) (IH _ _ hp)
theorem behind_of (s:ByteArray) (hs:s.size ≤ 100000) (F:Nat) (w:World) (i m:Nat) (h:StmtF (Prog s F) s i m) :
  CS 77 #[.string s,.int .i64 i] w (.int .i64 m):=by
 rcases h with h | ⟨e,a,b,c,ho,ha,hp,hb,hb1,hq,hc',rfl⟩ | ⟨e,a,b,ho,ha,hp,hb,rfl⟩
 ·exact beh_simple w s i m h hs
 ·exact beh_if w s i a b c (ifAt_of e ho ha hp hb hb1 hq hc') hs
 ·exact beh_loop w s i a b (loopAt_of e ho ha hp hb) hs
theorem beh_of {s:ByteArray} {F i m:Nat} (h:StmtF (Prog s F) s i m):behN s i = m:=by
 rcases h with h | ⟨e,a,b,c,ho,ha,hp,hb,hb1,hq,hc',rfl⟩ | ⟨e,a,b,ho,ha,hp,hb,rfl⟩
 ·exact h.beh
 ·exact (ifAt_of e ho ha hp hb hb1 hq hc').beh
 ·exact (loopAt_of e ho ha hp hb).beh
theorem alongF_step {s:ByteArray} {F i m j:Nat} (h:StmtF (Prog s F) s i m) (hij:i < j) (f:Nat → Bool):alongF s (F + 1) i j f = alongF s F m j (afterF (alongF s F) s i f):=by
 show (if i < j then alongF s F (behN s i) j (afterF (alongF s F) s i f) else f) = _
 rw [if_pos hij,beh_of h]
theorem alongF_end {s:ByteArray} {F i:Nat} (f:Nat → Bool):alongF s F i i f = f:=by
 cases F with
 | zero=>rfl
 | succ F=>show (if i < i then _ else f) = f;rw [if_neg (Nat.lt_irrefl _)]
theorem along_step (s:ByteArray) (hs:s.size ≤ 100000) (F:Nat) (IH:∀ F',F' < F → ∀ a b,Prog s F' a b → AlongIs s a b (alongF s F' a b)) (i j:Nat) (hp:Prog s F i j):AlongIs s i j (alongF s F i j):=by
 intro w f hc
 have HA:Hid (∀ F',F' < F → ∀ (X:World) (k m:Nat) (g:Nat → Bool),StmtF (Prog s F') s k m → Clean g → CR 76 #[.string s,.int .i64 k,.agg (arrF g)] X (.agg (arrF (afterF (alongF s F') s k g)))) :=
  fun F' hF' X k m g h hg=>after_of s hs F' (IH F' hF') X k m g h hg
 clear IH
 have H0:Hid _:=two_rows w f
 unfold zrs at H0
 have hij:=hp.le
 generalize hR:alongF s F i j f = R
 have HR:Hid _:=hR
 clear hR
 go_enter func60,ntmps60
 go_wp2
 generalize ((w.alloc (Obj.cells (arrF f) 93)).alloc _) = W at *
 have HP:Hid _:=hp
 have HC:Hid (Clean f):=hc
 clear hp hc
 go_loopg [1] F (fun k t wr=>∃ (p:Nat) (g:Nat → Bool),k ≤ F ∧ t = .int .i64 p ∧ p ≤ j ∧ Prog s k p j ∧ Clean g ∧ R = alongF s k p j g ∧ RowF wr w.heap.size g ∧ RowF wr (w.heap.size + 1) (fun _=>false) ∧ Fr NoB w wr)
 case atStart=>exact ⟨i,f,Nat.le_refl _,rfl,hij,HP.out,HC.out,HR.out.symm,H0.out.1,H0.out.2.1,H0.out.2.2⟩
 case round =>
  obtain ⟨p,g,hk,rfl,hpj,hp,hcg,hR,h1,h2,h3⟩:=hrel
  have H1:Hid _:=h1
  have H2:Hid _:=h2
  have H3:Hid _:=h3
  have HR2:Hid _:=hR
  have Hcg:Hid (Clean g):=hcg
  have Hp:Hid (Prog s gk p j):=hp
  clear h1 h2 h3 hR hcg hp H0 HR
  by_cases hlt:p < j
  ·have hdec:∃ F' m,gk = F' + 1 ∧ StmtF (Prog s F') s p m ∧ Prog s F' m j:=by
    have:=Hp.out
    cases gk with
    | zero=>exact absurd (show p = j from this) (by omega)
    | succ F' =>
     rcases this with q | ⟨m,q1,q2⟩
     ·omega
     ·exact ⟨F',m,rfl,q1,q2⟩
   obtain ⟨F',m,rfl,hst,hpm⟩:=hdec
   have hml:=hpm.le
   have Hst:Hid (StmtF (Prog s F') s p m):=hst
   have Hpm:Hid (Prog s F' m j):=hpm
   have HR3:Hid (R = alongF s F' m j (afterF (alongF s F') s p g)):=by show R = _;rw [HR2.out,alongF_step hst hlt]
   have HA2:Hid (∀ X:World,CR 76 #[.string s,.int .i64 p,.agg (arrF g)] X (.agg (arrF (afterF (alongF s F') s p g)))):=fun X=>HA.out F' (by omega) X p m g hst Hcg.out
   have HBh:Hid (∀ X:World,CS 77 #[.string s,.int .i64 p] X (.int .i64 m)):=fun X=>behind_of s hs F' X p m hst
   have Hcl:Hid (Clean (afterF (alongF s F') s p g)):=Clean.after (fun a b g hg=>Clean.along hg) Hcg.out
   generalize afterF (alongF s F') s p g = G at *
   clear hst hpm HR2 Hp
   go_wp2_with (first
    | (refine wpList_load_row rfl 93 _ rfl w.heap.size rfl 93 (arrF g) (0,0) _ H1.out.h underlying93 rfl (sizeArr g) ?_)
    | (go_at_call 76;refine (HA2.out _).mono ?_;rintro e w1 ⟨rfl,hF1⟩)
    | (refine wpList_store_row rfl 93 _ _ rfl w.heap.size (arrF G) rfl rfl 93 _ (H1.out.no hF1).h (sizeArr _) (by rw [arrF_size,arrF_size]) (arrF_one _) ?_)
    | (go_at_call 77;refine sameC (HBh.out _) ?_))
   go_roundg F'
   case measure=>omega
   case rel=>exact ⟨m,G,by omega,rfl,hml,Hpm.out,Hcl.out,HR3.out,(H1.out.no hF1).row _,(H2.out.no hF1).fr ((Fr.refl (OneB w.heap.size) _).setRow (fun _=>rfl) _) (by unfold OneB;omega),(H3.out.trans hF1).setRow (fun q=>absurd q (by omega)) _⟩
  ·have hpe:p = j:=by omega
   subst hpe
   have HE:Hid (R = g):=by show R = g;rw [HR2.out,alongF_end]
   clear HR2
   go_wp2_with (first
    | (refine wpList_load_row rfl 93 _ rfl w.heap.size rfl 93 (arrF g) (0,0) _ H1.out.h underlying93 rfl (sizeArr g) ?_)
    | (refine wpList_store_row rfl 93 _ _ rfl (w.heap.size + 1) (arrF g) rfl rfl 93 _ H2.out.h (sizeArr _) (by rw [arrF_size,arrF_size]) (arrF_one _) ?_))
   refine bodyPost_ret (v:=.agg (arrF R)) ?_ rfl ⟨rfl,H3.out.setRow (fun q=>absurd q (by omega)) _⟩
   rw [HE.out]
   exact results_cell_row (fn:=Tryz.f60) rfl _ _ (w.heap.size + 1) 93 _ (0,0) _ rfl (H2.out.row g).h underlying93 rfl (sizeArr _)
theorem along_fn (s:ByteArray) (hs:s.size ≤ 100000) (F:Nat):∀ i j,Prog s F i j → AlongIs s i j (alongF s F i j):=by
 induction F using Nat.strongRecOn with
 | _ F ih =>
  intro i j hp
  exact along_step s hs F ih i j hp
end Go.Proofs.YthcjcjfgdgnljabGreatDoor
