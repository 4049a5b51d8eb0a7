import Derived.Test.YthcjcjfgdgnljabGreatDoorGRunI
set_option linter.unusedVariables false
set_option maxHeartbeats 4000000
set_option maxRecDepth 8000
open Go.Proofs.Tryz
namespace Go.Proofs.YthcjcjfgdgnljabGreatDoor
open Go.RowKit
section
theorem updI_two (f:Nat → Int) (k:Nat) (u v:Int):updI (updI f k u) k v = updI f k v:=by
 funext i
 unfold updI
 split <;> rfl
section
variable (w:World) (rp base:Nat) (s:ByteArray) (x:Rn) (bx:Nat → List Int) (blk:Nat → Nat)
theorem calc_set (h:PlayAt w rp base s x bx blk) (i j k:Nat) (hs:s.size ≤ 100000) (hk:k < 26) (ho:Opnd s i j) (hj:j < s.size) (h59:s[j].toNat = 59) :
  Calls prog 133 #[.pointer (some ⟨rp,0,none⟩),.int .i64 k,.int .i64 i] w fun e w'=>PlaySays rp base s true { x with num:=updI x.num k (valN s x.num i j) } bx w e w':=by
 have cs:=h.r.cs
 have cn:=h.r.cn k hk
 have fz:=h.r.fz (1 + k)
 have hrl:=h.r.lt
 have hd:digitN (bt s j) = false:=by rw [bt_in hj,h59];rfl
 have HP:Hid (PlayAt w rp base s x bx blk):=h
 have HV:Hid (CR 82 #[.pointer (some ⟨rp,0,none⟩),.int .i64 i] w (.int .i64 (valN s x.num i j))):=value_fn w rp s x h.r i j ho hj hs hd
 have HO:Hid (∀ W,CS 102 #[.string s,.int .i64 i] W (.int .i64 j)):=fun W=>bop_fn W s i j ho hj hs hd
 generalize valN s x.num i j = v at *
 clear h ho hd
 go_enter func133,ntmps133
 go_wp2_with (first | (go_at_call 82;refine HV.out.mono ?_;rintro e w1 ⟨rfl,hF1⟩;have HP1:Hid _:=HP.out.no hF1;have cs1:=hF1.cell_some cs id;have cn1:=hF1.cell_some cn id;have fz1:w1.frozen? ⟨rp,1 + k,none⟩ = false:=(hF1.frozen (p:=⟨rp,1 + k,none⟩) hrl id).trans fz) | (go_at_call 102;refine sameC (HO.out _) ?_))
 go_ret
 have hF:=(Fr.refl (OneB rp) w1).setCell (p:=⟨rp,1 + k,none⟩) (fun _=>rfl) (.int .i64 v)
 exact ⟨rfl,⟨blk,x.wv,x.at_,x.len,HP1.out.own hF (HP1.out.r.setNum hk v) rfl rfl⟩,hF1.of_no.trans (hF.mono (fun k _ e=>.inl e))⟩
theorem calc_add (h:PlayAt w rp base s x bx blk) (i j l k a b:Nat) (hs:s.size ≤ 100000) (hk:k < 26) (ho:Opnd s i j) (hj:j < s.size) (hc:s[j].toNat = 43) (ho2:Opnd s (j + 1) l) (hj2:l < s.size) (hd2:digitN (bt s l) = false) (hva:valN s x.num i j = (a:Int)) (hvb:valN s x.num (j + 1) l = (b:Int)) (ha:a < 1000) (hb:b < 1000) :
  Calls prog 133 #[.pointer (some ⟨rp,0,none⟩),.int .i64 k,.int .i64 i] w fun e w'=>PlaySays rp base s true { x with num:=updI x.num k (((a:Int) + (b:Int)).tmod 1000) } bx w e w':=by
 have cs:=h.r.cs
 have cn:=h.r.cn k hk
 have fz:=h.r.fz (1 + k)
 have hrl:=h.r.lt
 have hd:digitN (bt s j) = false:=by rw [bt_in hj,hc];rfl
 have HP:Hid (PlayAt w rp base s x bx blk):=h
 have HV:Hid (CR 82 #[.pointer (some ⟨rp,0,none⟩),.int .i64 i] w (.int .i64 a)):=by
  have:=value_fn w rp s x h.r i j ho hj hs hd
  rwa [hva] at this
 have HO:Hid (∀ W,CS 102 #[.string s,.int .i64 i] W (.int .i64 j)):=fun W=>bop_fn W s i j ho hj hs hd
 have HU:Hid (∀ W,RunAt W rp s x → CR 82 #[.pointer (some ⟨rp,0,none⟩),.int .i64 ((j:Int) + 1)] W (.int .i64 b)):=fun W hW=>by
  have:=value_fn W rp s x hW (j + 1) l ho2 hj2 hs hd2
  rwa [hvb] at this
 clear h ho hd hva hvb ho2 hd2
 go_enter func133,ntmps133
 go_wp2_with (first | ((fail_if_success (have:=HP1.out));go_at_call 82;refine HV.out.mono ?_;rintro e w1 ⟨rfl,hF1⟩;have HP1:Hid _:=HP.out.no hF1;have cs1:=hF1.cell_some cs id) | (go_at_call 102;refine sameC (HO.out _) ?_) | (go_at_call 82;refine (HU.out _ HP1.out.r).mono ?_;rintro e w2 ⟨rfl,hF2⟩;have HP2:Hid _:=HP1.out.no hF2;have cs2:=hF2.cell_some cs1 id;have cn2:=(hF1.trans hF2).cell_some cn id;have fz2:w2.frozen? ⟨rp,1 + k,none⟩ = false:=((hF1.trans hF2).frozen (p:=⟨rp,1 + k,none⟩) hrl id).trans fz))
 go_ret
 have hF:=(Fr.refl (OneB rp) w2).setCell (p:=⟨rp,1 + k,none⟩) (fun _=>rfl) (.int .i64 (((a:Int) + (b:Int)).tmod 1000))
 exact ⟨rfl,⟨blk,x.wv,x.at_,x.len,HP2.out.own hF (HP2.out.r.setNum hk _) rfl rfl⟩,(hF1.trans hF2).of_no.trans (hF.mono (fun k _ e=>.inl e))⟩
theorem calc_sub (h:PlayAt w rp base s x bx blk) (i j l k a b:Nat) (hs:s.size ≤ 100000) (hk:k < 26) (ho:Opnd s i j) (hj:j < s.size) (hc:s[j].toNat = 45) (ho2:Opnd s (j + 1) l) (hj2:l < s.size) (hd2:digitN (bt s l) = false) (hva:valN s x.num i j = (a:Int)) (hvb:valN s x.num (j + 1) l = (b:Int)) (ha:a < 1000) (hb:b < 1000) :
  Calls prog 133 #[.pointer (some ⟨rp,0,none⟩),.int .i64 k,.int .i64 i] w fun e w'=>PlaySays rp base s true { x with num:=updI x.num k (((a:Int) + 1000 - (b:Int)) % 1000) } bx w e w':=by
 have cs:=h.r.cs
 have cn:=h.r.cn k hk
 have fz:=h.r.fz (1 + k)
 have hrl:=h.r.lt
 have hd:digitN (bt s j) = false:=by rw [bt_in hj,hc];rfl
 have HP:Hid (PlayAt w rp base s x bx blk):=h
 have HV:Hid (CR 82 #[.pointer (some ⟨rp,0,none⟩),.int .i64 i] w (.int .i64 a)):=by
  have:=value_fn w rp s x h.r i j ho hj hs hd
  rwa [hva] at this
 have HO:Hid (∀ W,CS 102 #[.string s,.int .i64 i] W (.int .i64 j)):=fun W=>bop_fn W s i j ho hj hs hd
 have HU:Hid (∀ W,RunAt W rp s x → CR 82 #[.pointer (some ⟨rp,0,none⟩),.int .i64 ((j:Int) + 1)] W (.int .i64 b)):=fun W hW=>by
  have:=value_fn W rp s x hW (j + 1) l ho2 hj2 hs hd2
  rwa [hvb] at this
 clear h ho hd hva hvb ho2 hd2
 go_enter func133,ntmps133
 go_wp2_with (first | ((fail_if_success (have:=HP1.out));go_at_call 82;refine HV.out.mono ?_;rintro e w1 ⟨rfl,hF1⟩;have HP1:Hid _:=HP.out.no hF1;have cs1:=hF1.cell_some cs id) | (go_at_call 102;refine sameC (HO.out _) ?_) | (go_at_call 82;refine (HU.out _ HP1.out.r).mono ?_;rintro e w2 ⟨rfl,hF2⟩;have HP2:Hid _:=HP1.out.no hF2;have cs2:=hF2.cell_some cs1 id;have cn2:=(hF1.trans hF2).cell_some cn id;have fz2:w2.frozen? ⟨rp,1 + k,none⟩ = false:=((hF1.trans hF2).frozen (p:=⟨rp,1 + k,none⟩) hrl id).trans fz))
 go_ret
 have hF:=(Fr.refl (OneB rp) w2).setCell (p:=⟨rp,1 + k,none⟩) (fun _=>rfl) (.int .i64 (((a:Int) + 1000 - (b:Int)) % 1000))
 exact ⟨rfl,⟨blk,x.wv,x.at_,x.len,HP2.out.own hF (HP2.out.r.setNum hk _) rfl rfl⟩,(hF1.trans hF2).of_no.trans (hF.mono (fun k _ e=>.inl e))⟩
theorem calc_mul (h:PlayAt w rp base s x bx blk) (i j l k a b:Nat) (hs:s.size ≤ 100000) (hk:k < 26) (ho:Opnd s i j) (hj:j < s.size) (hc:s[j].toNat = 42) (ho2:Opnd s (j + 1) l) (hj2:l < s.size) (hd2:digitN (bt s l) = false) (hva:valN s x.num i j = (a:Int)) (hvb:valN s x.num (j + 1) l = (b:Int)) (ha:a < 1000) (hb:b < 1000) :
  Calls prog 133 #[.pointer (some ⟨rp,0,none⟩),.int .i64 k,.int .i64 i] w fun e w'=>PlaySays rp base s true { x with num:=updI x.num k (((a:Int) * (b:Int)).tmod 1000) } bx w e w':=by
 have cs:=h.r.cs
 have cn:=h.r.cn k hk
 have fz:=h.r.fz (1 + k)
 have hrl:=h.r.lt
 have hd:digitN (bt s j) = false:=by rw [bt_in hj,hc];rfl
 have HP:Hid (PlayAt w rp base s x bx blk):=h
 have HV:Hid (CR 82 #[.pointer (some ⟨rp,0,none⟩),.int .i64 i] w (.int .i64 a)):=by
  have:=value_fn w rp s x h.r i j ho hj hs hd
  rwa [hva] at this
 have HO:Hid (∀ W,CS 102 #[.string s,.int .i64 i] W (.int .i64 j)):=fun W=>bop_fn W s i j ho hj hs hd
 have HU:Hid (∀ W,RunAt W rp s x → CR 82 #[.pointer (some ⟨rp,0,none⟩),.int .i64 ((j:Int) + 1)] W (.int .i64 b)):=fun W hW=>by
  have:=value_fn W rp s x hW (j + 1) l ho2 hj2 hs hd2
  rwa [hvb] at this
 have hm:wrap64 ((a:Int) * (b:Int)) = (a:Int) * (b:Int):=by
  have h1:a * b ≤ 999 * 999:=Nat.mul_le_mul (by omega) (by omega)
  have h2:((a * b:Nat):Int) = (a:Int) * (b:Int):=Int.natCast_mul a b
  rw [← h2]
  unfold wrap64;omega
 clear h ho hd hva hvb ho2 hd2
 go_enter func133,ntmps133
 go_wp2_with (first | ((fail_if_success (have:=HP1.out));go_at_call 82;refine HV.out.mono ?_;rintro e w1 ⟨rfl,hF1⟩;have HP1:Hid _:=HP.out.no hF1;have cs1:=hF1.cell_some cs id) | (go_at_call 102;refine sameC (HO.out _) ?_) | (go_at_call 82;refine (HU.out _ HP1.out.r).mono ?_;rintro e w2 ⟨rfl,hF2⟩;have HP2:Hid _:=HP1.out.no hF2;have cs2:=hF2.cell_some cs1 id;have cn2:=(hF1.trans hF2).cell_some cn id;have fz2:w2.frozen? ⟨rp,1 + k,none⟩ = false:=((hF1.trans hF2).frozen (p:=⟨rp,1 + k,none⟩) hrl id).trans fz))
 rw [hm]
 go_ret
 have hF:=(Fr.refl (OneB rp) w2).setCell (p:=⟨rp,1 + k,none⟩) (fun _=>rfl) (.int .i64 (((a:Int) * (b:Int)).tmod 1000))
 exact ⟨rfl,⟨blk,x.wv,x.at_,x.len,HP2.out.own hF (HP2.out.r.setNum hk _) rfl rfl⟩,(hF1.trans hF2).of_no.trans (hF.mono (fun k _ e=>.inl e))⟩
theorem calc_ge (h:PlayAt w rp base s x bx blk) (i j l k a b:Nat) (hs:s.size ≤ 100000) (hk:k < 26) (ho:Opnd s i j) (hj:j < s.size) (hc:s[j].toNat = 60) (ho2:Opnd s (j + 1) l) (hj2:l < s.size) (hd2:digitN (bt s l) = false) (hva:valN s x.num i j = (a:Int)) (hvb:valN s x.num (j + 1) l = (b:Int)) (ha:a < 1000) (hb:b < 1000) (hab:b ≤ a) :
  Calls prog 133 #[.pointer (some ⟨rp,0,none⟩),.int .i64 k,.int .i64 i] w fun e w'=>PlaySays rp base s true { x with num:=updI x.num k (0) } bx w e w':=by
 have cs:=h.r.cs
 have cn:=h.r.cn k hk
 have fz:=h.r.fz (1 + k)
 have hrl:=h.r.lt
 have hd:digitN (bt s j) = false:=by rw [bt_in hj,hc];rfl
 have HP:Hid (PlayAt w rp base s x bx blk):=h
 have HV:Hid (CR 82 #[.pointer (some ⟨rp,0,none⟩),.int .i64 i] w (.int .i64 a)):=by
  have:=value_fn w rp s x h.r i j ho hj hs hd
  rwa [hva] at this
 have HO:Hid (∀ W,CS 102 #[.string s,.int .i64 i] W (.int .i64 j)):=fun W=>bop_fn W s i j ho hj hs hd
 have HU:Hid (∀ W,RunAt W rp s x → CR 82 #[.pointer (some ⟨rp,0,none⟩),.int .i64 ((j:Int) + 1)] W (.int .i64 b)):=fun W hW=>by
  have:=value_fn W rp s x hW (j + 1) l ho2 hj2 hs hd2
  rwa [hvb] at this
 clear h ho hd hva hvb ho2 hd2
 go_enter func133,ntmps133
 go_wp2_with (first | ((fail_if_success (have:=HP1.out));go_at_call 82;refine HV.out.mono ?_;rintro e w1 ⟨rfl,hF1⟩;have HP1:Hid _:=HP.out.no hF1;have cs1:=hF1.cell_some cs id) | (go_at_call 102;refine sameC (HO.out _) ?_) | (go_at_call 82;refine (HU.out _ HP1.out.r).mono ?_;rintro e w2 ⟨rfl,hF2⟩;have HP2:Hid _:=HP1.out.no hF2;have cs2:=hF2.cell_some cs1 id;have cn2:=(hF1.trans hF2).cell_some cn id;have fz2:w2.frozen? ⟨rp,1 + k,none⟩ = false:=((hF1.trans hF2).frozen (p:=⟨rp,1 + k,none⟩) hrl id).trans fz))
 go_ret
 have hF:=(Fr.refl (OneB rp) w2).setCell (p:=⟨rp,1 + k,none⟩) (fun _=>rfl) (.int .i64 (0))
 exact ⟨rfl,⟨blk,x.wv,x.at_,x.len,HP2.out.own hF (HP2.out.r.setNum hk _) rfl rfl⟩,(hF1.trans hF2).of_no.trans (hF.mono (fun k _ e=>.inl e))⟩
theorem calc_lt (h:PlayAt w rp base s x bx blk) (i j l k a b:Nat) (hs:s.size ≤ 100000) (hk:k < 26) (ho:Opnd s i j) (hj:j < s.size) (hc:s[j].toNat = 60) (ho2:Opnd s (j + 1) l) (hj2:l < s.size) (hd2:digitN (bt s l) = false) (hva:valN s x.num i j = (a:Int)) (hvb:valN s x.num (j + 1) l = (b:Int)) (ha:a < 1000) (hb:b < 1000) (hab:a < b) :
  Calls prog 133 #[.pointer (some ⟨rp,0,none⟩),.int .i64 k,.int .i64 i] w fun e w'=>PlaySays rp base s true { x with num:=updI x.num k (1) } bx w e w':=by
 have cs:=h.r.cs
 have cn:=h.r.cn k hk
 have fz:=h.r.fz (1 + k)
 have hrl:=h.r.lt
 have hd:digitN (bt s j) = false:=by rw [bt_in hj,hc];rfl
 have HP:Hid (PlayAt w rp base s x bx blk):=h
 have HV:Hid (CR 82 #[.pointer (some ⟨rp,0,none⟩),.int .i64 i] w (.int .i64 a)):=by
  have:=value_fn w rp s x h.r i j ho hj hs hd
  rwa [hva] at this
 have HO:Hid (∀ W,CS 102 #[.string s,.int .i64 i] W (.int .i64 j)):=fun W=>bop_fn W s i j ho hj hs hd
 have HU:Hid (∀ W,RunAt W rp s x → CR 82 #[.pointer (some ⟨rp,0,none⟩),.int .i64 ((j:Int) + 1)] W (.int .i64 b)):=fun W hW=>by
  have:=value_fn W rp s x hW (j + 1) l ho2 hj2 hs hd2
  rwa [hvb] at this
 clear h ho hd hva hvb ho2 hd2
 go_enter func133,ntmps133
 go_wp2_with (first | ((fail_if_success (have:=HP1.out));go_at_call 82;refine HV.out.mono ?_;rintro e w1 ⟨rfl,hF1⟩;have HP1:Hid _:=HP.out.no hF1;have cs1:=hF1.cell_some cs id) | (go_at_call 102;refine sameC (HO.out _) ?_) | (go_at_call 82;refine (HU.out _ HP1.out.r).mono ?_;rintro e w2 ⟨rfl,hF2⟩;have HP2:Hid _:=HP1.out.no hF2;have cs2:=hF2.cell_some cs1 id;have cn2:=(hF1.trans hF2).cell_some cn id;have fz2:w2.frozen? ⟨rp,1 + k,none⟩ = false:=((hF1.trans hF2).frozen (p:=⟨rp,1 + k,none⟩) hrl id).trans fz))
 go_ret
 have hF:=((Fr.refl (OneB rp) w2).setCell (p:=⟨rp,1 + k,none⟩) (fun _=>rfl) (.int .i64 (0))).setCell (p:=⟨rp,1 + k,none⟩) (fun _=>rfl) (.int .i64 (1))
 exact ⟨rfl,⟨blk,x.wv,x.at_,x.len,HP2.out.own hF (by have q:=(HP2.out.r.setNum hk 0).setNum hk 1;rwa [updI_two] at q) rfl rfl⟩,(hF1.trans hF2).of_no.trans (hF.mono (fun k _ e=>.inl e))⟩
end
end
section
section
variable (w:World) (rp base:Nat) (s:ByteArray) (x:Rn) (bx:Nat → List Int) (blk:Nat → Nat)
theorem calc_div0 (h:PlayAt w rp base s x bx blk) (i j l k a:Nat) (hs:s.size ≤ 100000) (hk:k < 26) (ho:Opnd s i j) (hj:j < s.size) (hc:s[j].toNat = 47) (ho2:Opnd s (j + 1) l) (hj2:l < s.size) (hd2:digitN (bt s l) = false) (hva:valN s x.num i j = (a:Int)) (hvb:valN s x.num (j + 1) l = 0) (ha:a < 1000) :
  Calls prog 133 #[.pointer (some ⟨rp,0,none⟩),.int .i64 k,.int .i64 i] w fun e w'=>PlaySays rp base s false { x with status:=1 } bx w e w':=by
 have cs:=h.r.cs
 have cn:=h.r.cn k hk
 have fz:=h.r.fz (1 + k)
 have hrl:=h.r.lt
 have hd:digitN (bt s j) = false:=by rw [bt_in hj,hc];rfl
 have HP:Hid (PlayAt w rp base s x bx blk):=h
 have HV:Hid (CR 82 #[.pointer (some ⟨rp,0,none⟩),.int .i64 i] w (.int .i64 a)):=by
  have:=value_fn w rp s x h.r i j ho hj hs hd
  rwa [hva] at this
 have HO:Hid (∀ W,CS 102 #[.string s,.int .i64 i] W (.int .i64 j)):=fun W=>bop_fn W s i j ho hj hs hd
 have HU:Hid (∀ W,RunAt W rp s x → CR 82 #[.pointer (some ⟨rp,0,none⟩),.int .i64 ((j:Int) + 1)] W (.int .i64 0)):=fun W hW=>by
  have:=value_fn W rp s x hW (j + 1) l ho2 hj2 hs hd2
  rwa [hvb] at this
 clear h ho hd hva hvb ho2 hd2
 go_enter func133,ntmps133
 go_wp2_with (first | ((fail_if_success (have:=HP1.out));go_at_call 82;refine HV.out.mono ?_;rintro e w1 ⟨rfl,hF1⟩;have HP1:Hid _:=HP.out.no hF1;have cs1:=hF1.cell_some cs id) | (go_at_call 102;refine sameC (HO.out _) ?_) | (go_at_call 82;refine (HU.out _ HP1.out.r).mono ?_;rintro e w2 ⟨rfl,hF2⟩;have HP2:Hid _:=HP1.out.no hF2;have cs2:=hF2.cell_some cs1 id;have cn2:=(hF1.trans hF2).cell_some cn id;have fz2:w2.frozen? ⟨rp,1 + k,none⟩ = false:=((hF1.trans hF2).frozen (p:=⟨rp,1 + k,none⟩) hrl id).trans fz) | (go_at_call 108;refine (ends_fn _ rp s x HP2.out.r 1).mono ?_;rintro e w3 ⟨rfl,hR3,hF3⟩))
 go_ret
 exact ⟨rfl,⟨blk,x.wv,x.at_,x.len,HP2.out.own hF3 hR3 rfl rfl⟩,(hF1.trans hF2).of_no.trans (hF3.mono (fun k _ e=>.inl e))⟩
end
end
section
theorem div_wrap {a b n:Nat} (ha:a < 1000) (hb:b < 1000) (h:n * b ≤ a) (hb0:0 < b):wrap64 (((n:Int) + 1) * (b:Int)) = (((n + 1) * b:Nat):Int):=by
 have h1:(n + 1) * b ≤ 2000:=by rw [Nat.succ_mul];omega
 have h2:(((n + 1) * b:Nat):Int) = ((n:Int) + 1) * (b:Int):=by simp
 rw [← h2]
 generalize (n + 1) * b = m at *
 unfold wrap64
 omega
section
variable (w:World) (rp base:Nat) (s:ByteArray) (x:Rn) (bx:Nat → List Int) (blk:Nat → Nat)
theorem calc_div (h:PlayAt w rp base s x bx blk) (i j l k a b:Nat) (hs:s.size ≤ 100000) (hk:k < 26) (ho:Opnd s i j) (hj:j < s.size) (hc:s[j].toNat = 47) (ho2:Opnd s (j + 1) l) (hj2:l < s.size) (hd2:digitN (bt s l) = false) (hva:valN s x.num i j = (a:Int)) (hvb:valN s x.num (j + 1) l = (b:Int)) (ha:a < 1000) (hb:b < 1000) (hb0:0 < b) :
  Calls prog 133 #[.pointer (some ⟨rp,0,none⟩),.int .i64 k,.int .i64 i] w fun e w'=>PlaySays rp base s true { x with num:=updI x.num k ((a / b:Nat):Int) } bx w e w':=by
 have cs:=h.r.cs
 have cn:=h.r.cn k hk
 have fz:=h.r.fz (1 + k)
 have hrl:=h.r.lt
 have hd:digitN (bt s j) = false:=by rw [bt_in hj,hc];rfl
 have HP:Hid (PlayAt w rp base s x bx blk):=h
 have HV:Hid (CR 82 #[.pointer (some ⟨rp,0,none⟩),.int .i64 i] w (.int .i64 a)):=by
  have:=value_fn w rp s x h.r i j ho hj hs hd
  rwa [hva] at this
 have HO:Hid (∀ W,CS 102 #[.string s,.int .i64 i] W (.int .i64 j)):=fun W=>bop_fn W s i j ho hj hs hd
 have HU:Hid (∀ W,RunAt W rp s x → CR 82 #[.pointer (some ⟨rp,0,none⟩),.int .i64 ((j:Int) + 1)] W (.int .i64 b)):=fun W hW=>by
  have:=value_fn W rp s x hW (j + 1) l ho2 hj2 hs hd2
  rwa [hvb] at this
 generalize hq:a / b = q
 have Hq:Hid (a / b = q):=hq
 clear hq
 have by0:((b:Int) == 0) = false:=bF (by omega)
 have HB:Hid (a < 1000 ∧ b < 1000 ∧ 0 < b):=⟨ha,hb,hb0⟩
 clear h ho hd hva hvb ho2 hd2
 go_enter func133,ntmps133
 go_wp2_with (first | ((fail_if_success (have:=HP1.out));go_at_call 82;refine HV.out.mono ?_;rintro e w1 ⟨rfl,hF1⟩;have HP1:Hid _:=HP.out.no hF1;have cs1:=hF1.cell_some cs id) | (go_at_call 102;refine sameC (HO.out _) ?_) | (go_at_call 82;refine (HU.out _ HP1.out.r).mono ?_;rintro e w2 ⟨rfl,hF2⟩;have HP2:Hid _:=HP1.out.no hF2;have cs2:=hF2.cell_some cs1 id;have cn2:=(hF1.trans hF2).cell_some cn id;have fz2:w2.frozen? ⟨rp,1 + k,none⟩ = false:=((hF1.trans hF2).frozen (p:=⟨rp,1 + k,none⟩) hrl id).trans fz))
 have HF12:Hid _:=hF1.trans hF2
 clear hF1 hF2 HV HO HU HP HP1 cs cs1 cs2 cn fz ha hb hb0 by0
 go_loop [10] (fun t=>∃ n:Nat,n * b ≤ a ∧ t = .int .i64 n) (fun t=>a - (intOf t).toNat * b)
 case atStart=>exact ⟨0,by omega,rfl⟩
 case round =>
  obtain ⟨n,hn,rfl⟩:=hrel
  obtain ⟨ha,hb,hb0⟩:=HB.out
  have hw:=div_wrap ha hb hn hb0
  have hs1:(n + 1) * b = n * b + b:=Nat.succ_mul n b
  have hn2:n ≤ a:=Nat.le_trans (Nat.le_mul_of_pos_right n hb0) hn
  by_cases hd:(n + 1) * b ≤ a
  ·have b1:decide (wrap64 (((n:Int) + 1) * (b:Int)) ≤ (a:Int)) = true:=by rw [hw];exact decide_eq_true (by omega)
   have HN:Hid ((n + 1) * b ≤ a ∧ (n + 1) * b = n * b + b ∧ 0 < b):=⟨hd,hs1,hb0⟩
   have hn3:n < 1000:=by omega
   clear hw hs1 hd hn ha hb hb0 hn2
   go_wp2
   go_round
   case rel=>exact ⟨n + 1,HN.out.1,by go_num⟩
   case measure =>
    obtain ⟨h1,h2,h3⟩:=HN.out
    show a - (intOf (Value.int IntKind.i64 ((n:Int) + 1))).toNat * b < a - (intOf (Value.int IntKind.i64 (n:Int))).toNat * b
    have e:(intOf (Value.int IntKind.i64 ((n:Int) + 1))).toNat = n + 1:=by simp [intOf]
    have e2:(intOf (Value.int IntKind.i64 (n:Int))).toNat = n:=by simp [intOf]
    rw [e,e2,h2]
    rw [h2] at h1
    omega
  ·have b1:decide (wrap64 (((n:Int) + 1) * (b:Int)) ≤ (a:Int)) = false:=by rw [hw];exact decide_eq_false (by omega)
   have HN:Hid (n = q):=by
    show n = q
    rw [← Hq.out]
    exact (Nat.div_eq_of_lt_le (by rw [Nat.mul_comm] at hn;rw [Nat.mul_comm];exact hn) (by omega)).symm
   have hn3:n < 1000:=by omega
   clear hw hs1 hd hn ha hb hb0 hn2
   go_wp2
   go_ret
   have hF:=(Fr.refl (OneB rp) w2).setCell (p:=⟨rp,1 + k,none⟩) (fun _=>rfl) (.int .i64 n)
   exact ⟨rfl,⟨blk,x.wv,x.at_,x.len,by rw [← HN.out];exact HP2.out.own hF (HP2.out.r.setNum hk _) rfl rfl⟩,HF12.out.of_no.trans (hF.mono (fun k _ e=>.inl e))⟩
end
end
section
inductive Od where
 | n (k:Nat)
 | v (x:Nat)
inductive Ac where
 | set (v:Nat) (o:Od)
 | bin (v:Nat) (o:Od) (c:Nat) (p:Od)
 | load (v b:Nat) (o:Od)
 | size (v b:Nat)
 | make (b:Nat) (o:Od)
 | move (b c:Nat)
 | store (b:Nat) (o p:Od)
 | drop (b:Nat)
 | print (o:Od)
inductive Pg where
 | nil
 | act (a:Ac) (r:Pg)
 | ite (o:Od) (p q r:Pg)
 | loop (o:Od) (p r:Pg)
structure St where
 num:Nat → Nat
 bx:Nat → List Nat
 at_:Nat → Nat
 left:Nat
 status:Nat
 tr:List Nat
 peak:Nat
structure Cf where
 strict:Bool
 al:St → Nat → Option Nat
def upN (f:Nat → Nat) (k v:Nat):Nat → Nat:=fun i=>if i = k then v else f i
theorem upN_at (f:Nat → Nat) (k v:Nat):upN f k v k = v:=by simp [upN]
theorem upN_ne (f:Nat → Nat) {k i:Nat} (v:Nat) (h:i ≠ k):upN f k v i = f i:=by simp [upN,h]
def upB (f:Nat → List Nat) (k:Nat) (v:List Nat):Nat → List Nat:=fun i=>if i = k then v else f i
theorem upB_at (f:Nat → List Nat) (k:Nat) (v:List Nat):upB f k v k = v:=by simp [upB]
theorem upB_ne (f:Nat → List Nat) {k i:Nat} (v:List Nat) (h:i ≠ k):upB f k v i = f i:=by simp [upB,h]
theorem upB_self {f:Nat → List Nat} {k:Nat} {v:List Nat} (h:f k = v):upB f k v = f:=by
 funext i
 by_cases e:i = k
 ·subst e;rw [upB_at,h]
 ·rw [upB_ne _ _ e]
def valO (num:Nat → Nat):Od → Nat
 | .n k=>num k
 | .v x=>x
def binN (c x y:Nat):Option Nat :=
 if c = 43 then some ((x + y) % 1000) else if c = 45 then some ((x + 1000 - y) % 1000) else if c = 42 then some (x * y % 1000)
 else if c = 47 then (if y = 0 then none else some (x / y)) else some (if x < y then 1 else 0)
def digF:Nat → Nat → List Nat
 | 0,n=>[48 + n % 10]
 | f + 1,n=>if n < 10 then [48 + n % 10] else digF f (n / 10) ++ [48 + n % 10]
def ends (σ:St) (k:Nat):St × Bool:=({ σ with status:=k },false)
def isStep:Ac → Bool
 | .drop _=>false
 | _=>true
def act (c:Cf):Ac → St → St × Bool
 | .set v o,σ=>({ σ with num:=upN σ.num v (valO σ.num o) },true)
 | .bin v o k p,σ=>match binN k (valO σ.num o) (valO σ.num p) with
  | none=>ends σ 1
  | some x=>({ σ with num:=upN σ.num v x },true)
 | .load v b o,σ=>if σ.bx b = [] then ends σ 4 else if (σ.bx b).length ≤ valO σ.num o then ends σ 1 else ({ σ with num:=upN σ.num v ((σ.bx b).getD (valO σ.num o) 0) },true)
 | .size v b,σ=>if σ.bx b = [] then ends σ 4 else ({ σ with num:=upN σ.num v (σ.bx b).length },true)
 | .make b o,σ=>if c.strict = true ∧ σ.bx b ≠ [] then ends σ 4 else if valO σ.num o < 1 ∨ 64 < valO σ.num o then ends σ 1 else
   match c.al { σ with bx:=upB σ.bx b [] } (valO σ.num o) with
   | none=>ends { σ with bx:=upB σ.bx b [] } 3
   | some a=>({ σ with bx:=upB σ.bx b (List.replicate (valO σ.num o) 0),at_:=upN σ.at_ b a,peak:=max σ.peak (a + valO σ.num o) },true)
 | .move b d,σ=>if σ.bx d = [] then ends σ 4 else if b = d then (σ,true) else if c.strict = true ∧ σ.bx b ≠ [] then ends σ 4
   else ({ σ with bx:=upB (upB σ.bx b (σ.bx d)) d [],at_:=upN σ.at_ b (σ.at_ d) },true)
 | .store b o p,σ=>if σ.bx b = [] then ends σ 4 else if (σ.bx b).length ≤ valO σ.num o then ends σ 1 else ({ σ with bx:=upB σ.bx b ((σ.bx b).set (valO σ.num o) (valO σ.num p)) },true)
 | .drop b,σ=>if σ.bx b = [] then ends σ 4 else ({ σ with bx:=upB σ.bx b [] },true)
 | .print o,σ=>({ σ with tr:=σ.tr ++ digF 3 (valO σ.num o) ++ [59] },true)
def due (σ:St):St:={ σ with left:=σ.left - 1 }
def tire (σ:St):St:={ σ with status:=2 }
def stp (c:Cf) (a:Ac) (σ:St):St × Bool:=if isStep a = true then (if σ.left = 0 then (tire σ,false) else act c a (due σ)) else act c a σ
inductive Ex (c:Cf):Pg → St → St → Bool → Prop where
 | nil (σ:St):Ex c .nil σ σ true
 | stop {a:Ac} {r:Pg} {σ σ':St} (h:stp c a σ = (σ',false)):Ex c (.act a r) σ σ' false
 | go {a:Ac} {r:Pg} {σ σ1 σ2:St} {b:Bool} (h:stp c a σ = (σ1,true)) (hr:Ex c r σ1 σ2 b):Ex c (.act a r) σ σ2 b
 | iteTired {o:Od} {p q r:Pg} {σ:St} (h:σ.left = 0):Ex c (.ite o p q r) σ (tire σ) false
 | iteStop {o:Od} {p q r:Pg} {σ σ1:St} (h:σ.left ≠ 0) (hp:Ex c (if valO σ.num o ≠ 0 then p else q) (due σ) σ1 false):Ex c (.ite o p q r) σ σ1 false
 | iteGo {o:Od} {p q r:Pg} {σ σ1 σ2:St} {b:Bool} (h:σ.left ≠ 0) (hp:Ex c (if valO σ.num o ≠ 0 then p else q) (due σ) σ1 true) (hr:Ex c r σ1 σ2 b):Ex c (.ite o p q r) σ σ2 b
 | loopTired {o:Od} {p r:Pg} {σ:St} (h:σ.left = 0):Ex c (.loop o p r) σ (tire σ) false
 | loopEnd {o:Od} {p r:Pg} {σ σ2:St} {b:Bool} (h:σ.left ≠ 0) (h0:valO σ.num o = 0) (hr:Ex c r (due σ) σ2 b):Ex c (.loop o p r) σ σ2 b
 | loopStop {o:Od} {p r:Pg} {σ σ1:St} (h:σ.left ≠ 0) (h0:valO σ.num o ≠ 0) (hp:Ex c p (due σ) σ1 false):Ex c (.loop o p r) σ σ1 false
 | loopGo {o:Od} {p r:Pg} {σ σ1 σ2:St} {b:Bool} (h:σ.left ≠ 0) (h0:valO σ.num o ≠ 0) (hp:Ex c p (due σ) σ1 true) (hr:Ex c (.loop o p r) σ1 σ2 b):Ex c (.loop o p r) σ σ2 b
theorem act_left (c:Cf) (a:Ac) (σ:St):(act c a σ).1.left = σ.left:=by
 cases a <;> simp only [act]
 all_goals (repeat' split) <;> rfl
theorem stp_left (c:Cf) (a:Ac) (σ:St):(stp c a σ).1.left ≤ σ.left:=by
 unfold stp
 split
 ·split
  ·exact Nat.le_refl _
  ·rw [act_left];exact Nat.sub_le _ _
 ·rw [act_left];exact Nat.le_refl _
theorem Ex.left {c:Cf} {P:Pg} {σ σ':St} {b:Bool} (h:Ex c P σ σ' b):σ'.left ≤ σ.left:=by
 induction h with
 | nil σ=>exact Nat.le_refl _
 | @stop a r σ σ' h=>have:=stp_left c a σ;rw [h] at this;exact this
 | @go a r σ σ1 σ2 b h hr ih=>have:=stp_left c a σ;rw [h] at this;exact Nat.le_trans ih this
 | iteTired h=>exact Nat.le_refl _
 | iteStop h hp ih=>exact Nat.le_trans ih (Nat.sub_le _ _)
 | iteGo h hp hr ih1 ih2=>exact Nat.le_trans ih2 (Nat.le_trans ih1 (Nat.sub_le _ _))
 | loopTired h=>exact Nat.le_refl _
 | loopEnd h h0 hr ih=>exact Nat.le_trans ih (Nat.sub_le _ _)
 | loopStop h h0 hp ih=>exact Nat.le_trans ih (Nat.sub_le _ _)
 | loopGo h h0 hp hr ih1 ih2=>exact Nat.le_trans ih2 (Nat.le_trans ih1 (Nat.sub_le _ _))
theorem Ex.total (c:Cf):∀ (n:Nat) (P:Pg) (σ:St),σ.left ≤ n → ∃ σ' b,Ex c P σ σ' b:=by
 intro n
 induction n using Nat.strongRecOn with
 | _ n IH =>
  intro P
  induction P with
  | nil=>exact fun σ _=>⟨σ,true,.nil σ⟩
  | act a r ih =>
   intro σ h
   cases hs:stp c a σ with
   | mk σ1 b =>
    cases b
    ·exact ⟨σ1,false,.stop hs⟩
    ·have:=stp_left c a σ
     rw [hs] at this
     obtain ⟨σ2,b,h2⟩:=ih σ1 (Nat.le_trans this h)
     exact ⟨σ2,b,.go hs h2⟩
  | ite o p q r ihp ihq ihr =>
   intro σ h
   by_cases h0:σ.left = 0
   ·exact ⟨_,_,.iteTired h0⟩
   ·have hd:(due σ).left ≤ n:=Nat.le_trans (Nat.sub_le _ _) h
    have:∃ σ1 b,Ex c (if valO σ.num o ≠ 0 then p else q) (due σ) σ1 b:=by
     split
     ·exact ihp _ hd
     ·exact ihq _ hd
    obtain ⟨σ1,b,h1⟩:=this
    cases b
    ·exact ⟨_,_,.iteStop h0 h1⟩
    ·obtain ⟨σ2,b,h2⟩:=ihr σ1 (Nat.le_trans h1.left hd)
     exact ⟨σ2,b,.iteGo h0 h1 h2⟩
  | loop o p r ihp ihr =>
   intro σ h
   by_cases h0:σ.left = 0
   ·exact ⟨_,_,.loopTired h0⟩
   ·have hd:(due σ).left ≤ n:=Nat.le_trans (Nat.sub_le _ _) h
    by_cases hv:valO σ.num o = 0
    ·obtain ⟨σ2,b,h2⟩:=ihr (due σ) hd
     exact ⟨σ2,b,.loopEnd h0 hv h2⟩
    ·obtain ⟨σ1,b,h1⟩:=ihp _ hd
     cases b
     ·exact ⟨_,_,.loopStop h0 hv h1⟩
     ·have hl:=h1.left
      have hlt:σ1.left < n:=Nat.lt_of_le_of_lt hl (by show σ.left - 1 < n;omega)
      obtain ⟨σ2,b,h2⟩:=IH σ1.left hlt (.loop o p r) σ1 (Nat.le_refl _)
      exact ⟨σ2,b,.loopGo h0 hv h1 h2⟩
theorem Ex.det {c:Cf} {P:Pg} {σ σ1:St} {b1:Bool} (h:Ex c P σ σ1 b1):∀ {σ2:St} {b2:Bool},Ex c P σ σ2 b2 → σ2 = σ1 ∧ b2 = b1:=by
 induction h with
 | nil σ=>intro σ2 b2 g;cases g;exact ⟨rfl,rfl⟩
 | stop h =>
  intro σ2 b2 g
  cases g with
  | stop h2=>rw [h] at h2;cases h2;exact ⟨rfl,rfl⟩
  | go h2 _=>rw [h] at h2;cases h2
 | go h hr ih =>
  intro σ2 b2 g
  cases g with
  | stop h2=>rw [h] at h2;cases h2
  | go h2 g2=>rw [h] at h2;cases h2;exact ih g2
 | iteTired h =>
  intro σ2 b2 g
  cases g with
  | iteTired _=>exact ⟨rfl,rfl⟩
  | iteStop h2 _=>exact absurd h h2
  | iteGo h2 _ _=>exact absurd h h2
 | iteStop h hp ih =>
  intro σ2 b2 g
  cases g with
  | iteTired h2=>exact absurd h2 h
  | iteStop h2 g2=>exact ih g2
  | iteGo h2 g2 _=>have:=(ih g2).2;cases this
 | iteGo h hp hr ih1 ih2 =>
  intro σ2 b2 g
  cases g with
  | iteTired h2=>exact absurd h2 h
  | iteStop h2 g2=>have:=(ih1 g2).2;cases this
  | iteGo h2 g2 g3=>have:=(ih1 g2).1;subst this;exact ih2 g3
 | loopTired h =>
  intro σ2 b2 g
  cases g with
  | loopTired _=>exact ⟨rfl,rfl⟩
  | loopEnd h2 _ _=>exact absurd h h2
  | loopStop h2 _ _=>exact absurd h h2
  | loopGo h2 _ _ _=>exact absurd h h2
 | loopEnd h h0 hr ih =>
  intro σ2 b2 g
  cases g with
  | loopTired h2=>exact absurd h2 h
  | loopEnd _ _ g2=>exact ih g2
  | loopStop _ h2 _=>exact absurd h0 h2
  | loopGo _ h2 _ _=>exact absurd h0 h2
 | loopStop h h0 hp ih =>
  intro σ2 b2 g
  cases g with
  | loopTired h2=>exact absurd h2 h
  | loopEnd _ h2 _=>exact absurd h2 h0
  | loopStop _ _ g2=>exact ih g2
  | loopGo _ _ g2 _=>have:=(ih g2).2;cases this
 | loopGo h h0 hp hr ih1 ih2 =>
  intro σ2 b2 g
  cases g with
  | loopTired h2=>exact absurd h2 h
  | loopEnd _ h2 _=>exact absurd h2 h0
  | loopStop _ _ g2=>have:=(ih1 g2).2;cases this
  | loopGo _ _ g2 g3=>have:=(ih1 g2).1;subst this;exact ih2 g3
end
end Go.Proofs.YthcjcjfgdgnljabGreatDoor
