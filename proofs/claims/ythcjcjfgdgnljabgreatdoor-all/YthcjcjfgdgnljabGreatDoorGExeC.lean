import Derived.Test.YthcjcjfgdgnljabGreatDoorGRunT
set_option linter.unusedVariables false
set_option maxHeartbeats 4000000
set_option maxRecDepth 8000
open Go.Proofs.Tryz
namespace Go.Proofs.YthcjcjfgdgnljabGreatDoor
open Go.RowKit
section
def CalcS (rp:Nat) (s:ByteArray) (b:Bool) (x:Rn) (w:World) (e:Ending) (w':World):Prop:=e = .returned (.bool b) ∧ RunAt w' rp s x ∧ Fr (OneB rp) w w'
section
variable (w:World) (rp:Nat) (s:ByteArray) (x:Rn)
theorem ecalc_set (h:RunAt w rp s x) (i j k:Nat) (hs:s.size ≤ 100000) (hk:k < 26) (ho:Opnd s i j) (hj:j < s.size) (h59:s[j].toNat = 59) :
  Calls prog 133 #[.pointer (some ⟨rp,0,none⟩),.int .i64 k,.int .i64 i] w fun e w'=>CalcS rp s true { x with num:=updI x.num k (valN s x.num i j) } w e w':=by
 have cs:=h.cs
 have cn:=h.cn k hk
 have fz:=h.fz (1 + k)
 have hrl:=h.lt
 have hd:digitN (bt s j) = false:=by rw [bt_in hj,h59];rfl
 have HP:Hid (RunAt w rp s x):=h
 have HV:Hid (CR 82 #[.pointer (some ⟨rp,0,none⟩),.int .i64 i] w (.int .i64 (valN s x.num i j))):=value_fn w rp s x h i j ho hj hs hd
 have HO:Hid (∀ W,CS 102 #[.string s,.int .i64 i] W (.int .i64 j)):=fun W=>bop_fn W s i j ho hj hs hd
 generalize valN s x.num i j = v at *
 clear h ho hd
 go_enter func133,ntmps133
 go_wp2_with (first | (go_at_call 82;refine HV.out.mono ?_;rintro e w1 ⟨rfl,hF1⟩;have HP1:Hid _:=HP.out.no hF1;have cs1:=hF1.cell_some cs id;have cn1:=hF1.cell_some cn id;have fz1:w1.frozen? ⟨rp,1 + k,none⟩ = false:=(hF1.frozen (p:=⟨rp,1 + k,none⟩) hrl id).trans fz) | (go_at_call 102;refine sameC (HO.out _) ?_))
 go_ret
 have hF:=(Fr.refl (OneB rp) w1).setCell (p:=⟨rp,1 + k,none⟩) (fun _=>rfl) (.int .i64 v)
 exact ⟨rfl,(HP1.out.setNum hk v),hF1.of_no.trans (hF)⟩
theorem ecalc_add (h:RunAt w rp s x) (i j l k a b:Nat) (hs:s.size ≤ 100000) (hk:k < 26) (ho:Opnd s i j) (hj:j < s.size) (hc:s[j].toNat = 43) (ho2:Opnd s (j + 1) l) (hj2:l < s.size) (hd2:digitN (bt s l) = false) (hva:valN s x.num i j = (a:Int)) (hvb:valN s x.num (j + 1) l = (b:Int)) (ha:a < 1000) (hb:b < 1000) :
  Calls prog 133 #[.pointer (some ⟨rp,0,none⟩),.int .i64 k,.int .i64 i] w fun e w'=>CalcS rp s true { x with num:=updI x.num k (((a:Int) + (b:Int)).tmod 1000) } w e w':=by
 have cs:=h.cs
 have cn:=h.cn k hk
 have fz:=h.fz (1 + k)
 have hrl:=h.lt
 have hd:digitN (bt s j) = false:=by rw [bt_in hj,hc];rfl
 have HP:Hid (RunAt w rp s x):=h
 have HV:Hid (CR 82 #[.pointer (some ⟨rp,0,none⟩),.int .i64 i] w (.int .i64 a)):=by
  have:=value_fn w rp s x h i j ho hj hs hd
  rwa [hva] at this
 have HO:Hid (∀ W,CS 102 #[.string s,.int .i64 i] W (.int .i64 j)):=fun W=>bop_fn W s i j ho hj hs hd
 have HU:Hid (∀ W,RunAt W rp s x → CR 82 #[.pointer (some ⟨rp,0,none⟩),.int .i64 ((j:Int) + 1)] W (.int .i64 b)):=fun W hW=>by
  have:=value_fn W rp s x hW (j + 1) l ho2 hj2 hs hd2
  rwa [hvb] at this
 clear h ho hd hva hvb ho2 hd2
 go_enter func133,ntmps133
 go_wp2_with (first | ((fail_if_success (have:=HP1.out));go_at_call 82;refine HV.out.mono ?_;rintro e w1 ⟨rfl,hF1⟩;have HP1:Hid _:=HP.out.no hF1;have cs1:=hF1.cell_some cs id) | (go_at_call 102;refine sameC (HO.out _) ?_) | (go_at_call 82;refine (HU.out _ HP1.out).mono ?_;rintro e w2 ⟨rfl,hF2⟩;have HP2:Hid _:=HP1.out.no hF2;have cs2:=hF2.cell_some cs1 id;have cn2:=(hF1.trans hF2).cell_some cn id;have fz2:w2.frozen? ⟨rp,1 + k,none⟩ = false:=((hF1.trans hF2).frozen (p:=⟨rp,1 + k,none⟩) hrl id).trans fz))
 go_ret
 have hF:=(Fr.refl (OneB rp) w2).setCell (p:=⟨rp,1 + k,none⟩) (fun _=>rfl) (.int .i64 (((a:Int) + (b:Int)).tmod 1000))
 exact ⟨rfl,(HP2.out.setNum hk _),(hF1.trans hF2).of_no.trans (hF)⟩
theorem ecalc_sub (h:RunAt w rp s x) (i j l k a b:Nat) (hs:s.size ≤ 100000) (hk:k < 26) (ho:Opnd s i j) (hj:j < s.size) (hc:s[j].toNat = 45) (ho2:Opnd s (j + 1) l) (hj2:l < s.size) (hd2:digitN (bt s l) = false) (hva:valN s x.num i j = (a:Int)) (hvb:valN s x.num (j + 1) l = (b:Int)) (ha:a < 1000) (hb:b < 1000) :
  Calls prog 133 #[.pointer (some ⟨rp,0,none⟩),.int .i64 k,.int .i64 i] w fun e w'=>CalcS rp s true { x with num:=updI x.num k (((a:Int) + 1000 - (b:Int)) % 1000) } w e w':=by
 have cs:=h.cs
 have cn:=h.cn k hk
 have fz:=h.fz (1 + k)
 have hrl:=h.lt
 have hd:digitN (bt s j) = false:=by rw [bt_in hj,hc];rfl
 have HP:Hid (RunAt w rp s x):=h
 have HV:Hid (CR 82 #[.pointer (some ⟨rp,0,none⟩),.int .i64 i] w (.int .i64 a)):=by
  have:=value_fn w rp s x h i j ho hj hs hd
  rwa [hva] at this
 have HO:Hid (∀ W,CS 102 #[.string s,.int .i64 i] W (.int .i64 j)):=fun W=>bop_fn W s i j ho hj hs hd
 have HU:Hid (∀ W,RunAt W rp s x → CR 82 #[.pointer (some ⟨rp,0,none⟩),.int .i64 ((j:Int) + 1)] W (.int .i64 b)):=fun W hW=>by
  have:=value_fn W rp s x hW (j + 1) l ho2 hj2 hs hd2
  rwa [hvb] at this
 clear h ho hd hva hvb ho2 hd2
 go_enter func133,ntmps133
 go_wp2_with (first | ((fail_if_success (have:=HP1.out));go_at_call 82;refine HV.out.mono ?_;rintro e w1 ⟨rfl,hF1⟩;have HP1:Hid _:=HP.out.no hF1;have cs1:=hF1.cell_some cs id) | (go_at_call 102;refine sameC (HO.out _) ?_) | (go_at_call 82;refine (HU.out _ HP1.out).mono ?_;rintro e w2 ⟨rfl,hF2⟩;have HP2:Hid _:=HP1.out.no hF2;have cs2:=hF2.cell_some cs1 id;have cn2:=(hF1.trans hF2).cell_some cn id;have fz2:w2.frozen? ⟨rp,1 + k,none⟩ = false:=((hF1.trans hF2).frozen (p:=⟨rp,1 + k,none⟩) hrl id).trans fz))
 go_ret
 have hF:=(Fr.refl (OneB rp) w2).setCell (p:=⟨rp,1 + k,none⟩) (fun _=>rfl) (.int .i64 (((a:Int) + 1000 - (b:Int)) % 1000))
 exact ⟨rfl,(HP2.out.setNum hk _),(hF1.trans hF2).of_no.trans (hF)⟩
theorem ecalc_mul (h:RunAt w rp s x) (i j l k a b:Nat) (hs:s.size ≤ 100000) (hk:k < 26) (ho:Opnd s i j) (hj:j < s.size) (hc:s[j].toNat = 42) (ho2:Opnd s (j + 1) l) (hj2:l < s.size) (hd2:digitN (bt s l) = false) (hva:valN s x.num i j = (a:Int)) (hvb:valN s x.num (j + 1) l = (b:Int)) (ha:a < 1000) (hb:b < 1000) :
  Calls prog 133 #[.pointer (some ⟨rp,0,none⟩),.int .i64 k,.int .i64 i] w fun e w'=>CalcS rp s true { x with num:=updI x.num k (((a:Int) * (b:Int)).tmod 1000) } w e w':=by
 have cs:=h.cs
 have cn:=h.cn k hk
 have fz:=h.fz (1 + k)
 have hrl:=h.lt
 have hd:digitN (bt s j) = false:=by rw [bt_in hj,hc];rfl
 have HP:Hid (RunAt w rp s x):=h
 have HV:Hid (CR 82 #[.pointer (some ⟨rp,0,none⟩),.int .i64 i] w (.int .i64 a)):=by
  have:=value_fn w rp s x h i j ho hj hs hd
  rwa [hva] at this
 have HO:Hid (∀ W,CS 102 #[.string s,.int .i64 i] W (.int .i64 j)):=fun W=>bop_fn W s i j ho hj hs hd
 have HU:Hid (∀ W,RunAt W rp s x → CR 82 #[.pointer (some ⟨rp,0,none⟩),.int .i64 ((j:Int) + 1)] W (.int .i64 b)):=fun W hW=>by
  have:=value_fn W rp s x hW (j + 1) l ho2 hj2 hs hd2
  rwa [hvb] at this
 have hm:wrap64 ((a:Int) * (b:Int)) = (a:Int) * (b:Int):=by
  have h1:a * b ≤ 999 * 999:=Nat.mul_le_mul (by omega) (by omega)
  have h2:((a * b:Nat):Int) = (a:Int) * (b:Int):=Int.natCast_mul a b
  rw [← h2]
  unfold wrap64;omega
 clear h ho hd hva hvb ho2 hd2
 go_enter func133,ntmps133
 go_wp2_with (first | ((fail_if_success (have:=HP1.out));go_at_call 82;refine HV.out.mono ?_;rintro e w1 ⟨rfl,hF1⟩;have HP1:Hid _:=HP.out.no hF1;have cs1:=hF1.cell_some cs id) | (go_at_call 102;refine sameC (HO.out _) ?_) | (go_at_call 82;refine (HU.out _ HP1.out).mono ?_;rintro e w2 ⟨rfl,hF2⟩;have HP2:Hid _:=HP1.out.no hF2;have cs2:=hF2.cell_some cs1 id;have cn2:=(hF1.trans hF2).cell_some cn id;have fz2:w2.frozen? ⟨rp,1 + k,none⟩ = false:=((hF1.trans hF2).frozen (p:=⟨rp,1 + k,none⟩) hrl id).trans fz))
 rw [hm]
 go_ret
 have hF:=(Fr.refl (OneB rp) w2).setCell (p:=⟨rp,1 + k,none⟩) (fun _=>rfl) (.int .i64 (((a:Int) * (b:Int)).tmod 1000))
 exact ⟨rfl,(HP2.out.setNum hk _),(hF1.trans hF2).of_no.trans (hF)⟩
theorem ecalc_ge (h:RunAt w rp s x) (i j l k a b:Nat) (hs:s.size ≤ 100000) (hk:k < 26) (ho:Opnd s i j) (hj:j < s.size) (hc:s[j].toNat = 60) (ho2:Opnd s (j + 1) l) (hj2:l < s.size) (hd2:digitN (bt s l) = false) (hva:valN s x.num i j = (a:Int)) (hvb:valN s x.num (j + 1) l = (b:Int)) (ha:a < 1000) (hb:b < 1000) (hab:b ≤ a) :
  Calls prog 133 #[.pointer (some ⟨rp,0,none⟩),.int .i64 k,.int .i64 i] w fun e w'=>CalcS rp s true { x with num:=updI x.num k (0) } w e w':=by
 have cs:=h.cs
 have cn:=h.cn k hk
 have fz:=h.fz (1 + k)
 have hrl:=h.lt
 have hd:digitN (bt s j) = false:=by rw [bt_in hj,hc];rfl
 have HP:Hid (RunAt w rp s x):=h
 have HV:Hid (CR 82 #[.pointer (some ⟨rp,0,none⟩),.int .i64 i] w (.int .i64 a)):=by
  have:=value_fn w rp s x h i j ho hj hs hd
  rwa [hva] at this
 have HO:Hid (∀ W,CS 102 #[.string s,.int .i64 i] W (.int .i64 j)):=fun W=>bop_fn W s i j ho hj hs hd
 have HU:Hid (∀ W,RunAt W rp s x → CR 82 #[.pointer (some ⟨rp,0,none⟩),.int .i64 ((j:Int) + 1)] W (.int .i64 b)):=fun W hW=>by
  have:=value_fn W rp s x hW (j + 1) l ho2 hj2 hs hd2
  rwa [hvb] at this
 clear h ho hd hva hvb ho2 hd2
 go_enter func133,ntmps133
 go_wp2_with (first | ((fail_if_success (have:=HP1.out));go_at_call 82;refine HV.out.mono ?_;rintro e w1 ⟨rfl,hF1⟩;have HP1:Hid _:=HP.out.no hF1;have cs1:=hF1.cell_some cs id) | (go_at_call 102;refine sameC (HO.out _) ?_) | (go_at_call 82;refine (HU.out _ HP1.out).mono ?_;rintro e w2 ⟨rfl,hF2⟩;have HP2:Hid _:=HP1.out.no hF2;have cs2:=hF2.cell_some cs1 id;have cn2:=(hF1.trans hF2).cell_some cn id;have fz2:w2.frozen? ⟨rp,1 + k,none⟩ = false:=((hF1.trans hF2).frozen (p:=⟨rp,1 + k,none⟩) hrl id).trans fz))
 go_ret
 have hF:=(Fr.refl (OneB rp) w2).setCell (p:=⟨rp,1 + k,none⟩) (fun _=>rfl) (.int .i64 (0))
 exact ⟨rfl,(HP2.out.setNum hk _),(hF1.trans hF2).of_no.trans (hF)⟩
theorem ecalc_lt (h:RunAt w rp s x) (i j l k a b:Nat) (hs:s.size ≤ 100000) (hk:k < 26) (ho:Opnd s i j) (hj:j < s.size) (hc:s[j].toNat = 60) (ho2:Opnd s (j + 1) l) (hj2:l < s.size) (hd2:digitN (bt s l) = false) (hva:valN s x.num i j = (a:Int)) (hvb:valN s x.num (j + 1) l = (b:Int)) (ha:a < 1000) (hb:b < 1000) (hab:a < b) :
  Calls prog 133 #[.pointer (some ⟨rp,0,none⟩),.int .i64 k,.int .i64 i] w fun e w'=>CalcS rp s true { x with num:=updI x.num k (1) } w e w':=by
 have cs:=h.cs
 have cn:=h.cn k hk
 have fz:=h.fz (1 + k)
 have hrl:=h.lt
 have hd:digitN (bt s j) = false:=by rw [bt_in hj,hc];rfl
 have HP:Hid (RunAt w rp s x):=h
 have HV:Hid (CR 82 #[.pointer (some ⟨rp,0,none⟩),.int .i64 i] w (.int .i64 a)):=by
  have:=value_fn w rp s x h i j ho hj hs hd
  rwa [hva] at this
 have HO:Hid (∀ W,CS 102 #[.string s,.int .i64 i] W (.int .i64 j)):=fun W=>bop_fn W s i j ho hj hs hd
 have HU:Hid (∀ W,RunAt W rp s x → CR 82 #[.pointer (some ⟨rp,0,none⟩),.int .i64 ((j:Int) + 1)] W (.int .i64 b)):=fun W hW=>by
  have:=value_fn W rp s x hW (j + 1) l ho2 hj2 hs hd2
  rwa [hvb] at this
 clear h ho hd hva hvb ho2 hd2
 go_enter func133,ntmps133
 go_wp2_with (first | ((fail_if_success (have:=HP1.out));go_at_call 82;refine HV.out.mono ?_;rintro e w1 ⟨rfl,hF1⟩;have HP1:Hid _:=HP.out.no hF1;have cs1:=hF1.cell_some cs id) | (go_at_call 102;refine sameC (HO.out _) ?_) | (go_at_call 82;refine (HU.out _ HP1.out).mono ?_;rintro e w2 ⟨rfl,hF2⟩;have HP2:Hid _:=HP1.out.no hF2;have cs2:=hF2.cell_some cs1 id;have cn2:=(hF1.trans hF2).cell_some cn id;have fz2:w2.frozen? ⟨rp,1 + k,none⟩ = false:=((hF1.trans hF2).frozen (p:=⟨rp,1 + k,none⟩) hrl id).trans fz))
 go_ret
 have hF:=((Fr.refl (OneB rp) w2).setCell (p:=⟨rp,1 + k,none⟩) (fun _=>rfl) (.int .i64 (0))).setCell (p:=⟨rp,1 + k,none⟩) (fun _=>rfl) (.int .i64 (1))
 exact ⟨rfl,(by have q:=(HP2.out.setNum hk 0).setNum hk 1;rwa [updI_two] at q),(hF1.trans hF2).of_no.trans (hF)⟩
end
section
variable (w:World) (rp:Nat) (s:ByteArray) (x:Rn)
theorem ecalc_div0 (h:RunAt w rp s x) (i j l k a:Nat) (hs:s.size ≤ 100000) (hk:k < 26) (ho:Opnd s i j) (hj:j < s.size) (hc:s[j].toNat = 47) (ho2:Opnd s (j + 1) l) (hj2:l < s.size) (hd2:digitN (bt s l) = false) (hva:valN s x.num i j = (a:Int)) (hvb:valN s x.num (j + 1) l = 0) (ha:a < 1000) :
  Calls prog 133 #[.pointer (some ⟨rp,0,none⟩),.int .i64 k,.int .i64 i] w fun e w'=>CalcS rp s false { x with status:=1 } w e w':=by
 have cs:=h.cs
 have cn:=h.cn k hk
 have fz:=h.fz (1 + k)
 have hrl:=h.lt
 have hd:digitN (bt s j) = false:=by rw [bt_in hj,hc];rfl
 have HP:Hid (RunAt w rp s x):=h
 have HV:Hid (CR 82 #[.pointer (some ⟨rp,0,none⟩),.int .i64 i] w (.int .i64 a)):=by
  have:=value_fn w rp s x h i j ho hj hs hd
  rwa [hva] at this
 have HO:Hid (∀ W,CS 102 #[.string s,.int .i64 i] W (.int .i64 j)):=fun W=>bop_fn W s i j ho hj hs hd
 have HU:Hid (∀ W,RunAt W rp s x → CR 82 #[.pointer (some ⟨rp,0,none⟩),.int .i64 ((j:Int) + 1)] W (.int .i64 0)):=fun W hW=>by
  have:=value_fn W rp s x hW (j + 1) l ho2 hj2 hs hd2
  rwa [hvb] at this
 clear h ho hd hva hvb ho2 hd2
 go_enter func133,ntmps133
 go_wp2_with (first | ((fail_if_success (have:=HP1.out));go_at_call 82;refine HV.out.mono ?_;rintro e w1 ⟨rfl,hF1⟩;have HP1:Hid _:=HP.out.no hF1;have cs1:=hF1.cell_some cs id) | (go_at_call 102;refine sameC (HO.out _) ?_) | (go_at_call 82;refine (HU.out _ HP1.out).mono ?_;rintro e w2 ⟨rfl,hF2⟩;have HP2:Hid _:=HP1.out.no hF2;have cs2:=hF2.cell_some cs1 id;have cn2:=(hF1.trans hF2).cell_some cn id;have fz2:w2.frozen? ⟨rp,1 + k,none⟩ = false:=((hF1.trans hF2).frozen (p:=⟨rp,1 + k,none⟩) hrl id).trans fz) | (go_at_call 108;refine (ends_fn _ rp s x HP2.out 1).mono ?_;rintro e w3 ⟨rfl,hR3,hF3⟩))
 go_ret
 exact ⟨rfl,hR3,(hF1.trans hF2).of_no.trans (hF3)⟩
end
section
variable (w:World) (rp:Nat) (s:ByteArray) (x:Rn)
theorem ecalc_div (h:RunAt w rp s x) (i j l k a b:Nat) (hs:s.size ≤ 100000) (hk:k < 26) (ho:Opnd s i j) (hj:j < s.size) (hc:s[j].toNat = 47) (ho2:Opnd s (j + 1) l) (hj2:l < s.size) (hd2:digitN (bt s l) = false) (hva:valN s x.num i j = (a:Int)) (hvb:valN s x.num (j + 1) l = (b:Int)) (ha:a < 1000) (hb:b < 1000) (hb0:0 < b) :
  Calls prog 133 #[.pointer (some ⟨rp,0,none⟩),.int .i64 k,.int .i64 i] w fun e w'=>CalcS rp s true { x with num:=updI x.num k ((a / b:Nat):Int) } w e w':=by
 have cs:=h.cs
 have cn:=h.cn k hk
 have fz:=h.fz (1 + k)
 have hrl:=h.lt
 have hd:digitN (bt s j) = false:=by rw [bt_in hj,hc];rfl
 have HP:Hid (RunAt w rp s x):=h
 have HV:Hid (CR 82 #[.pointer (some ⟨rp,0,none⟩),.int .i64 i] w (.int .i64 a)):=by
  have:=value_fn w rp s x h i j ho hj hs hd
  rwa [hva] at this
 have HO:Hid (∀ W,CS 102 #[.string s,.int .i64 i] W (.int .i64 j)):=fun W=>bop_fn W s i j ho hj hs hd
 have HU:Hid (∀ W,RunAt W rp s x → CR 82 #[.pointer (some ⟨rp,0,none⟩),.int .i64 ((j:Int) + 1)] W (.int .i64 b)):=fun W hW=>by
  have:=value_fn W rp s x hW (j + 1) l ho2 hj2 hs hd2
  rwa [hvb] at this
 generalize hq:a / b = q
 have Hq:Hid (a / b = q):=hq
 clear hq
 have by0:((b:Int) == 0) = false:=bF (by omega)
 have HB:Hid (a < 1000 ∧ b < 1000 ∧ 0 < b):=⟨ha,hb,hb0⟩
 clear h ho hd hva hvb ho2 hd2
 go_enter func133,ntmps133
 go_wp2_with (first | ((fail_if_success (have:=HP1.out));go_at_call 82;refine HV.out.mono ?_;rintro e w1 ⟨rfl,hF1⟩;have HP1:Hid _:=HP.out.no hF1;have cs1:=hF1.cell_some cs id) | (go_at_call 102;refine sameC (HO.out _) ?_) | (go_at_call 82;refine (HU.out _ HP1.out).mono ?_;rintro e w2 ⟨rfl,hF2⟩;have HP2:Hid _:=HP1.out.no hF2;have cs2:=hF2.cell_some cs1 id;have cn2:=(hF1.trans hF2).cell_some cn id;have fz2:w2.frozen? ⟨rp,1 + k,none⟩ = false:=((hF1.trans hF2).frozen (p:=⟨rp,1 + k,none⟩) hrl id).trans fz))
 have HF12:Hid _:=hF1.trans hF2
 clear hF1 hF2 HV HO HU HP HP1 cs cs1 cs2 cn fz ha hb hb0 by0
 go_loop [10] (fun t=>∃ n:Nat,n * b ≤ a ∧ t = .int .i64 n) (fun t=>a - (intOf t).toNat * b)
 case atStart=>exact ⟨0,by omega,rfl⟩
 case round =>
  obtain ⟨n,hn,rfl⟩:=hrel
  obtain ⟨ha,hb,hb0⟩:=HB.out
  have hw:=div_wrap ha hb hn hb0
  have hs1:(n + 1) * b = n * b + b:=Nat.succ_mul n b
  have hn2:n ≤ a:=Nat.le_trans (Nat.le_mul_of_pos_right n hb0) hn
  by_cases hd:(n + 1) * b ≤ a
  ·have b1:decide (wrap64 (((n:Int) + 1) * (b:Int)) ≤ (a:Int)) = true:=by rw [hw];exact decide_eq_true (by omega)
   have HN:Hid ((n + 1) * b ≤ a ∧ (n + 1) * b = n * b + b ∧ 0 < b):=⟨hd,hs1,hb0⟩
   have hn3:n < 1000:=by omega
   clear hw hs1 hd hn ha hb hb0 hn2
   go_wp2
   go_round
   case rel=>exact ⟨n + 1,HN.out.1,by go_num⟩
   case measure =>
    obtain ⟨h1,h2,h3⟩:=HN.out
    show a - (intOf (Value.int IntKind.i64 ((n:Int) + 1))).toNat * b < a - (intOf (Value.int IntKind.i64 (n:Int))).toNat * b
    have e:(intOf (Value.int IntKind.i64 ((n:Int) + 1))).toNat = n + 1:=by simp [intOf]
    have e2:(intOf (Value.int IntKind.i64 (n:Int))).toNat = n:=by simp [intOf]
    rw [e,e2,h2]
    rw [h2] at h1
    omega
  ·have b1:decide (wrap64 (((n:Int) + 1) * (b:Int)) ≤ (a:Int)) = false:=by rw [hw];exact decide_eq_false (by omega)
   have HN:Hid (n = q):=by
    show n = q
    rw [← Hq.out]
    exact (Nat.div_eq_of_lt_le (by rw [Nat.mul_comm] at hn;rw [Nat.mul_comm];exact hn) (by omega)).symm
   have hn3:n < 1000:=by omega
   clear hw hs1 hd hn ha hb hb0 hn2
   go_wp2
   go_ret
   have hF:=(Fr.refl (OneB rp) w2).setCell (p:=⟨rp,1 + k,none⟩) (fun _=>rfl) (.int .i64 n)
   exact ⟨rfl,(by rw [← HN.out];exact HP2.out.setNum hk _),HF12.out.of_no.trans (hF)⟩
end
end
section
def rnE (σ:St) (q:Nat):Rn:=⟨fun k=>(σ.num k:Int),fun _=>.slice none 0 0,.pointer (some ⟨q,0,none⟩),fun k=>(σ.at_ k:Int),fun k=>((σ.bx k).length:Int),(σ.left:Int),(σ.status:Int),trB σ.tr,0,(σ.peak:Int)⟩
structure ExA (w:World) (rp q ri rh n:Nat) (s:ByteArray) (σ:St) (I H B V:Nat → Int) (md:Int):Prop where
 r:RunAt w rp s (rnE σ q)
 h:RefAt w q ri rh n I H md
 l:Rel n B V I H md
 b:HB n B V σ
 ap:Ap n σ
 ok:NumOk σ
 n1:rp ≠ q
 n2:rp ≠ ri
 n3:rp ≠ rh
 m0:0 ≤ md
def ExF (rp q ri rh:Nat):Nat → Prop:=fun k=>k = rp ∨ k = q ∨ k = ri ∨ k = rh
def ExR (w:World) (rp q ri rh n:Nat) (s:ByteArray) (σ:St) (m:Int):Prop:=∃ I H B V md,ExA w rp q ri rh n s σ I H B V md ∧ md ≤ m
def ExS (rp q ri rh n:Nat) (s:ByteArray) (m:Int) (x:St × Bool) (w:World) (e:Ending) (w':World):Prop:=e = .returned (.bool x.2) ∧ ExR w' rp q ri rh n s x.1 m ∧ Fr (ExF rp q ri rh) w w'
theorem exF_one {w w':World} {rp:Nat} (q ri rh:Nat) (h:Fr (OneB rp) w w'):Fr (ExF rp q ri rh) w w':=h.mono (fun k _ e=>.inl e)
theorem exF_ref {w w':World} {q ri rh:Nat} (rp:Nat) (h:Fr (RefS q ri rh) w w'):Fr (ExF rp q ri rh) w w':=h.mono (fun k _ e=>.inr e)
section
variable {w w':World} {rp q ri rh n:Nat} {s:ByteArray} {σ τ:St} {I H B V:Nat → Int} {md:Int}
theorem ExA.no (h:ExA w rp q ri rh n s σ I H B V md) (hF:Fr NoB w w'):ExA w' rp q ri rh n s σ I H B V md :=
 ⟨h.r.no hF,h.h.no hF,h.l,h.b,h.ap,h.ok,h.n1,h.n2,h.n3,h.m0⟩
theorem ExA.own (h:ExA w rp q ri rh n s σ I H B V md) (hF:Fr (OneB rp) w w') (hR:RunAt w' rp s (rnE τ q)) (hb:τ.bx = σ.bx) (ha:τ.at_ = σ.at_) (hok:NumOk τ):ExA w' rp q ri rh n s τ I H B V md :=
 ⟨hR,h.h.fr hF (fun e=>h.n1 (by unfold OneB at e;exact e.symm)) (fun e=>h.n2 (by unfold OneB at e;exact e.symm)) (fun e=>h.n3 (by unfold OneB at e;exact e.symm)),h.l,h.b.like hb ha,h.ap.keep hb ha,hok,h.n1,h.n2,h.n3,h.m0⟩
theorem ExA.ends (h:ExA w rp q ri rh n s σ I H B V md) {v:Nat} (hF:Fr (OneB rp) w w') (hR:RunAt w' rp s { rnE σ q with status:=(v:Int) }):ExA w' rp q ri rh n s { σ with status:=v } I H B V md:=h.own hF hR rfl rfl (h.ok.like rfl rfl)
theorem ExA.num (h:ExA w rp q ri rh n s σ I H B V md) {k v:Nat} (hv:v < 1000) (hF:Fr (OneB rp) w w') (hR:RunAt w' rp s { rnE σ q with num:=updI (rnE σ q).num k (v:Int) }):ExA w' rp q ri rh n s { σ with num:=upN σ.num k v } I H B V md:=by
 refine h.own hF ?_ rfl rfl (h.ok.set hv)
 have e:({ rnE σ q with num:=updI (rnE σ q).num k (v:Int) }:Rn) = rnE { σ with num:=upN σ.num k v } q:=by
  unfold rnE
  simp only [updI_cast]
 rw [← e]
 exact hR
theorem ExA.heap (h:ExA w rp q ri rh n s σ I H B V md) (hF:Fr (RefS q ri rh) w w'):RunAt w' rp s (rnE σ q):=h.r.fr hF (fun e=>by
 unfold RefS at e
 rcases e with e | e | e
 ·exact h.n1 e
 ·exact h.n2 e
 ·exact h.n3 e)
end
section
variable (w:World) (rp q ri rh n:Nat) (s:ByteArray) (σ:St) (I H B V:Nat → Int) (md:Int)
theorem ehas (h:ExA w rp q ri rh n s σ I H B V md) (k:Nat) (hk:k < 26) :
  CS 131 #[.pointer (some ⟨rp,0,none⟩),.int .i64 k] w (.int .i64 ((σ.bx k).length:Int)):=by
 have ch:=h.r.ch
 have cl:=h.r.cl k hk
 unfold rnE at ch cl
 simp only [] at ch cl
 clear h
 go_enter func131,ntmps131
 go_wp2
 go_ret
 exact ⟨rfl,rfl⟩
theorem elook (h:ExA w rp q ri rh n s σ I H B V md) (k i:Nat) (hk:k < 26) (hi:i < (σ.bx k).length) :
  CR 132 #[.pointer (some ⟨rp,0,none⟩),.int .i64 k,.int .i64 i] w (.int .i64 (((σ.bx k).getD i 0:Nat):Int)):=by
 have ch:=h.r.ch
 have ca:=h.r.ca k hk
 unfold rnE at ch ca
 simp only [] at ch ca
 have hne:σ.bx k ≠ []:=fun e=>by rw [e] at hi;simp at hi
 have hin:=h.ap.inn k hk hne
 have hon:=h.b.on k hk i hi
 have hz:=h.l.zz (σ.at_ k + i) (by omega)
 have hbn:B (σ.at_ k + i) ≠ 0:=by rw [hon.1];omega
 have hhi:=h.h.hi
 have HL:Hid (∀ W,Fr NoB w W → CS 26 #[.pointer (some ⟨q,0,none⟩),.int .i64 ((σ.at_ k:Int) + (i:Int))] W (.tuple #[.int .i64 (((σ.bx k).getD i 0:Nat):Int),.int .i64 0])):=fun W hW=>by
  have:=rload_yes W q ri rh n I H md (σ.at_ k + i) (h.h.no hW) (by omega) (fun e=>hbn (hz.2 e))
  rw [← h.l.vh _ (by omega) hbn,hon.2,Int.natCast_add] at this
  exact this
 generalize (σ.bx k).getD i 0 = X at *
 clear h hon hz hbn
 have hat:σ.at_ k ≤ 4096:=by omega
 have hi2:i ≤ 4096:=by omega
 generalize σ.at_ k = a at *
 clear hin hne hi
 have Hwr:Hid (IntKind.i64.wrap ((a:Int) + (i:Int)) = (a:Int) + (i:Int)):=by show IntKind.i64.wrap _ = _;simp [IntKind.wrap,IntKind.signed,IntKind.bits];omega
 go_enter func132,ntmps132
 go_wp2
 go_region_with (go_at_call 26;first | (rw [Hwr.out];refine (HL.out _ ((Fr.refl _ _).drew)).mono ?_;rintro e w1 ⟨rfl,hw⟩;have hw2:=hw.symm;clear hw;subst hw2) | (refine (HL.out _ ((Fr.refl _ _).drew)).mono ?_;rintro e w1 ⟨rfl,hw⟩;have hw2:=hw.symm;clear hw;subst hw2))
 all_goals
  go_wp2
  go_ret
  exact ⟨rfl,(Fr.refl _ _).drew⟩
end
end
section
theorem rnE_wv (σ:St) (q k:Nat):({ rnE σ q with wv:=updV (rnE σ q).wv k (.slice none 0 0) }:Rn) = rnE σ q:=by
 have e:updV (rnE σ q).wv k (.slice none 0 0) = (rnE σ q).wv:=by
  funext j
  unfold updV rnE
  split <;> rfl
 rw [e]
theorem updI_len (f:Nat → List Nat) (k:Nat) (l:List Nat):updI (fun j=>((f j).length:Int)) k (l.length:Int) = fun j=>((upB f k l j).length:Int):=by
 funext j
 unfold updI upB
 split <;> rfl
theorem updI_nat (f:Nat → Nat) (k v:Nat):updI (fun j=>(f j:Int)) k (v:Int) = fun j=>(upN f k v j:Int):=by
 funext j
 unfold updI upN
 split <;> rfl
theorem rnE_len (σ:St) (q k:Nat) (l:List Nat):({ rnE σ q with len:=updI (rnE σ q).len k (l.length:Int) }:Rn) = rnE { σ with bx:=upB σ.bx k l } q:=by
 unfold rnE
 simp only [updI_len]
theorem rnE_at (σ:St) (q k v:Nat):({ rnE σ q with at_:=updI (rnE σ q).at_ k (v:Int) }:Rn) = rnE { σ with at_:=upN σ.at_ k v } q:=by
 unfold rnE
 simp only [updI_nat]
theorem toE {w' w:World} {rp q ri rh n:Nat} {s:ByteArray} {σ:St} {I H B V:Nat → Int} {md m:Int} (h:ExA w' rp q ri rh n s σ I H B V md) (hm:md ≤ m):ExR w' rp q ri rh n s σ m:=⟨I,H,B,V,md,h,hm⟩
section
variable (w:World) (rp q ri rh n:Nat) (s:ByteArray) (σ:St) (I H B V:Nat → Int) (md:Int)
theorem edrop_no (h:ExA w rp q ri rh n s σ I H B V md) (i k:Nat) (hi:i + 1 < s.size) (hs:s.size ≤ 100000) (hk:k < 26) (hq:s[i + 1].toNat = k + 65) (he:σ.bx k = []) :
  Calls prog 110 #[.pointer (some ⟨rp,0,none⟩),.int .i64 i] w fun e w'=>ExS rp q ri rh n s md (ends σ 4) w e w':=by
 have cs:=h.r.cs
 have HP:Hid (ExA w rp q ri rh n s σ I H B V md):=h
 have HH:Hid (CS 131 #[.pointer (some ⟨rp,0,none⟩),.int .i64 k] w (.int .i64 0)):=by
  have:=ehas w rp q ri rh n s σ I H B V md h k hk
  rwa [he] at this
 clear h
 go_enter func110,ntmps110
 go_wp2_with (first | (go_at_call 131;refine sameC HH.out ?_) | (go_at_call 108;refine (ends_fn _ rp s _ HP.out.r 4).mono ?_;rintro e w2 ⟨rfl,hR2,hF2⟩))
 go_ret
 exact ⟨rfl,toE (w:=w) (HP.out.ends (v:=4) hF2 hR2) (Int.le_refl _),exF_one q ri rh hF2⟩
theorem edrop_yes (h:ExA w rp q ri rh n s σ I H B V md) (i k:Nat) (hi:i + 1 < s.size) (hs:s.size ≤ 100000) (hk:k < 26) (hq:s[i + 1].toNat = k + 65) (he:σ.bx k ≠ []) (hok:NumOk { σ with bx:=upB σ.bx k [] }) :
  Calls prog 110 #[.pointer (some ⟨rp,0,none⟩),.int .i64 i] w fun e w'=>ExS rp q ri rh n s md ({ σ with bx:=upB σ.bx k [] },true) w e w':=by
 have cs:=h.r.cs
 have cw:=h.r.cw k hk
 have fz:=h.r.fz (27 + k)
 have hl:0 < (σ.bx k).length:=List.length_pos_iff.2 he
 have hl2:(σ.bx k).length ≤ 64:=h.ok.sz k
 have Hok:Hid _:=hok
 have HE:Hid _:=he
 have HP:Hid (ExA w rp q ri rh n s σ I H B V md):=h
 have HH:Hid _:=ehas w rp q ri rh n s σ I H B V md h k hk
 generalize hgl:(σ.bx k).length = L at HH hl hl2
 have HL:Hid _:=hgl
 clear h he hok hgl
 go_enter func110,ntmps110
 go_upto_region 5 with (first | (go_at_call 131;refine Calls.mono HH.out ?_;rintro e w1 ⟨rfl,hw⟩;have hw2:=hw.symm;clear hw;subst hw2))
 have HF2:Hid (Fr (OneB rp) w (w.setCell ⟨rp,27 + k,none⟩ (.slice none 0 0))):=(Fr.refl (OneB rp) w).setCell (p:=⟨rp,27 + k,none⟩) (fun _=>rfl) _
 have HP2:Hid (ExA (w.setCell ⟨rp,27 + k,none⟩ (.slice none 0 0)) rp q ri rh n s σ I H B V md):=HP.out.own HF2.out (by have:=HP.out.r.setWv hk (.slice none 0 0);rwa [rnE_wv] at this) rfl rfl HP.out.ok
 clear cs cw fz HH
 generalize w.setCell ⟨rp,27 + k,none⟩ (.slice none 0 0) = W2 at *
 have ch:=HP2.out.r.ch
 have ca:=HP2.out.r.ca k hk
 have cl:=HP2.out.r.cl k hk
 have fz:=HP2.out.r.fz (80 + k)
 have hrl:=HP2.out.r.lt
 have HN:Hid (¬ RefS q ri rh rp):=fun e=>by
  unfold RefS at e
  rcases e with e | e | e
  ·exact HP2.out.n1 e
  ·exact HP2.out.n2 e
  ·exact HP2.out.n3 e
 unfold rnE at ch ca cl
 simp only [] at ch ca cl
 have hin:=HP2.out.ap.inn k hk HE.out
 have hlen:0 < (σ.bx k).length:=List.length_pos_iff.2 HE.out
 have hon:=(HP2.out.b.on k hk 0 hlen).1
 rw [Nat.add_zero] at hon
 have hkn:σ.at_ k < n:=by omega
 have hin0:I (σ.at_ k) ≠ 0:=fun e=>by have:=(HP2.out.l.zz _ hkn).2 e;omega
 have HFr:Hid (∀ W,Fr NoB W2 W → Calls prog 24 #[.pointer (some ⟨q,0,none⟩),.int .i64 (σ.at_ k:Int)] W fun e w'=>e = .returned (.int .i64 0) ∧ RefAt w' q ri rh n (clearEq I (I (σ.at_ k)) n) H md ∧ Fr (RefS q ri rh) W w'):=fun W hW=>rfr_yes W q ri rh n I H md (σ.at_ k) (HP2.out.h.no hW) hkn hin0 (HP2.out.l.starts hkn hon)
 have HRel:Hid (Rel n (clearTo B (σ.at_ k) (σ.at_ k + (σ.bx k).length)) (clearTo V (σ.at_ k) (σ.at_ k + (σ.bx k).length)) (clearEq I (I (σ.at_ k)) n) H md):=HP2.out.l.free hkn hon (by omega) (fun j h1 h2=>by
   have:=(HP2.out.b.on k hk (j - σ.at_ k) (by omega)).1
   rwa [show σ.at_ k + (j - σ.at_ k) = j by omega] at this) (by
   by_cases e:σ.at_ k + (σ.bx k).length = n
   ·exact .inl e
   ·refine .inr (fun q=>?_)
    obtain ⟨s0,g1,g2,g3⟩:=HP2.out.l.st (σ.at_ k + (σ.bx k).length) (by omega) (by omega)
    have hz:=HP2.out.b.off (σ.at_ k + (σ.bx k).length) (by omega) (fun j hj hb=>?_)
    ·omega
    ·by_cases ej:j = k
     ·subst ej;exact .inr (Nat.le_refl _)
     ·rcases HP2.out.ap.ap k j hk hj (fun x=>ej x.symm) HE.out hb with g | g
      ·by_cases ee:σ.at_ j = σ.at_ k + (σ.bx k).length
       ·have hlj:0 < (σ.bx j).length:=List.length_pos_iff.2 hb
        have:=(HP2.out.b.on j hj 0 hlj).1
        rw [Nat.add_zero,ee] at this
        omega
       ·exact .inl (by omega)
      ·exact .inr (by omega))
 clear hin hlen hon hkn hin0
 generalize hga:(σ.at_ k:Int) = A at ca HFr
 have HA:Hid _:=hga
 clear hga
 go_wp2
 go_region_with (go_at_call 24;refine (HFr.out _ ((Fr.refl _ _).drew)).mono ?_;rintro e w3 ⟨rfl,hR3,hF3⟩;have HR3:Hid _:=hR3;have HF3:Hid (Fr (RefS q ri rh) W2 w3):=(((Fr.refl _ _).drew)).trans hF3;have cl3:=HF3.out.cell_some cl HN.out;have fz3:w3.frozen? ⟨rp,80 + k,none⟩ = false:=(HF3.out.frozen (p:=⟨rp,80 + k,none⟩) hrl HN.out).trans fz;clear hR3 hF3)
 all_goals
  go_wp2
  go_ret
  have hF4:Fr (OneB rp) w3 (w3.setCell ⟨rp,80 + k,none⟩ (.int .i64 0)):=(Fr.refl (OneB rp) w3).setCell (p:=⟨rp,80 + k,none⟩) (fun _=>rfl) _
  have hR4:=(HP2.out.heap HF3.out).setLen hk 0
  have e0:=rnE_len σ q k []
  rw [show ((([]:List Nat).length:Nat):Int) = 0 from rfl] at e0
  rw [e0] at hR4
  refine ⟨rfl,toE (w:=w) ⟨hR4,HR3.out.fr hF4 (fun e=>HP2.out.n1 (by unfold OneB at e;exact e.symm)) (fun e=>HP2.out.n2 (by unfold OneB at e;exact e.symm)) (fun e=>HP2.out.n3 (by unfold OneB at e;exact e.symm)),HRel.out,HP2.out.b.lose HP2.out.ap hk HE.out,HP2.out.ap.drop k,Hok.out,HP2.out.n1,HP2.out.n2,HP2.out.n3,HP2.out.m0⟩ (Int.le_refl _),((exF_one q ri rh HF2.out).trans (exF_ref rp HF3.out)).trans (exF_one q ri rh hF4)⟩
end
end
end Go.Proofs.YthcjcjfgdgnljabGreatDoor
