import Derived.Test.YthcjcjfgdgnljabGreatDoorGDevZB
import Derived.Test.YthcjcjfgdgnljabGreatDoorGDevZE
import Derived.Test.YthcjcjfgdgnljabGreatDoorGMchY
set_option linter.unusedVariables false
set_option maxHeartbeats 4000000
set_option maxRecDepth 8000
open Go.Proofs.Tryz
namespace Go.Proofs.YthcjcjfgdgnljabGreatDoor
open Go.RowKit
theorem part_small (w:World) (kp base:Nat) (s:ByteArray) (r:Rs) (pv ov:Value) (h:RdP w kp base s r pv ov (cloL r.P)) (hz:Zb s r.z) (hb:base ≤ w.heap.size) (hJ:RJ s r) (hlt:r.z.1 < s.size) (c1:smallN (pk s r.z) = true) :
  Calls prog 65 #[.pointer (some ⟨kp,0,none⟩)] w fun x w'=>PartSays kp base s (rPart s r) w x w':=by
 have hC:=rj_zero hJ
 have hl:r.P.length ≤ 90001:=by have:=hJ.pl;have:=hz.n;omega
 have hlo:r.O.length ≤ 90001:=by have:=hJ.o9;omega
 have hE:rPart s r = rNumber s r:=by unfold rPart;rw [if_pos c1]
 rw [hE]
 have HPk:Hid (CR 89 #[.pointer (some ⟨kp,0,none⟩)] w (.int .u8 (pk s r.z:Int))):=by
  have:=peek_fn w kp s r.z pv ov h.rd hz
  exact this
 have HC:Hid (∀ X:World,Fr NoB w X → Calls prog 91 #[.pointer (some ⟨kp,0,none⟩),.int .u8 (pk s r.z:Int)] X fun x w'=>PartSays kp base s (rNumber s r) X x w'):=fun X hX=>toNumber_fn X kp base s r pv ov (h.no hX) hC hz (Nat.le_trans hb hX.size) hl hlt c1
 have HN:Hid _:=fun X=>isNumber_fn X (pk s r.z)
 rw [c1] at HN
 clear hE hJ
 go_enter func65,ntmps65
 go_wp2_with (first | (go_at_call 89;refine HPk.out.mono ?_;rintro x w1 ⟨rfl,hF1⟩) | (go_at_call 90;refine sameC (HN.out _) ?_) | (go_at_call 91;refine (HC.out _ hF1).mono ?_;rintro x w2 ⟨rfl,⟨pv2,ov2,hRP⟩,hF2⟩))
 go_end0
 exact ⟨rfl,⟨pv2,ov2,hRP⟩,hF1.of_no.trans hF2⟩
theorem part_great (w:World) (kp base:Nat) (s:ByteArray) (r:Rs) (pv ov:Value) (h:RdP w kp base s r pv ov (cloL r.P)) (hz:Zb s r.z) (hb:base ≤ w.heap.size) (hJ:RJ s r) (hlt:r.z.1 < s.size) (c1:smallN (pk s r.z) = false) (c2:greatN (pk s r.z) = true) :
  Calls prog 65 #[.pointer (some ⟨kp,0,none⟩)] w fun x w'=>PartSays kp base s (rPart s r) w x w':=by
 have hC:=rj_zero hJ
 have hl:r.P.length ≤ 90001:=by have:=hJ.pl;have:=hz.n;omega
 have hlo:r.O.length ≤ 90001:=by have:=hJ.o9;omega
 have hE:rPart s r = rBox s r:=by unfold rPart;rw [if_neg (by rw [c1];simp),if_pos c2]
 rw [hE]
 have HPk:Hid (CR 89 #[.pointer (some ⟨kp,0,none⟩)] w (.int .u8 (pk s r.z:Int))):=by
  have:=peek_fn w kp s r.z pv ov h.rd hz
  exact this
 have HC:Hid (∀ X:World,Fr NoB w X → Calls prog 93 #[.pointer (some ⟨kp,0,none⟩)] X fun x w'=>PartSays kp base s (rBox s r) X x w'):=fun X hX=>toBox_fn X kp base s r pv ov (h.no hX) hC hz (Nat.le_trans hb hX.size) hl
 have HN:Hid _:=fun X=>isNumber_fn X (pk s r.z)
 rw [c1] at HN
 have HB:Hid _:=fun X=>isBox_fn X (pk s r.z)
 rw [c2] at HB
 clear hE hJ
 go_enter func65,ntmps65
 go_wp2_with (first | (go_at_call 89;refine HPk.out.mono ?_;rintro x w1 ⟨rfl,hF1⟩) | (go_at_call 90;refine sameC (HN.out _) ?_) | (go_at_call 92;refine sameC (HB.out _) ?_) | (go_at_call 93;refine (HC.out _ hF1).mono ?_;rintro x w2 ⟨rfl,⟨pv2,ov2,hRP⟩,hF2⟩))
 go_end0
 exact ⟨rfl,⟨pv2,ov2,hRP⟩,hF1.of_no.trans hF2⟩
theorem part_end (w:World) (kp base:Nat) (s:ByteArray) (r:Rs) (pv ov:Value) (h:RdP w kp base s r pv ov (cloL r.P)) (hz:Zb s r.z) (hb:base ≤ w.heap.size) (hJ:RJ s r) (hlt:r.z.1 < s.size) (c1:pk s r.z = 126) :
  Calls prog 65 #[.pointer (some ⟨kp,0,none⟩)] w fun x w'=>PartSays kp base s (rPart s r) w x w':=by
 have hC:=rj_zero hJ
 have hl:r.P.length ≤ 90001:=by have:=hJ.pl;have:=hz.n;omega
 have hlo:r.O.length ≤ 90001:=by have:=hJ.o9;omega
 have hE:rPart s r = rEnd s r:=by unfold rPart;rw [c1];rw [if_neg (by decide),if_neg (by decide),if_pos rfl]
 rw [hE]
 have HPk:Hid (CR 89 #[.pointer (some ⟨kp,0,none⟩)] w (.int .u8 ((126:Nat):Int))):=by
  have:=peek_fn w kp s r.z pv ov h.rd hz
  rwa [c1] at this
 have HC:Hid (∀ X:World,Fr NoB w X → Calls prog 94 #[.pointer (some ⟨kp,0,none⟩)] X fun x w'=>PartSays kp base s (rEnd s r) X x w'):=fun X hX=>ending_fn X kp base s r pv ov (h.no hX) hC hz (Nat.le_trans hb hX.size) hl
 have HN:Hid (∀ X:World,CS 90 #[.int .u8 ((126:Nat):Int)] X (.bool false)):=fun X=>isNumber_fn X 126
 have HB:Hid (∀ X:World,CS 92 #[.int .u8 ((126:Nat):Int)] X (.bool false)):=fun X=>isBox_fn X 126
 clear hE hJ
 go_enter func65,ntmps65
 go_wp2_with (first | (go_at_call 89;refine HPk.out.mono ?_;rintro x w1 ⟨rfl,hF1⟩) | (go_at_call 90;refine sameC (HN.out _) ?_) | (go_at_call 92;refine sameC (HB.out _) ?_) | (go_at_call 94;refine (HC.out _ hF1).mono ?_;rintro x w2 ⟨rfl,⟨pv2,ov2,hRP⟩,hF2⟩))
 go_end0
 exact ⟨rfl,⟨pv2,ov2,hRP⟩,hF1.of_no.trans hF2⟩
theorem part_print (w:World) (kp base:Nat) (s:ByteArray) (r:Rs) (pv ov:Value) (h:RdP w kp base s r pv ov (cloL r.P)) (hz:Zb s r.z) (hb:base ≤ w.heap.size) (hJ:RJ s r) (hlt:r.z.1 < s.size) (c1:pk s r.z = 33) :
  Calls prog 65 #[.pointer (some ⟨kp,0,none⟩)] w fun x w'=>PartSays kp base s (rPart s r) w x w':=by
 have hC:=rj_zero hJ
 have hl:r.P.length ≤ 90001:=by have:=hJ.pl;have:=hz.n;omega
 have hlo:r.O.length ≤ 90001:=by have:=hJ.o9;omega
 have hE:rPart s r = rPrint s r:=by unfold rPart;rw [c1];rw [if_neg (by decide),if_neg (by decide),if_neg (by decide),if_pos rfl]
 rw [hE]
 have HPk:Hid (CR 89 #[.pointer (some ⟨kp,0,none⟩)] w (.int .u8 ((33:Nat):Int))):=by
  have:=peek_fn w kp s r.z pv ov h.rd hz
  rwa [c1] at this
 have HC:Hid (∀ X:World,Fr NoB w X → Calls prog 95 #[.pointer (some ⟨kp,0,none⟩)] X fun x w'=>PartSays kp base s (rPrint s r) X x w'):=fun X hX=>printing_fn X kp base s r pv ov (h.no hX) hC hz (Nat.le_trans hb hX.size) hl
 have HN:Hid (∀ X:World,CS 90 #[.int .u8 ((33:Nat):Int)] X (.bool false)):=fun X=>isNumber_fn X 33
 have HB:Hid (∀ X:World,CS 92 #[.int .u8 ((33:Nat):Int)] X (.bool false)):=fun X=>isBox_fn X 33
 clear hE hJ
 go_enter func65,ntmps65
 go_wp2_with (first | (go_at_call 89;refine HPk.out.mono ?_;rintro x w1 ⟨rfl,hF1⟩) | (go_at_call 90;refine sameC (HN.out _) ?_) | (go_at_call 92;refine sameC (HB.out _) ?_) | (go_at_call 95;refine (HC.out _ hF1).mono ?_;rintro x w2 ⟨rfl,⟨pv2,ov2,hRP⟩,hF2⟩))
 go_end0
 exact ⟨rfl,⟨pv2,ov2,hRP⟩,hF1.of_no.trans hF2⟩
theorem part_if (w:World) (kp base:Nat) (s:ByteArray) (r:Rs) (pv ov:Value) (h:RdP w kp base s r pv ov (cloL r.P)) (hz:Zb s r.z) (hb:base ≤ w.heap.size) (hJ:RJ s r) (hlt:r.z.1 < s.size) (c1:pk s r.z = 63) :
  Calls prog 65 #[.pointer (some ⟨kp,0,none⟩)] w fun x w'=>PartSays kp base s (rPart s r) w x w':=by
 have hC:=rj_zero hJ
 have hl:r.P.length ≤ 90001:=by have:=hJ.pl;have:=hz.n;omega
 have hlo:r.O.length ≤ 90001:=by have:=hJ.o9;omega
 have hE:rPart s r = rOpen s 63 8 r:=by unfold rPart;rw [c1];rw [if_neg (by decide),if_neg (by decide),if_neg (by decide),if_neg (by decide),if_pos rfl]
 rw [hE]
 have HPk:Hid (CR 89 #[.pointer (some ⟨kp,0,none⟩)] w (.int .u8 ((63:Nat):Int))):=by
  have:=peek_fn w kp s r.z pv ov h.rd hz
  rwa [c1] at this
 have HC:Hid (∀ X:World,Fr NoB w X → Calls prog 96 #[.pointer (some ⟨kp,0,none⟩),.int .u8 ((63:Nat):Int),.int .i64 ((8:Nat):Int)] X fun x w'=>PartSays kp base s (rOpen s 63 8 r) X x w'):=fun X hX=>opening_fn X kp base s r pv ov (h.no hX) hC hz (Nat.le_trans hb hX.size) hl hlo 63 8 (by decide) rfl
 have HN:Hid (∀ X:World,CS 90 #[.int .u8 ((63:Nat):Int)] X (.bool false)):=fun X=>isNumber_fn X 63
 have HB:Hid (∀ X:World,CS 92 #[.int .u8 ((63:Nat):Int)] X (.bool false)):=fun X=>isBox_fn X 63
 clear hE hJ
 go_enter func65,ntmps65
 go_wp2_with (first | (go_at_call 89;refine HPk.out.mono ?_;rintro x w1 ⟨rfl,hF1⟩) | (go_at_call 90;refine sameC (HN.out _) ?_) | (go_at_call 92;refine sameC (HB.out _) ?_) | (go_at_call 96;refine (HC.out _ hF1).mono ?_;rintro x w2 ⟨rfl,⟨pv2,ov2,hRP⟩,hF2⟩))
 go_end0
 exact ⟨rfl,⟨pv2,ov2,hRP⟩,hF1.of_no.trans hF2⟩
theorem part_loop (w:World) (kp base:Nat) (s:ByteArray) (r:Rs) (pv ov:Value) (h:RdP w kp base s r pv ov (cloL r.P)) (hz:Zb s r.z) (hb:base ≤ w.heap.size) (hJ:RJ s r) (hlt:r.z.1 < s.size) (c1:pk s r.z = 64) :
  Calls prog 65 #[.pointer (some ⟨kp,0,none⟩)] w fun x w'=>PartSays kp base s (rPart s r) w x w':=by
 have hC:=rj_zero hJ
 have hl:r.P.length ≤ 90001:=by have:=hJ.pl;have:=hz.n;omega
 have hlo:r.O.length ≤ 90001:=by have:=hJ.o9;omega
 have hE:rPart s r = rOpen s 64 11 r:=by unfold rPart;rw [c1];rw [if_neg (by decide),if_neg (by decide),if_neg (by decide),if_neg (by decide),if_neg (by decide),if_pos rfl]
 rw [hE]
 have HPk:Hid (CR 89 #[.pointer (some ⟨kp,0,none⟩)] w (.int .u8 ((64:Nat):Int))):=by
  have:=peek_fn w kp s r.z pv ov h.rd hz
  rwa [c1] at this
 have HC:Hid (∀ X:World,Fr NoB w X → Calls prog 96 #[.pointer (some ⟨kp,0,none⟩),.int .u8 ((64:Nat):Int),.int .i64 ((11:Nat):Int)] X fun x w'=>PartSays kp base s (rOpen s 64 11 r) X x w'):=fun X hX=>opening_fn X kp base s r pv ov (h.no hX) hC hz (Nat.le_trans hb hX.size) hl hlo 64 11 (by decide) rfl
 have HN:Hid (∀ X:World,CS 90 #[.int .u8 ((64:Nat):Int)] X (.bool false)):=fun X=>isNumber_fn X 64
 have HB:Hid (∀ X:World,CS 92 #[.int .u8 ((64:Nat):Int)] X (.bool false)):=fun X=>isBox_fn X 64
 clear hE hJ
 go_enter func65,ntmps65
 go_wp2_with (first | (go_at_call 89;refine HPk.out.mono ?_;rintro x w1 ⟨rfl,hF1⟩) | (go_at_call 90;refine sameC (HN.out _) ?_) | (go_at_call 92;refine sameC (HB.out _) ?_) | (go_at_call 96;refine (HC.out _ hF1).mono ?_;rintro x w2 ⟨rfl,⟨pv2,ov2,hRP⟩,hF2⟩))
 go_end0
 exact ⟨rfl,⟨pv2,ov2,hRP⟩,hF1.of_no.trans hF2⟩
theorem part_close (w:World) (kp base:Nat) (s:ByteArray) (r:Rs) (pv ov:Value) (h:RdP w kp base s r pv ov (cloL r.P)) (hz:Zb s r.z) (hb:base ≤ w.heap.size) (hJ:RJ s r) (hlt:r.z.1 < s.size) (c1:pk s r.z = 125) :
  Calls prog 65 #[.pointer (some ⟨kp,0,none⟩)] w fun x w'=>PartSays kp base s (rPart s r) w x w':=by
 have hC:=rj_zero hJ
 have hl:r.P.length ≤ 90001:=by have:=hJ.pl;have:=hz.n;omega
 have hlo:r.O.length ≤ 90001:=by have:=hJ.o9;omega
 have hE:rPart s r = rClose s r:=by unfold rPart;rw [c1];rw [if_neg (by decide),if_neg (by decide),if_neg (by decide),if_neg (by decide),if_neg (by decide),if_neg (by decide),if_pos rfl]
 rw [hE]
 have HPk:Hid (CR 89 #[.pointer (some ⟨kp,0,none⟩)] w (.int .u8 ((125:Nat):Int))):=by
  have:=peek_fn w kp s r.z pv ov h.rd hz
  rwa [c1] at this
 have HC:Hid (∀ X:World,Fr NoB w X → Calls prog 97 #[.pointer (some ⟨kp,0,none⟩)] X fun x w'=>PartSays kp base s (rClose s r) X x w'):=fun X hX=>closing_fn X kp base s r pv ov (h.no hX) hC hz (Nat.le_trans hb hX.size) hl hlo (fun o ho=>(hJ.ho o ho).1)
 have HN:Hid (∀ X:World,CS 90 #[.int .u8 ((125:Nat):Int)] X (.bool false)):=fun X=>isNumber_fn X 125
 have HB:Hid (∀ X:World,CS 92 #[.int .u8 ((125:Nat):Int)] X (.bool false)):=fun X=>isBox_fn X 125
 clear hE hJ
 go_enter func65,ntmps65
 go_wp2_with (first | (go_at_call 89;refine HPk.out.mono ?_;rintro x w1 ⟨rfl,hF1⟩) | (go_at_call 90;refine sameC (HN.out _) ?_) | (go_at_call 92;refine sameC (HB.out _) ?_) | (go_at_call 97;refine (HC.out _ hF1).mono ?_;rintro x w2 ⟨rfl,⟨pv2,ov2,hRP⟩,hF2⟩))
 go_end0
 exact ⟨rfl,⟨pv2,ov2,hRP⟩,hF1.of_no.trans hF2⟩
theorem part_none (w:World) (kp base:Nat) (s:ByteArray) (r:Rs) (pv ov:Value) (h:RdP w kp base s r pv ov (cloL r.P)) (hz:Zb s r.z) (hb:base ≤ w.heap.size) (hJ:RJ s r) (hlt:r.z.1 < s.size) (c1:smallN (pk s r.z) = false) (c2:greatN (pk s r.z) = false) (c3:pk s r.z ≠ 126) (c4:pk s r.z ≠ 33) (c5:pk s r.z ≠ 63) (c6:pk s r.z ≠ 64) (c7:pk s r.z ≠ 125) :
  Calls prog 65 #[.pointer (some ⟨kp,0,none⟩)] w fun x w'=>PartSays kp base s (rPart s r) w x w':=by
 have hC:=rj_zero hJ
 have hl:r.P.length ≤ 90001:=by have:=hJ.pl;have:=hz.n;omega
 have hlo:r.O.length ≤ 90001:=by have:=hJ.o9;omega
 have hE:rPart s r = ⟨rf 2 r.z,r.P,r.O⟩:=by unfold rPart;rw [if_neg (by rw [c1];simp),if_neg (by rw [c2];simp),if_neg c3,if_neg c4,if_neg c5,if_neg c6,if_neg c7]
 rw [hE]
 have HPk:Hid (CR 89 #[.pointer (some ⟨kp,0,none⟩)] w (.int .u8 (pk s r.z:Int))):=by
  have:=peek_fn w kp s r.z pv ov h.rd hz
  exact this
 have HC:Hid (∀ X:World,Fr NoB w X → Calls prog 66 #[.pointer (some ⟨kp,0,none⟩),.int .i64 ((2:Nat):Int)] X fun x w'=>x = .returned (.tuple #[]) ∧ Rd w' kp s (rf 2 r.z) pv ov ∧ Fr (OneB kp) X w'):=fun X hX=>refuse_fn X kp s r.z pv ov (h.no hX).rd 2
 have HN:Hid _:=fun X=>isNumber_fn X (pk s r.z)
 rw [c1] at HN
 have HB:Hid _:=fun X=>isBox_fn X (pk s r.z)
 rw [c2] at HB
 have b3:((pk s r.z:Int) == 126) = false:=bF (by omega)
 have b4:((pk s r.z:Int) == 33) = false:=bF (by omega)
 have b5:((pk s r.z:Int) == 63) = false:=bF (by omega)
 have b6:((pk s r.z:Int) == 64) = false:=bF (by omega)
 have b7:((pk s r.z:Int) == 125) = false:=bF (by omega)
 have HR:Hid _:=h
 clear hE hJ
 go_enter func65,ntmps65
 go_wp2_with (first | (go_at_call 89;refine HPk.out.mono ?_;rintro x w1 ⟨rfl,hF1⟩) | (go_at_call 90;refine sameC (HN.out _) ?_) | (go_at_call 92;refine sameC (HB.out _) ?_) | (go_at_call 66;refine (HC.out _ hF1).mono ?_;rintro x w2 ⟨rfl,hR2,hF2⟩))
 go_end0
 exact ⟨rfl,⟨pv,ov,(h.no hF1).step hF2 hR2⟩,hF1.of_no.trans (hF2.mono (fun k _ e=>.inl e))⟩
theorem part_fn (w:World) (kp base:Nat) (s:ByteArray) (r:Rs) (pv ov:Value) (h:RdP w kp base s r pv ov (cloL r.P)) (hz:Zb s r.z) (hb:base ≤ w.heap.size) (hJ:RJ s r) (hlt:r.z.1 < s.size) :
  Calls prog 65 #[.pointer (some ⟨kp,0,none⟩)] w fun x w'=>PartSays kp base s (rPart s r) w x w':=by
 cases c1:smallN (pk s r.z)
 ·cases c2:greatN (pk s r.z)
  ·by_cases c3:pk s r.z = 126
   ·exact part_end w kp base s r pv ov h hz hb hJ hlt c3
   ·by_cases c4:pk s r.z = 33
    ·exact part_print w kp base s r pv ov h hz hb hJ hlt c4
    ·by_cases c5:pk s r.z = 63
     ·exact part_if w kp base s r pv ov h hz hb hJ hlt c5
     ·by_cases c6:pk s r.z = 64
      ·exact part_loop w kp base s r pv ov h hz hb hJ hlt c6
      ·by_cases c7:pk s r.z = 125
       ·exact part_close w kp base s r pv ov h hz hb hJ hlt c7
       ·exact part_none w kp base s r pv ov h hz hb hJ hlt c1 c2 c3 c4 c5 c6 c7
  ·exact part_great w kp base s r pv ov h hz hb hJ hlt c1 c2
 ·exact part_small w kp base s r pv ov h hz hb hJ hlt c1
theorem first_zero (w:World) (pc ga ac:Nat) (ao:Option Addr) :
  CR 51 #[.slice ao 0 pc,.slice (some ⟨ga,0,none⟩) 0 ac] w (.tuple #[.int .i64 0,.bool false]):=by
 go_enter func51,ntmps51
 go_wp2
 go_loop [6] (fun t=>t = .int .i64 0) (fun _=>0)
 case atStart=>rfl
 case round =>
  subst hrel
  go_wp2
  go_ret2
  exact ⟨rfl,Fr.refl _ _⟩
theorem devCheck_fn (w:World) (s:ByteArray) (hs:s.size ≤ 9223372036854775807) (HPart:s.size ≤ 400 → PartIs s) :
  CR 30 #[.string s] w (.tuple #[.int .i64 ((checkN s).1:Nat),.int .i64 (checkN s).2]):=by
 by_cases h4:400 < s.size
 ·have hc:checkN s = (1,0):=by unfold checkN;rw [if_pos h4]
  rw [hc]
  clear hc HPart
  go_enter func30,ntmps30
  go_wp2
  go_ret2
  exact ⟨rfl,Fr.refl _ _⟩
 ·have h9:s.size ≤ 90000:=by omega
  have HRd:Hid (∀ X:World,Calls prog 49 #[.string s] X fun x w'=>ReadSays s X x w'):=fun X=>read_fn X s h9 (HPart (by omega))
  clear HPart
  have hck:checkN s = if (run s [(83,true)] 0 0).1 ≠ 0 then ((run s [(83,true)] 0 0).1,((run s [(83,true)] 0 0).2:Int)) else if 0 ≤ misT s then (4,misT s) else (0,0):=by unfold checkN;rw [if_neg h4]
  have Hck:Hid _:=hck
  clear hck
  generalize hcc:checkN s = cc at *
  clear hcc
  go_enter func30,ntmps30
  go_wp2_with fail
  refine (HRd.out _).mono ?_
  rintro x w1 ⟨n,hst,hF1,hor⟩
  have hrun:=run_told h9 n hst
  rcases hor with ⟨hne,rfl⟩ | ⟨ht,hz,hO,ao,cap,rfl,hrow,hgl⟩
  ·have HE:Hid (cc = ((told (rIter s n r0)).1,((told (rIter s n r0)).2:Int))):=by
    show cc = _
    rw [Hck.out,hrun,if_pos hne]
   have b1:(((told (rIter s n r0)).1:Int) != 0) = true:=bne_iff_ne.2 (by omega)
   generalize told (rIter s n r0) = tt at *
   clear hrun hst hne Hck HRd
   go_wp2
   go_ret2
   rw [HE.out]
   exact ⟨rfl,hF1⟩
  ·have hl:¬ (rIter s n r0).z.1 < s.size:=by
    rcases hst with q | q
    ·exact absurd hz q
    ·exact q
   have hseg:=seg_told h9 n hz hl hO
   have hJ:=rj_iter h9 n (rj0 s)
   have HCC:Hid (cc = if 0 ≤ misT s then (4,misT s) else (0,0)):=by
    show cc = _
    rw [Hck.out,hrun,ht,if_neg (by simp)]
   have hn:(rIter s n r0).P.length ≤ 100000:=by have:=hJ.pl;have h5:(rIter s n r0).z.1 ≤ s.size:=hJ.hin;omega
   have hfl:=hJ.fl
   generalize (rIter s n r0).P = P at *
   have HFd:Hid (∀ X:World,Fr NoB w1 X → Calls prog 50 #[.slice ao P.length cap] X fun e w'=>FindSays (pOf P) s P.length X e w'):=fun X hX=>find_fn X P.length cap ao (pOf P) (cloL P) s hn hfl (hrow.no hX) hseg (fun g e=>Nat.lt_of_lt_of_le (hgl g e) hX.size)
   have HFl:Hid (FlatOk (pOf P) P.length):=hfl
   have Hrow:Hid _:=hrow
   clear hrun hst Hck HRd ht hz hO hl hseg hJ hfl hrow hgl
   go_wp2_with fail
   refine (HFd.out _ (Fr.refl _ _)).mono ?_
   rintro x w2 ⟨ga,A,B,rfl,hA,hsg,hF2⟩
   have hmis:misT s = scan (pOf P) A 0 P.length:=scan_mis hsg
   have HFs:Hid (CR 51 #[.slice ao P.length cap,.slice (some ⟨ga,0,none⟩) P.length P.length] w2 (firstV (misT s))):=by
    rw [hmis]
    by_cases q:P.length = 0
    ·have hs0:scan (pOf P) A 0 P.length = -1:=by rw [q];rfl
     rw [hs0,firstV_neg (by omega),q]
     exact first_zero w2 cap ga 0 ao
    ·exact first_fn w2 P.length cap ga P.length ao (pOf P) (cloL P) A B hn HFl.out (Hrow.out.no hF2) hA (World.block_lt_of_cell? w2 ⟨ga,0 * 2,none⟩ (hA.a 0 (by omega)))
   clear hmis hsg hA
   generalize misT s = M at *
   by_cases hM:0 ≤ M
   ·rw [firstV_pos hM] at HFs
    have HE:Hid (cc = (4,M)):=by show cc = _;rw [HCC.out,if_pos hM]
    clear hM HCC
    go_wp2_with fail
    refine Calls.mono HFs.out ?_
    rintro x w3 ⟨rfl,hF3⟩
    go_wp2
    go_ret2
    rw [HE.out]
    exact ⟨rfl,(hF1.trans hF2).trans hF3⟩
   ·rw [firstV_neg hM] at HFs
    have HE:Hid (cc = (0,0)):=by show cc = _;rw [HCC.out,if_neg hM]
    clear hM HCC
    go_wp2_with fail
    refine Calls.mono HFs.out ?_
    rintro x w3 ⟨rfl,hF3⟩
    go_wp2
    go_ret2
    rw [HE.out]
    exact ⟨rfl,(hF1.trans hF2).trans hF3⟩
theorem checks_any (w:World) (s:ByteArray) (hs:s.size ≤ 9223372036854775807) (HPart:s.size ≤ 400 → PartIs s) :
  CR 11 #[.string s] w (.bool true):=by
 have H1:Hid _:=fun X=>devCheck_fn X s hs HPart
 have H2:Hid _:=fun X=>refCheck_fn X s hs
 generalize checkN s = cc at *
 obtain ⟨a,b⟩:=cc
 simp only [] at H1 H2
 clear HPart
 go_enter func11,ntmps11
 go_wp2_with (first | (go_at_call 30;refine (H1.out _).mono ?_;rintro x w1 ⟨rfl,hF1⟩) | (go_at_call 31;refine (H2.out _).mono ?_;rintro x w2 ⟨rfl,hF2⟩))
 go_ret
 exact ⟨by simp,hF1.trans hF2⟩
theorem partIs2 (s:ByteArray) (hs:s.size ≤ 400):PartIs s:=fun w kp base r pv ov h hz hb hJ hlt=>part_fn w kp base s r pv ov h hz hb hJ hlt
theorem dplay_bad (w:World) (s:ByteArray) (n:Int) (hs:s.size ≤ 9223372036854775807) (hc:(checkN s).1 ≠ 0) :
  CR 32 #[.string s,.int .i64 n] w (.tuple #[out0,.int .i64 ((checkN s).1:Int)]):=by
 have HC:Hid _:=fun X=>devCheck_fn X s hs (partIs2 s)
 have b1:(((checkN s).1:Int) != 0) = true:=bne_iff_ne.2 (by omega)
 generalize (checkN s).1 = k at *
 generalize (checkN s).2 = p at *
 clear hc
 have HO:Hid _:=OutAt.new w 71 (.int .i64 0) (.string ⟨#[]⟩) (.int .i64 0) (.int .i64 0)
 have HF0:Hid (Fr NoB w (w.alloc (.cells #[.int .i64 0,.string ⟨#[]⟩,.int .i64 0,.int .i64 0] 71))):=(Fr.refl _ _).alloc _
 go_enter func32,ntmps32
 go_upto_region 1 with fail
 generalize (w.alloc _) = W0 at *
 go_wp2_with (go_at_call 30;refine (HC.out _).mono ?_;rintro e w1 ⟨rfl,hF1⟩;have HO1:Hid _:=HO.out.fr hF1 id;obtain ⟨c0,c1,c2,c3,hf⟩:=HO1.out;have f0:=hf 0;have f1:=hf 1;have f2:=hf 2;have f3:=hf 3;clear hf)
 obtain ⟨k0,k1,k2,k3,kf⟩:=HO1.out.put (u0:=.int .i64 0) (u1:=.string ⟨#[]⟩) (u2:=.int .i64 0) (u3:=.int .i64 0)
 exact bodyPost_ret (v:=.tuple #[out0,.int .i64 k]) (by simp [results,results32,go_sem,k0,k1,k2,k3,out0]) rfl ⟨rfl,(HF0.out.trans hF1).put4 (fun q=>absurd q (by omega)) _ _ _ _⟩
theorem read_ok (w:World) (s:ByteArray) (hc:checkN s = (0,0)) :
  Calls prog 49 #[.string s] w fun e w'=>∃ ao np cap,e = .returned (.tuple #[.slice ao np cap,.int .i64 0,.int .i64 0]) ∧ Hid (Fr NoB w w' ∧ ∃ p C,Told s p C np ∧ PartRow w' ao np p C ∧ ∀ g,ao = some ⟨g,0,none⟩ → g < w'.heap.size):=by
 obtain ⟨h4,hpr,hm⟩:=check_ok hc
 refine (read_fn w s (by omega) (partIs2 s h4)).mono ?_
 rintro e w1 ⟨n,hst,hF1,hor⟩
 have hrun:=run_told (by omega) n hst
 have h00:(run s [(83,true)] 0 0).1 = 0:=by
  have hc2:=hc
  unfold checkN at hc2
  rw [if_neg (by omega)] at hc2
  by_cases q:(run s [(83,true)] 0 0).1 ≠ 0
  ·rw [if_pos q] at hc2
   exact absurd (congrArg Prod.fst hc2) q
  ·omega
 rcases hor with ⟨hne,rfl⟩ | ⟨ht,hz,hO,ao,cap,rfl,hrow,hgl⟩
 ·rw [hrun] at h00
  exact absurd h00 hne
 ·have hl:¬ (rIter s n r0).z.1 < s.size:=by
   rcases hst with q | q
   ·exact absurd hz q
   ·exact q
  exact ⟨ao,_,cap,rfl,⟨hF1,_,_,told_of h4 n hz hl hO,hrow,hgl⟩⟩
theorem dplay_any (w:World) (s:ByteArray) (n:Int) (v:Value) (ev:Int) (hs:s.size ≤ 400) (hc:checkN s = (0,0))
  (HP:∀ (W:World) (ao:Option Addr) (np cap:Nat) (p:Nat → Pt) (C:Nat → Nat),Fr NoB w W → Told s p C np → PartRow W ao np p C → (∀ g,ao = some ⟨g,0,none⟩ → g < W.heap.size) → CR 54 #[.slice ao np cap,.int .i64 n] W (.tuple #[v,.int .i64 ev]))
  (hv:∃ a b c d,v = .agg #[.int .i64 a,.string b,.int .i64 c,.int .i64 d]) :
  CR 32 #[.string s,.int .i64 n] w (.tuple #[v,.int .i64 ev]):=by
 have HC:Hid _:=fun X=>devCheck_fn X s (by omega) (partIs2 s)
 rw [hc] at HC
 have HRd:Hid (∀ X,_):=fun X=>read_ok X s hc
 have HPl:Hid _:=HP
 have HO:Hid _:=OutAt.new w 71 (.int .i64 0) (.string ⟨#[]⟩) (.int .i64 0) (.int .i64 0)
 have HF0:Hid (Fr NoB w (w.alloc (.cells #[.int .i64 0,.string ⟨#[]⟩,.int .i64 0,.int .i64 0] 71))):=(Fr.refl _ _).alloc _
 obtain ⟨a,b,c,d,rfl⟩:=hv
 clear hc HP hs
 go_enter func32,ntmps32
 go_upto_region 1 with fail
 generalize (w.alloc _) = W0 at *
 go_upto_region 5 with (first | (go_at_call 30;refine (HC.out _).mono ?_;rintro e w1 ⟨rfl,hF1⟩) | (go_at_call 49;refine (HRd.out _).mono ?_;rintro e w2 ⟨ao,np,cap,rfl,HX⟩))
 obtain ⟨hF2,p,C,hT,hrow,hgl⟩:=HX.out
 have HPw:Hid _:=HPl.out w2 ao np cap p C ((HF0.out.trans hF1).trans hF2) hT hrow hgl
 have HO2:Hid _:=(HO.out.fr hF1 id).fr hF2 id
 have HF2:Hid (Fr NoB w w2):=(HF0.out.trans hF1).trans hF2
 clear HX hT hrow hgl HPl hF1 hF2
 go_wp2_with (go_at_call 54;refine Calls.mono HPw.out ?_;rintro e w3 ⟨rfl,hF3⟩;have HO3:Hid _:=HO2.out.fr hF3 id;obtain ⟨c0,c1,c2,c3,hf⟩:=HO3.out;have f0:=hf 0;have f1:=hf 1;have f2:=hf 2;have f3:=hf 3;clear hf)
 obtain ⟨k0,k1,k2,k3,kf⟩:=HO3.out.put (u0:=.int .i64 a) (u1:=.string b) (u2:=.int .i64 c) (u3:=.int .i64 d)
 exact bodyPost_ret (v:=.tuple #[.agg #[.int .i64 a,.string b,.int .i64 c,.int .i64 d],.int .i64 ev]) (by simp [results,results32,go_sem,k0,k1,k2,k3]) rfl ⟨rfl,(HF2.out.trans hF3).put4 (fun q=>absurd q (by omega)) _ _ _ _⟩
theorem alike_fn (w:World) (a c d:Int) (b:ByteArray):CR 34 #[.agg #[.int .i64 a,.string b,.int .i64 c,.int .i64 d],.agg #[.int .i64 a,.string b,.int .i64 c,.int .i64 d]] w (.bool true):=by
 go_enter func34,ntmps34
 go_wp2
 go_ret
 exact ⟨by simp,by repeat (first | exact Fr.refl _ _ | refine Fr.drewN ?_ _ | refine Fr.drew ?_ | refine Fr.alloc ?_ _)⟩
theorem plays_walk (w:World) (s:ByteArray) (n a c d ev:Int) (b:ByteArray)
  (H1:∀ W,Fr NoB w W → CR 32 #[.string s,.int .i64 n] W (.tuple #[.agg #[.int .i64 a,.string b,.int .i64 c,.int .i64 d],.int .i64 ev]))
  (H2:∀ W,Fr NoB w W → CR 33 #[.string s,.int .i64 n] W (.tuple #[.agg #[.int .i64 a,.string b,.int .i64 c,.int .i64 d],.int .i64 ev])) :
  CR 12 #[.string s,.int .i64 n] w (.bool true):=by
 have HA:Hid _:=H1
 have HB:Hid _:=H2
 have HK:Hid (∀ W,_):=fun W=>alike_fn W a c d b
 clear H1 H2
 go_enter func12,ntmps12
 go_upto_region 2 with (go_at_call 32;refine (HA.out _ (Fr.refl _ _)).mono ?_;rintro e w1 ⟨rfl,hF1⟩)
 have hO:=OutAt.new w1 71 (.int .i64 a) (.string b) (.int .i64 c) (.int .i64 d)
 have HO:Hid _:=hO
 have hFa:Fr NoB w (w1.alloc (.cells #[.int .i64 a,.string b,.int .i64 c,.int .i64 d] 71)):=hF1.alloc _
 clear hO hF1
 generalize (w1.alloc _) = W1 at *
 generalize w1.heap.size = o1 at *
 go_upto_region 3 with (go_at_call 33;refine (HB.out _ hFa).mono ?_;rintro e w2 ⟨rfl,hF2⟩)
 have hO2:=OutAt.new w2 71 (.int .i64 a) (.string b) (.int .i64 c) (.int .i64 d)
 have HO2:Hid _:=hO2
 have hFb:Fr NoB w2 (w2.alloc (.cells #[.int .i64 a,.string b,.int .i64 c,.int .i64 d] 71)):=(Fr.refl _ _).alloc _
 have HO1:Hid _:=(HO.out.fr hF2 id).fr hFb id
 have hFc:=(hFa.trans hF2).trans hFb
 clear hO2 hF2 hFa hFb
 generalize (w2.alloc _) = W2 at *
 generalize w2.heap.size = o2 at *
 obtain ⟨c0,c1,c2,c3,_⟩:=HO1.out
 obtain ⟨d0,d1,d2,d3,_⟩:=HO2.out
 go_wp2_with (go_at_call 34;refine (HK.out _).mono ?_;rintro e w3 ⟨rfl,hF3⟩)
 go_ret
 exact ⟨by simp,hFc.trans hF3⟩
theorem plays_any (w:World) (s:ByteArray) (n:Int) (hs:s.size ≤ 9223372036854775807) (htab:∀ W,Fr NoB w W → TabOk W) :
  CR 12 #[.string s,.int .i64 n] w (.bool true):=by
 by_cases hc:(checkN s).1 ≠ 0
 ·exact plays_walk w s n 0 0 0 _ ⟨#[]⟩ (fun W _=>dplay_bad W s n hs hc) (fun W _=>refPlay_bad W s n hs hc)
 ·have hc0:checkN s = (0,0):=by
   have h0:(checkN s).1 = 0:=by omega
   unfold checkN at h0 ⊢
   by_cases h4:400 < s.size
   ·rw [if_pos h4] at h0;cases h0
   ·rw [if_neg h4] at h0 ⊢
    by_cases q:(run s [(83,true)] 0 0).1 ≠ 0
    ·rw [if_pos q] at h0;exact absurd h0 q
    ·rw [if_neg q] at h0 ⊢
     by_cases hm:0 ≤ misT s
     ·rw [if_pos hm] at h0;cases h0
     ·rw [if_neg hm]
  obtain ⟨h4,_,_⟩:=check_ok hc0
  by_cases hn:n < 0 ∨ 5000 < n
  ·exact plays_walk w s n 0 0 0 5 ⟨#[]⟩ (fun W hW=>dplay_any W s n out0 5 h4 hc0 (fun W2 ao np cap p C _ _ _ _=>rplay_arg W2 ao np cap n hn) ⟨_,_,_,_,rfl⟩) (fun W _=>refPlay_arg W s n h4 hc0 hn)
  ·obtain ⟨k,rfl⟩:∃ k:Nat,n = (k:Int):=⟨n.toNat,by omega⟩
   have hk:k ≤ 5000:=by omega
   obtain ⟨σ,b,hE⟩:=Ex.total cP k (pgN s (s.size + 1) 0 s.size) (st0 k) (Nat.le_refl _)
   refine plays_walk w s k _ _ _ 0 _ (fun W hW=>dplay_any W s k (outP σ) 0 h4 hc0 (fun W2 ao np cap p C hW2 hT hrow hgl=>?_) ⟨_,_,_,_,rfl⟩) (fun W _=>refPlay_ok W s k h4 hc0 hk σ ⟨b,hE⟩)
   obtain ⟨σ',τ,m,⟨b',hE'⟩,hR,h44,ho⟩:=plays_end hc0 hT k
   have e1:=(hE.det hE').1
   subst e1
   rw [← ho]
   exact rplay_ok W2 ao np cap k m p C τ hk hrow hgl hT.fl (fun i _=>hT.cl i) (by have:=hT.nl;omega) hT.sg hR h44 (fun W3 hW3=>htab W3 ((hW.trans hW2).trans hW3))
end Go.Proofs.YthcjcjfgdgnljabGreatDoor
