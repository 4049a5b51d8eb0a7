import Derived.Test.YthcjcjfgdgnljabGreatDoorGRunE
set_option linter.unusedVariables false
set_option maxHeartbeats 4000000
set_option maxRecDepth 8000
open Go.Proofs.Tryz
namespace Go.Proofs.YthcjcjfgdgnljabGreatDoor
open Go.RowKit
section
theorem RunAt.setAt {w:World} {rp:Nat} {s:ByteArray} {x:Rn} (h:RunAt w rp s x) {k:Nat} (hk:k < 26) (v:Int):RunAt (w.setCell ⟨rp,54 + k,none⟩ (.int .i64 v)) rp s { x with at_:=updI x.at_ k v } :=
 ⟨cell_at h.cs (by omega),fun j hj=>cell_at (h.cn j hj) (by omega),fun j hj=>cell_at (h.cw j hj) (by omega),
  cell_at h.ch (by omega),fun j hj=>by
   by_cases e:j = k
   ·subst e;show _ = some (Value.int .i64 (updI x.at_ j v j));rw [show updI x.at_ j v j = v by simp [updI]];exact cell_same (h.ca j hj)
   ·show _ = some (Value.int .i64 (updI x.at_ k v j));rw [show updI x.at_ k v j = x.at_ j by simp [updI,e]];exact cell_at (h.ca j hj) (by omega),fun j hj=>cell_at (h.cl j hj) (by omega),
  cell_at h.cf (by omega),cell_at h.co (by omega),cell_at h.ct (by omega),cell_at h.cu (by omega),cell_at h.cp (by omega),fun o=>by rw [World.frozen?_setCell];exact h.fz o⟩
theorem RunAt.setLen {w:World} {rp:Nat} {s:ByteArray} {x:Rn} (h:RunAt w rp s x) {k:Nat} (hk:k < 26) (v:Int):RunAt (w.setCell ⟨rp,80 + k,none⟩ (.int .i64 v)) rp s { x with len:=updI x.len k v } :=
 ⟨cell_at h.cs (by omega),fun j hj=>cell_at (h.cn j hj) (by omega),fun j hj=>cell_at (h.cw j hj) (by omega),
  cell_at h.ch (by omega),fun j hj=>cell_at (h.ca j hj) (by omega),fun j hj=>by
   by_cases e:j = k
   ·subst e;show _ = some (Value.int .i64 (updI x.len j v j));rw [show updI x.len j v j = v by simp [updI]];exact cell_same (h.cl j hj)
   ·show _ = some (Value.int .i64 (updI x.len k v j));rw [show updI x.len k v j = x.len j by simp [updI,e]];exact cell_at (h.cl j hj) (by omega),
  cell_at h.cf (by omega),cell_at h.co (by omega),cell_at h.ct (by omega),cell_at h.cu (by omega),cell_at h.cp (by omega),fun o=>by rw [World.frozen?_setCell];exact h.fz o⟩
theorem PlayAt.perm {w w':World} {rp base:Nat} {s:ByteArray} {x x':Rn} {bx bx':Nat → List Int} {blk:Nat → Nat} (h:PlayAt w rp base s x bx blk) (hF:Fr (OneB rp) w w') (hR:RunAt w' rp s x') (h1:x'.hv = x.hv) (q:Nat → Nat)
  (he:∀ k,k < 26 → bx' k = [] → x'.wv k = .slice none 0 0) (hs:∀ k,k < 26 → bx' k ≠ [] → q k < 26 ∧ bx' k = bx (q k) ∧ x'.wv k = x.wv (q k))
  (hi:∀ k l,k < 26 → l < 26 → k ≠ l → bx' k ≠ [] → bx' l ≠ [] → q k ≠ q l):PlayAt w' rp base s x' bx' (fun k=>blk (q k)):=by
 have hne:∀ k,k < 26 → bx k ≠ [] → ¬ OneB rp (blk k):=fun k hk hb e=>by
  have:=(h.b k hk hb).1
  have:=h.rb
  unfold OneB at e
  omega
 refine ⟨hR,by rw [h1];exact h.hn,h.rb,he,fun k hk hb=>?_,fun k hk i v hv=>?_,fun k hk hb o=>?_,fun k l hk hl hkl hb1 hb2=>?_,fun k hk hb=>?_,fun k hk=>?_⟩
 ·obtain ⟨a1,a2,a3⟩:=hs k hk hb
  rw [a3,a2]
  exact h.f _ a1 (by rwa [← a2])
 ·obtain ⟨a1,a2,a3⟩:=hs k hk (ne_nil_of_get hv)
  rw [a2] at hv
  exact hF.cell_some (h.c _ a1 i v hv) (hne _ a1 (ne_nil_of_get hv))
 ·obtain ⟨a1,a2,a3⟩:=hs k hk hb
  rw [a2] at hb
  exact (hF.frozen (p:=⟨blk (q k),o,none⟩) (h.b _ a1 hb).2 (hne _ a1 hb)).trans (h.z _ a1 hb o)
 ·obtain ⟨a1,a2,a3⟩:=hs k hk hb1
  obtain ⟨b1,b2,b3⟩:=hs l hl hb2
  exact h.d _ _ a1 b1 (hi k l hk hl hkl hb1 hb2) (by rwa [← a2]) (by rwa [← b2])
 ·obtain ⟨a1,a2,a3⟩:=hs k hk hb
  rw [a2] at hb
  exact ⟨(h.b _ a1 hb).1,Nat.lt_of_lt_of_le (h.b _ a1 hb).2 hF.size⟩
 ·by_cases e:bx' k = []
  ·rw [e];simp
  ·obtain ⟨a1,a2,a3⟩:=hs k hk e
   rw [a2];exact h.n _ a1
section
variable (w:World) (rp base:Nat) (s:ByteArray) (x:Rn) (bx:Nat → List Int) (blk:Nat → Nat)
theorem moves_play_no (h:PlayAt w rp base s x bx blk) (i k l:Nat) (hi:i + 2 < s.size) (hs:s.size ≤ 100000) (hk:k < 26) (hq:s[i].toNat = k + 65) (hl:l < 26) (hq2:s[i + 2].toNat = l + 65) (he:bx l = []) :
  Calls prog 115 #[.pointer (some ⟨rp,0,none⟩),.int .i64 i] w fun e w'=>PlaySays rp base s false { x with status:=4 } bx w e w':=by
 have cs:=h.r.cs
 have HP:Hid (PlayAt w rp base s x bx blk):=h
 have HH:Hid (CS 131 #[.pointer (some ⟨rp,0,none⟩),.int .i64 l] w (.int .i64 0)):=by
  have:=has_play w rp base s x bx blk h l hl
  rwa [he] at this
 clear h
 go_enter func115,ntmps115
 go_wp2_with (first | (go_at_call 131;refine sameC HH.out ?_) | (go_at_call 108;refine (ends_fn _ rp s x HP.out.r 4).mono ?_;rintro e w2 ⟨rfl,hR2,hF2⟩))
 go_ret
 exact ⟨rfl,⟨blk,x.wv,x.at_,x.len,HP.out.own hF2 hR2 rfl rfl⟩,hF2.mono (fun k _ e=>.inl e)⟩
theorem moves_play_same (h:PlayAt w rp base s x bx blk) (i k:Nat) (hi:i + 2 < s.size) (hs:s.size ≤ 100000) (hk:k < 26) (hq:s[i].toNat = k + 65) (hq2:s[i + 2].toNat = k + 65) (he:bx k ≠ []) :
  Calls prog 115 #[.pointer (some ⟨rp,0,none⟩),.int .i64 i] w fun e w'=>PlaySays rp base s true x bx w e w':=by
 have cs:=h.r.cs
 have ch:=h.r.ch
 rw [h.hn] at ch
 have HP:Hid (PlayAt w rp base s x bx blk):=h
 have hl:0 < (bx k).length:=List.length_pos_iff.2 he
 have HH:Hid _:=has_play w rp base s x bx blk h k hk
 generalize (bx k).length = n at *
 clear h he
 go_enter func115,ntmps115
 go_wp2_with (first | (go_at_call 131;refine Calls.mono HH.out ?_;rintro e w1 ⟨rfl,hw⟩;have hw2:=hw.symm;clear hw;subst hw2))
 go_ret
 exact ⟨rfl,⟨blk,x.wv,x.at_,x.len,HP.out⟩,Fr.refl _ _⟩
theorem moves_play_yes (h:PlayAt w rp base s x bx blk) (i k l:Nat) (hi:i + 2 < s.size) (hs:s.size ≤ 100000) (hk:k < 26) (hq:s[i].toNat = k + 65) (hl:l < 26) (hq2:s[i + 2].toNat = l + 65) (hkl:k ≠ l) (he:bx l ≠ []) :
  Calls prog 115 #[.pointer (some ⟨rp,0,none⟩),.int .i64 i] w fun e w'=>PlaySays rp base s true x (updL (updL bx k (bx l)) l []) w e w':=by
 have cs:=h.r.cs
 have ch:=h.r.ch
 rw [h.hn] at ch
 have cw:=h.r.cw l hl
 have hwv:=h.f l hl he
 rw [hwv] at cw
 have HWV:Hid _:=hwv
 clear hwv
 have ca:=h.r.ca l hl
 have cl:=h.r.cl l hl
 have cwk:=h.r.cw k hk
 have cak:=h.r.ca k hk
 have clk:=h.r.cl k hk
 have f1:=h.r.fz (27 + k)
 have f2:=h.r.fz (27 + l)
 have f3:=h.r.fz (54 + k)
 have f4:=h.r.fz (80 + k)
 have f5:=h.r.fz (80 + l)
 have HP:Hid (PlayAt w rp base s x bx blk):=h
 have hln:0 < (bx l).length:=List.length_pos_iff.2 he
 have HH:Hid _:=has_play w rp base s x bx blk h l hl
 have HE:Hid _:=he
 have bkl:((k:Int) == (l:Int)) = false:=bF (by omega)
 generalize hbn:(bx l).length = n at *
 clear h he hbn
 go_enter func115,ntmps115
 go_wp2_with (first | (go_at_call 131;refine Calls.mono HH.out ?_;rintro e w1 ⟨rfl,hw⟩;have hw2:=hw.symm;clear hw;subst hw2))
 go_region
 go_wp2
 go_region
 go_wp2
 go_region
 go_wp2
 go_ret
 have hF:Fr (OneB rp) w (((((w.setCell ⟨rp,27 + k,none⟩ (Value.slice (some ⟨blk l,0,none⟩) n n)).setCell ⟨rp,27 + l,none⟩ (Value.slice none 0 0)).setCell ⟨rp,54 + k,none⟩ (Value.int IntKind.i64 (x.at_ l))).setCell ⟨rp,80 + k,none⟩ (Value.int IntKind.i64 (x.len l))).setCell ⟨rp,80 + l,none⟩ (Value.int IntKind.i64 0)).drew.drew.drew :=
  ((((((((Fr.refl (OneB rp) w).setCell (p:=⟨rp,27 + k,none⟩) (fun _=>rfl) _).setCell (p:=⟨rp,27 + l,none⟩) (fun _=>rfl) _).setCell (p:=⟨rp,54 + k,none⟩) (fun _=>rfl) _).setCell (p:=⟨rp,80 + k,none⟩) (fun _=>rfl) _).setCell (p:=⟨rp,80 + l,none⟩) (fun _=>rfl) _).drew).drew).drew
 have hR:=(((((HP.out.r.setWv hk (Value.slice (some ⟨blk l,0,none⟩) n n)).setWv hl (Value.slice none 0 0)).setAt hk (x.at_ l)).setLen hk (x.len l)).setLen hl 0).no ((((Fr.refl NoB _).drew).drew).drew)
 refine ⟨rfl,⟨_,_,_,_,HP.out.perm hF hR rfl (fun j=>if j = k then l else j) (fun j hj hb=>?_) (fun j hj hb=>?_) (fun j1 j2 hj1 hj2 hjj hb1 hb2=>?_)⟩,hF.mono (fun k _ e=>.inl e)⟩
 ·show updV (updV x.wv k _) l _ j = _
  by_cases e:j = l
  ·subst e;rw [updV_at]
  ·rw [updL_ne _ _ e] at hb
   rw [updV_ne _ _ e]
   by_cases e2:j = k
   ·subst e2;rw [updL_at] at hb;exact absurd hb HE.out
   ·rw [updL_ne _ _ e2] at hb;rw [updV_ne _ _ e2];exact HP.out.e j hj hb
 ·have e:j ≠ l:=fun e=>hb (by subst e;rw [updL_at])
  rw [updL_ne _ _ e]
  show _ ∧ _ ∧ updV (updV x.wv k _) l _ j = _
  rw [updV_ne _ _ e]
  by_cases e2:j = k
  ·subst e2
   rw [updL_at,updV_at,if_pos rfl]
   exact ⟨hl,rfl,HWV.out.symm⟩
  ·rw [updL_ne _ _ e2,updV_ne _ _ e2,if_neg e2]
   exact ⟨hj,rfl,rfl⟩
 ·have e1:j1 ≠ l:=fun e=>hb1 (by subst e;rw [updL_at])
  have e2:j2 ≠ l:=fun e=>hb2 (by subst e;rw [updL_at])
  show (if j1 = k then l else j1) ≠ (if j2 = k then l else j2)
  split <;> split <;> omega
end
end
section
theorem PlayAt.put {w:World} {rp base:Nat} {s:ByteArray} {x:Rn} {bx:Nat → List Int} {blk:Nat → Nat} (h:PlayAt w rp base s x bx blk) {k q:Nat} (hk:k < 26) (hq:q < (bx k).length) (v:Int) :
  PlayAt (w.setCell ⟨blk k,q,none⟩ (.int .i64 v)) rp base s x (updL bx k ((bx k).set q v)) blk:=by
 have hF:=(Fr.refl (OneB (blk k)) w).setCell (p:=⟨blk k,q,none⟩) (fun _=>rfl) (.int .i64 v)
 have hkn:bx k ≠ []:=fun e=>by rw [e] at hq;simp at hq
 have hrb:=h.rb
 have hkb:=(h.b k hk hkn).1
 have hup:∀ j,updL bx k ((bx k).set q v) j ≠ [] → bx j ≠ []:=fun j hj=>by
  by_cases e:j = k
  ·subst e;exact hkn
  ·rwa [updL_ne _ _ e] at hj
 have hlen:∀ j,(updL bx k ((bx k).set q v) j).length = (bx j).length:=fun j=>by
  by_cases e:j = k
  ·subst e;rw [updL_at];simp
  ·rw [updL_ne _ _ e]
 refine ⟨h.r.fr hF (fun e=>by unfold OneB at e;omega),h.hn,h.rb,fun j hj hb=>?_,fun j hj hb=>?_,fun j hj i u hv=>?_,fun j hj hb o=>by rw [World.frozen?_setCell];exact h.z j hj (hup j hb) o,fun i j hi hj hij hb1 hb2=>h.d i j hi hj hij (hup i hb1) (hup j hb2),fun j hj hb=>by rw [setCell_size];exact h.b j hj (hup j hb),fun j hj=>by rw [hlen];exact h.n j hj⟩
 ·have hb2:bx j = []:=List.eq_nil_of_length_eq_zero (by rw [← hlen j,hb];rfl)
  exact h.e j hj hb2
 ·rw [hlen];exact h.f j hj (hup j hb)
 ·by_cases e:j = k
  ·subst e
   rw [updL_at] at hv
   by_cases e2:i = q
   ·subst e2
    rw [List.getElem?_set_self hq] at hv
    obtain ⟨c,hc⟩:∃ c,(bx j)[i]? = some c:=⟨_,List.getElem?_eq_getElem hq⟩
    rw [← Option.some.inj hv]
    exact cell_same (h.c j hj i c hc)
   ·rw [List.getElem?_set_ne (by omega)] at hv
    exact cell_at (h.c j hj i u hv) (by omega)
  ·rw [updL_ne _ _ e] at hv
   exact hF.cell_some (h.c j hj i u hv) (fun e3=>h.d j k hj hk e (ne_nil_of_get hv) hkn e3)
section
variable (w:World) (rp base:Nat) (s:ByteArray) (x:Rn) (bx:Nat → List Int) (blk:Nat → Nat)
theorem store_play_no (h:PlayAt w rp base s x bx blk) (i k:Nat) (hi:i < s.size) (hs:s.size ≤ 100000) (hk:k < 26) (hq:s[i].toNat = k + 65) (he:bx k = []) :
  Calls prog 113 #[.pointer (some ⟨rp,0,none⟩),.int .i64 i] w fun e w'=>PlaySays rp base s false { x with status:=4 } bx w e w':=by
 have cs:=h.r.cs
 have HP:Hid (PlayAt w rp base s x bx blk):=h
 have HH:Hid (CS 131 #[.pointer (some ⟨rp,0,none⟩),.int .i64 k] w (.int .i64 0)):=by
  have:=has_play w rp base s x bx blk h k hk
  rwa [he] at this
 clear h
 go_enter func113,ntmps113
 go_wp2_with (first | (go_at_call 131;refine sameC HH.out ?_) | (go_at_call 108;refine (ends_fn _ rp s x HP.out.r 4).mono ?_;rintro e w2 ⟨rfl,hR2,hF2⟩))
 go_ret
 exact ⟨rfl,⟨blk,x.wv,x.at_,x.len,HP.out.own hF2 hR2 rfl rfl⟩,hF2.mono (fun k _ e=>.inl e)⟩
theorem store_play_out (h:PlayAt w rp base s x bx blk) (i j k q:Nat) (hi:i < s.size) (hs:s.size ≤ 100000) (hk:k < 26) (hq:s[i].toNat = k + 65) (he:bx k ≠ []) (ho:Opnd s (i + 2) j) (hj:j < s.size) (hd:digitN (bt s j) = false) (hv:valN s x.num (i + 2) j = (q:Int)) (hv2:(bx k).length ≤ q) :
  Calls prog 113 #[.pointer (some ⟨rp,0,none⟩),.int .i64 i] w fun e w'=>PlaySays rp base s false { x with status:=1 } bx w e w':=by
 have cs:=h.r.cs
 have HP:Hid (PlayAt w rp base s x bx blk):=h
 have hl:0 < (bx k).length:=List.length_pos_iff.2 he
 have HV:Hid (CR 82 #[.pointer (some ⟨rp,0,none⟩),.int .i64 ((i:Int) + 2)] w (.int .i64 q)):=by
  have:=value_fn w rp s x h.r (i + 2) j ho hj hs hd
  rwa [hv] at this
 have HH:Hid (∀ W,PlayAt W rp base s x bx blk → CS 131 #[.pointer (some ⟨rp,0,none⟩),.int .i64 k] W (.int .i64 ((bx k).length:Int))):=fun W hW=>has_play W rp base s x bx blk hW k hk
 generalize (bx k).length = n at *
 clear h he ho hd hv
 go_enter func113,ntmps113
 go_wp2_with (first | (go_at_call 131;refine Calls.mono (HH.out _ HP.out) ?_;rintro e w1 ⟨rfl,hw⟩;have hw2:=hw.symm;clear hw;subst hw2) | (go_at_call 82;refine HV.out.mono ?_;rintro e w1 ⟨rfl,hF1⟩;have HP1:Hid _:=HP.out.no hF1) | (go_at_call 131;refine Calls.mono (HH.out _ HP1.out) ?_;rintro e w5 ⟨rfl,hw⟩;have hw2:=hw.symm;clear hw;subst hw2) | (go_at_call 108;refine (ends_fn _ rp s x HP1.out.r 1).mono ?_;rintro e w2 ⟨rfl,hR2,hF2⟩))
 go_ret
 exact ⟨rfl,⟨blk,x.wv,x.at_,x.len,HP1.out.own hF2 hR2 rfl rfl⟩,hF1.of_no.trans (hF2.mono (fun k _ e=>.inl e))⟩
theorem store_play_yes (h:PlayAt w rp base s x bx blk) (i j l k q:Nat) (v:Int) (hi:i < s.size) (hs:s.size ≤ 100000) (hk:k < 26) (hq:s[i].toNat = k + 65) (ho:Opnd s (i + 2) j) (hj:j < s.size) (hd:digitN (bt s j) = false) (hv:valN s x.num (i + 2) j = (q:Int)) (hv2:q < (bx k).length)
  (ho2:Opnd s (j + 2) l) (hj2:l < s.size) (hd2:digitN (bt s l) = false) (hu:valN s x.num (j + 2) l = v) :
  Calls prog 113 #[.pointer (some ⟨rp,0,none⟩),.int .i64 i] w fun e w'=>PlaySays rp base s true x (updL bx k ((bx k).set q v)) w e w':=by
 have cs:=h.r.cs
 have ch:=h.r.ch
 rw [h.hn] at ch
 have he:bx k ≠ []:=fun e=>by rw [e] at hv2;simp at hv2
 have cw:=h.r.cw k hk
 rw [h.f k hk he] at cw
 have HP:Hid (PlayAt w rp base s x bx blk):=h
 have hn:=h.n k hk
 have hbk:base ≤ blk k:=(h.b k hk he).1
 obtain ⟨c0,hc0⟩:∃ c,(bx k)[q]? = some c:=⟨_,List.getElem?_eq_getElem hv2⟩
 have cc:=h.c k hk q c0 hc0
 have fz:=h.z k hk he q
 have HV:Hid (CR 82 #[.pointer (some ⟨rp,0,none⟩),.int .i64 ((i:Int) + 2)] w (.int .i64 q)):=by
  have:=value_fn w rp s x h.r (i + 2) j ho hj hs hd
  rwa [hv] at this
 have HO:Hid (∀ W,CS 102 #[.string s,.int .i64 ((i:Int) + 2)] W (.int .i64 j)):=fun W=>bop_fn W s (i + 2) j ho hj hs hd
 have HU:Hid (∀ W,RunAt W rp s x → CR 82 #[.pointer (some ⟨rp,0,none⟩),.int .i64 ((j:Int) + 2)] W (.int .i64 v)):=fun W hW=>by
  have:=value_fn W rp s x hW (j + 2) l ho2 hj2 hs hd2
  rwa [hu] at this
 have HH:Hid (∀ W,PlayAt W rp base s x bx blk → CS 131 #[.pointer (some ⟨rp,0,none⟩),.int .i64 k] W (.int .i64 ((bx k).length:Int))):=fun W hW=>has_play W rp base s x bx blk hW k hk
 have HL:Hid (q < (bx k).length):=hv2
 generalize (bx k).length = n at cw hn HH hv2
 clear h he ho hd hv ho2 hd2 hu hc0
 go_enter func113,ntmps113
 go_wp2_with (first | ((fail_if_success (have:=HP1.out));go_at_call 131;refine Calls.mono (HH.out _ HP.out) ?_;rintro e w1 ⟨rfl,hw⟩;have hw2:=hw.symm;clear hw;subst hw2) | ((fail_if_success (have:=HP1.out));go_at_call 82;refine HV.out.mono ?_;rintro e w1 ⟨rfl,hF1⟩;have HP1:Hid _:=HP.out.no hF1;have cs1:=hF1.cell_some cs id) | (go_at_call 131;refine Calls.mono (HH.out _ HP1.out) ?_;rintro e w5 ⟨rfl,hw⟩;have hw2:=hw.symm;clear hw;subst hw2) | (go_at_call 102;refine sameC (HO.out _) ?_) | (go_at_call 82;refine (HU.out _ HP1.out.r).mono ?_;rintro e w2 ⟨rfl,hF2⟩;have HP2:Hid _:=HP1.out.no hF2;have ch2:=(hF1.trans hF2).cell_some ch id;have cw2:=(hF1.trans hF2).cell_some cw id;have cc2:=(hF1.trans hF2).cell_some cc id;have fz2:w2.frozen? ⟨blk k,q,none⟩ = false:=((hF1.trans hF2).frozen (p:=⟨blk k,q,none⟩) (World.block_lt_of_cell? w _ cc) id).trans fz))
 go_ret
 exact ⟨rfl,⟨blk,x.wv,x.at_,x.len,HP2.out.put hk HL.out v⟩,(hF1.trans hF2).of_no.trans ((Fr.refl _ _).setCell (p:=⟨blk k,q,none⟩) (fun _=>.inr hbk) _)⟩
end
end
section
section
variable (w:World) (rp base:Nat) (s:ByteArray) (x:Rn) (bx:Nat → List Int) (blk:Nat → Nat)
theorem size_play_no (h:PlayAt w rp base s x bx blk) (i k b:Nat) (hi:i + 3 < s.size) (hs:s.size ≤ 100000) (hk:k < 26) (hq:s[i].toNat = k + 97) (h2:s[i + 2].toNat = 35) (hb:b < 26) (h3:s[i + 3].toNat = b + 65) (he:bx b = []) :
  Calls prog 112 #[.pointer (some ⟨rp,0,none⟩),.int .i64 i] w fun e w'=>PlaySays rp base s false { x with status:=4 } bx w e w':=by
 have cs:=h.r.cs
 have HP:Hid (PlayAt w rp base s x bx blk):=h
 have HH:Hid (CS 131 #[.pointer (some ⟨rp,0,none⟩),.int .i64 b] w (.int .i64 0)):=by
  have:=has_play w rp base s x bx blk h b hb
  rwa [he] at this
 clear h
 go_enter func112,ntmps112
 go_wp2_with (first | (go_at_call 131;refine sameC HH.out ?_) | (go_at_call 108;refine (ends_fn _ rp s x HP.out.r 4).mono ?_;rintro e w2 ⟨rfl,hR2,hF2⟩))
 go_ret
 exact ⟨rfl,⟨blk,x.wv,x.at_,x.len,HP.out.own hF2 hR2 rfl rfl⟩,hF2.mono (fun k _ e=>.inl e)⟩
theorem size_play_yes (h:PlayAt w rp base s x bx blk) (i k b:Nat) (hi:i + 3 < s.size) (hs:s.size ≤ 100000) (hk:k < 26) (hq:s[i].toNat = k + 97) (h2:s[i + 2].toNat = 35) (hb:b < 26) (h3:s[i + 3].toNat = b + 65) (he:bx b ≠ []) :
  Calls prog 112 #[.pointer (some ⟨rp,0,none⟩),.int .i64 i] w fun e w'=>PlaySays rp base s true { x with num:=updI x.num k ((bx b).length:Int) } bx w e w':=by
 have cs:=h.r.cs
 have cn:=h.r.cn k hk
 have fz:=h.r.fz (1 + k)
 have HP:Hid (PlayAt w rp base s x bx blk):=h
 have hl:0 < (bx b).length:=List.length_pos_iff.2 he
 have HH:Hid (∀ W,PlayAt W rp base s x bx blk → CS 131 #[.pointer (some ⟨rp,0,none⟩),.int .i64 b] W (.int .i64 ((bx b).length:Int))):=fun W hW=>has_play W rp base s x bx blk hW b hb
 generalize (bx b).length = n at *
 clear h he
 go_enter func112,ntmps112
 go_wp2_with (first | (go_at_call 131;refine sameC (HH.out _ HP.out) ?_))
 go_region_with (go_at_call 131;refine (HH.out _ (HP.out.no (Fr.refl _ _).drew)).mono ?_;rintro e w' ⟨rfl,rfl⟩)
 go_wp2
 go_ret
 have hF:=((Fr.refl (OneB rp) w).setCell (p:=⟨rp,1 + k,none⟩) (fun _=>rfl) (.int .i64 n)).drew
 exact ⟨rfl,⟨blk,x.wv,x.at_,x.len,HP.out.own hF ((HP.out.r.setNum hk n).no (Fr.refl _ _).drew) rfl rfl⟩,hF.mono (fun k _ e=>.inl e)⟩
theorem load_play_no (h:PlayAt w rp base s x bx blk) (i k b:Nat) (hi:i + 2 < s.size) (hs:s.size ≤ 100000) (hk:k < 26) (hq:s[i].toNat = k + 97) (hb:b < 26) (h3:s[i + 2].toNat = b + 65) (he:bx b = []) :
  Calls prog 112 #[.pointer (some ⟨rp,0,none⟩),.int .i64 i] w fun e w'=>PlaySays rp base s false { x with status:=4 } bx w e w':=by
 have cs:=h.r.cs
 have HP:Hid (PlayAt w rp base s x bx blk):=h
 have HH:Hid (CS 131 #[.pointer (some ⟨rp,0,none⟩),.int .i64 b] w (.int .i64 0)):=by
  have:=has_play w rp base s x bx blk h b hb
  rwa [he] at this
 have HG:Hid (∀ W,CS 88 #[.int .u8 ((b:Int) + 65)] W (.bool true)):=fun W=>by
  have:=great_fn W (b + 65) (by omega)
  rwa [show greatN (b + 65) = true by simp [greatN];omega] at this
 clear h
 go_enter func112,ntmps112
 go_wp2_with (first | (go_at_call 88;refine sameC (HG.out _) ?_) | (go_at_call 131;refine sameC HH.out ?_) | (go_at_call 108;refine (ends_fn _ rp s x HP.out.r 4).mono ?_;rintro e w2 ⟨rfl,hR2,hF2⟩))
 go_ret
 exact ⟨rfl,⟨blk,x.wv,x.at_,x.len,HP.out.own hF2 hR2 rfl rfl⟩,hF2.mono (fun k _ e=>.inl e)⟩
end
end
section
section
variable (w:World) (rp base:Nat) (s:ByteArray) (x:Rn) (bx:Nat → List Int) (blk:Nat → Nat)
theorem load_play_out (h:PlayAt w rp base s x bx blk) (i j k b q:Nat) (hi:i + 2 < s.size) (hs:s.size ≤ 100000) (hk:k < 26) (hq:s[i].toNat = k + 97) (hb:b < 26) (h3:s[i + 2].toNat = b + 65) (he:bx b ≠ []) (ho:Opnd s (i + 4) j) (hj:j < s.size) (hd:digitN (bt s j) = false) (hv:valN s x.num (i + 4) j = (q:Int)) (hv2:(bx b).length ≤ q) :
  Calls prog 112 #[.pointer (some ⟨rp,0,none⟩),.int .i64 i] w fun e w'=>PlaySays rp base s false { x with status:=1 } bx w e w':=by
 have cs:=h.r.cs
 have HP:Hid (PlayAt w rp base s x bx blk):=h
 have hl:0 < (bx b).length:=List.length_pos_iff.2 he
 have HV:Hid (CR 82 #[.pointer (some ⟨rp,0,none⟩),.int .i64 ((i:Int) + 4)] w (.int .i64 q)):=by
  have:=value_fn w rp s x h.r (i + 4) j ho hj hs hd
  rwa [hv] at this
 have HH:Hid (∀ W,PlayAt W rp base s x bx blk → CS 131 #[.pointer (some ⟨rp,0,none⟩),.int .i64 b] W (.int .i64 ((bx b).length:Int))):=fun W hW=>has_play W rp base s x bx blk hW b hb
 have HG:Hid (∀ W,CS 88 #[.int .u8 ((b:Int) + 65)] W (.bool true)):=fun W=>by
  have:=great_fn W (b + 65) (by omega)
  rwa [show greatN (b + 65) = true by simp [greatN];omega] at this
 generalize (bx b).length = n at *
 clear h he ho hd hv
 go_enter func112,ntmps112
 go_wp2_with (first | (go_at_call 88;refine sameC (HG.out _) ?_) | ((fail_if_success (have:=HP1.out));go_at_call 131;refine Calls.mono (HH.out _ HP.out) ?_;rintro e w1 ⟨rfl,hw⟩;have hw2:=hw.symm;clear hw;subst hw2) | ((fail_if_success (have:=HP1.out));go_at_call 82;refine HV.out.mono ?_;rintro e w1 ⟨rfl,hF1⟩;have HP1:Hid _:=HP.out.no hF1) | (go_at_call 131;refine Calls.mono (HH.out _ HP1.out) ?_;rintro e w5 ⟨rfl,hw⟩;have hw2:=hw.symm;clear hw;subst hw2) | (go_at_call 108;refine (ends_fn _ rp s x HP1.out.r 1).mono ?_;rintro e w2 ⟨rfl,hR2,hF2⟩))
 go_ret
 exact ⟨rfl,⟨blk,x.wv,x.at_,x.len,HP1.out.own hF2 hR2 rfl rfl⟩,hF1.of_no.trans (hF2.mono (fun k _ e=>.inl e))⟩
theorem load_play_yes (h:PlayAt w rp base s x bx blk) (i j k b q:Nat) (v:Int) (hi:i + 2 < s.size) (hs:s.size ≤ 100000) (hk:k < 26) (hq:s[i].toNat = k + 97) (hb:b < 26) (h3:s[i + 2].toNat = b + 65) (ho:Opnd s (i + 4) j) (hj:j < s.size) (hd:digitN (bt s j) = false) (hv:valN s x.num (i + 4) j = (q:Int)) (hv2:(bx b)[q]? = some v) :
  Calls prog 112 #[.pointer (some ⟨rp,0,none⟩),.int .i64 i] w fun e w'=>PlaySays rp base s true { x with num:=updI x.num k v } bx w e w':=by
 have cs:=h.r.cs
 have cn:=h.r.cn k hk
 have fz:=h.r.fz (1 + k)
 have hrl:=h.r.lt
 have HP:Hid (PlayAt w rp base s x bx blk):=h
 have hl:q < (bx b).length:=(List.getElem?_eq_some_iff.1 hv2).1
 have HV:Hid (CR 82 #[.pointer (some ⟨rp,0,none⟩),.int .i64 ((i:Int) + 4)] w (.int .i64 q)):=by
  have:=value_fn w rp s x h.r (i + 4) j ho hj hs hd
  rwa [hv] at this
 have HH:Hid (∀ W,PlayAt W rp base s x bx blk → CS 131 #[.pointer (some ⟨rp,0,none⟩),.int .i64 b] W (.int .i64 ((bx b).length:Int))):=fun W hW=>has_play W rp base s x bx blk hW b hb
 have HK:Hid (∀ W,PlayAt W rp base s x bx blk → CS 132 #[.pointer (some ⟨rp,0,none⟩),.int .i64 b,.int .i64 q] W (.int .i64 v)):=fun W hW=>look_play W rp base s x bx blk hW b q v hb hv2
 have HG:Hid (∀ W,CS 88 #[.int .u8 ((b:Int) + 65)] W (.bool true)):=fun W=>by
  have:=great_fn W (b + 65) (by omega)
  rwa [show greatN (b + 65) = true by simp [greatN];omega] at this
 generalize (bx b).length = n at *
 clear h ho hd hv hv2
 go_enter func112,ntmps112
 go_wp2_with (first | (go_at_call 88;refine sameC (HG.out _) ?_) | ((fail_if_success (have:=HP1.out));go_at_call 131;refine Calls.mono (HH.out _ HP.out) ?_;rintro e w1 ⟨rfl,hw⟩;have hw2:=hw.symm;clear hw;subst hw2) | ((fail_if_success (have:=HP1.out));go_at_call 82;refine HV.out.mono ?_;rintro e w1 ⟨rfl,hF1⟩;have HP1:Hid _:=HP.out.no hF1;have cn1:=hF1.cell_some cn id;have fz1:w1.frozen? ⟨rp,1 + k,none⟩ = false:=(hF1.frozen (p:=⟨rp,1 + k,none⟩) hrl id).trans fz) | (go_at_call 131;refine Calls.mono (HH.out _ HP1.out) ?_;rintro e w5 ⟨rfl,hw⟩;have hw2:=hw.symm;clear hw;subst hw2))
 go_region_with (go_at_call 132;refine (HK.out _ (HP1.out.no (Fr.refl _ _).drew)).mono ?_;rintro e w' ⟨rfl,rfl⟩)
 go_wp2
 go_ret
 have hF:=((Fr.refl (OneB rp) w1).setCell (p:=⟨rp,1 + k,none⟩) (fun _=>rfl) (.int .i64 v)).drew
 exact ⟨rfl,⟨blk,x.wv,x.at_,x.len,HP1.out.own hF ((HP1.out.r.setNum hk v).no (Fr.refl _ _).drew) rfl rfl⟩,hF1.of_no.trans (hF.mono (fun k _ e=>.inl e))⟩
end
end
end Go.Proofs.YthcjcjfgdgnljabGreatDoor
