import Derived.Test.YthcjcjfgdgnljabGreatDoorGRunP
set_option linter.unusedVariables false
set_option maxHeartbeats 4000000
set_option maxRecDepth 8000
open Go.Proofs.Tryz
namespace Go.Proofs.YthcjcjfgdgnljabGreatDoor
open Go.RowKit
section
structure Rn where
 num:Nat → Int
 wv:Nat → Value
 hv:Value
 at_:Nat → Int
 len:Nat → Int
 left:Int
 status:Int
 tr:ByteArray
 used:Int
 peak:Int
structure RunAt (w:World) (rp:Nat) (s:ByteArray) (x:Rn):Prop where
 cs:w.cell? ⟨rp,0,none⟩ = some (.string s)
 cn:∀ k,k < 26 → w.cell? ⟨rp,1 + k,none⟩ = some (.int .i64 (x.num k))
 cw:∀ k,k < 26 → w.cell? ⟨rp,27 + k,none⟩ = some (x.wv k)
 ch:w.cell? ⟨rp,53,none⟩ = some x.hv
 ca:∀ k,k < 26 → w.cell? ⟨rp,54 + k,none⟩ = some (.int .i64 (x.at_ k))
 cl:∀ k,k < 26 → w.cell? ⟨rp,80 + k,none⟩ = some (.int .i64 (x.len k))
 cf:w.cell? ⟨rp,106,none⟩ = some (.int .i64 x.left)
 co:w.cell? ⟨rp,107,none⟩ = some (.int .i64 x.status)
 ct:w.cell? ⟨rp,108,none⟩ = some (.string x.tr)
 cu:w.cell? ⟨rp,109,none⟩ = some (.int .i64 x.used)
 cp:w.cell? ⟨rp,110,none⟩ = some (.int .i64 x.peak)
 fz:∀ o,w.frozen? ⟨rp,o,none⟩ = false
theorem RunAt.lt {w:World} {rp:Nat} {s:ByteArray} {x:Rn} (h:RunAt w rp s x):rp < w.heap.size:=World.block_lt_of_cell? w _ h.cs
theorem RunAt.fr {S:Nat → Prop} {w w':World} {rp:Nat} {s:ByteArray} {x:Rn} (h:RunAt w rp s x) (hF:Fr S w w') (hS:¬ S rp):RunAt w' rp s x :=
 ⟨hF.cell_some h.cs hS,fun k hk=>hF.cell_some (h.cn k hk) hS,fun k hk=>hF.cell_some (h.cw k hk) hS,hF.cell_some h.ch hS,fun k hk=>hF.cell_some (h.ca k hk) hS,fun k hk=>hF.cell_some (h.cl k hk) hS,
  hF.cell_some h.cf hS,hF.cell_some h.co hS,hF.cell_some h.ct hS,hF.cell_some h.cu hS,hF.cell_some h.cp hS,fun o=>(hF.frozen (p:=⟨rp,o,none⟩) h.lt hS).trans (h.fz o)⟩
theorem RunAt.no {w w':World} {rp:Nat} {s:ByteArray} {x:Rn} (h:RunAt w rp s x) (hF:Fr NoB w w'):RunAt w' rp s x:=h.fr hF id
theorem cell_at {w:World} {b o q:Nat} {u v:Value} (h:w.cell? ⟨b,q,none⟩ = some v) (hne:o ≠ q):(w.setCell ⟨b,o,none⟩ u).cell? ⟨b,q,none⟩ = some v:=(cell_other (.inr hne)).trans h
theorem RunAt.setLeft {w:World} {rp:Nat} {s:ByteArray} {x:Rn} (h:RunAt w rp s x) (v:Int):RunAt (w.setCell ⟨rp,106,none⟩ (.int .i64 v)) rp s { x with left:=v } :=
 ⟨cell_at h.cs (by omega),fun k hk=>cell_at (h.cn k hk) (by omega),fun k hk=>cell_at (h.cw k hk) (by omega),cell_at h.ch (by omega),fun k hk=>cell_at (h.ca k hk) (by omega),fun k hk=>cell_at (h.cl k hk) (by omega),
  cell_same h.cf,cell_at h.co (by omega),cell_at h.ct (by omega),cell_at h.cu (by omega),cell_at h.cp (by omega),fun o=>by rw [World.frozen?_setCell];exact h.fz o⟩
theorem RunAt.setStatus {w:World} {rp:Nat} {s:ByteArray} {x:Rn} (h:RunAt w rp s x) (v:Int):RunAt (w.setCell ⟨rp,107,none⟩ (.int .i64 v)) rp s { x with status:=v } :=
 ⟨cell_at h.cs (by omega),fun k hk=>cell_at (h.cn k hk) (by omega),fun k hk=>cell_at (h.cw k hk) (by omega),cell_at h.ch (by omega),fun k hk=>cell_at (h.ca k hk) (by omega),fun k hk=>cell_at (h.cl k hk) (by omega),
  cell_at h.cf (by omega),cell_same h.co,cell_at h.ct (by omega),cell_at h.cu (by omega),cell_at h.cp (by omega),fun o=>by rw [World.frozen?_setCell];exact h.fz o⟩
theorem RunAt.setTrace {w:World} {rp:Nat} {s:ByteArray} {x:Rn} (h:RunAt w rp s x) (v:ByteArray):RunAt (w.setCell ⟨rp,108,none⟩ (.string v)) rp s { x with tr:=v } :=
 ⟨cell_at h.cs (by omega),fun k hk=>cell_at (h.cn k hk) (by omega),fun k hk=>cell_at (h.cw k hk) (by omega),cell_at h.ch (by omega),fun k hk=>cell_at (h.ca k hk) (by omega),fun k hk=>cell_at (h.cl k hk) (by omega),
  cell_at h.cf (by omega),cell_at h.co (by omega),cell_same h.ct,cell_at h.cu (by omega),cell_at h.cp (by omega),fun o=>by rw [World.frozen?_setCell];exact h.fz o⟩
def updI (f:Nat → Int) (k:Nat) (v:Int):Nat → Int:=fun i=>if i = k then v else f i
def updV (f:Nat → Value) (k:Nat) (v:Value):Nat → Value:=fun i=>if i = k then v else f i
theorem RunAt.setNum {w:World} {rp:Nat} {s:ByteArray} {x:Rn} (h:RunAt w rp s x) {k:Nat} (hk:k < 26) (v:Int):RunAt (w.setCell ⟨rp,1 + k,none⟩ (.int .i64 v)) rp s { x with num:=updI x.num k v } :=
 ⟨cell_at h.cs (by omega),fun j hj=>by
   by_cases e:j = k
   ·subst e;show _ = some (Value.int .i64 (updI x.num j v j));rw [show updI x.num j v j = v by simp [updI]];exact cell_same (h.cn j hj)
   ·show _ = some (Value.int .i64 (updI x.num k v j));rw [show updI x.num k v j = x.num j by simp [updI,e]];exact cell_at (h.cn j hj) (by omega),
  fun j hj=>cell_at (h.cw j hj) (by omega),cell_at h.ch (by omega),fun j hj=>cell_at (h.ca j hj) (by omega),fun j hj=>cell_at (h.cl j hj) (by omega),
  cell_at h.cf (by omega),cell_at h.co (by omega),cell_at h.ct (by omega),cell_at h.cu (by omega),cell_at h.cp (by omega),fun o=>by rw [World.frozen?_setCell];exact h.fz o⟩
section
variable (w:World) (rp:Nat) (s:ByteArray) (x:Rn)
theorem ends_fn (h:RunAt w rp s x) (v:Int) :
  Calls prog 108 #[.pointer (some ⟨rp,0,none⟩),.int .i64 v] w fun e w'=>e = .returned (.bool false) ∧ RunAt w' rp s { x with status:=v } ∧ Fr (OneB rp) w w':=by
 have co:=h.co
 have fz:=h.fz 107
 have HR:Hid (RunAt w rp s x):=h
 clear h
 go_enter func108,ntmps108
 go_wp2
 go_ret
 exact ⟨rfl,HR.out.setStatus v,(Fr.refl (OneB rp) _).setCell (p:=⟨rp,107,none⟩) (fun _=>rfl) _⟩
theorem due_no (h:RunAt w rp s x) (h0:x.left = 0) :
  Calls prog 81 #[.pointer (some ⟨rp,0,none⟩)] w fun e w'=>e = .returned (.bool false) ∧ RunAt w' rp s { x with status:=2 } ∧ Fr (OneB rp) w w':=by
 have cf:=h.cf
 rw [h0] at cf
 have HR:Hid (RunAt w rp s x):=h
 clear h
 go_enter func81,ntmps81
 go_wp2_with (go_at_call 108;refine (ends_fn _ rp s x HR.out 2).mono ?_;rintro e w1 ⟨rfl,hR1,hF1⟩)
 go_ret
 exact ⟨rfl,hR1,hF1⟩
theorem due_yes (h:RunAt w rp s x) (h0:0 < x.left) (h1:x.left ≤ 5000) :
  Calls prog 81 #[.pointer (some ⟨rp,0,none⟩)] w fun e w'=>e = .returned (.bool true) ∧ RunAt w' rp s { x with left:=x.left - 1 } ∧ Fr (OneB rp) w w':=by
 have cf:=h.cf
 have fz:=h.fz 106
 have HR:Hid (RunAt w rp s x):=h
 have b0:(x.left == 0) = false:=bF (by omega)
 clear h
 go_enter func81,ntmps81
 go_wp2
 go_ret
 exact ⟨rfl,HR.out.setLeft (x.left - 1),(Fr.refl (OneB rp) _).setCell (p:=⟨rp,106,none⟩) (fun _=>rfl) _⟩
end
section
variable (w:World) (rp:Nat) (s:ByteArray) (x:Rn)
theorem value_small (h:RunAt w rp s x) (i:Nat) (hi:i < s.size) (hs:s.size ≤ 100000) (hm:smallN s[i].toNat = true) :
  CR 82 #[.pointer (some ⟨rp,0,none⟩),.int .i64 i] w (.int .i64 (x.num (s[i].toNat - 97))):=by
 have cs:=h.cs
 have hk:s[i].toNat - 97 < 26 ∧ s[i].toNat = (s[i].toNat - 97) + 97:=by simp [smallN] at hm;omega
 have cn:=h.cn _ hk.1
 obtain ⟨hk1,hk2⟩:=hk
 have HN:Hid _:=fun X=>small_fn X s[i].toNat (UInt8.toNat_lt _)
 rw [hm] at HN
 generalize hkk:s[i].toNat - 97 = k at *
 rw [hk2] at HN
 clear h hm hkk
 go_enter func82,ntmps82
 go_wp2_with (go_at_call 106;refine sameC (HN.out _) ?_)
 go_quiet (fail)
 go_wp2
 go_ret
 exact ⟨rfl,(Fr.refl _ _).drewN _⟩
theorem value_digits (h:RunAt w rp s x) (i j:Nat) (hij:i < j) (hj3:j ≤ i + 3) (hj:j < s.size) (hs:s.size ≤ 100000) (hd:∀ k,i ≤ k → k < j → digitN (bt s k) = true) (he:digitN (bt s j) = false) :
  CR 82 #[.pointer (some ⟨rp,0,none⟩),.int .i64 i] w (.int .i64 (decN s i (j - i):Int)):=by
 have cs:=h.cs
 have hi:i < s.size:=by omega
 have hsm:smallN s[i].toNat = false:=by
  have:=(digit_in (hd i (Nat.le_refl _) hij)).2.2.2.1
  rwa [bt_in hi] at this
 have HN:Hid _:=fun X=>small_fn X s[i].toNat (UInt8.toNat_lt _)
 rw [hsm] at HN
 have HD:Hid _:=hd
 have HE:Hid _:=he
 clear h hsm hd he
 go_enter func82,ntmps82
 go_wp2_with (go_at_call 106;refine sameC (HN.out _) ?_)
 go_loop [1,5] (fun t u=>∃ k:Nat,i ≤ k ∧ k ≤ j ∧ t = .int .i64 k ∧ u = .int .i64 (decN s i (k - i):Int)) (fun t _=>j - (intOf t).toNat)
 case atStart=>exact ⟨i,Nat.le_refl _,by omega,rfl,by rw [Nat.sub_self];rfl⟩
 case round =>
  obtain ⟨k,hk1,hk2,rfl,rfl⟩:=hrel
  have hkl:k < s.size:=by omega
  have hb:decN s i (k - i) < 1000:=Nat.lt_of_lt_of_le (decN_lt (fun q a b=>HD.out q a (by omega))) (by
   have:k - i ≤ 3:=by omega
   exact Nat.le_trans (Nat.pow_le_pow_right (by decide) this) (by decide))
  by_cases hlt:k < j
  ·have hdk:digitN s[k].toNat = true:=by rw [← bt_in hkl];exact HD.out k hk1 hlt
   have hq:s[k].toNat - 48 < 10 ∧ s[k].toNat = (s[k].toNat - 48) + 48:=by simp [digitN] at hdk;omega
   have HX:Hid (decN s i (k + 1 - i) = 10 * decN s i (k - i) + (s[k].toNat - 48)):=by
    show decN s i (k + 1 - i) = _
    rw [show k + 1 - i = (k - i) + 1 by omega]
    show 10 * decN s i (k - i) + (bt s (i + (k - i)) - 48) = _
    rw [show i + (k - i) = k by omega,bt_in hkl]
   have HDg:Hid _:=fun X=>digit_fn X s[k].toNat (UInt8.toNat_lt _)
   rw [hdk] at HDg
   obtain ⟨hq1,hq2⟩:=hq
   generalize hqq:s[k].toNat - 48 = q at *
   rw [hq2] at HDg
   generalize decN s i (k - i) = dd at *
   clear hdk hqq
   go_wp2_with (go_at_call 109;refine sameC (HDg.out _) ?_)
   go_round
   case rel=>exact ⟨k + 1,by omega,by omega,by go_num,by rw [HX.out];go_num⟩
   case measure=>simp [intOf];omega
  ·have hkj:k = j:=by omega
   subst hkj
   have hdk:digitN s[k].toNat = false:=by rw [← bt_in hkl];exact HE.out
   have HDg:Hid _:=fun X=>digit_fn X s[k].toNat (UInt8.toNat_lt _)
   rw [hdk] at HDg
   go_wp2_with (go_at_call 109;refine sameC (HDg.out _) ?_)
   go_ret
   exact ⟨rfl,Fr.refl _ _⟩
theorem value_fn (h:RunAt w rp s x) (i j:Nat) (ho:Opnd s i j) (hj:j < s.size) (hs:s.size ≤ 100000) (he:digitN (bt s j) = false) :
  CR 82 #[.pointer (some ⟨rp,0,none⟩),.int .i64 i] w (.int .i64 (valN s x.num i j)):=by
 unfold valN
 rcases ho with ⟨hm,rfl⟩ | ⟨h1,h2,h3⟩
 ·have hi:i < s.size:=by omega
  rw [if_pos hm,bt_in hi]
  rw [bt_in hi] at hm
  exact value_small w rp s x h i hi hs hm
 ·rw [if_neg (by rw [(digit_in (h3 i (Nat.le_refl _) h1)).2.2.2.1];simp)]
  exact value_digits w rp s x h i j h1 h2 hj hs h3 he
end
end
def decF:Nat → Nat → List Nat
 | 0,n=>[48 + n % 10]
 | f + 1,n=>if n < 10 then [48 + n % 10] else decF f (n / 10) ++ [48 + n % 10]
theorem bytes_app (a b:Array UInt8):(⟨a⟩:ByteArray) ++ ⟨b⟩ = ⟨a ++ b⟩:=by
 apply ByteArray.ext
 simp
theorem digit_str (n:Nat) (u:World):(convert 128 9 (.slice (some ⟨u.heap.size,0,none⟩) 1 1)).run prog (u.alloc (.cells #[.int .u8 (48 + (n:Int) % 10)] 5)) = .ok (strN [48 + n % 10]) (u.alloc (.cells #[.int .u8 (48 + (n:Int) % 10)] 5)):=by
 have e:(48 + (n:Int) % 10) = ((48 + n % 10:Nat):Int):=by omega
 rw [e]
 exact bytes_str u [48 + n % 10]
theorem dec_low (w:World) (n:Nat) (hn:n < 10) :
  CR 111 #[.int .i64 n] w (strN [48 + n % 10]):=by
 have hv:=digit_str n
 unfold strN at hv ⊢
 generalize (⟨([48 + n % 10].map UInt8.ofNat).toArray⟩:ByteArray) = S at *
 go_enter func111,ntmps111
 go_wp2
 go_ret
 exact ⟨rfl,(Fr.refl _ _).alloc _⟩
theorem dec_high (w:World) (n:Nat) (hn:10 ≤ n) (hn2:n ≤ 100000) (l:List Nat) (hll:l.length ≤ 1000) (IH:∀ X:World,CR 111 #[.int .i64 ((n / 10:Nat):Int)] X (strN l)) :
  CR 111 #[.int .i64 n] w (strN (l ++ [48 + n % 10])):=by
 have hv:=digit_str n
 have hS:strN (l ++ [48 + n % 10]) = .string ((⟨(l.map UInt8.ofNat).toArray⟩:ByteArray) ++ ⟨([48 + n % 10].map UInt8.ofNat).toArray⟩):=by
  unfold strN
  rw [bytes_app]
  simp
 rw [hS]
 clear hS
 have HIH:Hid (∀ X:World,CR 111 #[.int .i64 ((n:Int) / 10)] X (strN l)):=fun X=>by
  have:=IH X
  rwa [show ((n / 10:Nat):Int) = (n:Int) / 10 by omega] at this
 clear IH
 unfold strN at hv HIH
 have hL:(⟨(l.map UInt8.ofNat).toArray⟩:ByteArray).size ≤ 1000:=by simpa [ByteArray.size] using hll
 have hSz:(⟨([48 + n % 10].map UInt8.ofNat).toArray⟩:ByteArray).size = 1:=by simp [ByteArray.size]
 generalize (⟨([48 + n % 10].map UInt8.ofNat).toArray⟩:ByteArray) = S at *
 generalize (⟨(l.map UInt8.ofNat).toArray⟩:ByteArray) = L at *
 go_enter func111,ntmps111
 go_wp2_with (go_at_call 111;refine (HIH.out _).mono ?_;rintro e w1 ⟨rfl,hF1⟩)
 go_ret
 exact ⟨rfl,((Fr.refl _ _).alloc _).trans hF1⟩
theorem decF_len:∀ (f n:Nat),(decF f n).length ≤ f + 1
 | 0,n=>by simp [decF]
 | f + 1,n=>by
  have:=decF_len f (n / 10)
  unfold decF
  split
  ·simp
  ·simp;omega
theorem dec_fn:∀ (f n:Nat),n < 10 ^ (f + 1) → n ≤ 100000 → f ≤ 100 → ∀ w:World,CR 111 #[.int .i64 n] w (strN (decF f n))
 | 0,n,h,_,_,w=>dec_low w n (by simpa using h)
 | f + 1,n,h,h2,hf,w=>by
  by_cases hn:n < 10
  ·rw [show decF (f + 1) n = [48 + n % 10] by unfold decF;rw [if_pos hn]]
   exact dec_low w n hn
  ·rw [show decF (f + 1) n = decF f (n / 10) ++ [48 + n % 10] by show (if n < 10 then _ else _) = _;rw [if_neg hn]]
   refine dec_high w n (by omega) h2 _ (by have:=decF_len f (n / 10);omega) (dec_fn f (n / 10) ?_ (by omega) (by omega))
   rw [Nat.pow_succ] at h
   omega
section
structure PlayAt (w:World) (rp base:Nat) (s:ByteArray) (x:Rn) (bx:Nat → List Int) (blk:Nat → Nat):Prop where
 r:RunAt w rp s x
 hn:x.hv = .pointer none
 rb:rp < base
 e:∀ k,k < 26 → bx k = [] → x.wv k = .slice none 0 0
 f:∀ k,k < 26 → bx k ≠ [] → x.wv k = .slice (some ⟨blk k,0,none⟩) (bx k).length (bx k).length
 c:∀ k,k < 26 → ∀ i v,(bx k)[i]? = some v → w.cell? ⟨blk k,i,none⟩ = some (.int .i64 v)
 z:∀ k,k < 26 → bx k ≠ [] → ∀ o,w.frozen? ⟨blk k,o,none⟩ = false
 d:∀ k l,k < 26 → l < 26 → k ≠ l → bx k ≠ [] → bx l ≠ [] → blk k ≠ blk l
 b:∀ k,k < 26 → bx k ≠ [] → base ≤ blk k ∧ blk k < w.heap.size
 n:∀ k,k < 26 → (bx k).length ≤ 64
section
variable {w w':World} {rp base:Nat} {s:ByteArray} {x x':Rn} {bx:Nat → List Int} {blk:Nat → Nat}
theorem ne_nil_of_get {l:List Int} {i:Nat} {v:Int} (h:l[i]? = some v):l ≠ []:=fun e=>by rw [e] at h;simp at h
theorem PlayAt.no (h:PlayAt w rp base s x bx blk) (hF:Fr NoB w w'):PlayAt w' rp base s x bx blk :=
 ⟨h.r.no hF,h.hn,h.rb,h.e,h.f,fun k hk i v hv=>hF.cell_some (h.c k hk i v hv) id,fun k hk hb o=>(hF.frozen (p:=⟨blk k,o,none⟩) (h.b k hk hb).2 id).trans (h.z k hk hb o),h.d,fun k hk hb=>⟨(h.b k hk hb).1,Nat.lt_of_lt_of_le (h.b k hk hb).2 hF.size⟩,h.n⟩
theorem PlayAt.own (h:PlayAt w rp base s x bx blk) (hF:Fr (OneB rp) w w') (hR:RunAt w' rp s x') (h1:x'.hv = x.hv) (h2:x'.wv = x.wv):PlayAt w' rp base s x' bx blk:=by
 have hne:∀ k,k < 26 → bx k ≠ [] → ¬ OneB rp (blk k):=fun k hk hb e=>by
  have:=(h.b k hk hb).1
  have:=h.rb
  unfold OneB at e
  omega
 refine ⟨hR,by rw [h1];exact h.hn,h.rb,fun k hk hb=>by rw [h2];exact h.e k hk hb,fun k hk hb=>by rw [h2];exact h.f k hk hb,fun k hk i v hv=>hF.cell_some (h.c k hk i v hv) (hne k hk (ne_nil_of_get hv)),fun k hk hb o=>(hF.frozen (p:=⟨blk k,o,none⟩) (h.b k hk hb).2 (hne k hk hb)).trans (h.z k hk hb o),h.d,fun k hk hb=>⟨(h.b k hk hb).1,Nat.lt_of_lt_of_le (h.b k hk hb).2 hF.size⟩,h.n⟩
end
section
variable (w:World) (rp base:Nat) (s:ByteArray) (x:Rn) (bx:Nat → List Int) (blk:Nat → Nat)
theorem has_play (h:PlayAt w rp base s x bx blk) (k:Nat) (hk:k < 26) :
  CS 131 #[.pointer (some ⟨rp,0,none⟩),.int .i64 k] w (.int .i64 ((bx k).length:Int)):=by
 have ch:=h.r.ch
 rw [h.hn] at ch
 have cw:=h.r.cw k hk
 have hv:∃ ao,x.wv k = .slice ao (bx k).length (bx k).length:=by
  by_cases e:bx k = []
  ·exact ⟨none,by rw [h.e k hk e,e];rfl⟩
  ·exact ⟨_,h.f k hk e⟩
 obtain ⟨ao,hv⟩:=hv
 rw [hv] at cw
 clear h hv
 go_enter func131,ntmps131
 go_wp2
 go_ret
 exact ⟨rfl,rfl⟩
theorem look_play (h:PlayAt w rp base s x bx blk) (k i:Nat) (v:Int) (hk:k < 26) (hi:(bx k)[i]? = some v) :
  CS 132 #[.pointer (some ⟨rp,0,none⟩),.int .i64 k,.int .i64 i] w (.int .i64 v):=by
 have ch:=h.r.ch
 rw [h.hn] at ch
 have cw:=h.r.cw k hk
 rw [h.f k hk (ne_nil_of_get hi)] at cw
 have cc:=h.c k hk i v hi
 have hil:i < (bx k).length:=(List.getElem?_eq_some_iff.1 hi).1
 have hn:=h.n k hk
 clear h hi
 go_enter func132,ntmps132
 go_wp2
 go_ret
 exact ⟨rfl,rfl⟩
end
end
section
def updL (f:Nat → List Int) (k:Nat) (v:List Int):Nat → List Int:=fun i=>if i = k then v else f i
theorem updL_at (f:Nat → List Int) (k:Nat) (v:List Int):updL f k v k = v:=by simp [updL]
theorem updL_ne (f:Nat → List Int) {k i:Nat} (v:List Int) (h:i ≠ k):updL f k v i = f i:=by simp [updL,h]
theorem updV_at (f:Nat → Value) (k:Nat) (v:Value):updV f k v k = v:=by simp [updV]
theorem updV_ne (f:Nat → Value) {k i:Nat} (v:Value) (h:i ≠ k):updV f k v i = f i:=by simp [updV,h]
theorem RunAt.setWv {w:World} {rp:Nat} {s:ByteArray} {x:Rn} (h:RunAt w rp s x) {k:Nat} (hk:k < 26) (v:Value):RunAt (w.setCell ⟨rp,27 + k,none⟩ v) rp s { x with wv:=updV x.wv k v } :=
 ⟨cell_at h.cs (by omega),fun j hj=>cell_at (h.cn j hj) (by omega),fun j hj=>by
   by_cases e:j = k
   ·subst e;show _ = some (updV x.wv j v j);rw [updV_at];exact cell_same (h.cw j hj)
   ·show _ = some (updV x.wv k v j);rw [updV_ne _ _ e];exact cell_at (h.cw j hj) (by omega),
  cell_at h.ch (by omega),fun j hj=>cell_at (h.ca j hj) (by omega),fun j hj=>cell_at (h.cl j hj) (by omega),
  cell_at h.cf (by omega),cell_at h.co (by omega),cell_at h.ct (by omega),cell_at h.cu (by omega),cell_at h.cp (by omega),fun o=>by rw [World.frozen?_setCell];exact h.fz o⟩
section
variable {w:World} {rp base:Nat} {s:ByteArray} {x:Rn} {bx:Nat → List Int} {blk:Nat → Nat}
theorem PlayAt.empty (h:PlayAt w rp base s x bx blk) {k:Nat} (hk:k < 26):PlayAt (w.setCell ⟨rp,27 + k,none⟩ (.slice none 0 0)) rp base s { x with wv:=updV x.wv k (.slice none 0 0) } (updL bx k []) blk:=by
 have hF:=(Fr.refl (OneB rp) w).setCell (p:=⟨rp,27 + k,none⟩) (fun _=>rfl) (.slice none 0 0)
 have hne:∀ j,j < 26 → bx j ≠ [] → ¬ OneB rp (blk j):=fun j hj hb e=>by
  have:=(h.b j hj hb).1
  have:=h.rb
  unfold OneB at e
  omega
 have hup:∀ j,updL bx k [] j ≠ [] → j ≠ k ∧ bx j ≠ []:=fun j hj=>by
  by_cases e:j = k
  ·subst e;rw [updL_at] at hj;exact absurd rfl hj
  ·rw [updL_ne _ _ e] at hj;exact ⟨e,hj⟩
 refine ⟨h.r.setWv hk _,h.hn,h.rb,fun j hj hb=>?_,fun j hj hb=>?_,fun j hj i v hv=>?_,fun j hj hb o=>?_,fun i j hi hj hij hb1 hb2=>h.d i j hi hj hij (hup i hb1).2 (hup j hb2).2,fun j hj hb=>?_,fun j hj=>?_⟩
 ·show updV x.wv k (.slice none 0 0) j = _
  by_cases e:j = k
  ·subst e;rw [updV_at]
  ·rw [updV_ne _ _ e];rw [updL_ne _ _ e] at hb;exact h.e j hj hb
 ·obtain ⟨e,hb2⟩:=hup j hb
  show updV x.wv k (.slice none 0 0) j = _
  rw [updV_ne _ _ e,updL_ne _ _ e]
  exact h.f j hj hb2
 ·obtain ⟨e,hb2⟩:=hup j (ne_nil_of_get hv)
  rw [updL_ne _ _ e] at hv
  exact hF.cell_some (h.c j hj i v hv) (hne j hj hb2)
 ·obtain ⟨e,hb2⟩:=hup j hb
  exact (hF.frozen (p:=⟨blk j,o,none⟩) (h.b j hj hb2).2 (hne j hj hb2)).trans (h.z j hj hb2 o)
 ·obtain ⟨e,hb2⟩:=hup j hb
  rw [setCell_size]
  exact h.b j hj hb2
 ·by_cases e:j = k
  ·subst e;rw [updL_at];simp
  ·rw [updL_ne _ _ e];exact h.n j hj
end
section
variable (w:World) (rp base:Nat) (s:ByteArray) (x:Rn) (bx:Nat → List Int) (blk:Nat → Nat)
def PlaySays (rp base:Nat) (s:ByteArray) (b:Bool) (x:Rn) (bx:Nat → List Int) (w:World) (e:Ending) (w':World):Prop:=e = .returned (.bool b) ∧ (∃ blk wv a l,PlayAt w' rp base s { x with wv:=wv,at_:=a,len:=l } bx blk) ∧ Fr (fun k=>k = rp ∨ base ≤ k) w w'
theorem drop_play_no (h:PlayAt w rp base s x bx blk) (i k:Nat) (hi:i + 1 < s.size) (hs:s.size ≤ 100000) (hk:k < 26) (hq:s[i + 1].toNat = k + 65) (he:bx k = []) :
  Calls prog 110 #[.pointer (some ⟨rp,0,none⟩),.int .i64 i] w fun e w'=>PlaySays rp base s false { x with status:=4 } bx w e w':=by
 have cs:=h.r.cs
 have HP:Hid (PlayAt w rp base s x bx blk):=h
 have HH:Hid (CS 131 #[.pointer (some ⟨rp,0,none⟩),.int .i64 k] w (.int .i64 0)):=by
  have:=has_play w rp base s x bx blk h k hk
  rwa [he] at this
 clear h
 go_enter func110,ntmps110
 go_wp2_with (first | (go_at_call 131;refine sameC HH.out ?_) | (go_at_call 108;refine (ends_fn _ rp s x HP.out.r 4).mono ?_;rintro e w2 ⟨rfl,hR2,hF2⟩))
 go_ret
 exact ⟨rfl,⟨blk,x.wv,x.at_,x.len,HP.out.own hF2 hR2 rfl rfl⟩,hF2.mono (fun k _ e=>.inl e)⟩
theorem drop_play_yes (h:PlayAt w rp base s x bx blk) (i k:Nat) (hi:i + 1 < s.size) (hs:s.size ≤ 100000) (hk:k < 26) (hq:s[i + 1].toNat = k + 65) (he:bx k ≠ []) :
  Calls prog 110 #[.pointer (some ⟨rp,0,none⟩),.int .i64 i] w fun e w'=>PlaySays rp base s true x (updL bx k []) w e w':=by
 have cs:=h.r.cs
 have ch:=h.r.ch
 rw [h.hn] at ch
 have cw:=h.r.cw k hk
 rw [h.f k hk he] at cw
 have fz:=h.r.fz (27 + k)
 have hl:0 < (bx k).length:=List.length_pos_iff.2 he
 have hn:=h.n k hk
 have HP:Hid (PlayAt w rp base s x bx blk):=h
 have HH:Hid _:=has_play w rp base s x bx blk h k hk
 generalize (bx k).length = n at *
 clear h he
 go_enter func110,ntmps110
 go_wp2_with (first | (go_at_call 131;refine Calls.mono HH.out ?_;rintro e w1 ⟨rfl,hw⟩;have hw2:=hw.symm;clear hw;subst hw2))
 go_ret
 exact ⟨rfl,⟨blk,_,_,_,HP.out.empty hk⟩,(Fr.refl _ _).setCell (p:=⟨rp,27 + k,none⟩) (fun _=>.inl rfl) _⟩
end
end
section
theorem Tryz.infoInt2:(prog.info? 3).map (fun i=>(i.zero,i.size,i.bytes)) = some (some (.int .i64 0),1,8):=by kernel_rfl
theorem made_one (n j:Nat) (h:j < n):(madeCells #[Value.int .i64 0] n)[j]? = some (.int .i64 0):=by
 unfold madeCells
 have h2:j % 1 = 0:=by omega
 simp [h,h2]
theorem ints_made (n:Nat) (hn:n ≤ 100000):∃ C:Array Value,(∀ j,j < n → C[j]? = some (.int .i64 0)) ∧
  ∀ u:World,(Instr.makeSlice 58 (.int .i64 n) (.int .i64 n)).run prog u = .ok (.slice (some ⟨u.heap.size,0,none⟩) n n) (u.alloc (.cells C 3)):=by
 obtain ⟨i0,hi,hz0,hz1,hz2⟩:=info_parts Tryz.infoInt2
 refine ⟨madeCells #[Value.int .i64 0] (n * 1),fun j hj=>made_one _ _ (by omega),fun u=>?_⟩
 have h:=run_make (P:=prog) u 58 3 i0 (.int .i64 0) underlying58 hi hz0 .i64 .i64 (n:Int) (n:Int) (by omega) (Int.le_refl _) (by rw [hz2];omega) (by omega)
 simpa [hz1,Value.cells] using h
def updN (f:Nat → Nat) (k v:Nat):Nat → Nat:=fun i=>if i = k then v else f i
theorem updN_at (f:Nat → Nat) (k v:Nat):updN f k v k = v:=by simp [updN]
theorem updN_ne (f:Nat → Nat) {k i:Nat} (v:Nat) (h:i ≠ k):updN f k v i = f i:=by simp [updN,h]
theorem PlayAt.fill {w w':World} {rp base g:Nat} {s:ByteArray} {x:Rn} {bx:Nat → List Int} {blk:Nat → Nat} {l:List Int} {n:Nat} (h:PlayAt w rp base s x bx blk) {k:Nat} (hk:k < 26) (hn:l.length = n) (hl:l ≠ []) (hl2:l.length ≤ 64)
  (hF:Fr (OneB rp) w w') (hR:RunAt w' rp s { x with wv:=updV x.wv k (.slice (some ⟨g,0,none⟩) n n) })
  (hg:base ≤ g ∧ g < w'.heap.size) (hgn:∀ j,j < 26 → bx j ≠ [] → blk j ≠ g) (hc:∀ i v,l[i]? = some v → w'.cell? ⟨g,i,none⟩ = some (.int .i64 v)) (hz:∀ o,w'.frozen? ⟨g,o,none⟩ = false) :
  PlayAt w' rp base s { x with wv:=updV x.wv k (.slice (some ⟨g,0,none⟩) n n) } (updL bx k l) (updN blk k g):=by
 subst hn
 have hrb:=h.rb
 have hne:∀ j,j < 26 → bx j ≠ [] → ¬ OneB rp (blk j):=fun j hj hb e=>by
  have:=(h.b j hj hb).1
  unfold OneB at e
  omega
 refine ⟨hR,h.hn,h.rb,fun j hj hb=>?_,fun j hj hb=>?_,fun j hj i v hv=>?_,fun j hj hb o=>?_,fun i j hi hj hij hb1 hb2=>?_,fun j hj hb=>?_,fun j hj=>?_⟩
 ·show updV x.wv k _ j = _
  by_cases e:j = k
  ·subst e;rw [updL_at] at hb;exact absurd hb hl
  ·rw [updV_ne _ _ e];rw [updL_ne _ _ e] at hb;exact h.e j hj hb
 ·show updV x.wv k _ j = _
  by_cases e:j = k
  ·subst e;rw [updV_at,updL_at,updN_at]
  ·rw [updV_ne _ _ e,updL_ne _ _ e,updN_ne _ _ e];rw [updL_ne _ _ e] at hb;exact h.f j hj hb
 ·by_cases e:j = k
  ·subst e;rw [updL_at] at hv;rw [updN_at];exact hc i v hv
  ·rw [updL_ne _ _ e] at hv;rw [updN_ne _ _ e];exact hF.cell_some (h.c j hj i v hv) (hne j hj (ne_nil_of_get hv))
 ·by_cases e:j = k
  ·subst e;rw [updN_at];exact hz o
  ·rw [updL_ne _ _ e] at hb;rw [updN_ne _ _ e];exact (hF.frozen (p:=⟨blk j,o,none⟩) (h.b j hj hb).2 (hne j hj hb)).trans (h.z j hj hb o)
 ·by_cases e1:i = k
  ·have e2:j ≠ k:=fun q=>hij (by omega)
   rw [updL_ne _ _ e2] at hb2
   subst e1
   rw [updN_at,updN_ne _ _ e2]
   exact (hgn j hj hb2).symm
  ·rw [updL_ne _ _ e1] at hb1
   rw [updN_ne _ _ e1]
   by_cases e2:j = k
   ·subst e2
    rw [updN_at]
    exact hgn i hi hb1
   ·rw [updL_ne _ _ e2] at hb2
    rw [updN_ne _ _ e2]
    exact h.d i j hi hj hij hb1 hb2
 ·by_cases e:j = k
  ·subst e;rw [updN_at];exact hg
  ·rw [updL_ne _ _ e] at hb;rw [updN_ne _ _ e];exact ⟨(h.b j hj hb).1,Nat.lt_of_lt_of_le (h.b j hj hb).2 hF.size⟩
 ·by_cases e:j = k
  ·subst e;rw [updL_at];exact hl2
  ·rw [updL_ne _ _ e];exact h.n j hj
section
variable (w:World) (rp base:Nat) (s:ByteArray) (x:Rn) (bx:Nat → List Int) (blk:Nat → Nat)
theorem gets_play_no (h:PlayAt w rp base s x bx blk) (i j k:Nat) (hi:i < s.size) (hs:s.size ≤ 100000) (hk:k < 26) (hq:s[i].toNat = k + 65) (ho:Opnd s (i + 3) j) (hj:j < s.size) (hd:digitN (bt s j) = false) (hv:valN s x.num (i + 3) j < 1 ∨ 64 < valN s x.num (i + 3) j) :
  Calls prog 114 #[.pointer (some ⟨rp,0,none⟩),.int .i64 i] w fun e w'=>PlaySays rp base s false { x with status:=1 } bx w e w':=by
 have cs:=h.r.cs
 have ch:=h.r.ch
 rw [h.hn] at ch
 have HP:Hid (PlayAt w rp base s x bx blk):=h
 have HV:Hid (∀ _:Unit,CR 82 #[.pointer (some ⟨rp,0,none⟩),.int .i64 ((i:Int) + 3)] w (.int .i64 (valN s x.num (i + 3) j))):=fun _=>value_fn w rp s x h.r (i + 3) j ho hj hs hd
 generalize valN s x.num (i + 3) j = v at *
 clear h ho hd
 rcases hv with hv | hv
 ·go_enter func114,ntmps114
  go_wp2_with (first | (go_at_call 82;refine (HV.out ()).mono ?_;rintro e w1 ⟨rfl,hF1⟩;have HP1:Hid _:=HP.out.no hF1;have ch1:=hF1.cell_some ch id) | (go_at_call 108;refine (ends_fn _ rp s x HP1.out.r 1).mono ?_;rintro e w2 ⟨rfl,hR2,hF2⟩))
  go_ret
  exact ⟨rfl,⟨blk,x.wv,x.at_,x.len,HP1.out.own hF2 hR2 rfl rfl⟩,hF1.of_no.trans (hF2.mono (fun k _ e=>.inl e))⟩
 ·have hv0:¬ v < 1:=by omega
  go_enter func114,ntmps114
  go_wp2_with (first | (go_at_call 82;refine (HV.out ()).mono ?_;rintro e w1 ⟨rfl,hF1⟩;have HP1:Hid _:=HP.out.no hF1;have ch1:=hF1.cell_some ch id) | (go_at_call 108;refine (ends_fn _ rp s x HP1.out.r 1).mono ?_;rintro e w2 ⟨rfl,hR2,hF2⟩))
  go_ret
  exact ⟨rfl,⟨blk,x.wv,x.at_,x.len,HP1.out.own hF2 hR2 rfl rfl⟩,hF1.of_no.trans (hF2.mono (fun k _ e=>.inl e))⟩
theorem gets_play_yes (h:PlayAt w rp base s x bx blk) (i j k n:Nat) (hi:i < s.size) (hs:s.size ≤ 100000) (hb:base ≤ w.heap.size) (hk:k < 26) (hq:s[i].toNat = k + 65) (ho:Opnd s (i + 3) j) (hj:j < s.size) (hd:digitN (bt s j) = false) (hv:valN s x.num (i + 3) j = (n:Int)) (hn1:1 ≤ n) (hn2:n ≤ 64) :
  Calls prog 114 #[.pointer (some ⟨rp,0,none⟩),.int .i64 i] w fun e w'=>PlaySays rp base s true x (updL bx k (List.replicate n 0)) w e w':=by
 have cs:=h.r.cs
 have ch:=h.r.ch
 rw [h.hn] at ch
 obtain ⟨C,hC,hmk⟩:=ints_made n (by omega)
 have HC:Hid _:=hC
 have HP:Hid (PlayAt w rp base s x bx blk):=h
 have HV:Hid (∀ _:Unit,CR 82 #[.pointer (some ⟨rp,0,none⟩),.int .i64 ((i:Int) + 3)] w (.int .i64 n)):=fun _=>by
  have:=value_fn w rp s x h.r (i + 3) j ho hj hs hd
  rwa [hv] at this
 clear h ho hd hv hC
 go_enter func114,ntmps114
 go_upto_region 8 with (go_at_call 82;refine (HV.out ()).mono ?_;rintro e w1 ⟨rfl,hF1⟩;have HP1:Hid _:=HP.out.no hF1;have ch1:=hF1.cell_some ch id)
 have cw:=HP1.out.r.cw k hk
 have fz:=HP1.out.r.fz (27 + k)
 have hrl:=HP1.out.r.lt
 have hF1s:=hF1.size
 go_region
 have hFw:Fr (OneB rp) w1 ((w1.setCell ⟨rp,27 + k,none⟩ (Value.slice (some ⟨w1.heap.size,0,none⟩) n n)).alloc (Obj.cells C 3)).drew:=(((Fr.refl (OneB rp) w1).setCell (p:=⟨rp,27 + k,none⟩) (fun _=>rfl) _).alloc _).drew
 have HW:Hid (PlayAt ((w1.setCell ⟨rp,27 + k,none⟩ (Value.slice (some ⟨w1.heap.size,0,none⟩) n n)).alloc (Obj.cells C 3)).drew rp base s _ _ _):=HP1.out.fill (l:=List.replicate n 0) (g:=w1.heap.size) (n:=n) hk (by simp) (fun e=>by have:=congrArg List.length e;simp at this;omega) (by simpa using hn2) hFw
  ((HP1.out.r.setWv hk _).no (((Fr.refl NoB _).alloc _).drew)) ⟨by omega,by simp [World.drew]⟩ (fun j hj hb e=>by have:=(HP1.out.b j hj hb).2;omega)
  (fun i v hv=>by
   obtain ⟨q1,q2⟩:=List.getElem?_eq_some_iff.1 hv
   simp at q1 q2
   subst q2
   have e:=World.cell?_alloc_at (w:=w1.setCell ⟨rp,27 + k,none⟩ (Value.slice (some ⟨w1.heap.size,0,none⟩) n n)) C 3 w1.heap.size i (setCell_size _ _ _).symm
   exact e.trans (HC.out i q1))
  (fun o=>World.frozen?_alloc_at (w:=w1.setCell ⟨rp,27 + k,none⟩ (Value.slice (some ⟨w1.heap.size,0,none⟩) n n)) C 3 w1.heap.size o (setCell_size _ _ _).symm)
 generalize ((w1.setCell ⟨rp,27 + k,none⟩ (Value.slice (some ⟨w1.heap.size,0,none⟩) n n)).alloc (Obj.cells C 3)).drew = W at *
 go_wp2
 go_ret
 exact ⟨rfl,⟨_,_,_,_,HW.out⟩,hF1.of_no.trans (hFw.mono (fun k _ e=>.inl e))⟩
end
end
end Go.Proofs.YthcjcjfgdgnljabGreatDoor
