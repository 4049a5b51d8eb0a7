import Derived.Test.YthcjcjfgdgnljabGreatDoorGRunO
set_option linter.unusedVariables false
set_option maxHeartbeats 4000000
set_option maxRecDepth 8000
open Go.Proofs.Tryz
namespace Go.Proofs.YthcjcjfgdgnljabGreatDoor
open Go.RowKit
section
theorem rn_num (σ:St) (wv0:Nat → Value) (a0 l0:Nat → Int) (k v:Nat) (wv:Nat → Value) (a l:Nat → Int):({ ({ rnOf σ wv0 a0 l0 with num:=updI (rnOf σ wv0 a0 l0).num k ((v:Nat):Int) }:Rn) with wv:=wv,at_:=a,len:=l }:Rn) = rnOf { σ with num:=upN σ.num k v } wv a l:=by
 unfold rnOf
 simp only [updI_cast]
theorem acOk_of {s:ByteArray} {i m:Nat} (h:Simple s i m):AcOk (acN s i):=by
 have sm:∀ {j:Nat},smallN (bt s j) = true → bt s j - 97 < 26:=fun {j} h=>by simp [smallN] at h;omega
 have gr:∀ {j:Nat},greatN (bt s j) = true → bt s j - 65 < 26:=fun {j} h=>by simp [greatN] at h;omega
 rcases h with h | h | h | h | h | h | h | h | h
 ·rw [acN_size h];exact ⟨sm h.1,gr h.2.2.2.1⟩
 ·rw [acN_load h]
  obtain ⟨hm,e1,hg,e3,k,ho,e5,e6,rfl⟩:=h
  exact ⟨sm hm,gr hg,odN_ok ho (byte_in e5 (by decide)) (nodigit e5 (.inr (.inr rfl)))⟩
 ·obtain ⟨hm,e1,k,ho,e5,rfl⟩:=h
  rw [acN_set hm ho e5]
  exact ⟨sm hm,odN_ok ho (byte_in e5 (by decide)) (nodigit e5 (.inr (.inl rfl)))⟩
 ·obtain ⟨hm,e1,k,l,ho,hop2,ho2,e5,rfl⟩:=h
  have hks:k < s.size:=byte_in rfl (by unfold isOp at hop2;omega)
  have hd:digitN (bt s k) = false:=by
   unfold isOp at hop2
   rcases hop2 with q | q | q | q | q <;> rw [q] <;> rfl
  rw [acN_bin hm ho hop2 hks]
  exact ⟨sm hm,odN_ok ho hks hd,odN_ok ho2 (byte_in e5 (by decide)) (nodigit e5 (.inr (.inl rfl)))⟩
 ·obtain ⟨hg,e1,k,l,ho,e2,e3,ho2,e5,rfl⟩:=h
  rw [acN_store hg e1 ho e2]
  exact ⟨gr hg,odN_ok ho (byte_in e2 (by decide)) (nodigit e2 (.inr (.inr rfl))),odN_ok ho2 (byte_in e5 (by decide)) (nodigit e5 (.inr (.inl rfl)))⟩
 ·rw [acN_make h]
  obtain ⟨hg,e1,e2,k,ho,e3,e5,rfl⟩:=h
  exact ⟨gr hg,odN_ok ho (byte_in e3 (by decide)) (nodigit e3 (.inr (.inr rfl)))⟩
 ·rw [acN_move h];exact ⟨gr h.1,gr h.2.2.1⟩
 ·obtain ⟨e0,k,ho,e5,rfl⟩:=h
  rw [acN_print e0]
  exact odN_ok ho (byte_in e5 (by decide)) (nodigit e5 (.inr (.inl rfl)))
 ·rw [acN_drop h.1];exact gr h.2.1
theorem sub97 {s:ByteArray} {i:Nat} (h:smallN (bt s i) = true) (hi:i < s.size):s[i].toNat = bt s i - 97 + 97:=by
 rw [← bt_in hi]
 simp [smallN] at h
 omega
theorem sub65 {s:ByteArray} {i:Nat} (h:greatN (bt s i) = true) (hi:i < s.size):s[i].toNat = bt s i - 65 + 65:=by
 rw [← bt_in hi]
 simp [greatN] at h
 omega
section
variable (w:World) (rp base:Nat) (s:ByteArray) (σ:St) (i m:Nat)
theorem drop_play (h:PlayR w rp base s σ) (hs:s.size ≤ 100000) (hS:KDrop s i m) :
  Calls prog 110 #[.pointer (some ⟨rp,0,none⟩),.int .i64 i] w fun e w'=>PlayS rp base s (act cP (acN s i) σ).2 (act cP (acN s i) σ).1 w e w':=by
 have hAc:=acOk_of (s:=s) (i:=i) (m:=m) (.inr (.inr (.inr (.inr (.inr (.inr (.inr (.inr hS))))))))
 have hok:=act_ok (c:=cP) h.1 hAc
 obtain ⟨e0,hg,e5,rfl⟩:=hS
 have h2:=byte_in e5 (by decide)
 obtain ⟨hn,blk,wv,a,l,hP⟩:=h
 have hq:=sub65 hg (by omega)
 have hk:bt s (i + 1) - 65 < 26:=by simp [greatN] at hg;omega
 rw [acN_drop e0] at hok ⊢
 generalize bt s (i + 1) - 65 = k at *
 simp only [act] at hok ⊢
 by_cases he:σ.bx k = []
 ·rw [if_pos he] at hok ⊢
  exact (drop_play_no w rp base s _ _ blk hP i k (by omega) hs hk hq (by show toI (σ.bx k) = [];rw [he];rfl)).mono fun e w' hh=>toS hh hok (fun _ _ _=>rfl) rfl
 ·rw [if_neg he] at hok ⊢
  exact (drop_play_yes w rp base s _ _ blk hP i k (by omega) hs hk hq (fun q=>he (toI_nil.1 q))).mono fun e w' hh=>toS hh hok (fun _ _ _=>rfl) (by rw [← updL_cast];rfl)
theorem moves_play (h:PlayR w rp base s σ) (hs:s.size ≤ 100000) (hS:KMove s i m) :
  Calls prog 115 #[.pointer (some ⟨rp,0,none⟩),.int .i64 i] w fun e w'=>PlayS rp base s (act cP (acN s i) σ).2 (act cP (acN s i) σ).1 w e w':=by
 have hAc:=acOk_of (s:=s) (i:=i) (m:=m) (.inr (.inr (.inr (.inr (.inr (.inr (.inl hS)))))))
 have hok:=act_ok (c:=cP) h.1 hAc
 rw [acN_move hS] at hok ⊢
 obtain ⟨hg,e1,hg2,e5,rfl⟩:=hS
 have h2:=byte_in e5 (by decide)
 obtain ⟨hn,blk,wv,a,l,hP⟩:=h
 have hq:=sub65 hg (by omega)
 have hq2:=sub65 hg2 (by omega)
 have hk:bt s i - 65 < 26:=by simp [greatN] at hg;omega
 have hk2:bt s (i + 2) - 65 < 26:=by simp [greatN] at hg2;omega
 generalize bt s i - 65 = k at *
 generalize bt s (i + 2) - 65 = d at *
 simp only [act] at hok ⊢
 by_cases he:σ.bx d = []
 ·rw [if_pos he] at hok ⊢
  exact (moves_play_no w rp base s _ _ blk hP i k d (by omega) hs hk hq hk2 hq2 (by show toI (σ.bx d) = [];rw [he];rfl)).mono fun e w' hh=>toS hh hok (fun _ _ _=>rfl) rfl
 ·rw [if_neg he] at hok ⊢
  by_cases hkd:k = d
  ·rw [if_pos hkd] at hok ⊢
   subst hkd
   exact (moves_play_same w rp base s _ _ blk hP i k (by omega) hs hk hq hq2 (fun q=>he (toI_nil.1 q))).mono fun e w' hh=>toS hh hok (fun _ _ _=>rfl) rfl
  ·rw [if_neg hkd,if_neg (by simp [cP])] at hok ⊢
   exact (moves_play_yes w rp base s _ _ blk hP i k d (by omega) hs hk hq hk2 hq2 hkd (fun q=>he (toI_nil.1 q))).mono fun e w' hh=>toS hh hok (fun _ _ _=>rfl) (by
    show updL (updL (fun k=>toI (σ.bx k)) k (toI (σ.bx d))) d (toI []) = _
    rw [updL_cast,updL_cast])
theorem gets_play (h:PlayR w rp base s σ) (hs:s.size ≤ 100000) (hb:base ≤ w.heap.size) (hS:KMake s i m) :
  Calls prog 114 #[.pointer (some ⟨rp,0,none⟩),.int .i64 i] w fun e w'=>PlayS rp base s (act cP (acN s i) σ).2 (act cP (acN s i) σ).1 w e w':=by
 have hAc:=acOk_of (s:=s) (i:=i) (m:=m) (.inr (.inr (.inr (.inr (.inr (.inl hS))))))
 have hok:=act_ok (c:=cP) h.1 hAc
 rw [acN_make hS] at hok ⊢
 obtain ⟨hg,e1,e2,k0,ho,e3,e5,rfl⟩:=hS
 have h2:=byte_in e5 (by decide)
 have h3:=ho.lt
 obtain ⟨hn,blk,wv,a,l,hP⟩:=h
 have hq:=sub65 hg (by omega)
 have hk:bt s i - 65 < 26:=by simp [greatN] at hg;omega
 have hd:=nodigit e3 (.inr (.inr rfl))
 have hv:=odN_val ho (by omega) hd σ.num
 generalize bt s i - 65 = k at *
 simp only [act,show cP.strict = false from rfl,Bool.false_eq_true,false_and,if_false] at hok ⊢
 generalize valO σ.num (odN s (i + 3)) = v at *
 by_cases hr:v < 1 ∨ 64 < v
 ·rw [if_pos hr] at hok ⊢
  exact (gets_play_no w rp base s _ _ blk hP i k0 k (by omega) hs hk hq ho (by omega) hd (by show valN s (fun k=>(σ.num k:Int)) (i + 3) k0 < 1 ∨ _ < valN s (fun k=>(σ.num k:Int)) (i + 3) k0;rw [hv];omega)).mono fun e w' hh=>toS hh hok (fun _ _ _=>rfl) rfl
 ·rw [if_neg hr] at hok ⊢
  exact (gets_play_yes w rp base s _ _ blk hP i k0 k v (by omega) hs hb hk hq ho (by omega) hd hv (by omega) (by omega)).mono fun e w' hh=>toS hh hok (fun _ _ _=>rfl) (by
   show updL (fun k=>toI (σ.bx k)) k (List.replicate v 0) = _
   rw [toI_rep,updL_cast]
   rfl)
theorem store_play (h:PlayR w rp base s σ) (hs:s.size ≤ 100000) (hS:KStore s i m) :
  Calls prog 113 #[.pointer (some ⟨rp,0,none⟩),.int .i64 i] w fun e w'=>PlayS rp base s (act cP (acN s i) σ).2 (act cP (acN s i) σ).1 w e w':=by
 have hAc:=acOk_of (s:=s) (i:=i) (m:=m) (.inr (.inr (.inr (.inr (.inl hS)))))
 have hok:=act_ok (c:=cP) h.1 hAc
 obtain ⟨hg,e1,k0,l0,ho,e2,e3,ho2,e5,rfl⟩:=hS
 rw [acN_store hg e1 ho e2] at hok ⊢
 have h2:=byte_in e5 (by decide)
 have h3:=ho.lt
 have h4:=ho2.lt
 obtain ⟨hn,blk,wv,a,l,hP⟩:=h
 have hq:=sub65 hg (by omega)
 have hk:bt s i - 65 < 26:=by simp [greatN] at hg;omega
 have hd:=nodigit e2 (.inr (.inr rfl))
 have hd2:=nodigit e5 (.inr (.inl rfl))
 have hv:=odN_val ho (by omega) hd σ.num
 have hv2:=odN_val ho2 (by omega) hd2 σ.num
 generalize bt s i - 65 = k at *
 simp only [act] at hok ⊢
 generalize valO σ.num (odN s (i + 2)) = q at *
 generalize valO σ.num (odN s (k0 + 2)) = v at *
 by_cases he:σ.bx k = []
 ·rw [if_pos he] at hok ⊢
  exact (store_play_no w rp base s _ _ blk hP i k (by omega) hs hk hq (by show toI (σ.bx k) = [];rw [he];rfl)).mono fun e w' hh=>toS hh hok (fun _ _ _=>rfl) rfl
 ·rw [if_neg he] at hok ⊢
  by_cases hr:(σ.bx k).length ≤ q
  ·rw [if_pos hr] at hok ⊢
   exact (store_play_out w rp base s _ _ blk hP i k0 k q (by omega) hs hk hq (fun q=>he (toI_nil.1 q)) ho (by omega) hd hv (by show (toI (σ.bx k)).length ≤ q;rw [toI_len];exact hr)).mono fun e w' hh=>toS hh hok (fun _ _ _=>rfl) rfl
  ·rw [if_neg hr] at hok ⊢
   exact (store_play_yes w rp base s _ _ blk hP i k0 l0 k q (v:Int) (by omega) hs hk hq ho (by omega) hd hv (by show q < (toI (σ.bx k)).length;rw [toI_len];omega) ho2 (by omega) hd2 hv2).mono fun e w' hh=>toS hh hok (fun _ _ _=>rfl) (by
    show updL (fun k=>toI (σ.bx k)) k ((toI (σ.bx k)).set q (v:Int)) = _
    rw [toI_set,updL_cast])
theorem size_play (h:PlayR w rp base s σ) (hs:s.size ≤ 100000) (hS:KSize s i m) :
  Calls prog 112 #[.pointer (some ⟨rp,0,none⟩),.int .i64 i] w fun e w'=>PlayS rp base s (act cP (acN s i) σ).2 (act cP (acN s i) σ).1 w e w':=by
 have hAc:=acOk_of (s:=s) (i:=i) (m:=m) (.inl hS)
 have hok:=act_ok (c:=cP) h.1 hAc
 rw [acN_size hS] at hok ⊢
 obtain ⟨hm,e1,e2,hg,e5,rfl⟩:=hS
 have h2:=byte_in e5 (by decide)
 obtain ⟨hn,blk,wv,a,l,hP⟩:=h
 have hq:=sub97 hm (by omega)
 have hq3:=sub65 hg (by omega)
 have hk:bt s i - 97 < 26:=by simp [smallN] at hm;omega
 have hb:bt s (i + 3) - 65 < 26:=by simp [greatN] at hg;omega
 rw [bt_in (show i + 2 < s.size by omega)] at e2
 generalize bt s i - 97 = k at *
 generalize bt s (i + 3) - 65 = b at *
 simp only [act] at hok ⊢
 by_cases he:σ.bx b = []
 ·rw [if_pos he] at hok ⊢
  exact (size_play_no w rp base s _ _ blk hP i k b (by omega) hs hk hq e2 hb hq3 (by show toI (σ.bx b) = [];rw [he];rfl)).mono fun e w' hh=>toS hh hok (fun _ _ _=>rfl) rfl
 ·rw [if_neg he] at hok ⊢
  exact (size_play_yes w rp base s _ _ blk hP i k b (by omega) hs hk hq e2 hb hq3 (fun q=>he (toI_nil.1 q))).mono fun e w' hh=>toS hh hok (fun wv' a' l'=>by
   show ({ ({ rnOf σ wv a l with num:=updI (rnOf σ wv a l).num k ((toI (σ.bx b)).length:Int) }:Rn) with wv:=wv',at_:=a',len:=l' }:Rn) = _
   rw [toI_len]
   exact rn_num σ wv a l k _ wv' a' l') rfl
theorem load_play (h:PlayR w rp base s σ) (hs:s.size ≤ 100000) (hS:KLoad s i m) :
  Calls prog 112 #[.pointer (some ⟨rp,0,none⟩),.int .i64 i] w fun e w'=>PlayS rp base s (act cP (acN s i) σ).2 (act cP (acN s i) σ).1 w e w':=by
 have hAc:=acOk_of (s:=s) (i:=i) (m:=m) (.inr (.inl hS))
 have hok:=act_ok (c:=cP) h.1 hAc
 rw [acN_load hS] at hok ⊢
 obtain ⟨hm,e1,hg,e3,k0,ho,e5,e6,rfl⟩:=hS
 have h2:=byte_in e6 (by decide)
 have h3:=ho.lt
 obtain ⟨hn,blk,wv,a,l,hP⟩:=h
 have hq:=sub97 hm (by omega)
 have hq3:=sub65 hg (by omega)
 have hk:bt s i - 97 < 26:=by simp [smallN] at hm;omega
 have hb:bt s (i + 2) - 65 < 26:=by simp [greatN] at hg;omega
 have hd:=nodigit e5 (.inr (.inr rfl))
 have hv:=odN_val ho (by omega) hd σ.num
 generalize bt s i - 97 = k at *
 generalize bt s (i + 2) - 65 = b at *
 simp only [act] at hok ⊢
 generalize valO σ.num (odN s (i + 4)) = q at *
 by_cases he:σ.bx b = []
 ·rw [if_pos he] at hok ⊢
  exact (load_play_no w rp base s _ _ blk hP i k b (by omega) hs hk hq hb hq3 (by show toI (σ.bx b) = [];rw [he];rfl)).mono fun e w' hh=>toS hh hok (fun _ _ _=>rfl) rfl
 ·rw [if_neg he] at hok ⊢
  by_cases hr:(σ.bx b).length ≤ q
  ·rw [if_pos hr] at hok ⊢
   exact (load_play_out w rp base s _ _ blk hP i k0 k b q (by omega) hs hk hq hb hq3 (fun q=>he (toI_nil.1 q)) ho (by omega) hd hv (by show (toI (σ.bx b)).length ≤ q;rw [toI_len];exact hr)).mono fun e w' hh=>toS hh hok (fun _ _ _=>rfl) rfl
  ·rw [if_neg hr] at hok ⊢
   exact (load_play_yes w rp base s _ _ blk hP i k0 k b q _ (by omega) hs hk hq hb hq3 ho (by omega) hd hv (toI_get (by omega))).mono fun e w' hh=>toS hh hok (fun wv' a' l'=>rn_num σ wv a l k _ wv' a' l') rfl
theorem calc_play (h:PlayR w rp base s σ) (hs:s.size ≤ 100000) (hS:KSet s i m ∨ KCalc s i m) :
  Calls prog 112 #[.pointer (some ⟨rp,0,none⟩),.int .i64 i] w fun e w'=>PlayS rp base s (act cP (acN s i) σ).2 (act cP (acN s i) σ).1 w e w':=by
 have hAc:AcOk (acN s i):=by
  rcases hS with hS | hS
  ·exact acOk_of (s:=s) (i:=i) (m:=m) (.inr (.inr (.inl hS)))
  ·exact acOk_of (s:=s) (i:=i) (m:=m) (.inr (.inr (.inr (.inl hS))))
 have hok:=act_ok (c:=cP) h.1 hAc
 obtain ⟨hn,blk,wv,a,l,hP⟩:=h
 rcases hS with hS | hS
 ·obtain ⟨hm,e1,k0,ho,e5,rfl⟩:=hS
  rw [acN_set hm ho e5] at hok ⊢
  have h2:=byte_in e5 (by decide)
  have h3:=ho.lt
  have hq:=sub97 hm (by omega)
  have hk:bt s i - 97 < 26:=by simp [smallN] at hm;omega
  have hd:=nodigit e5 (.inr (.inl rfl))
  have hv:=odN_val ho (by omega) hd σ.num
  obtain ⟨g1,g2,g3⟩:=ho.head
  rw [bt_in g3] at g1 g2
  have e5':s[k0].toNat = 59:=by rw [← bt_in h2];exact e5
  generalize bt s i - 97 = k at *
  simp only [act] at hok ⊢
  generalize valO σ.num (odN s (i + 2)) = v at *
  refine (number_calc w rp base s _ _ blk hP i k true _ _ (by omega) hs hk hq g2 g1 (fun W hW=>?_)).mono fun e w' hh=>toS hh hok (fun wv' a' l'=>rn_num σ wv a l k v wv' a' l') rfl
  have:=calc_set W rp base s _ _ blk hW (i + 2) k0 k hs hk ho h2 e5'
  rw [show valN s (rnOf σ wv a l).num (i + 2) k0 = (v:Int) from hv] at this
  exact this
 ·obtain ⟨hm,e1,k0,l0,ho,hop,ho2,e5,rfl⟩:=hS
  have hks:k0 < s.size:=byte_in rfl (by unfold isOp at hop;omega)
  rw [acN_bin hm ho hop hks] at hok hAc ⊢
  have h2:=byte_in e5 (by decide)
  have h3:=ho.lt
  have hq:=sub97 hm (by omega)
  have hk:bt s i - 97 < 26:=by simp [smallN] at hm;omega
  have hd2:=nodigit e5 (.inr (.inl rfl))
  have hdk:digitN (bt s k0) = false:=by
   unfold isOp at hop
   rcases hop with q | q | q | q | q <;> rw [q] <;> rfl
  have hv:=odN_val ho hks hdk σ.num
  have hv2:=odN_val ho2 (by omega) hd2 σ.num
  have hx:=val_ok hn.num hAc.2.1
  have hy:=val_ok hn.num hAc.2.2
  obtain ⟨g1,g2,g3⟩:=ho.head
  rw [bt_in g3] at g1 g2
  generalize bt s i - 97 = k at *
  simp only [act] at hok ⊢
  generalize valO σ.num (odN s (i + 2)) = x at *
  generalize valO σ.num (odN s (k0 + 1)) = y at *
  have key:∀ (b:Bool) (σ':St) (X:Rn),NumOk σ' → (∀ W,PlayAt W rp base s (rnOf σ wv a l) (fun k=>toI (σ.bx k)) blk → Calls prog 133 #[.pointer (some ⟨rp,0,none⟩),.int .i64 k,.int .i64 ((i:Int) + 2)] W fun e w'=>PlaySays rp base s b X (fun k=>toI (σ.bx k)) W e w') → (∀ wv' a' l',{ X with wv:=wv',at_:=a',len:=l' } = rnOf σ' wv' a' l') → σ'.bx = σ.bx →
    Calls prog 112 #[.pointer (some ⟨rp,0,none⟩),.int .i64 i] w fun e w'=>PlayS rp base s b σ' w e w':=fun b σ' X h1 h2 h3 h4 =>
   (number_calc w rp base s _ _ blk hP i k b _ _ (by omega) hs hk hq g2 g1 h2).mono fun e w' hh=>toS hh h1 h3 (by rw [h4])
  have hbk:s[k0].toNat = bt s k0:=(bt_in hks).symm
  unfold isOp at hop
  generalize bt s k0 = c at *
  rcases hop with rfl | rfl | rfl | rfl | rfl
  ·refine key true _ _ hok (fun W hW=>calc_add W rp base s _ _ blk hW (i + 2) k0 l0 k x y hs hk ho hks hbk ho2 h2 hd2 hv hv2 hx hy) (fun wv' a' l'=>?_) rfl
   have e:((x:Int) + (y:Int)).tmod 1000 = (((x + y) % 1000:Nat):Int):=by rw [← Int.natCast_add];rfl
   rw [e]
   exact rn_num σ wv a l k _ wv' a' l'
  ·refine key true _ _ hok (fun W hW=>calc_sub W rp base s _ _ blk hW (i + 2) k0 l0 k x y hs hk ho hks hbk ho2 h2 hd2 hv hv2 hx hy) (fun wv' a' l'=>?_) rfl
   have e:((x:Int) + 1000 - (y:Int)) % 1000 = (((x + 1000 - y) % 1000:Nat):Int):=by omega
   rw [e]
   exact rn_num σ wv a l k _ wv' a' l'
  ·refine key true _ _ hok (fun W hW=>calc_mul W rp base s _ _ blk hW (i + 2) k0 l0 k x y hs hk ho hks hbk ho2 h2 hd2 hv hv2 hx hy) (fun wv' a' l'=>?_) rfl
   have e:((x:Int) * (y:Int)).tmod 1000 = ((x * y % 1000:Nat):Int):=by rw [← Int.natCast_mul];rfl
   rw [e]
   exact rn_num σ wv a l k _ wv' a' l'
  ·by_cases h0:y = 0
   ·subst h0
    exact key false _ _ hok (fun W hW=>calc_div0 W rp base s _ _ blk hW (i + 2) k0 l0 k x hs hk ho hks hbk ho2 h2 hd2 hv hv2 hx) (fun wv' a' l'=>rfl) rfl
   ·have eb:binN 47 x y = some (x / y):=by unfold binN;simp [h0]
    rw [eb] at hok ⊢
    exact key true _ _ hok (fun W hW=>calc_div W rp base s _ _ blk hW (i + 2) k0 l0 k x y hs hk ho hks hbk ho2 h2 hd2 hv hv2 hx hy (by omega)) (fun wv' a' l'=>rn_num σ wv a l k _ wv' a' l') rfl
  ·by_cases h0:x < y
   ·have eb:binN 60 x y = some 1:=by unfold binN;simp [h0]
    rw [eb] at hok ⊢
    exact key true _ _ hok (fun W hW=>calc_lt W rp base s _ _ blk hW (i + 2) k0 l0 k x y hs hk ho hks hbk ho2 h2 hd2 hv hv2 hx hy h0) (fun wv' a' l'=>rn_num σ wv a l k 1 wv' a' l') rfl
   ·have eb:binN 60 x y = some 0:=by unfold binN;simp [h0]
    rw [eb] at hok ⊢
    exact key true _ _ hok (fun W hW=>calc_ge W rp base s _ _ blk hW (i + 2) k0 l0 k x y hs hk ho hks hbk ho2 h2 hd2 hv hv2 hx hy (by omega)) (fun wv' a' l'=>rn_num σ wv a l k 0 wv' a' l') rfl
end
end
section
theorem trB_app (a b:List Nat):trB (a ++ b) = trB a ++ trB b:=by
 unfold trB
 rw [bytes_app]
 simp
theorem trB_size (a:List Nat):(trB a).size = a.length:=by unfold trB;simp [ByteArray.size]
theorem stp_yes {c:Cf} {a:Ac} {σ:St} (ha:isStep a = true) (h:σ.left ≠ 0):stp c a σ = act c a (due σ):=by unfold stp;rw [if_pos ha,if_neg h]
theorem stp_no {c:Cf} {a:Ac} {σ:St} (ha:isStep a = true) (h:σ.left = 0):stp c a σ = (tire σ,false):=by unfold stp;rw [if_pos ha,if_pos h]
section
variable (w:World) (rp base:Nat) (s:ByteArray) (σ:St) (i m:Nat)
theorem simple_play (h:PlayR w rp base s σ) (hl:σ.left ≤ 5000) (htr:σ.tr.length ≤ 100000) (hb:base ≤ w.heap.size) (hs:s.size ≤ 100000) (hS:Simple s i m) :
  Calls prog 83 #[.pointer (some ⟨rp,0,none⟩),.int .i64 i] w fun e w'=>PlayS rp base s (stp cP (acN s i) σ).2 (stp cP (acN s i) σ).1 w e w':=by
 have hPR:=h
 obtain ⟨hn,blk,wv,a,l,hP⟩:=h
 have hi:i < s.size:=by have:=hS.line;omega
 have hbt:=bt_in hi
 by_cases h126:bt s i = 126
 ·have hD:KDrop s i m:=by
   have sm:smallN (bt s i) = true → False:=fun h=>by rw [h126] at h;simp [smallN] at h
   have gr:greatN (bt s i) = true → False:=fun h=>by rw [h126] at h;simp [greatN] at h
   rcases hS with h | h | h | h | h | h | h | h | h
   ·exact (sm h.1).elim
   ·exact (sm h.1).elim
   ·exact (sm h.1).elim
   ·exact (sm h.1).elim
   ·exact (gr h.1).elim
   ·exact (gr h.1).elim
   ·exact (gr h.1).elim
   ·have:=h.1;omega
   ·exact h
  have hst:stp cP (acN s i) σ = act cP (acN s i) σ:=by rw [acN_drop h126];rfl
  rw [hst]
  exact simple_drop w rp s _ hP.r i (fun _ _ _=>True) _ _ hi hs (by rw [← hbt];exact h126) ((drop_play w rp base s σ i m hPR hs hD).mono fun e w' hh=>⟨hh.1,hh.2⟩)
 ·have hstep:isStep (acN s i) = true:=by
   rcases hS with h | h | h | h | h | h | h | h | h
   ·rw [acN_size h];rfl
   ·rw [acN_load h];rfl
   ·obtain ⟨hm,e1,k,ho,e5,rfl⟩:=h
    rw [acN_set hm ho e5];rfl
   ·obtain ⟨hm,e1,k,l,ho,hop2,ho2,e5,rfl⟩:=h
    rw [acN_bin hm ho hop2 (byte_in rfl (by unfold isOp at hop2;omega))];rfl
   ·obtain ⟨hg,e1,k,l,ho,e2,e3,ho2,e5,rfl⟩:=h
    rw [acN_store hg e1 ho e2];rfl
   ·rw [acN_make h];rfl
   ·rw [acN_move h];rfl
   ·rw [acN_print h.1];rfl
   ·exact absurd h.1 h126
  by_cases h0:σ.left = 0
  ·rw [stp_no hstep h0]
   exact simple_tired w rp s _ hP.r i _ hi hs (by rw [← hbt];exact h126) ((due_tired w rp base s σ hPR h0).mono fun e w' hh=>⟨hh.1,hh.2⟩)
  ·rw [stp_yes hstep h0]
   have hDue:=(due_play w rp base s σ hPR h0 hl).mono fun e w' (hh:PlayS rp base s true (due σ) w e w')=>(show e = .returned (.bool true) ∧ (PlayR w' rp base s (due σ) ∧ Fr (FrP rp base) w w') from ⟨hh.1,hh.2⟩)
   have hcs:∀ W,(PlayR W rp base s (due σ) ∧ Fr (FrP rp base) w W) → W.cell? ⟨rp,0,none⟩ = some (.string s):=fun W hW=>by
    obtain ⟨⟨_,blk,wv,a,l,hP⟩,_⟩:=hW
    exact hP.r.cs
   have fin:∀ {b:Bool} {σ':St} {W:World} {e:Ending} {w':World},(PlayR W rp base s (due σ) ∧ Fr (FrP rp base) w W) → PlayS rp base s b σ' W e w' → e = .returned (.bool b) ∧ (PlayR w' rp base s σ' ∧ Fr (FrP rp base) w w'):=fun hW hh=>⟨hh.1,hh.2.1,hW.2.trans hh.2.2⟩
   rcases hS with hK | hK | hK | hK | hK | hK | hK | hK | hK
   ·exact simple_number w rp s _ hP.r i _ _ _ hi (by rw [← hbt];exact hK.1) hs hcs hDue (fun W hW=>(size_play W rp base s (due σ) i m hW.1 hs hK).mono fun e w' hh=>fin hW hh)
   ·exact simple_number w rp s _ hP.r i _ _ _ hi (by rw [← hbt];exact hK.1) hs hcs hDue (fun W hW=>(load_play W rp base s (due σ) i m hW.1 hs hK).mono fun e w' hh=>fin hW hh)
   ·exact simple_number w rp s _ hP.r i _ _ _ hi (by rw [← hbt];exact hK.1) hs hcs hDue (fun W hW=>(calc_play W rp base s (due σ) i m hW.1 hs (.inl hK)).mono fun e w' hh=>fin hW hh)
   ·exact simple_number w rp s _ hP.r i _ _ _ hi (by rw [← hbt];exact hK.1) hs hcs hDue (fun W hW=>(calc_play W rp base s (due σ) i m hW.1 hs (.inr hK)).mono fun e w' hh=>fin hW hh)
   ·have h1:=byte_in hK.2.1 (by decide)
    exact simple_store w rp s _ hP.r i _ _ _ h1 (by rw [← hbt];exact hK.1) (by rw [← bt_in h1];exact hK.2.1) hs hcs hDue (fun W hW=>(store_play W rp base s (due σ) i m hW.1 hs hK).mono fun e w' hh=>fin hW hh)
   ·have h2:=byte_in hK.2.2.1 (by decide)
    exact simple_gets w rp s _ hP.r i _ _ _ h2 (by rw [← hbt];exact hK.1) (by rw [← bt_in (show i + 1 < s.size by omega),hK.2.1];decide) (by rw [← bt_in h2];exact hK.2.2.1) hs hcs hDue (fun W hW=>(gets_play W rp base s (due σ) i m hW.1 hs (Nat.le_trans hb hW.2.size) hK).mono fun e w' hh=>fin hW hh)
   ·have h2:=(great_in hK.2.2.1).1
    exact simple_moves w rp s _ hP.r i _ _ _ h2 (by rw [← hbt];exact hK.1) (by rw [← bt_in (show i + 1 < s.size by omega),hK.2.1];decide) (by rw [← bt_in h2];intro q;have:=hK.2.2.1;rw [q] at this;simp [greatN] at this) hs hcs hDue (fun W hW=>(moves_play W rp base s (due σ) i m hW.1 hs hK).mono fun e w' hh=>fin hW hh)
   ·obtain ⟨e0,k0,ho,e5,rfl⟩:=hK
    have h2:=byte_in e5 (by decide)
    have hd:=nodigit e5 (.inr (.inl rfl))
    have hv:=odN_val ho h2 hd σ.num
    have hvk:=val_ok hn.num (odN_ok ho h2 hd)
    rw [acN_print e0]
    have hDue2:=(due_yes w rp s _ hP.r (by show (0:Int) < (σ.left:Int);omega) (by show (σ.left:Int) ≤ 5000;omega)).mono fun e w' (hh:_ ∧ _ ∧ _)=>(show e = .returned (.bool true) ∧ (PlayAt w' rp base s (rnOf (due σ) wv a l) (fun k=>toI (σ.bx k)) blk ∧ Fr (FrP rp base) w w') from by
     obtain ⟨h1,hR,hF⟩:=hh
     refine ⟨h1,?_,hF.mono (fun k _ e=>.inl e)⟩
     have hx:({ rnOf σ wv a l with left:=(rnOf σ wv a l).left - 1 }:Rn) = rnOf (due σ) wv a l:=by
      unfold rnOf due
      simp only [Rn.mk.injEq,true_and,and_true]
      omega
     rw [hx] at hR
     exact hP.own hF hR rfl rfl)
    refine simple_print w rp s _ hP.r i k0 (valO σ.num (odN s (i + 1))) (rnOf (due σ) wv a l) _ _ hi hs (by rw [← hbt];exact e0) ho h2 hd hv hvk (by show (trB σ.tr).size ≤ 100000;rw [trB_size];exact htr) (fun W hW=>hW.1.r) (fun W W' hW hF=>?_) hDue2
    have hP2:=hW.1.no hF
    have hF2:=(Fr.refl (OneB rp) W').setCell (p:=⟨rp,108,none⟩) (fun _=>rfl) (.string (trB σ.tr ++ trB (digF 3 (valO σ.num (odN s (i + 1)))) ++ trB [59]))
    refine ⟨⟨hn.like rfl rfl,blk,wv,a,l,?_⟩,(hW.2.trans hF.of_no).trans (hF2.mono (fun k _ e=>.inl e))⟩
    have hx:rnOf (act cP (.print (odN s (i + 1))) (due σ)).1 wv a l = { rnOf (due σ) wv a l with tr:=trB σ.tr ++ trB (digF 3 (valO σ.num (odN s (i + 1)))) ++ trB [59] }:=by
     show rnOf { due σ with tr:=σ.tr ++ digF 3 (valO σ.num (odN s (i + 1))) ++ [59] } wv a l = _
     unfold rnOf
     simp only [trB_app]
    rw [hx]
    exact hP2.own hF2 (hP2.r.setTrace _) rfl rfl
   ·exact absurd hK.1 h126
theorem value_play (h:PlayR w rp base s σ) (hs:s.size ≤ 100000) {j:Nat} (ho:Opnd s i j) (hj:j < s.size) (hd:digitN (bt s j) = false) :
  CR 82 #[.pointer (some ⟨rp,0,none⟩),.int .i64 i] w (.int .i64 (valO σ.num (odN s i):Int)):=by
 obtain ⟨hn,blk,wv,a,l,hP⟩:=h
 have:=value_fn w rp s _ hP.r i j ho hj hs hd
 rw [show valN s (rnOf σ wv a l).num i j = (valO σ.num (odN s i):Int) from odN_val ho hj hd σ.num] at this
 exact this
end
end
end Go.Proofs.YthcjcjfgdgnljabGreatDoor
