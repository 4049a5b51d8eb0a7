import Derived.Test.YthcjcjfgdgnljabGreatDoorGMchW
set_option linter.unusedVariables false
set_option maxHeartbeats 4000000
set_option maxRecDepth 8000
open Go.Proofs.Tryz
namespace Go.Proofs.YthcjcjfgdgnljabGreatDoor
open Go.RowKit
theorem act_byte {c:Cf} {a:Ac} {σ:St} (h:∀ x,x ∈ σ.tr → x < 256):∀ x,x ∈ (act c a σ).1.tr → x < 256:=by
 cases a
 case print o =>
  intro x hx
  have hx':x ∈ σ.tr ++ digF 3 (valO σ.num o) ++ [59]:=hx
  rcases List.mem_append.1 hx' with q | q
  ·rcases List.mem_append.1 q with q | q
   ·exact h x q
   ·exact dig_lt _ _ _ q
  ·simp at q;omega
 all_goals
  simp only [act]
  (repeat' split) <;> exact h
theorem part_byte {c:Cf} {t:Pt} {clo nx:Nat} {σ:St} (h:∀ x,x ∈ σ.tr → x < 256):∀ x,x ∈ (partR c t clo nx σ).2.1.tr → x < 256:=by
 unfold partR
 split
 ·unfold stp
  split
  ·split
   ·exact h
   ·exact act_byte (σ:=due σ) h
  ·exact act_byte h
 ·split
  ·split
   ·exact h
   ·split <;> exact h
  ·split
   ·exact h
   ·split <;> exact h
theorem ri_byte {c:Cf} {p:Nat → Pt} {C:Nat → Nat} {np m:Nat} {x:Nat × St × Bool} {σf:St} (h:RunsIn c p C np m x σf):(∀ y,y ∈ x.2.1.tr → y < 256) → ∀ y,y ∈ σf.tr → y < 256:=by
 induction h with
 | over=>exact id
 | fin _=>exact id
 | step _ _ ih=>exact fun q=>ih (part_byte q)
theorem conv_tr {w:World} {base:Nat} {tv:Value} {l:List Nat} (h:w.ownsRow base 5 1 tv l.length (l.map u8C)) (hb:∀ y,y ∈ l → y < 256):(convert 128 9 tv).run prog w = .ok (.string (trB l)) w:=by
 rcases h.2 with ⟨rfl,h0⟩ | ⟨g,cap,cur,rfl,hg,_⟩
 ·have e:l = []:=List.eq_nil_of_length_eq_zero h0
  subst e
  rw [run_convert_bytes_string w _ _ 5 none 0 0 underlying128 underlying5 underlying9]
  simp [Conv.bytesToString,trB]
  rfl
 ·have hc:=h.cells (g:=g) rfl
  have:=run_convert_bytes_back (P:=prog) w 128 9 5 ⟨g,0,none⟩ cap (l.map UInt8.ofNat) underlying128 underlying5 underlying9 (fun j hj=>by
   have hj':j < l.length:=by simpa using hj
   have:=hc j (u8C l[j]) (by simp [hj'])
   rw [this]
   have hlt:=hb l[j] (List.getElem_mem hj')
   unfold u8C
   simp
   omega)
  rw [List.length_map] at this
  exact this
set_option maxRecDepth 100000 in
theorem rplay_arg (w:World) (ao:Option Addr) (np cap:Nat) (f:Int) (hf:f < 0 ∨ 5000 < f) :
  CR 54 #[.slice ao np cap,.int .i64 f] w (.tuple #[out0,.int .i64 5]):=by
 have HB:Hid (∀ W,∃ A:Array Value,A.size = 87 ∧ (∀ v ∈ A.toList,v.oneCell' = true) ∧ CR 78 #[.slice ao np cap,.int .i64 4096,.int .i64 f] W (.tuple #[.agg A,.int .i64 5])):=fun W=>⟨zMac,zMac_size,zMac_one,begin_arg W (.slice ao np cap) 4096 f (by omega) (by omega) hf⟩
 have HO:Hid _:=OutAt.new w 71 (.int .i64 0) (.string ⟨#[]⟩) (.int .i64 0) (.int .i64 0)
 have HF0:Hid (Fr NoB w (w.alloc (.cells #[.int .i64 0,.string ⟨#[]⟩,.int .i64 0,.int .i64 0] 71))):=(Fr.refl _ _).alloc _
 clear hf
 go_enter func54,ntmps54
 go_upto_region 1 with fail
 generalize (w.alloc _) = W0 at *
 obtain ⟨A,hA1,hA2,hB⟩:=HB.out W0
 have HB0:Hid _:=hB
 clear hB HB
 go_upto_region 2 with (go_at_call 78;refine Calls.mono HB0.out ?_;rintro e w1 ⟨rfl,hF1⟩;have HRm:Hid _:=Room.new w1 zeroCells143 143 87 (by rw [zMac_is,zMac_size];omega);have hst:=room_store HRm.out hA1 hA2)
 have hF2:Fr NoB W0 ((w1.alloc (.cells zeroCells143 143)).setCells w1.heap.size 0 A.toList):=Fr.setCells (fun q=>by have:=hF1.size;omega) _ _ (hF1.alloc _)
 generalize ((w1.alloc (.cells zeroCells143 143)).setCells w1.heap.size 0 A.toList) = W2 at *
 have HO1:Hid _:=HO.out.fr hF2 id
 obtain ⟨c0,c1,c2,c3,hf⟩:=HO1.out
 have f0:=hf 0
 have f1:=hf 1
 have f2:=hf 2
 have f3:=hf 3
 clear hf hst
 go_wp2
 obtain ⟨k0,k1,k2,k3,kf⟩:=HO1.out.put (u0:=.int .i64 0) (u1:=.string ⟨#[]⟩) (u2:=.int .i64 0) (u3:=.int .i64 0)
 exact bodyPost_ret (v:=.tuple #[out0,.int .i64 5]) (by simp [results,results54,go_sem,k0,k1,k2,k3,out0]) rfl ⟨rfl,(HF0.out.trans hF2).put4 (fun q=>absurd q (by omega)) _ _ _ _⟩
set_option maxRecDepth 100000 in
theorem rplay_ok (w:World) (ao:Option Addr) (np cap k m:Nat) (p:Nat → Pt) (C:Nat → Nat) (σf:St) (hk:k ≤ 5000) (hrow:PartRow w ao np p C) (hg:∀ g,ao = some ⟨g,0,none⟩ → g < w.heap.size) (hfl:FlatOk p np) (hC:∀ i,i < np → C i < 99999) (hnp:np < 100000)
  (hsg:∀ i,i < np → (p i).kind = 0 → (p i).sign = 0 ∨ sgOk (p i).sign) (hR:RunsIn (cE false 4096) p C np m (0,st0 k,false) σf) (h4:σf.status ≠ 4) (htab:∀ W,Fr NoB w W → TabOk W) :
  CR 54 #[.slice ao np cap,.int .i64 k] w (.tuple #[outP σf,.int .i64 0]):=by
 have HB:Hid (∀ W,Calls prog 78 #[.slice ao np cap,.int .i64 4096,.int .i64 k] W fun e w'=>∃ r A,e = .returned (.tuple #[.agg A,.int .i64 0]) ∧ Hid (A = mac0 (.slice ao np cap) (.slice (some ⟨r,0,none⟩) 4096 4096) k ∧ Fr NoB W w' ∧
   W.heap.size ≤ r ∧ r < w'.heap.size ∧ (∀ j,j < 4096 * 2 → w'.cell? ⟨r,j,none⟩ = some (.int .i64 0)) ∧ (∀ o,w'.frozen? ⟨r,o,none⟩ = false))):=fun W=>(begin_ok W ao np cap 4096 k (by omega) (by omega) hk).mono fun e w' ⟨r,h1,h2⟩=>⟨r,_,h1,⟨rfl,h2⟩⟩
 have HO:Hid _:=OutAt.new w 71 (.int .i64 0) (.string ⟨#[]⟩) (.int .i64 0) (.int .i64 0)
 have HF0:Hid (Fr NoB w (w.alloc (.cells #[.int .i64 0,.string ⟨#[]⟩,.int .i64 0,.int .i64 0] 71))):=(Fr.refl _ _).alloc _
 have hl0:(w.alloc (.cells #[.int .i64 0,.string ⟨#[]⟩,.int .i64 0,.int .i64 0] 71)).heap.size = w.heap.size + 1:=by simp
 have HRf:Hid _:=And.intro hrow (And.intro hg (And.intro hfl (And.intro hC (And.intro hsg (And.intro hR (And.intro h4 htab))))))
 have Hby:Hid _:=ri_byte hR (fun y hy=>by simp [st0] at hy)
 have HL0:Hid _:=hl0
 clear hrow hg hfl hC hsg hR h4 htab hl0
 go_enter func54,ntmps54
 go_upto_region 1 with fail
 generalize (w.alloc _) = W0 at *
 go_upto_region 2 with (go_at_call 78;refine (HB.out _).mono ?_;rintro e w1 ⟨r,A,rfl,HX⟩;have HRm:Hid _:=Room.new w1 zeroCells143 143 87 (by rw [zMac_is,zMac_size];omega);have hA1:A.size = 87:=(by rw [HX.out.1];exact mac0_size _ _ _);have hst:=room_store HRm.out (A:=A) hA1 (by rw [HX.out.1];exact mac0_one rfl rfl))
 obtain ⟨hA,hF1,hr1,hr2,hr3,hr4⟩:=HX.out
 have hl1:W0.heap.size ≤ w1.heap.size:=hF1.size
 have hFa:Fr NoB w1 (w1.alloc (.cells zeroCells143 143)):=(Fr.refl _ _).alloc _
 have hM:=mm_new (ao:=ao) (np:=np) (cap:=cap) (n:=4096) (k:=k) (base:=W0.heap.size) (r:=r) HRm.out hl1 hr1 (by omega) (by omega) (by omega) hk (Nat.lt_of_lt_of_le hr2 hFa.size) (fun j hj=>hFa.cell_some (hr3 j hj) id) (fun o=>(hFa.frozen (p:=⟨r,o,none⟩) hr2 id).trans (hr4 o))
 rw [← hA] at hM
 have hF2:Fr NoB W0 ((w1.alloc (.cells zeroCells143 143)).setCells w1.heap.size 0 A.toList):=Fr.setCells (fun q=>by omega) _ _ (hF1.trans hFa)
 have HM:Hid _:=hM
 clear hM hA hr1 hr2 hr3 hr4 hFa hst HX HRm HB
 generalize ((w1.alloc (.cells zeroCells143 143)).setCells w1.heap.size 0 A.toList) = W2 at *
 generalize w1.heap.size = mp at *
 have HF2:Hid _:=HF0.out.trans hF2
 have HO2:Hid _:=HO.out.fr hF2 id
 have HRn:Hid (Calls prog 79 #[.pointer (some ⟨mp,0,none⟩)] W2 fun e w'=>e = .returned (.tuple #[]) ∧ RunE mp r 4096 W0.heap.size (.slice ao np cap) false σf W2 w'):=by
  obtain ⟨q1,q2,q3,q4,q5,q6,q7,q8⟩:=HRf.out
  exact run_fn W2 mp r 4096 W0.heap.size np cap ao p C false _ _ _ (st0 k) σf m HM.out (q1.no HF2.out) (fun g e=>by have:=q2 g e;have:=HL0.out;omega) q3 q4 hnp q5 q6 (by simp [st0]) (fun _=>q7) (fun W hW=>q8 W (HF2.out.then hW (fun j hj q=>by unfold FrM at q;have:=HL0.out;omega)))
 clear hF1 hF2
 go_upto_region 5 with (go_at_call 79;refine Calls.mono HRn.out ?_;rintro e w3 ⟨rfl,hE⟩;have HE:Hid _:=hE;clear hE)
 obtain ⟨⟨nx,ov,B,V,tv,hM3⟩,hF3⟩:=HE.out
 have cu:=hM3.m.cu
 have ct:=hM3.m.ct
 unfold mxOf at cu ct
 simp only [] at cu ct
 have hcv:=conv_tr hM3.tr Hby.out
 have HO3:Hid _:=HO2.out.fr hF3 (fun q=>by unfold FrM at q;have:=HL0.out;omega)
 have HF4:Hid (Fr NoB w w3):=HF2.out.then hF3 (fun j hj q=>by unfold FrM at q;have:=HL0.out;omega)
 obtain ⟨c0,c1,c2,c3,hf⟩:=HO3.out
 have f0:=hf 0
 have f1:=hf 1
 have f2:=hf 2
 have f3:=hf 3
 clear hf hF3 hM3
 generalize hTR:trB σf.tr = TR at *
 have HTR:Hid _:=hTR
 clear hTR
 go_wp2
 obtain ⟨k0,k1,k2,k3,kf⟩:=HO3.out.put (u0:=.int .i64 σf.status) (u1:=.string TR) (u2:=.int .i64 0) (u3:=.int .i64 0)
 exact bodyPost_ret (v:=.tuple #[outP σf,.int .i64 0]) (by simp [results,results54,go_sem,k0,k1,k2,k3,outP,HTR.out]) rfl ⟨rfl,HF4.out.put4 (fun q=>absurd q (by omega)) _ _ _ _⟩
theorem prt_ok {p:Nat → Pt} {C:Nat → Nat}:∀ {P:Pg} {k l:Nat},Prt p C P k l → (∀ q,k ≤ q → q < l → PtOk (p q)) → (∀ q,k ≤ q → q < l → (p q).kind < 8 → AcOk (acP (p q))) → PgOk P
 | .nil,_,_,_,_,_=>trivial
 | .act a r,k,l,h,h1,h2=>by
  obtain ⟨q1,q2,q3⟩:=h
  have:=q3.le
  refine ⟨?_,prt_ok q3 (fun q a b=>h1 q (by omega) b) (fun q a b=>h2 q (by omega) b)⟩
  rw [← q2]
  exact h2 k (by omega) (by omega) q1
 | .ite o P1 P2 r,k,l,h,h1,h2=>by
  obtain ⟨ka,kb,a1,a2,a3,a4,a5,a6,a7,a8,a9⟩:=h
  have l1:=a4.le
  have l2:=a7.le
  have l3:=a9.le
  refine ⟨?_,prt_ok a4 (fun q a b=>h1 q (by omega) (by omega)) (fun q a b=>h2 q (by omega) (by omega)),prt_ok a7 (fun q a b=>h1 q (by omega) (by omega)) (fun q a b=>h2 q (by omega) (by omega)),prt_ok a9 (fun q a b=>h1 q (by omega) (by omega)) (fun q a b=>h2 q (by omega) (by omega))⟩
  rw [← a2]
  exact (h1 k (by omega) (by omega)).o1
 | .loop o P1 r,k,l,h,h1,h2=>by
  obtain ⟨ka,a1,a2,a3,a4,a5,a6,a7⟩:=h
  have l1:=a4.le
  have l3:=a7.le
  refine ⟨?_,prt_ok a4 (fun q a b=>h1 q (by omega) (by omega)) (fun q a b=>h2 q (by omega) (by omega)),prt_ok a7 (fun q a b=>h1 q (by omega) (by omega)) (fun q a b=>h2 q (by omega) (by omega))⟩
  rw [← a2]
  exact (h1 k (by omega) (by omega)).o1
structure Told (s:ByteArray) (p:Nat → Pt) (C:Nat → Nat) (np:Nat):Prop where
 prt:Prt p C (pgN s (s.size + 1) 0 s.size) 0 np
 fl:FlatOk p np
 ac:∀ q,q < np → (p q).kind < 8 → AcOk (acP (p q)) ∧ sgA (acP (p q))
 cl:∀ i,C i < 99999
 nl:np < 99999
theorem told_of {s:ByteArray} (hs:s.size ≤ 400) (n:Nat) (h2:(rIter s n r0).z.2 = 0) (hl:¬ (rIter s n r0).z.1 < s.size) (hO:(rIter s n r0).O = []):Told s (pOf (rIter s n r0).P) (cloL (rIter s n r0).P) (rIter s n r0).P.length:=by
 have h9:s.size ≤ 90000:=by omega
 have hseg:=seg_told h9 n h2 hl hO
 have hJ:=rj_iter h9 n (rj0 s)
 have hU:=ru_iter h9 n ru0 (rj0 s)
 have hn:(rIter s n r0).P.length < 99999:=by have:=hJ.pl;have h5:(rIter s n r0).z.1 ≤ s.size:=hJ.hin;omega
 refine ⟨prt_of_seg (fun q _ hq hc=>clo_at _ _ rfl q hq hc (fun q' hq' hc' e=>hU.uq q' q hq' hq hc' hc e)) hseg,hJ.fl,fun q hq hk=>seg_fit hseg q (Nat.zero_le _) hq hk,fun i=>?_,hn⟩
 have:=clo_le _ (rIter s n r0).P rfl i
 omega
theorem Told.sg {s:ByteArray} {p:Nat → Pt} {C:Nat → Nat} {np:Nat} (h:Told s p C np):∀ i,i < np → (p i).kind = 0 → (p i).sign = 0 ∨ sgOk (p i).sign:=fun i hi hk=>by
 by_cases hz:(p i).sign = 0
 ·exact .inl hz
 ·have:=(h.ac i hi (by omega)).2
  rw [show acP (p i) = .bin (p i).num (p i).o1 (p i).sign (p i).o2 by unfold acP;rw [if_pos hk,if_neg hz]] at this
  exact .inr this
theorem Told.pg {s:ByteArray} {p:Nat → Pt} {C:Nat → Nat} {np:Nat} (h:Told s p C np):PgOk (pgN s (s.size + 1) 0 s.size):=prt_ok h.prt (fun q _ hq=>h.fl.ok q hq) (fun q _ hq hk=>(h.ac q hq hk).1)
theorem check_ok {s:ByteArray} (hc:checkN s = (0,0)):s.size ≤ 400 ∧ Prog s (s.size + 1) 0 s.size ∧ misT s < 0:=by
 unfold checkN at hc
 by_cases h4:400 < s.size
 ·rw [if_pos h4] at hc;cases hc
 ·rw [if_neg h4] at hc
  by_cases q:(run s [(83,true)] 0 0).1 ≠ 0
  ·rw [if_pos q] at hc
   exact absurd (congrArg Prod.fst hc) q
  ·rw [if_neg q] at hc
   refine ⟨by omega,prog_of_ok (run_zero (by omega)),?_⟩
   by_cases hm:0 ≤ misT s
   ·rw [if_pos hm] at hc;cases hc
   ·omega
theorem plays_end {s:ByteArray} (hc:checkN s = (0,0)) {p:Nat → Pt} {C:Nat → Nat} {np:Nat} (h:Told s p C np) (k:Nat):∃ σ τ m,Ends cP s k σ ∧ RunsIn (cE false 4096) p C np m (0,st0 k,false) τ ∧ τ.status ≠ 4 ∧ outP τ = outP σ:=by
 obtain ⟨h4,hpr,hm⟩:=check_ok hc
 obtain ⟨σ,b,hE⟩:=Ex.total cP k (pgN s (s.size + 1) 0 s.size) (st0 k) (Nat.le_refl _)
 have hok:=(along_pg (s.size + 1) 0 s.size hpr).2 (fun _=>false) hm
 have hsd:=(hE.sound rfl h.pg (f:=fun _=>false) (fun _ _=>rfl) hok (fun b q=>by cases q) (by simp [st0])).1
 obtain ⟨τ,hE2,hS,_⟩:=hE.heap (n:=4096) (by omega) h.pg (τ:=st0 k) ⟨rfl,rfl,rfl,rfl,rfl⟩ ⟨fun j hj q=>absurd rfl q,fun j hj=>by simp [st0],fun i j _ _ _ q=>absurd rfl q⟩
 obtain ⟨m,hR⟩:=hE2.runs_all h.prt
 refine ⟨σ,τ,m,⟨b,hE⟩,hR,by rw [hS.status];exact hsd,?_⟩
 unfold outP
 rw [hS.status,hS.tr]
end Go.Proofs.YthcjcjfgdgnljabGreatDoor
