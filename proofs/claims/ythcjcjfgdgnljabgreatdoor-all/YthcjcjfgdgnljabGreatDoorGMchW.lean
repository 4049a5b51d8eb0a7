import Derived.Test.YthcjcjfgdgnljabGreatDoorGDevZG
import Derived.BigQuiet
import Derived.Laws.IdiomCopy
import Derived.Laws.Cells
import Derived.Laws.IdiomStrings
set_option linter.unusedVariables false
set_option maxHeartbeats 4000000
set_option maxRecDepth 8000
open Go.Proofs.Tryz
namespace Go.Proofs.YthcjcjfgdgnljabGreatDoor
open Go.RowKit
theorem act_go_status {c:Cf} {a:Ac} {σ:St} (h:(act c a σ).2 = true):(act c a σ).1.status = σ.status:=by
 cases a
 case make b o =>
  simp only [act] at h ⊢
  by_cases h1:c.strict = true ∧ σ.bx b ≠ []
  ·rw [if_pos h1] at h;exact absurd h (by simp [ends])
  ·rw [if_neg h1] at h ⊢
   by_cases h2:valO σ.num o < 1 ∨ 64 < valO σ.num o
   ·rw [if_pos h2] at h;exact absurd h (by simp [ends])
   ·rw [if_neg h2] at h ⊢
    cases ha:c.al { σ with bx:=upB σ.bx b [] } (valO σ.num o) with
    | none=>rw [ha] at h;exact absurd h (by simp [ends])
    | some a=>rfl
 all_goals simp only [act] at h ⊢ <;> (repeat' split) <;> first | rfl | (exfalso;simp_all [ends])
theorem partR_status {c:Cf} {t:Pt} {clo nx:Nat} {σ:St} (h:(partR c t clo nx σ).2.2 = false):(partR c t clo nx σ).2.1.status = σ.status:=by
 unfold partR at h ⊢
 split
 ·rename_i hk
  rw [if_pos hk] at h
  have h2:(stp c (acP t) σ).2 = true:=by simpa using h
  unfold stp at h2 ⊢
  split
  ·rename_i hs
   rw [if_pos hs] at h2
   split
   ·rename_i hl
    rw [if_pos hl] at h2
    cases h2
   ·rename_i hl
    rw [if_neg hl] at h2
    exact act_go_status h2
  ·rename_i hs
   rw [if_neg hs] at h2
   exact act_go_status h2
 ·rename_i hk
  rw [if_neg hk] at h
  split
  ·rename_i hb
   rw [if_pos hb] at h
   split
   ·rename_i hl
    rw [if_pos hl] at h
    cases h
   ·split <;> rfl
  ·split
   ·rfl
   ·split <;> rfl
theorem ri_over {c:Cf} {p:Nat → Pt} {C:Nat → Nat} {np m nx:Nat} {σ σf:St} (h:RunsIn c p C np m (nx,σ,true) σf):σf = σ:=by
 cases h
 rfl
theorem ri_fin {c:Cf} {p:Nat → Pt} {C:Nat → Nat} {np m nx:Nat} {σ σf:St} (h:RunsIn c p C np m (nx,σ,false) σf) (hn:np ≤ nx):σf = σ:=by
 cases h with
 | fin _=>rfl
 | step h _=>omega
theorem ri_step {c:Cf} {p:Nat → Pt} {C:Nat → Nat} {np m nx:Nat} {σ σf:St} (h:RunsIn c p C np m (nx,σ,false) σf) (hn:nx < np):∃ m',m = m' + 1 ∧ RunsIn c p C np m' (partR c (p nx) (C nx) nx σ) σf:=by
 cases h with
 | fin h=>omega
 | step _ hr=>exact ⟨_,rfl,hr⟩
def RunE (mp r n base:Nat) (pv:Value) (st:Bool) (σf:St) (w w':World):Prop:=(∃ nx ov B V tv,MM w' mp r n base pv st σf nx ov B V tv) ∧ Fr (FrM base) w w'
theorem run_fn (w:World) (mp r n base np cap:Nat) (ao:Option Addr) (p:Nat → Pt) (C:Nat → Nat) (st:Bool) (tv:Value) (B V:Nat → Int) (σ σf:St) (m:Nat)
  (h:MM w mp r n base (.slice ao np cap) st σ 0 false B V tv) (hrow:PartRow w ao np p C) (hg:∀ g,ao = some ⟨g,0,none⟩ → g < base) (hfl:FlatOk p np) (hC:∀ i,i < np → C i < 99999) (hnp:np < 100000)
  (hsg:∀ i,i < np → (p i).kind = 0 → (p i).sign = 0 ∨ sgOk (p i).sign) (hR:RunsIn (cE st n) p C np m (0,σ,false) σf) (h0:σ.status ≠ 4) (h4:st = false → σf.status ≠ 4) (htab:∀ W,Fr (FrM base) w W → TabOk W) :
  Calls prog 79 #[.pointer (some ⟨mp,0,none⟩)] w fun e w'=>e = .returned (.tuple #[]) ∧ RunE mp r n base (.slice ao np cap) st σf w w':=by
 have HM:Hid _:=h
 have Hrow:Hid _:=hrow
 have HR:Hid _:=hR
 have HC:Hid _:=And.intro hC (And.intro hsg (And.intro h0 (And.intro h4 htab)))
 have Hg:Hid _:=hg
 have Hfl:Hid _:=hfl
 clear h hrow hR hC hsg h0 h4 htab hg hfl
 go_enter func79,ntmps79
 go_wp2
 go_loopg [19] m (fun k _ wr=>∃ (nx:Nat) (σ':St) (ov:Bool) (B V:Nat → Int) (tv:Value),MM wr mp r n base (.slice ao np cap) st σ' nx ov B V tv ∧ RunsIn (cE st n) p C np k (nx,σ',ov) σf ∧ (ov = false → σ'.status ≠ 4) ∧ Fr (FrM base) w wr)
 case atStart=>exact ⟨0,σ,false,B,V,tv,HM.out,HR.out,fun _=>HC.out.2.2.1,Fr.refl _ _⟩
 case round =>
  obtain ⟨nx,τ,ov,B',V',tv',hM,hR',hst,hF⟩:=hrel
  have co:=hM.m.co
  have cx:=hM.m.cx
  have cp:=hM.m.cp
  unfold mxOf at co cx
  simp only [] at co cx
  have hnx:=hM.nxb
  have HM':Hid _:=hM
  have HF:Hid _:=hF
  clear hM hF HM HR
  cases ov
  ·by_cases hlt:nx < np
   ·obtain ⟨k',hk',hr⟩:=ri_step hR' hlt
    have hd:decide ((nx:Int) < (np:Int)) = true:=by simp;omega
    obtain ⟨g,hao⟩:=Hrow.out.some_ (by omega)
    subst hao
    have hgb:=Hg.out g rfl
    have hok:=Hfl.out.ok nx hlt
    have hst2:=hst rfl
    go_upto_region 0 with fail
    go_quiet (fail)
    have hFq:Fr NoB wr (wr.drewN nq):=(Fr.refl _ _).drewN _
    have HM2:Hid _:=HM'.out.no hFq
    have HF2:Hid _:=HF.out.trans (frM_no hFq)
    have hrow2:=Hrow.out.fr HF2.out (fun g' e q=>by have:=Hg.out g' e;unfold FrM at q;omega)
    have HrP:Hid _:=And.intro hr (And.intro hk' (And.intro hok hst2))
    clear hFq co cx cp hr hR' hst hok hst2
    generalize wr.drewN nq = W2 at *
    have cx:=HM2.out.m.cx
    have cp:=HM2.out.m.cp
    have fx:=HM2.out.m.fz 1
    have hml:=HM2.out.m.lt
    have hmb:=HM2.out.mb
    have hgl:g < W2.heap.size:=by omega
    unfold mxOf at cx
    simp only [] at cx
    have d0:W2.cell? ⟨g,nx * 12,none⟩ = _:=hrow2.c g nx 0 _ hlt rfl rfl
    have d1:=hrow2.c g nx 1 _ hlt rfl rfl
    have d2:=hrow2.c g nx 2 _ hlt rfl rfl
    have d3:=hrow2.c g nx 3 _ hlt rfl rfl
    have d4:=hrow2.c g nx 4 _ hlt rfl rfl
    have d5:=hrow2.c g nx 5 _ hlt rfl rfl
    have d6:=hrow2.c g nx 6 _ hlt rfl rfl
    have d7:=hrow2.c g nx 7 _ hlt rfl rfl
    have d8:=hrow2.c g nx 8 _ hlt rfl rfl
    have d9:=hrow2.c g nx 9 _ hlt rfl rfl
    have d10:=hrow2.c g nx 10 _ hlt rfl rfl
    have d11:=hrow2.c g nx 11 _ hlt rfl rfl
    clear hrow2
    generalize hpn:p nx = t at *
    generalize hcn:C nx = clo at *
    have HPN:Hid (p nx = t ∧ C nx = clo):=⟨hpn,hcn⟩
    clear hpn hcn
    obtain ⟨kind,place,num,box,src,o1,sign,o2,opn⟩:=t
    simp only [] at d0 d1 d2 d3 d4 d5 d6 d7 d8 d9 d10 d11
    obtain ⟨b1,hb1⟩:∃ b,odB o1 = b:=⟨_,rfl⟩
    obtain ⟨x1,hx1⟩:∃ b,odI o1 = b:=⟨_,rfl⟩
    obtain ⟨b2,hb2⟩:∃ b,odB o2 = b:=⟨_,rfl⟩
    obtain ⟨x2,hx2⟩:∃ b,odI o2 = b:=⟨_,rfl⟩
    rw [hb1] at d5
    rw [hx1] at d6
    rw [hb2] at d8
    rw [hx2] at d9
    have HOD:Hid (odB o1 = b1 ∧ odI o1 = x1 ∧ odB o2 = b2 ∧ odI o2 = x2):=⟨hb1,hx1,hb2,hx2⟩
    clear hb1 hx1 hb2 hx2
    go_upto_region 1 with fail
    go_region
    have HPt:Hid (∀ W,MM W mp r n base (.slice (some ⟨g,0,none⟩) np cap) st τ (nx + 1) false B' V' tv' → Fr (FrM base) w W → Calls prog 107 #[.pointer (some ⟨mp,0,none⟩),.agg #[.int .i64 kind,.int .i64 place,.int .i64 num,.int .i64 box,.int .i64 src,.bool b1,.int .i64 x1,.int .u8 sign,.bool b2,.int .i64 x2,.int .i64 opn,.int .i64 clo]] W fun e w'=>PartS mp r n base (.slice (some ⟨g,0,none⟩) np cap) st (partR (cE st n) (p nx) (C nx) nx τ) W e w'):=fun W hW hFW=>by
     obtain ⟨hr,hk',hok,hst2⟩:=HrP.out
     have hok2:PtOk (p nx):=by rw [HPN.out.1];exact hok
     have h44:st = false → (partR (cE st n) (p nx) (C nx) nx τ).2.1.status ≠ 4:=fun q=>by
      cases hov:(partR (cE st n) (p nx) (C nx) nx τ).2.2 with
      | false=>rw [partR_status hov];exact hst2
      | true =>
       have hr2:RunsIn (cE st n) p C np k' ((partR (cE st n) (p nx) (C nx) nx τ).1,(partR (cE st n) (p nx) (C nx) nx τ).2.1,true) σf:=by
        rw [← hov,HPN.out.1,HPN.out.2]
        exact hr
       rw [← ri_over hr2]
       exact HC.out.2.2.2.1 q
     have:=mpart_fn W mp r n base nx (.slice (some ⟨g,0,none⟩) np cap) tv' st τ B' V' hW (p nx) (C nx) hok2 (by have:=HC.out.1 nx hlt;omega) (HC.out.2.1 nx hlt) h44 (fun W2 hW2=>HC.out.2.2.2.2 W2 (hFW.trans hW2))
     unfold ptV at this
     rw [HPN.out.1,HPN.out.2] at this ⊢
     simp only [HOD.out.1,HOD.out.2.1,HOD.out.2.2.1,HOD.out.2.2.2] at this
     exact this
    obtain ⟨hFA,HPA⟩:=box_new W2 kind place num box src b1 x1 sign b2 x2 opn clo
    have hFD:=hFA.drew
    have HPD:Hid _:=HPA.out.fr ((Fr.refl NoB _).drew) id
    clear hFA HPA d0 d1 d2 d3 d4 d5 d6 d7 d8 d9 d10 d11 cx cp fx
    have hqm:W2.heap.size ≠ mp:=by omega
    clear hml hgl
    generalize (W2.alloc (Obj.cells #[.int .i64 kind,.int .i64 place,.int .i64 num,.int .i64 box,.int .i64 src,.bool b1,.int .i64 x1,.int .u8 sign,.bool b2,.int .i64 x2,.int .i64 opn,.int .i64 clo] 121)).drew = W3 at hFD HPD ⊢
    generalize W2.heap.size = q at HPD hqm ⊢
    have HM3:Hid _:=HM2.out.no hFD
    have cx:W3.cell? ⟨mp,1,none⟩ = some (.int .i64 nx):=HM3.out.m.cx
    have fx:=HM3.out.m.fz 1
    have hF4:Fr (OneB mp) W3 (W3.setCell ⟨mp,1,none⟩ (.int .i64 ((nx:Int) + 1))):=(Fr.refl (OneB mp) W3).setCell (p:=⟨mp,1,none⟩) (fun _=>rfl) _
    have HP4:Hid _:=HPD.out.fr hF4 (fun e=>hqm (by unfold OneB at e;exact e))
    have HM4:Hid (MM (W3.setCell ⟨mp,1,none⟩ (.int .i64 ((nx:Int) + 1))) mp r n base (.slice (some ⟨g,0,none⟩) np cap) st τ (nx + 1) false B' V' tv'):=by
     have:=HM3.out.setNx (v:=nx + 1) (by omega)
     rwa [show ((nx + 1:Nat):Int) = (nx:Int) + 1 by omega] at this
    have HF4:Hid (Fr (FrM base) w (W3.setCell ⟨mp,1,none⟩ (.int .i64 ((nx:Int) + 1)))):=(HF2.out.trans (frM_no hFD)).trans (frM_one hF4 hmb)
    have c0:=HP4.out.c0
    have c1:=HP4.out.c1
    have c2:=HP4.out.c2
    have c3:=HP4.out.c3
    have c4:=HP4.out.c4
    have c5:=HP4.out.c5
    have c6:=HP4.out.c6
    have c7:=HP4.out.c7
    have c8:=HP4.out.c8
    have c9:=HP4.out.c9
    have c10:=HP4.out.c10
    have c11:=HP4.out.c11
    go_wp2_with (go_at_call 107;refine (HPt.out _ HM4.out HF4.out).mono ?_;rintro e w5 ⟨rfl,hh⟩;have HH:Hid _:=hh;clear hh)
    go_roundg k'
    case measure=>have:=HrP.out.2.1;omega
    case rel =>
     obtain ⟨⟨B5,V5,tv5,hM5⟩,hF5⟩:=HH.out
     obtain ⟨hr,hk',hok,hst2⟩:=HrP.out
     refine ⟨_,_,_,B5,V5,tv5,hM5,?_,fun q=>by rw [partR_status q];exact hst2,HF4.out.trans hF5⟩
     rw [HPN.out.1,HPN.out.2]
     exact hr
   ·have hd:decide ((nx:Int) < (np:Int)) = false:=by simp;omega
    have e:=ri_fin hR' (by omega)
    have HE:Hid _:=e
    clear e hR'
    go_upto_region 0 with fail
    go_quiet (fail)
    go_wp2
    go_end0
    have hFq:Fr NoB wr (wr.drewN nq):=(Fr.refl _ _).drewN _
    exact ⟨rfl,⟨_,_,_,_,_,by rw [HE.out];exact HM'.out.no hFq⟩,HF.out.trans (frM_no hFq)⟩
  ·have HE:Hid _:=ri_over hR'
   clear hR'
   go_upto_region 0 with fail
   go_quiet (fail)
   go_wp2
   go_end0
   have hFq:Fr NoB wr (wr.drewN nq):=(Fr.refl _ _).drewN _
   exact ⟨rfl,⟨_,_,_,_,_,by rw [HE.out];exact HM'.out.no hFq⟩,HF.out.trans (frM_no hFq)⟩
theorem Fr.setCells {S:Nat → Prop} {a:World} {b:Nat} (hb:b < a.heap.size → S b):∀ (vs:List Value) (o:Nat) {w:World},Fr S a w → Fr S a (w.setCells b o vs)
 | [],_,_,h=>h
 | v :: r,o,w,h=>Fr.setCells hb r (o + 1) (h.setCell (p:=⟨b,o,none⟩) hb v)
def Room (W:World) (b n:Nat):Prop:=(∀ j,j < n → (W.cell? ⟨b,j,none⟩).isSome = true) ∧ ∀ o,W.frozen? ⟨b,o,none⟩ = false
theorem Room.fr {S:Nat → Prop} {w w':World} {b n:Nat} (h:Room w b n) (hF:Fr S w w') (hb:¬ S b) (hl:b < w.heap.size):Room w' b n :=
 ⟨fun j hj=>by
  obtain ⟨v,hv⟩:=Option.isSome_iff_exists.1 (h.1 j hj)
  rw [hF.cell_some hv hb];rfl,fun o=>(hF.frozen (p:=⟨b,o,none⟩) hl hb).trans (h.2 o)⟩
theorem Room.new (w:World) (A:Array Value) (t:TypeId) (n:Nat) (hn:n ≤ A.size):Room (w.alloc (.cells A t)) w.heap.size n :=
 ⟨fun j hj=>by rw [World.cell?_alloc_at _ _ _ _ rfl];simp;omega,fun o=>World.frozen?_alloc_at _ _ _ _ rfl⟩
theorem room_store {W:World} {b n:Nat} (h:Room W b n) {A:Array Value} (hA:A.size = n) (h1:∀ v ∈ A.toList,v.oneCell' = true):Sem.run prog (storeCells ⟨b,0,none⟩ A.toList) W = .ok () (W.setCells b 0 A.toList):=by
 have:=run_storeCells_cells (P:=prog) b 0 A.toList 0 W (fun j hj=>by simpa using h.1 j (by simp at hj;omega)) (fun j hj=>h.2 _) h1
 simpa using this
theorem room_cell {W:World} {b n:Nat} (h:Room W b n) {A:Array Value} (hA:A.size = n) {j:Nat} {v:Value} (hv:A[j]? = some v):(W.setCells b 0 A.toList).cell? ⟨b,j,none⟩ = some v:=by
 obtain ⟨hj,rfl⟩:=Array.getElem?_eq_some_iff.1 hv
 have:=World.cell?_setCells_in b A.toList 0 W (fun j hj=>by simpa using h.1 j (by simp at hj;omega)) j (by simpa using hj)
 simpa using this
theorem room_load {W:World} {b n:Nat} (h:Room W b n) {A:Array Value} (hA:A.size = n):Sem.run prog (loadCellsFrom ⟨b,0,none⟩ 0 n #[]) (W.setCells b 0 A.toList) = .ok A (W.setCells b 0 A.toList):=by
 subst hA
 have:=run_loadCells_list (P:=prog) (W.setCells b 0 A.toList) ⟨b,0,none⟩ A.toList (fun j v hv=>by
  have hadd:(⟨b,0,none⟩:Addr).add j = ⟨b,j,none⟩:=by unfold Addr.add;split <;> simp_all
  rw [hadd]
  exact room_cell h rfl (by simpa using hv))
 simpa [loadCells] using this
theorem results_ct {P:Program} {fn:Func} {a u:Tmp} {t:TypeId} (h:fn.results = #[.cell a t,.tmp u]) (tmps:Array Value) (w:World) (ad:Addr) (v:Value) (ha:tmps.getD a undef = .pointer (some ad)) (hl:(loadVar t ad).run P w = .ok v w):(results fn tmps).run P w = .ok (.tuple #[v,tmps.getD u undef]) w:=by
 have ha':tmps[a]?.getD undef = .pointer (some ad):=by simpa using ha
 simp [results,h,ha',asAddr,hl]
theorem mac_lv {W:World} {b:Nat} (h:Room W b 87) {A:Array Value} (hA:A.size = 87):(loadVar 143 ⟨b,0,none⟩).run prog (W.setCells b 0 A.toList) = .ok (.agg A) (W.setCells b 0 A.toList):=by
 have hld:=room_load h hA
 unfold loadVar
 simp only [Sem.run_bind,Tryz.isAgg143,Result.andThen_ok,if_true,Tryz.sizeOf143,loadCells,hld,Sem.run_pure]
def zMac:Array Value:=(Value.slice none 0 0 :: Value.int .i64 0 :: Value.bool false :: Value.int .i64 0 :: (List.replicate 26 (Value.int .i64 0) ++ (Value.slice none 0 0 :: (List.replicate 53 (Value.int .i64 0) ++ [Value.slice none 0 0,Value.bool false,Value.int .i64 0])))).toArray
set_option maxRecDepth 100000 in
theorem zMac_is:zeroCells143 = zMac:=by kernel_rfl
theorem zMac_size:zMac.size = 87:=by simp [zMac]
theorem zMac_one:∀ v ∈ zMac.toList,v.oneCell' = true:=by
 intro v hv
 simp [zMac] at hv
 (repeat' (rcases hv with hv | hv)) <;> rfl
set_option maxRecDepth 100000 in
theorem begin_no (w:World) (pv:Value) (a f:Int) (ha:a < 1 ∨ 4096 < a) :
  CR 78 #[pv,.int .i64 a,.int .i64 f] w (.tuple #[.agg zMac,.int .i64 5]):=by
 have HN:Hid (∀ W,_):=fun W=>hnew_no W a ha
 have HR0:Hid (Room (w.alloc (.cells zeroCells143 143)) w.heap.size 87):=Room.new w _ _ 87 (by rw [zMac_is,zMac_size];omega)
 have HF0:Hid (Fr NoB w (w.alloc (.cells zeroCells143 143))):=(Fr.refl _ _).alloc _
 have hl0:w.heap.size < (w.alloc (.cells zeroCells143 143)).heap.size:=by simp
 go_enter func78,ntmps78
 go_upto_region 1 with fail
 generalize (w.alloc _) = W0 at *
 go_upto_region 2 with (go_at_call 17;refine (HN.out _).mono ?_;rintro e w1 ⟨rfl,hF1⟩)
 have hFa:Fr NoB W0 (w1.alloc (.cells #[.slice none 0 0] 53)):=hF1.alloc _
 generalize (w1.alloc _) = W1 at *
 have HR1:Hid _:=HR0.out.fr hFa id hl0
 have hst:=room_store HR1.out (A:=zeroCells143) (by rw [zMac_is];exact zMac_size) (by rw [zMac_is];exact zMac_one)
 have HL:Hid _:=mac_lv HR1.out (A:=zeroCells143) (by rw [zMac_is];exact zMac_size)
 go_wp2
 have hzz:=zMac_is
 generalize zeroCells143 = ZZ at *
 exact bodyPost_ret (v:=.tuple #[.agg ZZ,.int .i64 5]) (results_ct results78 _ _ _ _ rfl HL.out) rfl ⟨by rw [hzz],Fr.setCells (fun q=>by omega) _ _ (HF0.out.trans hFa)⟩
set_option maxRecDepth 100000 in
theorem begin_arg (w:World) (pv:Value) (n:Nat) (f:Int) (h1:1 ≤ n) (h2:n ≤ 4096) (hf:f < 0 ∨ 5000 < f) :
  CR 78 #[pv,.int .i64 n,.int .i64 f] w (.tuple #[.agg zMac,.int .i64 5]):=by
 have HN:Hid (∀ W,_):=fun W=>hnew_yes W n h1 h2
 have HR0:Hid (Room (w.alloc (.cells zeroCells143 143)) w.heap.size 87):=Room.new w _ _ 87 (by rw [zMac_is,zMac_size];omega)
 have HF0:Hid (Fr NoB w (w.alloc (.cells zeroCells143 143))):=(Fr.refl _ _).alloc _
 have hl0:w.heap.size < (w.alloc (.cells zeroCells143 143)).heap.size:=by simp
 by_cases hf0:f < 0
 ·have hd0:decide (f < 0) = true:=by simpa using hf0
  clear hf hf0 h1 h2
  go_enter func78,ntmps78
  go_upto_region 1 with fail
  generalize (w.alloc _) = W0 at *
  go_upto_region 2 with (go_at_call 17;refine (HN.out _).mono ?_;rintro e w1 ⟨r,rfl,hF1,_,_,_,_⟩)
  have hFa:Fr NoB W0 (w1.alloc (.cells #[.slice (some ⟨r,0,none⟩) n n] 53)):=hF1.alloc _
  generalize (w1.alloc _) = W1 at *
  have HR1:Hid _:=HR0.out.fr hFa id hl0
  have hst:=room_store HR1.out (A:=zeroCells143) (by rw [zMac_is];exact zMac_size) (by rw [zMac_is];exact zMac_one)
  have HL:Hid _:=mac_lv HR1.out (A:=zeroCells143) (by rw [zMac_is];exact zMac_size)
  go_wp2
  have hzz:=zMac_is
  generalize zeroCells143 = ZZ at *
  exact bodyPost_ret (v:=.tuple #[.agg ZZ,.int .i64 5]) (results_ct results78 _ _ _ _ rfl HL.out) rfl ⟨by rw [hzz],Fr.setCells (fun q=>by omega) _ _ (HF0.out.trans hFa)⟩
 ·have hd0:decide (f < 0) = false:=by simpa using hf0
  have hd1:decide (5000 < f) = true:=by simp;omega
  clear hf hf0 h1 h2
  go_enter func78,ntmps78
  go_upto_region 1 with fail
  generalize (w.alloc _) = W0 at *
  go_upto_region 2 with (go_at_call 17;refine (HN.out _).mono ?_;rintro e w1 ⟨r,rfl,hF1,_,_,_,_⟩)
  have hFa:Fr NoB W0 (w1.alloc (.cells #[.slice (some ⟨r,0,none⟩) n n] 53)):=hF1.alloc _
  generalize (w1.alloc _) = W1 at *
  have HR1:Hid _:=HR0.out.fr hFa id hl0
  have hst:=room_store HR1.out (A:=zeroCells143) (by rw [zMac_is];exact zMac_size) (by rw [zMac_is];exact zMac_one)
  have HL:Hid _:=mac_lv HR1.out (A:=zeroCells143) (by rw [zMac_is];exact zMac_size)
  go_wp2
  have hzz:=zMac_is
  generalize zeroCells143 = ZZ at *
  exact bodyPost_ret (v:=.tuple #[.agg ZZ,.int .i64 5]) (results_ct results78 _ _ _ _ rfl HL.out) rfl ⟨by rw [hzz],Fr.setCells (fun q=>by omega) _ _ (HF0.out.trans hFa)⟩
def mac0 (pv hv:Value) (k:Nat):Array Value:=((zMac.setIfInBounds 0 pv).setIfInBounds 3 (.int .i64 k)).setIfInBounds 30 hv
def zBox:Array Value:=(Value.slice none 0 0 :: List.replicate 53 (Value.int .i64 0)).toArray
def bx0 (hv:Value):Array Value:=zBox.setIfInBounds 0 hv
set_option maxRecDepth 100000 in
theorem build_bx (W:World) (r n:Nat):(Instr.build 141 #[(0,.agg #[.slice (some ⟨r,0,none⟩) n n])]).run prog W = .ok (.agg (bx0 (.slice (some ⟨r,0,none⟩) n n))) W:=by kernel_rfl
set_option maxRecDepth 100000 in
theorem build_mac (W:World) (r n k np cap:Nat) (ao:Option Addr):(Instr.build 143 #[(0,.slice ao np cap),(3,.int .i64 k),(5,.agg (bx0 (.slice (some ⟨r,0,none⟩) n n)))]).run prog W = .ok (.agg (mac0 (.slice ao np cap) (.slice (some ⟨r,0,none⟩) n n) k)) W:=by kernel_rfl
theorem wpList_build {P:Program} {w:World} {ops:Array Oper} {rest:List Oper} {o:Oper} {a:Act} {Q:Exit → Act → World → Prop} (hgd:o.guard = none) (t:TypeId) (ps:Array (Nat × Operand)) (ho:o.op = .build t ps) (vs:Array (Nat × Value)) (hvs:(ps.map fun x=>(x.1,a.eval x.2)) = vs) (v:Value) (hb:(Instr.build t vs).run P w = .ok v w)
  (h:wpList P ops Q rest (a.put o.dst v) w):wpList P ops Q (o :: rest) a w:=by
 refine wpList_plain hgd fun K hK=>?_
 unfold Oper.wp execOp
 simp only [ho,hvs,Sem.run_bind,hb,Result.andThen_ok,Sem.run_pure]
 exact hK _ _ h
theorem mac0_size (pv hv:Value) (k:Nat):(mac0 pv hv k).size = 87:=by simp [mac0,zMac_size]
theorem one_set {A:Array Value} (h:∀ v ∈ A.toList,v.oneCell' = true) {i:Nat} {u:Value} (hu:u.oneCell' = true):∀ v ∈ (A.setIfInBounds i u).toList,v.oneCell' = true:=by
 intro v hv
 rw [Array.toList_setIfInBounds] at hv
 rcases List.mem_or_eq_of_mem_set hv with q | q
 ·exact h v q
 ·rw [q];exact hu
theorem mac0_one {pv hv:Value} {k:Nat} (h1:pv.oneCell' = true) (h2:hv.oneCell' = true):∀ v ∈ (mac0 pv hv k).toList,v.oneCell' = true:=one_set (one_set (one_set zMac_one h1) rfl) h2
set_option maxRecDepth 100000 in
theorem begin_ok (w:World) (ao:Option Addr) (np cap n k:Nat) (h1:1 ≤ n) (h2:n ≤ 4096) (hk:k ≤ 5000) :
  Calls prog 78 #[.slice ao np cap,.int .i64 n,.int .i64 k] w fun e w'=>∃ r,e = .returned (.tuple #[.agg (mac0 (.slice ao np cap) (.slice (some ⟨r,0,none⟩) n n) k),.int .i64 0]) ∧ Fr NoB w w' ∧
   w.heap.size ≤ r ∧ r < w'.heap.size ∧ (∀ j,j < n * 2 → w'.cell? ⟨r,j,none⟩ = some (.int .i64 0)) ∧ (∀ o,w'.frozen? ⟨r,o,none⟩ = false):=by
 have HN:Hid (∀ W,_):=fun W=>hnew_yes W n h1 h2
 have HR0:Hid (Room (w.alloc (.cells zeroCells143 143)) w.heap.size 87):=Room.new w _ _ 87 (by rw [zMac_is,zMac_size];omega)
 have HF0:Hid (Fr NoB w (w.alloc (.cells zeroCells143 143))):=(Fr.refl _ _).alloc _
 have hl0:w.heap.size < (w.alloc (.cells zeroCells143 143)).heap.size:=by simp
 have hd0:decide ((k:Int) < 0) = false:=by simp
 have hd1:decide (5000 < (k:Int)) = false:=by simp;omega
 clear h1 h2
 go_enter func78,ntmps78
 go_upto_region 1 with fail
 generalize (w.alloc _) = W0 at *
 go_upto_region 2 with (go_at_call 17;refine (HN.out _).mono ?_;rintro e w1 ⟨r,rfl,hF1,hr1,hr2,hr3,hr4⟩)
 have hFa:Fr NoB W0 (w1.alloc (.cells #[.slice (some ⟨r,0,none⟩) n n] 53)):=hF1.alloc _
 have hch:(w1.alloc (.cells #[.slice (some ⟨r,0,none⟩) n n] 53)).cell? ⟨w1.heap.size,0,none⟩ = some (.slice (some ⟨r,0,none⟩) n n):=by rw [World.cell?_alloc_at _ _ _ _ rfl];rfl
 have hFb:Fr NoB w1 (w1.alloc (.cells #[.slice (some ⟨r,0,none⟩) n n] 53)):=(Fr.refl _ _).alloc _
 have HX:Hid ((∀ j,j < n * 2 → (w1.alloc (.cells #[.slice (some ⟨r,0,none⟩) n n] 53)).cell? ⟨r,j,none⟩ = some (.int .i64 0)) ∧ (∀ o,(w1.alloc (.cells #[.slice (some ⟨r,0,none⟩) n n] 53)).frozen? ⟨r,o,none⟩ = false) ∧ r < (w1.alloc (.cells #[.slice (some ⟨r,0,none⟩) n n] 53)).heap.size ∧ w.heap.size < r):=⟨fun j hj=>hFb.cell_some (hr3 j hj) id,fun o=>(hFb.frozen (p:=⟨r,o,none⟩) hr2 id).trans (hr4 o),Nat.lt_of_lt_of_le hr2 hFb.size,Nat.lt_of_lt_of_le hl0 hr1⟩
 clear hFb hr1 hr2 hr3 hr4
 generalize (w1.alloc _) = W1 at *
 generalize w1.heap.size = hb at *
 have HR1:Hid _:=HR0.out.fr hFa id hl0
 have hst:=room_store HR1.out (A:=mac0 (.slice ao np cap) (.slice (some ⟨r,0,none⟩) n n) k) (mac0_size _ _ _) (mac0_one rfl rfl)
 have HL:Hid _:=mac_lv HR1.out (A:=mac0 (.slice ao np cap) (.slice (some ⟨r,0,none⟩) n n) k) (mac0_size _ _ _)
 have HB1:Hid _:=build_bx W1 r n
 have HB2:Hid _:=build_mac W1 r n k np cap ao
 have hms:(mac0 (.slice ao np cap) (.slice (some ⟨r,0,none⟩) n n) k).size = 87:=mac0_size _ _ _
 generalize hM0:mac0 (.slice ao np cap) (.slice (some ⟨r,0,none⟩) n n) k = MM0 at *
 have HM0:Hid _:=hM0
 clear hM0
 generalize bx0 (.slice (some ⟨r,0,none⟩) n n) = BX0 at *
 go_upto_region 6 with fail
 iterate 10 go_step
 refine wpList_build rfl 141 _ rfl #[(0,.agg #[.slice (some ⟨r,0,none⟩) n n])] (by simp [Act.eval]) _ HB1.out ?_
 refine wpList_build rfl 143 _ rfl #[(0,.slice ao np cap),(3,.int .i64 k),(5,.agg BX0)] (by simp [Act.eval,Act.put]) _ HB2.out ?_
 go_wp2
 refine bodyPost_ret (v:=.tuple #[.agg MM0,.int .i64 0]) (results_ct results78 _ _ _ _ rfl HL.out) rfl ?_
 obtain ⟨x1,x2,x3,x4⟩:=HX.out
 have hFs:Fr (OneB w.heap.size) W1 (W1.setCells w.heap.size 0 MM0.toList):=Fr.setCells (S:=OneB w.heap.size) (b:=w.heap.size) (fun _=>rfl) _ _ (Fr.refl _ _)
 have hne:¬ OneB w.heap.size r:=fun q=>by unfold OneB at q;omega
 exact ⟨r,by rw [HM0.out],Fr.setCells (fun q=>by omega) _ _ (HF0.out.trans hFa),by omega,Nat.lt_of_lt_of_le x3 hFs.size,fun j hj=>hFs.cell_some (x1 j hj) hne,fun o=>(hFs.frozen (p:=⟨r,o,none⟩) x3 hne).trans (x2 o)⟩
theorem zMac_n (k:Nat) (h:k < 26):zMac[4 + k]? = some (.int .i64 0):=by
 match k,h with
 | 0,_=>rfl | 1,_=>rfl | 2,_=>rfl | 3,_=>rfl | 4,_=>rfl | 5,_=>rfl | 6,_=>rfl | 7,_=>rfl | 8,_=>rfl | 9,_=>rfl | 10,_=>rfl | 11,_=>rfl | 12,_=>rfl | 13,_=>rfl | 14,_=>rfl | 15,_=>rfl | 16,_=>rfl | 17,_=>rfl | 18,_=>rfl | 19,_=>rfl | 20,_=>rfl | 21,_=>rfl | 22,_=>rfl | 23,_=>rfl | 24,_=>rfl | 25,_=>rfl | (k + 26),h=>exact absurd h (by omega)
theorem zMac_a (k:Nat) (h:k < 26):zMac[31 + k * 2]? = some (.int .i64 0):=by
 match k,h with
 | 0,_=>rfl | 1,_=>rfl | 2,_=>rfl | 3,_=>rfl | 4,_=>rfl | 5,_=>rfl | 6,_=>rfl | 7,_=>rfl | 8,_=>rfl | 9,_=>rfl | 10,_=>rfl | 11,_=>rfl | 12,_=>rfl | 13,_=>rfl | 14,_=>rfl | 15,_=>rfl | 16,_=>rfl | 17,_=>rfl | 18,_=>rfl | 19,_=>rfl | 20,_=>rfl | 21,_=>rfl | 22,_=>rfl | 23,_=>rfl | 24,_=>rfl | 25,_=>rfl | (k + 26),h=>exact absurd h (by omega)
theorem zMac_l (k:Nat) (h:k < 26):zMac[31 + k * 2 + 1]? = some (.int .i64 0):=by
 match k,h with
 | 0,_=>rfl | 1,_=>rfl | 2,_=>rfl | 3,_=>rfl | 4,_=>rfl | 5,_=>rfl | 6,_=>rfl | 7,_=>rfl | 8,_=>rfl | 9,_=>rfl | 10,_=>rfl | 11,_=>rfl | 12,_=>rfl | 13,_=>rfl | 14,_=>rfl | 15,_=>rfl | 16,_=>rfl | 17,_=>rfl | 18,_=>rfl | 19,_=>rfl | 20,_=>rfl | 21,_=>rfl | 22,_=>rfl | 23,_=>rfl | 24,_=>rfl | 25,_=>rfl | (k + 26),h=>exact absurd h (by omega)
theorem mac0_at (pv hv:Value) (k:Nat) {j:Nat} (h0:j ≠ 0) (h3:j ≠ 3) (h30:j ≠ 30):(mac0 pv hv k)[j]? = zMac[j]?:=by
 unfold mac0
 rw [Array.getElem?_setIfInBounds,if_neg (by omega),Array.getElem?_setIfInBounds,if_neg (by omega),Array.getElem?_setIfInBounds,if_neg (by omega)]
theorem mac0_0 (pv hv:Value) (k:Nat):(mac0 pv hv k)[0]? = some pv:=by
 have:=zMac_size
 unfold mac0
 rw [Array.getElem?_setIfInBounds,if_neg (by omega),Array.getElem?_setIfInBounds,if_neg (by omega),Array.getElem?_setIfInBounds,if_pos rfl,if_pos (by omega)]
theorem mac0_3 (pv hv:Value) (k:Nat):(mac0 pv hv k)[3]? = some (.int .i64 k):=by
 have:=zMac_size
 unfold mac0
 rw [Array.getElem?_setIfInBounds,if_neg (by omega),Array.getElem?_setIfInBounds,if_pos rfl,if_pos (by rw [Array.size_setIfInBounds];omega)]
theorem mac0_30 (pv hv:Value) (k:Nat):(mac0 pv hv k)[30]? = some hv:=by
 have:=zMac_size
 unfold mac0
 rw [Array.getElem?_setIfInBounds,if_pos rfl,if_pos (by rw [Array.size_setIfInBounds,Array.size_setIfInBounds];omega)]
theorem mac_new {W:World} {b:Nat} (h:Room W b 87) (pv hv:Value) (k:Nat):MacAt (W.setCells b 0 (mac0 pv hv k).toList) b pv false (mxOf (st0 k) 0 false (.slice none 0 0)):=by
 have key:∀ {j:Nat} {v:Value},(mac0 pv hv k)[j]? = some v → (W.setCells b 0 (mac0 pv hv k).toList).cell? ⟨b,j,none⟩ = some v:=fun {j v} q=>room_cell h (mac0_size _ _ _) q
 have kz:∀ {j:Nat} {v:Value},j ≠ 0 → j ≠ 3 → j ≠ 30 → zMac[j]? = some v → (W.setCells b 0 (mac0 pv hv k).toList).cell? ⟨b,j,none⟩ = some v:=fun {j v} h0 h3 h30 q=>key ((mac0_at pv hv k h0 h3 h30).trans q)
 refine ⟨key (mac0_0 _ _ _),kz (by omega) (by omega) (by omega) rfl,kz (by omega) (by omega) (by omega) rfl,key (mac0_3 _ _ _),fun i hi=>kz (by omega) (by omega) (by omega) (zMac_n i hi),fun i hi=>?_,fun i hi=>kz (by omega) (by omega) (by omega) (zMac_l i hi),kz (by omega) (by omega) (by omega) rfl,kz (by omega) (by omega) (by omega) rfl,kz (by omega) (by omega) (by omega) rfl,kz (by omega) (by omega) (by omega) rfl,fun o=>by rw [World.frozen?_setCells];exact h.2 o⟩
 exact kz (by omega) (by omega) (by omega) (zMac_a i hi)
theorem mm_new {W:World} {b r n base k np cap:Nat} {ao:Option Addr} (h:Room W b 87) (hb:base ≤ b) (hr:base ≤ r) (hne:b ≠ r) (h1:1 ≤ n) (h2:n ≤ 4096) (hk:k ≤ 5000) (hl:r < W.heap.size) (hc:∀ j,j < n * 2 → W.cell? ⟨r,j,none⟩ = some (.int .i64 0)) (hf:∀ o,W.frozen? ⟨r,o,none⟩ = false) :
  MM (W.setCells b 0 (mac0 (.slice ao np cap) (.slice (some ⟨r,0,none⟩) n n) k).toList) b r n base (.slice ao np cap) false (st0 k) 0 false (fun _=>0) (fun _=>0) (.slice none 0 0):=by
 have hF:Fr (OneB b) W (W.setCells b 0 (mac0 (.slice ao np cap) (.slice (some ⟨r,0,none⟩) n n) k).toList):=Fr.setCells (S:=OneB b) (b:=b) (fun _=>rfl) _ _ (Fr.refl _ _)
 have hnr:¬ OneB b r:=fun q=>hne (by unfold OneB at q;exact q.symm)
 refine ⟨mac_new h _ _ _,⟨h1,h2,hne,room_cell h (mac0_size _ _ _) (mac0_30 _ _ _),fun i hi=>hF.cell_some (hc _ (by omega)) hnr,fun i hi=>hF.cell_some (hc _ (by omega)) hnr,fun o=>(hF.frozen (p:=⟨r,o,none⟩) hl hnr).trans (hf o),fun i hi=>Int.le_refl _,fun i hi=>by omega⟩,⟨fun j hj i hi=>absurd hi (by simp [st0]),fun i hi _=>⟨rfl,rfl⟩⟩,⟨fun j hj q=>absurd rfl q,fun j hj=>by simp [st0],fun i j _ _ _ q=>absurd rfl q⟩,num_st0 k,⟨rfl,.inl ⟨rfl,rfl⟩⟩,?_,hb,hr,fun g hg=>by simp [Value.ownBlock] at hg,fun g hg=>by simp [Value.ownBlock] at hg,by omega⟩
 show 0 + 5 * k ≤ 25000
 omega
end Go.Proofs.YthcjcjfgdgnljabGreatDoor
