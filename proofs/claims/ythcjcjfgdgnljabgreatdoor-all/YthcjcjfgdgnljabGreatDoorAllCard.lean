import Derived.Test.YthcjcjfgdgnljabGreatDoorRows
import Derived.Test.YthcjcjfgdgnljabGreatDoorTie
import Derived.Test.YthcjcjfgdgnljabGreatDoorCards
import Derived.LaidMore
import Derived.SevenTiedAt
import Derived.Stop.Joined
import Derived.LaidLaws
import Derived.Test.YthcjcjfgdgnljabGreatDoorGAllA
import Derived.LaidSub
import Derived.MakeChecks
import Derived.Lib.LaidTab
import Derived.Lib.AppendIntMem
import Derived.ProofKit
import Derived.OpenShut
import Derived.ChangeOld
import Derived.SizedLaws
import Derived.Deep.Slices
set_option linter.unusedVariables false
set_option maxHeartbeats 4000000
set_option maxRecDepth 8000
open Go.Proofs.Tryz
namespace Go.Proofs.YthcjcjfgdgnljabGreatDoor.all
open Go.ChangeShapes Go.WideShapes Go.ChangeAt Go.RowKit Go.Deep
theorem fr_below {S:Nat → Prop} {w w':World} (h:Fr S w w') {B:Nat} (hB:B ≤ w.heap.size) (hS:∀ k,k < B → ¬ S k):Below B w w' :=
 ⟨h.os,h.tape,h.output,h.size,fun k hk=>h.block k (by omega) (hS k hk)⟩
theorem own:ownKnob prog.godebug = none:=by kernel_rfl
theorem laidOut:laidOutB prog = true:=by kernel_rfl
theorem cellsOp:prog.cellsOf 32 = 5:=by kernel_rfl
theorem bytesOp:prog.bytesOf 32 = 48:=by kernel_rfl
theorem cellsInt:prog.cellsOf 3 = 1:=by kernel_rfl
theorem cellsStr:prog.cellsOf 9 = 1:=by kernel_rfl
theorem i64_bounds {n:Int} (h:(Lit.int .i64 n).wf = true):-9223372036854775808 ≤ n ∧ n ≤ 9223372036854775807:=by
 simpa [Lit.wf,IntKind.min,IntKind.max,IntKind.signed,IntKind.bits] using h
set_option maxRecDepth 100000 in
theorem op_cells {H:Type} {enc:TypeId × Value → H} {W:World} {fuel:Nat} {cs:List Value} {x:DataW H × List MemPlace} (h:DataW.trod enc prog W 0 (fun _=>true) true fuel 32 cs = some x) :
  ∃ (k hh a b:Int) (s:ByteArray),cs = [.int .i64 k,.int .i64 hh,.int .i64 a,.int .i64 b,.string s] ∧ (-9223372036854775808 ≤ hh ∧ hh ≤ 9223372036854775807) ∧ (-9223372036854775808 ≤ a ∧ a ≤ 9223372036854775807) ∧ s.size ≤ 9223372036854775807:=by
 obtain ⟨xs,n,_,rfl,hl,hlen,hf⟩:=DataW.trod_struct underlying32 h
 rw [cellsOp] at hl
 match cs,hl with
 | [v0,v1,v2,v3,v4],_ =>
  match xs,hlen with
  | [y0,y1,y2,y3,y4],_ =>
   have e0:=hf 0 _ rfl
   have e1:=hf 1 _ rfl
   have e2:=hf 2 _ rfl
   have e3:=hf 3 _ rfl
   have e4:=hf 4 _ rfl
   simp [cellsInt,cellsStr] at e0 e1 e2 e3 e4
   obtain ⟨k,g0,_,w0⟩:=DataW.trod_int underlying3 e0
   obtain ⟨hh,g1,_,w1⟩:=DataW.trod_int underlying3 e1
   obtain ⟨a,g2,_,w2⟩:=DataW.trod_int underlying3 e2
   obtain ⟨b,g3,_,w3⟩:=DataW.trod_int underlying3 e3
   obtain ⟨s,g4,_,w4⟩:=DataW.trod_string underlying9 e4
   simp at g0 g1 g2 g3 g4
   subst g0 g1 g2 g3 g4
   exact ⟨k,hh,a,b,s,rfl,i64_bounds w1,i64_bounds w2,by unfold maxLen at w4;omega⟩
set_option maxRecDepth 100000 in
theorem ops_row {H:Type} {enc:TypeId × Value → H} {W:World} {ao:Option Addr} {m cap:Nat} {d:DataW H} {ps:List MemPlace} (h:DataW.Trod enc prog W 0 (fun _=>true) true 22 (.slice ao m cap) d ps)
  (hsz:(DataW.weightsEach prog [22] [d]).all (· ≤ reachBytes) = true):∃ K Hh A B S,OpRow W ao m K Hh A B S:=by
 obtain ⟨fuel,hf⟩:=h
 rcases open_slice underlying22 hf with ⟨hcs,_⟩ | ⟨a,len,cap',k,n,D,Pl,hcs,_,hl,hm,hk,hdx,hx⟩
 ·simp [Value.cells] at hcs
  obtain ⟨rfl,rfl,rfl⟩:=hcs
  exact ⟨fun _=>0,fun _=>0,fun _=>0,fun _=>0,fun _=>ByteArray.empty,fun h=>absurd h (by omega),fun _ _ i hi=>absurd hi (by omega),fun _ _ i hi=>absurd hi (by omega),fun _ _ i hi=>absurd hi (by omega),fun _ _ i hi=>absurd hi (by omega),fun _ _ i hi=>absurd hi (by omega),fun i hi=>absurd hi (by omega),fun i hi=>absurd hi (by omega),fun i hi=>absurd hi (by omega),by omega⟩
 ·simp [Value.cells] at hcs
  obtain ⟨rfl,rfl,rfl⟩:=hcs
  simp only [Prod.mk.injEq] at hdx
  obtain ⟨rfl,_⟩:=hdx
  have hreach:m ≤ 2932031007317:=by
   have:=sized_slice hsz (j:=0) (t:=22) (e:=32) rfl rfl underlying22
   rw [bytesOp] at this
   simp only [List.length_map,List.length_range,reachBytes] at this
   omega
  have hmk:m ≤ k:=by rw [hk];simp;exact hl
  rw [cellsOp] at hx
  clear hsz
  obtain ⟨Q,hQ⟩:=choose_lt (α:=Int × Int × Int × Int × ByteArray) (n:=m) (p:=fun i q=>(W.cell? (a.add (i * 5)) = some (.int .i64 q.1) ∧ W.cell? (a.add (i * 5 + 1)) = some (.int .i64 q.2.1) ∧ W.cell? (a.add (i * 5 + 2)) = some (.int .i64 q.2.2.1) ∧ W.cell? (a.add (i * 5 + 3)) = some (.int .i64 q.2.2.2.1) ∧ W.cell? (a.add (i * 5 + 4)) = some (.string q.2.2.2.2)) ∧
    (-9223372036854775808 ≤ q.2.1 ∧ q.2.1 ≤ 9223372036854775807) ∧ (-9223372036854775808 ≤ q.2.2.1 ∧ q.2.2.1 ≤ 9223372036854775807) ∧ q.2.2.2.2.size ≤ 9223372036854775807) (fun i hi=>by
   obtain ⟨cs',h1,h2⟩:=hx i (by omega)
   obtain ⟨kk,hh,x,y,s,rfl,r1,r2,r3⟩:=op_cells h2
   obtain ⟨_,_,hc⟩:=World.cells?_some h1
   have g0:=hc 0 (by omega)
   have g1:=hc 1 (by omega)
   have g2:=hc 2 (by omega)
   have g3:=hc 3 (by omega)
   have g4:=hc 4 (by omega)
   rw [add_add] at g0 g1 g2 g3 g4
   exact ⟨(kk,hh,x,y,s),⟨by simpa using g0,by simpa using g1,by simpa using g2,by simpa using g3,by simpa using g4⟩,r1,r2,r3⟩)
  have hspot:0 < m → a.spot = none:=fun h0=>by
   have:=World.cell?_spot (hQ 0 h0).1.1
   simpa [Addr.add] using this
  have hadd:∀ (b off j:Nat),(⟨b,off,none⟩:Addr).add j = ⟨b,off + j,none⟩:=fun b off j=>by unfold Addr.add;split <;> simp_all
  refine ⟨fun i=>(Q i).1,fun i=>(Q i).2.1,fun i=>(Q i).2.2.1,fun i=>(Q i).2.2.2.1,fun i=>(Q i).2.2.2.2,?_,?_,?_,?_,?_,?_,fun i hi=>(hQ i hi).2.1,fun i hi=>(hQ i hi).2.2.1,fun i hi=>(hQ i hi).2.2.2,hreach⟩
  ·intro h0
   obtain ⟨b,off,spot⟩:=a
   have:=hspot h0
   simp at this
   subst this
   exact ⟨b,off,rfl⟩
  ·intro b off i hi e
   injection e with e
   subst e
   have:=(hQ i hi).1.1
   rw [hadd] at this
   exact this
  ·intro b off i hi e
   injection e with e
   subst e
   have:=(hQ i hi).1.2.1
   rw [hadd,← Nat.add_assoc] at this
   exact this
  ·intro b off i hi e
   injection e with e
   subst e
   have:=(hQ i hi).1.2.2.1
   rw [hadd,← Nat.add_assoc] at this
   exact this
  ·intro b off i hi e
   injection e with e
   subst e
   have:=(hQ i hi).1.2.2.2.1
   rw [hadd,← Nat.add_assoc] at this
   exact this
  ·intro b off i hi e
   injection e with e
   subst e
   have:=(hQ i hi).1.2.2.2.2
   rw [hadd,← Nat.add_assoc] at this
   exact this
theorem door_met (os:Os) (args:Array Value):laidMetH prog Rows.allRow.laid ((World.doorLaid prog 400 os).forCall (fun _ _=>0) ⟨#[],args,[]⟩).memory :=
 laidMetH_of_parts3 (fuel:=8) (laidMet_of_run' 8 (by kernel_rfl) (by kernel_rfl)) (by kernel_rfl) (by kernel_rfl)
set_option maxRecDepth 100000 in
theorem tab_ok (W:World) (h:laidMetH prog Rows.allRow.laid W):∀ W',Fr NoB W W' → TabOk W':=by
 have h1:=h.filter (fun x=>x.1 == "internal/strconv.uint64pow10")
 have e:(Rows.allRow.laid.filter fun x=>x.1 == "internal/strconv.uint64pow10") = [("internal/strconv.uint64pow10",Lib.tabData .u64 Lib.pow10Tab)]:=by kernel_rfl
 rw [e,MakeChecks.laidMetH_plain _ _ _ (by kernel_rfl)] at h1
 have h2:Lib.TabIs prog W "internal/strconv.uint64pow10" .u64 Lib.pow10Tab:=by
  first
   | exact Lib.tabIs_of_head (g:=0) (t:=189) (e:=183) (n:=20) (by kernel_rfl) (by kernel_rfl) (by kernel_rfl) (by kernel_rfl) (by kernel_rfl) (by kernel_rfl) h1
   | exact Lib.tabIs_of_head (g:=1) (t:=189) (e:=183) (n:=20) (by kernel_rfl) (by kernel_rfl) (by kernel_rfl) (by kernel_rfl) (by kernel_rfl) (by kernel_rfl) h1
   | exact Lib.tabIs_of_head (g:=2) (t:=189) (e:=183) (n:=20) (by kernel_rfl) (by kernel_rfl) (by kernel_rfl) (by kernel_rfl) (by kernel_rfl) (by kernel_rfl) h1
 exact fun W' hF=>Lib.tabBelow_of_tabIs h2 W' (fr_below hF (Nat.le_refl _) (fun _ _ q=>q))
set_option maxRecDepth 100000 in
theorem lifted (os:Os) (started:os.Started) (H:Type) (enc:TypeId × Value → H) :
  ReturnsInHanded {} Tryz.checked os 3 .any (fun w args=>(Rows.allSpec.pre enc prog Tryz.f3 [] false w args ∧ laidMetH prog Rows.allRow.laid w) ∧ sizedMet enc prog Tryz.f3 (OpenSpec.ofChange Rows.allSpec) false w args) (Rows.allSpec.post enc prog Tryz.f3 false true false false):=by
 refine returnsInHanded_of_change_and (C:=Tryz.checked) (X:=fun w _=>laidMetH prog Rows.allRow.laid w) (fun _ _ _ hh h=>h.of_heap hh) own started (by kernel_rfl) func3
  (ChangeSpec.witness_shaped (enc:=enc) (C:=Tryz.checked) (os:=os) (X:=fun w _=>laidMetH prog Rows.allRow.laid w) false (World.doorLaid prog 400 os) #[.slice none 0 0] 8 rfl (World.shaped_of_RefB (by kernel_rfl) (by kernel_rfl)) (by kernel_rfl) (by kernel_rfl) (by kernel_rfl) (door_met os _)) ?_
 intro W base args ds gs before hval0 hW hcnd hsz0 hX _
 have htab:=tab_ok W hX
 have hsz:(DataW.weightsEach prog (Tryz.f3.params.toList ++ Rows.allSpec.plain.varTypes prog) (ds ++ gs)).all (· ≤ reachBytes) = true:=hsz0
 have hval:∀ (j:Nat) t v,Tryz.f3.params[j]? = some t → args[j]? = some v → Value.okWide prog W .any base t v:=hval0
 have hW':=hW
 obtain ⟨p,q,hA0,hV,rfl,hfz,hnd⟩:=hW
 have hA:DataW.TrodAll enc prog W 0 (fun _=>true) true Tryz.f3.params.toList args.toList ds p:=hA0
 rw [params3] at hA hval hsz
 obtain ⟨v0,vs0,d0,ds0,p0,q0,hargs,rfl,rfl,h0,r0⟩:=trodAll_cons hA
 obtain ⟨rfl,rfl,rfl⟩:=trodAll_nil r0
 obtain rfl:args = #[v0]:=by cases args;simp_all
 obtain ⟨rfl,rfl⟩:=trodVars_none hV
 obtain ⟨ao,m,cap,rfl⟩:=okWide_slice underlying22 (hval 0 22 v0 rfl rfl)
 have k0:=h0
 have lt0:∀ x ∈ p0,x.block < W.heap.size:=by obtain ⟨m,hm⟩:=k0;exact DataW.trod_lt m _ _ _ hm
 obtain ⟨K,Hh,A,B,S,hrow⟩:=ops_row h0 hsz
 clear hA0 hval0 hsz0
 refine (lall_any W ao m cap K Hh A B S hrow htab).mono fun e W' ⟨he,hF⟩=>?_
 subst he
 have bel:Below W.heap.size W W':=fr_below hF (Nat.le_refl _) (fun _ _ h=>h)
 exact ⟨_,rfl,_,_,_,[],_,[],hW',trodAll_mk1 (shut_bool underlying4 _),(trodAll_cons_mk (Below.trod laidOut (by kernel_rfl) (of_decide_eq_true (by kernel_rfl)) k0 bel lt0) trodAll_mk0),rfl,bel.frame _,fun h=>by cases h⟩
end Go.Proofs.YthcjcjfgdgnljabGreatDoor.all
namespace Go.Proofs.YthcjcjfgdgnljabGreatDoor
theorem all_row:Rows.AllSaid :=
 OpenClaim.holds_of_wide 3 Tryz.f3 rfl rfl rfl rfl rfl rfl rfl ⟨rfl,rfl,rfl,rfl,rfl⟩ rfl rfl rfl rfl rfl (by kernel_rfl) func3 (by kernel_rfl)
  (of_decide_eq_true (by kernel_rfl)) (by unfold Func.isWrapper;first | (rw [if_pos (by decide +kernel)];kernel_rfl) | (rw [if_neg (by decide +kernel)];exact ⟨rfl,rfl⟩))
  (fun os started H enc _=>all.lifted os started H enc)
theorem all_holds:Rows.AllCardSaid :=
 Claim7.holds_tied_plain_at .later [] [.data,.data,.data] true Rows.allCard.stood.harness false
  all_row (fun _ h=>by cases h) (by kernel_rfl) (fun _ h=>by cases h) all_row_tie rfl ⟨rfl,rfl⟩ (by kernel_rfl) rfl
  (fun f fn hf hfn=>by
   obtain rfl:f = 3:=Option.some.inj ((show prog.funcNamed "steward/stewardlaw.All" = some 3 by kernel_rfl).symm.trans hf) |>.symm
   obtain rfl:fn = Tryz.f3:=(Option.some.inj (func3.symm.trans hfn)).symm
   exact ⟨by kernel_rfl,fun j t ht=>by
    rw [params3] at ht
    have hm:t ∈ [22]:=by simpa using Array.mem_of_getElem? ht
    have hall:([22].all fun u=>!prog.wantsStandIn u) = true:=by kernel_rfl
    exact (show prog.wantsStandIn t = false by simpa using List.all_eq_true.1 hall t hm)⟩)
  (by kernel_rfl)
#print axioms all_holds
end Go.Proofs.YthcjcjfgdgnljabGreatDoor
