import Derived.Test.YthcjcjfgdgnljabGreatDoorGDevQB
set_option linter.unusedVariables false
set_option maxHeartbeats 4000000
set_option maxRecDepth 8000
open Go.Proofs.Tryz
namespace Go.Proofs.YthcjcjfgdgnljabGreatDoor
open Go.RowKit
def muN (p:Nat → Pt) (B:Nat → Nat → Bool):Nat → Nat
 | 0=>0
 | q + 1=>muN p B q + (if (p q).kind = 11 then card (B q) 26 else 0)
theorem muN_le {p:Nat → Pt} {B B':Nat → Nat → Bool}:∀ {n:Nat},(∀ q,q < n → (p q).kind = 11 → Sub (B' q) (B q)) → muN p B' n ≤ muN p B n
 | 0,_=>Nat.le_refl _
 | n + 1,h=>by
  have h1:=muN_le (n:=n) (fun q hq=>h q (by omega))
  show muN p B' n + _ ≤ muN p B n + _
  split
  ·rename_i hk
   have:=card_mono (n:=26) (fun i _=>h n (by omega) hk i)
   omega
  ·omega
theorem muN_lt {p:Nat → Pt} {B B':Nat → Nat → Bool}:∀ {n:Nat},(∀ q,q < n → (p q).kind = 11 → Sub (B' q) (B q)) → (∃ q,q < n ∧ (p q).kind = 11 ∧ ∃ x,x < 26 ∧ B q x = true ∧ B' q x = false) → muN p B' n < muN p B n
 | 0,_,h=>by obtain ⟨q,hq,_⟩:=h;omega
 | n + 1,h,⟨q,hq,hk,x,hx,h1,h2⟩=>by
  show muN p B' n + (if (p n).kind = 11 then card (B' n) 26 else 0) < muN p B n + (if (p n).kind = 11 then card (B n) 26 else 0)
  by_cases e:q = n
  ·subst e
   have a1:=muN_le (n:=q) (fun q' hq'=>h q' (by omega))
   have a2:=card_lt (n:=26) (fun i _=>h q (by omega) hk i) ⟨x,hx,h2,h1⟩
   rw [if_pos hk,if_pos hk]
   omega
  ·have a1:=muN_lt (n:=n) (fun q' hq'=>h q' (by omega)) ⟨q,by omega,hk,x,hx,h1,h2⟩
   split
   ·rename_i hk2
    have:=card_mono (n:=26) (fun i _=>h n (by omega) hk2 i)
    omega
   ·omega
theorem pass_mu {p:Nat → Pt} {n:Nat} (hp:FlatOk p n) (A B:Nat → Nat → Bool):∀ i,i ≤ n → (∀ q,q < n → (p q).kind = 11 → Sub ((passM p i 0 ⟨A,B,fun _=>false,true⟩).B q) (B q)) ∧
  ((passM p i 0 ⟨A,B,fun _=>false,true⟩).st = false → ∃ q,q < n ∧ (p q).kind = 11 ∧ ∃ x,x < 26 ∧ B q x = true ∧ (passM p i 0 ⟨A,B,fun _=>false,true⟩).B q x = false)
 | 0,_=>⟨fun q _ _=>Sub.refl _,fun h=>absurd h (by simp [passM])⟩
 | i + 1,hi=>by
  obtain ⟨h1,h2⟩:=pass_mu hp A B i (by omega)
  rw [pass_next]
  generalize passM p i 0 ⟨A,B,fun _=>false,true⟩ = z at h1 h2
  obtain ⟨_,_,e3,e4⟩:=step_eq p i z
  have keep:(∀ q,q < n → (p q).kind = 11 → Sub ((stepM p i z).B q) (z.B q)) → z.st = false → ∃ q,q < n ∧ (p q).kind = 11 ∧ ∃ x,x < 26 ∧ B q x = true ∧ (stepM p i z).B q x = false:=fun hs hz=>by
   obtain ⟨q,hq,hk,x,hx,b1,b2⟩:=h2 hz
   refine ⟨q,hq,hk,x,hx,b1,?_⟩
   cases hc:(stepM p i z).B q x
   ·rfl
   ·have:=hs q hq hk x hc
    rw [b2] at this;cases this
  by_cases h11:(p i).kind = 12
  ·obtain ⟨f1,f2⟩:=e4 h11
   have ho:=hp.op i (by omega) (.inr (.inr h11))
   have hk10:=hp.lp i (by omega) h11
   have hs:∀ q,q < n → (p q).kind = 11 → Sub ((stepM p i z).B q) (z.B q):=fun q hq hk=>by
    rw [f1,updA_ne _ _ (fun e=>by subst e;omega)]
    by_cases e:q = (p i).opn
    ·rw [e,updA_at,now11 h11];exact Sub.left _ _
    ·rw [updA_ne _ _ e];exact Sub.refl _
   refine ⟨fun q hq hk=>(hs q hq hk).trans (h1 q hq hk),fun hst=>?_⟩
   cases hz:z.st
   ·exact keep hs hz
   ·rw [f2,hz] at hst
    simp only [Bool.true_and] at hst
    replace hst:=subD_not hst
    have:∃ x,x < 26 ∧ z.B (p i).opn x = true ∧ z.now x = false:=by
     apply Classical.byContradiction
     intro hn
     apply hst
     intro x hx hb
     cases hc:z.now x
     ·exact absurd ⟨x,hx,hb,hc⟩ hn
     ·rfl
    obtain ⟨x,hx,b1,b2⟩:=this
    refine ⟨(p i).opn,by omega,hk10,x,hx,h1 _ (by omega) hk10 x b1,?_⟩
    rw [step_B11 h11 (by omega),now11 h11]
    unfold bothF
    rw [b2]
    simp
  ·obtain ⟨f1,f2⟩:=e3 h11
   have hs:∀ q,q < n → (p q).kind = 11 → Sub ((stepM p i z).B q) (z.B q):=fun q hq hk=>by
    rw [f1]
    by_cases e:q = i
    ·subst e
     rw [updA_at,now10 hk];exact Sub.right _ _
    ·rw [updA_ne _ _ e];exact Sub.refl _
   exact ⟨fun q hq hk=>(hs q hq hk).trans (h1 q hq hk),fun hst=>keep hs (by rw [f2] at hst;exact hst)⟩
def allF:Nat → Bool:=fun i=>decide (i < 26)
theorem msk_all:msk allF = 67108863:=by decide
theorem sub_all {f:Nat → Bool} (h:Clean f):Sub f allF:=fun i hi=>by
 unfold allF
 by_cases q:i < 26
 ·simp [q]
 ·rw [h i (by omega)] at hi;cases hi
def Seg0 (p:Nat → Pt) (s:ByteArray) (n:Nat):Prop:=SegQ p s (AboveC (fun _=>allF)) TrueC (s.size + 1) 0 s.size 0 n (fun _=>false)
theorem seg_is (p:Nat → Pt) (n:Nat) (z:Ps):seg p 0 n z = passM p n 0 z:=rfl
theorem Tryz.infoArnd:(prog.info? 116).map (fun i=>(i.zero,i.size,i.bytes)) = some (some (.agg #[.int .u32 0,.int .u32 0]),2,8):=by kernel_rfl
theorem made_two32 (n j:Nat) (h:j < n):(madeCells #[Value.int .u32 0,Value.int .u32 0] n)[j]? = some (.int .u32 0):=by
 unfold madeCells
 have h2:j % 2 = 0 ∨ j % 2 = 1:=by omega
 rcases h2 with h2 | h2 <;> simp [h,h2]
theorem arnd_made (n:Nat) (hn:n ≤ 100000):∃ C:Array Value,(∀ j,j < n * 2 → C[j]? = some (.int .u32 0)) ∧
  ∀ u:World,(Instr.makeSlice 87 (.int .i64 n) (.int .i64 n)).run prog u = .ok (.slice (some ⟨u.heap.size,0,none⟩) n n) (u.alloc (.cells C 116)):=by
 obtain ⟨i0,hi,hz0,hz1,hz2⟩:=info_parts Tryz.infoArnd
 refine ⟨madeCells #[Value.int .u32 0,Value.int .u32 0] (n * 2),fun j hj=>made_two32 _ _ hj,fun u=>?_⟩
 have h:=run_make (P:=prog) u 87 116 i0 (.agg #[.int .u32 0,.int .u32 0]) underlying87 hi hz0 .i64 .i64 (n:Int) (n:Int) (by omega) (Int.le_refl _) (by rw [hz2];omega) (by omega)
 simpa [hz1,Value.cells] using h
def FindSays (p:Nat → Pt) (s:ByteArray) (n:Nat) (w:World) (e:Ending) (w':World):Prop:=∃ (ga:Nat) (A B:Nat → Nat → Bool),e = .returned (.slice (some ⟨ga,0,none⟩) n n) ∧ Arnd w' ga n A B ∧ SegQ p s TrueC (ExactC A) (s.size + 1) 0 s.size 0 n (fun _=>false) ∧ Fr NoB w w'
def FindSays2 (p:Nat → Pt) (s:ByteArray) (n:Nat) (w:World) (e:Ending) (w':World):Prop:=∃ (ga:Nat) (A B:Nat → Nat → Bool),e = .returned (.slice (some ⟨ga,0,none⟩) n n) ∧ Arnd w' ga n A B ∧ (SegL p s A B (s.size + 1) 0 s.size 0 n (fun _=>false) ∧ (0 < n → B (n - 1) = alongF s (s.size + 1) 0 s.size (fun _=>false))) ∧ Fr NoB w w'
theorem pass_last {p:Nat → Pt}:∀ {n:Nat} {z:Ps},0 < n → (passM p n 0 z).B (n - 1) = (passM p n 0 z).now
 | 0,z,h=>absurd h (Nat.lt_irrefl _)
 | n + 1,z,_=>by
  rw [pass_next]
  show (stepM p n _).B n = _
  rw [step_B,step_now]
theorem find_fn2 (w:World) (n pc:Nat) (ao:Option Addr) (p:Nat → Pt) (CL:Nat → Nat) (s:ByteArray) (hn:n ≤ 100000) (hp:FlatOk p n) (hP:PartRow w ao n p CL) (hseg:Seg0 p s n) (hpl:∀ g,ao = some ⟨g,0,none⟩ → g < w.heap.size) :
  Calls prog 50 #[.slice ao n pc] w fun e w'=>FindSays2 p s n w e w':=by
 have Hp:Hid (FlatOk p n):=hp
 have HP:Hid (PartRow w ao n p CL):=hP
 have Hseg:Hid (Seg0 p s n):=hseg
 have Hpl:Hid _:=hpl
 clear hp hP hseg hpl
 obtain ⟨C,hC,hmk⟩:=arnd_made n hn
 have HC:Hid (∀ j,j < n * 2 → C[j]? = some (.int .u32 0)):=hC
 clear hC
 go_enter func50,ntmps50
 go_upto_region 3 with fail
 have h0:Arnd ((w.alloc (Obj.cells C 116)).alloc (Obj.cells #[Value.slice ao n pc,Value.slice (some ⟨w.heap.size,0,none⟩) n n] 112)) w.heap.size n (fun _ _=>false) (fun q=>if q < 0 then allF else fun _=>false):=by
  have base:Arnd (w.alloc (Obj.cells C 116)) w.heap.size n (fun _ _=>false) (fun q=>if q < 0 then allF else fun _=>false):=by
   refine ⟨fun i hi=>?_,fun i hi=>?_,fun o=>World.frozen?_alloc_at _ _ _ _ rfl⟩
   ·rw [msk_none];exact cell_new _ _ _ rfl (HC.out _ (by omega))
   ·simp only [Nat.not_lt_zero,if_false];rw [msk_none];exact cell_new _ _ _ rfl (HC.out _ (by omega))
  exact base.no ((Fr.refl _ _).alloc _) (by simp)
 have f0:((w.alloc (Obj.cells C 116)).alloc (Obj.cells #[Value.slice ao n pc,Value.slice (some ⟨w.heap.size,0,none⟩) n n] 112)).cell? ⟨w.heap.size + 1,0,none⟩ = some (.slice ao n pc):=cell_new _ _ _ (by simp) rfl
 have f1:((w.alloc (Obj.cells C 116)).alloc (Obj.cells #[Value.slice ao n pc,Value.slice (some ⟨w.heap.size,0,none⟩) n n] 112)).cell? ⟨w.heap.size + 1,1,none⟩ = some (.slice (some ⟨w.heap.size,0,none⟩) n n):=cell_new _ _ _ (by simp) rfl
 have hFr:Fr NoB w ((w.alloc (Obj.cells C 116)).alloc (Obj.cells #[Value.slice ao n pc,Value.slice (some ⟨w.heap.size,0,none⟩) n n] 112)):=((Fr.refl _ _).alloc _).alloc _
 generalize ((w.alloc (Obj.cells C 116)).alloc (Obj.cells #[Value.slice ao n pc,Value.slice (some ⟨w.heap.size,0,none⟩) n n] 112)) = W at *
 have H0:Hid _:=h0
 have F0:Hid _:=f0
 have F1:Hid _:=f1
 have HFr:Hid _:=hFr
 clear h0 f0 f1 hFr hmk HC
 go_loopw [4] (fun t wr=>∃ i:Nat,i ≤ n ∧ t = .int .i64 i ∧ Arnd wr w.heap.size n (fun _ _=>false) (fun q=>if q < i then allF else fun _=>false) ∧ Fr (OneB w.heap.size) W wr) (fun t _=>n - (intOf t).toNat)
 case atStart=>exact ⟨0,Nat.zero_le _,rfl,H0.out,Fr.refl _ _⟩
 case round =>
  obtain ⟨i,hi,rfl,hA,hF⟩:=hrel
  have hne:¬ OneB w.heap.size (w.heap.size + 1):=by unfold OneB;omega
  have c1:=hF.cell_some F1.out hne
  have HF:Hid _:=hF
  have HA:Hid _:=hA
  clear hF hA
  by_cases hlt:i < n
  ·have e1:=HA.out.b i hlt
   have e2:=HA.out.f (i * 2 + 1)
   simp only [Nat.lt_irrefl,if_false] at e1
   go_wp2
   go_roundw
   case rel =>
    refine ⟨i + 1,by omega,by go_num,?_,HF.out.setCell (p:=⟨w.heap.size,i * 2 + 1,none⟩) (fun _=>rfl) _⟩
    have this0:=HA.out.setB hlt allF
    rw [msk_all] at this0
    have this:Arnd (wr.setCell ⟨w.heap.size,i * 2 + 1,none⟩ (.int .u32 67108863)) w.heap.size n (fun _ _=>false) (updA (fun q=>if q < i then allF else fun _=>false) i allF):=this0
    refine ⟨this.a,fun q hq=>?_,this.f⟩
    rw [this.b q hq]
    unfold updA
    by_cases e:q = i
    ·subst e;simp
    ·by_cases e2:q < i
     ·simp [e,e2,show q < i + 1 by omega]
     ·simp [e,e2,show ¬ q < i + 1 by omega]
   case measure=>simp [intOf];omega
  ·have hie:i = n:=by omega
   subst hie
   have HB:Hid (Arnd wr w.heap.size i (fun _ _=>false) (fun _=>allF)):=⟨HA.out.a,fun q hq=>by rw [HA.out.b q hq,if_pos hq],HA.out.f⟩
   have hw1:w.heap.size + 1 < wr.heap.size:=World.block_lt_of_cell? _ _ c1
   have HFn:Hid (Fr NoB w wr):=HFr.out.then HF.out (fun k hk e=>by unfold OneB at e;omega)
   have G0:Hid _:=HF.out.cell_some F0.out hne
   have G1:Hid _:=c1
   clear c1 HA HF H0 F0 F1 HFr
   generalize hwr:wr = V at *
   clear hwr
   go_wp2
   go_loopg [5] (muN p (fun _=>allF) i + 1) (fun k t wr=>∃ (A B:Nat → Nat → Bool) (st:Bool),t = .bool st ∧ (st = false → muN p B i + 1 ≤ k) ∧ Arnd wr w.heap.size i A B ∧ SegQ p s (AboveC B) TrueC (s.size + 1) 0 s.size 0 i (fun _=>false) ∧ (st = true → (SegL p s A B (s.size + 1) 0 s.size 0 i (fun _=>false) ∧ (0 < i → B (i - 1) = alongF s (s.size + 1) 0 s.size (fun _=>false)))) ∧ Fr (OneB w.heap.size) V wr)
   case atStart=>exact ⟨_,_,false,rfl,fun _=>Nat.le_refl _,HB.out,Hseg.out,fun h=>absurd h (by simp),Fr.refl _ _⟩
   case round =>
    obtain ⟨A,B,st,rfl,hk,hA,hS,hE,hF⟩:=hrel
    cases st
    ·have hk2:=hk rfl
     have hgl:w.heap.size < wr.heap.size:=Nat.lt_of_lt_of_le (by omega) hF.size
     have g0:=hF.cell_some G0.out hne
     have g1:=hF.cell_some G1.out hne
     have hPr:=(HP.out.no HFn.out).fr hF (fun g e q=>by have:=Hpl.out g e;unfold OneB at q;omega)
     have HPass:Hid _:=fpass_fn wr (w.heap.size + 1) w.heap.size i i pc ao p CL A B hn Hp.out hPr hA g0 g1 hgl (by omega) (fun g e=>by have:=Hpl.out g e;omega)
     have hmu:=pass_mu Hp.out A B i (Nat.le_refl _)
     have hup:=(seg_up (z:=⟨A,B,fun _=>false,true⟩) hS clean_none (Sub.refl _)).2
     have hex:=fun h=>seg_low (z:=⟨A,B,fun _=>false,true⟩) hS clean_none h
     have hlast:=fun h=>pass_last (p:=p) (n:=i) (z:=⟨A,B,fun _=>false,true⟩) h
     rw [seg_is] at hup hex
     generalize passM p i 0 ⟨A,B,fun _=>false,true⟩ = z at HPass hmu hup hex hlast
     have Hmu:Hid _:=hmu
     have Hup:Hid _:=hup
     have Hex:Hid _:=fun h=>And.intro (hex h).2 (fun h0=>(hlast h0).trans (hex h).1)
     have HF:Hid _:=hF
     clear hmu hup hex hlast hF hS hE hA hk g0 g1 hPr
     go_wp2_with (go_at_call 67;refine Calls.mono HPass.out ?_;rintro e w2 ⟨rfl,hA2,hF2⟩)
     cases hst:z.st
     ·go_roundg (muN p z.B i + 1)
      case measure =>
       have:=muN_lt Hmu.out.1 (Hmu.out.2 hst)
       omega
      case rel=>exact ⟨z.A,z.B,false,rfl,fun _=>Nat.le_refl _,hA2,Hup.out,fun h=>absurd h (by simp),HF.out.trans hF2⟩
     ·go_roundg 0
      case measure=>omega
      case rel=>exact ⟨z.A,z.B,true,rfl,fun h=>absurd h (by simp),hA2,Hup.out,fun _=>Hex.out hst,HF.out.trans hF2⟩
    ·have HE:Hid _:=hE rfl
     have HA:Hid _:=hA
     have g1:=hF.cell_some G1.out hne
     have HF:Hid _:=hF
     clear hE hA hF hS hk
     go_wp2
     go_ret
     exact ⟨w.heap.size,A,B,rfl,HA.out,HE.out,HFn.out.then HF.out (fun k hk e=>by unfold OneB at e;omega)⟩
theorem find_fn (w:World) (n pc:Nat) (ao:Option Addr) (p:Nat → Pt) (CL:Nat → Nat) (s:ByteArray) (hn:n ≤ 100000) (hp:FlatOk p n) (hP:PartRow w ao n p CL) (hseg:Seg0 p s n) (hpl:∀ g,ao = some ⟨g,0,none⟩ → g < w.heap.size) :
  Calls prog 50 #[.slice ao n pc] w fun e w'=>FindSays p s n w e w' :=
 (find_fn2 w n pc ao p CL s hn hp hP hseg hpl).mono fun e w' h=>by
  obtain ⟨ga,A,B,he,hA,hS,hF⟩:=h
  exact ⟨ga,A,B,he,hA,hS.1.segQ,hF⟩
theorem usedP_2 (w:World) (place num box src x1 sign x2 opn clo:Nat) (b1 b2:Bool) (hp:place ≤ 100000) :
  CR 68 #[.agg #[.int .i64 2,.int .i64 place,.int .i64 num,.int .i64 box,.int .i64 src,.bool b1,.int .i64 x1,.int .u8 sign,.bool b2,.int .i64 x2,.int .i64 opn,.int .i64 clo]] w (.tuple #[.int .i64 box,.int .i64 ((place:Int) + 2),.bool true]):=by
 go_enter func68,ntmps68
 go_upto_region 3 with fail
 go_quiet (fail)
 go_wp2
 go_ret3
 exact ⟨rfl,by repeat (first | exact Fr.refl _ _ | refine Fr.drewN ?_ _ | refine Fr.drew ?_ | refine Fr.alloc ?_ _)⟩
theorem usedP_3 (w:World) (place num box src x1 sign x2 opn clo:Nat) (b1 b2:Bool) (hp:place ≤ 100000) :
  CR 68 #[.agg #[.int .i64 3,.int .i64 place,.int .i64 num,.int .i64 box,.int .i64 src,.bool b1,.int .i64 x1,.int .u8 sign,.bool b2,.int .i64 x2,.int .i64 opn,.int .i64 clo]] w (.tuple #[.int .i64 box,.int .i64 ((place:Int) + 3),.bool true]):=by
 go_enter func68,ntmps68
 go_upto_region 5 with fail
 go_quiet (fail)
 go_wp2
 go_ret3
 exact ⟨rfl,by repeat (first | exact Fr.refl _ _ | refine Fr.drewN ?_ _ | refine Fr.drew ?_ | refine Fr.alloc ?_ _)⟩
theorem usedP_6 (w:World) (place num box src x1 sign x2 opn clo:Nat) (b1 b2:Bool) (hp:place ≤ 100000) :
  CR 68 #[.agg #[.int .i64 6,.int .i64 place,.int .i64 num,.int .i64 box,.int .i64 src,.bool b1,.int .i64 x1,.int .u8 sign,.bool b2,.int .i64 x2,.int .i64 opn,.int .i64 clo]] w (.tuple #[.int .i64 box,.int .i64 ((place:Int)),.bool true]):=by
 go_enter func68,ntmps68
 go_upto_region 7 with fail
 go_quiet (fail)
 go_wp2
 go_ret3
 exact ⟨rfl,by repeat (first | exact Fr.refl _ _ | refine Fr.drewN ?_ _ | refine Fr.drew ?_ | refine Fr.alloc ?_ _)⟩
theorem usedP_7 (w:World) (place num box src x1 sign x2 opn clo:Nat) (b1 b2:Bool) (hp:place ≤ 100000) :
  CR 68 #[.agg #[.int .i64 7,.int .i64 place,.int .i64 num,.int .i64 box,.int .i64 src,.bool b1,.int .i64 x1,.int .u8 sign,.bool b2,.int .i64 x2,.int .i64 opn,.int .i64 clo]] w (.tuple #[.int .i64 box,.int .i64 ((place:Int) + 1),.bool true]):=by
 go_enter func68,ntmps68
 go_upto_region 9 with fail
 go_quiet (fail)
 go_wp2
 go_ret3
 exact ⟨rfl,by repeat (first | exact Fr.refl _ _ | refine Fr.drewN ?_ _ | refine Fr.drew ?_ | refine Fr.alloc ?_ _)⟩
theorem usedP_5 (w:World) (place num box src x1 sign x2 opn clo:Nat) (b1 b2:Bool) (hp:place ≤ 100000) :
  CR 68 #[.agg #[.int .i64 5,.int .i64 place,.int .i64 num,.int .i64 box,.int .i64 src,.bool b1,.int .i64 x1,.int .u8 sign,.bool b2,.int .i64 x2,.int .i64 opn,.int .i64 clo]] w (.tuple #[.int .i64 src,.int .i64 ((place:Int) + 2),.bool true]):=by
 go_enter func68,ntmps68
 go_upto_region 11 with fail
 go_quiet (fail)
 go_wp2
 go_ret3
 exact ⟨rfl,by repeat (first | exact Fr.refl _ _ | refine Fr.drewN ?_ _ | refine Fr.drew ?_ | refine Fr.alloc ?_ _)⟩
theorem usedP_0 (w:World) (kind place num box src x1 sign x2 opn clo:Nat) (b1 b2:Bool) (e1:((kind:Int) == 2) = false) (e2:((kind:Int) == 3) = false) (e5:((kind:Int) == 6) = false) (e6:((kind:Int) == 7) = false) (e4:((kind:Int) == 5) = false) :
  CR 68 #[.agg #[.int .i64 kind,.int .i64 place,.int .i64 num,.int .i64 box,.int .i64 src,.bool b1,.int .i64 x1,.int .u8 sign,.bool b2,.int .i64 x2,.int .i64 opn,.int .i64 clo]] w (.tuple #[.int .i64 0,.int .i64 0,.bool false]):=by
 go_enter func68,ntmps68
 go_wp2
 go_ret3
 exact ⟨rfl,(Fr.refl _ _).alloc _⟩
theorem usedPt_fn (w:World) (kind place num box src x1 sign x2 opn clo:Nat) (b1 b2:Bool) (o1 o2:Od) (hp:place ≤ 100000) :
  (useB ⟨kind,place,num,box,src,o1,sign,o2,opn⟩ = true → CR 68 #[.agg #[.int .i64 kind,.int .i64 place,.int .i64 num,.int .i64 box,.int .i64 src,.bool b1,.int .i64 x1,.int .u8 sign,.bool b2,.int .i64 x2,.int .i64 opn,.int .i64 clo]] w (.tuple #[.int .i64 (useBx ⟨kind,place,num,box,src,o1,sign,o2,opn⟩:Int),.int .i64 (usePl ⟨kind,place,num,box,src,o1,sign,o2,opn⟩:Int),.bool true])) ∧
  (useB ⟨kind,place,num,box,src,o1,sign,o2,opn⟩ = false → CR 68 #[.agg #[.int .i64 kind,.int .i64 place,.int .i64 num,.int .i64 box,.int .i64 src,.bool b1,.int .i64 x1,.int .u8 sign,.bool b2,.int .i64 x2,.int .i64 opn,.int .i64 clo]] w (.tuple #[.int .i64 0,.int .i64 0,.bool false])):=by
 constructor
 ·intro h
  have hk:kind = 2 ∨ kind = 3 ∨ kind = 6 ∨ kind = 7 ∨ kind = 5:=by
   unfold useB at h;simp at h;omega
  rcases hk with rfl | rfl | rfl | rfl | rfl
  ·exact usedP_2 w place num box src x1 sign x2 opn clo b1 b2 hp
  ·exact usedP_3 w place num box src x1 sign x2 opn clo b1 b2 hp
  ·exact usedP_6 w place num box src x1 sign x2 opn clo b1 b2 hp
  ·exact usedP_7 w place num box src x1 sign x2 opn clo b1 b2 hp
  ·exact usedP_5 w place num box src x1 sign x2 opn clo b1 b2 hp
 ·intro h
  unfold useB at h
  simp at h
  exact usedP_0 w kind place num box src x1 sign x2 opn clo b1 b2 (bF (by omega)) (bF (by omega)) (bF (by omega)) (bF (by omega)) (bF (by omega))
theorem useBx_lt {t:Pt} (h:PtOk t):useBx t < 26:=by
 unfold useBx
 split
 ·exact h.s
 ·exact h.b
theorem scanM_next (p:Nat → Pt) (A:Nat → Nat → Bool) {n k:Nat} (h:0 < n):scanM p A n k = if useB (p k) = true ∧ A k (useBx (p k)) = false then (usePl (p k):Int) else scanM p A (n - 1) (k + 1):=by
 obtain ⟨m,rfl⟩:∃ m,n = m + 1:=⟨n - 1,by omega⟩
 rfl
def firstV (R:Int):Value:=if 0 ≤ R then .tuple #[.int .i64 R,.bool true] else .tuple #[.int .i64 0,.bool false]
theorem firstV_pos {R:Int} (h:0 ≤ R):firstV R = .tuple #[.int .i64 R,.bool true]:=if_pos h
theorem firstV_neg {R:Int} (h:¬ 0 ≤ R):firstV R = .tuple #[.int .i64 0,.bool false]:=if_neg h
theorem first_fn (w:World) (n pc ga ac:Nat) (ao:Option Addr) (p:Nat → Pt) (C:Nat → Nat) (A B:Nat → Nat → Bool) (hn:n ≤ 100000) (hp:FlatOk p n) (hP:PartRow w ao n p C) (hA:Arnd w ga n A B) (hgl:ga < w.heap.size) :
  CR 51 #[.slice ao n pc,.slice (some ⟨ga,0,none⟩) n ac] w (firstV (scan p A 0 n)):=by
 have Hp:Hid (FlatOk p n):=hp
 have HP:Hid (PartRow w ao n p C):=hP
 have HA:Hid (Arnd w ga n A B):=hA
 clear hp hP hA
 generalize hR:scan p A 0 n = R
 have HR:Hid (scanM p A n 0 = R):=hR
 clear hR
 go_enter func51,ntmps51
 go_wp2
 go_loopw [6] (fun t wr=>∃ i:Nat,i ≤ n ∧ t = .int .i64 i ∧ R = scanM p A (n - i) i ∧ Fr NoB w wr) (fun t _=>n - (intOf t).toNat)
 case atStart=>exact ⟨0,Nat.zero_le _,rfl,HR.out.symm,Fr.refl _ _⟩
 case round =>
  obtain ⟨i,hi,rfl,hR,hF⟩:=hrel
  by_cases hlt:i < n
  ·have hR2:=hR.trans (scanM_next p A (n:=n - i) (k:=i) (by omega))
   rw [show n - i - 1 = n - (i + 1) by omega] at hR2
   obtain ⟨g,rfl⟩:=HP.out.some_ (by omega)
   have hP2:=HP.out.no hF
   have d0:wr.cell? ⟨g,i * 12,none⟩ = _:=hP2.c g i 0 _ hlt rfl rfl
   have d1:=hP2.c g i 1 _ hlt rfl rfl
   have d2:=hP2.c g i 2 _ hlt rfl rfl
   have d3:=hP2.c g i 3 _ hlt rfl rfl
   have d4:=hP2.c g i 4 _ hlt rfl rfl
   have d5:=hP2.c g i 5 _ hlt rfl rfl
   have d6:=hP2.c g i 6 _ hlt rfl rfl
   have d7:=hP2.c g i 7 _ hlt rfl rfl
   have d8:=hP2.c g i 8 _ hlt rfl rfl
   have d9:=hP2.c g i 9 _ hlt rfl rfl
   have d10:=hP2.c g i 10 _ hlt rfl rfl
   have d11:=hP2.c g i 11 _ hlt rfl rfl
   have e1:=(HA.out.no hF hgl).a i hlt
   have hok:=Hp.out.ok i hlt
   have hbx:=useBx_lt hok
   have hpl:=hok.p
   have HF:Hid (Fr NoB w wr):=hF
   have HRR:Hid _:=hR2
   clear hP2 hF hR hR2 hok HP HR
   generalize p i = t at *
   obtain ⟨kind,place,num,box,src,o1,sign,o2,opn⟩:=t
   simp only [] at d0 d1 d2 d3 d4 d5 d6 d7 d8 d9 d10 d11 hpl
   generalize C i = clo at *
   generalize odB o1 = b1 at *
   generalize odI o1 = x1 at *
   generalize odB o2 = b2 at *
   generalize odI o2 = x2 at *
   have hU:=usedPt_fn wr kind place num box src x1 sign x2 opn clo b1 b2 o1 o2 hpl
   generalize ht:(⟨kind,place,num,box,src,o1,sign,o2,opn⟩:Pt) = t at *
   cases hu:useB t
   ·have HU:Hid _:=hU.2 hu
    have HN:Hid (R = scanM p A (n - (i + 1)) (i + 1)):=by show R = _;rw [HRR.out,hu];rfl
    clear hU hu ht HRR
    go_wp2_with (go_at_call 68;refine Calls.mono HU.out ?_;rintro e w1 ⟨rfl,hF1⟩)
    go_roundw
    case rel=>exact ⟨i + 1,by omega,by go_num,HN.out,HF.out.trans hF1⟩
    case measure=>simp [intOf];omega
   ·have HU:Hid _:=hU.1 hu
    have HH:Hid _:=fun X=>has_fn X (A i) (useBx t) hbx
    cases ha:A i (useBx t)
    ·have HN:Hid (R = (usePl t:Int)):=by show R = _;rw [HRR.out,hu,ha];rfl
     rw [ha] at HH
     generalize useBx t = bx at *
     generalize usePl t = pl at *
     clear hU hu ht ha HRR
     go_wp2_with (first | (go_at_call 68;refine Calls.mono HU.out ?_;rintro e w1 ⟨rfl,hF1⟩;have e2:=hF1.cell_some e1 id) | (go_at_call 69;refine sameC (HH.out _) ?_))
     go_ret2
     rw [HN.out,firstV_pos (by omega)]
     exact ⟨rfl,HF.out.trans hF1⟩
    ·have HN:Hid (R = scanM p A (n - (i + 1)) (i + 1)):=by show R = _;rw [HRR.out,hu,ha];rfl
     rw [ha] at HH
     generalize useBx t = bx at *
     generalize usePl t = pl at *
     clear hU hu ht ha HRR
     go_wp2_with (first | (go_at_call 68;refine Calls.mono HU.out ?_;rintro e w1 ⟨rfl,hF1⟩;have e2:=hF1.cell_some e1 id) | (go_at_call 69;refine sameC (HH.out _) ?_))
     go_roundw
     case rel=>exact ⟨i + 1,by omega,by go_num,HN.out,HF.out.trans hF1⟩
     case measure=>simp [intOf];omega
  ·have hie:i = n:=by omega
   subst hie
   have HE:Hid (R = -1):=by show R = -1;rw [hR,Nat.sub_self];rfl
   have HF:Hid (Fr NoB w wr):=hF
   clear hR hF
   go_wp2
   go_ret2
   rw [HE.out,firstV_neg (by omega)]
   exact ⟨rfl,HF.out⟩
end Go.Proofs.YthcjcjfgdgnljabGreatDoor
