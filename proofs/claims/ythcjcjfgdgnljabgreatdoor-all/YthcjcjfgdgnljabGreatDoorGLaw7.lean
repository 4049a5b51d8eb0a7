import Derived.Test.YthcjcjfgdgnljabGreatDoorGLaw4
set_option linter.unusedVariables false
set_option maxHeartbeats 4000000
set_option maxRecDepth 8000
open Go.Proofs.Tryz
namespace Go.Proofs.YthcjcjfgdgnljabGreatDoor
open Go.RowKit
theorem WSt.listTurn {w0 w w':World} {wp:Nat} {own:Nat → Nat} {bd:Nat} {hv lv:Value} {hs:List HEnt} {ls:List LEnt} (h:WSt w0 w wp own bd hv lv hs ls) {j:Nat} {e e':LEnt} (hj:ls[j]? = some e)
  (hf:Fr (fun k=>own k = 6 + 3 * j) w w') (he:LOk w' own j e') (hc:listCells e' = listCells e):∃ ls',WSt w0 w' wp own bd hv lv hs ls':=by
 have hjl:j < ls.length:=(List.getElem?_eq_some_iff.1 hj).1
 have hje:ls[j] = e:=(List.getElem?_eq_some_iff.1 hj).2
 have hcells:(ls.set j e').flatMap listCells = ls.flatMap listCells:=by
  rw [List.flatMap_def,List.flatMap_def,List.map_set]
  have:listCells e' = (ls.map listCells)[j]'(by simpa using hjl):=by
   rw [List.getElem_map,hje];exact hc
  rw [this,List.set_getElem_self]
 refine ⟨ls.set j e',⟨hf.cell_some h.c0 ?_,hf.cell_some h.c1 ?_,fun o=>(hf.frozen (p:=⟨wp,o,none⟩) h.wl ?_).trans (h.fz o),h.ow,?_,?_,h.oh,h.ol,?_,?_,h.old,?_,h.hl,?_⟩⟩
 ·intro g;have:=h.ow;simp only at g;omega
 ·intro g;have:=h.ow;simp only at g;omega
 ·intro g;have:=h.ow;simp only at g;omega
 ·exact hf.owns h.hrow (fun k hk g=>by have:=h.oh k hk;omega)
 ·rw [List.length_set,hcells];exact hf.owns h.lrow (fun k hk g=>by have:=h.ol k hk;omega)
 ·intro i x hx
  exact (h.hok i x hx).fr hf (fun k hk=>by constructor <;> omega)
 ·intro i x hx
  by_cases hij:i = j
  ·subst hij
   rw [List.getElem?_set_self hjl] at hx
   injection hx with hx
   subst hx
   exact he
  ·rw [List.getElem?_set_ne (fun e=>hij e.symm)] at hx
   exact (h.lok i x hx).fr hf (fun k hk=>by omega)
 ·exact h.fr.then hf (fun k hk hs=>by have:=h.old k hk;omega)
 ·rw [List.length_set];exact h.ll
def Ints (w:World) (b m:Nat):Prop:=∀ t,t < m → ∃ x y:Int,w.cell? ⟨b,t * 2,none⟩ = some (.int .i64 x) ∧ w.cell? ⟨b,t * 2 + 1,none⟩ = some (.int .i64 y)
def Marks (w:World) (b j:Nat) (k:Int):Prop:=∀ t,t < j → w.cell? ⟨b,t * 2,none⟩ = some (.int .i64 k) ∧ w.cell? ⟨b,t * 2 + 1,none⟩ = some (.int .i64 k)
def over2 (w:World) (c j:Nat) (k:Int):World:=(w.setCell ⟨c,j * 2,none⟩ (.int .i64 k)).setCell ⟨c,j * 2 + 1,none⟩ (.int .i64 k)
theorem over2_at {w:World} {c j m:Nat} (k:Int) (h:Ints w c m) (hj:j < m):(over2 w c j k).cell? ⟨c,j * 2,none⟩ = some (.int .i64 k) ∧ (over2 w c j k).cell? ⟨c,j * 2 + 1,none⟩ = some (.int .i64 k):=by
 obtain ⟨x,y,h1,h2⟩:=h j hj
 exact ⟨(cell_other (.inr (by omega))).trans (cell_same h1),cell_same ((cell_other (.inr (by omega))).trans h2)⟩
theorem over2_ne {w:World} {c j:Nat} (k:Int) {b t:Nat} (h:c ≠ b ∨ t ≠ j):(over2 w c j k).cell? ⟨b,t * 2,none⟩ = w.cell? ⟨b,t * 2,none⟩ ∧ (over2 w c j k).cell? ⟨b,t * 2 + 1,none⟩ = w.cell? ⟨b,t * 2 + 1,none⟩:=by
 constructor
 ·exact (cell_other (h.elim .inl (fun h=>.inr (by omega)))).trans (cell_other (h.elim .inl (fun h=>.inr (by omega))))
 ·exact (cell_other (h.elim .inl (fun h=>.inr (by omega)))).trans (cell_other (h.elim .inl (fun h=>.inr (by omega))))
theorem Ints.over {w:World} {b c j m m':Nat} (h:Ints w b m) (hc:Ints w c m') (hj:j < m') (k:Int):Ints (over2 w c j k) b m:=fun t ht=>by
 by_cases e:c = b ∧ t = j
 ·obtain ⟨rfl,rfl⟩:=e
  obtain ⟨h1,h2⟩:=over2_at k hc hj
  exact ⟨k,k,h1,h2⟩
 ·have e2:c ≠ b ∨ t ≠ j:=by
   by_cases g:c = b
   ·exact .inr (fun g2=>e ⟨g,g2⟩)
   ·exact .inl g
  obtain ⟨h1,h2⟩:=over2_ne (w:=w) k e2
  obtain ⟨x,y,g1,g2⟩:=h t ht
  exact ⟨x,y,h1.trans g1,h2.trans g2⟩
theorem Marks.over {w:World} {b c j i m':Nat} {k:Int} (h:Marks w b i k) (hc:Ints w c m') (hj:j < m'):Marks (over2 w c j k) b i k:=fun t ht=>by
 by_cases e:c = b ∧ t = j
 ·obtain ⟨rfl,rfl⟩:=e
  exact over2_at k hc hj
 ·have e2:c ≠ b ∨ t ≠ j:=by
   by_cases g:c = b
   ·exact .inr (fun g2=>e ⟨g,g2⟩)
   ·exact .inl g
  obtain ⟨h1,h2⟩:=over2_ne (w:=w) k e2
  exact ⟨h1.trans (h t ht).1,h2.trans (h t ht).2⟩
theorem Marks.step {w:World} {c j m':Nat} {k:Int} (h:Marks w c j k) (hc:Ints w c m') (hj:j < m'):Marks (over2 w c j k) c (j + 1) k:=fun t ht=>by
 by_cases e:t = j
 ·subst e;exact over2_at k hc hj
 ·exact (h.over hc hj) t (by omega)
def FP (e:LEnt):Nat → Prop:=fun k=>(0 < e.len ∧ e.ao = some ⟨k,0,none⟩) ∨ k = e.bx ∨ k = e.bw
structure Ov (w wr:World) (e:LEnt) (k:Int) (jl jx:Nat):Prop where
 fr:Fr (FP e) w wr
 li:∀ g,0 < e.len → e.ao = some ⟨g,0,none⟩ → Ints wr g e.len ∧ Marks wr g jl k ∧ ∀ o,wr.frozen? ⟨g,o,none⟩ = false
 xi:Ints wr e.bx (e.len + 2)
 wi:Ints wr e.bw (e.len + 2)
 xm:Marks wr e.bx jx k
 wm:Marks wr e.bw jx k
 fx:∀ o,wr.frozen? ⟨e.bx,o,none⟩ = false
 fw:∀ o,wr.frozen? ⟨e.bw,o,none⟩ = false
theorem Ov.no {w wr wr':World} {e:LEnt} {k:Int} {jl jx:Nat} (h:Ov w wr e k jl jx) (hf:Fr NoB wr wr'):Ov w wr' e k jl jx:=by
 have cell:∀ b o v,wr.cell? ⟨b,o,none⟩ = some v → wr'.cell? ⟨b,o,none⟩ = some v:=fun b o v hc=>hf.cell_some hc id
 have xl:e.bx < wr.heap.size:=by obtain ⟨x,y,h1,_⟩:=h.xi 0 (by omega);exact World.block_lt_of_cell? _ _ h1
 have wl:e.bw < wr.heap.size:=by obtain ⟨x,y,h1,_⟩:=h.wi 0 (by omega);exact World.block_lt_of_cell? _ _ h1
 have ints:∀ b m,Ints wr b m → Ints wr' b m:=fun b m hi t ht=>by obtain ⟨x,y,h1,h2⟩:=hi t ht;exact ⟨x,y,cell _ _ _ h1,cell _ _ _ h2⟩
 have marks:∀ b m,Marks wr b m k → Marks wr' b m k:=fun b m hi t ht=>⟨cell _ _ _ (hi t ht).1,cell _ _ _ (hi t ht).2⟩
 refine ⟨h.fr.then hf (fun _ _ e=>e.elim),fun g h0 hg=>?_,ints _ _ h.xi,ints _ _ h.wi,marks _ _ h.xm,marks _ _ h.wm,fun o=>(hf.frozen (p:=⟨e.bx,o,none⟩) xl id).trans (h.fx o),fun o=>(hf.frozen (p:=⟨e.bw,o,none⟩) wl id).trans (h.fw o)⟩
 obtain ⟨h1,h2,h3⟩:=h.li g h0 hg
 have gl:g < wr.heap.size:=by obtain ⟨x,y,g1,_⟩:=h1 0 h0;exact World.block_lt_of_cell? _ _ g1
 exact ⟨ints _ _ h1,marks _ _ h2,fun o=>(hf.frozen (p:=⟨g,o,none⟩) gl id).trans (h3 o)⟩
theorem over2_frozen {w:World} {c j:Nat} {k:Int} (a:Addr):(over2 w c j k).frozen? a = w.frozen? a:=by
 unfold over2;rw [World.frozen?_setCell,World.frozen?_setCell]
theorem over2_fr {S:Nat → Prop} {w wr:World} (h:Fr S w wr) {c:Nat} (hc:S c) (j:Nat) (k:Int):Fr S w (over2 wr c j k) :=
 (h.setCell (p:=⟨c,j * 2,none⟩) (fun _=>hc) _).setCell (p:=⟨c,j * 2 + 1,none⟩) (fun _=>hc) _
theorem Ov.stepL {w wr:World} {e:LEnt} {k:Int} {jl jx g:Nat} (h:Ov w wr e k jl jx) (hj:jl < e.len) (hg:e.ao = some ⟨g,0,none⟩):Ov w (over2 wr g jl k) e k (jl + 1) jx:=by
 obtain ⟨h1,h2,h3⟩:=h.li g (by omega) hg
 refine ⟨over2_fr h.fr (.inl ⟨by omega,hg⟩) _ _,fun g' h0 hg'=>?_,h.xi.over h1 hj k,h.wi.over h1 hj k,h.xm.over h1 hj,h.wm.over h1 hj,fun o=>by rw [over2_frozen];exact h.fx o,fun o=>by rw [over2_frozen];exact h.fw o⟩
 have:g = g':=by rw [hg] at hg';injection hg' with hg';injection hg'
 subst this
 exact ⟨h1.over h1 hj k,h2.step h1 hj,fun o=>by rw [over2_frozen];exact h3 o⟩
theorem Ov.stepX {w wr:World} {e:LEnt} {k:Int} {jl jx:Nat} (h:Ov w wr e k jl jx) (hj:jx < e.len + 2):Ov w (over2 (over2 wr e.bx jx k) e.bw jx k) e k jl (jx + 1):=by
 have w1:=h.wi.over h.xi hj k
 have x1:=h.xi.over h.xi hj k
 refine ⟨over2_fr (over2_fr h.fr (.inr (.inl rfl)) _ _) (.inr (.inr rfl)) _ _,fun g h0 hg=>?_,x1.over w1 hj k,w1.over w1 hj k,(h.xm.step h.xi hj).over w1 hj,(h.wm.over h.xi hj).step w1 hj,fun o=>by rw [over2_frozen,over2_frozen];exact h.fx o,fun o=>by rw [over2_frozen,over2_frozen];exact h.fw o⟩
 obtain ⟨h1,h2,h3⟩:=h.li g h0 hg
 exact ⟨(h1.over h.xi hj k).over w1 hj k,(h2.over h.xi hj).over w1 hj,fun o=>by rw [over2_frozen,over2_frozen];exact h3 o⟩
theorem Ov.start {w:World} {own:Nat → Nat} {i:Nat} {e:LEnt} (h:LOk w own i e) (k:Int):Ov w w e k 0 0 :=
 ⟨Fr.refl _ _,fun g h0 hg=>⟨fun t ht=>⟨_,_,h.l.c0 g t ht hg,h.l.c1 g t ht hg⟩,fun t ht=>absurd ht (by omega),h.fl h0 g hg⟩,
  fun t ht=>⟨_,_,h.x.c0 _ t ht rfl,h.x.c1 _ t ht rfl⟩,fun t ht=>⟨_,_,h.y.c0 _ t ht rfl,h.y.c1 _ t ht rfl⟩,fun t ht=>absurd ht (by omega),fun t ht=>absurd ht (by omega),h.fx,h.fw⟩
theorem Ov.finish {w0 w wr:World} {wp:Nat} {own:Nat → Nat} {bd:Nat} {hv lv:Value} {hs:List HEnt} {ls:List LEnt} (h:WSt w0 w wp own bd hv lv hs ls) {i:Nat} {e:LEnt} (hi:ls[i]? = some e) {k:Int} (ho:Ov w wr e k e.len (e.len + 2)) :
  ∃ ls',WSt w0 wr wp own bd hv lv hs ls':=by
 have hL:=h.lok i e hi
 have hfp:∀ k,FP e k → own k = 6 + 3 * i:=fun k hk=>by
  rcases hk with ⟨h0,hg⟩ | rfl | rfl
  ·exact hL.ol h0 k hg
  ·exact hL.ox
  ·exact hL.ow
 refine h.listTurn (e':={ e with A:=fun _=>k,N:=fun _=>k }) hi (ho.fr.mono (fun q _ hq=>hfp q hq)) ?_ rfl
 refine ⟨⟨hL.l.some_,fun g t ht hg=>?_,fun g t ht hg=>?_⟩,⟨hL.x.some_,fun g t ht hg=>?_,fun g t ht hg=>?_⟩,⟨hL.y.some_,fun g t ht hg=>?_,fun g t ht hg=>?_⟩,fun h0 g hg=>(ho.li g h0 hg).2.2,ho.fx,ho.fw,hL.hx,hL.hw,hL.hl,hL.hc,hL.ol,hL.ox,hL.ow,hL.nx,hL.nl⟩
 ·exact ((ho.li g (by have:t < e.len:=ht;omega) hg).2.1 t ht).1
 ·exact ((ho.li g (by have:t < e.len:=ht;omega) hg).2.1 t ht).2
 ·injection hg with hg;injection hg with hg;subst hg;exact (ho.xm t ht).1
 ·injection hg with hg;injection hg with hg;subst hg;exact (ho.xm t ht).2
 ·injection hg with hg;injection hg with hg;subst hg;exact (ho.wm t ht).1
 ·injection hg with hg;injection hg with hg;subst hg;exact (ho.wm t ht).2
set_option maxRecDepth 20000 in
theorem lover_any (w0 w:World) (wp:Nat) (own:Nat → Nat) (bd:Nat) (hv lv:Value) (hs:List HEnt) (ls:List LEnt) (c:Int) (h:WSt w0 w wp own bd hv lv hs ls) (hbd:bd ≤ 2932031007402) (h1:-9223372036854775808 ≤ c) (h2:c ≤ 9223372036854775807) :
  Calls prog 19 #[.pointer (some ⟨wp,0,none⟩),.int .i64 c] w fun e w'=>e = .returned (.tuple #[]) ∧ ∃ ls',WSt w0 w' wp own bd hv lv hs ls':=by
 have hll:=h.ll
 have hc1:=h.c1
 obtain ⟨ao,cap,rfl,hrow⟩:=lrow_of h.lrow
 by_cases h0:0 < ls.length
 ·obtain ⟨g,rfl⟩:=hrow.some_ h0
  obtain ⟨i,hi⟩:∃ i,i = pickZ c ls.length:=⟨_,rfl⟩
  have hil:i < ls.length:=by rw [hi];exact pickZ_lt _ (by omega)
  have hlz:((ls.length:Int) == 0) = false:=bF (by omega)
  go_enter func19,ntmps19
  go_wp2_with fail
  refine (lpick_fn _ c ls.length (by omega) (by omega) h1 h2).mono ?_
  rintro e w1 ⟨rfl,hw1⟩
  have hw1':=hw1.symm
  clear hw1
  subst hw1'
  rw [← hi]
  clear hi
  have b0:=hrow.c0 g i hil rfl
  have b1:=hrow.c1 g i hil rfl
  have b2:=hrow.c2 g i hil rfl
  obtain ⟨e,he⟩:∃ e,e = ls[i]:=⟨_,rfl⟩
  rw [← he] at b0 b1 b2
  have Hie:Hid (ls[i]? = some e):=by show ls[i]? = some e;rw [he];exact List.getElem?_eq_getElem hil
  have hL:LOk w own i e:=h.lok i e Hie.out
  have hlb:=hL.hl
  have hcb:=hL.hc
  have hnx:=hL.nx
  have HL:Hid (LOk w own i e):=hL
  clear he hL
  go_wp2_with fail
  refine (lmark_fn _ i (by omega)).mono ?_
  rintro e2 w2 ⟨rfl,hF2⟩
  have f0:w2.cell? ⟨w.heap.size,0,none⟩ = some (.slice e.ao e.len e.cl):=hF2.cell_some (by simp) id
  have f1:w2.cell? ⟨w.heap.size,1,none⟩ = some (.slice (some ⟨e.bx,0,none⟩) (e.len + 2) e.cx):=hF2.cell_some (by simp) id
  have f2:w2.cell? ⟨w.heap.size,2,none⟩ = some (.slice (some ⟨e.bw,0,none⟩) (e.len + 2) e.cw):=hF2.cell_some (by simp) id
  have hF:Fr NoB w w2:=((Fr.refl _ _).alloc _).trans hF2
  have hsz:w.heap.size < w2.heap.size:=World.block_lt_of_cell? _ _ f0
  clear hF2 b0 b1 b2 hc1
  obtain ⟨k,hk⟩:∃ k:Int,k = -1 - (i:Int):=⟨_,rfl⟩
  rw [← hk]
  clear hk
  go_wp2_with fail
  go_loopw [7] (fun t wr=>∃ j:Nat,j ≤ e.len ∧ t = .int .i64 j ∧ Ov w wr e k j 0 ∧ wr.cell? ⟨w.heap.size,0,none⟩ = some (.slice e.ao e.len e.cl) ∧ wr.cell? ⟨w.heap.size,1,none⟩ = some (.slice (some ⟨e.bx,0,none⟩) (e.len + 2) e.cx) ∧ wr.cell? ⟨w.heap.size,2,none⟩ = some (.slice (some ⟨e.bw,0,none⟩) (e.len + 2) e.cw) ∧ wr.cell? ⟨w2.heap.size,0,none⟩ = some (.int .i64 k) ∧ wr.cell? ⟨w2.heap.size,1,none⟩ = some (.int .i64 k)) (fun t _=>e.len - (intOf t).toNat)
  case atStart=>exact ⟨0,Nat.zero_le _,rfl,(Ov.start HL.out k).no (hF.alloc _),((Fr.refl NoB _).alloc _).cell_some f0 id,((Fr.refl NoB _).alloc _).cell_some f1 id,((Fr.refl NoB _).alloc _).cell_some f2 id,by simp,by simp⟩
  case round =>
   obtain ⟨j,hj,rfl,hO,g0,g1,g2,m0,m1⟩:=hrel
   clear f0 f1 f2
   by_cases hjl:j < e.len
   ·obtain ⟨gl,hgl⟩:=HL.out.l.some_ (by omega)
    have hlt:gl < w.heap.size:=HL.out.gl (by omega) hgl
    obtain ⟨i1,_,i3⟩:=hO.li gl (by omega) hgl
    obtain ⟨x,y,cx,cy⟩:=i1 j hjl
    have z0:=i3 (j * 2)
    have z1:=i3 (j * 2 + 1)
    have hstep:=hO.stepL hjl hgl
    have p0:(over2 wr gl j k).cell? ⟨w.heap.size,0,none⟩ = some (.slice e.ao e.len e.cl):=(cell_other (.inl (by omega))).trans ((cell_other (.inl (by omega))).trans g0)
    have p1:(over2 wr gl j k).cell? ⟨w.heap.size,1,none⟩ = some (.slice (some ⟨e.bx,0,none⟩) (e.len + 2) e.cx):=(cell_other (.inl (by omega))).trans ((cell_other (.inl (by omega))).trans g1)
    have p2:(over2 wr gl j k).cell? ⟨w.heap.size,2,none⟩ = some (.slice (some ⟨e.bw,0,none⟩) (e.len + 2) e.cw):=(cell_other (.inl (by omega))).trans ((cell_other (.inl (by omega))).trans g2)
    have q0:(over2 wr gl j k).cell? ⟨w2.heap.size,0,none⟩ = some (.int .i64 k):=(cell_other (.inl (by omega))).trans ((cell_other (.inl (by omega))).trans m0)
    have q1:(over2 wr gl j k).cell? ⟨w2.heap.size,1,none⟩ = some (.int .i64 k):=(cell_other (.inl (by omega))).trans ((cell_other (.inl (by omega))).trans m1)
    have HE:=show Hid (_ ∧ _ ∧ _ ∧ _ ∧ _ ∧ _) from ⟨hstep,p0,p1,p2,q0,q1⟩
    rw [hgl] at g0
    have hne1:gl ≠ w.heap.size:=by omega
    have hne2:gl ≠ w2.heap.size:=by omega
    clear hstep p0 p1 p2 q0 q1 i1 i3 hO hgl
    go_wp2
    go_roundw
    case rel=>exact ⟨j + 1,by omega,by go_num,HE.out⟩
    case measure=>simp [intOf];omega
   ·have hje:j = e.len:=by omega
    subst hje
    have hxl:e.bx < w.heap.size:=HL.out.xl
    have hwl:e.bw < w.heap.size:=HL.out.wl
    go_wp2_with fail
    go_loopw [8] (fun t wr=>∃ j:Nat,j ≤ e.len + 2 ∧ t = .int .i64 j ∧ Ov w wr e k e.len j ∧ wr.cell? ⟨w.heap.size,1,none⟩ = some (.slice (some ⟨e.bx,0,none⟩) (e.len + 2) e.cx) ∧ wr.cell? ⟨w.heap.size,2,none⟩ = some (.slice (some ⟨e.bw,0,none⟩) (e.len + 2) e.cw) ∧ wr.cell? ⟨w2.heap.size,0,none⟩ = some (.int .i64 k) ∧ wr.cell? ⟨w2.heap.size,1,none⟩ = some (.int .i64 k)) (fun t _=>e.len + 2 - (intOf t).toNat)
    case atStart=>exact ⟨0,Nat.zero_le _,rfl,hO,g1,g2,m0,m1⟩
    case round =>
     obtain ⟨j,hj2,rfl,hO2,n1,n2,r0,r1⟩:=hrel
     clear g0 g1 g2 m0 m1 hO
     by_cases hjl2:j < e.len + 2
     ·obtain ⟨x1,y1,cx1,cy1⟩:=hO2.xi j hjl2
      obtain ⟨x2,y2,cx2,cy2⟩:=hO2.wi j hjl2
      have z0:=hO2.fx (j * 2)
      have z1:=hO2.fx (j * 2 + 1)
      have z2:=hO2.fw (j * 2)
      have z3:=hO2.fw (j * 2 + 1)
      have hstep:=hO2.stepX hjl2
      have keep:∀ b o v,b ≠ e.bx → b ≠ e.bw → wr.cell? ⟨b,o,none⟩ = some v → (over2 (over2 wr e.bx j k) e.bw j k).cell? ⟨b,o,none⟩ = some v:=fun b o v h1 h2 hc =>
       (cell_other (.inl (Ne.symm h2))).trans ((cell_other (.inl (Ne.symm h2))).trans ((cell_other (.inl (Ne.symm h1))).trans ((cell_other (.inl (Ne.symm h1))).trans hc)))
      have HE:=show Hid (_ ∧ _ ∧ _ ∧ _ ∧ _) from ⟨hstep,keep _ _ _ (by omega) (by omega) n1,keep _ _ _ (by omega) (by omega) n2,keep _ _ _ (by omega) (by omega) r0,keep _ _ _ (by omega) (by omega) r1⟩
      have hne1:e.bx ≠ w.heap.size:=by omega
      have hne2:e.bx ≠ w2.heap.size:=by omega
      have hne3:e.bw ≠ w.heap.size:=by omega
      have hne4:e.bw ≠ w2.heap.size:=by omega
      clear hstep keep hO2
      go_wp2
      go_roundw
      case rel=>exact ⟨j + 1,by omega,by go_num,HE.out⟩
      case measure=>simp [intOf];omega
     ·have hje:j = e.len + 2:=by omega
      subst hje
      have HE:Hid (∃ ls',WSt w0 wr wp own bd hv (Value.slice (some ⟨g,0,none⟩) ls.length cap) hs ls'):=Ov.finish h Hie.out hO2
      clear hO2
      go_wp2
      go_end0
      exact ⟨rfl,HE.out⟩
 ·have hz:ls.length = 0:=by omega
  have hlz:((ls.length:Int) == 0) = true:=beq_iff_eq.2 (by omega)
  clear hz
  go_enter func19,ntmps19
  go_wp2
  exact bodyPost_ret (v:=.tuple #[]) (by simp [results,results19,go_sem]) rfl ⟨rfl,ls,h⟩
def spanI (A N:Nat → Int) (n:Nat):List Value:=(List.range n).flatMap fun i=>[.int .i64 (A i),.int .i64 (N i)]
theorem spanI_succ (A N:Nat → Int) (n:Nat):spanI A N (n + 1) = spanI A N n ++ [.int .i64 (A n),.int .i64 (N n)]:=by
 unfold spanI;rw [List.range_succ,List.flatMap_append];simp
theorem spanI_congr {A N A' N':Nat → Int} {n:Nat} (hA:∀ i,i < n → A i = A' i) (hN:∀ i,i < n → N i = N' i):spanI A N n = spanI A' N' n:=by
 induction n with
 | zero=>rfl
 | succ n ih=>rw [spanI_succ,spanI_succ,ih (fun i hi=>hA i (by omega)) (fun i hi=>hN i (by omega)),hA n (by omega),hN n (by omega)]
theorem spanI_at (A N:Nat → Int) (n i:Nat) (hi:i < n):(spanI A N n)[i * 2]? = some (.int .i64 (A i)) ∧ (spanI A N n)[i * 2 + 1]? = some (.int .i64 (N i)):=by
 have hf:∀ x,((fun i=>[Value.int .i64 (A i),Value.int .i64 (N i)]) x).length = 2:=fun x=>rfl
 have h0:=flat2_at (fun i=>[Value.int .i64 (A i),Value.int .i64 (N i)]) hf (List.range n) i 0 (by omega) (by simpa using hi)
 have h1:=flat2_at (fun i=>[Value.int .i64 (A i),Value.int .i64 (N i)]) hf (List.range n) i 1 (by omega) (by simpa using hi)
 simp only [List.getElem_range] at h0 h1
 exact ⟨h0,h1⟩
def LA (L:List (Nat × Nat)) (k:Int):Nat → Int:=fun i=>if i < L.length then ((L.getD i (0,0)).1:Int) else k
def LN (L:List (Nat × Nat)) (k:Int):Nat → Int:=fun i=>if i < L.length then ((L.getD i (0,0)).2:Int) else k
theorem spanCells_eq (L:List (Nat × Nat)) (k:Int):spanCells L = spanI (LA L k) (LN L k) L.length:=by
 have h:∀ M:List (Nat × Nat),spanCells M = spanI (fun i=>((M.getD i (0,0)).1:Int)) (fun i=>((M.getD i (0,0)).2:Int)) M.length:=fun M=>by
  unfold spanCells spanI
  rw [List.flatMap_def,List.flatMap_def]
  congr 1
  apply List.ext_getElem?
  intro i
  by_cases hi:i < M.length
  ·simp [hi]
  ·simp [hi]
 rw [h L]
 exact spanI_congr (fun i hi=>by simp [LA,hi]) (fun i hi=>by simp [LN,hi])
theorem spanCells_marked (L:List (Nat × Nat)) (k:Int):spanCells L ++ [.int .i64 k,.int .i64 k,.int .i64 k,.int .i64 k] = spanI (LA L k) (LN L k) (L.length + 2):=by
 rw [spanI_succ,spanI_succ,← spanCells_eq]
 have a0:LA L k L.length = k:=by unfold LA;rw [if_neg (by omega)]
 have a1:LA L k (L.length + 1) = k:=by unfold LA;rw [if_neg (by omega)]
 have n0:LN L k L.length = k:=by unfold LN;rw [if_neg (by omega)]
 have n1:LN L k (L.length + 1) = k:=by unfold LN;rw [if_neg (by omega)]
 rw [a0,a1,n0,n1]
 simp
theorem intRow_of {w:World} {base n:Nat} {v:Value} {A N:Nat → Int} (h:w.ownsRow base 79 2 v n (spanI A N n)) :
  ∃ ao cap,v = .slice ao n cap ∧ n ≤ cap ∧ cap ≤ 9223372036854775807 ∧ IntRow w ao n A N ∧ (∀ g,ao = some ⟨g,0,none⟩ → v.ownBlock = some g ∧ ∀ o,w.frozen? ⟨g,o,none⟩ = false):=by
 rcases h.2 with ⟨rfl,rfl⟩ | ⟨g,cap,cur,rfl,_,_,hnc,hcm,_,_⟩
 ·exact ⟨none,0,rfl,by omega,by omega,⟨fun h=>absurd h (by omega),fun _ i hi=>absurd hi (by omega),fun _ i hi=>absurd hi (by omega)⟩,fun g e=>by cases e⟩
 ·have hc:=h.cells (g:=g) rfl
  have hadd:∀ j,(⟨g,0,none⟩:Addr).add j = ⟨g,j,none⟩:=fun j=>by unfold Addr.add;split <;> simp_all
  refine ⟨some ⟨g,0,none⟩,cap,rfl,hnc,by simp only [maxLen] at hcm;omega,⟨fun _=>⟨g,rfl⟩,?_,?_⟩,fun g' e=>by cases e;exact ⟨rfl,fun o=>h.frozenAt o⟩⟩
  ·intro g' i hi e;cases e;rw [← hadd];exact hc _ _ (spanI_at A N n i hi).1
  ·intro g' i hi e;cases e;rw [← hadd];exact hc _ _ (spanI_at A N n i hi).2
theorem runs_len_le {B:Nat → Int} {n:Nat} (L:List (Nat × Nat)) (lo:Nat) (hlo:lo ≤ n) (h:IsRuns B n lo L):L.length + lo ≤ n:=by
 induction L generalizing lo with
 | nil=>simpa using hlo
 | cons s t ih =>
  obtain ⟨a,l⟩:=s
  obtain ⟨h1,h2,h3,h4,h5,h6,h7⟩:=h
  have:=ih (a + l) h3 h7
  simp only [List.length_cons]
  omega
theorem addList {w0 w w7 w8:World} {wp:Nat} {own:Nat → Nat} {bd:Nat} {hv lv lv':Value} {hs:List HEnt} {ls:List LEnt} {o:Obj} {L:List (Nat × Nat)} {k:Int} {vl vx vw:Value} {ao:Option Addr} {cl bx cx bw cw:Nat}
  (h:WSt w0 w wp own bd hv lv hs ls) (hF7:Fr NoB w w7)
  (hl:w7.ownsRow w.heap.size 79 2 vl L.length (spanCells L)) (hx:w7.ownsRow w.heap.size 79 2 vx (L.length + 2) (spanCells L ++ [.int .i64 k,.int .i64 k,.int .i64 k,.int .i64 k]))
  (hw:w7.ownsRow w.heap.size 79 2 vw (L.length + 2) (spanCells L ++ [.int .i64 k,.int .i64 k,.int .i64 k,.int .i64 k]))
  (el:vl = .slice ao L.length cl) (ex:vx = .slice (some ⟨bx,0,none⟩) (L.length + 2) cx) (ew:vw = .slice (some ⟨bw,0,none⟩) (L.length + 2) cw)
  (hLl:L.length ≤ 4096) (hnx:bx ≠ bw) (hnl:∀ g,vl.ownBlock = some g → g ≠ bw)
  (hown:w8.ownsRow w0.heap.size 49 3 lv' (ls.length + 1) (ls.flatMap listCells ++ [vl,vx,vw]))
  (hk:AppKind (w7.alloc o) w8 lv lv' ls.length 1) (hne:0 < hs.length):WOkH w0 (w8.setCell ⟨wp,1,none⟩ lv') wp (bd + 1):=by
 have s7:=hF7.size
 have hwl:=h.wl
 let own':Nat → Nat:=fun k=>if k < w.heap.size then own k else if k < w7.heap.size then 6 + 3 * ls.length else 3
 have o0:∀ k,k < w.heap.size → own' k = own k:=fun k hk=>by simp only [own',if_pos hk]
 have o1:∀ k,w.heap.size ≤ k → k < w7.heap.size → own' k = 6 + 3 * ls.length:=fun k h1 h2=>by simp only [own'];rw [if_neg (by omega),if_pos h2]
 have o2:∀ k,w7.heap.size ≤ k → own' k = 3:=fun k h1=>by simp only [own'];rw [if_neg (by omega),if_neg (by omega)]
 have hWo:=(h.reown o0).no hF7
 have hfr:Fr (fun k=>lv.ownBlock = some k) w7 w8:=((Fr.refl _ w7).alloc o).trans hk.fr
 have hfr2:Fr (fun k=>own' k = 3) w7 w8:=hfr.mono (fun k _ e=>hWo.ol k e)
 have hset:Fr (fun k=>own' k = 3 ∨ k = wp) w7 (w8.setCell ⟨wp,1,none⟩ lv'):=(hfr2.mono (T:=fun k=>own' k = 3 ∨ k = wp) (fun k _ e=>.inl e)).setCell (p:=⟨wp,1,none⟩) (fun _=>.inr rfl) _
 have ow1:own' wp = 1:=hWo.ow
 have hne2:∀ k,(own' k = 3 ∨ k = wp) → own' k = 3 ∨ own' k = 1:=fun k e=>by
  rcases e with e | e
  ·exact .inl e
  ·subst e;exact .inr ow1
 have hlv':∀ g,lv'.ownBlock = some g → own' g = 3:=fun g hg=>by
  obtain ⟨g2,cap2,rfl,hpl⟩:=hk.place
  have e:g2 = g:=by simpa [Value.ownBlock] using hg
  subst e
  rcases hpl with e | e
  ·exact o2 g2 (by simp at e;omega)
  ·exact hWo.ol g2 e
 rw [spanCells_eq L k] at hl
 rw [spanCells_marked] at hx hw
 obtain ⟨al,cl',el',ncl,mcl,irl,gl⟩:=intRow_of hl
 obtain ⟨ax,cx',ex',ncx,mcx,irx,gx⟩:=intRow_of hx
 obtain ⟨aw,cw',ew',ncw,mcw,irw,gw⟩:=intRow_of hw
 rw [el] at el'
 rw [ex] at ex'
 rw [ew] at ew'
 injection el' with e1 e2 e3
 injection ex' with e4 e5 e6
 injection ew' with e7 e8 e9
 subst e1 e3 e4 e6 e7 e9
 have hbl:∀ g,vl.ownBlock = some g → w.heap.size ≤ g ∧ g < w7.heap.size:=fun g hg=>hl.lt g hg
 have hbx:w.heap.size ≤ bx ∧ bx < w7.heap.size:=hx.lt bx (by rw [ex];rfl)
 have hbw:w.heap.size ≤ bw ∧ bw < w7.heap.size:=hw.lt bw (by rw [ew];rfl)
 have hnk:∀ g,w.heap.size ≤ g → g < w7.heap.size → ¬ (own' g = 3 ∨ g = wp):=fun g g1 g2 e=>by
  have:=o1 g g1 g2
  rcases hne2 g e with q | q <;> omega
 refine ⟨own',hv,lv',hs,ls ++ [⟨ao,L.length,cl,bx,cx,bw,cw,LA L k,LN L k⟩],⟨?_,?_,?_,ow1,?_,?_,hWo.oh,hlv',?_,?_,hWo.old,?_,by have:=h.hl;omega,?_⟩,hne⟩
 ·exact (cell_other (.inr (by omega))).trans (hfr2.cell_some hWo.c0 (fun e=>by rw [ow1] at e;omega))
 ·exact cell_same (hfr2.cell_some hWo.c1 (fun e=>by rw [ow1] at e;omega))
 ·intro x
  rw [World.frozen?_setCell]
  exact (hfr2.frozen (p:=⟨wp,x,none⟩) hWo.wl (fun e=>by rw [ow1] at e;omega)).trans (hWo.fz x)
 ·exact hset.owns hWo.hrow (fun k hk2 e=>by have:=hWo.oh k hk2;rcases hne2 k e with g | g <;> omega)
 ·have hxx:(ls ++ [(⟨ao,L.length,cl,bx,cx,bw,cw,LA L k,LN L k⟩:LEnt)]).flatMap listCells = ls.flatMap listCells ++ [vl,vx,vw]:=by rw [el,ex,ew];simp [listCells]
  rw [hxx,List.length_append]
  exact ((Fr.refl (OneB wp) w8).setCell (p:=⟨wp,1,none⟩) (fun _=>rfl) _).owns hown (fun k hk2 e=>by have e':k = wp:=e;subst e';have:=hlv' _ hk2;rw [ow1] at this;omega)
 ·intro i e he
  exact ((hWo.hok i e he).fr hset (fun k e=>by rcases hne2 k e with g | g <;> (constructor <;> omega))).mono (by omega)
 ·intro i e he
  by_cases hi:i < ls.length
  ·rw [List.getElem?_append_left hi] at he
   exact (hWo.lok i e he).fr hset (fun k e=>by rcases hne2 k e with g | g <;> omega)
  ·rw [List.getElem?_append_right (by omega)] at he
   have hi0:i = ls.length:=by
    by_cases g:i - ls.length = 0
    ·omega
    ·rw [List.getElem?_eq_none (by simp;omega)] at he;cases he
   subst hi0
   simp at he
   subst he
   have hgl:∀ g,ao = some ⟨g,0,none⟩ → w.heap.size ≤ g ∧ g < w7.heap.size:=fun g hg=>hbl g (gl g hg).1
   exact ⟨irl.fr hset (fun g hg=>hnk g (hgl g hg).1 (hgl g hg).2),
    irx.fr hset (fun g hg=>by injection hg with hg;injection hg with hg;subst hg;exact hnk _ hbx.1 hbx.2),
    irw.fr hset (fun g hg=>by injection hg with hg;injection hg with hg;subst hg;exact hnk _ hbw.1 hbw.2),
    fun _ g hg x=>(hset.frozen (p:=⟨g,x,none⟩) (hgl g hg).2 (hnk g (hgl g hg).1 (hgl g hg).2)).trans ((gl g hg).2 x),
    fun x=>(hset.frozen (p:=⟨bx,x,none⟩) hbx.2 (hnk _ hbx.1 hbx.2)).trans ((gx bx rfl).2 x),
    fun x=>(hset.frozen (p:=⟨bw,x,none⟩) hbw.2 (hnk _ hbw.1 hbw.2)).trans ((gw bw rfl).2 x),
    ncx,ncw,hLl,⟨mcl,mcx,mcw⟩,fun _ g hg=>o1 g (hgl g hg).1 (hgl g hg).2,o1 bx hbx.1 hbx.2,o1 bw hbw.1 hbw.2,hnx,fun _ g hg=>hnl g (gl g hg).1⟩
 ·exact hWo.fr.then hset (fun k hk2 e=>by have:=hWo.old k hk2;rcases hne2 k e with g | g <;> omega)
 ·rw [List.length_append];have:=h.ll;simp;omega
theorem span_intRow {w:World} {base:Nat} {v:Value} {L:List (Nat × Nat)} (h:w.ownsRow base 79 2 v L.length (spanCells L)) (k:Int) :
  ∃ ao cap,v = .slice ao L.length cap ∧ IntRow w ao L.length (LA L k) (LN L k):=by
 rw [spanCells_eq L k] at h
 obtain ⟨ao,cap,e,_,_,h1,_⟩:=intRow_of h
 exact ⟨ao,cap,e,h1⟩
theorem slice_of_two {w:World} {base:Nat} {e:TypeId} {size n:Nat} {v:Value} {xs:List Value} (h:w.ownsRow base e size v (n + 2) xs):∃ b c,v = .slice (some ⟨b,0,none⟩) (n + 2) c:=by
 rcases h.2 with ⟨_,hn⟩ | ⟨g,cap,cur,rfl,_⟩
 ·omega
 ·exact ⟨g,cap,rfl⟩
set_option maxRecDepth 20000 in
theorem lruns_any (w0 w:World) (wp:Nat) (own:Nat → Nat) (bd:Nat) (hv lv:Value) (hs:List HEnt) (ls:List LEnt) (j:Nat) (x:HEnt) (h:WSt w0 w wp own bd hv lv hs ls) (hbd:bd ≤ 2932031007402) (hj:hs[j]? = some x) :
  Calls prog 29 #[.pointer (some ⟨wp,0,none⟩),.agg #[.pointer (some ⟨x.p,0,none⟩),.pointer (some ⟨x.q,0,none⟩)]] w fun e w'=>e = .returned (.bool true) ∧ WOkH w0 w' wp (bd + 1):=by
 have hll:=h.ll
 have hpos:0 < hs.length:=by have:=(List.getElem?_eq_some_iff.1 hj).1;omega
 have hH:=h.hok j x hj
 have hn:=hH.heap.hi
 obtain ⟨i0,hi0,hz0,hz1,hz2⟩:=info_parts Tryz.infoList
 go_enter func29,ntmps29
 go_wp2_with fail
 refine (sruns_any _ x.p x.r x.n x.B x.V (hH.heap.no ((Fr.refl _ _).alloc _))).mono ?_
 rintro e w1 ⟨vl,L,rfl,hL,hl1,hF1⟩
 have hF01:Fr NoB w w1:=((Fr.refl _ _).alloc _).trans hF1
 have hF01s:Hid (w.heap.size ≤ w1.heap.size):=hF01.size
 have hlb:=owns_mono hl1 (show w.heap.size ≤ _ by simp)
 have c1:w1.cell? ⟨w.heap.size,1,none⟩ = some (.pointer (some ⟨x.q,0,none⟩)):=hF1.cell_some (by simp) id
 clear hF1 hl1
 go_wp2_with fail
 refine (rruns_any _ x.q x.ri x.rh x.n x.I x.H x.md (hH.ref.no hF01)).mono ?_
 rintro e w2 ⟨vm,M,rfl,hM,hm2,hF2⟩
 have hML:M = L:=runs_unique _ _ 0 hM (runs_congr hH.rel.zz L 0 hL)
 subst hML
 have hLn:=runs_len_le M 0 (Nat.zero_le _) hL
 have hl2:=hF2.owns hlb (fun _ _ e=>e)
 have hlt1:∀ g,vl.ownBlock = some g → g < w1.heap.size:=fun g hg=>(hlb.lt g hg).2
 have hF02:=hF01.trans hF2
 have H12:Hid (w1.heap.size ≤ w2.heap.size):=hF2.size
 have Hlt1:Hid (∀ g,vl.ownBlock = some g → g < w1.heap.size):=hlt1
 clear hF2 hlb hL hM hlt1 c1 hF01
 go_wp2_with fail
 obtain ⟨al,cl,el,irl⟩:=span_intRow hl2 0
 obtain ⟨am,cm,em,irm⟩:=span_intRow hm2 0
 subst el
 subst em
 refine (lsame_yes _ al am M.length cl cm _ _ irl irm (by omega)).mono ?_
 rintro e w3 ⟨rfl,hF3⟩
 have hl3:=hF3.owns hl2 (fun _ _ e=>e)
 have hm3:=hF3.owns hm2 (fun _ _ e=>e)
 have hF03:=hF02.trans hF3
 have H23:Hid (w2.heap.size ≤ w3.heap.size):=hF3.size
 have Hmlt:Hid (∀ g,(Value.slice am M.length cm).ownBlock = some g → w1.heap.size ≤ g ∧ g < w2.heap.size):=fun g hg=>hm2.lt g hg
 have hW3:=h.no hF03
 have d1:=hW3.c1
 obtain ⟨ao,cap,elv,hrow⟩:=lrow_of h.lrow
 rw [elv] at d1
 clear hF3 hl2 hm2 hF02 irl irm hrow hW3
 go_wp2_with fail
 refine (lmark_fn _ ls.length (by omega)).mono ?_
 rintro e w4 ⟨rfl,hF4⟩
 have hl4:=hF4.owns hl3 (fun _ _ e=>e)
 have hm4:=hF4.owns hm3 (fun _ _ e=>e)
 have hF04:=hF03.trans hF4
 have H34:Hid (w3.heap.size ≤ w4.heap.size):=hF4.size
 obtain ⟨k,hk⟩:∃ k:Int,k = -1 - (ls.length:Int):=⟨_,rfl⟩
 rw [← hk]
 clear hk hF4 hl3 hm3 hF03 d1
 go_wp2_with fail
 have hl5:=hl4.alloc (Obj.cells #[Value.int .i64 k,Value.int .i64 k] 79)
 have hm5:=hm4.alloc (Obj.cells #[Value.int .i64 k,Value.int .i64 k] 79)
 have s04:=hF04.size
 refine (lmarked_any _ w.heap.size _ M.length _ k k hl5 (by simp;omega) (by omega)).mono ?_
 rintro e w6 ⟨vx,rfl,hx6,hl6,hF6,hpx⟩
 have hm6:=hF6.owns hm5 (fun g hg e=>by have q1:=Hlt1.out g e;have q2:=(Hmlt.out g hg).1;omega)
 have hnb:¬ (Value.slice al M.length cl).ownBlock = some w4.heap.size:=fun e=>by have q1:=Hlt1.out _ e;have:=H12.out;have:=H23.out;have:=H34.out;omega
 have k0:w6.cell? ⟨w4.heap.size,0,none⟩ = some (.int .i64 k):=hF6.cell_some (by simp) hnb
 have k1:w6.cell? ⟨w4.heap.size,1,none⟩ = some (.int .i64 k):=hF6.cell_some (by simp) hnb
 have hF06:Fr NoB w w6:=(hF04.alloc _).then hF6 (fun q hq e=>by have q1:=(hl5.lt q e).1;omega)
 obtain ⟨bx,cx,ex⟩:=slice_of_two hx6
 subst ex
 have Hpx:Hid (w4.heap.size + 1 ≤ bx ∨ (Value.slice al M.length cl).ownBlock = some bx):=by
  rcases hpx bx rfl with q | q
  ·exact .inl (by simpa using q)
  ·exact .inr q
 have H46:Hid (w4.heap.size + 1 ≤ w6.heap.size):=by show w4.heap.size + 1 ≤ w6.heap.size;have:=hF6.size;simpa using this
 have hbx6:bx < w6.heap.size:=(hx6.lt bx rfl).2
 clear hF6 hl5 hm5 hl4 hm4 hpx hnb hF04
 go_wp2_with fail
 refine (lmarked_any _ w1.heap.size _ M.length _ k k hm6 (by have:=H12.out;have:=H23.out;have:=H34.out;have:=H46.out;omega) (by omega)).mono ?_
 rintro e w7 ⟨vw,rfl,hw7,_,hF7,hpw⟩
 have hxm:¬ (Value.slice am M.length cm).ownBlock = some bx:=fun e=>by
  have q2:=Hmlt.out bx e
  rcases Hpx.out with q | q
  ·have:=H23.out;have:=H34.out;omega
  ·have q1:=Hlt1.out bx q;omega
 have hl7:=hF7.owns hl6 (fun g hg e=>by have q1:=Hlt1.out g hg;have q2:=(Hmlt.out g e).1;omega)
 have hx7:=hF7.owns hx6 (fun g hg e=>by
  have e3:bx = g:=by simpa [Value.ownBlock] using hg
  subst e3;exact hxm e)
 have hs01:w.heap.size ≤ w1.heap.size:=hF01s.out
 have hF07:Fr NoB w w7:=hF06.then hF7 (fun q hq e=>by have q2:=(Hmlt.out q e).1;omega)
 obtain ⟨bw,cw,ew⟩:=slice_of_two hw7
 subst ew
 have Hnx:Hid (bx ≠ bw ∧ ∀ g,(Value.slice al M.length cl).ownBlock = some g → g ≠ bw):=by
  refine ⟨fun e=>?_,fun g hg e=>?_⟩
  ·subst e
   rcases hpw bx rfl with q | q
   ·omega
   ·exact hxm q
  ·subst e
   rcases hpw g rfl with q | q
   ·have q1:=Hlt1.out g hg;have:=H12.out;have:=H23.out;have:=H34.out;have:=H46.out;omega
   ·have q1:=Hlt1.out g hg;have q2:=(Hmlt.out g q).1;omega
 have hW7:=h.no hF07
 have c1:=hW7.c1
 rw [elv] at c1
 have hrow7:=hW7.lrow
 rw [elv] at hrow7
 have fz:=hW7.fz 1
 have hwl:=hW7.wl
 have hs0:=hW7.fr.size
 have hw7':=owns_mono hw7 hs01
 have HA:=show Hid (_ ∧ _ ∧ _ ∧ _) from ⟨hF07,hl7,hx7,hw7'⟩
 have Hne:Hid (¬ lv.ownBlock = some wp):=fun e=>by have g1:=h.ol _ e;have g2:=h.ow;omega
 clear hF7 hl6 hx6 hm6 hw7 hpw hxm hl7 hx7 hw7' hF07 hF06 k0 k1 hW7
 go_wp2_with (at_builtin;refine wpList_append_kind _ rfl _ _ 27 rfl w0.heap.size 49 i0 (.agg #[.slice none 0 0,.slice none 0 0,.slice none 0 0]) 3 72 underlying27 hi0 hz0 hz1 hz2 rfl (by decide) _ _ _ rfl (hrow7.alloc _) ⟨w7.heap.size,0,none⟩ 1 1 [.slice al M.length cl,.slice (some ⟨bx,0,none⟩) (M.length + 2) cx,.slice (some ⟨bw,0,none⟩) (M.length + 2) cw] (by decide) rfl rfl ?c1 ?c2 ?c3 ?c4 ?c5 ?_)
 case c1 =>
  intro j u hj
  match j,hj with
  | 0,hj=>simp at hj;subst hj;simp [Addr.add]
  | 1,hj=>simp at hj;subst hj;simp [Addr.add]
  | 2,hj=>simp at hj;subst hj;simp [Addr.add]
 case c2=>intro u hu;simp at hu;rcases hu with rfl | rfl | rfl <;> rfl
 case c3=>unfold maxLen;omega
 case c4=>omega
 case c5=>simp;omega
 intro lv' w8 hown hk
 rw [← elv] at hk
 obtain ⟨a1,a2,a3,a4⟩:=HA.out
 have HE:Hid (WOkH w0 (w8.setCell ⟨wp,1,none⟩ lv') wp (bd + 1)):=addList h a1 a2 a3 a4 rfl rfl rfl (by omega) Hnx.out.1 Hnx.out.2 hown hk hpos
 have hfr:=hk.fr
 have d0:w8.cell? ⟨wp,1,none⟩ = some (.slice ao ls.length cap):=hfr.cell_some (((Fr.refl NoB w7).alloc _).cell_some c1 id) Hne.out
 have d1:w8.frozen? ⟨wp,1,none⟩ = false:=(hfr.frozen (p:=⟨wp,1,none⟩) (by simp;omega) Hne.out).trans ((((Fr.refl NoB w7).alloc _).frozen (p:=⟨wp,1,none⟩) hwl id).trans fz)
 obtain ⟨g',cap',hve,_⟩:=hk.place
 subst hve
 clear hown hk hfr a1 a2 a3 a4 hrow7 c1 fz
 go_wp2
 go_ret
 exact ⟨rfl,HE.out⟩
end Go.Proofs.YthcjcjfgdgnljabGreatDoor
