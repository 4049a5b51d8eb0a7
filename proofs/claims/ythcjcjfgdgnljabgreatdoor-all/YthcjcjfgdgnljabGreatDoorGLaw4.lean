import Derived.Test.YthcjcjfgdgnljabGreatDoorGAppK
set_option linter.unusedVariables false
set_option maxHeartbeats 4000000
set_option maxRecDepth 8000
open Go.Proofs.Tryz
namespace Go.Proofs.YthcjcjfgdgnljabGreatDoor
open Go.RowKit
theorem lpick_fn (w:World) (c:Int) (n:Nat) (hn:1 ≤ n) (hn2:n ≤ 4611686018427387904) (h1:-9223372036854775808 ≤ c) (h2:c ≤ 9223372036854775807) :
  CS 20 #[.int .i64 c,.int .i64 n] w (.int .i64 (pickZ c n:Nat)):=by
 by_cases hc:c < 0
 ·have hm1:=Int.emod_nonneg (-(c + 1)) (show (n:Int) ≠ 0 by omega)
  have HP:Hid (pickZ c n = ((-(c + 1)) % (n:Int)).toNat):=by unfold pickZ;exact if_pos hc
  go_enter func20,ntmps20
  go_wp2
  go_ret
  have e:(c + 1).tmod (n:Int) = -((-(c + 1)) % n):=by
   rw [← Int.tmod_eq_emod_of_nonneg (by omega),Int.neg_tmod,Int.neg_neg]
  exact ⟨ret_int (by rw [HP.out];omega),rfl⟩
 ·have hm1:=Int.emod_nonneg c (show (n:Int) ≠ 0 by omega)
  have HP:Hid (pickZ c n = (c % (n:Int)).toNat):=by unfold pickZ;exact if_neg hc
  go_enter func20,ntmps20
  go_wp2
  go_ret
  exact ⟨ret_int (by rw [HP.out];omega),rfl⟩
theorem lmark_fn (w:World) (k:Nat) (hk:k ≤ 4611686018427387904) :
  CR 39 #[.int .i64 k] w (.agg #[.int .i64 (-1 - (k:Int)),.int .i64 (-1 - (k:Int))]):=by
 go_enter func39,ntmps39
 go_wp2
 refine bodyPost_ret (v:=.agg #[.int .i64 (-1 - (k:Int)),.int .i64 (-1 - (k:Int))]) (by simp [results,results39,go_sem]) rfl ⟨rfl,?_⟩
 repeat (first | exact Fr.refl _ _ | refine Fr.setCell ?_ (fun h=>absurd h (Nat.lt_irrefl _)) _ | refine Fr.alloc ?_ _)
structure IntRow (w:World) (ao:Option Addr) (m:Nat) (A N:Nat → Int):Prop where
 some_:0 < m → ∃ g,ao = some ⟨g,0,none⟩
 c0:∀ g i,i < m → ao = some ⟨g,0,none⟩ → w.cell? ⟨g,i * 2,none⟩ = some (.int .i64 (A i))
 c1:∀ g i,i < m → ao = some ⟨g,0,none⟩ → w.cell? ⟨g,i * 2 + 1,none⟩ = some (.int .i64 (N i))
theorem IntRow.fr {S:Nat → Prop} {w w':World} {ao:Option Addr} {m:Nat} {A N:Nat → Int} (h:IntRow w ao m A N) (hf:Fr S w w') (hs:∀ g,ao = some ⟨g,0,none⟩ → ¬ S g):IntRow w' ao m A N :=
 ⟨h.some_,fun g i hi e=>hf.cell_some (h.c0 g i hi e) (hs g e),fun g i hi e=>hf.cell_some (h.c1 g i hi e) (hs g e)⟩
theorem IntRow.no {w w':World} {ao:Option Addr} {m:Nat} {A N:Nat → Int} (h:IntRow w ao m A N) (hf:Fr NoB w w'):IntRow w' ao m A N:=h.fr hf (fun _ _ h=>h)
theorem IntRow.take {w:World} {ao:Option Addr} {m k:Nat} {A N:Nat → Int} (h:IntRow w ao m A N) (hk:k ≤ m):IntRow w ao k A N :=
 ⟨fun h0=>h.some_ (by omega),fun g i hi e=>h.c0 g i (by omega) e,fun g i hi e=>h.c1 g i (by omega) e⟩
theorem lsame_yes (w:World) (ao bo:Option Addr) (m ca cb:Nat) (A N:Nat → Int) (ha:IntRow w ao m A N) (hb:IntRow w bo m A N) (hm:m ≤ 4611686018427387904) :
  CR 16 #[.slice ao m ca,.slice bo m cb] w (.bool true):=by
 go_enter func16,ntmps16
 go_wp2_with fail
 go_loopw [5] (fun t wr=>∃ i:Nat,i ≤ m ∧ t = .int .i64 i ∧ Fr NoB w wr) (fun t _=>m - (intOf t).toNat)
 case atStart=>exact ⟨0,Nat.zero_le _,rfl,Fr.refl _ _⟩
 case round =>
  obtain ⟨i,hi,rfl,hF⟩:=hrel
  by_cases hlt:i < m
  ·obtain ⟨ga,rfl⟩:=ha.some_ (by omega)
   obtain ⟨gb,rfl⟩:=hb.some_ (by omega)
   have a0:=(ha.no hF).c0 ga i hlt rfl
   have a1:=(ha.no hF).c1 ga i hlt rfl
   have b0:=(hb.no hF).c0 gb i hlt rfl
   have b1:=(hb.no hF).c1 gb i hlt rfl
   go_wp2_with fail
   go_quiet (fail)
   go_wp2
   go_roundw
   case rel=>exact ⟨i + 1,by omega,by go_num,hF.drewM _⟩
   case measure=>simp [intOf];omega
  ·go_wp2
   go_ret
   exact ⟨rfl,hF⟩
theorem owns_sub {w1 w2:World} {base g n n1 cap1:Nat} {e:TypeId} {size:Nat} {v:Value} {xs ys:List Value} (hv:v.ownBlock = some g) (ho:w1.ownsRow base e size v n xs)
  (h1:w1.ownsRow base e size (.slice (some ⟨g,0,none⟩) n1 cap1) n1 (xs ++ ys)) (h2:w2.ownsRow base e size (.slice (some ⟨g,0,none⟩) n1 cap1) n1 (xs ++ ys)) (hs:0 < size):w2.ownsRow base e size v n xs:=by
 refine ⟨ho.1,?_⟩
 rcases ho.2 with ⟨rfl,_⟩ | ⟨g0,cap0,cur0,rfl,hb0,hh0,hn0,hc0,hs0,_⟩
 ·cases hv
 ·injection hv with hv
  simp at hv
  subst hv
  rcases h1.2 with ⟨hx,_⟩ | ⟨g1,cap1',cur1,hx,_,hh1,_,_,hs1,_⟩
  ·cases hx
  ·cases hx
   rcases h2.2 with ⟨hx,_⟩ | ⟨g2,cap2,cur2,hx,_,hh2,hn2,hc2,hs2,ht2⟩
   ·cases hx
   ·cases hx
    have hcur:cur0 = cur1:=by rw [hh0] at hh1;injection hh1 with hh1;injection hh1
    have hcap:cap0 = cap1:=by
     rw [hcur,hs1] at hs0
     exact (Nat.eq_of_mul_eq_mul_right hs hs0).symm
    subst hcap
    refine .inr ⟨g0,cap0,cur2,rfl,hb0,hh2,hn0,hc0,hs2,?_⟩
    have hx:=ho.1
    have hle:n * size ≤ n1 * size:=by
     have:=h1.1
     rw [List.length_append,hx] at this
     omega
    have:cur2.toList.take (n * size) = (cur2.toList.take (n1 * size)).take (n * size):=by
     rw [List.take_take,Nat.min_eq_left hle]
    rw [this,ht2,← hx,List.take_left]
theorem marked_end {w w1 w2:World} {o:Obj} {base g1 n cap1:Nat} {v v2:Value} {xs:List Value} {x y:Int} (hown1:w1.ownsRow base 79 2 (.slice (some ⟨g1,0,none⟩) (n + 1) cap1) (n + 1) (xs ++ [.int .i64 x,.int .i64 y]))
  (hko:w1.ownsRow base 79 2 v n xs) (hF:Fr (fun q=>v.ownBlock = some q) w w1) (hpl:g1 = w.heap.size + 2 ∨ v.ownBlock = some g1) (hsz:w.heap.size + 2 ≤ w1.heap.size)
  (hown2:w2.ownsRow base 79 2 v2 (n + 1 + 1) (xs ++ [.int .i64 x,.int .i64 y,.int .i64 x,.int .i64 y])) (hk:AppKind (w1.alloc o) w2 (.slice (some ⟨g1,0,none⟩) (n + 1) cap1) v2 (n + 1) 1) :
  w2.ownsRow base 79 2 v2 (n + 2) (xs ++ [.int .i64 x,.int .i64 y,.int .i64 x,.int .i64 y]) ∧ w2.ownsRow base 79 2 v n xs ∧ Fr (fun q=>v.ownBlock = some q) w w2 ∧ (∀ g,v2.ownBlock = some g → w.heap.size ≤ g ∨ v.ownBlock = some g):=by
 have hown3:w2.ownsRow base 79 2 v2 (n + 1 + 1) ((xs ++ [.int .i64 x,.int .i64 y]) ++ [.int .i64 x,.int .i64 y]):=by simpa using hown2
 have hkk:=hk.keep (hown1.alloc o) hown3
 have hfr:=hk.fr
 refine ⟨hown2,?_,?_,?_⟩
 ·by_cases e:v.ownBlock = some g1
  ·exact owns_sub e hko hown1 hkk (by decide)
  ·exact (((Fr.refl _ w1).alloc o).trans hfr).owns hko (fun k hk2 e2=>by
    have e3:g1 = k:=by simpa [Value.ownBlock] using e2
    subst e3;exact e hk2)
 ·refine hF.then (((Fr.refl _ w1).alloc o).trans hfr) (fun q hq e2=>?_)
  have e3:g1 = q:=by simpa [Value.ownBlock] using e2
  subst e3
  rcases hpl with h | h
  ·omega
  ·exact h
 ·intro g hg
  obtain ⟨g2,cap2,rfl,h⟩:=hk.place
  have e:g2 = g:=by simpa [Value.ownBlock] using hg
  subst e
  rcases h with h | h
  ·refine .inl ?_
   simp at h
   omega
  ·have e3:g1 = g2:=by simpa [Value.ownBlock] using h
   subst e3
   rcases hpl with h | h
   ·exact .inl (by omega)
   ·exact .inr h
theorem lmarked_any (w:World) (base:Nat) (v:Value) (n:Nat) (xs:List Value) (x y:Int) (hown:w.ownsRow base 79 2 v n xs) (hb:base ≤ w.heap.size) (hn:n ≤ 8192) :
  Calls prog 48 #[v,.agg #[.int .i64 x,.int .i64 y]] w fun e w'=>∃ v',e = .returned v' ∧ w'.ownsRow base 79 2 v' (n + 2) (xs ++ [.int .i64 x,.int .i64 y,.int .i64 x,.int .i64 y]) ∧
   w'.ownsRow base 79 2 v n xs ∧ Fr (fun q=>v.ownBlock = some q) w w' ∧ (∀ g,v'.ownBlock = some g → w.heap.size ≤ g ∨ v.ownBlock = some g):=by
 obtain ⟨i0,hi0,hz0,hz1,hz2⟩:=info_parts Tryz.infoSpan
 have hvl:∀ k,v.ownBlock = some k → k < w.heap.size:=fun k hk=>(hown.lt k hk).2
 have Hvl:Hid (∀ k,v.ownBlock = some k → k < w.heap.size):=hvl
 clear hvl
 go_enter func48,ntmps48
 go_wp2_with (at_builtin;refine wpList_append_kind _ rfl (.tmp 6) (.tmp 8) 47 rfl base 79 i0 (.agg #[.int .i64 0,.int .i64 0]) 2 16 underlying47 hi0 hz0 hz1 hz2 rfl (by decide) _ _ _ rfl ((hown.alloc _).alloc _) ⟨w.heap.size + 1,0,none⟩ 1 1 [.int .i64 x,.int .i64 y] (by decide) rfl rfl ?c1 ?c2 ?c3 ?c4 ?c5 ?_)
 case c1 =>
  intro j u hj
  match j,hj with
  | 0,hj=>simp at hj;subst hj;simp [Addr.add]
  | 1,hj=>simp at hj;subst hj;simp [Addr.add]
 case c2=>intro u hu;simp at hu;rcases hu with rfl | rfl <;> rfl
 case c3=>unfold maxLen;omega
 case c4=>omega
 case c5=>simp;omega
 intro v1 w1 hown1 hk1
 have hko:=hk1.keep ((hown.alloc _).alloc _) hown1
 have hf1:=hk1.fr
 have hs1:=hf1.size
 have hnb:¬ v.ownBlock = some w.heap.size:=fun e=>absurd (Hvl.out _ e) (Nat.lt_irrefl _)
 have b0:w1.cell? ⟨w.heap.size,0,none⟩ = some (.int .i64 x):=hf1.cell_some (by simp) hnb
 have b1:w1.cell? ⟨w.heap.size,1,none⟩ = some (.int .i64 y):=hf1.cell_some (by simp) hnb
 have hF1:Fr (fun q=>v.ownBlock = some q) w w1:=(((Fr.refl _ w).alloc _).alloc _).trans hf1
 obtain ⟨g1,cap1,rfl,hpl⟩:=hk1.place
 have HA:Hid (w1.ownsRow base 79 2 v n xs ∧ Fr (fun q=>v.ownBlock = some q) w w1 ∧ (g1 = w.heap.size + 2 ∨ v.ownBlock = some g1)):=⟨hko,hF1,by simpa using hpl⟩
 have hsz:w.heap.size + 2 ≤ w1.heap.size:=by simpa using hs1
 clear hk1 hko hf1 hF1 hpl hs1 hnb hown
 go_wp2_with (at_builtin;refine wpList_append_kind _ rfl (.tmp 10) (.tmp 12) 47 rfl base 79 i0 (.agg #[.int .i64 0,.int .i64 0]) 2 16 underlying47 hi0 hz0 hz1 hz2 rfl (by decide) _ _ _ rfl (hown1.alloc _) ⟨w1.heap.size,0,none⟩ 1 1 [.int .i64 x,.int .i64 y] (by decide) rfl rfl ?d1 ?d2 ?d3 ?d4 ?d5 ?_)
 case d1 =>
  intro j u hj
  match j,hj with
  | 0,hj=>simp at hj;subst hj;simp [Addr.add]
  | 1,hj=>simp at hj;subst hj;simp [Addr.add]
 case d2=>intro u hu;simp at hu;rcases hu with rfl | rfl <;> rfl
 case d3=>unfold maxLen;omega
 case d4=>omega
 case d5=>simp;omega
 intro v2 w2 hown2 hk2
 have HB:Hid (∃ vv,vv = v2 ∧ w2.ownsRow base 79 2 vv (n + 2) (xs ++ [.int .i64 x,.int .i64 y,.int .i64 x,.int .i64 y]) ∧ w2.ownsRow base 79 2 v n xs ∧ Fr (fun q=>v.ownBlock = some q) w w2 ∧ (∀ g,vv.ownBlock = some g → w.heap.size ≤ g ∨ v.ownBlock = some g)) :=
  ⟨v2,rfl,marked_end hown1 HA.out.1 HA.out.2.1 HA.out.2.2 hsz hown2 hk2⟩
 clear hown2 hk2 hown1
 go_wp2
 go_ret
 obtain ⟨vv,rfl,h1,h2,h3,h4⟩:=HB.out
 exact ⟨_,rfl,h1,h2,h3,h4⟩
structure HEnt where
 p:Nat
 r:Nat
 q:Nat
 ri:Nat
 rh:Nat
 n:Nat
 B:Nat → Int
 V:Nat → Int
 I:Nat → Int
 H:Nat → Int
 md:Int
structure LEnt where
 ao:Option Addr
 len:Nat
 cl:Nat
 bx:Nat
 cx:Nat
 bw:Nat
 cw:Nat
 A:Nat → Int
 N:Nat → Int
structure HOk (w:World) (own:Nat → Nat) (i:Nat) (bd:Nat) (e:HEnt):Prop where
 heap:HeapAt w e.p e.r e.n e.B e.V
 ref:RefAt w e.q e.ri e.rh e.n e.I e.H e.md
 rel:Rel e.n e.B e.V e.I e.H e.md
 md:e.md ≤ bd
 op:own e.p = 4 + 3 * i
 or_:own e.r = 4 + 3 * i
 oq:own e.q = 5 + 3 * i
 oi:own e.ri = 5 + 3 * i
 oh:own e.rh = 5 + 3 * i
structure LOk (w:World) (own:Nat → Nat) (i:Nat) (e:LEnt):Prop where
 l:IntRow w e.ao e.len e.A e.N
 x:IntRow w (some ⟨e.bx,0,none⟩) (e.len + 2) e.A e.N
 y:IntRow w (some ⟨e.bw,0,none⟩) (e.len + 2) e.A e.N
 fl:0 < e.len → ∀ g,e.ao = some ⟨g,0,none⟩ → ∀ o,w.frozen? ⟨g,o,none⟩ = false
 fx:∀ o,w.frozen? ⟨e.bx,o,none⟩ = false
 fw:∀ o,w.frozen? ⟨e.bw,o,none⟩ = false
 hx:e.len + 2 ≤ e.cx
 hw:e.len + 2 ≤ e.cw
 hl:e.len ≤ 4096
 hc:e.cl ≤ 9223372036854775807 ∧ e.cx ≤ 9223372036854775807 ∧ e.cw ≤ 9223372036854775807
 ol:0 < e.len → ∀ g,e.ao = some ⟨g,0,none⟩ → own g = 6 + 3 * i
 ox:own e.bx = 6 + 3 * i
 ow:own e.bw = 6 + 3 * i
 nx:e.bx ≠ e.bw
 nl:0 < e.len → ∀ g,e.ao = some ⟨g,0,none⟩ → g ≠ e.bw
theorem HOk.fr {S:Nat → Prop} {w w':World} {own:Nat → Nat} {i bd:Nat} {e:HEnt} (h:HOk w own i bd e) (hf:Fr S w w') (hs:∀ k,S k → own k ≠ 4 + 3 * i ∧ own k ≠ 5 + 3 * i):HOk w' own i bd e :=
 ⟨h.heap.fr hf (fun g=>(hs _ g).1 h.op) (fun g=>(hs _ g).1 h.or_),h.ref.fr hf (fun g=>(hs _ g).2 h.oq) (fun g=>(hs _ g).2 h.oi) (fun g=>(hs _ g).2 h.oh),h.rel,h.md,h.op,h.or_,h.oq,h.oi,h.oh⟩
theorem HOk.reown {w:World} {own own':Nat → Nat} {i bd:Nat} {e:HEnt} (h:HOk w own i bd e) (ho:∀ k,k < w.heap.size → own' k = own k):HOk w own' i bd e :=
 ⟨h.heap,h.ref,h.rel,h.md,(ho _ h.heap.pl).trans h.op,(ho _ h.heap.rl).trans h.or_,(ho _ h.ref.ql).trans h.oq,(ho _ h.ref.il).trans h.oi,(ho _ h.ref.hl).trans h.oh⟩
theorem HOk.mono {w:World} {own:Nat → Nat} {i bd bd':Nat} {e:HEnt} (h:HOk w own i bd e) (hb:bd ≤ bd'):HOk w own i bd' e :=
 ⟨h.heap,h.ref,h.rel,by have:=h.md;omega,h.op,h.or_,h.oq,h.oi,h.oh⟩
theorem LOk.xl {w:World} {own:Nat → Nat} {i:Nat} {e:LEnt} (h:LOk w own i e):e.bx < w.heap.size:=World.block_lt_of_cell? w _ (h.x.c0 e.bx 0 (by omega) rfl)
theorem LOk.wl {w:World} {own:Nat → Nat} {i:Nat} {e:LEnt} (h:LOk w own i e):e.bw < w.heap.size:=World.block_lt_of_cell? w _ (h.y.c0 e.bw 0 (by omega) rfl)
theorem LOk.gl {w:World} {own:Nat → Nat} {i:Nat} {e:LEnt} (h:LOk w own i e) (h0:0 < e.len) {g:Nat} (hg:e.ao = some ⟨g,0,none⟩):g < w.heap.size:=World.block_lt_of_cell? w _ (h.l.c0 g 0 h0 hg)
theorem IntRow.empty {w w':World} {ao:Option Addr} {A N:Nat → Int} (h:IntRow w ao 0 A N):IntRow w' ao 0 A N :=
 ⟨h.some_,fun _ i hi=>absurd hi (by omega),fun _ i hi=>absurd hi (by omega)⟩
theorem LOk.fr {S:Nat → Prop} {w w':World} {own:Nat → Nat} {i:Nat} {e:LEnt} (h:LOk w own i e) (hf:Fr S w w') (hs:∀ k,S k → own k ≠ 6 + 3 * i):LOk w' own i e:=by
 have hx:¬ S e.bx:=fun g=>hs _ g h.ox
 have hw:¬ S e.bw:=fun g=>hs _ g h.ow
 refine ⟨?_,h.x.fr hf (fun g hg=>by injection hg with hg;injection hg with hg;subst hg;exact hx),h.y.fr hf (fun g hg=>by injection hg with hg;injection hg with hg;subst hg;exact hw),
  fun h0 g hg o=>(hf.frozen (p:=⟨g,o,none⟩) (h.gl h0 hg) (fun s=>hs _ s (h.ol h0 g hg))).trans (h.fl h0 g hg o),fun o=>(hf.frozen (p:=⟨e.bx,o,none⟩) h.xl hx).trans (h.fx o),fun o=>(hf.frozen (p:=⟨e.bw,o,none⟩) h.wl hw).trans (h.fw o),
  h.hx,h.hw,h.hl,h.hc,h.ol,h.ox,h.ow,h.nx,h.nl⟩
 by_cases h0:0 < e.len
 ·exact h.l.fr hf (fun g hg s=>hs _ s (h.ol h0 g hg))
 ·have:e.len = 0:=by omega
  have hl:=h.l
  rw [this] at hl ⊢
  exact hl.empty
theorem LOk.reown {w:World} {own own':Nat → Nat} {i:Nat} {e:LEnt} (h:LOk w own i e) (ho:∀ k,k < w.heap.size → own' k = own k):LOk w own' i e :=
 ⟨h.l,h.x,h.y,h.fl,h.fx,h.fw,h.hx,h.hw,h.hl,h.hc,fun h0 g hg=>(ho _ (h.gl h0 hg)).trans (h.ol h0 g hg),(ho _ h.xl).trans h.ox,(ho _ h.wl).trans h.ow,h.nx,h.nl⟩
def pairCells (e:HEnt):List Value:=[.pointer (some ⟨e.p,0,none⟩),.pointer (some ⟨e.q,0,none⟩)]
def listCells (e:LEnt):List Value:=[.slice e.ao e.len e.cl,.slice (some ⟨e.bx,0,none⟩) (e.len + 2) e.cx,.slice (some ⟨e.bw,0,none⟩) (e.len + 2) e.cw]
structure WSt (w0 w:World) (wp:Nat) (own:Nat → Nat) (bd:Nat) (hv lv:Value) (hs:List HEnt) (ls:List LEnt):Prop where
 c0:w.cell? ⟨wp,0,none⟩ = some hv
 c1:w.cell? ⟨wp,1,none⟩ = some lv
 fz:∀ o,w.frozen? ⟨wp,o,none⟩ = false
 ow:own wp = 1
 hrow:w.ownsRow w0.heap.size 43 2 hv hs.length (hs.flatMap pairCells)
 lrow:w.ownsRow w0.heap.size 49 3 lv ls.length (ls.flatMap listCells)
 oh:∀ g,hv.ownBlock = some g → own g = 2
 ol:∀ g,lv.ownBlock = some g → own g = 3
 hok:∀ i e,hs[i]? = some e → HOk w own i bd e
 lok:∀ i e,ls[i]? = some e → LOk w own i e
 old:∀ k,k < w0.heap.size → own k = 0
 fr:Fr NoB w0 w
 hl:hs.length ≤ bd + 1
 ll:ls.length ≤ bd
theorem WSt.wl {w0 w:World} {wp:Nat} {own:Nat → Nat} {bd:Nat} {hv lv:Value} {hs:List HEnt} {ls:List LEnt} (h:WSt w0 w wp own bd hv lv hs ls):wp < w.heap.size:=World.block_lt_of_cell? w _ h.c0
theorem WSt.reown {w0 w:World} {wp:Nat} {own own':Nat → Nat} {bd:Nat} {hv lv:Value} {hs:List HEnt} {ls:List LEnt} (h:WSt w0 w wp own bd hv lv hs ls) (ho:∀ k,k < w.heap.size → own' k = own k):WSt w0 w wp own' bd hv lv hs ls :=
 ⟨h.c0,h.c1,h.fz,(ho _ h.wl).trans h.ow,h.hrow,h.lrow,fun g hg=>(ho _ (h.hrow.lt g hg).2).trans (h.oh g hg),fun g hg=>(ho _ (h.lrow.lt g hg).2).trans (h.ol g hg),
  fun i e he=>(h.hok i e he).reown ho,fun i e he=>(h.lok i e he).reown ho,fun k hk=>(ho _ (by have:=h.fr.size;omega)).trans (h.old k hk),h.fr,h.hl,h.ll⟩
theorem WSt.mono {w0 w:World} {wp:Nat} {own:Nat → Nat} {bd bd':Nat} {hv lv:Value} {hs:List HEnt} {ls:List LEnt} (h:WSt w0 w wp own bd hv lv hs ls) (hb:bd ≤ bd'):WSt w0 w wp own bd' hv lv hs ls :=
 ⟨h.c0,h.c1,h.fz,h.ow,h.hrow,h.lrow,h.oh,h.ol,fun i e he=>(h.hok i e he).mono hb,h.lok,h.old,h.fr,by have:=h.hl;omega,by have:=h.ll;omega⟩
theorem WSt.no {w0 w w':World} {wp:Nat} {own:Nat → Nat} {bd:Nat} {hv lv:Value} {hs:List HEnt} {ls:List LEnt} (h:WSt w0 w wp own bd hv lv hs ls) (hf:Fr NoB w w'):WSt w0 w' wp own bd hv lv hs ls :=
 ⟨hf.cell_some h.c0 id,hf.cell_some h.c1 id,fun o=>(hf.frozen (p:=⟨wp,o,none⟩) h.wl id).trans (h.fz o),h.ow,hf.owns h.hrow (fun _ _ e=>e),hf.owns h.lrow (fun _ _ e=>e),h.oh,h.ol,
  fun i e he=>(h.hok i e he).fr hf (fun _ e=>e.elim),fun i e he=>(h.lok i e he).fr hf (fun _ e=>e.elim),h.old,h.fr.trans hf,h.hl,h.ll⟩
theorem WSt.heapTurn {w0 w w':World} {wp:Nat} {own:Nat → Nat} {bd:Nat} {hv lv:Value} {hs:List HEnt} {ls:List LEnt} (h:WSt w0 w wp own bd hv lv hs ls) {j:Nat} {e e':HEnt} (hj:hs[j]? = some e)
  (hf:Fr (fun k=>own k = 4 + 3 * j ∨ own k = 5 + 3 * j) w w') (he:HOk w' own j bd e') (hp:e'.p = e.p) (hq:e'.q = e.q):∃ hs',WSt w0 w' wp own bd hv lv hs' ls ∧ hs'.length = hs.length:=by
 have hjl:j < hs.length:=(List.getElem?_eq_some_iff.1 hj).1
 have hje:hs[j] = e:=(List.getElem?_eq_some_iff.1 hj).2
 have hcells:(hs.set j e').flatMap pairCells = hs.flatMap pairCells:=by
  rw [List.flatMap_def,List.flatMap_def,List.map_set]
  have:pairCells e' = (hs.map pairCells)[j]'(by simpa using hjl):=by
   rw [List.getElem_map,hje];unfold pairCells;rw [hp,hq]
  rw [this,List.set_getElem_self]
 refine ⟨hs.set j e',⟨hf.cell_some h.c0 ?_,hf.cell_some h.c1 ?_,fun o=>(hf.frozen (p:=⟨wp,o,none⟩) h.wl ?_).trans (h.fz o),h.ow,?_,?_,h.oh,h.ol,?_,?_,h.old,?_,?_,h.ll⟩,by simp⟩
 ·rintro (g | g) <;> (have:=h.ow;simp only at g;omega)
 ·rintro (g | g) <;> (have:=h.ow;simp only at g;omega)
 ·rintro (g | g) <;> (have:=h.ow;simp only at g;omega)
 ·rw [List.length_set,hcells];exact hf.owns h.hrow (fun k hk=>by rintro (g | g) <;> (have:=h.oh k hk;omega))
 ·exact hf.owns h.lrow (fun k hk=>by rintro (g | g) <;> (have:=h.ol k hk;omega))
 ·intro i x hx
  by_cases hij:i = j
  ·subst hij
   rw [List.getElem?_set_self hjl] at hx
   injection hx with hx
   subst hx
   exact he
  ·rw [List.getElem?_set_ne (fun e=>hij e.symm)] at hx
   exact (h.hok i x hx).fr hf (fun k hk=>by rcases hk with g | g <;> (constructor <;> omega))
 ·intro i x hx
  exact (h.lok i x hx).fr hf (fun k hk=>by rcases hk with g | g <;> omega)
 ·exact h.fr.then hf (fun k hk hs=>by have:=h.old k hk;rcases hs with g | g <;> omega)
 ·rw [List.length_set];exact h.hl
theorem Tryz.infoPair:(prog.info? 43).map (fun i=>(i.zero,i.size,i.bytes)) = some (some (.agg #[.pointer none,.pointer none]),2,16):=by kernel_rfl
theorem Tryz.infoList:(prog.info? 49).map (fun i=>(i.zero,i.size,i.bytes)) = some (some (.agg #[.slice none 0 0,.slice none 0 0,.slice none 0 0]),3,72):=by kernel_rfl
def WOkH (w0 w:World) (wp bd:Nat):Prop:=∃ own hv lv hs ls,WSt w0 w wp own bd hv lv hs ls ∧ 0 < hs.length
theorem addHeap {w0 w w1 w2 w3:World} {wp:Nat} {own:Nat → Nat} {bd:Nat} {hv hv' lv:Value} {hs:List HEnt} {ls:List LEnt} {o:Obj} {p r q ri rh n:Nat} (h:WSt w0 w wp own bd hv lv hs ls)
  (hF1:Fr NoB w w1) (hF2:Fr NoB w1 w2) (hp:w.heap.size ≤ p) (hr:w.heap.size ≤ r) (hH:HeapAt w1 p r n (fun _=>0) (fun _=>0))
  (hq:w1.heap.size ≤ q) (hri:w1.heap.size ≤ ri) (hrh:w1.heap.size ≤ rh) (hR:RefAt w2 q ri rh n (fun _=>0) (fun _=>0) 0)
  (hown:w3.ownsRow w0.heap.size 43 2 hv' (hs.length + 1) (hs.flatMap pairCells ++ [.pointer (some ⟨p,0,none⟩),.pointer (some ⟨q,0,none⟩)]))
  (hk:AppKind (w2.alloc o) w3 hv hv' hs.length 1):WOkH w0 (w3.setCell ⟨wp,0,none⟩ hv') wp (bd + 1):=by
 have s1:=hF1.size
 have s2:=hF2.size
 have hwl:=h.wl
 have hpl:=hH.pl
 have hrl:=hH.rl
 have hql:=hR.ql
 have hil:=hR.il
 have hhl:=hR.hl
 have hW2:=(h.no hF1).no hF2
 let own':Nat → Nat:=fun k=>if k < w.heap.size then own k else if k < w1.heap.size then 4 + 3 * hs.length else if k < w2.heap.size then 5 + 3 * hs.length else 2
 have o0:∀ k,k < w.heap.size → own' k = own k:=fun k hk=>by simp only [own',if_pos hk]
 have o1:∀ k,w.heap.size ≤ k → k < w1.heap.size → own' k = 4 + 3 * hs.length:=fun k h1 h2=>by simp only [own'];rw [if_neg (by omega),if_pos h2]
 have o2:∀ k,w1.heap.size ≤ k → k < w2.heap.size → own' k = 5 + 3 * hs.length:=fun k h1 h2=>by simp only [own'];rw [if_neg (by omega),if_neg (by omega),if_pos h2]
 have o3:∀ k,w2.heap.size ≤ k → own' k = 2:=fun k h1=>by simp only [own'];rw [if_neg (by omega),if_neg (by omega),if_neg (by omega)]
 have hWo:=((h.reown o0).no hF1).no hF2
 have hfr:Fr (fun k=>hv.ownBlock = some k) w2 w3:=((Fr.refl _ w2).alloc o).trans hk.fr
 have hfr2:Fr (fun k=>own' k = 2) w2 w3:=hfr.mono (fun k _ e=>hWo.oh k e)
 have hset:Fr (fun k=>own' k = 2 ∨ k = wp) w2 (w3.setCell ⟨wp,0,none⟩ hv'):=(hfr2.mono (T:=fun k=>own' k = 2 ∨ k = wp) (fun k _ e=>.inl e)).setCell (p:=⟨wp,0,none⟩) (fun _=>.inr rfl) _
 have ow1:own' wp = 1:=hWo.ow
 have hne:∀ k,(own' k = 2 ∨ k = wp) → own' k = 2 ∨ own' k = 1:=fun k e=>by
  rcases e with e | e
  ·exact .inl e
  ·subst e;exact .inr ow1
 have hwp3:wp < w3.heap.size:=by have:=hfr.size;omega
 have hhv':∀ g,hv'.ownBlock = some g → own' g = 2:=fun g hg=>by
  obtain ⟨g2,cap2,rfl,hpl⟩:=hk.place
  have e:g2 = g:=by simpa [Value.ownBlock] using hg
  subst e
  rcases hpl with e | e
  ·exact o3 g2 (by simp at e;omega)
  ·exact hWo.oh g2 e
 refine ⟨own',hv',lv,hs ++ [⟨p,r,q,ri,rh,n,fun _=>0,fun _=>0,fun _=>0,fun _=>0,0⟩],ls,⟨?_,?_,?_,ow1,?_,?_,hhv',hWo.ol,?_,?_,hWo.old,?_,?_,by have:=h.ll;omega⟩,by simp⟩
 ·exact cell_same (hfr2.cell_some hWo.c0 (fun e=>by rw [ow1] at e;omega))
 ·exact (cell_other (.inr (by omega))).trans (hfr2.cell_some hWo.c1 (fun e=>by rw [ow1] at e;omega))
 ·intro x
  rw [World.frozen?_setCell]
  exact (hfr2.frozen (p:=⟨wp,x,none⟩) hWo.wl (fun e=>by rw [ow1] at e;omega)).trans (hWo.fz x)
 ·have hx:(hs ++ [(⟨p,r,q,ri,rh,n,fun _=>0,fun _=>0,fun _=>0,fun _=>0,0⟩:HEnt)]).flatMap pairCells = hs.flatMap pairCells ++ [.pointer (some ⟨p,0,none⟩),.pointer (some ⟨q,0,none⟩)]:=by simp [pairCells]
  rw [hx,List.length_append]
  exact ((Fr.refl (OneB wp) w3).setCell (p:=⟨wp,0,none⟩) (fun _=>rfl) _).owns hown (fun k hk2 e=>by have e':k = wp:=e;subst e';have:=hhv' _ hk2;rw [ow1] at this;omega)
 ·exact hset.owns hWo.lrow (fun k hk2 e=>by have:=hWo.ol k hk2;rcases hne k e with g | g <;> omega)
 ·intro i e he
  by_cases hi:i < hs.length
  ·rw [List.getElem?_append_left hi] at he
   exact ((hWo.hok i e he).fr hset (fun k e=>by rcases hne k e with g | g <;> (constructor <;> omega))).mono (by omega)
  ·rw [List.getElem?_append_right (by omega)] at he
   have hi0:i = hs.length:=by
    by_cases g:i - hs.length = 0
    ·omega
    ·rw [List.getElem?_eq_none (by simp;omega)] at he;cases he
   subst hi0
   simp at he
   subst he
   have hn1:∀ k,w.heap.size ≤ k → k < w2.heap.size → ¬ (own' k = 2 ∨ k = wp):=fun k g1 g2 e=>by
    rcases hne k e with g | g
    ·by_cases g3:k < w1.heap.size
     ·rw [o1 k g1 g3] at g;omega
     ·rw [o2 k (by omega) g2] at g;omega
    ·by_cases g3:k < w1.heap.size
     ·rw [o1 k g1 g3] at g;omega
     ·rw [o2 k (by omega) g2] at g;omega
   exact ⟨(hH.no hF2).fr hset (hn1 p hp (by omega)) (hn1 r hr (by omega)),hR.fr hset (hn1 q (by omega) hql) (hn1 ri (by omega) hil) (hn1 rh (by omega) hhl),Rel.start n,by show (0:Int) ≤ _;omega,o1 p hp hpl,o1 r hr hrl,o2 q hq hql,o2 ri hri hil,o2 rh hrh hhl⟩
 ·intro i e he
  exact (hWo.lok i e he).fr hset (fun k e=>by rcases hne k e with g | g <;> omega)
 ·exact hWo.fr.then hset (fun k hk2 e=>by have:=hWo.old k hk2;rcases hne k e with g | g <;> omega)
 ·rw [List.length_append];have:=h.hl;simp;omega
theorem lmade_no (w:World) (wp:Nat) (a:Int) (ha:a < 1 ∨ 4096 < a) :
  CR 5 #[.pointer (some ⟨wp,0,none⟩),.int .i64 a] w (.bool true):=by
 go_enter func5,ntmps5
 go_wp2_with fail
 refine (new_no _ a ha).mono ?_
 rintro e w1 ⟨rfl,hF⟩
 go_wp2_with fail
 refine (rnew_no _ a ha).mono ?_
 rintro e w2 ⟨rfl,rfl⟩
 go_wp2
 go_ret
 exact ⟨rfl,hF⟩
set_option maxRecDepth 20000 in
theorem lmade_yes (w0 w:World) (wp:Nat) (own:Nat → Nat) (bd:Nat) (hv lv:Value) (hs:List HEnt) (ls:List LEnt) (n:Nat) (h1:1 ≤ n) (h2:n ≤ 4096) (h:WSt w0 w wp own bd hv lv hs ls) (hbd:bd ≤ 2932031007402) :
  Calls prog 5 #[.pointer (some ⟨wp,0,none⟩),.int .i64 n] w fun e w'=>e = .returned (.bool true) ∧ WOkH w0 w' wp (bd + 1):=by
 obtain ⟨i0,hi0,hz0,hz1,hz2⟩:=info_parts Tryz.infoPair
 have hhl:=h.hl
 go_enter func5,ntmps5
 go_wp2_with fail
 refine (new_yes _ n h1 h2).mono ?_
 rintro e w1 ⟨p,r,rfl,hF1,hp,hr,hH⟩
 go_wp2_with fail
 refine (rnew_yes _ n h1 h2).mono ?_
 rintro e w2 ⟨q,ri,rh,rfl,hF2,hq,hri,hrh,hR⟩
 have hW2:=(h.no hF1).no hF2
 have c0:=hW2.c0
 have hrow:=hW2.hrow
 have fz:=hW2.fz 0
 have hwl:=hW2.wl
 have HA:=show Hid (_ ∧ _ ∧ _ ∧ _ ∧ _ ∧ _ ∧ _ ∧ _ ∧ _) from ⟨hF1,hF2,hp,hr,hH,hq,hri,hrh,hR⟩
 have hs0:=hW2.fr.size
 have H0:Hid (WSt w0 w wp own bd hv lv hs ls):=h
 have HW2:Hid (WSt w0 w2 wp own bd hv lv hs ls):=hW2
 clear hF1 hF2 hp hr hH hq hri hrh hR h hW2
 go_wp2_with (at_builtin;refine wpList_append_kind _ rfl _ _ 26 rfl w0.heap.size 43 i0 (.agg #[.pointer none,.pointer none]) 2 16 underlying26 hi0 hz0 hz1 hz2 rfl (by decide) _ _ _ rfl (hrow.alloc _) ⟨w2.heap.size,0,none⟩ 1 1 [.pointer (some ⟨p,0,none⟩),.pointer (some ⟨q,0,none⟩)] (by decide) rfl rfl ?c1 ?c2 ?c3 ?c4 ?c5 ?_)
 case c1 =>
  intro j u hj
  match j,hj with
  | 0,hj=>simp at hj;subst hj;simp [Addr.add]
  | 1,hj=>simp at hj;subst hj;simp [Addr.add]
 case c2=>intro u hu;simp at hu;rcases hu with rfl | rfl <;> rfl
 case c3=>unfold maxLen;omega
 case c4=>omega
 case c5=>simp;omega
 intro hv' w3 hown hk
 obtain ⟨a1,a2,a3,a4,a5,a6,a7,a8,a9⟩:=HA.out
 have HE:Hid (WOkH w0 (w3.setCell ⟨wp,0,none⟩ hv') wp (bd + 1)):=addHeap H0.out a1 a2 a3 a4 a5 a6 a7 a8 a9 hown hk
 have hne:¬ hv.ownBlock = some wp:=fun e=>by have g1:=HW2.out.oh _ e;have g2:=HW2.out.ow;omega
 have hfr:=hk.fr
 have d0:w3.cell? ⟨wp,0,none⟩ = some hv:=hfr.cell_some (((Fr.refl NoB w2).alloc _).cell_some c0 id) hne
 have d1:w3.frozen? ⟨wp,0,none⟩ = false:=(hfr.frozen (p:=⟨wp,0,none⟩) (by simp;omega) hne).trans ((((Fr.refl NoB w2).alloc _).frozen (p:=⟨wp,0,none⟩) hwl id).trans fz)
 obtain ⟨g',cap',hve,_⟩:=hk.place
 subst hve
 clear hown hk hfr a1 a2 a3 a4 a5 a6 a7 a8 a9 hrow c0 fz hne
 go_wp2
 go_ret
 exact ⟨rfl,HE.out⟩
theorem flat3_at {T:Type} (f:T → List Value) (hf:∀ x,(f x).length = 3) (l:List T) (i k:Nat) (hk:k < 3) (hi:i < l.length):(l.flatMap f)[i * 3 + k]? = (f l[i])[k]?:=by
 induction l generalizing i with
 | nil=>simp at hi
 | cons x t ih =>
  rw [List.flatMap_cons]
  cases i with
  | zero=>rw [List.getElem?_append_left (by rw [hf];omega)];simp
  | succ i =>
   rw [List.getElem?_append_right (by rw [hf];omega),hf,show (i + 1) * 3 + k - 3 = i * 3 + k by omega]
   simpa using ih i (by simpa using hi)
theorem flat2_at {T:Type} (f:T → List Value) (hf:∀ x,(f x).length = 2) (l:List T) (i k:Nat) (hk:k < 2) (hi:i < l.length):(l.flatMap f)[i * 2 + k]? = (f l[i])[k]?:=by
 induction l generalizing i with
 | nil=>simp at hi
 | cons x t ih =>
  rw [List.flatMap_cons]
  cases i with
  | zero=>rw [List.getElem?_append_left (by rw [hf];omega)];simp
  | succ i =>
   rw [List.getElem?_append_right (by rw [hf];omega),hf,show (i + 1) * 2 + k - 2 = i * 2 + k by omega]
   simpa using ih i (by simpa using hi)
structure LRow (w:World) (ao:Option Addr) (ls:List LEnt):Prop where
 some_:0 < ls.length → ∃ g,ao = some ⟨g,0,none⟩
 c0:∀ g i (hi:i < ls.length),ao = some ⟨g,0,none⟩ → w.cell? ⟨g,i * 3,none⟩ = some (.slice ls[i].ao ls[i].len ls[i].cl)
 c1:∀ g i (hi:i < ls.length),ao = some ⟨g,0,none⟩ → w.cell? ⟨g,i * 3 + 1,none⟩ = some (.slice (some ⟨ls[i].bx,0,none⟩) (ls[i].len + 2) ls[i].cx)
 c2:∀ g i (hi:i < ls.length),ao = some ⟨g,0,none⟩ → w.cell? ⟨g,i * 3 + 2,none⟩ = some (.slice (some ⟨ls[i].bw,0,none⟩) (ls[i].len + 2) ls[i].cw)
theorem LRow.no {w w':World} {ao:Option Addr} {ls:List LEnt} (h:LRow w ao ls) (hf:Fr NoB w w'):LRow w' ao ls :=
 ⟨h.some_,fun g i hi e=>hf.cell_some (h.c0 g i hi e) id,fun g i hi e=>hf.cell_some (h.c1 g i hi e) id,fun g i hi e=>hf.cell_some (h.c2 g i hi e) id⟩
theorem lrow_of {w:World} {base:Nat} {v:Value} {ls:List LEnt} (h:w.ownsRow base 49 3 v ls.length (ls.flatMap listCells)):∃ ao cap,v = .slice ao ls.length cap ∧ LRow w ao ls:=by
 have hf:∀ x,(listCells x).length = 3:=fun x=>rfl
 rcases h.2 with ⟨rfl,hl⟩ | ⟨g,cap,cur,rfl,_,_,_,_,_,_⟩
 ·exact ⟨none,0,by rw [hl],⟨fun h=>absurd h (by omega),fun _ i hi=>absurd hi (by omega),fun _ i hi=>absurd hi (by omega),fun _ i hi=>absurd hi (by omega)⟩⟩
 ·have hc:=h.cells (g:=g) rfl
  have hadd:∀ j,(⟨g,0,none⟩:Addr).add j = ⟨g,j,none⟩:=fun j=>by unfold Addr.add;split <;> simp_all
  refine ⟨some ⟨g,0,none⟩,cap,rfl,⟨fun _=>⟨g,rfl⟩,?_,?_,?_⟩⟩
  ·intro g' i hi e;cases e;rw [← hadd];exact hc _ _ (flat3_at listCells hf ls i 0 (by omega) hi)
  ·intro g' i hi e;cases e;rw [← hadd];exact hc _ _ (flat3_at listCells hf ls i 1 (by omega) hi)
  ·intro g' i hi e;cases e;rw [← hadd];exact hc _ _ (flat3_at listCells hf ls i 2 (by omega) hi)
structure HRow (w:World) (ao:Option Addr) (hs:List HEnt):Prop where
 some_:0 < hs.length → ∃ g,ao = some ⟨g,0,none⟩
 c0:∀ g i (hi:i < hs.length),ao = some ⟨g,0,none⟩ → w.cell? ⟨g,i * 2,none⟩ = some (.pointer (some ⟨hs[i].p,0,none⟩))
 c1:∀ g i (hi:i < hs.length),ao = some ⟨g,0,none⟩ → w.cell? ⟨g,i * 2 + 1,none⟩ = some (.pointer (some ⟨hs[i].q,0,none⟩))
theorem hrow_of {w:World} {base:Nat} {v:Value} {hs:List HEnt} (h:w.ownsRow base 43 2 v hs.length (hs.flatMap pairCells)):∃ ao cap,v = .slice ao hs.length cap ∧ HRow w ao hs:=by
 have hf:∀ x,(pairCells x).length = 2:=fun x=>rfl
 rcases h.2 with ⟨rfl,hl⟩ | ⟨g,cap,cur,rfl,_,_,_,_,_,_⟩
 ·exact ⟨none,0,by rw [hl],⟨fun h=>absurd h (by omega),fun _ i hi=>absurd hi (by omega),fun _ i hi=>absurd hi (by omega)⟩⟩
 ·have hc:=h.cells (g:=g) rfl
  have hadd:∀ j,(⟨g,0,none⟩:Addr).add j = ⟨g,j,none⟩:=fun j=>by unfold Addr.add;split <;> simp_all
  refine ⟨some ⟨g,0,none⟩,cap,rfl,⟨fun _=>⟨g,rfl⟩,?_,?_⟩⟩
  ·intro g' i hi e;cases e;rw [← hadd];exact hc _ _ (flat2_at pairCells hf hs i 0 (by omega) hi)
  ·intro g' i hi e;cases e;rw [← hadd];exact hc _ _ (flat2_at pairCells hf hs i 1 (by omega) hi)
set_option maxRecDepth 20000 in
theorem llooks_yes (w0 w:World) (wp:Nat) (own:Nat → Nat) (bd:Nat) (hv lv:Value) (hs:List HEnt) (ls:List LEnt) (h:WSt w0 w wp own bd hv lv hs ls) (hbd:bd ≤ 2932031007402) :
  CR 7 #[.pointer (some ⟨wp,0,none⟩)] w (.bool true):=by
 have hll:=h.ll
 have hc1:=h.c1
 obtain ⟨ao,cap,rfl,hrow⟩:=lrow_of h.lrow
 go_enter func7,ntmps7
 go_wp2_with fail
 go_loopw [3] (fun t wr=>∃ i:Nat,i ≤ ls.length ∧ t = .int .i64 i ∧ Fr NoB w wr) (fun t _=>ls.length - (intOf t).toNat)
 case atStart=>exact ⟨0,Nat.zero_le _,rfl,Fr.refl _ _⟩
 case round =>
  obtain ⟨i,hi,rfl,hF⟩:=hrel
  have hW:=h.no hF
  have d1:=hW.c1
  have hr:=hrow.no hF
  clear hc1
  by_cases hlt:i < ls.length
  ·obtain ⟨g,rfl⟩:=hrow.some_ (by omega)
   have b0:=hr.c0 g i hlt rfl
   have b1:=hr.c1 g i hlt rfl
   have b2:=hr.c2 g i hlt rfl
   obtain ⟨e,he⟩:∃ e,e = ls[i]:=⟨_,rfl⟩
   rw [← he] at b0 b1 b2
   have hL:LOk wr own i e:=hW.lok i e (by rw [he];exact List.getElem?_eq_getElem hlt)
   have hcw:=hL.hw
   have hcx:=hL.hx
   have hll2:=hL.hl
   have hcap:=hL.hc
   clear he hr
   have HS1:Hid (∀ W:World,Fr NoB wr W → ∀ cb,Calls prog 16 #[.slice e.ao e.len e.cl,.slice (some ⟨e.bw,0,none⟩) e.len cb] W fun x w'=>x = .returned (.bool true) ∧ Fr NoB W w') :=
    fun W hf cb=>lsame_yes W e.ao (some ⟨e.bw,0,none⟩) e.len e.cl cb e.A e.N (hL.l.no hf) ((hL.y.no hf).take (by omega)) (by omega)
   have HS2:Hid (∀ W:World,Fr NoB wr W → Calls prog 16 #[.slice (some ⟨e.bx,0,none⟩) (e.len + 2) e.cx,.slice (some ⟨e.bw,0,none⟩) (e.len + 2) e.cw] W fun x w'=>x = .returned (.bool true) ∧ Fr NoB W w') :=
    fun W hf=>lsame_yes W (some ⟨e.bx,0,none⟩) (some ⟨e.bw,0,none⟩) (e.len + 2) e.cx e.cw e.A e.N (hL.x.no hf) (hL.y.no hf) (by omega)
   clear hL hW
   go_upto_region 5 with fail
   go_cut [5] (fun s wx=>s = .bool true ∧ Fr NoB wr wx ∧ wx.cell? ⟨wr.heap.size,1,none⟩ = some (.slice (some ⟨e.bx,0,none⟩) (e.len + 2) e.cx) ∧ wx.cell? ⟨wr.heap.size,2,none⟩ = some (.slice (some ⟨e.bw,0,none⟩) (e.len + 2) e.cw))
   case first =>
    go_region_with (go_at_call 16;refine (HS1.out _ (((Fr.refl _ _).alloc _).drew) _).mono ?_;rintro e2 w2 ⟨rfl,hF2⟩)
    all_goals
     go_wp2_with fail
     go_meet
     case rel=>exact ⟨rfl,(((Fr.refl _ _).alloc _).drew).trans hF2,hF2.cell_some (by simp) id,hF2.cell_some (by simp) id⟩
   case rest =>
    obtain ⟨rfl,hF2,f1,f2⟩:=hcut
    go_wp2_with fail
    refine (HS2.out _ hF2).mono ?_
    rintro e2 w3 ⟨rfl,hF3⟩
    have HF:Hid (Fr NoB w w3):=(hF.trans hF2).trans hF3
    clear hF2 hF3 f1 f2
    go_wp2
    go_roundw
    case rel=>exact ⟨i + 1,by omega,by go_num,HF.out⟩
    case measure=>simp [intOf];omega
  ·go_wp2
   go_ret
   exact ⟨rfl,hF⟩
end Go.Proofs.YthcjcjfgdgnljabGreatDoor
