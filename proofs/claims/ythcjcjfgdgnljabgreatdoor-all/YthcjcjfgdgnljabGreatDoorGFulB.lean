import Derived.Test.YthcjcjfgdgnljabGreatDoorGSynX
import Derived.Laws.Rows
import Derived.Laws.Tables
set_option linter.unusedVariables false
set_option maxHeartbeats 4000000
set_option maxRecDepth 8000
open Go.Proofs.Tryz
namespace Go.Proofs.YthcjcjfgdgnljabGreatDoor
open Go.RowKit
def arrF (f:Nat → Bool):Array Value:=((List.range 26).map (fun i=>Value.bool (f i))).toArray
theorem arrF_size (f:Nat → Bool):(arrF f).size = 26:=by simp [arrF]
theorem arrF_get (f:Nat → Bool) {i:Nat} (h:i < 26):(arrF f)[i]? = some (.bool (f i)):=by simp [arrF,h]
theorem arrF_congr {f g:Nat → Bool} (h:∀ i,i < 26 → f i = g i):arrF f = arrF g:=by
 unfold arrF
 congr 1
 apply List.map_congr_left
 intro i hi
 rw [h i (List.mem_range.1 hi)]
theorem arrF_one (f:Nat → Bool):(arrF f).all (·.oneCell') = true:=by
 rw [Array.all_eq_true_iff_forall_mem]
 intro x hx
 simp only [arrF,List.mem_toArray,List.mem_map] at hx
 obtain ⟨i,_,rfl⟩:=hx
 rfl
theorem Tryz.sizeFull:(prog.info? 93).map (·.size) = some 26:=by kernel_rfl
structure RowF (w:World) (b:Nat) (f:Nat → Bool):Prop where
 h:w.heap[b]? = some (.cells (arrF f) 93 (0,0))
theorem RowF.lt {w:World} {b:Nat} {f:Nat → Bool} (h:RowF w b f):b < w.heap.size:=(Array.getElem?_eq_some_iff.1 h.h).1
theorem RowF.cell {w:World} {b:Nat} {f:Nat → Bool} (h:RowF w b f) {i:Nat} (hi:i < 26):w.cell? ⟨b,i,none⟩ = some (.bool (f i)):=by
 simp [World.cell?,h.h,arrF_get f hi]
theorem RowF.frz {w:World} {b:Nat} {f:Nat → Bool} (h:RowF w b f) (o:Nat):w.frozen? ⟨b,o,none⟩ = false:=by
 simp [World.frozen?,h.h]
theorem RowF.fr {S:Nat → Prop} {w w':World} {b:Nat} {f:Nat → Bool} (h:RowF w b f) (hF:Fr S w w') (hS:¬ S b):RowF w' b f:=⟨(hF.block b h.lt hS).trans h.h⟩
theorem RowF.no {w w':World} {b:Nat} {f:Nat → Bool} (h:RowF w b f) (hF:Fr NoB w w'):RowF w' b f:=h.fr hF id
theorem RowF.congr {w:World} {b:Nat} {f g:Nat → Bool} (h:RowF w b f) (e:∀ i,i < 26 → g i = f i):RowF w b g:=⟨by rw [arrF_congr e];exact h.h⟩
theorem RowF.new (w:World) (f:Nat → Bool):RowF (w.alloc (.cells (arrF f) 93)) w.heap.size f:=by
 constructor
 show (w.heap.push _)[w.heap.size]? = _
 simp
def updB (f:Nat → Bool) (k:Nat) (v:Bool):Nat → Bool:=fun i=>if i = k then v else f i
theorem RowF.set {w:World} {b:Nat} {f:Nat → Bool} (h:RowF w b f) {k:Nat} (hk:k < 26) (v:Bool):RowF (w.setCell ⟨b,k,none⟩ (.bool v)) b (updB f k v):=by
 constructor
 have e:(arrF f).setIfInBounds k (.bool v) = arrF (updB f k v):=by
  apply Array.ext_getElem?
  intro i
  by_cases hi:i < 26
  ·rw [arrF_get _ hi]
   by_cases e:k = i
   ·subst e;simp [arrF_size,hi,updB]
   ·simp [e,arrF_get f hi,updB,Ne.symm e]
  ·rw [Array.getElem?_eq_none (by simp [arrF_size];omega),Array.getElem?_eq_none (by simp [arrF_size];omega)]
 rw [heap_setCell_same w b k _ _ _ h.h,e]
theorem arrF_zero:arrF (fun _=>false) = #[.bool false,.bool false,.bool false,.bool false,.bool false,.bool false,.bool false,.bool false,.bool false,.bool false,.bool false,.bool false,.bool false,.bool false,.bool false,.bool false,.bool false,.bool false,.bool false,.bool false,.bool false,.bool false,.bool false,.bool false,.bool false,.bool false]:=by rfl
theorem Fr.setRow {S:Nat → Prop} {a w:World} (h:Fr S a w) {g:Nat} (hp:g < a.heap.size → S g) (cs:Array Value):Fr S a (w.setRow g cs) :=
 ⟨h.os,h.tape,h.output,by rw [setRow_size];exact h.size,fun k hk hs=>(setRow_other w g k cs (fun e=>hs (by subst e;exact hp hk))).trans (h.block k hk hs)⟩
theorem RowF.row {w:World} {b:Nat} {f:Nat → Bool} (h:RowF w b f) (g:Nat → Bool):RowF (w.setRow b (arrF g)) b g:=⟨setRow_heap w b _ _ _ _ h.h⟩
def bothF (f g:Nat → Bool):Nat → Bool:=fun i=>f i && g i
theorem both_fn (w:World) (f g:Nat → Bool) :
  CR 105 #[.agg (arrF f),.agg (arrF g)] w (.agg (arrF (bothF f g))):=by
 have hz:RowF (((w.alloc (.cells (arrF f) 93)).alloc (.cells (arrF g) 93)).alloc (.cells (arrF (fun _=>false)) 93)) (w.heap.size + 1 + 1) (fun _=>false):=by
  have:=RowF.new ((w.alloc (.cells (arrF f) 93)).alloc (.cells (arrF g) 93)) (fun _=>false)
  simpa using this
 have hg1:RowF (((w.alloc (.cells (arrF f) 93)).alloc (.cells (arrF g) 93)).alloc (.cells (arrF (fun _=>false)) 93)) (w.heap.size + 1) g:=by
  have:=(RowF.new (w.alloc (.cells (arrF f) 93)) g).no ((Fr.refl _ _).alloc (.cells (arrF (fun _=>false)) 93))
  simpa using this
 have hf1:RowF (((w.alloc (.cells (arrF f) 93)).alloc (.cells (arrF g) 93)).alloc (.cells (arrF (fun _=>false)) 93)) w.heap.size f :=
  (RowF.new w f).no (((Fr.refl _ _).alloc _).alloc _)
 have hFr:Fr NoB w (((w.alloc (.cells (arrF f) 93)).alloc (.cells (arrF g) 93)).alloc (.cells (arrF (fun _=>false)) 93)):=(((Fr.refl _ _).alloc _).alloc _).alloc _
 rw [arrF_zero] at hz hg1 hf1 hFr
 generalize hf:arrF f = af at *
 generalize hg:arrF g = ag at *
 have Hf:Hid _:=hf
 have Hg:Hid _:=hg
 clear hf hg
 go_enter func105,ntmps105
 go_wp2
 generalize (((w.alloc (Obj.cells af 93)).alloc (Obj.cells ag 93)).alloc _) = W at *
 go_loopw [5] (fun t wr=>∃ i:Nat,i ≤ 26 ∧ t = .int .i64 i ∧ RowF wr w.heap.size (fun j=>if j < i then bothF f g j else f j) ∧ RowF wr (w.heap.size + 1) g ∧ RowF wr (w.heap.size + 1 + 1) (fun _=>false) ∧ Fr NoB w wr) (fun t _=>26 - (intOf t).toNat)
 case atStart=>exact ⟨0,by omega,rfl,by simpa using hf1,hg1,hz,hFr⟩
 case round =>
  obtain ⟨i,hi,rfl,h1,h2,h3,h4⟩:=hrel
  have H1:Hid _:=h1
  have H2:Hid _:=h2
  have H3:Hid _:=h3
  have H4:Hid _:=h4
  clear h1 h2 h3 h4 hf1 hg1 hz hFr
  by_cases hlt:i < 26
  ·have c1:=H1.out.cell hlt
   have c2:=H2.out.cell hlt
   have c3:=H1.out.frz i
   simp only [Nat.lt_irrefl,if_false] at c1
   have HN:Hid (∀ v:Bool,v = bothF f g i → RowF (wr.setCell ⟨w.heap.size,i,none⟩ (.bool v)) w.heap.size (fun j=>if j < i + 1 then bothF f g j else f j)):=fun v hv =>
    (H1.out.set hlt v).congr fun j hj=>by
     unfold updB
     by_cases e:j = i
     ·subst e;simp [hv]
     ·rw [if_neg e]
      show (if j < i + 1 then bothF f g j else f j) = (if j < i then bothF f g j else f j)
      by_cases e2:j < i
      ·rw [if_pos e2,if_pos (by omega)]
      ·rw [if_neg e2,if_neg (by omega)]
   cases hfi:f i
   ·rw [hfi] at c1
    have HB:Hid (false = bothF f g i):=by show _ = _;unfold bothF;rw [hfi];rfl
    clear hfi
    go_wp2
    go_roundw
    case rel=>exact ⟨i + 1,by omega,by go_num,HN.out _ HB.out,H2.out.fr ((Fr.refl (OneB w.heap.size) wr).setCell (p:=⟨w.heap.size,i,none⟩) (fun _=>rfl) _) (by unfold OneB;omega),H3.out.fr ((Fr.refl (OneB w.heap.size) wr).setCell (p:=⟨w.heap.size,i,none⟩) (fun _=>rfl) _) (by unfold OneB;omega),H4.out.setCell (p:=⟨w.heap.size,i,none⟩) (fun q=>absurd q (by simp)) _⟩
    case measure=>simp [intOf];omega
   ·rw [hfi] at c1
    have HB:Hid (g i = bothF f g i):=by show _ = _;unfold bothF;rw [hfi];rfl
    clear hfi
    go_wp2
    go_roundw
    case rel=>exact ⟨i + 1,by omega,by go_num,HN.out _ HB.out,H2.out.fr ((Fr.refl (OneB w.heap.size) wr).setCell (p:=⟨w.heap.size,i,none⟩) (fun _=>rfl) _) (by unfold OneB;omega),H3.out.fr ((Fr.refl (OneB w.heap.size) wr).setCell (p:=⟨w.heap.size,i,none⟩) (fun _=>rfl) _) (by unfold OneB;omega),H4.out.setCell (p:=⟨w.heap.size,i,none⟩) (fun q=>absurd q (by simp)) _⟩
    case measure=>simp [intOf];omega
  ·have hie:i = 26:=by omega
   subst hie
   have H5:Hid (RowF wr w.heap.size (bothF f g)):=H1.out.congr (fun j hj=>by rw [if_pos hj])
   clear hi hlt H1 H2
   go_wp2_with (first
    | (refine wpList_load_row rfl 93 _ rfl w.heap.size rfl 93 (arrF (bothF f g)) (0,0) _ H5.out.h underlying93 rfl (by rw [arrF_size];exact Tryz.sizeFull) ?_)
    | (refine wpList_store_row rfl 93 _ _ rfl (w.heap.size + 1 + 1) (arrF (bothF f g)) rfl rfl 93 _ H3.out.h (by rw [arrF_size];exact Tryz.sizeFull) (by rw [arrF_size,arrF_size]) (arrF_one _) ?_))
   refine bodyPost_ret (v:=.agg (arrF (bothF f g))) ?_ rfl ⟨rfl,H4.out.setRow (fun q=>absurd q (by omega)) _⟩
   exact results_cell_row (fn:=Tryz.f105) rfl _ _ (w.heap.size + 1 + 1) 93 _ (0,0) _ rfl (H3.out.row (bothF f g)).h underlying93 rfl (by rw [arrF_size];exact Tryz.sizeFull)
def subF (f g:Nat → Bool):Prop:=∀ i,i < 26 → f i = true → g i = true
def subFDec (f g:Nat → Bool):Decidable (subF f g):=inferInstanceAs (Decidable (∀ i,i < 26 → f i = true → g i = true))
def subD (f g:Nat → Bool):Bool:=@decide (subF f g) (subFDec f g)
theorem subD_true {f g:Nat → Bool} (h:subF f g):subD f g = true:=@decide_eq_true _ (subFDec f g) h
theorem subD_false {f g:Nat → Bool} (h:¬ subF f g):subD f g = false:=@decide_eq_false _ (subFDec f g) h
theorem subD_of {f g:Nat → Bool} (h:subD f g = true):subF f g:=@of_decide_eq_true _ (subFDec f g) h
theorem subD_not {f g:Nat → Bool} (h:subD f g = false):¬ subF f g:=@of_decide_eq_false _ (subFDec f g) h
theorem subset_fn (w:World) (f g:Nat → Bool) :
  CR 104 #[.agg (arrF f),.agg (arrF g)] w (.bool (subD f g)):=by
 have hg1:RowF ((w.alloc (.cells (arrF f) 93)).alloc (.cells (arrF g) 93)) (w.heap.size + 1) g:=by
  have:=RowF.new (w.alloc (.cells (arrF f) 93)) g
  simpa using this
 have hf1:RowF ((w.alloc (.cells (arrF f) 93)).alloc (.cells (arrF g) 93)) w.heap.size f :=
  (RowF.new w f).no ((Fr.refl _ _).alloc _)
 have HFr:Hid (Fr NoB w ((w.alloc (.cells (arrF f) 93)).alloc (.cells (arrF g) 93))):=((Fr.refl _ _).alloc _).alloc _
 have Hf1:Hid _:=hf1
 have Hg1:Hid _:=hg1
 clear hf1 hg1
 generalize hf:arrF f = af at *
 generalize hg:arrF g = ag at *
 clear hf hg
 generalize hd:subD f g = D
 have Hd:Hid _:=hd
 clear hd
 go_enter func104,ntmps104
 go_wp2
 generalize ((w.alloc (Obj.cells af 93)).alloc (Obj.cells ag 93)) = W at *
 go_loop [5] (fun t=>∃ i:Nat,i ≤ 26 ∧ t = .int .i64 i ∧ ∀ j,j < i → f j = true → g j = true) (fun t=>26 - (intOf t).toNat)
 case atStart=>exact ⟨0,by omega,rfl,fun j hj=>absurd hj (by omega)⟩
 case round =>
  obtain ⟨i,hi,rfl,h1⟩:=hrel
  have H1:Hid _:=h1
  clear h1
  by_cases hlt:i < 26
  ·have c1:=Hf1.out.cell hlt
   have c2:=Hg1.out.cell hlt
   cases hfi:f i
   ·rw [hfi] at c1
    have HN:Hid (∀ j,j < i + 1 → f j = true → g j = true):=fun j hj hfj=>by
     by_cases e:j = i
     ·subst e;rw [hfi] at hfj;cases hfj
     ·exact H1.out j (by omega) hfj
    clear hfi
    go_wp2
    go_round
    case rel=>exact ⟨i + 1,by omega,by go_num,HN.out⟩
    case measure=>simp [intOf];omega
   ·rw [hfi] at c1
    cases hgi:g i
    ·rw [hgi] at c2
     have HN:Hid (D = false):=by
      show D = false
      rw [← Hd.out]
      exact subD_false fun h=>by
       have:=h i hlt hfi
       rw [hgi] at this;cases this
     clear hfi hgi
     go_wp2
     go_ret
     exact ⟨retb HN.out.symm,HFr.out⟩
    ·rw [hgi] at c2
     have HN:Hid (∀ j,j < i + 1 → f j = true → g j = true):=fun j hj hfj=>by
      by_cases e:j = i
      ·subst e;exact hgi
      ·exact H1.out j (by omega) hfj
     clear hfi hgi
     go_wp2
     go_round
     case rel=>exact ⟨i + 1,by omega,by go_num,HN.out⟩
     case measure=>simp [intOf];omega
  ·have hie:i = 26:=by omega
   subst hie
   have HN:Hid (D = true):=by
    show D = true
    rw [← Hd.out]
    exact subD_true H1.out
   go_wp2
   go_ret
   exact ⟨retb HN.out.symm,HFr.out⟩
section
def seek (p:Nat → Bool):Nat → Nat → Nat
 | 0,i=>i
 | n + 1,i=>if p i then i else seek p n (i + 1)
theorem seek_eq {p:Nat → Bool} {j:Nat} (hj:p j = true):∀ {n i:Nat},i ≤ j → j ≤ i + n → (∀ k,i ≤ k → k < j → p k = false) → seek p n i = j
 | 0,i,h1,h2,_=>by show i = j;omega
 | n + 1,i,h1,h2,h=>by
  by_cases e:i = j
  ·subst e;show (if p i then i else _) = i;rw [hj];rfl
  ·show (if p i then i else seek p n (i + 1)) = j
   rw [h i (Nat.le_refl _) (by omega)]
   exact seek_eq hj (by omega) (by omega) (fun k a b=>h k (by omega) b)
def bopN (s:ByteArray) (i:Nat):Nat:=if smallN (bt s i) then i + 1 else seek (fun k=>!digitN (bt s k)) s.size i
def bbrN (s:ByteArray) (i:Nat):Nat:=seek (fun k=>cum s k == cum s i) s.size (i + 1)
def semN (s:ByteArray) (i:Nat):Nat:=seek (fun k=>bt s k == 59) s.size i + 1
def behN (s:ByteArray) (i:Nat):Nat :=
 if bt s i = 63 then bbrN s (bbrN s (bopN s (i + 1))) else if bt s i = 64 then bbrN s (bopN s (i + 1)) else semN s i
theorem bopN_eq {s:ByteArray} {i j:Nat} (h:Opnd s i j) (hj:j < s.size) (hd:digitN (bt s j) = false):bopN s i = j:=by
 unfold bopN
 rcases h with ⟨h,rfl⟩ | ⟨h1,_,h2⟩
 ·rw [h];rfl
 ·rw [(digit_in (h2 i (Nat.le_refl _) h1)).2.2.2.1]
  exact seek_eq (by simp [hd]) (Nat.le_of_lt h1) (by omega) (fun k a b=>by simp [h2 k a b])
theorem bbrN_eq {s:ByteArray} {q b:Nat} (h1:bt s q = 123) (h:Nn s (q + 1) b) (h2:bt s b = 125):bbrN s q = b + 1:=by
 have g:=brace h1 h h2
 have:=byte_in h2 (by decide)
 have:=h.le
 unfold bbrN
 exact seek_eq (by simp [g.1]) (by omega) (by omega) (fun k a c=>by simpa using g.2 k (by omega) c)
theorem semN_eq {s:ByteArray} {i j:Nat} (h:Simple s i j):semN s i = j:=by
 obtain ⟨h1,h2,h3,h4⟩:=h.line
 unfold semN
 rw [seek_eq (p:=fun k=>bt s k == 59) (j:=j - 1) (by simp [h3]) (by omega) (by omega) (fun k a b=>by simpa using (h4 k a b).1)]
 omega
section
variable {s:ByteArray} {i a b c:Nat}
theorem IfAt.p1 (h:IfAt s i a b c):bopN s (i + 1) = a:=by
 have:=h.bnd
 exact bopN_eq h.o (by omega) (nodigit h.ha (.inl rfl))
theorem IfAt.p2 (h:IfAt s i a b c):bbrN s a = b + 1:=bbrN_eq h.ha h.n1 h.hb
theorem IfAt.p3 (h:IfAt s i a b c):bbrN s (b + 1) = c + 1:=bbrN_eq h.hb1 h.n2 h.hc
theorem LoopAt.p1 (h:LoopAt s i a b):bopN s (i + 1) = a:=by
 have:=h.bnd
 exact bopN_eq h.o (by omega) (nodigit h.ha (.inl rfl))
theorem LoopAt.p2 (h:LoopAt s i a b):bbrN s a = b + 1:=bbrN_eq h.ha h.n1 h.hb
theorem IfAt.beh (h:IfAt s i a b c):behN s i = c + 1:=by
 unfold behN
 rw [if_pos h.q,h.p1,h.p2,h.p3]
theorem LoopAt.beh (h:LoopAt s i a b):behN s i = b + 1:=by
 unfold behN
 rw [if_neg (by rw [h.q];decide),if_pos h.q,h.p1,h.p2]
theorem Simple.beh {j:Nat} (h:Simple s i j):behN s i = j:=by
 unfold behN
 rw [if_neg h.first.1,if_neg h.first.2,semN_eq h]
end
def simF (s:ByteArray) (i:Nat) (f:Nat → Bool):Nat → Bool :=
 if bt s i = 126 then updB f (bt s (i + 1) - 65) false
 else if greatN (bt s i) = true ∧ bt s (i + 1) = 61 ∧ bt s (i + 2) = 91 then updB f (bt s i - 65) true
 else if greatN (bt s i) = true ∧ bt s (i + 1) = 61 ∧ bt s (i + 2) ≠ bt s i then updB (updB f (bt s i - 65) (f (bt s (i + 2) - 65))) (bt s (i + 2) - 65) false
 else f
def iterF (T:(Nat → Bool) → Nat → Bool):Nat → (Nat → Bool) → Nat → Bool
 | 0,f=>f
 | n + 1,f=>iterF T n (bothF f (T f))
def afterF (al:Nat → Nat → (Nat → Bool) → Nat → Bool) (s:ByteArray) (i:Nat) (f:Nat → Bool):Nat → Bool :=
 if bt s i = 63 then bothF (al (bopN s (i + 1) + 1) (bbrN s (bopN s (i + 1)) - 1) f) (al (bbrN s (bopN s (i + 1)) + 1) (bbrN s (bbrN s (bopN s (i + 1))) - 1) f)
 else if bt s i = 64 then iterF (al (bopN s (i + 1) + 1) (bbrN s (bopN s (i + 1)) - 1)) 27 f
 else simF s i f
def alongF (s:ByteArray):Nat → Nat → Nat → (Nat → Bool) → Nat → Bool
 | 0,_,_,f=>f
 | F + 1,i,j,f=>if i < j then alongF s F (behN s i) j (afterF (alongF s F) s i f) else f
theorem afterF_if {al:Nat → Nat → (Nat → Bool) → Nat → Bool} {s:ByteArray} {i a b c:Nat} (h:IfAt s i a b c) (f:Nat → Bool):afterF al s i f = bothF (al (a + 1) b f) (al (b + 2) c f):=by
 unfold afterF
 rw [if_pos h.q,h.p1,h.p2,h.p3]
 rfl
theorem afterF_loop {al:Nat → Nat → (Nat → Bool) → Nat → Bool} {s:ByteArray} {i a b:Nat} (h:LoopAt s i a b) (f:Nat → Bool):afterF al s i f = iterF (al (a + 1) b) 27 f:=by
 unfold afterF
 rw [if_neg (by rw [h.q];decide),if_pos h.q,h.p1,h.p2]
 rfl
theorem afterF_simple {al:Nat → Nat → (Nat → Bool) → Nat → Bool} {s:ByteArray} {i j:Nat} (h:Simple s i j) (f:Nat → Bool):afterF al s i f = simF s i f:=by
 unfold afterF
 rw [if_neg h.first.1,if_neg h.first.2]
def Clean (f:Nat → Bool):Prop:=∀ i,26 ≤ i → f i = false
theorem clean_none:Clean (fun _=>false):=fun _ _=>rfl
theorem Clean.both {f g:Nat → Bool} (h:Clean f):Clean (bothF f g):=fun i hi=>by unfold bothF;rw [h i hi];rfl
theorem Clean.upd {f:Nat → Bool} (h:Clean f) {k:Nat} (hk:k < 26) (v:Bool):Clean (updB f k v):=fun i hi=>by unfold updB;rw [if_neg (by omega)];exact h i hi
theorem Clean.off {f:Nat → Bool} (h:Clean f) (k:Nat):Clean (updB f k false):=fun i hi=>by
 unfold updB
 split
 ·rfl
 ·exact h i hi
theorem box_lt {c:Nat} (h:greatN c = true):c - 65 < 26:=by simp [greatN] at h;omega
theorem Clean.sim {s:ByteArray} {i:Nat} {f:Nat → Bool} (h:Clean f):Clean (simF s i f):=by
 unfold simF
 split
 ·exact h.off _
 ·split
  ·rename_i hg
   exact h.upd (box_lt hg.1) _
  ·split
   ·rename_i hg
    exact (h.upd (box_lt hg.1) _).off _
   ·exact h
theorem Clean.iter {T:(Nat → Bool) → Nat → Bool}:∀ {n:Nat} {f:Nat → Bool},Clean f → Clean (iterF T n f)
 | 0,_,h=>h
 | n + 1,_,h=>Clean.iter (n:=n) h.both
theorem Clean.after {al:Nat → Nat → (Nat → Bool) → Nat → Bool} (hal:∀ i j f,Clean f → Clean (al i j f)) {s:ByteArray} {i:Nat} {f:Nat → Bool} (h:Clean f):Clean (afterF al s i f):=by
 unfold afterF
 split
 ·exact (hal _ _ _ h).both
 ·split
  ·exact h.iter
  ·exact h.sim
theorem Clean.along {s:ByteArray}:∀ {F i j:Nat} {f:Nat → Bool},Clean f → Clean (alongF s F i j f)
 | 0,_,_,_,h=>h
 | F + 1,i,j,f,h=>by
  show Clean (if i < j then alongF s F (behN s i) j (afterF (alongF s F) s i f) else f)
  split
  ·exact Clean.along (F:=F) (Clean.after (fun a b g hg=>Clean.along hg) h)
  ·exact h
def card (f:Nat → Bool):Nat → Nat
 | 0=>0
 | n + 1=>card f n + (if f n then 1 else 0)
theorem card_le (f:Nat → Bool):∀ n,card f n ≤ n
 | 0=>Nat.le_refl _
 | n + 1=>by
  have:=card_le f n
  show card f n + (if f n then 1 else 0) ≤ n + 1
  split <;> omega
theorem card_mono {f g:Nat → Bool}:∀ {n:Nat},(∀ i,i < n → f i = true → g i = true) → card f n ≤ card g n
 | 0,_=>Nat.le_refl _
 | n + 1,h=>by
  have h1:=card_mono (n:=n) (fun i hi=>h i (by omega))
  show card f n + (if f n then 1 else 0) ≤ card g n + (if g n then 1 else 0)
  cases hf:f n
  ·simp;omega
  ·rw [h n (by omega) hf];simp;omega
theorem card_lt {f g:Nat → Bool}:∀ {n:Nat},(∀ i,i < n → f i = true → g i = true) → (∃ i,i < n ∧ f i = false ∧ g i = true) → card f n < card g n
 | 0,_,h=>by obtain ⟨i,hi,_⟩:=h;omega
 | n + 1,h,⟨i,hi,h1,h2⟩=>by
  show card f n + (if f n then 1 else 0) < card g n + (if g n then 1 else 0)
  by_cases e:i = n
  ·subst e
   have:=card_mono (n:=i) (fun k hk=>h k (by omega))
   rw [h1,h2];simp;omega
  ·have:=card_lt (n:=n) (fun k hk=>h k (by omega)) ⟨i,by omega,h1,h2⟩
   cases hf:f n
   ·simp;omega
   ·rw [h n (by omega) hf];simp;omega
theorem card_both {f g:Nat → Bool} (h:¬ subF f g):card (bothF f g) 26 < card f 26:=by
 refine card_lt (fun i _ e=>?_) ?_
 ·unfold bothF at e;simp at e;exact e.1
 ·apply Classical.byContradiction
  intro hn
  apply h
  intro i hi hf
  apply Classical.byContradiction
  intro hg
  exact hn ⟨i,hi,by unfold bothF;simp [hg],hf⟩
theorem both_eq {f g:Nat → Bool} (hc:Clean f) (h:subF f g):bothF f g = f:=by
 funext i
 unfold bothF
 by_cases hi:i < 26
 ·cases hf:f i
  ·rfl
  ·rw [h i hi hf];rfl
 ·rw [hc i (by omega)];rfl
theorem iterF_stop {T:(Nat → Bool) → Nat → Bool} {f:Nat → Bool} (h:bothF f (T f) = f):∀ n,iterF T n f = f
 | 0=>rfl
 | n + 1=>by show iterF T n (bothF f (T f)) = f;rw [h];exact iterF_stop h n
end
theorem sizeArr (f:Nat → Bool):(prog.info? 93).map (·.size) = some (arrF f).size:=by rw [arrF_size];exact Tryz.sizeFull
def zrs:Array Value:=#[.bool false,.bool false,.bool false,.bool false,.bool false,.bool false,.bool false,.bool false,.bool false,.bool false,.bool false,.bool false,.bool false,.bool false,.bool false,.bool false,.bool false,.bool false,.bool false,.bool false,.bool false,.bool false,.bool false,.bool false,.bool false,.bool false]
theorem RowF.zero (w:World):RowF (w.alloc (.cells zrs 93)) w.heap.size (fun _=>false):=RowF.new w (fun _=>false)
def AlongIs (s:ByteArray) (i j:Nat) (T:(Nat → Bool) → Nat → Bool):Prop:=∀ (W:World) (g:Nat → Bool),Clean g → CR 60 #[.string s,.int .i64 i,.int .i64 j,.agg (arrF g)] W (.agg (arrF (T g)))
theorem head_of (w:World) (s:ByteArray) (hs:s.size ≤ 100000) (i a b:Nat) (hL:LoopAt s i a b) (T:(Nat → Bool) → Nat → Bool) (f:Nat → Bool) (hc:Clean f) (hT:∀ g,Clean g → Clean (T g)) (IH:AlongIs s (a + 1) b T) :
  CR 74 #[.string s,.int .i64 i,.agg (arrF f)] w (.agg (arrF (iterF T 27 f))):=by
 have HIH:Hid (∀ (W:World) (g:Nat → Bool),Clean g → CR 60 #[.string s,.int .i64 ((a:Int) + 1),.int .i64 b,.agg (arrF g)] W (.agg (arrF (T g)))):=IH
 have HB:Hid _:=fun W=>body_fn W s i a b hL hs
 have hbd:=hL.bnd
 clear IH hL
 have Hf1:Hid (RowF ((w.alloc (.cells (arrF f) 93)).alloc (.cells zrs 93)) w.heap.size f):=(RowF.new w f).no ((Fr.refl _ _).alloc _)
 have Hz1:Hid (RowF ((w.alloc (.cells (arrF f) 93)).alloc (.cells zrs 93)) (w.heap.size + 1) (fun _=>false)):=by
  have:=RowF.zero (w.alloc (.cells (arrF f) 93))
  exact (show (w.alloc (.cells (arrF f) 93)).heap.size = w.heap.size + 1 by simp) ▸ this
 have HF1:Hid (Fr NoB w ((w.alloc (.cells (arrF f) 93)).alloc (.cells zrs 93))):=((Fr.refl _ _).alloc _).alloc _
 generalize hR:iterF T 27 f = R
 have HR:Hid _:=hR
 clear hR
 unfold zrs at Hf1 Hz1 HF1
 generalize hf:arrF f = af at *
 clear hf
 go_enter func74,ntmps74
 go_wp2_with (go_at_call 73;refine sameC (HB.out _) ?_)
 generalize ((w.alloc (Obj.cells af 93)).alloc _) = W at *
 go_loopg [9] 26 (fun k _ wr=>∃ (g:Nat → Bool) (m:Nat),card g 26 ≤ k ∧ m + card g 26 ≤ 26 ∧ R = iterF T (27 - m) g ∧ Clean g ∧ RowF wr w.heap.size g ∧ RowF wr (w.heap.size + 1) (fun _=>false) ∧ Fr NoB w wr)
 case atStart=>exact ⟨f,0,card_le f 26,by have:=card_le f 26;omega,HR.out.symm,hc,Hf1.out,Hz1.out,HF1.out⟩
 case round =>
  obtain ⟨g,m,hk,hm,hR,hcg,h1,h2,h3⟩:=hrel
  have H1:Hid _:=h1
  have H2:Hid _:=h2
  have H3:Hid _:=h3
  have HR2:Hid (R = iterF T (27 - m) g):=hR
  have Hcg:Hid _:=hcg
  clear h1 h2 h3 hR Hf1 Hz1 HF1 hcg
  go_upto_region 3 with (first
    | (refine wpList_load_row rfl 93 _ rfl w.heap.size rfl 93 (arrF g) (0,0) _ H1.out.h underlying93 rfl (sizeArr g) ?_)
    | (go_at_call 60;refine (HIH.out _ g Hcg.out).mono ?_;rintro e w1 ⟨rfl,hF1⟩)
    | (refine wpList_store_row rfl 93 _ _ rfl w1.heap.size (arrF (T g)) rfl rfl 93 _ (RowF.zero w1).h (sizeArr _) (by rw [arrF_size,arrF_size]) (arrF_one _) ?_))
  have hq1:w.heap.size + 1 < w1.heap.size:=Nat.lt_of_lt_of_le H2.out.lt hF1.size
  have K0:Fr NoB wr ((w1.alloc (.cells zrs 93)).setRow w1.heap.size (arrF (T g))):=(hF1.alloc _).setRow (fun q=>absurd hF1.size (by omega)) _
  have K1:=H1.out.no K0
  have K2:=H2.out.no K0
  have K3:RowF ((w1.alloc (.cells zrs 93)).setRow w1.heap.size (arrF (T g))) w1.heap.size (T g):=(RowF.zero w1).row (T g)
  have K4:=H3.out.trans K0
  unfold zrs at K0 K1 K2 K3 K4
  generalize ((w1.alloc (Obj.cells _ 93)).setRow w1.heap.size (arrF (T g))) = W2 at *
  generalize w1.heap.size = q at *
  have HK1:Hid _:=K1
  have HK2:Hid _:=K2
  have HK3:Hid _:=K3
  have HK4:Hid _:=K4
  clear K0 K1 K2 K3 K4 hF1 H1 H2 H3
  by_cases hsub:subF g (T g)
  ·have HE:Hid (R = g):=by
    show R = g
    rw [HR2.out]
    exact iterF_stop (both_eq Hcg.out hsub) _
   have HS:Hid (∀ X:World,CR 104 #[.agg (arrF g),.agg (arrF (T g))] X (.bool true)):=fun X=>by
    have:=subset_fn X g (T g)
    rwa [subD_true hsub] at this
   clear hsub
   go_upto_region 4 with (first
    | (refine wpList_load_row rfl 93 _ rfl w.heap.size rfl 93 (arrF g) (0,0) _ HK1.out.h underlying93 rfl (sizeArr g) ?_)
    | (refine wpList_load_row rfl 93 _ rfl q rfl 93 (arrF (T g)) (0,0) _ HK3.out.h underlying93 rfl (sizeArr _) ?_)
    | (go_at_call 104;refine (HS.out _).mono ?_;rintro e w2 ⟨rfl,hF2⟩))
   have HL1:Hid _:=HK1.out.no hF2
   have HL2:Hid _:=HK2.out.no hF2
   have HL4:Hid _:=HK4.out.trans hF2
   clear hF2
   go_wp2_with (first
    | (refine wpList_load_row rfl 93 _ rfl w.heap.size rfl 93 (arrF g) (0,0) _ HL1.out.h underlying93 rfl (sizeArr g) ?_)
    | (refine wpList_store_row rfl 93 _ _ rfl (w.heap.size + 1) (arrF g) rfl rfl 93 _ HL2.out.h (sizeArr _) (by rw [arrF_size,arrF_size]) (arrF_one _) ?_))
   refine bodyPost_ret (v:=.agg (arrF R)) ?_ rfl ⟨rfl,HL4.out.setRow (fun q=>absurd q (by omega)) _⟩
   rw [HE.out]
   exact results_cell_row (fn:=Tryz.f74) rfl _ _ (w.heap.size + 1) 93 _ (0,0) _ rfl (HL2.out.row g).h underlying93 rfl (sizeArr _)
  ·have hcard:=card_both hsub
   have HE:Hid (R = iterF T (27 - (m + 1)) (bothF g (T g))):=by
    show R = _
    rw [HR2.out,show 27 - m = (27 - (m + 1)) + 1 by omega]
    rfl
   have HS:Hid (∀ X:World,CR 104 #[.agg (arrF g),.agg (arrF (T g))] X (.bool false)):=fun X=>by
    have:=subset_fn X g (T g)
    rwa [subD_false hsub] at this
   clear hsub
   go_upto_region 5 with (first
    | (refine wpList_load_row rfl 93 _ rfl w.heap.size rfl 93 (arrF g) (0,0) _ HK1.out.h underlying93 rfl (sizeArr g) ?_)
    | (refine wpList_load_row rfl 93 _ rfl q rfl 93 (arrF (T g)) (0,0) _ HK3.out.h underlying93 rfl (sizeArr _) ?_)
    | (go_at_call 104;refine (HS.out _).mono ?_;rintro e w2 ⟨rfl,hF2⟩))
   have HL1:Hid _:=HK1.out.no hF2
   have HL2:Hid _:=HK2.out.no hF2
   have HL3:Hid _:=HK3.out.no hF2
   have HL4:Hid _:=HK4.out.trans hF2
   clear hF2 HK1 HK2 HK3 HK4
   go_wp2_with (first
    | (refine wpList_load_row rfl 93 _ rfl w.heap.size rfl 93 (arrF g) (0,0) _ HL1.out.h underlying93 rfl (sizeArr g) ?_)
    | (refine wpList_load_row rfl 93 _ rfl q rfl 93 (arrF (T g)) (0,0) _ HL3.out.h underlying93 rfl (sizeArr _) ?_)
    | (go_at_call 105;refine (both_fn _ g (T g)).mono ?_;rintro e w3 ⟨rfl,hF3⟩)
    | (refine wpList_store_row rfl 93 _ _ rfl w.heap.size (arrF (bothF g (T g))) rfl rfl 93 _ (HL1.out.no hF3).h (sizeArr _) (by rw [arrF_size,arrF_size]) (arrF_one _) ?_))
   go_roundg (card (bothF g (T g)) 26)
   case measure=>omega
   case rel=>exact ⟨bothF g (T g),m + 1,Nat.le_refl _,by omega,HE.out,Clean.both Hcg.out,(HL1.out.no hF3).row _,(HL2.out.no hF3).fr ((Fr.refl (OneB w.heap.size) _).setRow (fun _=>rfl) _) (by unfold OneB;omega),(HL4.out.trans hF3).setRow (fun q=>absurd q (by omega)) _⟩
end Go.Proofs.YthcjcjfgdgnljabGreatDoor
