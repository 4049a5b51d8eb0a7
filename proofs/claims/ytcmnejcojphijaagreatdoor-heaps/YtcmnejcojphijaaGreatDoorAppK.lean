/-
  append onto a row of the call's own, and where the new row lies: in a new block (nothing old has turned), or where the old one lay (that block alone has turned).
-/
import Derived.Test.YtcmnejcojphijaaGreatDoorBase
import Derived.Deep.DeepAppendWide
namespace Go.Proofs.YtcmnejcojphijaaGreatDoor
open Go.RowKit

def AppKind (w w' : World) (v v' : Value) (n m : Nat) : Prop :=
  (∃ cap, v' = .slice (some ⟨w.heap.size, 0, none⟩) (n + m) cap ∧ w.grownBy w' none) ∨
  (∃ g cap, v = .slice (some ⟨g, 0, none⟩) n cap ∧ v' = .slice (some ⟨g, 0, none⟩) (n + m) cap ∧ w.grownBy w' (some g))

section
variable {P : Program} (w : World)

theorem run_append_kind (base : Nat) (t ty e : TypeId) (i : TypeInfo) (z : Value) (size bytes : Nat) (ht : P.underlying t = some (.slice e)) (hi : P.info? e = some i) (hz : i.zero = some z)
    (hsize : i.size = size) (hby : i.bytes = bytes) (hzs : z.cells.size = size) (hsz : 0 < size)
    (v : Value) (n : Nat) (xs : List Value) (hown : w.ownsRow base e size v n xs)
    (a : Addr) (m c : Nat) (news : List Value) (hm : 0 < m) (hl : news.length = m * size) (hnews : ∀ j u, news[j]? = some u → w.cell? (a.add j) = some u) (h1 : ∀ u ∈ news, u.oneCell' = true)
    (h63 : n + m ≤ maxLen) (hbytes : ((n + m) + (n + m) / 4 + 192) * bytes ≤ 281474976710656) (hbase : base ≤ w.heap.size) :
    ∃ v' w', (Builtin.append_ #[t, t] ty #[v, .slice (some a) m c]).run P w = .ok v' w' ∧ w'.ownsRow base e size v' (n + m) (xs ++ news) ∧ AppKind w w' v v' n m := by
  obtain ⟨v', w', hr, h2, h3, _⟩ := run_append_own_wide (P := P) w base t ty e i z size bytes ht hi hz hsize hby hzs hsz v n xs hown a m c news hl hnews h1 h63 hbytes hbase
  refine ⟨v', w', hr, h2, ?_⟩
  have hsmall : n + m ≤ 9223372036854775807 := by simp only [maxLen] at h63; omega
  subst hsize
  subst hby
  rcases hown.2 with ⟨rfl, rfl⟩ | ⟨g, cap, cur, rfl, hbg, hg, hnc, hcm, hcs, htake⟩
  · have h48 : m * i.bytes ≤ 281474976710656 := Nat.le_trans (Nat.mul_le_mul_right _ (by omega)) hbytes
    have hr2 := run_append_nil (P := P) w t ty e i z ht hi hz a m c news hl hnews hm (by omega) h48
    have he := hr.symm.trans hr2
    injection he with e1 e2
    refine .inl ⟨grownCap w m 0 e, by rw [e1]; simp, ?_⟩
    rw [e2]
    exact ⟨rfl, rfl, rfl, by simp, fun k hk _ => Below.heap_alloc w.drew _ k hk⟩
  · by_cases hroom : n + m ≤ cap
    · have hfit : n * i.size + news.length ≤ cur.size := by rw [hl, hcs, ← Nat.add_mul]; exact Nat.mul_le_mul_right _ hroom
      have hr2 := run_append_room (P := P) w t ty e i ht hi g n cap cur hg a m c news hl hnews h1 hroom hfit
      have he := hr.symm.trans hr2
      injection he with e1 e2
      exact .inr ⟨g, cap, rfl, e1, h3⟩
    · have holds : ∀ j u, xs[j]? = some u → w.cell? ((⟨g, 0, none⟩ : Addr).add j) = some u := hown.cells (g := g) rfl
      have hr2 := run_append_grow (P := P) w t ty e i z ht hi hz ⟨g, 0, none⟩ n cap xs hown.1 holds a m c news hl hnews (by omega) (by omega) (growslice_fits_wide (by omega) hbytes)
      have he := hr.symm.trans hr2
      injection he with e1 e2
      refine .inl ⟨grownCap w (n + m) cap e, e1, ?_⟩
      rw [e2]
      exact ⟨rfl, rfl, rfl, by simp, fun k hk _ => Below.heap_alloc w.drew _ k hk⟩

theorem wpList_append_kind {ops : Array Oper} {rest : List Oper} {o : Oper} {a : Act} {Q : Exit → Act → World → Prop} (hgd : o.guard = none) (s x : Operand) (t : TypeId)
    (ho : o.op = .call { callee := .builtin .append, args := #[s, x], argTypes := #[t, t] })
    (base : Nat) (e : TypeId) (i : TypeInfo) (z : Value) (size bytes : Nat) (ht : P.underlying t = some (.slice e)) (hi : P.info? e = some i) (hz : i.zero = some z)
    (hsize : i.size = size) (hby : i.bytes = bytes) (hzs : z.cells.size = size) (hsz : 0 < size)
    (v : Value) (n : Nat) (xs : List Value) (hs : a.eval s = v) (hown : w.ownsRow base e size v n xs)
    (ad : Addr) (m c : Nat) (news : List Value) (hm : 0 < m) (hx : a.eval x = .slice (some ad) m c) (hl : news.length = m * size) (hnews : ∀ j u, news[j]? = some u → w.cell? (ad.add j) = some u) (h1 : ∀ u ∈ news, u.oneCell' = true)
    (h63 : n + m ≤ maxLen) (hbytes : ((n + m) + (n + m) / 4 + 192) * bytes ≤ 281474976710656) (hbase : base ≤ w.heap.size)
    (h : ∀ v' w', w'.ownsRow base e size v' (n + m) (xs ++ news) → AppKind w w' v v' n m → wpList P ops Q rest (a.put o.dst v') w') : wpList P ops Q (o :: rest) a w := by
  refine wpList_plain hgd fun K hK => ?_
  obtain ⟨v', w', hr, h2, h3⟩ := run_append_kind (P := P) w base t o.type e i z size bytes ht hi hz hsize hby hzs hsz v n xs hown ad m c news hm hl hnews h1 h63 hbytes hbase
  unfold Oper.wp execOp
  simp only [ho, resolve, invoke, builtin, Sem.run_bind, Sem.run_pure, Result.andThen_ok, List.map_toArray, List.map_cons, List.map_nil, hs, hx, hr]
  exact hK _ _ (h v' w' h2 h3)
end

/-- what was owned is owned still -/
theorem AppKind.keep {w w' : World} {v v' : Value} {n m base : Nat} {e : TypeId} {size : Nat} {xs news : List Value} (h : AppKind w w' v v' n m) (ho : w.ownsRow base e size v n xs) (ho' : w'.ownsRow base e size v' (n + m) (xs ++ news)) : w'.ownsRow base e size v n xs := by
  rcases h with ⟨cap, _, hg⟩ | ⟨g, cap, rfl, rfl, hg⟩
  · exact ho.kept hg (by cases hv : v.ownBlock <;> simp)
  · refine ⟨ho.1, .inr ?_⟩
    rcases ho.2 with ⟨hv, _⟩ | ⟨g0, cap0, cur0, hv, hb0, _, hn0, hc0, _, _⟩
    · cases hv
    · cases hv
      rcases ho'.2 with ⟨hv, _⟩ | ⟨g1, cap1, cur1, hv, hb1, hh1, hn1, hc1, hs1, ht1⟩
      · cases hv
      · cases hv
        refine ⟨g, cap, cur1, rfl, hb0, hh1, hn0, hc0, hs1, ?_⟩
        have hx := ho.1
        have : cur1.toList.take (n * size) = (cur1.toList.take ((n + m) * size)).take (n * size) := by
          rw [List.take_take, Nat.min_eq_left (Nat.mul_le_mul_right _ (by omega))]
        rw [this, ht1, ← hx, List.take_left]
theorem AppKind.fr {w w' : World} {v v' : Value} {n m : Nat} (h : AppKind w w' v v' n m) : Fr (fun q => v.ownBlock = some q) w w' := by
  rcases h with ⟨cap, _, hg⟩ | ⟨g, cap, rfl, rfl, hg⟩
  · exact Fr.of_grown hg (fun k _ e => by cases e)
  · exact Fr.of_grown hg (fun k _ e => e)
/-- where the new row lies -/
theorem AppKind.place {w w' : World} {v v' : Value} {n m : Nat} (h : AppKind w w' v v' n m) : ∃ g cap, v' = .slice (some ⟨g, 0, none⟩) (n + m) cap ∧ (g = w.heap.size ∨ v.ownBlock = some g) := by
  rcases h with ⟨cap, hv, _⟩ | ⟨g, cap, rfl, hv, _⟩
  · exact ⟨_, cap, hv, .inl rfl⟩
  · exact ⟨g, cap, hv, .inr rfl⟩
end Go.Proofs.YtcmnejcojphijaaGreatDoor
