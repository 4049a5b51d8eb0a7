import Derived.Test.YtcmnejcojphijaaSynB
import Derived.Test.YtcmnejcojphijaaAppK
import Derived.Deep.DeepCutAuto
import Derived.Deep.RegionHeldLaw
import Derived.Deep.RegionLaw
import Derived.Deep.LoopGhost
namespace Go.Proofs.Ytcmnejcojphijaa
open Go.RowKit

def partB (b : Nat) : Bool := b == 83 || b == 111 || b == 100 || b == 101 || b == 86 || b == 103 || b == 116 || b == 71 || b == 112
theorem partB_iff (b : Nat) : partB b = true ↔ isPart b := by simp [partB, isPart, or_assoc]
/-- byte i of a text -/
def bt (s : ByteArray) (i : Nat) : Nat := if h : i < s.size then s[i].toNat else 0
theorem bt_in {s : ByteArray} {i : Nat} (h : i < s.size) : bt s i = s[i].toNat := by simp [bt, h]
theorem bt_lt (s : ByteArray) (i : Nat) : bt s i < 256 := by
  unfold bt; split
  · exact UInt8.toNat_lt _
  · omega

set_option maxHeartbeats 400000 in
theorem among_any (w : World) (c : Nat) (s : ByteArray) (hs : s.size ≤ 1000) :
    Calls Try.prog 59 #[.int .u8 (c : Int), .string s] w fun e w' => Says (∃ i, i < s.size ∧ bt s i = c) e ∧ w' = w := by
  go_enter Try.func59, Try.ntmps59
  go_wp2
  go_loop [5] (fun t => ∃ i : Nat, i ≤ s.size ∧ t = .int .i64 i ∧ (∀ j, j < i → bt s j ≠ c)) (fun t => s.size - (intOf t).toNat)
  case atStart => exact ⟨0, Nat.zero_le _, rfl, fun j hj => absurd hj (by omega)⟩
  case round =>
    obtain ⟨i, hi, rfl, hno⟩ := hrel
    have Hno : Hid (∀ j, j < i → bt s j ≠ c) := hno
    clear hno
    by_cases hlt : i < s.size
    · have Hbt : Hid (bt s i = s[i].toNat) := bt_in hlt
      by_cases he : s[i].toNat = c
      · have heb : ((s[i].toNat : Int) == (c : Int)) = true := beq_iff_eq.2 (by omega)
        have He : Hid (bt s i = c) := Hbt.out.trans he
        clear he
        go_wp2
        go_ret
        exact ⟨⟨true, rfl, ⟨fun _ => ⟨i, hlt, He.out⟩, fun _ => rfl⟩⟩, rfl⟩
      · have heb : ((s[i].toNat : Int) == (c : Int)) = false := beq_eq_false_iff_ne.2 (by omega)
        have He : Hid (bt s i ≠ c) := by show bt s i ≠ c; rw [Hbt.out]; exact he
        clear he
        go_wp2
        go_round
        case rel => exact ⟨i + 1, by omega, by go_num, fun j hj => by
          by_cases e : j = i
          · subst e; exact He.out
          · exact Hno.out j (by omega)⟩
        case measure => simp [intOf]; omega
    · go_wp2
      go_ret
      exact ⟨⟨false, rfl, ⟨fun e => absurd e (by simp), fun ⟨j, hj, h⟩ => absurd h (Hno.out j (by omega))⟩⟩, rfl⟩

theorem among_part (w : World) (c : Nat) :
    Calls Try.prog 59 #[.int .u8 (c : Int), .string ⟨#[83, 111, 100, 101, 86, 103, 116, 71, 112]⟩] w fun e w' => e = .returned (.bool (partB c)) ∧ w' = w := by
  refine (among_any w c ⟨#[83, 111, 100, 101, 86, 103, 116, 71, 112]⟩ (by decide)).mono ?_
  rintro e w' ⟨⟨b, rfl, hb⟩, hw⟩
  have key : (∃ i, i < (⟨#[83, 111, 100, 101, 86, 103, 116, 71, 112]⟩ : ByteArray).size ∧ bt ⟨#[83, 111, 100, 101, 86, 103, 116, 71, 112]⟩ i = c) ↔ isPart c := by
    constructor
    · rintro ⟨i, hi, rfl⟩
      have hi' : i < 9 := hi
      match i, hi' with
      | 0, _ => exact (partB_iff _).1 rfl
      | 1, _ => exact (partB_iff _).1 rfl
      | 2, _ => exact (partB_iff _).1 rfl
      | 3, _ => exact (partB_iff _).1 rfl
      | 4, _ => exact (partB_iff _).1 rfl
      | 5, _ => exact (partB_iff _).1 rfl
      | 6, _ => exact (partB_iff _).1 rfl
      | 7, _ => exact (partB_iff _).1 rfl
      | 8, _ => exact (partB_iff _).1 rfl
    · rintro (rfl | rfl | rfl | rfl | rfl | rfl | rfl | rfl | rfl)
      · exact ⟨0, by decide, rfl⟩
      · exact ⟨1, by decide, rfl⟩
      · exact ⟨2, by decide, rfl⟩
      · exact ⟨3, by decide, rfl⟩
      · exact ⟨4, by decide, rfl⟩
      · exact ⟨5, by decide, rfl⟩
      · exact ⟨6, by decide, rfl⟩
      · exact ⟨7, by decide, rfl⟩
      · exact ⟨8, by decide, rfl⟩
  have : b = partB c := by
    rw [Bool.eq_iff_iff, hb, key, partB_iff]
  rw [this]
  exact ⟨rfl, hw⟩

def entC (e : Nat × Bool) : List Value := [.int .u8 (e.1 : Int), .bool e.2]
theorem Try.infoExp : (Try.prog.info? 102).map (fun i => (i.zero, i.size, i.bytes)) = some (some (.agg #[.int .u8 0, .bool false]), 2, 2) := by kernel_rfl

/-- what is expected, in memory: the first of it last -/
structure StkAt (w : World) (kp base : Nat) (v : Value) (stk : List (Nat × Bool)) : Prop where
  c : w.cell? ⟨kp, 0, none⟩ = some v
  f : ∀ o, w.frozen? ⟨kp, o, none⟩ = false
  row : w.ownsRow base 102 2 v stk.length (stk.flatMap entC)
  ne : v.ownBlock ≠ some kp

/-- append as one step of a region that draws -/
theorem step_append_kind {P : Program} {ops : Array Oper} {o : Oper} {a : Act} {w : World} {K : Act → World → Prop} {Q : Exit → Act → World → Prop} {E : Prop}
    (hg : o.guard = none) (s x : Operand) (t : TypeId) (hop : o.op = Op.call { callee := Callee.builtin Builtin.append, args := #[s, x], argTypes := #[t, t] })
    (base : Nat) (e : TypeId) (i : TypeInfo) (z : Value) (size bytes : Nat) (ht : P.underlying t = some (.slice e)) (hi : P.info? e = some i) (hz : i.zero = some z)
    (hsize : i.size = size) (hby : i.bytes = bytes) (hzs : z.cells.size = size) (hsz : 0 < size)
    (v : Value) (n : Nat) (xs : List Value) (hs : a.eval s = v) (hown : w.ownsRow base e size v n xs)
    (ad : Addr) (m c : Nat) (news : List Value) (hm : 0 < m) (hx : a.eval x = .slice (some ad) m c) (hl : news.length = m * size) (hnews : ∀ j u, news[j]? = some u → w.cell? (ad.add j) = some u) (h1 : ∀ u ∈ news, u.oneCell' = true)
    (h63 : n + m ≤ maxLen) (hbytes : ((n + m) + (n + m) / 4 + 192) * bytes ≤ 281474976710656) (hbase : base ≤ w.heap.size)
    (hK : ∀ v' w', w'.ownsRow base e size v' (n + m) (xs ++ news) → AppKind w w' v v' n m → K (a.put o.dst v') w') :
    if Region.wanted o (yielded ops a.tmps) = true then Oper.wp P o a w K Q else E := by
  have hw : Region.wanted o (yielded ops a.tmps) = true := by simp [Region.wanted, hg]
  rw [if_pos hw]
  obtain ⟨v', w', hr, h2, h3⟩ := run_append_kind (P := P) w base t o.type e i z size bytes ht hi hz hsize hby hzs hsz v n xs hown ad m c news hm hl hnews h1 h63 hbytes hbase
  unfold Oper.wp execOp
  simp only [hop, resolve, invoke, builtin, Sem.run_bind, Sem.run_pure, Result.andThen_ok, List.map_toArray, List.map_cons, List.map_nil, hs, hx, hr]
  exact hK v' w' h2 h3
end Go.Proofs.Ytcmnejcojphijaa
