/- Numbers in groups of seven bits, without a program in sight; a law for make with room to spare. -/
import Derived.WalkKit
import Derived.Laws.CopyOwn
import Derived.Laws.MakeOwn
import Derived.Laws.AppendOwnNone
import Derived.Test.YtdlkkflenphkfaaDoorNum
namespace Go.Proofs.YtdlkkflenphkfaaDoor
open Go.RowKit

/-- A number in groups of seven bits, the lowest first, 128 more in each but the last; so many groups at most and one more. -/
def groups : Nat → Int → List Int
  | 0, u => [u]
  | f + 1, u => if u < 128 then [u] else (u % 128 + 128) :: groups f (u / 128)

/-- The bytes that are put of a number. -/
def putV (n : Int) : List Int := groups 9 (foldV n)

/-- How great what is left can be behind so many groups. -/
def bnd (k : Nat) : Int := 18446744073709551615 / 128 ^ k

theorem bnd_zero : bnd 0 = 18446744073709551615 := by decide

theorem bnd_nine : bnd 9 = 1 := by decide

theorem bnd_succ {k : Nat} {u : Int} (h : u ≤ bnd k) : u / 128 ≤ bnd (k + 1) := by
  have e : bnd (k + 1) = bnd k / 128 := by
    unfold bnd
    have hp : (0 : Int) < 128 ^ k := Int.pow_pos (by decide)
    rw [Int.pow_succ, Int.ediv_mul, if_neg (by omega), Int.add_zero]
  rw [e]
  exact Int.ediv_le_ediv (by decide) h

theorem groups_small {f : Nat} {u : Int} (h : u < 128) : groups f u = [u] := by
  cases f with
  | zero => rfl
  | succ f => rw [groups, if_pos h]

theorem groups_more {f : Nat} {u : Int} (h : ¬ u < 128) : groups (f + 1) u = (u % 128 + 128) :: groups f (u / 128) := by
  rw [groups, if_neg h]

theorem groups_len : ∀ (f : Nat) (u : Int), 1 ≤ (groups f u).length ∧ (groups f u).length ≤ f + 1
  | 0, _ => by simp [groups]
  | f + 1, u => by
    rw [groups]
    split
    · simp
    · have := groups_len f (u / 128)
      simp only [List.length_cons]
      omega

theorem putV_len (n : Int) : 1 ≤ (putV n).length ∧ (putV n).length ≤ 10 := groups_len 9 (foldV n)

/-- Bytes as cells. -/
def bv (l : List Int) : List Value := l.map (Value.int .u8)

theorem bv_len (l : List Int) : (bv l).length = l.length := List.length_map _

theorem bv_append (a b : List Int) : bv (a ++ b) = bv a ++ bv b := List.map_append

theorem bv_one (l : List Int) : ∀ v ∈ bv l, v.oneCell' = true := by
  intro v hv
  obtain ⟨x, _, rfl⟩ := List.mem_map.1 hv
  rfl

theorem one_cell (x : Int) : ∀ v ∈ [Value.int .u8 x], v.oneCell' = true := by
  intro v hv
  simp only [List.mem_singleton] at hv
  subst hv
  rfl

theorem cell_new1 (w : World) (x : Int) (t : TypeId) : ∀ (j : Nat) (u : Value), [Value.int .u8 x][j]? = some u → (w.alloc (.cells #[.int .u8 x] t)).cell? ((⟨w.heap.size, 0, none⟩ : Addr).add j) = some u := by
  intro j u hj
  match j, hj with
  | 0, hj =>
    simp at hj
    subst hj
    simp [Addr.add]

theorem put_last {n u : Int} {k : Nat} {pre : List Int} (hp : pre.length = k) (h : putV n = pre ++ groups (9 - k) u) (hs : u < 128) : (putV n).length = k + 1 ∧ bv (putV n) = bv pre ++ [.int .u8 u] := by
  rw [h, groups_small hs, bv_append]
  exact ⟨by simp [hp], rfl⟩

theorem put_next {n u : Int} {k : Nat} {pre : List Int} (hk : k ≤ 9) (hb : u ≤ bnd k) (hp : pre.length = k) (h : putV n = pre ++ groups (9 - k) u) (hs : ¬ u < 128) :
    k + 1 ≤ 9 ∧ (pre ++ [u % 128 + 128]).length = k + 1 ∧ putV n = (pre ++ [u % 128 + 128]) ++ groups (9 - (k + 1)) (u / 128) ∧ u / 128 ≤ bnd (k + 1) := by
  have h9 : k ≠ 9 := by
    intro e
    rw [e, bnd_nine] at hb
    omega
  refine ⟨by omega, by simp [hp], ?_, bnd_succ hb⟩
  obtain ⟨m, hm⟩ : ∃ m, 9 - k = m + 1 := ⟨8 - k, by omega⟩
  rw [h, hm, groups_more hs, show 9 - (k + 1) = m by omega]
  simp

theorem wpList_make_spare {P : Program} (w : World) {ops : Array Oper} {rest : List Oper} {o : Oper} {a : Act} {Q : Exit → Act → World → Prop}
    (hg : o.guard = none) (l c : Operand) (t : TypeId) (hop : o.op = Op.makeSlice t l c)
    (e : TypeId) (i : TypeInfo) (z : Value) (h1 : P.underlying t = some (.slice e)) (h2 : P.info? e = some i) (h3 : i.zero = some z) (h4 : i.size = 1)
    (kl kc : IntKind) (L C : Int) (n m : Nat) (hl : a.eval l = .int kl L) (hc : a.eval c = .int kc C) (hL : L = (n : Int)) (hC : C = (m : Int)) (hnm : n ≤ m) (b2 : (i.bytes : Int) * (m : Int) ≤ 281474976710656) (b3 : (m : Int) ≤ 9223372036854775807)
    (hK : ∀ w' (cur : List Value), cur.length = m → w'.heap[w.heap.size]? = some (.cells cur.toArray e (0, 0)) → w.grownBy w' none → wpList P ops Q rest (a.put o.dst (.slice (some ⟨w.heap.size, 0, none⟩) n m)) w') :
    wpList P ops Q (o :: rest) a w := by
  refine wpList_plain hg fun K hK' => ?_
  have hrun := run_make (P := P) w t e i z h1 h2 h3 kl kc n m (by omega) (by omega) b2 b3
  simp only [Int.toNat_natCast, h4, Nat.mul_one] at hrun
  subst hL
  subst hC
  unfold Oper.wp
  simp [execOp, hop, hl, hc, hrun, Result.andThen]
  refine hK' _ _ (hK _ (madeCells z.cells m).toList ?_ ?_ (World.grownBy_alloc _ _ _))
  · simp [madeCells]
  · exact heap_alloc_new _ _

/-- append of whatever slice, nil too, onto nil or a row of the call's own. -/
theorem wpList_append_any {P : Program} (w : World) {ops : Array Oper} {rest : List Oper} {o : Oper} {a : Act} {Q : Exit → Act → World → Prop} (hgd : o.guard = none) (s x : Operand) (t : TypeId)
    (ho : o.op = .call { callee := .builtin .append, args := #[s, x], argTypes := #[t, t] })
    (base : Nat) (e : TypeId) (i : TypeInfo) (z : Value) (bytes : Nat) (ht : P.underlying t = some (.slice e)) (hi : P.info? e = some i) (hz : i.zero = some z)
    (hsize : i.size = 1) (hby : i.bytes = bytes) (hzs : z.cells.size = 1)
    (v : Value) (n : Nat) (xs : List Value) (hs : a.eval s = v) (hown : w.ownsRow base e 1 v n xs)
    (ao : Option Addr) (m c : Nat) (news : List Value) (hx : a.eval x = .slice ao m c) (hl : news.length = m) (hnone : ao = none → m = 0 ∧ c = 0) (hnews : ∀ ad, ao = some ad → ∀ j u, news[j]? = some u → w.cell? (ad.add j) = some u) (h1 : ∀ u ∈ news, u.oneCell' = true)
    (h63 : n + m ≤ maxLen) (hbytes : (n + m) * bytes ≤ 140737488355328) (hbase : base ≤ w.heap.size)
    (h : ∀ v' w', w'.ownsRow base e 1 v' (n + m) (xs ++ news) → w.grownBy w' v.ownBlock → wpList P ops Q rest (a.put o.dst v') w') : wpList P ops Q (o :: rest) a w := by
  cases ao with
  | some ad => exact wpList_append_own w hgd s x t ho base e i z 1 bytes ht hi hz hsize hby hzs (by decide) v n xs hs hown ad m c news hx (by omega) (hnews ad rfl) h1 h63 hbytes hbase (fun v' w' h2 h3 _ => h v' w' h2 h3)
  | none =>
    obtain ⟨rfl, rfl⟩ := hnone rfl
    obtain rfl : news = [] := List.eq_nil_of_length_eq_zero hl
    refine wpList_append_own_none hgd s x t ho base e i 1 ht hi v n xs hs hown hx (h v w ?_ (World.grownBy.refl _ _))
    simpa using hown

theorem owns_copied {w : World} {B e g n m : Nat} {cur cs : List Value} (hB : B ≤ g) (hc : cur.length = m) (hm : m ≤ maxLen) (hcs : cs.length = n) (hnm : n ≤ m) (h : w.heap[g]? = some (.cells (splice cur 0 cs).toArray e (0, 0))) :
    w.ownsRow B e 1 (.slice (some ⟨g, 0, none⟩) n m) n cs := by
  refine ⟨by omega, Or.inr ⟨g, m, (splice cur 0 cs).toArray, rfl, hB, h, hnm, hm, ?_, ?_⟩⟩
  · have := length_splice cur 0 cs (by omega)
    simp only [List.size_toArray]
    omega
  · simp only [splice, Nat.mul_one, List.take_zero, List.nil_append, Nat.zero_add]
    rw [List.take_append_of_le_length (by omega), List.take_of_length_le (by omega)]
end Go.Proofs.YtdlkkflenphkfaaDoor
