/- Maps whose keys bear addresses: what a look-up and a store do, whatever marks the rows bear. -/
import Derived.Test.YtmpcjcjacpjilaaDoorTyC
import Derived.LaidEql
import Derived.Maps.OwnSet
import Derived.ChangeKeysEq
namespace Go.Proofs.YtmpcjcjacpjilaaDoor
open Go.RowKit

/-- An address that may be held against others. -/
def GoodA (w : World) (a : Addr) : Prop := ∃ cs t fr, w.heap[a.block]? = some (.cells cs t fr) ∧ w.frozen? a = false
/-- .. in a row that bears no mark. -/
def PlainA (w : World) (a : Addr) : Prop := CleanB w a.block

theorem PlainA.good {w : World} {a : Addr} (h : PlainA w a) : GoodA w a := by
  obtain ⟨cs, t, h⟩ := h
  exact ⟨cs, t, _, h, by simp [World.frozen?, h]⟩

theorem GoodA.below {w w' : World} {a : Addr} (h : GoodA w a) (hb : Below w.heap.size w w') : GoodA w' a := by
  obtain ⟨cs, t, fr, h, hf⟩ := h
  exact ⟨cs, t, fr, (hb.block _ (lt_of_block h)).trans h, (hb.frozen (lt_of_block h)).trans hf⟩

theorem drewN_zero (w : World) : w.drewN 0 = w := rfl

theorem run_sameAddr_any {P : Program} {w : World} {a b : Addr} (ha : GoodA w a) (hb : GoodA w b) :
    ∃ r n, (sameAddr a b).run P w = .ok r (w.drewN n) ∧ (a = b → r = true) ∧ (PlainA w a → PlainA w b → (r = true → a = b)) := by
  by_cases hbl : a.block = b.block
  · refine ⟨a == b, 0, by simp [sameAddr, hbl, drewN_zero], by simp, by simp⟩
  · obtain ⟨ca, ta, fa, ha1, ha2⟩ := ha
    obtain ⟨cb, tb, fb, hb1, hb2⟩ := hb
    have hs1 : w.shape? a.block = some (ta, ca.size) := by simp [World.shape?, ha1]
    have hs2 : w.shape? b.block = some (tb, cb.size) := by simp [World.shape?, hb1]
    by_cases hp : PlainA w a ∧ PlainA w b
    · obtain ⟨⟨ca', ta', h1⟩, ⟨cb', tb', h2⟩⟩ := hp
      refine ⟨false, 0, by rw [run_sameAddr_other w (fun e => hbl (by rw [e])) h1 h2]; rfl, fun e => absurd (by rw [e]) hbl, fun _ _ h => by cases h⟩
    · have hno : PlainA w a → PlainA w b → False := fun h1 h2 => hp ⟨h1, h2⟩
      have hex : ∃ r n, (sameAddr a b).run P w = .ok r (w.drewN n) := by
        generalize hR : (sameAddr a b).run P w = R
        simp only [sameAddr, noView, viewAt, mayBeOne, stringish] at hR
        simp [hbl, ha2, hb2, hs1, hs2] at hR
        repeat' split at hR
        all_goals first | exact ⟨_, 0, hR.symm⟩ | exact ⟨_, 1, hR.symm⟩
      obtain ⟨r, n, h⟩ := hex
      exact ⟨r, n, h, fun e => absurd (by rw [e]) hbl, fun h1 h2 => (hno h1 h2).elim⟩

/-- A key: where a list begins, and how long it is. -/
def keyV (a : Addr) (m : Nat) : Value := .agg #[.pointer (some a), .int .i64 m]
/-- A key of two. -/
def key2V (a : Addr) (m : Nat) (b : Addr) (l : Nat) : Value := .agg #[.pointer (some a), .int .i64 m, .pointer (some b), .int .i64 l]

theorem ptr_size : ∀ w, (Go.sizeOf 25).run Tryd.prog w = .ok 4 w := fun w => by kernel_rfl
theorem list_fields : Tryd.prog.underlying 58 = some (.struct (Tryd.prog.fieldsOf 58)) := by kernel_rfl
theorem list_held : Tryd.prog.stoodInHeld 58 = false := by kernel_rfl
theorem part_ptr (xs : Array Value) (w : World) (a : Addr) (h : xs[0]? = some (.pointer (some a))) : (part 56 xs 0).run Tryd.prog w = .ok (.pointer (some a)) w := by
  simp [part, isAgg, run_underlying Tryd.underlying56, h]
theorem part_len (xs : Array Value) (w : World) (m : Int) (h : xs[1]? = some (.int .i64 m)) : (part 3 xs 1).run Tryd.prog w = .ok (.int .i64 m) w := by
  simp [part, isAgg, run_underlying Tryd.underlying3, h]
theorem run_eq_ptr (d : Nat) (w : World) (a b : Addr) : (Op.equalIn (d + 1) 56 (.pointer (some a)) (.pointer (some b))).run Tryd.prog w = (sameAddr a b).run Tryd.prog w := by
  simp [Op.equalIn, run_underlying Tryd.underlying56]
theorem run_eq_int (d : Nat) (w : World) (m l : Nat) : (Op.equalIn (d + 1) 3 (.int .i64 m) (.int .i64 l)).run Tryd.prog w = .ok (m == l) w := by
  simp [Op.equalIn, run_underlying Tryd.underlying3]
  rw [Bool.eq_iff_iff]
  simp
  omega

theorem run_eq_key (d : Nat) {w : World} {a b : Addr} {m l : Nat} (ha : GoodA w a) (hb : GoodA w b) :
    ∃ r n, (Op.equalIn (d + 2) 58 (keyV a m) (keyV b l)).run Tryd.prog w = .ok r (w.drewN n) ∧ ((a = b ∧ m = l) → r = true) ∧ (PlainA w a → PlainA w b → (r = true → a = b ∧ m = l)) := by
  obtain ⟨r, n, h, h1, h2⟩ := run_sameAddr_any (P := Tryd.prog) ha hb
  unfold keyV
  rw [run_equalIn_struct _ _ _ _ _ list_fields list_held]
  simp only [Program.fieldsOf, Tryd.underlying58, Op.eqFields, ne_eq]
  simp only [show ¬ ("first" = "_") by decide, show ¬ ("length" = "_") by decide, not_false_eq_true, if_true, Sem.run_bind]
  simp only [part_ptr _ _ a (show (#[Value.pointer (some a), .int .i64 m] : Array Value)[0]? = _ from rfl), part_ptr _ _ b (show (#[Value.pointer (some b), .int .i64 l] : Array Value)[0]? = _ from rfl), Result.andThen_ok, run_eq_ptr, h]
  cases r
  · refine ⟨false, n, by simp, fun e => ?_, fun _ _ e => by cases e⟩
    exact absurd (h1 e.1) (by decide)
  · refine ⟨m == l, n, ?_, fun e => by simp [e.2], fun p1 p2 e => ⟨h2 p1 p2 rfl, by simpa using e⟩⟩
    simp [part_len _ _ m (show (#[Value.pointer (some a), .int .i64 m] : Array Value)[1]? = _ from rfl), part_len _ _ l (show (#[Value.pointer (some b), .int .i64 l] : Array Value)[1]? = _ from rfl), run_eq_int]
    by_cases hml : m = l <;> simp [hml]

theorem list_info : ∃ i, Tryd.prog.info? 58 = some i := Option.isSome_iff_exists.1 (by kernel_rfl)
theorem list_cells : Tryd.prog.cellsOf 58 = 2 := by kernel_rfl
theorem part_key (a : Addr) (m : Nat) (b : Addr) (l : Nat) (w : World) : (part 58 #[.pointer (some a), .int .i64 m, .pointer (some b), .int .i64 l] 0).run Tryd.prog w = .ok (keyV a m) w ∧
    (part 58 #[.pointer (some a), .int .i64 m, .pointer (some b), .int .i64 l] 2).run Tryd.prog w = .ok (keyV b l) w := by
  constructor <;> kernel_rfl

theorem run_eq_key2 (d : Nat) {w : World} {a b a' b' : Addr} {m l m' l' : Nat} (ha : GoodA w a) (hb : GoodA w b) (ha' : GoodA w a') (hb' : GoodA w b') :
    ∃ r n, (Op.equalIn (d + 3) 60 (key2V a m b l) (key2V a' m' b' l')).run Tryd.prog w = .ok r (w.drewN n) ∧ ((a = a' ∧ m = m' ∧ b = b' ∧ l = l') → r = true) ∧
      (PlainA w a → PlainA w a' → (r = true → a = a' ∧ m = m')) ∧ (PlainA w b → PlainA w b' → (r = true → b = b' ∧ l = l')) := by
  obtain ⟨i, hi⟩ := list_info
  unfold key2V
  rw [run_equalIn_array _ _ _ _ Tryd.underlying60 hi, list_cells]
  obtain ⟨r, n, h, h1, h2⟩ := run_eq_key d (m := m) (l := m') ha ha'
  have hbd : GoodA (w.drewN n) b := hb
  have hbd' : GoodA (w.drewN n) b' := hb'
  obtain ⟨r', n', h', h1', h2'⟩ := run_eq_key d (m := l) (l := l') hbd hbd'
  have hr2 : List.range 2 = [0, 1] := rfl
  simp only [hr2, Op.eqItems, Sem.run_bind, Nat.zero_mul, Nat.one_mul, (part_key a m b l w).1, (part_key a' m' b' l' w).1, Result.andThen_ok, h]
  cases r
  · exact ⟨false, n, by simp, fun e => absurd (h1 ⟨e.1, e.2.1⟩) (by decide), fun _ _ e => (by cases e), fun _ _ e => (by cases e)⟩
  · refine ⟨r', n + n', ?_, fun e => h1' e.2.2, fun p1 p2 _ => h2 p1 p2 rfl, fun p1 p2 e => h2' p1 p2 e⟩
    simp only [Bool.not_true, Bool.false_eq_true, if_false, Sem.run_bind, (part_key a m b l _).2, (part_key a' m' b' l' _).2, Result.andThen_ok, h']
    cases r' <;> simp
end Go.Proofs.YtmpcjcjacpjilaaDoor
