/- What the small seats share: which blocks have turned, rows of texts, boxes. -/
import Derived.Test.YtcpmdbdppdnkkaaProg
import Derived.WalkKit
import Derived.KernelRfl
import Derived.Below
import Derived.OneCell
import Derived.OwnWalk
import Derived.Deep.WholeRow
import Derived.Maps.AppendAt
import Derived.Laws.AppendOwnNone
import Derived.LoopTactic
import Derived.RegionTactic
import Derived.BigQuiet
import Derived.Deep.QuietTactic
import Derived.Deep.RegionHeld
import Derived.Deep.RegionWith
import Derived.Deep.RegionLaw
import Derived.Deep.RegionHeldLaw
import Derived.Laws.OwnMore
namespace Go.Proofs.Ytcpmdbdppdnkkaa
open Go.RowKit

theorem hideP {p : Prop} (h : p) : Hid p := h
theorem ret_i64 {x y : Int} (h : x = y) : Ending.returned (.int .i64 x) = .returned (.int .i64 y) := by rw [h]
theorem ret_bool {x y : Bool} (h : x = y) : Ending.returned (.bool x) = .returned (.bool y) := by rw [h]
theorem size_set (w : World) (a : Addr) (u : Value) : (w.setCell a u).heap.size = w.heap.size := by simp [World.setCell]
theorem str_dec (s t : ByteArray) : (s.toList == t.toList) = decide (s = t) := by
  rw [ByteArray.toList_eq, ByteArray.toList_eq, Bool.eq_iff_iff, beq_iff_eq, decide_eq_true_iff]
  constructor
  · intro h
    cases s; cases t
    simp at h
    rw [h]
  · rintro rfl; rfl
theorem str_dec' (s t : ByteArray) : (s.toList != t.toList) = !decide (s = t) := by rw [bne, str_dec]
theorem cells_setCell {w : World} {b o : Nat} {cs : Array Value} {u : Value} {t : TypeId} {fr : Nat × Nat} (h : w.heap[b]? = some (.cells cs t fr)) : (w.setCell ⟨b, o, none⟩ u).heap[b]? = some (.cells (cs.setIfInBounds o u) t fr) := by
  simp [World.setCell, Array.getElem?_modify, h]
theorem add0 (b o j : Nat) : (⟨b, o, none⟩ : Addr).add j = ⟨b, o + j, none⟩ := by unfold Addr.add; split <;> simp_all
theorem cells_newK (W : World) (c : List Value) (t : TypeId) : ∀ j u, c[j]? = some u → (W.alloc (.cells c.toArray t)).cell? ((⟨W.heap.size, 0, none⟩ : Addr).add j) = some u := by
  intro j u hj
  rw [add0, Nat.zero_add, cell_of_row _ _ j _ t (0, 0) (heap_alloc_last W _)]
  simpa using hj
theorem row_shape {w : World} {B et n z : Nat} {v : Value} {ys : List Value} (h : w.ownsRow B et z v n ys) : ∃ a cap, v = .slice a n cap := by
  rcases h.2 with ⟨h1, h2⟩ | ⟨g, cap, cur, h1, _⟩
  · exact ⟨none, 0, by rw [h1, h2]⟩
  · exact ⟨_, _, h1⟩

/-- Of the old blocks those of S alone may have turned. -/
structure Ch (S : Nat → Prop) (w w' : World) : Prop where
  os : w'.os = w.os
  tape : w'.tape = w.tape
  output : w'.output = w.output
  size : w.heap.size ≤ w'.heap.size
  keep : ∀ b, b < w.heap.size → ¬ S b → w'.heap[b]? = w.heap[b]?
section
variable {S S' : Nat → Prop} {w w1 w2 : World}
theorem Ch.refl (S : Nat → Prop) (w : World) : Ch S w w := ⟨rfl, rfl, rfl, Nat.le_refl _, fun _ _ _ => rfl⟩
theorem Ch.trans (h : Ch S w w1) (k : Ch S' w1 w2) (hs : ∀ b, b < w.heap.size → S' b → S b) : Ch S w w2 :=
  ⟨k.os.trans h.os, k.tape.trans h.tape, k.output.trans h.output, Nat.le_trans h.size k.size, fun b hb hn => (k.keep b (Nat.lt_of_lt_of_le hb h.size) fun e => hn (hs b hb e)).trans (h.keep b hb hn)⟩
theorem Ch.mono (h : Ch S w w1) (hs : ∀ b, b < w.heap.size → S b → S' b) : Ch S' w w1 := ⟨h.os, h.tape, h.output, h.size, fun b hb hn => h.keep b hb fun e => hn (hs b hb e)⟩
theorem Ch.alloc (h : Ch S w w1) (o : Obj) : Ch S w (w1.alloc o) := ⟨h.os, h.tape, h.output, by rw [World.size_alloc]; have := h.size; omega, fun b hb hn => (Below.heap_alloc _ _ _ (Nat.lt_of_lt_of_le hb h.size)).trans (h.keep b hb hn)⟩
theorem Ch.drew (h : Ch S w w1) : Ch S w w1.drew := ⟨h.os, h.tape, h.output, h.size, h.keep⟩
theorem Ch.drewN (h : Ch S w w1) (n : Nat) : Ch S w (w1.drewN n) := ⟨h.os, h.tape, h.output, h.size, h.keep⟩
theorem Ch.set (h : Ch S w w1) {b : Nat} (hS : b < w.heap.size → S b) (o : Nat) (u : Value) : Ch S w (w1.setCell ⟨b, o, none⟩ u) :=
  ⟨h.os, h.tape, h.output, by rw [size_set]; exact h.size, fun c hc hn => (Below.heap_setCell _ _ _ _ (by show c ≠ b; rintro rfl; exact hn (hS hc))).trans (h.keep c hc hn)⟩
theorem Ch.grown (h : Ch S w w1) {g : Option Nat} (hg : w1.grownBy w2 g) (hr : ∀ q, g = some q → q < w.heap.size → S q) : Ch S w w2 :=
  ⟨hg.os.trans h.os, hg.tape.trans h.tape, hg.output.trans h.output, Nat.le_trans h.size hg.size, fun c hc hn => (hg.block c (Nat.lt_of_lt_of_le hc h.size) fun e => hn (hr c e.symm hc)).trans (h.keep c hc hn)⟩
theorem Ch.of (h : Below w.heap.size w w1) : Ch S w w1 := ⟨h.os, h.tape, h.output, h.size, fun b hb _ => h.block b hb⟩
theorem Ch.below {B : Nat} (h : Ch S w w1) (hB : B ≤ w.heap.size) (hs : ∀ b, S b → B ≤ b) : Below B w w1 := ⟨h.os, h.tape, h.output, h.size, fun b hb => h.keep b (Nat.lt_of_lt_of_le hb hB) fun e => by have := hs b e; omega⟩
theorem Ch.below' (h : Ch S w w1) (hs : ∀ b, b < w.heap.size → ¬ S b) : Below w.heap.size w w1 := ⟨h.os, h.tape, h.output, h.size, fun b hb => h.keep b hb (hs b hb)⟩
theorem Ch.obj (h : Ch S w w1) {b : Nat} {o : Obj} (ho : w.heap[b]? = some o) (hb : ¬ S b) : w1.heap[b]? = some o := (h.keep b (lt_of_block ho) hb).trans ho
theorem Ch.cell (h : Ch S w w1) {a : Addr} {u : Value} (ho : w.cell? a = some u) (hb : ¬ S a.block) : w1.cell? a = some u := (World.cell?_of_block (h.keep a.block (World.block_lt_of_cell? w a ho) hb)).trans ho
theorem Ch.row (h : Ch S w w1) {base et k n : Nat} {v : Value} {xs : List Value} (ho : w.ownsRow base et k v n xs) (hv : ∀ q, v.ownBlock = some q → ¬ S q) : w1.ownsRow base et k v n xs := by
  refine ⟨ho.1, ?_⟩
  rcases ho.2 with h2 | ⟨g, cap, cur, e, hg, hh, r⟩
  · exact .inl h2
  · exact .inr ⟨g, cap, cur, e, hg, (h.keep g (lt_of_block hh) (hv g (by rw [e]; rfl))).trans hh, r⟩
end

/-- A row of texts, in blocks of F. -/
def StrV (F : Nat → Prop) (w : World) (v : Value) (ns : List ByteArray) : Prop :=
  (∃ ao cap, v = .slice ao 0 cap ∧ ns = [] ∧ (ao = none → cap = 0)) ∨ ∃ b o cap, v = .slice (some ⟨b, o, none⟩) ns.length cap ∧ F b ∧ b < w.heap.size ∧ ∀ i (h : i < ns.length), w.cell? ⟨b, o + i, none⟩ = some (.string ns[i])
section
variable {F F' S : Nat → Prop} {w w' : World} {v : Value} {ns : List ByteArray}
theorem StrV.ch (h : StrV F w v ns) (hc : Ch S w w') (hs : ∀ b, F b → b < w.heap.size → ¬ S b) : StrV F w' v ns := by
  rcases h with h | ⟨b, o, cap, e, hf, hl, h⟩
  · exact .inl h
  · exact .inr ⟨b, o, cap, e, hf, Nat.lt_of_lt_of_le hl hc.size, fun i hi => hc.cell (h i hi) (hs b hf hl)⟩
theorem StrV.mono (h : StrV F w v ns) (hf : ∀ b, b < w.heap.size → F b → F' b) : StrV F' w v ns := by
  rcases h with h | ⟨b, o, cap, e, hb, hl, h⟩
  · exact .inl h
  · exact .inr ⟨b, o, cap, e, hf b hl hb, hl, h⟩
theorem strV_nil (F : Nat → Prop) (w : World) : StrV F w (.slice none 0 0) [] := .inl ⟨none, 0, rfl, rfl, fun _ => rfl⟩
theorem StrV.form (h : StrV F w v ns) : ∃ ao cap, v = .slice ao ns.length cap ∧ (ao = none → ns.length = 0 ∧ cap = 0) ∧ (∀ ad, ao = some ad → ∀ j u, (ns.map Value.string)[j]? = some u → w.cell? (ad.add j) = some u) ∧
    ∀ i (hi : i < ns.length), ∃ b o, ao = some ⟨b, o, none⟩ ∧ b < w.heap.size ∧ F b ∧ w.cell? ⟨b, o + i, none⟩ = some (.string ns[i]) := by
  rcases h with ⟨ao, cap, rfl, rfl, h⟩ | ⟨b, o, cap, rfl, hf, hl, h⟩
  · exact ⟨ao, cap, rfl, fun e => ⟨rfl, h e⟩, fun _ _ _ _ h => by simp at h, fun i hi => absurd hi (Nat.not_lt_zero _)⟩
  · refine ⟨_, cap, rfl, fun e => (by cases e), fun ad e j u hj => ?_, fun i hi => ⟨b, o, rfl, hl, hf, h i hi⟩⟩
    injection e with e
    subst e
    rw [add0]
    rw [List.getElem?_map, Option.map_eq_some_iff] at hj
    obtain ⟨s, hs, rfl⟩ := hj
    obtain ⟨hi, rfl⟩ := List.getElem?_eq_some_iff.1 hs
    exact h j hi
/-- A row of one's own is one. -/
theorem strV_own {B : Nat} (h : w.ownsRow B 9 1 v ns.length (ns.map Value.string)) (hf : ∀ q, v.ownBlock = some q → F q) : StrV F w v ns := by
  have hh := h
  rcases h.2 with ⟨rfl, h0⟩ | ⟨g, cap, cur, rfl, hg, hb, _⟩
  · exact .inl ⟨none, 0, rfl, List.length_eq_zero_iff.1 h0, fun _ => rfl⟩
  · refine .inr ⟨g, 0, cap, rfl, hf g rfl, lt_of_block hb, fun i hi => ?_⟩
    rw [Nat.zero_add, hh.cellAt i (by omega), List.getElem?_map, List.getElem?_eq_getElem hi]
    rfl
end
theorem one_strs (ns : List ByteArray) : ∀ u ∈ ns.map Value.string, u.oneCell' = true := fun u hu => by
  obtain ⟨s, _, rfl⟩ := List.mem_map.1 hu
  rfl
theorem wpList_append_anyK {P : Program} (w : World) {ops : Array Oper} {rest : List Oper} {o : Oper} {a : Act} {Q : Exit → Act → World → Prop} (hgd : o.guard = none) (s x : Operand) (t : TypeId)
    (ho : o.op = .call { callee := .builtin .append, args := #[s, x], argTypes := #[t, t] })
    (base : Nat) (e : TypeId) (i : TypeInfo) (z : Value) (size bytes : Nat) (ht : P.underlying t = some (.slice e)) (hi : P.info? e = some i) (hz : i.zero = some z)
    (hsize : i.size = size) (hby : i.bytes = bytes) (hzs : z.cells.size = size) (hsz : 0 < size)
    (v : Value) (n : Nat) (xs : List Value) (hs : a.eval s = v) (hown : w.ownsRow base e size v n xs)
    (ao : Option Addr) (m c : Nat) (news : List Value) (hx : a.eval x = .slice ao m c) (hl : news.length = m * size) (hnone : ao = none → m = 0 ∧ c = 0) (hnews : ∀ ad, ao = some ad → ∀ j u, news[j]? = some u → w.cell? (ad.add j) = some u) (h1 : ∀ u ∈ news, u.oneCell' = true)
    (h63 : n + m ≤ maxLen) (hbytes : (n + m) * bytes ≤ 140737488355328) (hbase : base ≤ w.heap.size)
    (h : ∀ v' w', w'.ownsRow base e size v' (n + m) (xs ++ news) → w.grownBy w' v.ownBlock → (v'.ownBlock = v.ownBlock ∨ v'.ownBlock = some w.heap.size) → wpList P ops Q rest (a.put o.dst v') w') : wpList P ops Q (o :: rest) a w := by
  cases ao with
  | some ad => exact wpList_append_own_at w hgd s x t ho base e i z size bytes ht hi hz hsize hby hzs hsz v n xs hs hown ad m c news hx hl (hnews ad rfl) h1 h63 hbytes hbase (fun v' w' h2 h3 _ h5 => h v' w' h2 h3 h5)
  | none =>
    obtain ⟨rfl, rfl⟩ := hnone rfl
    obtain rfl : news = [] := List.eq_nil_of_length_eq_zero (by omega)
    refine wpList_append_own_none hgd s x t ho base e i size ht hi v n xs hs hown hx (h v w ?_ ⟨rfl, rfl, rfl, Nat.le_refl _, fun _ _ _ => rfl⟩ (.inl rfl))
    simpa using hown
theorem step_append_at {P : Program} {ops : Array Oper} {o : Oper} {a : Act} {w : World} {K : Act → World → Prop} {Q : Exit → Act → World → Prop} {E : Prop}
    (hg : o.guard = none) (s x : Operand) (t : TypeId) (hop : o.op = Op.call { callee := Callee.builtin Builtin.append, args := #[s, x], argTypes := #[t, t] })
    (base : Nat) (e : TypeId) (i : TypeInfo) (z : Value) (size bytes : Nat) (ht : P.underlying t = some (.slice e)) (hi : P.info? e = some i) (hz : i.zero = some z)
    (hsize : i.size = size) (hby : i.bytes = bytes) (hzs : z.cells.size = size) (hsz : 0 < size)
    (v : Value) (n : Nat) (xs : List Value) (hs : a.eval s = v) (hown : w.ownsRow base e size v n xs)
    (ad : Addr) (m c : Nat) (news : List Value) (hx : a.eval x = .slice (some ad) m c) (hl : news.length = m * size) (hnews : ∀ j u, news[j]? = some u → w.cell? (ad.add j) = some u) (h1 : ∀ u ∈ news, u.oneCell' = true)
    (h63 : n + m ≤ maxLen) (hbytes : (n + m) * bytes ≤ 140737488355328) (hbase : base ≤ w.heap.size)
    (hK : ∀ v' w', w'.ownsRow base e size v' (n + m) (xs ++ news) → w.grownBy w' v.ownBlock → (v'.ownBlock = v.ownBlock ∨ v'.ownBlock = some w.heap.size) → K (a.put o.dst v') w') :
    if Region.wanted o (yielded ops a.tmps) = true then Oper.wp P o a w K Q else E := by
  have hw : Region.wanted o (yielded ops a.tmps) = true := by simp [Region.wanted, hg]
  rw [if_pos hw]
  obtain ⟨v', w', hr, h2, h3, _, h5⟩ := run_append_own_at (P := P) w base t o.type e i z size bytes ht hi hz hsize hby hzs hsz v n xs hown ad m c news hl hnews h1 h63 hbytes hbase
  unfold Oper.wp
  simp [execOp, hop, resolve, invoke, builtin, hs, hx, hr, Result.andThen]
  exact hK v' w' h2 h3 h5
theorem step_append_anyK {P : Program} {ops : Array Oper} {o : Oper} {a : Act} {w : World} {K : Act → World → Prop} {Q : Exit → Act → World → Prop} {E : Prop}
    (hg : o.guard = none) (s x : Operand) (t : TypeId) (hop : o.op = Op.call { callee := Callee.builtin Builtin.append, args := #[s, x], argTypes := #[t, t] })
    (base : Nat) (e : TypeId) (i : TypeInfo) (z : Value) (size bytes : Nat) (ht : P.underlying t = some (.slice e)) (hi : P.info? e = some i) (hz : i.zero = some z)
    (hsize : i.size = size) (hby : i.bytes = bytes) (hzs : z.cells.size = size) (hsz : 0 < size)
    (v : Value) (n : Nat) (xs : List Value) (hs : a.eval s = v) (hown : w.ownsRow base e size v n xs)
    (ao : Option Addr) (m c : Nat) (news : List Value) (hx : a.eval x = .slice ao m c) (hl : news.length = m * size) (hnone : ao = none → m = 0 ∧ c = 0) (hnews : ∀ ad, ao = some ad → ∀ j u, news[j]? = some u → w.cell? (ad.add j) = some u) (h1 : ∀ u ∈ news, u.oneCell' = true)
    (h63 : n + m ≤ maxLen) (hbytes : (n + m) * bytes ≤ 140737488355328) (hbase : base ≤ w.heap.size)
    (hK : ∀ v' w', w'.ownsRow base e size v' (n + m) (xs ++ news) → w.grownBy w' v.ownBlock → (v'.ownBlock = v.ownBlock ∨ v'.ownBlock = some w.heap.size) → K (a.put o.dst v') w') :
    if Region.wanted o (yielded ops a.tmps) = true then Oper.wp P o a w K Q else E := by
  cases ao with
  | some ad => exact step_append_at hg s x t hop base e i z size bytes ht hi hz hsize hby hzs hsz v n xs hs hown ad m c news hx hl (hnews ad rfl) h1 h63 hbytes hbase hK
  | none =>
    obtain ⟨rfl, rfl⟩ := hnone rfl
    obtain rfl : news = [] := List.eq_nil_of_length_eq_zero (by omega)
    have hw : Region.wanted o (yielded ops a.tmps) = true := by simp [Region.wanted, hg]
    rw [if_pos hw]
    have hrun := run_append_owned_none (P := P) (w := w) base t o.type e i size ht hi v n xs hown
    unfold Oper.wp
    simp [execOp, hop, resolve, invoke, builtin, hs, hx, hrun, Result.andThen]
    exact hK v w (by simpa using hown) ⟨rfl, rfl, rfl, Nat.le_refl _, fun _ _ _ => rfl⟩ (.inl rfl)
theorem box1 {W : World} {b : Nat} {x0 : Value} {t : TypeId} (h : W.heap[b]? = some (.cells #[x0] t)) : W.cell? ⟨b, 0, none⟩ = some x0 ∧ W.frozen? ⟨b, 0, none⟩ = false ∧ b < W.heap.size := by
  refine ⟨?_, ?_, lt_of_block h⟩
  all_goals first | (rw [cell_of_row _ _ _ _ _ _ h]; rfl) | simp [World.frozen?, h]
theorem box2 {W : World} {b : Nat} {x0 x1 : Value} {t : TypeId} (h : W.heap[b]? = some (.cells #[x0, x1] t)) : (W.cell? ⟨b, 0, none⟩ = some x0 ∧ W.cell? ⟨b, 1, none⟩ = some x1) ∧ (W.frozen? ⟨b, 0, none⟩ = false ∧ W.frozen? ⟨b, 1, none⟩ = false) ∧ b < W.heap.size := by
  refine ⟨⟨?_, ?_⟩, ⟨?_, ?_⟩, lt_of_block h⟩
  all_goals first | (rw [cell_of_row _ _ _ _ _ _ h]; rfl) | simp [World.frozen?, h]
theorem info_str : (Try.prog.info? 9).map (fun i => (i.zero, i.size, i.bytes)) = some (some (.string ⟨#[]⟩), 1, 16) := by kernel_rfl
end Go.Proofs.Ytcpmdbdppdnkkaa
