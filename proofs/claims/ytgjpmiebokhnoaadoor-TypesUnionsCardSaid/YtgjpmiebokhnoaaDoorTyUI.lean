/- A union under way, member by member; and which members it holds in the end. -/
import Derived.Test.YtgjpmiebokhnoaaDoorTyNrW
import Derived.Test.YtgjpmiebokhnoaaDoorTyMore
import Derived.Deep.RegionLaw
namespace Go.Proofs.YtgjpmiebokhnoaaDoor
open Go.RowKit

/-- append to a row of one's own, as one step of a region that draws. -/
theorem step_append_own {P : Program} {ops : Array Oper} {o : Oper} {a : Act} {w : World} {K : Act → World → Prop} {Q : Exit → Act → World → Prop} {E : Prop}
    (hg : o.guard = none) (s x : Operand) (t : TypeId) (hop : o.op = Op.call { callee := Callee.builtin Builtin.append, args := #[s, x], argTypes := #[t, t] })
    (base : Nat) (e : TypeId) (i : TypeInfo) (z : Value) (size bytes : Nat) (ht : P.underlying t = some (.slice e)) (hi : P.info? e = some i) (hz : i.zero = some z)
    (hsize : i.size = size) (hby : i.bytes = bytes) (hzs : z.cells.size = size) (hsz : 0 < size)
    (v : Value) (n : Nat) (xs : List Value) (hs : a.eval s = v) (hown : w.ownsRow base e size v n xs)
    (ad : Addr) (m c : Nat) (news : List Value) (hx : a.eval x = .slice (some ad) m c) (hl : news.length = m * size) (hnews : ∀ j u, news[j]? = some u → w.cell? (ad.add j) = some u) (h1 : ∀ u ∈ news, u.oneCell' = true)
    (h63 : n + m ≤ maxLen) (hbytes : (n + m) * bytes ≤ 140737488355328) (hbase : base ≤ w.heap.size)
    (hK : ∀ v' w', w'.ownsRow base e size v' (n + m) (xs ++ news) → w.grownBy w' v.ownBlock → K (a.put o.dst v') w') :
    if Region.wanted o (yielded ops a.tmps) = true then Oper.wp P o a w K Q else E := by
  have hw : Region.wanted o (yielded ops a.tmps) = true := by simp [Region.wanted, hg]
  rw [if_pos hw]
  obtain ⟨v', w', hr, h2, h3, _, _⟩ := run_append_own_at (P := P) w base t o.type e i z size bytes ht hi hz hsize hby hzs hsz v n xs hown ad m c news hl hnews h1 h63 hbytes hbase
  unfold Oper.wp
  simp [execOp, hop, resolve, invoke, builtin, hs, hx, hr, Result.andThen]
  exact hK v' w' h2 h3

structure UI (wo wx : World) (cl : List Cells) (v : Value) : Prop where
  bl : Below wo.heap.size wo wx
  hx : wx.heap[wo.heap.size]? = some (.cells #[.int .i64 7, .string ⟨#[]⟩, .slice none 0 0, v] 25)
  ow : wx.ownsRow (wo.heap.size + 1) 25 4 v cl.length (cl.flatMap Cells.list)

theorem UI.lt {wo wx : World} {cl : List Cells} {v : Value} (h : UI wo wx cl v) : wo.heap.size < wx.heap.size := lt_of_block h.hx

theorem UI.grow {wo wx wx' : World} {cl : List Cells} {v : Value} (h : UI wo wx cl v) (hb : Below wx.heap.size wx wx') : UI wo wx' cl v where
  bl := below_next h.bl hb
  hx := (hb.block _ h.lt).trans h.hx
  ow := h.ow.kept ⟨hb.os, hb.tape, hb.output, hb.size, fun k hk _ => hb.block k hk⟩ (row := none) (by cases v.ownBlock <;> simp)

theorem UI.kept {wo wx w4 : World} {cl : List Cells} {v : Value} (h : UI wo wx cl v) (hg : wx.grownBy w4 v.ownBlock) : w4.heap[wo.heap.size]? = some (.cells #[.int .i64 7, .string ⟨#[]⟩, .slice none 0 0, v] 25) :=
  (hg.block _ h.lt (fun e => by have := (h.ow.lt _ e.symm).1; omega)).trans h.hx

theorem UI.put {wo wx w4 : World} {cl : List Cells} {v v' : Value} {c : Cells} (h : UI wo wx cl v) (hg : wx.grownBy w4 v.ownBlock) (ho : w4.ownsRow (wo.heap.size + 1) 25 4 v' (cl.length + 1) (cl.flatMap Cells.list ++ c.list)) :
    UI wo (w4.setCell ⟨wo.heap.size, 3, none⟩ v') (cl ++ [c]) v' := by
  have hlt := h.lt
  refine ⟨?_, cells_setCell (h.kept hg), ?_⟩
  · refine Below.setCell (p := ⟨wo.heap.size, 3, none⟩) ?_ (Nat.le_refl _) _
    exact h.bl.grown hg h.bl.size fun q e => by have := (h.ow.lt _ e).1; omega
  · have := ownsRow_setCell_below ho (a := ⟨wo.heap.size, 3, none⟩) (Nat.lt_succ_self _) v'
    simpa using this

/-- Which member stands where. -/
def turnL (M : List Ty) (c m : Nat) : List Ty := (List.range m).map fun i => M.getD ((i + c) % M.length) (mkT 0 [] [] [])

theorem turn_in {M : List Ty} {c m : Nat} (h : 0 < M.length) : ∀ x ∈ turnL M c m, x ∈ M := by
  intro x hx
  obtain ⟨i, _, rfl⟩ := List.mem_map.1 hx
  have := Nat.mod_lt (i + c) h
  rw [List.getD_eq_getElem?_getD, List.getElem?_eq_getElem this]
  exact List.getElem_mem _

theorem turn_all {M : List Ty} {c m : Nat} (hm : M.length ≤ m) : ∀ x ∈ M, x ∈ turnL M c m := by
  intro x hx
  obtain ⟨j, hj, rfl⟩ := List.mem_iff_getElem.1 hx
  refine List.mem_map.2 ⟨(j + M.length - c % M.length) % M.length, List.mem_range.2 ?_, ?_⟩
  · have := Nat.mod_lt (j + M.length - c % M.length) (show 0 < M.length by omega)
    omega
  · have hc := Nat.mod_lt c (show 0 < M.length by omega)
    have h1 : ((j + M.length - c % M.length) % M.length + c) % M.length = j := by
      rw [Nat.mod_add_mod]
      have h2 : j + M.length - c % M.length + c = j + M.length * (1 + c / M.length) := by
        have h3 := Nat.div_add_mod c M.length
        have h4 : M.length * (1 + c / M.length) = M.length + M.length * (c / M.length) := by rw [Nat.mul_add, Nat.mul_one]
        omega
      rw [h2, Nat.add_mul_mod_self_left, Nat.mod_eq_of_lt hj]
    show M.getD _ _ = _
    rw [h1, List.getD_eq_getElem?_getD, List.getElem?_eq_getElem hj]
    rfl

theorem turn_at (M : List Ty) (c m i : Nat) (h : i < (turnL M c m).length) (hk : (i + c) % M.length < M.length) : (turnL M c m)[i] = M[(i + c) % M.length] := by
  have h2 : (turnL M c m)[i]? = some M[(i + c) % M.length] := by
    have hi : i < m := by simpa [turnL] using h
    unfold turnL
    rw [List.getElem?_map, List.getElem?_range hi, Option.map_some, List.getD_eq_getElem?_getD, List.getElem?_eq_getElem hk]
    rfl
  exact (List.getElem?_eq_some_iff.1 h2).2

theorem turn_len (M : List Ty) (c m : Nat) : (turnL M c m).length = m := by simp [turnL]

/-- The index, as Go reckons it. -/
theorem turn_index {j K : Nat} {c0 : Int} (h : -6 ≤ c0) : ((j : Int) + c0 + 7).tmod (K : Int) = (((j + (c0 + 7).toNat) % K : Nat) : Int) := by
  have e : (j : Int) + c0 + 7 = ((j + (c0 + 7).toNat : Nat) : Int) := by omega
  rw [e]
  exact (Int.ofNat_tmod _ _).symm
end Go.Proofs.YtgjpmiebokhnoaaDoor
