/- Maps of the program's tree: from names, and from steps. -/
import Derived.Test.YtldcfglkcifklaaShM
import Derived.Maps.OwnSet
import Derived.DeepKeys4
import Derived.ChangeKeysEq
namespace Go.Proofs.Ytldcfglkcifklaa
open Go.RowKit Go.Maps

theorem laidOutK : laidOutB Try.prog = true := by kernel_rfl
theorem keyedS : Keyed Try.prog 9 := string_keyed Try.underlying9
theorem keyedP : Keyed Try.prog 63 := Keyed.of_law (deep_law_laid laidOutK (m := 3) (by decide) (of_decide_eq_true (by kernel_rfl)) (by kernel_rfl) (by kernel_rfl))
abbrev stepV (s n : Nat) : Value := .agg #[.int .i64 s, .int .i64 n]
theorem step_key (s n : Nat) (hs : s < 1000000000) (hn : n < 1000000000) : keyOf Try.prog 63 (stepV s n) = some (.string (stepB s n)) := by
  have hkt : Try.prog.keyType 63 = true := by kernel_rfl
  have hu := Try.underlying63
  have c0 : Try.prog.cellsOf 63 = 2 := by kernel_rfl
  have c1 : Try.prog.cellsOf 3 = 1 := by kernel_rfl
  have hwf : (Lit.int .i64 (s : Int)).wf = true := WalkArith.wf_i64 (by omega)
  have hwn : (Lit.int .i64 (n : Int)).wf = true := WalkArith.wf_i64 (by omega)
  have hsz : 2 ≤ Try.prog.types.size := of_decide_eq_true (by kernel_rfl)
  obtain ⟨m, hm⟩ : ∃ m, Try.prog.types.size = m + 2 := ⟨_, (Nat.sub_add_cancel hsz).symm⟩
  unfold keyOf
  simp only [hu]
  rw [if_pos (by simp [hkt, Value.formed, hu, c0]), hm]
  unfold Program.keyLits
  simp only [hu, Value.cells]
  rw [if_pos (by rw [c0]; exact ⟨rfl, by kernel_rfl⟩)]
  simp [Program.keyLits, c1, Try.underlying3, hwf, hwn, stepB]
theorem step_inj : StepInj := by
  intro s n s' n' hs hn hs' hn' h
  have h1 := step_key s n hs hn
  have h2 := step_key s' n' hs' hn'
  rw [h] at h1
  have h3 := keyedP.inj h1 h2
  simp [stepV] at h3
  omega

def mapD : Num → DataW Unit
  | [] => .map []
  | p :: l => (mapD l).put (.string p.1) (.lit (.int .i64 p.2))
theorem mapD_is : ∀ l, IsMap (mapD l)
  | [] => isMap_empty
  | _ :: l => (mapD_is l).put _ _
theorem has_mapD (s : Bs) : ∀ l, Maps.has (mapD l) (.string s) = (look l s).isSome
  | [] => rfl
  | p :: l => by
    unfold look mapD
    by_cases h : p.1 = s
    · subst h
      rw [has_put_same (mapD_is l) (by exact True.intro)]
      simp
    · rw [has_put_other (by intro e; injection e with e; exact h e.symm), has_mapD s l]
      simp [h]
theorem atKey_mapD (s : Bs) : ∀ l, (mapD l).atKey (.string s) (.lit (.int .i64 0)) = .lit (.int .i64 (((look l s).getD 0 : Nat) : Int))
  | [] => rfl
  | p :: l => by
    unfold look mapD
    by_cases h : p.1 = s
    · subst h
      rw [atKey_put_same (mapD_is l) (by exact True.intro)]
      simp
    · rw [atKey_put_other (by intro e; injection e with e; exact h e.symm), atKey_mapD s l]
      simp [h]
/-- Block b is the map l, its keys of the type kt. -/
def NumG (kt : TypeId) (w : World) (b : Nat) (l : Num) : Prop := w.ownsMap (H := Unit) Try.prog kt (plainElem Try.prog 3) b l.length (mapD l)
section
variable {w w' : World} {b kt mt : Nat} {l : Num}
theorem numG_made (w : World) : NumG kt (w.alloc (.map #[] 0)) w.heap.size [] := World.ownsMap_made _ _ _ _
theorem NumG.block (h : NumG kt w b l) (hb : w'.heap[b]? = w.heap[b]?) : NumG kt w' b l := by
  obtain ⟨es, ck, h1, h2⟩ := h
  exact ⟨es, ck, hb.trans h1, h2⟩
theorem NumG.lt (h : NumG kt w b l) : b < w.heap.size := World.ownsMap.lt h
theorem NumG.ch {S : Nat → Prop} (h : NumG kt w b l) (hc : Ch S w w') (hs : ¬ S b) : NumG kt w' b l := h.block (hc.keep b h.lt hs)
theorem numG_look (h : NumG kt w b l) (hk : Keyed Try.prog kt) (hm : Try.prog.underlying mt = some (.map kt 3)) {v : Value} {s : Bs} (hv : keyOf Try.prog kt v = some (.string s)) : (Instr.lookup mt (.map (some b)) v true).run Try.prog w = .ok (.tuple #[.int .i64 (((look l s).getD 0 : Nat) : Int), .bool (look l s).isSome]) w := by
  obtain ⟨v, ps, hrun, hv⟩ := World.ownsMap.look_ok h hk hm (Try.zeroValue3 w) (zd := .lit (.int .i64 0)) (zp := []) (plainElem_int Try.underlying3 (by decide)) hv
  rw [atKey_mapD] at hv
  obtain ⟨c, rfl, hc, _⟩ := plainElem_int_inv Try.underlying3 hv
  rw [hrun, has_mapD, (Lit.int.inj (DataW.lit.inj (Prod.mk.inj hc).1)).2]
theorem numG_put (h : NumG kt w b l) (hk : Keyed Try.prog kt) (hm : Try.prog.underlying mt = some (.map kt 3)) (hn : l.length < 1000000000000) {v : Value} {s : Bs} (hv : keyOf Try.prog kt v = some (.string s)) (i : Nat) (hi : i < 1000000000000) : ∃ w', (Instr.mapUpdate mt (.map (some b)) v (.int .i64 i)).run Try.prog w = .ok () w' ∧ NumG kt w' b ((s, i) :: l) ∧ w.grownBy w' (some b) := by
  obtain ⟨w', h1, h2, h3⟩ := World.ownsMap.store h hk hm (by unfold maxLen; omega) hv (plainElem_int Try.underlying3 (WalkArith.wf_i64 (n := (i : Int)) (by omega)))
  exact ⟨w', h1, h2, h3.grown⟩
end
theorem key_str (S : ByteArray) (hS : S.size ≤ maxLen) : keyOf Try.prog 9 (.string S) = some (.string S.data.toList) := Go.WideMaps.keyOf_string_mk Try.underlying9 hS
theorem bs_inj {S S' : ByteArray} (h : S.data.toList = S'.data.toList) : S = S' := by
  cases S; cases S'
  simp at h
  rw [h]
/-- The map from names to their numbers. -/
def NamesM (w : World) (b : Nat) (NL : List ByteArray) : Prop := ∃ l, NumG 9 w b l ∧ l.length = NL.length ∧ ∀ S : ByteArray, look l S.data.toList = slotV NL S
section
variable {w w' : World} {b : Nat} {NL : List ByteArray} {S : ByteArray}
theorem NamesM.ch {Q : Nat → Prop} (h : NamesM w b NL) (hc : Ch Q w w') (hs : ¬ Q b) : NamesM w' b NL := by
  obtain ⟨l, h1, h2⟩ := h
  exact ⟨l, h1.ch hc hs, h2⟩
theorem NamesM.lt (h : NamesM w b NL) : b < w.heap.size := by
  obtain ⟨l, h1, h2⟩ := h
  exact h1.lt
theorem namesM_made (w : World) : NamesM (w.alloc (.map #[] 0)) w.heap.size [] := ⟨[], numG_made _, rfl, fun _ => rfl⟩
theorem NamesM.look (h : NamesM w b NL) (hS : S.size ≤ maxLen) : (Instr.lookup 47 (.map (some b)) (.string S) true).run Try.prog w = .ok (.tuple #[.int .i64 (((slotV NL S).getD 0 : Nat) : Int), .bool (slotV NL S).isSome]) w := by
  obtain ⟨l, h1, h2, h3⟩ := h
  rw [← h3]
  exact numG_look h1 keyedS Try.underlying47 (key_str S hS)
theorem NamesM.put (h : NamesM w b NL) (hS : S.size ≤ maxLen) (hn : NL.length < 1000000000) (hx : S ∉ NL) : ∃ w', (Instr.mapUpdate 47 (.map (some b)) (.string S) (.int .i64 NL.length)).run Try.prog w = .ok () w' ∧ NamesM w' b (NL ++ [S]) ∧ w.grownBy w' (some b) := by
  obtain ⟨l, h1, h2, h3⟩ := h
  obtain ⟨w', g1, g2, g3⟩ := numG_put h1 keyedS Try.underlying47 (by omega) (key_str S hS) NL.length (by omega)
  refine ⟨w', g1, ⟨_, g2, by simp [h2], fun S' => ?_⟩, g3⟩
  rw [slotV_snoc]
  unfold Go.Proofs.Ytldcfglkcifklaa.look
  by_cases e : S = S'
  · subst e
    rw [if_pos rfl, slotV_notin hx, if_pos rfl]
  · rw [if_neg (fun h => e (bs_inj h)), h3, if_neg e]
    cases slotV NL S' <;> rfl
end
section
variable {P : Program} {w : World} {ops : Array Oper} {rest : List Oper} {o : Oper} {a : Act} {Q : Exit → Act → World → Prop}
theorem wpList_lookK (hg : o.guard = none) (m x : Operand) (mt : TypeId) (hop : o.op = Op.lookup mt m x true) (b : Nat) (v u : Value) (hm : a.eval m = .map (some b)) (hx : a.eval x = v)
    (hrun : (Instr.lookup mt (.map (some b)) v true).run P w = .ok u w) (hK : wpList P ops Q rest (a.put o.dst u) w) : wpList P ops Q (o :: rest) a w := by
  refine wpList_plain hg fun K' hK' => ?_
  unfold Oper.wp
  simp [execOp, hop, hm, hx, hrun, Result.andThen]
  exact hK' _ _ hK
theorem wpList_putK (hg : o.guard = none) (m x v : Operand) (mt : TypeId) (hop : o.op = Op.mapUpdate mt m x v) (b : Nat) (k u : Value) (hm : a.eval m = .map (some b)) (hx : a.eval x = k) (hv : a.eval v = u) (w' : World)
    (hrun : (Instr.mapUpdate mt (.map (some b)) k u).run P w = .ok () w') (hK : wpList P ops Q rest (a.put o.dst undef) w') : wpList P ops Q (o :: rest) a w := by
  refine wpList_plain hg fun K' hK' => ?_
  unfold Oper.wp
  simp [execOp, hop, hm, hx, hv, hrun, Result.andThen]
  exact hK' _ _ hK
theorem step_lookK {K : Act → World → Prop} {E : Prop} (hg : o.guard = none) (m x : Operand) (mt : TypeId) (hop : o.op = Op.lookup mt m x true) (b : Nat) (v u : Value) (hm : a.eval m = .map (some b)) (hx : a.eval x = v)
    (hrun : (Instr.lookup mt (.map (some b)) v true).run P w = .ok u w) (hK : K (a.put o.dst u) w) : if Region.wanted o (yielded ops a.tmps) = true then Oper.wp P o a w K Q else E := by
  have hw : Region.wanted o (yielded ops a.tmps) = true := by simp [Region.wanted, hg]
  rw [if_pos hw]
  unfold Oper.wp
  simp [execOp, hop, hm, hx, hrun, Result.andThen]
  exact hK
theorem step_putK {K : Act → World → Prop} {E : Prop} (hg : o.guard = none) (m x v : Operand) (mt : TypeId) (hop : o.op = Op.mapUpdate mt m x v) (b : Nat) (k u : Value) (hm : a.eval m = .map (some b)) (hx : a.eval x = k) (hv : a.eval v = u) (w' : World)
    (hrun : (Instr.mapUpdate mt (.map (some b)) k u).run P w = .ok () w') (hK : K (a.put o.dst undef) w') : if Region.wanted o (yielded ops a.tmps) = true then Oper.wp P o a w K Q else E := by
  have hw : Region.wanted o (yielded ops a.tmps) = true := by simp [Region.wanted, hg]
  rw [if_pos hw]
  unfold Oper.wp
  simp [execOp, hop, hm, hx, hv, hrun, Result.andThen]
  exact hK
end
end Go.Proofs.Ytldcfglkcifklaa
