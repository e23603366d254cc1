/- slices.Clone of a type's names, and of its kids, by contracts. -/
import Derived.Test.YtmpcjcjacpjilaaDoorTyNp
import Derived.Test.YtmpcjcjacpjilaaDoorLib3
namespace Go.Proofs.YtmpcjcjacpjilaaDoor
open Go.RowKit Go.Shelf

theorem cloneN_c (na : Option Addr) (nc : Nat) (ns : List (List UInt8)) (w : World) (h : NamesAt w na ns) (hl : ns.length ≤ 1000000) :
    Calls Tryd.prog 39 #[.slice na ns.length nc] w fun e w' => ∃ na' nc', e = .returned (.slice na' ns.length nc') ∧ ns.length ≤ nc' ∧ NamesF w' w.heap.size na' ns ∧ Below w.heap.size w w' := by
  rcases h with rfl | ⟨b, o, rfl, hb, hc⟩
  · cases na with
    | none =>
      refine (Tryd.slices_Clone_string_nil 0 nc w).mono ?_
      rintro e w' ⟨rfl, rfl⟩
      exact ⟨none, 0, rfl, Nat.le_refl _, .inl rfl, Below.refl _ _⟩
    | some a =>
      refine (Tryd.slices_Clone_string_zero a nc w).mono ?_
      rintro e w' ⟨v', rfl, ho, _, hb⟩
      rcases ho.2 with ⟨rfl, _⟩ | ⟨g, cap, cur, rfl, _⟩
      · exact ⟨none, 0, rfl, Nat.le_refl _, .inl rfl, hb⟩
      · exact ⟨_, _, rfl, Nat.zero_le _, .inl rfl, hb⟩
  · have hm : ∀ j, j < (ns.map fun s => (⟨s.toArray⟩ : ByteArray)).length → w.cell? ⟨b, o + j, none⟩ = some (.string ((ns.map fun s => (⟨s.toArray⟩ : ByteArray)).getD j ByteArray.empty)) := fun j hj => by
      have hj' : j < ns.length := by simpa using hj
      rw [hc j hj']
      simp [hj']
    refine (Tryd.slices_Clone_string b o ns.length nc (ns.map fun s => (⟨s.toArray⟩ : ByteArray)) w (by simp) (by omega) hm).mono ?_
    rintro e w' ⟨v', rfl, ho, _, hbl⟩
    rcases ho.2 with ⟨rfl, h0⟩ | ⟨g, cap, cur, rfl, hg, hh, hcap, _⟩
    · exact ⟨none, 0, by rw [h0], by omega, .inl (List.length_eq_zero_iff.1 h0), hbl⟩
    · refine ⟨_, _, rfl, hcap, .inr ⟨g, 0, rfl, hg, lt_of_block hh, fun i hi => ?_⟩, hbl⟩
      have := ho.cells (g := g) rfl i (.string ⟨ns[i].toArray⟩) (by simp [hi])
      have hadd : (⟨g, 0, none⟩ : Addr).add i = ⟨g, 0 + i, none⟩ := by unfold Addr.add; split <;> simp_all
      rw [hadd] at this
      exact this

theorem ty_form0 {w : World} {u : Bool} {n : Nat} {v : Value} {D : Ty} (h : TyAt w u n v D) : ∃ (k : Int) (nm : ByteArray) (na : Option Addr) (nl nc : Nat) (ka : Option Addr) (kl kc : Nat), v = .agg #[.int .i64 k, .string nm, .slice na nl nc, .slice ka kl kc] ∧ kindT D = k := by
  cases n with
  | zero => exact h.elim
  | succ n =>
    obtain ⟨k, nm, na, nc, ka, kc, ns, ks, rfl, rfl, _⟩ := h
    exact ⟨_, _, _, _, _, _, _, _, rfl, rfl⟩

/-- The kids' cells. -/
theorem kids_cells {w : World} {n : Nat} {ka : Option Addr} {ks : List Ty} (h : KidsAt w false n ka ks) (hne : ks ≠ []) : ∃ b o, ka = some ⟨b, o, none⟩ ∧ ∃ cl : List Cells, cl.length = ks.length ∧ (∀ j u, (cl.flatMap Cells.list)[j]? = some u → w.cell? ⟨b, o + j, none⟩ = some u) ∧ ∀ i (h1 : i < cl.length) (h2 : i < ks.length), TyAt w false n cl[i].val ks[i] := by
  rcases h with h0 | ⟨b, o, e, _, _, _, hc⟩
  · exact absurd h0 hne
  · refine ⟨b, o, e, ?_⟩
    have hg : ∀ i, ∃ c : Cells, ∀ h : i < ks.length, (∀ j, j < 4 → w.cell? ⟨b, o + i * 4 + j, none⟩ = c.list[j]?) ∧ TyAt w false n c.val ks[i] := fun i => by
      by_cases hi : i < ks.length
      · obtain ⟨c0, c1, c2, c3, q0, q1, q2, q3, ht⟩ := hc i hi
        obtain ⟨k, nm, na, nl, nc, la, ll, lc, e, _⟩ := ty_form0 ht
        injection e with e
        injection e with e
        injection e with e0 e
        injection e with e1 e
        injection e with e2 e
        injection e with e3 _
        subst e0 e1 e2 e3
        refine ⟨(k, nm, na, nl, nc, la, ll, lc), fun _ => ⟨fun j hj => ?_, ht⟩⟩
        have : j = 0 ∨ j = 1 ∨ j = 2 ∨ j = 3 := by omega
        rcases this with rfl | rfl | rfl | rfl
        · exact q0
        · exact q1
        · exact q2
        · exact q3
      · exact ⟨(0, ⟨#[]⟩, none, 0, 0, none, 0, 0), fun h => absurd h hi⟩
    obtain ⟨f, hf⟩ := Classical.axiomOfChoice hg
    refine ⟨(List.range ks.length).map f, by simp, fun j u hj => ?_, fun i h1 h2 => ?_⟩
    · have hlen : ((List.range ks.length).map f).length = ks.length := by simp
      have h4 : (((List.range ks.length).map f).flatMap Cells.list).length = ks.length * 4 := by
        have : ∀ l : List Cells, (l.flatMap Cells.list).length = l.length * 4 := fun l => by
          induction l with
          | nil => rfl
          | cons c r ih => rw [List.flatMap_cons, List.length_append, ih]; simp [Cells.list]; omega
        rw [this, hlen]
      have hj4 : j < ks.length * 4 := by
        have := (List.getElem?_eq_some_iff.1 hj).1
        omega
      have hi : j / 4 < ks.length := by omega
      have hfl := cells_flat ((List.range ks.length).map f) (j / 4) (by omega) (j % 4) (Nat.mod_lt _ (by omega))
      rw [show j / 4 * 4 + j % 4 = j by omega, hj] at hfl
      have := (hf (j / 4) hi).1 (j % 4) (Nat.mod_lt _ (by omega))
      rw [show o + j / 4 * 4 + j % 4 = o + j by omega] at this
      rw [this, hfl]
      simp
    · rw [List.getElem_map, List.getElem_range]
      exact (hf i h2).2

set_option maxHeartbeats 2000000 in
set_option maxRecDepth 100000 in
theorem cloneK_zero (a : Addr) (c : Nat) (w : World) :
    Calls Tryd.prog 40 #[.slice (some a) 0 c] w fun e w' => ∃ v', e = .returned v' ∧ w'.ownsRow w.heap.size 25 4 v' 0 [] ∧ Below w.heap.size w w' := by
  obtain ⟨i0, hi, hz0, hz1, hz2⟩ := info_parts info_ty
  have q22 : ∀ (w : World) (a : Option Addr) (n c n' c' : Nat), (binOp .eql 23 (.slice a n c) (.slice none n' c')).run Tryd.prog w = .ok (.bool a.isNone) w := fun w a n c n' c' => Lib.run_eql_slice_nil w _ _ a n c n' c' Tryd.underlying23
  have u22 : ∀ w, Sem.run Tryd.prog (underlying 23) w = .ok (TypeDesc.slice 25) w := run_underlying Tryd.underlying23
  go_enter Tryd.func40, Tryd.ntmps40
  go_wp2_with (at_builtin; refine wpList_append_own _ rfl _ _ 23 rfl w.heap.size 25 i0 _ 4 72 Tryd.underlying23 hi hz0 hz1 hz2 rfl (by decide) _ _ _ rfl (World.ownsRow_made w #[] 0 (Nat.le_refl _) (Nat.zero_le _) rfl) a 0 c [] rfl rfl (by intro j u hj; simp at hj) (by intro u hu; cases hu) (by unfold maxLen; omega) (by omega) (by simp) ?_)
  intro v' w1 hown hgrow hnil
  go_wp2
  go_ret
  refine ⟨v', rfl, by simpa using hown, ?_⟩
  exact ((Below.refl _ w).alloc (Nat.le_refl _) _).grown hgrow (by simp) (by intro k hk; simp [Value.ownBlock] at hk; omega)

/-- slices.Clone of kids: a row of the call's own with the same cells. -/
theorem cloneK_c (n : Nat) (ka : Option Addr) (kc : Nat) (ks : List Ty) (w0 w : World) (h : KidsAt w0 false n ka ks) (hb0 : Below w0.heap.size w0 w) (hl : ks.length ≤ 1000000) :
    Calls Tryd.prog 40 #[.slice ka ks.length kc] w fun e w' => ∃ (v' : Value) (cl : List Cells), e = .returned v' ∧ cl.length = ks.length ∧ w'.ownsRow w.heap.size 25 4 v' ks.length (cl.flatMap Cells.list) ∧ (∀ i (h1 : i < cl.length) (h2 : i < ks.length), TyAt w0 false n cl[i].val ks[i]) ∧ Below w.heap.size w w' := by
  obtain ⟨i0, hi, hz0, hz1, hz2⟩ := info_parts info_ty
  by_cases hne : ks = []
  · subst hne
    cases ka with
    | none =>
      refine (AnyE.slices_Clone_nil Tryd.laysClone 0 kc w).mono ?_
      rintro e w' ⟨rfl, rfl⟩
      exact ⟨_, [], rfl, rfl, World.ownsRow_nil .., fun i h1 => absurd h1 (Nat.not_lt_zero _), Below.refl _ _⟩
    | some a =>
      refine (cloneK_zero a kc w).mono ?_
      rintro e w' ⟨v', rfl, ho, hb⟩
      exact ⟨v', [], rfl, rfl, ho, fun i h1 => absurd h1 (Nat.not_lt_zero _), hb⟩
  · obtain ⟨b, o, rfl, cl, hcl, hcc, hct⟩ := kids_cells h hne
    refine (AnyE.slices_Clone Tryd.laysClone i0 _ 4 72 hi hz0 hz1 hz2 rfl (by decide) (by intro w; exact Tryd.sizeOf25 w) b o ks.length kc (cl.flatMap Cells.list) w ?_ (by unfold maxLen; omega) (by omega) (fun j u hj => (hb0.cell (p := ⟨b, o + j, none⟩) (World.block_lt_of_cell? w0 _ (hcc j u hj))).trans (hcc j u hj)) ?_).mono ?_
    · have : ∀ l : List Cells, (l.flatMap Cells.list).length = l.length * 4 := fun l => by
        induction l with
        | nil => rfl
        | cons c r ih => rw [List.flatMap_cons, List.length_append, ih]; simp [Cells.list]; omega
      rw [this, hcl]
    · intro u hu
      obtain ⟨c, _, hc⟩ := List.mem_flatMap.1 hu
      simp [Cells.list] at hc
      rcases hc with rfl | rfl | rfl | rfl <;> rfl
    · rintro e w' ⟨v', rfl, ho, _, hb⟩
      exact ⟨v', cl, rfl, hcl, ho, hct, hb⟩
end Go.Proofs.YtmpcjcjacpjilaaDoor
