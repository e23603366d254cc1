/- Few names and kids: of a normal type, of a type's members. -/
import Derived.Test.YtmpcjcjacpjilaaDoorTyCp0
import Derived.Test.YtmpcjcjacpjilaaDoorTyMore
namespace Go.Proofs.YtmpcjcjacpjilaaDoor

theorem rise_six {ks : List Ty} (hp : ks.Pairwise fun a b => kindT a < kindT b) (hk : ∀ x ∈ ks, 1 ≤ kindT x ∧ kindT x ≤ 6) : ks.length ≤ 6 := by
  have hp2 : (ks.map kindT).Pairwise (· < ·) := by rw [List.pairwise_map]; exact hp
  have hnd : (ks.map kindT).Nodup := hp2.imp fun h e => by omega
  have hsub : (ks.map kindT) ⊆ [1, 2, 3, 4, 5, 6] := fun z hz => by
    obtain ⟨x, hx1, rfl⟩ := List.mem_map.1 hz
    have := hk x hx1
    have : kindT x = 1 ∨ kindT x = 2 ∨ kindT x = 3 ∨ kindT x = 4 ∨ kindT x = 5 ∨ kindT x = 6 := by omega
    simp
    exact this
  have := List.Nodup.length_le_of_subset hnd hsub
  simpa using this

theorem few_mk {n : Nat} {k : Int} {nm : List UInt8} {ns : List (List UInt8)} {ks : List Ty} (h1 : ns.length ≤ 1000000) (h2 : ks.length ≤ 1000000) (h : ∀ x ∈ ks, FewT n x) : FewT (n + 1) (mkT k nm ns ks) :=
  ⟨by rw [names_mk]; exact h1, by rw [kids_mk]; exact h2, by rw [kids_mk]; exact h⟩

theorem few_norm {n : Nat} {E : Ty} (h : NormT n E) : FewT n E := by
  induction n generalizing E with
  | zero => exact trivial
  | succ n ih =>
    rcases h with ⟨k, _, _, rfl⟩ | ⟨ns, ks, rfl, h2, h3, _, _, h6⟩ | ⟨a, b, rfl, ha, hb⟩ | ⟨ks, rfl, _, h3, h4⟩
    · exact few_mk (by simp) (by simp) (by simp)
    · exact few_mk (by omega) (by omega) fun x hx => ih (h6 x hx)
    · refine few_mk (by simp) (by simp) fun x hx => ?_
      simp at hx
      rcases hx with rfl | rfl
      · exact ih ha
      · exact ih hb
    · have := rise_six h4 fun x hx => (h3 x hx).2
      exact few_mk (by simp) (by omega) fun x hx => ih (h3 x hx).1

theorem few_more {n : Nat} {D : Ty} (hi : IsT n D) (h : FewT n D) : FewT (n + 1) D := by
  induction n generalizing D with
  | zero => exact hi.elim
  | succ n ih => exact ⟨h.1, h.2.1, fun x hx => ih (hi.2 x hx) (h.2.2 x hx)⟩

theorem few_of_members {n : Nat} {D : Ty} (hi : IsT n D) (h : FewT n D) : ∀ x ∈ membersT D, FewT n x := by
  intro x hx
  cases n with
  | zero => exact trivial
  | succ n =>
    unfold membersT at hx
    by_cases hk : kindT D = 7
    · rw [if_pos hk] at hx
      exact few_more (hi.2 x hx) (h.2.2 x hx)
    · rw [if_neg hk, List.mem_singleton] at hx
      rw [hx]
      exact h
end Go.Proofs.YtmpcjcjacpjilaaDoor
