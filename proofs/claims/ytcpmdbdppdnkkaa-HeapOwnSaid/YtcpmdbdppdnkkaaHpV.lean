/- Objects in cells, without a program in sight. -/
import Derived.Test.YtcpmdbdppdnkkaaSmB
namespace Go.Proofs.Ytcpmdbdppdnkkaa

/-- What an object's slot holds. -/
structure SlotV where
  ref : Bool
  n : Int
/-- The objects that there are: each with its number. -/
abbrev Hp := List (Int × List SlotV)
def hasM (M : Hp) (x : Int) : Prop := ∃ l, (x, l) ∈ M
def usedM (M : Hp) : Nat := (M.map fun p => p.2.length + 1).sum
/-- No two have one number, none is below 0, each leads to such as there are. -/
structure GoodM (M : Hp) : Prop where
  nd : (M.map (·.1)).Nodup
  pos : ∀ p ∈ M, 0 ≤ p.1
  refs : ∀ p ∈ M, ∀ s ∈ p.2, s.ref = true → hasM M s.n
section
variable {M M' : Hp} {x : Int} {l : List SlotV} {roots : List Int}
theorem GoodM.uniq (h : GoodM M) {l' : List SlotV} (h1 : (x, l) ∈ M) (h2 : (x, l') ∈ M) : l = l' := by
  have hp := List.pairwise_map.1 (List.nodup_iff_pairwise_ne.1 h.nd)
  obtain ⟨i, hi, e1⟩ := List.getElem_of_mem h1
  obtain ⟨j, hj, e2⟩ := List.getElem_of_mem h2
  have hq := List.pairwise_iff_getElem.1 hp
  rcases Nat.lt_trichotomy i j with hlt | heq | hgt
  · exact absurd (by rw [e1, e2]) (hq i j hi hj hlt)
  · subst heq
    rw [e1] at e2
    exact (Prod.mk.inj e2).2
  · exact absurd (by rw [e1, e2]) (hq j i hj hi hgt)
theorem used_perm (h : M.Perm M') : usedM M = usedM M' := by
  unfold usedM
  exact (h.map _).sum_nat
theorem has_perm (h : M.Perm M') : hasM M x ↔ hasM M' x := by
  unfold hasM
  constructor
  · rintro ⟨l, hl⟩; exact ⟨l, h.mem_iff.1 hl⟩
  · rintro ⟨l, hl⟩; exact ⟨l, h.mem_iff.2 hl⟩
theorem GoodM.perm (h : GoodM M) (hp : M.Perm M') : GoodM M' :=
  ⟨((hp.map _).nodup_iff).1 h.nd, fun p hq => h.pos p (hp.mem_iff.2 hq), fun p hq s hs hr => (has_perm hp).1 (h.refs p (hp.mem_iff.2 hq) s hs hr)⟩
/-- Is there an object to which none of l leads? -/
def badL (M : Hp) (l : List SlotV) : Prop := ∃ s ∈ l, s.ref = true ∧ ¬ hasM M s.n
theorem GoodM.push (h : GoodM M) (hx : ¬ hasM M x) (h0 : 0 ≤ x) (hl : ¬ badL M l) : GoodM ((x, l) :: M) := by
  refine ⟨?_, ?_, ?_⟩
  · rw [List.map_cons, List.nodup_cons]
    refine ⟨fun hm => ?_, h.nd⟩
    obtain ⟨p, hp, e⟩ := List.mem_map.1 hm
    exact hx ⟨p.2, by rw [← show p.1 = x from e]; exact hp⟩
  · intro p hp
    rcases List.mem_cons.1 hp with rfl | hp
    · exact h0
    · exact h.pos p hp
  · intro p hp s hs hr
    have up : ∀ y, hasM M y → hasM ((x, l) :: M) y := fun y ⟨l', h'⟩ => ⟨l', List.mem_cons_of_mem _ h'⟩
    rcases List.mem_cons.1 hp with rfl | hp
    · exact up _ (Classical.byContradiction fun hn => hl ⟨s, hs, hr, hn⟩)
    · exact up _ (h.refs p hp s hs hr)
theorem used_push : usedM ((x, l) :: M) = l.length + 1 + usedM M := by
  unfold usedM
  rw [List.map_cons, List.sum_cons]
/-- What is reached: the least that holds the roots and what they lead to. -/
def Reach (M : Hp) (roots : List Int) (x : Int) : Prop := ∀ C : Int → Prop, (∀ r ∈ roots, hasM M r → C r) → (∀ y l, (y, l) ∈ M → C y → ∀ s ∈ l, s.ref = true → C s.n) → C x
theorem reach_root {r : Int} (h : r ∈ roots) (hm : hasM M r) : Reach M roots r := fun _ h1 _ => h1 r h hm
theorem reach_step {y : Int} (hy : Reach M roots y) (hl : (y, l) ∈ M) {s : SlotV} (hs : s ∈ l) (hr : s.ref = true) : Reach M roots s.n := fun C h1 h2 => h2 y l hl (hy C h1 h2) s hs hr
theorem reach_has (hg : GoodM M) (h : Reach M roots x) : hasM M x := h (hasM M) (fun _ _ h => h) fun _ _ hl _ s hs hr => hg.refs _ hl s hs hr
/-- What stays: those that are reached. -/
def Stays (M : Hp) (roots : List Int) (M' : Hp) : Prop := M'.Nodup ∧ ∀ p, p ∈ M' ↔ p ∈ M ∧ Reach M roots p.1
theorem nodup_of_keys : ∀ {M : Hp}, (M.map (·.1)).Nodup → M.Nodup
  | [], _ => List.nodup_nil
  | p :: M, h => by
    rw [List.map_cons, List.nodup_cons] at h
    rw [List.nodup_cons]
    exact ⟨fun hp => h.1 (List.mem_map.2 ⟨p, hp, rfl⟩), nodup_of_keys h.2⟩
theorem stays_good (hg : GoodM M) (h : Stays M roots M') : GoodM M' := by
  have hq := List.pairwise_iff_getElem.1 (List.nodup_iff_pairwise_ne.1 h.1)
  refine ⟨?_, fun p hp => hg.pos p ((h.2 p).1 hp).1, fun p hp s hs hr => ?_⟩
  · rw [List.nodup_iff_pairwise_ne, List.pairwise_map, List.pairwise_iff_getElem]
    intro i j hi hj hij e
    refine hq i j hi hj hij ?_
    have h1 := ((h.2 _).1 (List.getElem_mem hi)).1
    have h2 := ((h.2 _).1 (List.getElem_mem hj)).1
    have e2 : (M'[i]).2 = (M'[j]).2 := hg.uniq (x := (M'[i]).1) (by exact h1) (by rw [e]; exact h2)
    exact Prod.ext e e2
  · obtain ⟨h1, h2⟩ := (h.2 p).1 hp
    have h3 := reach_step (l := p.2) h2 h1 hs hr
    obtain ⟨l', hl'⟩ := reach_has hg h3
    exact ⟨l', (h.2 _).2 ⟨hl', h3⟩⟩
theorem stays_perm {M1 M2 : Hp} (h1 : Stays M roots M1) (h2 : Stays M roots M2) : M1.Perm M2 :=
  (List.perm_ext_iff_of_nodup h1.1 h2.1).2 fun p => (h1.2 p).trans (h2.2 p).symm
theorem used_filter (f : Int × List SlotV → Bool) : ∀ M : Hp, usedM (M.filter f) ≤ usedM M
  | [] => Nat.le_refl _
  | p :: M => by
    have ih := used_filter f M
    have e : usedM (p :: M) = p.2.length + 1 + usedM M := used_push (x := p.1) (l := p.2)
    cases h : f p with
    | true =>
      rw [List.filter_cons_of_pos h]
      have e2 : usedM (p :: M.filter f) = p.2.length + 1 + usedM (M.filter f) := used_push (x := p.1) (l := p.2)
      omega
    | false =>
      rw [List.filter_cons_of_neg (by rw [h]; decide)]
      omega
/-- There is what stays. -/
theorem stays_some (hg : GoodM M) (roots : List Int) : ∃ f : Int × List SlotV → Bool, Stays M roots (M.filter f) := by
  refine ⟨fun p => @decide (Reach M roots p.1) (Classical.propDecidable _), (nodup_of_keys hg.nd).filter _, fun p => ?_⟩
  rw [List.mem_filter]
  constructor
  · rintro ⟨h1, h2⟩
    exact ⟨h1, @of_decide_eq_true _ (Classical.propDecidable _) h2⟩
  · rintro ⟨h1, h2⟩
    exact ⟨h1, @decide_eq_true _ (Classical.propDecidable _) h2⟩
theorem stays_le (hg : GoodM M) (h : Stays M roots M') : usedM M' ≤ usedM M := by
  obtain ⟨f, hf⟩ := stays_some hg roots
  rw [used_perm (stays_perm h hf)]
  exact used_filter f M
/-- Once more, nothing goes. -/
theorem stays_again {M2 : Hp} (h : Stays M roots M') (h2 : Stays M' roots M2) : M2.Perm M' := by
  refine (List.perm_ext_iff_of_nodup h2.1 h.1).2 fun p => ?_
  rw [h2.2 p]
  constructor
  · exact fun h => h.1
  · intro hp
    refine ⟨hp, ?_⟩
    have hr := ((h.2 p).1 hp).2
    refine (hr (fun y => Reach M roots y ∧ Reach M' roots y) (fun r h1 h2 => ?_) fun y l hl hy s hs hsr => ?_).2
    · have h3 := reach_root h1 h2
      obtain ⟨l', hl'⟩ := h2
      exact ⟨h3, reach_root h1 ⟨l', (h.2 _).2 ⟨hl', h3⟩⟩⟩
    · exact ⟨reach_step hy.1 hl hs hsr, reach_step hy.2 ((h.2 _).2 ⟨hl, hy.1⟩) hs hsr⟩
end
end Go.Proofs.Ytcpmdbdppdnkkaa
