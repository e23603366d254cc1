/- What is swept, on both sides; without a program in sight. -/
import Derived.Test.YtcpmdbdppdnkkaaHpD
namespace Go.Proofs.Ytcpmdbdppdnkkaa

theorem nodup_live : ∀ (refs : List Int) (L : Wd) (g : List SlotV → List SlotV), refs.length = L.length → (∀ (i j : Nat) (li lj : List SlotV), L[i]? = some (li, false) → L[j]? = some (lj, false) → refs[i]? = refs[j]? → i = j) → ((liveM g refs L).map (·.1)).Nodup
  | [], [], _, _, _ => List.nodup_nil
  | [], _ :: _, _, h, _ => by cases h
  | _ :: _, [], _, h, _ => by cases h
  | r :: refs, (l, b) :: L, g, h, hi => by
    have hl : refs.length = L.length := by simpa using h
    have ih := nodup_live refs L g hl fun i j li lj h1 h2 h3 => by
      have := hi (i + 1) (j + 1) li lj h1 h2 h3
      omega
    cases b with
    | true => exact ih
    | false =>
      have e : liveM g (r :: refs) ((l, false) :: L) = (r, g l) :: liveM g refs L := rfl
      rw [e, List.map_cons, List.nodup_cons]
      refine ⟨fun hm => ?_, ih⟩
      obtain ⟨p, hp, hpr⟩ := List.mem_map.1 hm
      obtain ⟨i, r', l', h1, h2, rfl⟩ := (liveM_mem hl).1 hp
      have hr : r' = r := hpr
      subst hr
      have := hi 0 (i + 1) l l' rfl h2 (by show some r' = refs[i]?; rw [h1])
      omega
theorem used_set : ∀ (L : Wd) (j : Nat) (l : List SlotV), L[j]? = some (l, false) → usedL (L.set j (l, true)) + (l.length + 1) = usedL L
  | [], _, _, h => by simp at h
  | o :: L, 0, l, h => by
    have e : o = (l, false) := by simpa using h
    subst e
    simp [usedL]
    omega
  | o :: L, j + 1, l, h => by
    have ih := used_set L j l h
    unfold usedL at ih ⊢
    rw [List.set_cons_succ, List.map_cons, List.map_cons, List.sum_cons, List.sum_cons]
    omega
theorem sweep_freed {L : Wd} {m : List Bool} : ∀ j, j ≤ L.length → usedL (sweepTo L m j) + freedTo L m j = usedL L
  | 0, _ => rfl
  | j + 1, h => by
    have ih := sweep_freed (L := L) (m := m) j (by omega)
    have hj : j < L.length := by omega
    unfold sweepTo freedTo
    rw [getD_at hj]
    split
    · rename_i hc
      rw [Bool.and_eq_true] at hc
      have h2 : L[j].2 = false := by simpa using hc.2
      have hg := sweep_get (L := L) (m := m) j j
      rw [List.getElem?_eq_getElem hj, Option.map_some, if_neg (Nat.lt_irrefl j), h2] at hg
      have := used_set _ _ _ hg
      omega
    · exact ih
section
variable {refs : List Int} {L : Wd} {M M' : Hp} {roots : List Int}
theorem swept (hc : ClosedL L) {i : Nat} {l : List SlotV} : (sweepTo L (endV L roots) L.length)[i]? = some (l, false) ↔ L[i]? = some (l, false) ∧ ReachL L roots i := by
  rw [sweep_get]
  constructor
  · intro h
    rw [Option.map_eq_some_iff] at h
    obtain ⟨o, ho, e⟩ := h
    have hi := (List.getElem?_eq_some_iff.1 ho).1
    rw [if_pos hi] at e
    injection e with e1 e2
    rw [Bool.or_eq_false_iff] at e2
    refine ⟨by rw [ho, ← e1, ← e2.1], (end_reach hc i).1 ?_⟩
    have := e2.2
    simpa [SB] using this
  · rintro ⟨ho, hr⟩
    have hi := (List.getElem?_eq_some_iff.1 ho).1
    have h2 := (end_reach hc i).2 hr
    rw [ho, Option.map_some, if_pos hi]
    have h3 : (endV L roots).getD i false = true := h2
    rw [h3]
    rfl
theorem reachL_step {i : Nat} {l : List SlotV} (h : ReachL L roots i) (hi : L[i]? = some (l, false)) {s : SlotV} (hs : s ∈ l) (hr : s.ref = true) : ReachL L roots s.n.toNat := fun C h1 h2 => h2 i l hi (h C h1 h2) s hs hr
/-- What stays on both sides stands to one another as before. -/
theorem Corr.sweep (h : Corr refs L M) (hs : Stays M (roots.map (namedR refs L)) M') : Corr refs (sweepTo L (endV L roots) L.length) M' := by
  have hlen : (sweepTo L (endV L roots) L.length).length = L.length := sweep_len _
  have hlive : ∀ (i : Nat) (l : List SlotV), (sweepTo L (endV L roots) L.length)[i]? = some (l, false) → ∀ s ∈ l, s.ref = true → isL L s.n ∧ isL (sweepTo L (endV L roots) L.length) s.n := fun i l hi s hsl hr => by
    obtain ⟨h1, h2⟩ := (swept h.closed).1 hi
    have h3 := h.closed i l h1 s hsl hr
    refine ⟨h3, h3.1, ?_⟩
    obtain ⟨_, o, ho, hf⟩ := h3
    exact ⟨(o.1, false), (swept h.closed).2 ⟨by rw [ho, ← hf], reachL_step h2 h1 hsl hr⟩, rfl⟩
  have hmap : ∀ (i : Nat) (l : List SlotV), (sweepTo L (endV L roots) L.length)[i]? = some (l, false) → l.map (mapS refs (sweepTo L (endV L roots) L.length)) = l.map (mapS refs L) := fun i l hi => List.map_congr_left fun s hsl => by
    unfold mapS
    by_cases hr : s.ref = true
    · obtain ⟨h1, h2⟩ := hlive i l hi s hsl hr
      rw [if_pos hr, if_pos hr, named_is h1, named_is h2]
    · rw [if_neg hr, if_neg hr]
  refine ⟨by rw [hlen]; exact h.len, stays_good h.good hs, ?_, fun i l hi s hsl hr => (hlive i l hi s hsl hr).2⟩
  refine (List.perm_ext_iff_of_nodup hs.1 (nodup_of_keys (nodup_live _ _ _ (by rw [hlen]; exact h.len) fun i j li lj h1 h2 h3 => h.inj ((swept h.closed).1 h1).1 ((swept h.closed).1 h2).1 h3))).2 fun p => ?_
  rw [hs.2 p, h.mem, liveM_mem (by rw [hlen]; exact h.len)]
  constructor
  · rintro ⟨⟨i, r, l, h1, h2, rfl⟩, h3⟩
    have h4 := (swept h.closed).2 ⟨h2, (reach_places h h2 h1).1 h3⟩
    exact ⟨i, r, l, h1, h4, by rw [hmap i l h4]⟩
  · rintro ⟨i, r, l, h1, h2, rfl⟩
    obtain ⟨h3, h4⟩ := (swept h.closed).1 h2
    exact ⟨⟨i, r, l, h1, h3, by rw [hmap i l h2]⟩, (reach_places h h3 h1).2 h4⟩
theorem Corr.freed (h : Corr refs L M) (hs : Stays M (roots.map (namedR refs L)) M') : (usedM M : Int) - (usedM M' : Int) = (freedTo L (endV L roots) L.length : Nat) := by
  have h1 := h.used.1
  have h2 := (h.sweep hs).used.1
  have h3 := sweep_freed (L := L) (m := endV L roots) L.length (Nat.le_refl _)
  omega
end
end Go.Proofs.Ytcpmdbdppdnkkaa
