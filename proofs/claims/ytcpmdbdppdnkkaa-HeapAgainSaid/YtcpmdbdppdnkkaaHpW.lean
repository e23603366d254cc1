/- The reference's world of objects, and how it stands to one with numbers. -/
import Derived.Test.YtcpmdbdppdnkkaaHpV
namespace Go.Proofs.Ytcpmdbdppdnkkaa

/-- Objects in the order in which they came; true: it is gone. -/
abbrev Wd := List (List SlotV × Bool)
def isL (L : Wd) (k : Int) : Prop := 0 ≤ k ∧ ∃ o, L[k.toNat]? = some o ∧ o.2 = false
def usedL (L : Wd) : Nat := (L.map fun o => if o.2 then 0 else o.1.length + 1).sum
def objsL (L : Wd) : Nat := (L.map fun o => if o.2 then 0 else 1).sum
/-- An object's number by its place. -/
def namedR (refs : List Int) (L : Wd) (k : Int) : Int := if (match L[k.toNat]? with | some o => decide (0 ≤ k) && !o.2 | none => false) = true then refs.getD k.toNat (-1) else -1
def mapS (refs : List Int) (L : Wd) (s : SlotV) : SlotV := if s.ref = true then ⟨true, namedR refs L s.n⟩ else s
def liveM (g : List SlotV → List SlotV) (refs : List Int) (L : Wd) : Hp := (refs.zip L).filterMap fun q => if q.2.2 then none else some (q.1, g q.2.1)
/-- Every live object leads to live ones. -/
def ClosedL (L : Wd) : Prop := ∀ (i : Nat) l, L[i]? = some (l, false) → ∀ s ∈ l, s.ref = true → isL L s.n
section
variable {refs : List Int} {L : Wd} {M : Hp} {k x : Int} {l : List SlotV}
theorem isL_lt (h : isL L k) : 0 ≤ k ∧ k < (L.length : Int) := by
  obtain ⟨h0, o, ho, _⟩ := h
  have := (List.getElem?_eq_some_iff.1 ho).1
  omega
theorem named_is (h : isL L k) : namedR refs L k = refs.getD k.toNat (-1) := by
  obtain ⟨h0, o, ho, hf⟩ := h
  unfold namedR
  rw [ho, if_pos (by simp [h0, hf])]
theorem named_no (h : ¬ isL L k) : namedR refs L k = -1 := by
  unfold namedR
  rw [if_neg]
  intro e
  apply h
  cases ho : L[k.toNat]? with
  | none => rw [ho] at e; cases e
  | some o =>
    rw [ho] at e
    simp at e
    exact ⟨e.1, o, ho, e.2⟩
theorem liveM_used (g : List SlotV → List SlotV) (hg : ∀ l, (g l).length = l.length) : ∀ (refs : List Int) (L : Wd), refs.length = L.length → usedM (liveM g refs L) = usedL L ∧ (liveM g refs L).length = objsL L
  | [], [], _ => ⟨rfl, rfl⟩
  | [], _ :: _, h => by cases h
  | _ :: _, [], h => by cases h
  | r :: refs, (l, b) :: L, h => by
    obtain ⟨h1, h2⟩ := liveM_used g hg refs L (by simpa using h)
    cases b with
    | true =>
      have e : liveM g (r :: refs) ((l, true) :: L) = liveM g refs L := rfl
      rw [e, h1, h2]
      simp [usedL, objsL]
    | false =>
      have e : liveM g (r :: refs) ((l, false) :: L) = (r, g l) :: liveM g refs L := rfl
      rw [e, used_push, h1, List.length_cons, h2, hg]
      simp [usedL, objsL]
      omega
theorem liveM_mem {g : List SlotV → List SlotV} (hl : refs.length = L.length) {p : Int × List SlotV} : p ∈ liveM g refs L ↔ ∃ (i : Nat) (r : Int) (l : List SlotV), refs[i]? = some r ∧ L[i]? = some (l, false) ∧ p = (r, g l) := by
  unfold liveM
  rw [List.mem_filterMap]
  constructor
  · rintro ⟨q, hq, e⟩
    obtain ⟨i, hi, e2⟩ := List.getElem_of_mem hq
    rw [List.length_zip] at hi
    rw [List.getElem_zip] at e2
    subst e2
    cases hb : (L[i]'(by omega)).2 with
    | true => simp [hb] at e
    | false =>
      simp [hb] at e
      exact ⟨i, refs[i]'(by omega), (L[i]'(by omega)).1, List.getElem?_eq_getElem (by omega), by rw [List.getElem?_eq_getElem (show i < L.length by omega), ← hb], e.symm⟩
  · rintro ⟨i, r, l, h1, h2, rfl⟩
    obtain ⟨hi1, e1⟩ := List.getElem?_eq_some_iff.1 h1
    obtain ⟨hi2, e2⟩ := List.getElem?_eq_some_iff.1 h2
    refine ⟨(r, (l, false)), ?_, by simp⟩
    rw [← e1, ← e2, ← List.getElem_zip (i := i) (h := by rw [List.length_zip]; omega)]
    exact List.getElem_mem _
end
/-- How what has numbers stands to the reference's world. -/
structure Corr (refs : List Int) (L : Wd) (M : Hp) : Prop where
  len : refs.length = L.length
  good : GoodM M
  perm : M.Perm (liveM (List.map (mapS refs L)) refs L)
  closed : ClosedL L
section
variable {refs : List Int} {L L' : Wd} {M M' : Hp} {k x : Int} {l : List SlotV}
theorem Corr.used (h : Corr refs L M) : usedM M = usedL L ∧ M.length = objsL L := by
  have := liveM_used (List.map (mapS refs L)) (fun l => List.length_map ..) refs L h.len
  rw [used_perm h.perm, h.perm.length_eq]
  exact this
theorem Corr.mem (h : Corr refs L M) {p : Int × List SlotV} : p ∈ M ↔ ∃ (i : Nat) (r : Int) (l : List SlotV), refs[i]? = some r ∧ L[i]? = some (l, false) ∧ p = (r, l.map (mapS refs L)) := h.perm.mem_iff.trans (liveM_mem h.len)
theorem Corr.at (h : Corr refs L M) {i : Nat} {l : List SlotV} (hi : L[i]? = some (l, false)) : ∃ r, refs[i]? = some r ∧ (r, l.map (mapS refs L)) ∈ M := by
  have hlt := (List.getElem?_eq_some_iff.1 hi).1
  have := h.len
  exact ⟨refs[i]'(by omega), List.getElem?_eq_getElem (by omega), h.mem.2 ⟨i, _, l, List.getElem?_eq_getElem (by omega), hi, rfl⟩⟩
/-- Live ones have numbers of their own. -/
theorem Corr.inj (h : Corr refs L M) {i j : Nat} {li lj : List SlotV} (hi : L[i]? = some (li, false)) (hj : L[j]? = some (lj, false)) (e : refs[i]? = refs[j]?) : i = j := by
  have hk := (((h.perm.map (·.1)).nodup_iff).1 h.good.nd)
  have key : ∀ (refs : List Int) (L : Wd) (g : List SlotV → List SlotV), refs.length = L.length → ((liveM g refs L).map (·.1)).Nodup → ∀ (i j : Nat) (li lj : List SlotV), L[i]? = some (li, false) → L[j]? = some (lj, false) → refs[i]? = refs[j]? → i = j := by
    intro refs
    induction refs with
    | nil =>
      intro L g hl _ i j li lj hi
      cases L with
      | nil => simp at hi
      | cons _ _ => cases hl
    | cons r refs ih =>
      intro L g hl hn i j li lj hi hj e
      cases L with
      | nil => cases hl
      | cons o L =>
        have hl' : refs.length = L.length := by simpa using hl
        obtain ⟨ol, ob⟩ := o
        cases ob with
        | true =>
          have e1 : liveM g (r :: refs) ((ol, true) :: L) = liveM g refs L := rfl
          rw [e1] at hn
          cases i with
          | zero => simp at hi
          | succ i =>
            cases j with
            | zero => simp at hj
            | succ j => rw [ih L g hl' hn i j li lj (by simpa using hi) (by simpa using hj) (by simpa using e)]
        | false =>
          have e1 : liveM g (r :: refs) ((ol, false) :: L) = (r, g ol) :: liveM g refs L := rfl
          rw [e1, List.map_cons, List.nodup_cons] at hn
          have no : ∀ (m : Nat) (lm : List SlotV), L[m]? = some (lm, false) → refs[m]? ≠ some r := by
            intro m lm hm hr
            exact hn.1 (List.mem_map.2 ⟨(r, g lm), (liveM_mem hl').2 ⟨m, r, lm, hr, hm, rfl⟩, rfl⟩)
          cases i with
          | zero =>
            cases j with
            | zero => rfl
            | succ j => exact absurd (by simpa using e.symm) (no j lj (by simpa using hj))
          | succ i =>
            cases j with
            | zero => exact absurd (by simpa using e) (no i li (by simpa using hi))
            | succ j => rw [ih L g hl' hn.2 i j li lj (by simpa using hi) (by simpa using hj) (by simpa using e)]
  exact key refs L _ h.len hk i j li lj hi hj e
theorem Corr.has (h : Corr refs L M) : hasM M x ↔ ∃ (i : Nat) (l : List SlotV), refs[i]? = some x ∧ L[i]? = some (l, false) := by
  constructor
  · rintro ⟨l, hl⟩
    obtain ⟨i, r, l', h1, h2, e⟩ := h.mem.1 hl
    injection e with e1 e2
    subst e1
    exact ⟨i, l', h1, h2⟩
  · rintro ⟨i, l, h1, h2⟩
    obtain ⟨r, h3, h4⟩ := h.at h2
    rw [h1] at h3
    injection h3 with h3
    subst h3
    exact ⟨_, h4⟩
/-- A place's number is an object's just if there is one at the place. -/
theorem Corr.named (h : Corr refs L M) : hasM M (namedR refs L k) ↔ isL L k := by
  constructor
  · intro hm
    refine Classical.byContradiction fun hn => ?_
    rw [named_no hn] at hm
    obtain ⟨l, hl⟩ := hm
    have := h.good.pos _ hl
    simp at this
  · intro hk
    rw [named_is hk]
    obtain ⟨h0, ⟨ol, ob⟩, ho, hf⟩ := hk
    simp only at hf
    subst hf
    obtain ⟨r, h1, h2⟩ := h.at ho
    rw [List.getD_eq_getElem?_getD, h1, Option.getD_some]
    exact ⟨_, h2⟩
theorem Corr.bad (h : Corr refs L M) : badL M (l.map (mapS refs L)) ↔ ∃ s ∈ l, s.ref = true ∧ ¬ isL L s.n := by
  constructor
  · rintro ⟨s', hs', hr, hn⟩
    obtain ⟨s, hs, rfl⟩ := List.mem_map.1 hs'
    unfold mapS at hr hn
    by_cases h1 : s.ref = true
    · rw [if_pos h1] at hn
      exact ⟨s, hs, h1, fun hk => hn (h.named.2 hk)⟩
    · rw [if_neg h1] at hr
      exact absurd hr h1
  · rintro ⟨s, hs, hr, hn⟩
    refine ⟨mapS refs L s, List.mem_map.2 ⟨s, hs, rfl⟩, ?_, ?_⟩
    · unfold mapS; rw [if_pos hr]
    · unfold mapS; rw [if_pos hr]; exact fun hm => hn (h.named.1 hm)
theorem isL_more (o : List SlotV × Bool) (h : isL L k) : isL (L ++ [o]) k := by
  obtain ⟨h0, q, hq, hf⟩ := h
  exact ⟨h0, q, by rw [List.getElem?_append_left (List.getElem?_eq_some_iff.1 hq).1]; exact hq, hf⟩
theorem mapS_more (hl : refs.length = L.length) (o : List SlotV × Bool) {s : SlotV} (h : s.ref = true → isL L s.n) : mapS (refs ++ [x]) (L ++ [o]) s = mapS refs L s := by
  unfold mapS
  by_cases hr : s.ref = true
  · rw [if_pos hr, if_pos hr, named_is (h hr), named_is (isL_more o (h hr))]
    have := isL_lt (h hr)
    rw [List.getD_eq_getElem?_getD, List.getD_eq_getElem?_getD, List.getElem?_append_left (by omega)]
  · rw [if_neg hr, if_neg hr]
theorem liveM_same {g g' : List SlotV → List SlotV} : ∀ (refs : List Int) (L : Wd), (∀ l, (l, false) ∈ L → g l = g' l) → liveM g refs L = liveM g' refs L
  | [], _, _ => rfl
  | _ :: _, [], _ => rfl
  | r :: refs, (l, b) :: L, h => by
    have ih := liveM_same refs L fun l hl => h l (List.mem_cons_of_mem _ hl)
    cases b with
    | true => exact ih
    | false =>
      show (r, g l) :: liveM g refs L = (r, g' l) :: liveM g' refs L
      rw [ih, h l (List.mem_cons_self ..)]
/-- One object more. -/
theorem Corr.push (h : Corr refs L M) (hx : ¬ hasM M x) (h0 : 0 ≤ x) (hl : ¬ ∃ s ∈ l, s.ref = true ∧ ¬ isL L s.n) : Corr (refs ++ [x]) (L ++ [(l, false)]) ((x, l.map (mapS refs L)) :: M) := by
  have hlive : ∀ s ∈ l, s.ref = true → isL L s.n := fun s hs hr => Classical.byContradiction fun hn => hl ⟨s, hs, hr, hn⟩
  have hm : ∀ l' : List SlotV, (∀ s ∈ l', s.ref = true → isL L s.n) → l'.map (mapS (refs ++ [x]) (L ++ [(l, false)])) = l'.map (mapS refs L) := fun l' h' => List.map_congr_left fun s hs => mapS_more h.len _ (h' s hs)
  refine ⟨by simp [h.len], h.good.push hx h0 fun hb => hl (h.bad.1 hb), ?_, ?_⟩
  · have e : liveM (List.map (mapS (refs ++ [x]) (L ++ [(l, false)]))) (refs ++ [x]) (L ++ [(l, false)]) = liveM (List.map (mapS refs L)) refs L ++ [(x, l.map (mapS refs L))] := by
      have e1 : liveM (List.map (mapS (refs ++ [x]) (L ++ [(l, false)]))) (refs ++ [x]) (L ++ [(l, false)]) = liveM (List.map (mapS (refs ++ [x]) (L ++ [(l, false)]))) refs L ++ [(x, l.map (mapS (refs ++ [x]) (L ++ [(l, false)])))] := by
        unfold liveM
        rw [List.zip_append h.len, List.filterMap_append]
        rfl
      rw [e1, hm l hlive, liveM_same refs L]
      intro l' hl'
      obtain ⟨i, hi, e⟩ := List.getElem_of_mem hl'
      exact hm l' (h.closed i l' (by rw [List.getElem?_eq_getElem hi, e]))
    rw [e]
    exact (h.perm.cons _).trans (List.perm_append_singleton _ _).symm
  · intro i l' hi s hs hr
    by_cases hlt : i < L.length
    · rw [List.getElem?_append_left hlt] at hi
      exact isL_more _ (h.closed i l' hi s hs hr)
    · rw [List.getElem?_append_right (by omega)] at hi
      have hi0 : i - L.length = 0 := by
        have := (List.getElem?_eq_some_iff.1 hi).1
        simp at this
        omega
      rw [hi0] at hi
      simp at hi
      subst hi
      exact isL_more _ (hlive s hs hr)
end
/-- What is reached of places. -/
def ReachL (L : Wd) (roots : List Int) (i : Nat) : Prop := ∀ C : Nat → Prop, (∀ r ∈ roots, isL L r → C r.toNat) → (∀ j l, L[j]? = some (l, false) → C j → ∀ s ∈ l, s.ref = true → C s.n.toNat) → C i
section
variable {refs : List Int} {L L' : Wd} {M M' : Hp} {roots : List Int}
theorem reachL_is (hc : ClosedL L) {i : Nat} (h : ReachL L roots i) : isL L (i : Int) := by
  refine h (fun i => isL L (i : Int)) (fun r _ hr => ?_) fun j l hj _ s hs hr => ?_
  · have := hr.1
    rw [Int.toNat_of_nonneg this]
    exact hr
  · have h1 := hc j l hj s hs hr
    rw [Int.toNat_of_nonneg h1.1]
    exact h1
theorem reach_places (h : Corr refs L M) {i : Nat} {l : List SlotV} (hi : L[i]? = some (l, false)) {r : Int} (hr : refs[i]? = some r) : Reach M (roots.map (namedR refs L)) r ↔ ReachL L roots i := by
  have nm : ∀ k, isL L k → refs[k.toNat]? = some (namedR refs L k) := fun k hk => by
    have := isL_lt hk
    have hl := h.len
    rw [named_is hk, List.getD_eq_getElem?_getD, List.getElem?_eq_getElem (show k.toNat < refs.length by omega), Option.getD_some]
  constructor
  · intro hR C h1 h2
    have := hR (fun x => ∃ (j : Nat) (lj : List SlotV), refs[j]? = some x ∧ L[j]? = some (lj, false) ∧ C j) (fun x hx hm => ?_) (fun y ly hy ⟨j, lj, e1, e2, hC⟩ s hs hsr => ?_)
    · obtain ⟨j, lj, e1, e2, hC⟩ := this
      rw [h.inj hi e2 (hr.trans e1.symm)]
      exact hC
    · obtain ⟨q, hq, rfl⟩ := List.mem_map.1 hx
      have hk := h.named.1 hm
      obtain ⟨h0, ⟨ol, ob⟩, ho, hf⟩ := hk
      simp only at hf
      subst hf
      exact ⟨q.toNat, ol, nm q ⟨h0, _, ho, rfl⟩, ho, h1 q hq ⟨h0, _, ho, rfl⟩⟩
    · obtain ⟨j', r', l', f1, f2, e⟩ := h.mem.1 hy
      injection e with e3 e4
      subst e3 e4
      have hj := h.inj e2 f2 (e1.trans f1.symm)
      subst hj
      rw [e2] at f2
      injection f2 with f2
      injection f2 with f2 _
      subst f2
      obtain ⟨s0, hs0, rfl⟩ := List.mem_map.1 hs
      have hs0r : s0.ref = true := by
        unfold mapS at hsr
        by_cases h' : s0.ref = true
        · exact h'
        · rw [if_neg h'] at hsr; exact hsr
      have hk := h.closed j lj e2 s0 hs0 hs0r
      obtain ⟨k0, ⟨ol, ob⟩, ho, hf⟩ := hk
      simp only at hf
      subst hf
      refine ⟨s0.n.toNat, ol, ?_, ho, h2 j lj e2 hC s0 hs0 hs0r⟩
      unfold mapS
      rw [if_pos hs0r]
      exact nm _ ⟨k0, _, ho, rfl⟩
  · intro hR
    have := hR (fun j => ∃ x, refs[j]? = some x ∧ Reach M (roots.map (namedR refs L)) x) (fun q hq hk => ?_) (fun j lj hj ⟨x, e1, hx⟩ s hs hsr => ?_)
    · obtain ⟨x, e, hx⟩ := this
      rw [hr] at e
      injection e with e
      rw [e]
      exact hx
    · exact ⟨_, nm q hk, reach_root (List.mem_map.2 ⟨q, hq, rfl⟩) (h.named.2 hk)⟩
    · refine ⟨_, nm s.n (h.closed j lj hj s hs hsr), ?_⟩
      have h1 := reach_step (l := lj.map (mapS refs L)) hx (h.mem.2 ⟨j, x, lj, e1, hj, rfl⟩) (List.mem_map.2 ⟨s, hs, rfl⟩) (by unfold mapS; rw [if_pos hsr])
      unfold mapS at h1
      rw [if_pos hsr] at h1
      exact h1
end
end Go.Proofs.Ytcpmdbdppdnkkaa
