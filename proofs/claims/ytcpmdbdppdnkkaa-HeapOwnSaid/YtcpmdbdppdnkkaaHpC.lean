/- What the reference's Collect comes to. -/
import Derived.Test.YtcpmdbdppdnkkaaHpR
namespace Go.Proofs.Ytcpmdbdppdnkkaa

def SB (m : List Bool) (k : Nat) : Prop := m.getD k false = true
def markV (l : List SlotV) (m : List Bool) : List Bool := l.foldl (fun m s => if s.ref = true then m.set s.n.toNat true else m) m
def objV (L : Wd) (m : List Bool) (i : Nat) : List Bool := if m.getD i false = true then markV (L.getD i ([], true)).1 m else m
def passTo (L : Wd) (m : List Bool) (j : Nat) : List Bool := (List.range j).foldl (objV L) m
def passN (L : Wd) (m : List Bool) : Nat → List Bool
  | 0 => m
  | p + 1 => passTo L (passN L m p) L.length
def rootsV (L : Wd) (l : List Int) (m : List Bool) : List Bool := l.foldl (fun m r => if isB L r = true then m.set r.toNat true else m) m
def endV (L : Wd) (roots : List Int) : List Bool := passN L (rootsV L roots (List.replicate L.length false)) L.length
theorem set_SB {m : List Bool} {a k : Nat} : SB (m.set a true) k ↔ (k = a ∧ a < m.length) ∨ SB m k := by
  unfold SB
  rw [List.getD_eq_getElem?_getD, List.getD_eq_getElem?_getD, List.getElem?_set]
  by_cases e : a = k
  · subst e
    rw [if_pos rfl]
    by_cases h : a < m.length
    · rw [if_pos h]; simp [h]
    · rw [if_neg h, List.getElem?_eq_none (by omega)]; simp [h]
  · rw [if_neg e]
    constructor
    · exact .inr
    · rintro (⟨h, _⟩ | h)
      · exact absurd h.symm e
      · exact h
theorem mark_len : ∀ (l : List SlotV) (m : List Bool), (markV l m).length = m.length
  | [], _ => rfl
  | s :: l, m => by
    show (markV l (if s.ref = true then m.set s.n.toNat true else m)).length = _
    rw [mark_len l]
    split
    · rw [List.length_set]
    · rfl
theorem mark_snoc (l : List SlotV) (s : SlotV) (m : List Bool) : markV (l ++ [s]) m = if s.ref = true then (markV l m).set s.n.toNat true else markV l m := by
  unfold markV
  rw [List.foldl_append]
  rfl
theorem mark_SB : ∀ (l : List SlotV) (m : List Bool) (k : Nat), SB (markV l m) k ↔ SB m k ∨ ∃ s ∈ l, s.ref = true ∧ s.n.toNat = k ∧ k < m.length
  | [], m, k => by simp [markV]
  | s :: l, m, k => by
    show SB (markV l (if s.ref = true then m.set s.n.toNat true else m)) k ↔ _
    rw [mark_SB l]
    by_cases hr : s.ref = true
    · rw [if_pos hr, set_SB, List.length_set]
      constructor
      · rintro ((⟨h1, h2⟩ | h) | ⟨q, hq, h⟩)
        · exact .inr ⟨s, List.mem_cons_self .., hr, h1.symm, by omega⟩
        · exact .inl h
        · exact .inr ⟨q, List.mem_cons_of_mem _ hq, h⟩
      · rintro (h | ⟨q, hq, h1, h2, h3⟩)
        · exact .inl (.inr h)
        · rcases List.mem_cons.1 hq with rfl | hq
          · exact .inl (.inl ⟨h2.symm, by omega⟩)
          · exact .inr ⟨q, hq, h1, h2, h3⟩
    · rw [if_neg hr]
      constructor
      · rintro (h | ⟨q, hq, h⟩)
        · exact .inl h
        · exact .inr ⟨q, List.mem_cons_of_mem _ hq, h⟩
      · rintro (h | ⟨q, hq, h1, h⟩)
        · exact .inl h
        · rcases List.mem_cons.1 hq with rfl | hq
          · exact absurd h1 hr
          · exact .inr ⟨q, hq, h1, h⟩
section
variable {L : Wd} {m : List Bool} {C : Nat → Prop}
theorem obj_len (i : Nat) : (objV L m i).length = m.length := by
  unfold objV
  split
  · exact mark_len _ _
  · rfl
theorem obj_up {i k : Nat} (h : SB m k) : SB (objV L m i) k := by
  unfold objV
  split
  · exact (mark_SB _ _ _).2 (.inl h)
  · exact h
theorem pass_snoc (j : Nat) : passTo L m (j + 1) = objV L (passTo L m j) j := by
  unfold passTo
  rw [List.range_succ, List.foldl_append]
  rfl
theorem pass_len : ∀ j, (passTo L m j).length = m.length
  | 0 => rfl
  | j + 1 => by rw [pass_snoc, obj_len, pass_len j]
theorem pass_up {k : Nat} (h : SB m k) : ∀ j, SB (passTo L m j) k
  | 0 => h
  | j + 1 => by rw [pass_snoc]; exact obj_up (pass_up h j)
theorem pass_mono {k : Nat} : ∀ (d j : Nat), SB (passTo L m j) k → SB (passTo L m (j + d)) k
  | 0, _, h => h
  | d + 1, j, h => by
    rw [show j + (d + 1) = (j + d) + 1 by omega, pass_snoc]
    exact obj_up (pass_mono d j h)
/-- What a closed set bears, the passes stay within. -/
def ClosedC (L : Wd) (C : Nat → Prop) : Prop := ∀ (j : Nat) l b, L[j]? = some (l, b) → C j → ∀ s ∈ l, s.ref = true → C s.n.toNat
theorem obj_in (hC : ClosedC L C) (h : ∀ k, SB m k → C k) {i : Nat} : ∀ k, SB (objV L m i) k → C k := by
  intro k hk
  unfold objV at hk
  split at hk
  · rename_i hi
    rcases (mark_SB _ _ _).1 hk with hk | ⟨s, hs, hr, e, _⟩
    · exact h k hk
    · rw [← e]
      rw [List.getD_eq_getElem?_getD] at hs
      cases ho : L[i]? with
      | none => rw [ho] at hs; cases hs
      | some o =>
        rw [ho] at hs
        exact hC i o.1 o.2 ho (h i hi) s hs hr
  · exact h k hk
theorem pass_in (hC : ClosedC L C) (h : ∀ k, SB m k → C k) : ∀ j k, SB (passTo L m j) k → C k
  | 0 => h
  | j + 1 => by rw [pass_snoc]; exact obj_in hC (pass_in hC h j)
theorem pass_step {i j : Nat} (hij : i < j) (hi : SB m i) {l : List SlotV} {b : Bool} (ho : L[i]? = some (l, b)) {s : SlotV} (hs : s ∈ l) (hr : s.ref = true) (hn : s.n.toNat < m.length) : SB (passTo L m j) s.n.toNat := by
  obtain ⟨d, rfl⟩ : ∃ d, j = (i + 1) + d := ⟨j - (i + 1), by omega⟩
  refine pass_mono d _ ?_
  rw [pass_snoc]
  have h1 : (passTo L m i).getD i false = true := pass_up hi i
  unfold objV
  rw [if_pos h1]
  refine (mark_SB _ _ _).2 (.inr ⟨s, ?_, hr, rfl, by rw [pass_len]; exact hn⟩)
  rw [List.getD_eq_getElem?_getD, ho]
  exact hs
theorem roots_len : ∀ (l : List Int) (m : List Bool), (rootsV L l m).length = m.length
  | [], _ => rfl
  | r :: l, m => by
    show (rootsV L l (if isB L r = true then m.set r.toNat true else m)).length = _
    rw [roots_len l]
    split
    · rw [List.length_set]
    · rfl
theorem roots_snoc (l : List Int) (r : Int) (m : List Bool) : rootsV L (l ++ [r]) m = if isB L r = true then (rootsV L l m).set r.toNat true else rootsV L l m := by
  unfold rootsV
  rw [List.foldl_append]
  rfl
theorem roots_SB : ∀ (l : List Int) (m : List Bool) (k : Nat), m.length = L.length → (SB (rootsV L l m) k ↔ SB m k ∨ ∃ r ∈ l, isL L r ∧ r.toNat = k)
  | [], m, k, _ => by simp [rootsV]
  | r :: l, m, k, hm => by
    show SB (rootsV L l (if isB L r = true then m.set r.toNat true else m)) k ↔ _
    by_cases hr : isB L r = true
    · rw [if_pos hr, roots_SB l _ k (by rw [List.length_set]; exact hm), set_SB]
      have hl := isL_lt (isB_iff.1 hr)
      constructor
      · rintro ((⟨h1, h2⟩ | h) | ⟨q, hq, h⟩)
        · exact .inr ⟨r, List.mem_cons_self .., isB_iff.1 hr, h1.symm⟩
        · exact .inl h
        · exact .inr ⟨q, List.mem_cons_of_mem _ hq, h⟩
      · rintro (h | ⟨q, hq, h1, h2⟩)
        · exact .inl (.inr h)
        · rcases List.mem_cons.1 hq with rfl | hq
          · exact .inl (.inl ⟨h2.symm, by omega⟩)
          · exact .inr ⟨q, hq, h1, h2⟩
    · rw [if_neg hr, roots_SB l _ k hm]
      constructor
      · rintro (h | ⟨q, hq, h⟩)
        · exact .inl h
        · exact .inr ⟨q, List.mem_cons_of_mem _ hq, h⟩
      · rintro (h | ⟨q, hq, h1, h⟩)
        · exact .inl h
        · rcases List.mem_cons.1 hq with rfl | hq
          · exact absurd (isB_iff.2 h1) hr
          · exact .inr ⟨q, hq, h1, h⟩
theorem passN_len : ∀ p, (passN L m p).length = m.length
  | 0 => rfl
  | p + 1 => by show (passTo L (passN L m p) L.length).length = _; rw [pass_len, passN_len p]
theorem passN_in (hC : ClosedC L C) (h : ∀ k, SB m k → C k) : ∀ p k, SB (passN L m p) k → C k
  | 0 => h
  | p + 1 => pass_in hC (passN_in hC h p) L.length
theorem passN_up {k : Nat} (h : SB m k) : ∀ p, SB (passN L m p) k
  | 0 => h
  | p + 1 => pass_up (passN_up h p) L.length
/-- How many are not marked. -/
def offV (m : List Bool) : Nat := m.countP fun b => !b
theorem off_lt {m m' : List Bool} (hl : m'.length = m.length) (hup : ∀ k, SB m k → SB m' k) {k : Nat} (h1 : SB m' k) (h2 : ¬ SB m k) : offV m' < offV m := by
  induction m generalizing m' k with
  | nil =>
    have : m' = [] := List.length_eq_zero_iff.1 (by simpa using hl)
    subst this
    exact absurd h1 h2
  | cons b m ih =>
    cases m' with
    | nil => cases hl
    | cons b' m' =>
      have hup' : ∀ k, SB m k → SB m' k := fun k hk => by simpa [SB] using hup (k + 1) (by simpa [SB] using hk)
      have h0 : b = true → b' = true := fun hb => by simpa [SB] using hup 0 (by simpa [SB] using hb)
      have hle : offV m' ≤ offV m := by
        have key : ∀ (m m' : List Bool), m'.length = m.length → (∀ k, SB m k → SB m' k) → offV m' ≤ offV m := by
          intro m
          induction m with
          | nil =>
            intro m' hl _
            have : m' = [] := List.length_eq_zero_iff.1 (by simpa using hl)
            rw [this]
            exact Nat.le_refl _
          | cons b m ih =>
            intro m' hl hup
            cases m' with
            | nil => cases hl
            | cons b' m' =>
              have := ih m' (by simpa using hl) fun k hk => by simpa [SB] using hup (k + 1) (by simpa [SB] using hk)
              have h0 : b = true → b' = true := fun hb => by simpa [SB] using hup 0 (by simpa [SB] using hb)
              unfold offV at *
              cases b <;> cases b' <;> simp_all <;> omega
        exact key m m' (by simpa using hl) hup'
      cases k with
      | zero =>
        have e1 : b' = true := by simpa [SB] using h1
        have e2 : b = false := by
          cases b with
          | false => rfl
          | true => exact absurd (by simp [SB]) h2
        unfold offV at *
        rw [e1, e2]
        simp
        omega
      | succ k =>
        have := ih (by simpa using hl) hup' (by simpa [SB] using h1) (by simpa [SB] using h2)
        unfold offV at *
        cases b <;> cases b' <;> simp_all <;> omega
/-- Behind as many passes as there are objects nothing more is marked. -/
theorem passN_closed (hr : ∀ (j : Nat) l b, L[j]? = some (l, b) → SB (passN L m L.length) j → ∀ s ∈ l, s.ref = true → s.n.toNat < m.length) : ∀ p, offV (passN L m (L.length - p)) ≤ p → p ≤ L.length →
    ∀ (j : Nat) l b, L[j]? = some (l, b) → SB (passN L m L.length) j → ∀ s ∈ l, s.ref = true → SB (passN L m L.length) s.n.toNat := by
  have mono : ∀ d p k, SB (passN L m p) k → SB (passN L m (p + d)) k := by
    intro d
    induction d with
    | zero => exact fun _ _ h => h
    | succ d ih => exact fun p k h => pass_up (ih p k h) L.length
  intro p
  induction p with
  | zero =>
    intro h0 _ j l b ho hj s hs hsr
    rw [Nat.sub_zero] at h0
    have hn := hr j l b ho hj s hs hsr
    refine Classical.byContradiction fun hc => ?_
    have : 0 < offV (passN L m L.length) := by
      unfold offV
      rw [List.countP_pos_iff]
      have hl := passN_len (L := L) (m := m) L.length
      refine ⟨(passN L m L.length)[s.n.toNat]'(by omega), List.getElem_mem _, ?_⟩
      cases hv : (passN L m L.length)[s.n.toNat]'(by omega) with
      | false => rfl
      | true =>
        exfalso
        apply hc
        unfold SB
        rw [List.getD_eq_getElem?_getD, List.getElem?_eq_getElem (by omega), hv]
        rfl
    omega
  | succ p ih =>
    intro h0 hp
    by_cases hch : ∃ k, SB (passN L m (L.length - (p + 1) + 1)) k ∧ ¬ SB (passN L m (L.length - (p + 1))) k
    · obtain ⟨k, h1, h2⟩ := hch
      have h3 := off_lt (by rw [passN_len, passN_len]) (fun k hk => mono 1 _ k hk) h1 h2
      refine ih ?_ (by omega)
      rw [show L.length - p = L.length - (p + 1) + 1 by omega]
      omega
    · have hst : ∀ d k, SB (passN L m (L.length - (p + 1) + d)) k → SB (passN L m (L.length - (p + 1))) k := by
        have hsame : passN L m (L.length - (p + 1) + 1) = passN L m (L.length - (p + 1)) := by
          have hlen : (passN L m (L.length - (p + 1) + 1)).length = (passN L m (L.length - (p + 1))).length := by rw [passN_len, passN_len]
          refine List.ext_getElem hlen fun k h1 h2 => ?_
          have a : SB (passN L m (L.length - (p + 1) + 1)) k ↔ SB (passN L m (L.length - (p + 1))) k :=
            ⟨fun h => Classical.byContradiction fun hn => hch ⟨k, h, hn⟩, fun h => mono 1 _ k h⟩
          unfold SB at a
          rw [List.getD_eq_getElem?_getD, List.getD_eq_getElem?_getD, List.getElem?_eq_getElem h1, List.getElem?_eq_getElem h2, Option.getD_some, Option.getD_some] at a
          exact Bool.eq_iff_iff.2 a
        intro d
        induction d with
        | zero => exact fun _ h => h
        | succ d ihd =>
          intro k hk
          have e : ∀ d, passN L m (L.length - (p + 1) + d) = passN L m (L.length - (p + 1)) := by
            intro d
            induction d with
            | zero => rfl
            | succ d ih2 =>
              show passTo L (passN L m (L.length - (p + 1) + d)) L.length = _
              rw [ih2]
              exact hsame
          rw [e] at hk
          exact hk
      intro j l b ho hj s hs hsr
      have hn := hr j l b ho hj s hs hsr
      have hj2 := hst (p + 1) j (by rw [show L.length - (p + 1) + (p + 1) = L.length by omega]; exact hj)
      have h4 := pass_step (L := L) (j := L.length) (List.getElem?_eq_some_iff.1 ho).1 hj2 ho hs hsr (by rw [passN_len]; exact hn)
      have h5 := mono p (L.length - (p + 1) + 1) _ h4
      rwa [show L.length - (p + 1) + 1 + p = L.length by omega] at h5
end
section
variable {L : Wd} {roots : List Int}
theorem end_len : (endV L roots).length = L.length := by unfold endV; rw [passN_len, roots_len, List.length_replicate]
theorem closed_live (hc : ClosedL L) : ClosedC L (fun i => isL L (i : Int)) := by
  intro j l b ho hj s hs hr
  obtain ⟨_, o, h1, h2⟩ := hj
  rw [Int.toNat_natCast, ho] at h1
  injection h1 with h1
  subst h1
  simp only at h2
  subst h2
  have h3 := hc j l ho s hs hr
  rw [Int.toNat_of_nonneg h3.1]
  exact h3
theorem roots_live : ∀ k, SB (rootsV L roots (List.replicate L.length false)) k → isL L (k : Int) := by
  intro k hk
  rcases (roots_SB roots _ k (by simp)).1 hk with h | ⟨r, _, h1, rfl⟩
  · unfold SB at h
    rw [List.getD_eq_getElem?_getD, List.getElem?_replicate] at h
    split at h <;> simp at h
  · rw [Int.toNat_of_nonneg h1.1]
    exact h1
/-- What is marked in the end is what is reached. -/
theorem end_reach (hc : ClosedL L) (i : Nat) : SB (endV L roots) i ↔ ReachL L roots i := by
  have live : ∀ p k, SB (passN L (rootsV L roots (List.replicate L.length false)) p) k → isL L (k : Int) := passN_in (closed_live hc) roots_live
  constructor
  · intro h C h1 h2
    have := passN_in (L := L) (C := fun k => isL L (k : Int) ∧ C k) (m := rootsV L roots (List.replicate L.length false)) (fun j l b ho hj s hs hr => ?_) (fun k hk => ?_) L.length i h
    · exact this.2
    · obtain ⟨⟨_, o, e1, e2⟩, hCj⟩ := hj
      rw [Int.toNat_natCast, ho] at e1
      injection e1 with e1
      subst e1
      simp only at e2
      subst e2
      have h3 := hc j l ho s hs hr
      exact ⟨by rw [Int.toNat_of_nonneg h3.1]; exact h3, h2 j l ho hCj s hs hr⟩
    · rcases (roots_SB roots _ k (by simp)).1 hk with h | ⟨r, hr, hl, rfl⟩
      · have := roots_live k hk
        unfold SB at h
        rw [List.getD_eq_getElem?_getD, List.getElem?_replicate] at h
        split at h <;> simp at h
      · exact ⟨by rw [Int.toNat_of_nonneg hl.1]; exact hl, h1 r hr hl⟩
  · intro h
    refine h (fun k => SB (endV L roots) k) (fun r hr hl => ?_) fun j l ho hj s hs hsr => ?_
    · exact passN_up ((roots_SB roots _ _ (by simp)).2 (.inr ⟨r, hr, hl, rfl⟩)) _
    · have hlen : (rootsV L roots (List.replicate L.length false)).length = L.length := by rw [roots_len, List.length_replicate]
      refine passN_closed (fun j l b ho hj s hs hsr => ?_) L.length ?_ (Nat.le_refl _) j l false ho hj s hs hsr
      · have h3 := closed_live hc j l b ho (live _ j hj) s hs hsr
        have := isL_lt h3
        rw [hlen]
        omega
      · rw [Nat.sub_self]
        have := List.countP_le_length (p := fun b => !b) (l := rootsV L roots (List.replicate L.length false))
        rw [hlen] at this
        exact this
end
end Go.Proofs.Ytcpmdbdppdnkkaa
