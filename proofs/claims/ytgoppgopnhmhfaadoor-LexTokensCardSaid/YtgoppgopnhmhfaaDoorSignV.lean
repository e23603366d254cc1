/- Inserts into a map in whatever order: a law for a region that draws. -/
import Derived.Test.YtgoppgopnhmhfaaDoorLexV
import Derived.Maps.OwnSet
import Derived.RegionTactic
import Derived.WalkKit
import Derived.DeepKeys4
namespace Go.Proofs.YtgoppgopnhmhfaaDoor
open Go.RowKit Go.Maps

/-- The inserts that are left, beside the two last operations. -/
def Left (top : Nat) (todo : List Nat) (listed : Array Bool) : Prop := ∀ j, listed.getD j true = false ↔ (j ∈ todo ∨ j = top ∨ j = top + 1)

theorem left_size {top : Nat} {todo : List Nat} {listed : Array Bool} (h : Left top todo listed) {j : Nat} (hj : j ∈ todo) : j < listed.size := by
  have := (h j).2 (.inl hj)
  rcases Nat.lt_or_ge j listed.size with h' | h'
  · exact h'
  · simp [h'] at this

theorem left_getD {listed : Array Bool} {j : Nat} (hj : listed.getD j true = false) : listed.getD j false = false := by
  rcases Nat.lt_or_ge j listed.size with h' | h'
  · simp [h'] at hj ⊢; exact hj
  · simp [h']

theorem left_set {top : Nat} {todo : List Nat} {listed : Array Bool} (h : Left top todo listed) (hn : todo.Nodup) {i : Nat} (hi : i ∈ todo) (ht : ∀ j ∈ todo, j < top) : Left top (todo.erase i) (listed.setIfInBounds i true) := by
  intro j
  by_cases hij : i = j
  · subst hij
    have hlt := left_size h hi
    constructor
    · intro h2
      simp [hlt] at h2
    · rintro (h2 | h2 | h2)
      · exact absurd h2 hn.not_mem_erase
      · have := ht i hi; omega
      · have := ht i hi; omega
  · rw [getD_set_ne true hij, h j, List.mem_erase_of_ne (Ne.symm hij)]

section
variable {P : Program} {ops : Array Oper} {Q : Exit → Act → World → Prop} {a : Act}

theorem wpAny_inserts (B t k e top fuel : Nat) (K : Keyed P k) (ht : P.underlying t = some (.map k e)) (I : List Nat) (X : Nat → Value) (kl : Nat → Lit)
    (hop : ∀ i ∈ I, i < top ∧ ∃ o m x u, ops[i]? = some o ∧ o.guard = none ∧ o.dst = none ∧ o.op = .insert t m x u ∧ a.eval m = .map (some B) ∧ a.eval x = X i ∧ a.eval u = .agg #[] ∧ keyOf P k (X i) = some (kl i) ∧ ∀ y ∈ o.after, y.on < top ∧ y.on ∉ I)
    (htop : ∃ o, ops[top]? = some o ∧ ∀ j ∈ I, ∃ y ∈ o.after, y.on = j ∧ Region.binds .any y = true)
    (hnext : ∃ o, ops[top + 1]? = some o ∧ ∃ y ∈ o.after, y.on = top ∧ Region.binds .any y = true)
    (w0 : World) (hB : w0.heap.size ≤ B)
    (sz : Nat) (hfin : ∀ listed w D, listed.size = sz → Left top [] listed → w.ownsMap (H := Unit) P k unitElem B (I.length + 0) D → Below w0.heap.size w0 w → (∀ key, Maps.has D key = true ↔ ∃ i ∈ I, kl i = key) → wpAny P .any ops Q fuel listed a w) :
    ∀ (n m : Nat) (todo : List Nat) (listed : Array Bool) (w : World) (D : DataW Unit), todo.length = n → listed.size = sz → Left top todo listed → todo.Nodup → (∀ i ∈ todo, i ∈ I) →
      w.ownsMap P k unitElem B m D → m + n = I.length → I.length < 100 → Below w0.heap.size w0 w → (∀ i ∈ I, i ∉ todo → Maps.has D (kl i) = true) → (∀ key, Maps.has D key = true → ∃ i ∈ I, kl i = key) →
      wpAny P .any ops Q (n + fuel) listed a w := by
  intro n
  induction n with
  | zero =>
    intro m todo listed w D hl hsz hL hn hI hown hm hlen hb h1 h2
    have : todo = [] := List.eq_nil_of_length_eq_zero hl
    subst this
    rw [Nat.zero_add]
    refine hfin listed w D hsz hL (hown.mono (by omega)) hb fun key => ⟨h2 key, ?_⟩
    rintro ⟨i, hi, rfl⟩
    exact h1 i hi (by simp)
  | succ n ih =>
    intro m todo listed w D hl hsz hL hn hI hown hm hlen hb h1 h2
    rw [show n + 1 + fuel = (n + fuel) + 1 from by omega]
    have hmem : ∀ i ∈ Region.ready .any ops listed, i ∈ todo := by
      intro i hi
      obtain ⟨hf, o, ho, hall⟩ := mem_ready.1 hi
      rcases (hL i).1 hf with h | rfl | rfl
      · exact h
      · exfalso
        obtain ⟨o', ho', hj⟩ := htop
        rw [ho] at ho'
        cases ho'
        cases todo with
        | nil => simp at hl
        | cons j r =>
          obtain ⟨y, hy, hon, hbi⟩ := hj j (hI j (by simp))
          have h3 := hall y hy hbi
          rw [hon, left_getD ((hL j).2 (.inl (by simp)))] at h3
          cases h3
      · exfalso
        obtain ⟨o', ho', y, hy, hon, hbi⟩ := hnext
        rw [ho] at ho'
        cases ho'
        have h3 := hall y hy hbi
        rw [hon, left_getD ((hL top).2 (.inr (.inl rfl)))] at h3
        cases h3
    refine ⟨?_, ?_⟩
    · intro h0
      exfalso
      cases todo with
      | nil => simp at hl
      | cons j r =>
        obtain ⟨hjt, o, m', x, u, ho, _, _, _, _, _, _, _, haft⟩ := hop j (hI j (by simp))
        have hr : j ∈ Region.ready .any ops listed := by
          refine mem_ready.2 ⟨(hL j).2 (.inl (by simp)), o, ho, fun y hy _ => ?_⟩
          obtain ⟨hy1, hy2⟩ := haft y hy
          have hts : top < listed.size := by
            have := (hL top).2 (.inr (.inl rfl))
            rcases Nat.lt_or_ge top listed.size with h' | h'
            · exact h'
            · simp [h'] at this
          have hne : ¬ listed.getD y.on true = false := by
            rw [hL y.on]
            rintro (h | h | h)
            · exact hy2 (hI _ h)
            · omega
            · omega
          have hys : y.on < listed.size := by omega
          simp [hys] at hne ⊢
          exact hne
        rw [h0] at hr
        cases hr
    · intro i hi
      have hit := hmem i hi
      obtain ⟨hjt, o, m', x, u, ho, hg, hd, hop', hem, hex, heu, hkey, _⟩ := hop i (hI i hit)
      obtain ⟨w', hrun, hown', hgrow⟩ := hown.update K ht (by unfold maxLen; omega) hkey unitElem_mk
      unfold wpOp
      rw [ho]
      have hw : Region.wanted o (yielded ops a.tmps) = true := by simp [Region.wanted, hg]
      simp only [hw, if_true]
      refine .inl ?_
      unfold Oper.wp
      simp [execOp, hop', hem, hex, heu, hrun, Result.andThen, Oper.upon]
      have ea : a.put o.dst undef = a := by rw [hd]; rfl
      rw [ea]
      have hl2 : (todo.erase i).length = n := by rw [List.length_erase_of_mem hit]; omega
      refine ih (m + 1) (todo.erase i) (listed.setIfInBounds i true) w' _ hl2 (by rw [Array.size_setIfInBounds]; exact hsz) (left_set hL hn hit fun j hj => (hop j (hI j hj)).1) (hn.erase i) (fun j hj => hI j (List.mem_of_mem_erase hj)) hown' (by omega) hlen
        (hb.grown hgrow (by exact hb.size) (fun j hj => by cases hj; exact hB)) ?_ ?_
      · intro j hj hjn
        by_cases hk : kl j = kl i
        · rw [hk]; exact has_put_same hown.isMap (K.key hkey) _
        · rw [has_put_other hk]
          refine h1 j hj fun hjt => hjn ?_
          rw [List.mem_erase_of_ne]
          · exact hjt
          · rintro rfl; exact hk rfl
      · intro key hkey2
        by_cases hk : key = kl i
        · exact ⟨i, hI i hit, hk.symm⟩
        · rw [has_put_other hk] at hkey2
          exact h2 key hkey2
end
end Go.Proofs.YtgoppgopnhmhfaaDoor
