/- What the program's tree keeps, without a program in sight. -/
import Derived.Test.YtldcfglkcifklaaShV
namespace Go.Proofs.Ytldcfglkcifklaa
open Go.RowKit

abbrev Bs := List UInt8
abbrev Num := List (Bs × Nat)
def look : Num → Bs → Option Nat
  | [], _ => none
  | p :: l, s => if p.1 = s then some p.2 else look l s
/-- A step's key. -/
def stepB (s n : Nat) : Bs := keyBytes [.int .i64 s, .int .i64 n]
/-- Where a name of number n stands in a shape: ways begin at 1. -/
def placeOf (NL l : List ByteArray) : Nat → Option Nat
  | 0 => none
  | n + 1 => (NL[n]?).bind (slotV l)

theorem slotV_snoc {l : List ByteArray} {x y : ByteArray} : slotV (l ++ [x]) y = match slotV l y with | some i => some i | none => if x = y then some l.length else none := by
  unfold slotV
  rw [List.findIdx?_append]
  cases h : List.findIdx? (fun z => decide (z = y)) l with
  | some _ => rfl
  | none =>
    by_cases hx : x = y
    · simp [hx]
    · simp [hx, List.findIdx?_cons]
theorem slotV_notin {l : List ByteArray} {x : ByteArray} (h : x ∉ l) : slotV l x = none := by
  have := slotV_no.2 h
  cases e : slotV l x with
  | none => rfl
  | some _ => rw [e] at this; cases this
theorem rowV_notin {T : List (List ByteArray)} {l : List ByteArray} (h : l ∉ T) : rowV T l = none := rowV_none fun _ hi e => h (e ▸ List.getElem_mem hi)
theorem rowV_nomem {T : List (List ByteArray)} {l : List ByteArray} (h : rowV T l = none) : l ∉ T := fun hm => by
  have := List.findIdx?_eq_none_iff.1 h l hm
  simp at this
theorem rowV_snoc {T : List (List ByteArray)} {l m : List ByteArray} : rowV (T ++ [m]) l = match rowV T l with | some i => some i | none => if m = l then some T.length else none := by
  unfold rowV
  rw [List.findIdx?_append]
  cases h : List.findIdx? (fun z => decide (z = l)) T with
  | some _ => rfl
  | none =>
    by_cases hx : m = l
    · simp [hx]
    · simp [hx, List.findIdx?_cons]
theorem nodup_at {α : Type} {l : List α} (h : l.Nodup) {i j : Nat} (hi : i < l.length) (hj : j < l.length) (e : l[i] = l[j]) : i = j := (List.getElem_inj h).1 e
theorem snoc_inj {α : Type} {a b : List α} {x y : α} (h : a ++ [x] = b ++ [y]) : a = b ∧ x = y := by
  have := List.append_inj' h rfl
  exact ⟨this.1, by simpa using this.2⟩

/-- The names, the steps, the shapes. -/
structure KeptOk (NL : List ByteArray) (M : Num) (T : List (List ByteArray)) : Prop where
  nd : NL.Nodup
  all : ∀ l ∈ T, ∀ x ∈ l, x ∈ NL
  pre : ∀ l ∈ T, l = [] ∨ ∃ m ∈ T, ∃ y, l = m ++ [y]
  key : ∀ p ∈ M, ∃ s n, p.1 = stepB s n ∧ s < T.length ∧ n < NL.length
  made : ∀ s (hs : s < T.length) n (hn : n < NL.length), look M (stepB s n) = rowV T (T[s] ++ [NL[n]])
  mlen : M.length ≤ T.length
  to : ∀ p ∈ M, p.2 < T.length
/-- Keys that are the same are of the same step. -/
def StepInj : Prop := ∀ s n s' n', s < 1000000000 → n < 1000000000 → s' < 1000000000 → n' < 1000000000 → stepB s n = stepB s' n' → s = s' ∧ n = n'
theorem look_none {M : Num} {k : Bs} (h : ∀ p ∈ M, p.1 ≠ k) : look M k = none := by
  induction M with
  | nil => rfl
  | cons p M ih =>
    unfold look
    rw [if_neg (h p (by simp))]
    exact ih fun q hq => h q (by simp [hq])
theorem look_mem {M : Num} {k : Bs} {v : Nat} (h : look M k = some v) : ∃ p ∈ M, p.1 = k ∧ p.2 = v := by
  induction M with
  | nil => cases h
  | cons p M ih =>
    unfold look at h
    by_cases e : p.1 = k
    · rw [if_pos e] at h
      injection h with h
      exact ⟨p, by simp, e, h⟩
    · rw [if_neg e] at h
      obtain ⟨q, hq, h⟩ := ih h
      exact ⟨q, by simp [hq], h⟩
theorem kept_start : KeptOk [] [] [[]] := ⟨by simp, by simp, by simp, by simp, fun _ _ n hn => absurd hn (Nat.not_lt_zero n), by simp, by simp⟩
section
variable {NL : List ByteArray} {M : Num} {T : List (List ByteArray)} {x : ByteArray}
theorem KeptOk.name (HI : StepInj) (h : KeptOk NL M T) (hx : x ∉ NL) (hT : T.length < 1000000000) (hN : NL.length < 999999999) : KeptOk (NL ++ [x]) M T := by
  refine ⟨?_, fun l hl y hy => List.mem_append_left _ (h.all l hl y hy), h.pre, fun p hp => ?_, fun s hs n hn => ?_, h.mlen, h.to⟩
  · rw [List.nodup_append]
    exact ⟨h.nd, by simp, fun a ha b hb => by rw [List.mem_singleton] at hb; subst hb; rintro rfl; exact hx ha⟩
  · obtain ⟨s, n, e, h1, h2⟩ := h.key p hp
    exact ⟨s, n, e, h1, by simp; omega⟩
  · have hn' : n < NL.length + 1 := by simpa using hn
    by_cases e : n = NL.length
    · subst e
      rw [look_none fun p hp e => ?_, rowV_notin fun hm => ?_]
      · have := h.all _ hm ((NL ++ [x])[NL.length]) (by simp)
        simp at this
        exact hx this
      · obtain ⟨s', n', e', h1, h2⟩ := h.key p hp
        rw [e'] at e
        have := (HI s' n' s NL.length (by omega) (by omega) (by omega) (by omega) e).2
        omega
    · have hn2 : n < NL.length := by omega
      rw [List.getElem_append_left hn2]
      exact h.made s hs n hn2
theorem KeptOk.shape (HI : StepInj) (h : KeptOk NL M T) (hd : T.Nodup) {s n : Nat} (hs : s < T.length) (hn : n < NL.length) (hr : rowV T (T[s] ++ [NL[n]]) = none) (hT : T.length < 999999999) (hN : NL.length < 1000000000) : KeptOk NL ((stepB s n, T.length) :: M) (T ++ [T[s] ++ [NL[n]]]) := by
  have hno := rowV_nomem hr
  refine ⟨h.nd, fun l hl y hy => ?_, fun l hl => ?_, fun p hp => ?_, fun s' hs' n' hn' => ?_, by have := h.mlen; simp; omega, fun p hp => ?_⟩
  · rcases List.mem_append.1 hl with hl | hl
    · exact h.all l hl y hy
    · rw [List.mem_singleton] at hl
      subst hl
      rcases List.mem_append.1 hy with hy | hy
      · exact h.all _ (List.getElem_mem hs) y hy
      · rw [List.mem_singleton] at hy
        exact hy ▸ List.getElem_mem hn
  · rcases List.mem_append.1 hl with hl | hl
    · rcases h.pre l hl with e | ⟨m, hm, y, e⟩
      · exact .inl e
      · exact .inr ⟨m, List.mem_append_left _ hm, y, e⟩
    · rw [List.mem_singleton] at hl
      exact .inr ⟨T[s], List.mem_append_left _ (List.getElem_mem hs), _, hl⟩
  · rcases List.mem_cons.1 hp with rfl | hp
    · exact ⟨s, n, rfl, by simp; omega, hn⟩
    · obtain ⟨s', n', e, h1, h2⟩ := h.key p hp
      exact ⟨s', n', e, by simp; omega, h2⟩
  · have hs2 : s' < T.length + 1 := by simpa using hs'
    rw [rowV_snoc]
    unfold look
    by_cases e : s' = T.length
    · subst e
      rw [if_neg fun e => by have := (HI s n T.length n' (by omega) (by omega) (by omega) (by omega) e).1; omega, look_none fun p hp e => ?_]
      · have hg : (T ++ [T[s] ++ [NL[n]]])[T.length] = T[s] ++ [NL[n]] := by simp
        rw [hg]
        have hnm : T[s] ++ [NL[n]] ++ [NL[n']] ∉ T := fun hm => by
          rcases h.pre _ hm with e | ⟨m, hm', y, e⟩
          · simp at e
          · exact hno ((snoc_inj e).1 ▸ hm')
        rw [rowV_notin hnm]
        simp only
        rw [if_neg fun e => by have := congrArg List.length e; simp at this]
      · obtain ⟨a, b, e', h1, h2⟩ := h.key p hp
        rw [e'] at e
        have := (HI a b T.length n' (by omega) (by omega) (by omega) (by omega) e).1
        omega
    · have hs3 : s' < T.length := by omega
      rw [List.getElem_append_left hs3]
      by_cases e2 : s = s' ∧ n = n'
      · obtain ⟨rfl, rfl⟩ := e2
        rw [if_pos rfl, hr]
        simp
      · rw [if_neg fun e => e2 (HI s n s' n' (by omega) (by omega) (by omega) (by omega) e), h.made s' hs3 n' hn']
        cases hq : rowV T (T[s'] ++ [NL[n']]) with
        | some _ => rfl
        | none =>
          simp only
          rw [if_neg fun e => ?_]
          have := snoc_inj e
          exact e2 ⟨nodup_at hd hs hs3 this.1, nodup_at h.nd hn hn' this.2⟩
  · rcases List.mem_cons.1 hp with rfl | hp
    · simp
    · have := h.to p hp
      simp
      omega
end
theorem placeOf_succ {NL l : List ByteArray} {n : Nat} : placeOf NL l (n + 1) = (NL[n]?).bind (slotV l) := rfl
/-- A new name changes no place. -/
theorem placeOf_name {NL l : List ByteArray} {x : ByteArray} (hx : x ∉ l) : ∀ n, placeOf (NL ++ [x]) l n = placeOf NL l n
  | 0 => rfl
  | n + 1 => by
    rw [placeOf_succ, placeOf_succ]
    by_cases h : n < NL.length
    · rw [List.getElem?_append_left h]
    · by_cases e : n = NL.length
      · subst e
        simp [slotV_notin hx]
      · rw [List.getElem?_eq_none (by simp; omega), List.getElem?_eq_none (by omega)]
/-- One name more: one place more. -/
theorem placeOf_snoc {NL l : List ByteArray} {n : Nat} (hd : NL.Nodup) (hn : n < NL.length) (hx : NL[n] ∉ l) (m : Nat) : placeOf NL (l ++ [NL[n]]) m = if m = n + 1 then some l.length else placeOf NL l m := by
  cases m with
  | zero => rfl
  | succ m =>
    rw [placeOf_succ, placeOf_succ]
    by_cases h : m < NL.length
    · rw [List.getElem?_eq_getElem h]
      simp only [Option.bind_some]
      rw [slotV_snoc]
      by_cases e : m = n
      · subst e
        rw [slotV_notin hx, if_pos rfl, if_pos rfl]
      · have hne : NL[n] ≠ NL[m] := fun e' => e (nodup_at hd h hn e'.symm)
        rw [if_neg hne, if_neg (show ¬ m + 1 = n + 1 by omega)]
        cases slotV l NL[m] <;> rfl
    · rw [List.getElem?_eq_none (by omega)]
      have : ¬ (m + 1 = n + 1) := by omega
      rw [if_neg this]
      rfl
theorem placeOf_at {NL l : List ByteArray} {n : Nat} (hn : n < NL.length) : placeOf NL l (n + 1) = slotV l NL[n] := by
  rw [placeOf_succ, List.getElem?_eq_getElem hn]
  rfl
theorem slotV_mem_lt {NL : List ByteArray} {x : ByteArray} (h : x ∈ NL) : ∃ n, ∃ hn : n < NL.length, slotV NL x = some n ∧ NL[n] = x := by
  obtain ⟨n, hn⟩ := Option.isSome_iff_exists.1 (slotV_some.2 h)
  obtain ⟨h1, h2⟩ := slotV_lt hn
  exact ⟨n, h1, hn, h2⟩
end Go.Proofs.Ytldcfglkcifklaa
