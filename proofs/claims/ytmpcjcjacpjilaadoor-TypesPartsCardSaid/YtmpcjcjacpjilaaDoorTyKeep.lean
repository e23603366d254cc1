/- Types as they are kept: what is kept is normal, and a normal type is kept as it is; without a program in sight. -/
import Derived.Test.YtmpcjcjacpjilaaDoorTyNorm
namespace Go.Proofs.YtmpcjcjacpjilaaDoor

def tagsL : List Int := [1, 2, 3, 4, 5, 6]

/-- The first one of a kind. -/
def firstK (all : List Ty) (k : Int) : Option Ty := all.find? fun x => kindT x == k

def madeV (l : List Ty) : Option Ty :=
  match l with
  | [] => none
  | [x] => some x
  | x :: y :: r => some (mkT 7 [] [] (x :: y :: r))

def alikeV (n : Nat) (all : List Ty) : Bool := all.all fun x => match firstK all (kindT x) with | some y => sameT n y x | none => false

def unionV (n : Nat) (ks : List Ty) : Option Ty :=
  if (ks.flatMap membersT).any (fun x => kindT x == 0) then none
  else if alikeV n (ks.flatMap membersT) then madeV (tagsL.filterMap (firstK (ks.flatMap membersT))) else none

def funV (ks : List Ty) : Option Ty := if ks.length = 2 then some (mkT 6 [] [] ks) else none

def normT : Nat → Ty → Option Ty
  | 0, _ => none
  | n + 1, D =>
    if 0 ≤ kindT D ∧ kindT D ≤ 4 then some (mkT (kindT D) [] [] [])
    else if kindT D = 5 ∨ kindT D = 6 ∨ kindT D = 7 then
      match (kidsT D).mapM (normT n) with
      | none => none
      | some ks => if kindT D = 5 then recordV (namesT D) ks else if kindT D = 6 then funV ks else unionV n ks
    else none

theorem mapM_mem {f : Ty → Option Ty} : ∀ {l m : List Ty}, l.mapM f = some m → (∀ y ∈ m, ∃ x ∈ l, f x = some y) ∧ m.length = l.length
  | [], m, h => by
    simp at h
    subst h
    simp
  | x :: l, m, h => by
    rw [List.mapM_cons] at h
    simp only [Option.bind_eq_bind, Option.bind_eq_some_iff, Option.pure_def, Option.some.injEq] at h
    obtain ⟨y, hy, r, hr, rfl⟩ := h
    obtain ⟨h1, h2⟩ := mapM_mem hr
    refine ⟨fun z hz => ?_, by simp [h2]⟩
    rcases List.mem_cons.1 hz with rfl | hz
    · exact ⟨x, List.mem_cons_self .., hy⟩
    · obtain ⟨w, hw, he⟩ := h1 z hz
      exact ⟨w, List.mem_cons_of_mem _ hw, he⟩

theorem mapM_self {f : Ty → Option Ty} : ∀ {l : List Ty}, (∀ x ∈ l, f x = some x) → l.mapM f = some l
  | [], _ => rfl
  | x :: l, h => by
    rw [List.mapM_cons, h x (List.mem_cons_self ..), mapM_self fun y hy => h y (List.mem_cons_of_mem _ hy)]
    rfl

theorem first_mem {all : List Ty} {k : Int} {x : Ty} (h : firstK all k = some x) : x ∈ all ∧ kindT x = k :=
  ⟨List.mem_of_find?_eq_some h, by simpa using List.find?_some h⟩

theorem tags_rise : tagsL.Pairwise (· < ·) := by decide

/-- The kinds of what is picked rise. -/
theorem picked_rise (all : List Ty) : (tagsL.filterMap (firstK all)).Pairwise fun a b => kindT a < kindT b := by
  rw [List.pairwise_filterMap]
  refine tags_rise.imp fun {a b} hab x hx y hy => ?_
  rw [(first_mem hx).2, (first_mem hy).2]
  exact hab

theorem picked_mem {all : List Ty} {x : Ty} (h : x ∈ tagsL.filterMap (firstK all)) : x ∈ all ∧ 1 ≤ kindT x ∧ kindT x ≤ 6 := by
  rw [List.mem_filterMap] at h
  obtain ⟨k, hk, hx⟩ := h
  obtain ⟨h1, h2⟩ := first_mem hx
  refine ⟨h1, ?_⟩
  rw [h2]
  simp [tagsL] at hk
  omega

/-- A normal type's members are normal, and no unions. -/
theorem members_norm {n : Nat} {D : Ty} (h : NormT n D) : ∀ t ∈ membersT D, NormT n t ∧ kindT t ≠ 7 := by
  cases n with
  | zero => exact h.elim
  | succ n => exact (members_show h).2.2

theorem norm_kind {n : Nat} {D : Ty} (h : NormT n D) : 0 ≤ kindT D ∧ kindT D ≤ 7 := by
  cases n with
  | zero => exact h.elim
  | succ n =>
    rcases h with ⟨k, h0, h4, rfl⟩ | ⟨ns, ks, rfl, _⟩ | ⟨a, b, rfl, _⟩ | ⟨ks, rfl, _⟩
    · rw [kind_mk]; omega
    · rw [kind_mk]; omega
    · rw [kind_mk]; omega
    · rw [kind_mk]; omega

theorem made_norm {n : Nat} {l : List Ty} {u : Ty} (hl : ∀ x ∈ l, NormT n x ∧ 1 ≤ kindT x ∧ kindT x ≤ 6) (hr : l.Pairwise fun a b => kindT a < kindT b) (h : madeV l = some u) : NormT (n + 1) u := by
  match l, h with
  | [x], h =>
    injection h with h
    subst h
    exact norm_mono (hl x (List.mem_cons_self ..)).1 (Nat.le_succ n)
  | x :: y :: r, h =>
    injection h with h
    subst h
    exact .inr (.inr (.inr ⟨_, rfl, by simp, hl, hr⟩))

theorem union_norm {n : Nat} {ks : List Ty} {u : Ty} (hk : ∀ x ∈ ks, NormT n x) (h : unionV n ks = some u) : NormT (n + 1) u := by
  unfold unionV at h
  split at h
  · cases h
  split at h
  · refine made_norm (fun x hx => ?_) (picked_rise _) h
    obtain ⟨h1, h2⟩ := picked_mem hx
    obtain ⟨y, hy, hxy⟩ := List.mem_flatMap.1 h1
    exact ⟨(members_norm (hk y hy) x hxy).1, h2⟩
  · cases h

theorem record_norm {n : Nat} {ns : List (List UInt8)} {ks : List Ty} {u : Ty} (hk : ∀ x ∈ ks, NormT n x) (h : recordV ns ks = some u) : NormT (n + 1) u := by
  unfold recordV at h
  split at h
  · cases h
  · rename_i hc
    have h1 : ns.length = ks.length ∧ ns.length ≤ 16 := by omega
    rw [Option.map_eq_some_iff] at h
    obtain ⟨l, hl, rfl⟩ := h
    obtain ⟨g1, g2, g3, g4⟩ := recGo_some h1.1 List.Pairwise.nil hl
    have hm : ∀ p ∈ l, p.1 ∈ ns ∧ p.2 ∈ ks := fun p hp => by
      rcases (g2 p).1 hp with h | h
      · cases h
      · exact List.of_mem_zip h
    refine .inr (.inl ⟨_, _, rfl, by simp, by simp [g4]; omega, ?_, ?_, ?_⟩)
    · intro s hs
      obtain ⟨p, hp, rfl⟩ := List.mem_map.1 hs
      exact g3 _ (hm p hp).1
    · rw [List.pairwise_map]
      exact g1
    · intro x hx
      obtain ⟨p, hp, rfl⟩ := List.mem_map.1 hx
      exact hk _ (hm p hp).2

/-- What is kept is normal. -/
theorem norm_normal {n : Nat} {D u : Ty} (h : normT n D = some u) : NormT n u := by
  induction n generalizing D u with
  | zero => cases h
  | succ n ih =>
    rw [normT] at h
    split at h
    · rename_i hk
      injection h with h
      subst h
      exact .inl ⟨_, hk.1, hk.2, rfl⟩
    split at h
    · split at h
      · cases h
      · rename_i ks hks
        have hn : ∀ x ∈ ks, NormT n x := fun x hx => by
          obtain ⟨y, _, hy⟩ := (mapM_mem hks).1 x hx
          exact ih hy
        split at h
        · exact record_norm hn h
        split at h
        · unfold funV at h
          split at h
          · rename_i hl
            injection h with h
            subst h
            match ks, hl with
            | [a, b], _ => exact .inr (.inr (.inl ⟨a, b, rfl, hn a (by simp), hn b (by simp)⟩))
          · cases h
        · exact union_norm hn h
    · cases h

/-- Members without unions are themselves. -/
theorem flat_self : ∀ {ks : List Ty}, (∀ x ∈ ks, kindT x ≠ 7) → ks.flatMap membersT = ks
  | [], _ => rfl
  | x :: ks, h => by
    rw [List.flatMap_cons, flat_self fun y hy => h y (List.mem_cons_of_mem _ hy)]
    unfold membersT
    rw [if_neg (h x (List.mem_cons_self ..))]
    rfl

theorem first_rise : ∀ {ks : List Ty} {x : Ty}, ks.Pairwise (fun a b => kindT a < kindT b) → x ∈ ks → firstK ks (kindT x) = some x
  | [], _, _, h => by cases h
  | y :: ks, x, hr, h => by
    rw [List.pairwise_cons] at hr
    unfold firstK
    rw [List.find?_cons]
    rcases List.mem_cons.1 h with rfl | h
    · simp
    · have := hr.1 x h
      have e : (kindT y == kindT x) = false := by rw [beq_eq_false_iff_ne]; omega
      rw [e]
      exact first_rise hr.2 h

theorem picked_self {ks : List Ty} (hr : ks.Pairwise fun a b => kindT a < kindT b) (hk : ∀ x ∈ ks, 1 ≤ kindT x ∧ kindT x ≤ 6) : tagsL.filterMap (firstK ks) = ks := by
  refine rising_ext (R := fun a b => kindT a < kindT b) (fun a => by omega) (fun a b h1 h2 => by omega) _ _ (picked_rise ks) hr fun x => ⟨fun h => (picked_mem h).1, fun h => ?_⟩
  rw [List.mem_filterMap]
  refine ⟨kindT x, ?_, first_rise hr h⟩
  have := hk x h
  have e : kindT x = 1 ∨ kindT x = 2 ∨ kindT x = 3 ∨ kindT x = 4 ∨ kindT x = 5 ∨ kindT x = 6 := by omega
  simp [tagsL]
  exact e

theorem alike_rise {n : Nat} {ks : List Ty} (hr : ks.Pairwise fun a b => kindT a < kindT b) (hi : ∀ x ∈ ks, IsT n x) : alikeV n ks = true := by
  unfold alikeV
  rw [List.all_eq_true]
  intro x hx
  rw [first_rise hr hx]
  exact same_self (hi x hx)

/-- A normal type is kept as it is. -/
theorem norm_self {n : Nat} {u : Ty} (h : NormT n u) : normT n u = some u := by
  induction n generalizing u with
  | zero => exact h.elim
  | succ n ih =>
    rcases h with ⟨k, h0, h4, rfl⟩ | ⟨ns, ks, rfl, h2, h3, h4, h5, h6⟩ | ⟨a, b, rfl, h2, h3⟩ | ⟨ks, rfl, h2, h3, h4⟩
    · rw [normT, kind_mk, if_pos ⟨h0, h4⟩]
    · rw [normT, kind_mk, kids_mk, names_mk, if_neg (by decide), if_pos (by decide), mapM_self fun x hx => ih (h6 x hx)]
      show recordV ns ks = _
      unfold recordV
      rw [if_neg (by omega), recGo_self h2 h4 h5 (by simp)]
      show some (recT ([] ++ ns.zip ks)) = _
      unfold recT
      rw [List.nil_append, List.map_fst_zip (by omega), List.map_snd_zip (by omega)]
    · rw [normT, kind_mk, kids_mk, if_neg (by decide), if_pos (by decide), mapM_self fun x hx => ?_]
      · rfl
      · rcases List.mem_cons.1 hx with rfl | hx
        · exact ih h2
        · rw [List.mem_singleton.1 hx]
          exact ih h3
    · rw [normT, kind_mk, kids_mk, if_neg (by decide), if_pos (by decide), mapM_self fun x hx => ih (h3 x hx).1]
      show unionV n ks = _
      unfold unionV
      rw [flat_self fun x hx => by have := (h3 x hx).2; omega, if_neg, if_pos (alike_rise h4 fun x hx => is_norm (h3 x hx).1), picked_self h4 fun x hx => (h3 x hx).2]
      · match ks, h2 with
        | x :: y :: r, _ => rfl
      · intro hh
        rw [List.any_eq_true] at hh
        obtain ⟨x, hx, e⟩ := hh
        have := (h3 x hx).2
        have e2 : kindT x = 0 := by simpa using e
        omega

theorem norm_again {n : Nat} {D u : Ty} (h : normT n D = some u) : normT n u = some u := norm_self (norm_normal h)
end Go.Proofs.YtmpcjcjacpjilaaDoor
