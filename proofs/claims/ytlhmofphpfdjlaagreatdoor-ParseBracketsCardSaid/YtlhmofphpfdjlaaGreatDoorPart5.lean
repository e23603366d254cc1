/- Part. -/
import Derived.Test.YtlhmofphpfdjlaaGreatDoorPart4
set_option maxRecDepth 100000
set_option maxHeartbeats 4000000
/- How great types are, and that what is kept is no greater; without a program in sight. -/
namespace Go.Proofs.YtlhmofphpfdjlaaGreatDoor
open Go.Proofs.Tryz
def sizeT : Nat -> Ty -> Nat
  | 0, _ => 0
  | n + 1, D => 1 + ((kidsT D).map (sizeT n)).sum
def maxL : List Nat -> Nat
  | [] => 0
  | a :: r => max a (maxL r)
def heightT : Nat -> Ty -> Nat
  | 0, _ => 0
  | n + 1, D => 1 + maxL ((kidsT D).map (heightT n))
theorem size_more {n m : Nat} {D : Ty} (h : IsT n D) (hm : n <= m) : sizeT m D = sizeT n D := by
  induction n generalizing m D with
  | zero => exact h.elim
  | succ n ih =>
    obtain ⟨m, rfl⟩ : ∃ p, m = p + 1 := ⟨m - 1, by omega⟩
    rw [sizeT, sizeT, List.map_congr_left fun x hx => ih (h.2 x hx) (by omega)]
theorem height_more {n m : Nat} {D : Ty} (h : IsT n D) (hm : n <= m) : heightT m D = heightT n D := by
  induction n generalizing m D with
  | zero => exact h.elim
  | succ n ih =>
    obtain ⟨m, rfl⟩ : ∃ p, m = p + 1 := ⟨m - 1, by omega⟩
    rw [heightT, heightT, List.map_congr_left fun x hx => ih (h.2 x hx) (by omega)]
theorem le_maxL {l : List Nat} {a : Nat} (h : a ∈ l) : a <= maxL l := by
  induction l with
  | nil => cases h
  | cons b r ih =>
    rw [maxL]
    rcases List.mem_cons.1 h with rfl | h
    · exact Nat.le_max_left ..
    · exact Nat.le_trans (ih h) (Nat.le_max_right ..)
theorem maxL_le {l : List Nat} {m : Nat} (h : ∀ a ∈ l, a <= m) : maxL l <= m := by
  induction l with
  | nil => exact Nat.zero_le _
  | cons b r ih =>
    rw [maxL]
    exact Nat.max_le.2 ⟨h b (List.mem_cons_self ..), ih fun a ha => h a (List.mem_cons_of_mem _ ha)⟩
theorem insP_perm {s : List UInt8} {x : Ty} : ∀ {acc l : List (List UInt8 × Ty)}, insP s x acc = some l -> l.Perm ((s, x) :: acc)
  | [], l, h => by
    rw [insP] at h
    injection h with h
    subst h
    exact List.Perm.refl _
  | (t, y) :: r, l, h => by
    rw [insP] at h
    by_cases hlt : ltB t s = true
    · rw [if_pos hlt, Option.map_eq_some_iff] at h
      obtain ⟨m, hm, rfl⟩ := h
      exact ((insP_perm hm).cons _).trans (List.Perm.swap ..)
    · rw [if_neg hlt] at h
      by_cases he : t = s
      · rw [if_pos he] at h; cases h
      · rw [if_neg he] at h
        injection h with h
        subst h
        exact List.Perm.refl _
theorem recGo_perm : ∀ {ns : List (List UInt8)} {ks : List Ty} {acc l : List (List UInt8 × Ty)}, ns.length = ks.length -> recGo ns ks acc = some l -> (l.map (·.2)).Perm (acc.map (·.2) ++ ks)
  | [], [], acc, l, _, h => by
    rw [recGo] at h
    · injection h with h
      subst h
      simp
    · simp
  | [], _ :: _, _, _, hl, _ => by simp at hl
  | _ :: _, [], _, _, hl, _ => by simp at hl
  | s :: ns, x :: ks, acc, l, hl, h => by
    rw [recGo] at h
    by_cases hn : nameV s = true
    · rw [if_pos hn, Option.bind_eq_some_iff] at h
      obtain ⟨m, hm, h⟩ := h
      have h1 := recGo_perm (by simpa using hl) h
      have h2 := (insP_perm hm).map (·.2)
      refine h1.trans ((h2.append_right ks).trans ?_)
      show (x :: (acc.map (·.2) ++ ks)).Perm _
      exact List.perm_middle.symm
    · rw [if_neg hn] at h; cases h
theorem sum_le {f g : Ty -> Nat} : ∀ {l m : List Ty}, l.length = m.length -> (∀ p ∈ l.zip m, f p.1 <= g p.2) -> (l.map f).sum <= (m.map g).sum
  | [], [], _, _ => Nat.le_refl _
  | [], _ :: _, hl, _ => by simp at hl
  | _ :: _, [], hl, _ => by simp at hl
  | a :: l, b :: m, hl, h => by
    have h1 := h (a, b) (by simp)
    have h2 := sum_le (f := f) (g := g) (by simpa using hl) fun p hp => h p (by simp [hp])
    simp only [List.map_cons, List.sum_cons]
    simp only at h1
    omega
theorem mapM_zip {f : Ty -> Option Ty} : ∀ {l m : List Ty}, l.mapM f = some m -> ∀ p ∈ m.zip l, f p.2 = some p.1
  | [], m, h => by
    simp at h
    subst h
    simp
  | x :: l, m, h => by
    rw [List.mapM_cons] at h
    simp only [Option.bind_eq_bind, Option.bind_eq_some_iff, Option.pure_def, Option.some.injEq] at h
    obtain ⟨y, hy, r, hr, rfl⟩ := h
    intro p hp
    rw [List.zip_cons_cons] at hp
    rcases List.mem_cons.1 hp with rfl | hp
    · exact hy
    · exact mapM_zip hr p hp
/-- The first ones are no more than all. -/
theorem first_sum (f : Ty -> Nat) (x : Ty) (all : List Ty) : ∀ {tags : List Int}, tags.Pairwise (· < ·) -> ((tags.filterMap (firstK (x :: all))).map f).sum <= (if kindT x ∈ tags then f x else 0) + ((tags.filterMap (firstK all)).map f).sum
  | [], _ => by simp
  | k :: tags, hr => by
    rw [List.pairwise_cons] at hr
    have ih := first_sum f x all hr.2
    by_cases hk : kindT x = k
    · have hn : kindT x ∉ tags := fun hm => by have := hr.1 _ hm; omega
      rw [if_neg hn] at ih
      have e1 : firstK (x :: all) k = some x := by
        unfold firstK
        rw [List.find?_cons]
        simp [hk]
      rw [List.filterMap_cons, e1, if_pos (by rw [hk]; exact List.mem_cons_self ..), List.filterMap_cons]
      simp only [List.map_cons, List.sum_cons]
      cases firstK all k with
      | none =>
        simp only
        omega
      | some y =>
        simp only [List.map_cons, List.sum_cons]
        omega
    · have e1 : firstK (x :: all) k = firstK all k := by
        unfold firstK
        rw [List.find?_cons]
        have : (kindT x == k) = false := by rw [beq_eq_false_iff_ne]; exact hk
        rw [this]
      have e2 : (kindT x ∈ k :: tags) ↔ kindT x ∈ tags := by
        rw [List.mem_cons]
        exact ⟨fun h => h.resolve_left hk, .inr⟩
      simp only [e2]
      rw [List.filterMap_cons, List.filterMap_cons, e1]
      cases firstK all k with
      | none => exact ih
      | some y =>
        simp only [List.map_cons, List.sum_cons]
        omega
theorem picked_sum (f : Ty -> Nat) : ∀ (all : List Ty), ((tagsL.filterMap (firstK all)).map f).sum <= (all.map f).sum
  | [] => Nat.le_refl _
  | x :: all => by
    have h1 := first_sum f x all tags_rise
    have h2 := picked_sum f all
    simp only [List.map_cons, List.sum_cons]
    split at h1 <;> omega
/-- The members of normal types are no more than they. -/
theorem members_sum {n : Nat} : ∀ {ks : List Ty}, (∀ x ∈ ks, NormT n x) -> ((ks.flatMap membersT).map (sizeT n)).sum <= (ks.map (sizeT n)).sum
  | [], _ => by simp
  | x :: ks, h => by
    have ih := members_sum fun y hy => h y (List.mem_cons_of_mem _ hy)
    have hx := h x (List.mem_cons_self ..)
    rw [List.flatMap_cons, List.map_append, List.sum_append, List.map_cons, List.sum_cons]
    have h1 : ((membersT x).map (sizeT n)).sum <= sizeT n x := by
      unfold membersT
      split
      · cases n with
        | zero => exact hx.elim
        | succ n =>
          have hi := is_norm hx
          have e : (kidsT x).map (sizeT (n + 1)) = (kidsT x).map (sizeT n) := List.map_congr_left fun y hy => size_more (hi.2 y hy) (Nat.le_succ n)
          rw [e, sizeT]
          omega
      · simp
    omega
theorem made_size {n : Nat} {l : List Ty} {u : Ty} (hl : ∀ x ∈ l, IsT n x) (h : madeV l = some u) : sizeT (n + 1) u <= 1 + (l.map (sizeT n)).sum := by
  match l, h with
  | [x], h =>
    injection h with h
    subst h
    rw [size_more (hl x (by simp)) (Nat.le_succ n)]
    simp
  | x :: y :: r, h =>
    injection h with h
    subst h
    rw [sizeT, kids_mk]
    exact Nat.le_refl _
theorem norm_size {n : Nat} {D u : Ty} (h : normT n D = some u) : sizeT n u <= sizeT n D := by
  induction n generalizing D u with
  | zero => cases h
  | succ n ih =>
    rw [normT] at h
    split at h
    · injection h with h
      subst h
      rw [sizeT, sizeT, kids_mk]
      simp
    split at h
    · split at h
      · cases h
      · rename_i ks hks
        have hn : ∀ x ∈ ks, NormT n x := fun x hx => by
          obtain ⟨y, _, hy⟩ := (mapM_mem hks).1 x hx
          exact norm_normal hy
        have hsum : (ks.map (sizeT n)).sum <= ((kidsT D).map (sizeT n)).sum := sum_le (mapM_mem hks).2 fun p hp => ih (mapM_zip hks p hp)
        split at h
        · unfold recordV at h
          split at h
          · cases h
          · rename_i hc
            have h1 : (namesT D).length = ks.length := by omega
            rw [Option.map_eq_some_iff] at h
            obtain ⟨l, hl, rfl⟩ := h
            have hp := recGo_perm h1 hl
            unfold recT
            rw [sizeT, sizeT, kids_mk, (hp.map (sizeT n)).sum_nat]
            simp only [List.map_nil, List.nil_append]
            omega
        split at h
        · unfold funV at h
          split at h
          · injection h with h
            subst h
            rw [sizeT, sizeT, kids_mk]
            omega
          · cases h
        · unfold unionV at h
          split at h
          · cases h
          split at h
          · have hi : ∀ x ∈ tagsL.filterMap (firstK (ks.flatMap membersT)), IsT n x := fun x hx => by
              obtain ⟨y, hy, hxy⟩ := List.mem_flatMap.1 (picked_mem hx).1
              exact is_norm (members_norm (hn y hy) x hxy).1
            have h1 := made_size hi h
            have h2 := picked_sum (sizeT n) (ks.flatMap membersT)
            have h3 := members_sum hn
            have h4 : sizeT (n + 1) D = 1 + ((kidsT D).map (sizeT n)).sum := rfl
            omega
          · cases h
    · cases h
theorem members_height {n : Nat} {x y : Ty} (hx : NormT n x) (hy : y ∈ membersT x) : heightT n y <= heightT n x := by
  unfold membersT at hy
  split at hy
  · cases n with
    | zero => exact hx.elim
    | succ n =>
      have hi := is_norm hx
      rw [height_more (hi.2 y hy) (Nat.le_succ n), heightT]
      have := le_maxL (List.mem_map_of_mem (f := heightT n) hy)
      omega
  · rw [List.mem_singleton.1 hy]
    exact Nat.le_refl _
theorem norm_height {n : Nat} {D u : Ty} (h : normT n D = some u) : heightT n u <= heightT n D := by
  induction n generalizing D u with
  | zero => cases h
  | succ n ih =>
    rw [normT] at h
    split at h
    · injection h with h
      subst h
      rw [heightT, heightT, kids_mk]
      simp [maxL]
    split at h
    · split at h
      · cases h
      · rename_i ks hks
        have hn : ∀ x ∈ ks, NormT n x := fun x hx => by
          obtain ⟨y, _, hy⟩ := (mapM_mem hks).1 x hx
          exact norm_normal hy
        have hh : ∀ x ∈ ks, heightT n x <= maxL ((kidsT D).map (heightT n)) := fun x hx => by
          obtain ⟨y, hm, hy⟩ := (mapM_mem hks).1 x hx
          exact Nat.le_trans (ih hy) (le_maxL (List.mem_map_of_mem hm))
        have kid : ∀ (k : Int) (nm : List UInt8) (ns : List (List UInt8)) (l : List Ty), (∀ x ∈ l, heightT n x <= maxL ((kidsT D).map (heightT n))) -> heightT (n + 1) (mkT k nm ns l) <= heightT (n + 1) D := by
          intro k nm ns l hl
          rw [heightT, heightT, kids_mk]
          have : maxL (l.map (heightT n)) <= maxL ((kidsT D).map (heightT n)) := maxL_le fun a ha => by
            obtain ⟨x, hx, rfl⟩ := List.mem_map.1 ha
            exact hl x hx
          omega
        split at h
        · unfold recordV at h
          split at h
          · cases h
          · rename_i hc
            have h1 : (namesT D).length = ks.length := by omega
            rw [Option.map_eq_some_iff] at h
            obtain ⟨l, hl, rfl⟩ := h
            have hp := recGo_perm h1 hl
            exact kid _ _ _ _ fun x hx => hh x (by simpa using (hp.mem_iff (a := x)).1 hx)
        split at h
        · unfold funV at h
          split at h
          · injection h with h
            subst h
            exact kid _ _ _ _ hh
          · cases h
        · unfold unionV at h
          split at h
          · cases h
          split at h
          · have hl : ∀ x ∈ tagsL.filterMap (firstK (ks.flatMap membersT)), IsT n x /\ heightT n x <= maxL ((kidsT D).map (heightT n)) := fun x hx => by
              obtain ⟨y, hy, hxy⟩ := List.mem_flatMap.1 (picked_mem hx).1
              exact ⟨is_norm (members_norm (hn y hy) x hxy).1, Nat.le_trans (members_height (hn y hy) hxy) (hh y hy)⟩
            generalize tagsL.filterMap (firstK (ks.flatMap membersT)) = l at h hl
            match l, h with
            | [x], h =>
              injection h with h
              subst h
              have h1 := hl x (by simp)
              rw [height_more h1.1 (Nat.le_succ n), heightT]
              omega
            | x :: y :: r, h =>
              injection h with h
              subst h
              exact kid _ _ _ _ fun z hz => (hl z hz).2
          · cases h
    · cases h
end Go.Proofs.YtlhmofphpfdjlaaGreatDoor
/- Unions and records whose parts stand in another order, and what stands within a normal type; without a program in sight. -/
namespace Go.Proofs.YtlhmofphpfdjlaaGreatDoor
open Go.Proofs.Tryz
theorem member_kinds {n : Nat} {t : Ty} (ht : NormT n t) (h0 : kindT t ≠ 0) : ∀ x ∈ membersT t, 1 <= kindT x /\ kindT x <= 6 := by
  intro x hx
  have hm := members_norm ht x hx
  have hk := norm_kind hm.1
  refine ⟨?_, by omega⟩
  unfold membersT at hx
  split at hx
  · rename_i h7
    cases n with
    | zero => exact ht.elim
    | succ n =>
      rcases ht with ⟨k, k0, k4, rfl⟩ | ⟨ns, ks, rfl, _⟩ | ⟨a, b, rfl, _⟩ | ⟨ks, rfl, _, h3, _⟩
      · rw [kind_mk] at h7; omega
      · exact absurd h7 (by rw [kind_mk]; decide)
      · exact absurd h7 (by rw [kind_mk]; decide)
      · exact (h3 x hx).2.1
  · rw [List.mem_singleton.1 hx] at hk ⊢
    omega
theorem member_rise {n : Nat} {t : Ty} (ht : NormT n t) : (membersT t).Pairwise fun a b => kindT a < kindT b := by
  unfold membersT
  split
  · rename_i h7
    cases n with
    | zero => exact ht.elim
    | succ n =>
      rcases ht with ⟨k, k0, k4, rfl⟩ | ⟨ns, ks, rfl, _⟩ | ⟨a, b, rfl, _⟩ | ⟨ks, rfl, _, _, h4⟩
      · rw [kind_mk] at h7; omega
      · exact absurd h7 (by rw [kind_mk]; decide)
      · exact absurd h7 (by rw [kind_mk]; decide)
      · exact h4
  · exact List.pairwise_singleton ..
theorem member_made {n : Nat} {t : Ty} (ht : NormT n t) : madeV (membersT t) = some t := by
  unfold membersT
  split
  · rename_i h7
    cases n with
    | zero => exact ht.elim
    | succ n =>
      rcases ht with ⟨k, k0, k4, rfl⟩ | ⟨ns, ks, rfl, _⟩ | ⟨a, b, rfl, _⟩ | ⟨ks, rfl, h2, _⟩
      · rw [kind_mk] at h7; omega
      · exact absurd h7 (by rw [kind_mk]; decide)
      · exact absurd h7 (by rw [kind_mk]; decide)
      · rw [kids_mk]
        match ks, h2 with
        | x :: y :: r, _ => rfl
  · rfl
/-- In a list that rises by kinds, two of one kind are the same. -/
theorem rise_one {l : List Ty} (hr : l.Pairwise fun a b => kindT a < kindT b) {x y : Ty} (hx : x ∈ l) (hy : y ∈ l) (h : kindT x = kindT y) : x = y := by
  have h1 := first_rise hr hx
  have h2 := first_rise hr hy
  rw [h, h2] at h1
  exact (Option.some.inj h1).symm
/-- A union of a normal type's members, in whatever order and however often, is that type. -/
theorem union_turn {n : Nat} {t : Ty} {us : List Ty} (ht : NormT n t) (h0 : kindT t ≠ 0) (h1 : ∀ x ∈ us, x ∈ membersT t) (h2 : ∀ x ∈ membersT t, x ∈ us) : normT (n + 1) (mkT 7 [] [] us) = some t := by
  have hn : ∀ x ∈ us, NormT n x /\ kindT x ≠ 7 := fun x hx => members_norm ht x (h1 x hx)
  have hk : ∀ x ∈ us, 1 <= kindT x /\ kindT x <= 6 := fun x hx => member_kinds ht h0 x (h1 x hx)
  have hr := member_rise ht
  have hfirst : ∀ x ∈ us, firstK us (kindT x) = some x := by
    intro x hx
    cases hf : firstK us (kindT x) with
    | none =>
      unfold firstK at hf
      rw [List.find?_eq_none] at hf
      exact absurd (hf x hx) (by simp)
    | some y =>
      obtain ⟨g1, g2⟩ := first_mem hf
      rw [rise_one hr (h1 y g1) (h1 x hx) g2]
  rw [normT, kind_mk, kids_mk, if_neg (by decide), if_pos (by decide), mapM_self fun x hx => norm_self (hn x hx).1]
  show unionV n us = _
  unfold unionV
  rw [flat_self fun x hx => (hn x hx).2, if_neg, if_pos]
  · have e : tagsL.filterMap (firstK us) = membersT t := by
      refine rising_ext (R := fun a b => kindT a < kindT b) (fun a => by omega) (fun a b h1 h2 => by omega) _ _ (picked_rise us) hr fun x => ⟨fun h => h1 x (picked_mem h).1, fun h => ?_⟩
      rw [List.mem_filterMap]
      refine ⟨kindT x, ?_, hfirst x (h2 x h)⟩
      have := hk x (h2 x h)
      have e : kindT x = 1 ∨ kindT x = 2 ∨ kindT x = 3 ∨ kindT x = 4 ∨ kindT x = 5 ∨ kindT x = 6 := by omega
      simp [tagsL]
      exact e
    rw [e]
    exact member_made ht
  · unfold alikeV
    rw [List.all_eq_true]
    intro x hx
    rw [hfirst x hx]
    exact same_self (is_norm (hn x hx).1)
  · intro hh
    rw [List.any_eq_true] at hh
    obtain ⟨x, hx, e⟩ := hh
    have := hk x hx
    have e2 : kindT x = 0 := by simpa using e
    omega
theorem recGo_permP : ∀ {ns : List (List UInt8)} {ks : List Ty} {acc l : List (List UInt8 × Ty)}, ns.length = ks.length -> recGo ns ks acc = some l -> l.Perm (acc ++ ns.zip ks)
  | [], [], acc, l, _, h => by
    rw [recGo] at h
    · injection h with h
      subst h
      simp
    · simp
  | [], _ :: _, _, _, hl, _ => by simp at hl
  | _ :: _, [], _, _, hl, _ => by simp at hl
  | s :: ns, x :: ks, acc, l, hl, h => by
    rw [recGo] at h
    by_cases hn : nameV s = true
    · rw [if_pos hn, Option.bind_eq_some_iff] at h
      obtain ⟨m, hm, h⟩ := h
      have h1 := recGo_permP (by simpa using hl) h
      refine h1.trans (((insP_perm hm).append_right _).trans ?_)
      rw [List.zip_cons_cons]
      exact List.perm_middle.symm
    · rw [if_neg hn] at h; cases h
theorem recGo_none : ∀ {ns : List (List UInt8)} {ks : List Ty} {acc : List (List UInt8 × Ty)}, ns.length = ks.length -> recGo ns ks acc = none -> (∃ s ∈ ns, nameV s = false) ∨ ¬ (acc.map (·.1) ++ ns).Nodup
  | [], [], acc, _, h => by
    rw [recGo] at h
    · cases h
    · simp
  | [], _ :: _, _, hl, _ => by simp at hl
  | _ :: _, [], _, hl, _ => by simp at hl
  | s :: ns, x :: ks, acc, hl, h => by
    rw [recGo] at h
    by_cases hn : nameV s = true
    · rw [if_pos hn] at h
      cases hi : insP s x acc with
      | none =>
        obtain ⟨y, hy⟩ := insP_none hi
        refine .inr fun hd => ?_
        rw [List.nodup_append] at hd
        exact hd.2.2 s (List.mem_map.2 ⟨(s, y), hy, rfl⟩) s (List.mem_cons_self ..) rfl
      | some m =>
        rw [hi] at h
        rcases recGo_none (by simpa using hl) h with ⟨t, ht, he⟩ | hd
        · exact .inl ⟨t, List.mem_cons_of_mem _ ht, he⟩
        · refine .inr fun hd2 => hd ?_
          have hp := ((insP_perm hi).map (·.1)).append_right ns
          refine (hp.nodup_iff).2 ?_
          have hq : ((s :: acc.map (·.1)) ++ ns).Perm (acc.map (·.1) ++ s :: ns) := List.perm_middle.symm
          exact (hq.nodup_iff).2 hd2
    · exact .inl ⟨s, List.mem_cons_self .., by simpa using hn⟩
theorem rise_nodup {l : List (List UInt8 × Ty)} (h : RiseP l) : (l.map (·.1)).Nodup := by
  unfold List.Nodup
  rw [List.pairwise_map]
  refine List.Pairwise.imp (fun {a b} hab e => ?_) h
  rw [e, ltB_irr] at hab
  cases hab
/-- Fields in another order make the same record. -/
theorem record_turn {ns ns' : List (List UInt8)} {ks ks' : List Ty} (hl : ns.length = ks.length) (hl' : ns'.length = ks'.length) (hp : (ns.zip ks).Perm (ns'.zip ks')) : recordV ns ks = recordV ns' ks' := by
  have hpn : ns.Perm ns' := by
    have := hp.map (·.1)
    rwa [List.map_fst_zip (by omega), List.map_fst_zip (by omega)] at this
  have hlen := hpn.length_eq
  unfold recordV
  by_cases h16 : 16 < ns.length
  · rw [if_pos (.inr h16), if_pos (.inr (by omega))]
  rw [if_neg (by omega), if_neg (by omega)]
  have key : ∀ (ns ns' : List (List UInt8)) (ks ks' : List Ty), ns.length = ks.length -> ns'.length = ks'.length -> (ns.zip ks).Perm (ns'.zip ks') -> ns.Perm ns' -> ∀ l, recGo ns ks [] = some l -> recGo ns' ks' [] = some l := by
    intro ns ns' ks ks' hl hl' hp hpn l h
    obtain ⟨g1, g2, g3, _⟩ := recGo_some hl List.Pairwise.nil h
    have gp := recGo_permP hl h
    have hnd : ns.Nodup := by
      have h1 := rise_nodup g1
      have h2 := (gp.map (·.1)).nodup_iff.1 h1
      rwa [List.nil_append, List.map_fst_zip (by omega)] at h2
    cases h' : recGo ns' ks' [] with
    | none =>
      rcases recGo_none hl' h' with ⟨s, hs, he⟩ | hd
      · have := g3 s (hpn.mem_iff.2 hs)
        rw [he] at this
        cases this
      · exact absurd (hpn.nodup_iff.1 hnd) (by simpa using hd)
    | some l' =>
      obtain ⟨g1', g2', _⟩ := recGo_some hl' List.Pairwise.nil h'
      have e : l = l' := by
        refine rising_ext (R := fun (a b : List UInt8 × Ty) => ltB a.1 b.1 = true) (fun a h => by rw [ltB_irr] at h; cases h) (fun a b h1 h2 => ltB_asym h1 h2) l l' g1 g1' fun p => ?_
        rw [g2, g2']
        exact ⟨fun h => h.elim (fun h => by cases h) fun h => .inr (hp.mem_iff.1 h), fun h => h.elim (fun h => by cases h) fun h => .inr (hp.mem_iff.2 h)⟩
      rw [e]
  cases h : recGo ns ks [] with
  | some l => rw [key ns ns' ks ks' hl hl' hp hpn l h]
  | none =>
    cases h' : recGo ns' ks' [] with
    | none => rfl
    | some l' =>
      have := key ns' ns ks' ks hl' hl hp.symm hpn.symm l' h'
      rw [h] at this
      cases this
/-- What stands within a normal type is normal. -/
theorem norm_within {n : Nat} {t x : Ty} (h : NormT (n + 1) t) (hx : x ∈ kidsT t) : NormT n x := by
  rcases h with ⟨k, k0, k4, rfl⟩ | ⟨ns, ks, rfl, _, _, _, _, h6⟩ | ⟨a, b, rfl, h2, h3⟩ | ⟨ks, rfl, _, h3, _⟩
  · rw [kids_mk] at hx; cases hx
  · exact h6 x hx
  · rw [kids_mk] at hx
    rcases List.mem_cons.1 hx with rfl | hx
    · exact h2
    · rw [List.mem_singleton.1 hx]
      exact h3
  · exact (h3 x hx).1
/-- As many as they are, but no more than so many: a kid more. -/
theorem cap_step {a s most : Nat} (h : min a most < most) : min a most + min s (most - min a most) = min (a + s) most := by omega
theorem cap_full {a s most : Nat} (h : ¬ min a most < most) : min (a + s) most = min a most := by omega
end Go.Proofs.YtlhmofphpfdjlaaGreatDoor
