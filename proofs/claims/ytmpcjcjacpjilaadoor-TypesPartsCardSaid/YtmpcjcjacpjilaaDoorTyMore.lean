/- Unions and records whose parts stand in another order, and what stands within a normal type; without a program in sight. -/
import Derived.Test.YtmpcjcjacpjilaaDoorTySize
namespace Go.Proofs.YtmpcjcjacpjilaaDoor

theorem member_kinds {n : Nat} {t : Ty} (ht : NormT n t) (h0 : kindT t ≠ 0) : ∀ x ∈ membersT t, 1 ≤ kindT x ∧ kindT x ≤ 6 := by
  intro x hx
  have hm := members_norm ht x hx
  have hk := norm_kind hm.1
  refine ⟨?_, by omega⟩
  unfold membersT at hx
  split at hx
  · rename_i h7
    cases n with
    | zero => exact ht.elim
    | succ n =>
      rcases ht with ⟨k, k0, k4, rfl⟩ | ⟨ns, ks, rfl, _⟩ | ⟨a, b, rfl, _⟩ | ⟨ks, rfl, _, h3, _⟩
      · rw [kind_mk] at h7; omega
      · exact absurd h7 (by rw [kind_mk]; decide)
      · exact absurd h7 (by rw [kind_mk]; decide)
      · exact (h3 x hx).2.1
  · rw [List.mem_singleton.1 hx] at hk ⊢
    omega

theorem member_rise {n : Nat} {t : Ty} (ht : NormT n t) : (membersT t).Pairwise fun a b => kindT a < kindT b := by
  unfold membersT
  split
  · rename_i h7
    cases n with
    | zero => exact ht.elim
    | succ n =>
      rcases ht with ⟨k, k0, k4, rfl⟩ | ⟨ns, ks, rfl, _⟩ | ⟨a, b, rfl, _⟩ | ⟨ks, rfl, _, _, h4⟩
      · rw [kind_mk] at h7; omega
      · exact absurd h7 (by rw [kind_mk]; decide)
      · exact absurd h7 (by rw [kind_mk]; decide)
      · exact h4
  · exact List.pairwise_singleton ..

theorem member_made {n : Nat} {t : Ty} (ht : NormT n t) : madeV (membersT t) = some t := by
  unfold membersT
  split
  · rename_i h7
    cases n with
    | zero => exact ht.elim
    | succ n =>
      rcases ht with ⟨k, k0, k4, rfl⟩ | ⟨ns, ks, rfl, _⟩ | ⟨a, b, rfl, _⟩ | ⟨ks, rfl, h2, _⟩
      · rw [kind_mk] at h7; omega
      · exact absurd h7 (by rw [kind_mk]; decide)
      · exact absurd h7 (by rw [kind_mk]; decide)
      · rw [kids_mk]
        match ks, h2 with
        | x :: y :: r, _ => rfl
  · rfl

/-- In a list that rises by kinds, two of one kind are the same. -/
theorem rise_one {l : List Ty} (hr : l.Pairwise fun a b => kindT a < kindT b) {x y : Ty} (hx : x ∈ l) (hy : y ∈ l) (h : kindT x = kindT y) : x = y := by
  have h1 := first_rise hr hx
  have h2 := first_rise hr hy
  rw [h, h2] at h1
  exact (Option.some.inj h1).symm

/-- A union of a normal type's members, in whatever order and however often, is that type. -/
theorem union_turn {n : Nat} {t : Ty} {us : List Ty} (ht : NormT n t) (h0 : kindT t ≠ 0) (h1 : ∀ x ∈ us, x ∈ membersT t) (h2 : ∀ x ∈ membersT t, x ∈ us) : normT (n + 1) (mkT 7 [] [] us) = some t := by
  have hn : ∀ x ∈ us, NormT n x ∧ kindT x ≠ 7 := fun x hx => members_norm ht x (h1 x hx)
  have hk : ∀ x ∈ us, 1 ≤ kindT x ∧ kindT x ≤ 6 := fun x hx => member_kinds ht h0 x (h1 x hx)
  have hr := member_rise ht
  have hfirst : ∀ x ∈ us, firstK us (kindT x) = some x := by
    intro x hx
    cases hf : firstK us (kindT x) with
    | none =>
      unfold firstK at hf
      rw [List.find?_eq_none] at hf
      exact absurd (hf x hx) (by simp)
    | some y =>
      obtain ⟨g1, g2⟩ := first_mem hf
      rw [rise_one hr (h1 y g1) (h1 x hx) g2]
  rw [normT, kind_mk, kids_mk, if_neg (by decide), if_pos (by decide), mapM_self fun x hx => norm_self (hn x hx).1]
  show unionV n us = _
  unfold unionV
  rw [flat_self fun x hx => (hn x hx).2, if_neg, if_pos]
  · have e : tagsL.filterMap (firstK us) = membersT t := by
      refine rising_ext (R := fun a b => kindT a < kindT b) (fun a => by omega) (fun a b h1 h2 => by omega) _ _ (picked_rise us) hr fun x => ⟨fun h => h1 x (picked_mem h).1, fun h => ?_⟩
      rw [List.mem_filterMap]
      refine ⟨kindT x, ?_, hfirst x (h2 x h)⟩
      have := hk x (h2 x h)
      have e : kindT x = 1 ∨ kindT x = 2 ∨ kindT x = 3 ∨ kindT x = 4 ∨ kindT x = 5 ∨ kindT x = 6 := by omega
      simp [tagsL]
      exact e
    rw [e]
    exact member_made ht
  · unfold alikeV
    rw [List.all_eq_true]
    intro x hx
    rw [hfirst x hx]
    exact same_self (is_norm (hn x hx).1)
  · intro hh
    rw [List.any_eq_true] at hh
    obtain ⟨x, hx, e⟩ := hh
    have := hk x hx
    have e2 : kindT x = 0 := by simpa using e
    omega

theorem recGo_permP : ∀ {ns : List (List UInt8)} {ks : List Ty} {acc l : List (List UInt8 × Ty)}, ns.length = ks.length → recGo ns ks acc = some l → l.Perm (acc ++ ns.zip ks)
  | [], [], acc, l, _, h => by
    rw [recGo] at h
    · injection h with h
      subst h
      simp
    · simp
  | [], _ :: _, _, _, hl, _ => by simp at hl
  | _ :: _, [], _, _, hl, _ => by simp at hl
  | s :: ns, x :: ks, acc, l, hl, h => by
    rw [recGo] at h
    by_cases hn : nameV s = true
    · rw [if_pos hn, Option.bind_eq_some_iff] at h
      obtain ⟨m, hm, h⟩ := h
      have h1 := recGo_permP (by simpa using hl) h
      refine h1.trans (((insP_perm hm).append_right _).trans ?_)
      rw [List.zip_cons_cons]
      exact List.perm_middle.symm
    · rw [if_neg hn] at h; cases h

theorem recGo_none : ∀ {ns : List (List UInt8)} {ks : List Ty} {acc : List (List UInt8 × Ty)}, ns.length = ks.length → recGo ns ks acc = none → (∃ s ∈ ns, nameV s = false) ∨ ¬ (acc.map (·.1) ++ ns).Nodup
  | [], [], acc, _, h => by
    rw [recGo] at h
    · cases h
    · simp
  | [], _ :: _, _, hl, _ => by simp at hl
  | _ :: _, [], _, hl, _ => by simp at hl
  | s :: ns, x :: ks, acc, hl, h => by
    rw [recGo] at h
    by_cases hn : nameV s = true
    · rw [if_pos hn] at h
      cases hi : insP s x acc with
      | none =>
        obtain ⟨y, hy⟩ := insP_none hi
        refine .inr fun hd => ?_
        rw [List.nodup_append] at hd
        exact hd.2.2 s (List.mem_map.2 ⟨(s, y), hy, rfl⟩) s (List.mem_cons_self ..) rfl
      | some m =>
        rw [hi] at h
        rcases recGo_none (by simpa using hl) h with ⟨t, ht, he⟩ | hd
        · exact .inl ⟨t, List.mem_cons_of_mem _ ht, he⟩
        · refine .inr fun hd2 => hd ?_
          have hp := ((insP_perm hi).map (·.1)).append_right ns
          refine (hp.nodup_iff).2 ?_
          have hq : ((s :: acc.map (·.1)) ++ ns).Perm (acc.map (·.1) ++ s :: ns) := List.perm_middle.symm
          exact (hq.nodup_iff).2 hd2
    · exact .inl ⟨s, List.mem_cons_self .., by simpa using hn⟩

theorem rise_nodup {l : List (List UInt8 × Ty)} (h : RiseP l) : (l.map (·.1)).Nodup := by
  unfold List.Nodup
  rw [List.pairwise_map]
  refine List.Pairwise.imp (fun {a b} hab e => ?_) h
  rw [e, ltB_irr] at hab
  cases hab

/-- Fields in another order make the same record. -/
theorem record_turn {ns ns' : List (List UInt8)} {ks ks' : List Ty} (hl : ns.length = ks.length) (hl' : ns'.length = ks'.length) (hp : (ns.zip ks).Perm (ns'.zip ks')) : recordV ns ks = recordV ns' ks' := by
  have hpn : ns.Perm ns' := by
    have := hp.map (·.1)
    rwa [List.map_fst_zip (by omega), List.map_fst_zip (by omega)] at this
  have hlen := hpn.length_eq
  unfold recordV
  by_cases h16 : 16 < ns.length
  · rw [if_pos (.inr h16), if_pos (.inr (by omega))]
  rw [if_neg (by omega), if_neg (by omega)]
  have key : ∀ (ns ns' : List (List UInt8)) (ks ks' : List Ty), ns.length = ks.length → ns'.length = ks'.length → (ns.zip ks).Perm (ns'.zip ks') → ns.Perm ns' → ∀ l, recGo ns ks [] = some l → recGo ns' ks' [] = some l := by
    intro ns ns' ks ks' hl hl' hp hpn l h
    obtain ⟨g1, g2, g3, _⟩ := recGo_some hl List.Pairwise.nil h
    have gp := recGo_permP hl h
    have hnd : ns.Nodup := by
      have h1 := rise_nodup g1
      have h2 := (gp.map (·.1)).nodup_iff.1 h1
      rwa [List.nil_append, List.map_fst_zip (by omega)] at h2
    cases h' : recGo ns' ks' [] with
    | none =>
      rcases recGo_none hl' h' with ⟨s, hs, he⟩ | hd
      · have := g3 s (hpn.mem_iff.2 hs)
        rw [he] at this
        cases this
      · exact absurd (hpn.nodup_iff.1 hnd) (by simpa using hd)
    | some l' =>
      obtain ⟨g1', g2', _⟩ := recGo_some hl' List.Pairwise.nil h'
      have e : l = l' := by
        refine rising_ext (R := fun (a b : List UInt8 × Ty) => ltB a.1 b.1 = true) (fun a h => by rw [ltB_irr] at h; cases h) (fun a b h1 h2 => ltB_asym h1 h2) l l' g1 g1' fun p => ?_
        rw [g2, g2']
        exact ⟨fun h => h.elim (fun h => by cases h) fun h => .inr (hp.mem_iff.1 h), fun h => h.elim (fun h => by cases h) fun h => .inr (hp.mem_iff.2 h)⟩
      rw [e]
  cases h : recGo ns ks [] with
  | some l => rw [key ns ns' ks ks' hl hl' hp hpn l h]
  | none =>
    cases h' : recGo ns' ks' [] with
    | none => rfl
    | some l' =>
      have := key ns' ns ks' ks hl' hl hp.symm hpn.symm l' h'
      rw [h] at this
      cases this

/-- What stands within a normal type is normal. -/
theorem norm_within {n : Nat} {t x : Ty} (h : NormT (n + 1) t) (hx : x ∈ kidsT t) : NormT n x := by
  rcases h with ⟨k, k0, k4, rfl⟩ | ⟨ns, ks, rfl, _, _, _, _, h6⟩ | ⟨a, b, rfl, h2, h3⟩ | ⟨ks, rfl, _, h3, _⟩
  · rw [kids_mk] at hx; cases hx
  · exact h6 x hx
  · rw [kids_mk] at hx
    rcases List.mem_cons.1 hx with rfl | hx
    · exact h2
    · rw [List.mem_singleton.1 hx]
      exact h3
  · exact (h3 x hx).1

/-- As many as they are, but no more than so many: a kid more. -/
theorem cap_step {a s most : Nat} (h : min a most < most) : min a most + min s (most - min a most) = min (a + s) most := by omega
theorem cap_full {a s most : Nat} (h : ¬ min a most < most) : min (a + s) most = min a most := by omega
end Go.Proofs.YtmpcjcjacpjilaaDoor
