/- A chain of objects, without a program in sight. -/
import Derived.Test.YtcpmdbdppdnkkaaHpG
namespace Go.Proofs.Ytcpmdbdppdnkkaa

/-- The slots of one that leads to the head of xs, if there is one. -/
def linkS (s : Nat) (xs : List Int) : List SlotV := List.replicate (s - 1) ⟨false, 0⟩ ++ [⟨!xs.isEmpty, xs.headD 0⟩]
def chainM (s : Nat) : List Int → Hp
  | [] => []
  | x :: xs => (x, linkS s xs) :: chainM s xs
section
variable {s : Nat} {xs : List Int} {x y : Int} {M M' : Hp}
theorem link_len (hs : 1 ≤ s) : (linkS s xs).length = s := by
  unfold linkS
  rw [List.length_append, List.length_replicate, List.length_singleton]
  omega
theorem chain_used (hs : 1 ≤ s) : ∀ xs : List Int, usedM (chainM s xs) = xs.length * (s + 1)
  | [] => by rw [List.length_nil, Nat.zero_mul]; rfl
  | x :: xs => by rw [chainM, used_push, link_len hs, chain_used hs xs, List.length_cons, Nat.add_mul, Nat.one_mul, Nat.add_comm]
theorem chain_length : ∀ xs : List Int, (chainM s xs).length = xs.length
  | [] => rfl
  | x :: xs => by rw [chainM, List.length_cons, chain_length xs, List.length_cons]
theorem chain_has : ∀ {xs : List Int}, hasM (chainM s xs) y ↔ y ∈ xs
  | [] => ⟨fun h => absurd h has_nil, fun h => nomatch h⟩
  | x :: xs => by rw [chainM, has_cons, chain_has, List.mem_cons]
theorem link_ref {u : SlotV} (h : u ∈ linkS s xs) (hr : u.ref = true) : ∃ z zs, xs = z :: zs ∧ u = ⟨true, z⟩ := by
  rcases List.mem_append.1 h with h | h
  · rw [(List.mem_replicate.1 h).2] at hr
    cases hr
  · rw [List.mem_singleton.1 h] at hr ⊢
    cases xs with
    | nil => cases hr
    | cons z zs => exact ⟨z, zs, rfl, rfl⟩
theorem link_fine : ¬ badL (chainM s xs) (linkS s xs) := fun ⟨u, hu, hr, hn⟩ => by
  obtain ⟨z, zs, rfl, rfl⟩ := link_ref hu hr
  exact hn (chain_has.2 (List.mem_cons_self ..))
theorem link_ok (h : ∀ x ∈ xs, 0 ≤ x ∧ x ≤ 9223372036854775807) : okSlots (linkS s xs) := fun u hu => by
  rcases List.mem_append.1 hu with hu | hu
  · rw [(List.mem_replicate.1 hu).2]
    decide
  · rw [List.mem_singleton.1 hu]
    cases xs with
    | nil => decide
    | cons z zs =>
      have := h z (List.mem_cons_self ..)
      exact ⟨by show -9223372036854775808 ≤ z; omega, this.2⟩
/-- From one, all behind it are reached. -/
theorem chain_down {roots : List Int} (hm : ∀ p, p ∈ chainM s xs → p ∈ M) : xs ≠ [] → Reach M roots (xs.headD 0) → ∀ y ∈ xs, Reach M roots y := by
  induction xs with
  | nil => intro h; exact absurd rfl h
  | cons x xs ih =>
    intro _ hr y hy
    rcases List.mem_cons.1 hy with rfl | hy
    · exact hr
    · cases xs with
      | nil => cases hy
      | cons z zs =>
        refine ih (fun p hp => hm p (List.mem_cons_of_mem _ hp)) (fun h => nomatch h) ?_ y hy
        have h1 : (x, linkS s (z :: zs)) ∈ M := hm _ (List.mem_cons_self ..)
        exact reach_step (s := ⟨true, z⟩) hr h1 (List.mem_append_right _ (List.mem_singleton.2 rfl)) rfl
/-- All stay where the last one does. -/
theorem chain_all (hg : GoodM (chainM s xs)) (hx : xs ≠ []) (h : Stays (chainM s xs) [xs.headD 0] M') : M'.Perm (chainM s xs) := by
  have hh : xs.headD 0 ∈ xs := by
    cases xs with
    | nil => exact absurd rfl hx
    | cons x xs => exact List.mem_cons_self ..
  refine (List.perm_ext_iff_of_nodup h.1 (nodup_of_keys hg.nd)).2 fun p => ?_
  rw [h.2 p]
  refine ⟨fun h => h.1, fun hp => ⟨hp, ?_⟩⟩
  refine chain_down (s := s) (fun _ h => h) hx (reach_root (List.mem_singleton.2 rfl) (chain_has.2 hh)) _ (chain_has.1 ⟨p.2, hp⟩)
theorem chain_last (x : Int) : ∀ xs : List Int, (x, linkS s []) ∈ chainM s (xs ++ [x])
  | [] => List.mem_cons_self ..
  | _ :: xs => List.mem_cons_of_mem _ (chain_last x xs)
/-- The first one stays by itself. -/
theorem chain_one (hg : GoodM M) (hm : (x, linkS s []) ∈ M) (h : Stays M [x] M') : M' = [(x, linkS s [])] := by
  have hall : ∀ p, p ∈ M' ↔ p = (x, linkS s []) := fun p => by
    rw [h.2 p]
    constructor
    · rintro ⟨h1, h2⟩
      have h3 : p.1 = x := h2 (fun y => y = x) (fun r hr _ => List.mem_singleton.1 hr) fun y l hl hy u hu hr => by
        have hy : y = x := hy
        subst hy
        rw [hg.uniq hl hm] at hu
        obtain ⟨z, zs, e, _⟩ := link_ref hu hr
        cases e
      have h4 : (x, p.2) ∈ M := by rw [← h3]; exact h1
      exact Prod.ext h3 (hg.uniq h4 hm)
    · rintro rfl
      exact ⟨hm, reach_root (List.mem_singleton.2 rfl) ⟨_, hm⟩⟩
  exact (List.perm_ext_iff_of_nodup h.1 (by simp)).2 (fun p => by rw [hall p, List.mem_singleton]) |>.eq_singleton
end
end Go.Proofs.Ytcpmdbdppdnkkaa
