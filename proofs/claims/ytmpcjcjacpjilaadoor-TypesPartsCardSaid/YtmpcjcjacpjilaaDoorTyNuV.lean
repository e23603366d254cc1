/- Unions: what the loop of types.normUnion keeps; types.parts of a fresh type. -/
import Derived.Test.YtmpcjcjacpjilaaDoorTyNp
namespace Go.Proofs.YtmpcjcjacpjilaaDoor
open Go.RowKit

theorem kidsF_mono {w : World} {lo n m : Nat} {ka : Option Addr} {ks : List Ty} (h : KidsF w lo n ka ks) (hm : n ≤ m) : KidsF w lo m ka ks := by
  rcases h with h | ⟨b, o, e, hl, hcl, hc⟩
  · exact .inl h
  · refine .inr ⟨b, o, e, hl, hcl, fun i hi => ?_⟩
    obtain ⟨c0, c1, c2, c3, e0, e1, e2, e3, ht⟩ := hc i hi
    exact ⟨c0, c1, c2, c3, e0, e1, e2, e3, tyF_mono ht hm⟩

theorem kidsF_below {w w' : World} {lo n : Nat} {ka : Option Addr} {ks : List Ty} (h : KidsF w lo n ka ks) (hb : Below w.heap.size w w') : KidsF w' lo n ka ks := by
  rcases h with h | ⟨b, o, e, hl, hcl, hc⟩
  · exact .inl h
  · have hlt := clean_lt hcl
    refine .inr ⟨b, o, e, hl, clean_below hcl hb, fun i hi => ?_⟩
    obtain ⟨c0, c1, c2, c3, e0, e1, e2, e3, ht⟩ := hc i hi
    exact ⟨c0, c1, c2, c3, (hb.cell (p := ⟨b, o + i * 4, none⟩) hlt).trans e0, (hb.cell (p := ⟨b, o + i * 4 + 1, none⟩) hlt).trans e1, (hb.cell (p := ⟨b, o + i * 4 + 2, none⟩) hlt).trans e2, (hb.cell (p := ⟨b, o + i * 4 + 3, none⟩) hlt).trans e3, tyF_below ht hb⟩

theorem kidsF_keep {w w' : World} {lo n : Nat} {ka : Option Addr} {ks : List Ty} (h : KidsF w lo n ka ks) (hsz : w.heap.size ≤ w'.heap.size) (hk : ∀ b, lo ≤ b → b < w.heap.size → w'.heap[b]? = w.heap[b]?) : KidsF w' lo n ka ks := by
  rcases h with h | ⟨b, o, e, hl, hcl, hc⟩
  · exact .inl h
  · have hlt := clean_lt hcl
    have hcell : ∀ j, w'.cell? ⟨b, j, none⟩ = w.cell? ⟨b, j, none⟩ := fun j => World.cell?_of_block (w := w) (a := ⟨b, j, none⟩) (hk b hl hlt)
    have hcl' : CleanB w' b := by
      obtain ⟨cs, t, hh⟩ := hcl
      exact ⟨cs, t, (hk b hl hlt).trans hh⟩
    refine .inr ⟨b, o, e, hl, hcl', fun i hi => ?_⟩
    obtain ⟨c0, c1, c2, c3, e0, e1, e2, e3, ht⟩ := hc i hi
    exact ⟨c0, c1, c2, c3, (hcell _).trans e0, (hcell _).trans e1, (hcell _).trans e2, (hcell _).trans e3, tyF_keep ht hsz hk⟩

theorem parts_c (lo n : Nat) (k : Int) (nm : ByteArray) (na : Option Addr) (nl nc : Nat) (ka : Option Addr) (kl kc : Nat) (E : Ty) (w : World) (h : TyF w lo n (.agg #[.int .i64 k, .string nm, .slice na nl nc, .slice ka kl kc]) E) (hl : lo ≤ w.heap.size) :
    Calls Tryd.prog 24 #[.agg #[.int .i64 k, .string nm, .slice na nl nc, .slice ka kl kc]] w fun e w' => ∃ a c, e = .returned (.slice a (membersT E).length c) ∧ KidsF w' lo n a (membersT E) ∧ Below w.heap.size w w' ∧ (membersT E).length ≤ reachBytes := by
  cases n with
  | zero => exact h.elim
  | succ n =>
    have hh := h
    obtain ⟨k', nm', na', nc', ka', kc', ns, ks, e, rfl, _, _, _, _, ⟨_, hkl⟩, _, hks⟩ := hh
    injection e with e
    injection e with e
    injection e with e0 e
    injection e with e1 e
    injection e with e2 e
    injection e with e3 _
    injection e0 with _ e0
    injection e3 with e3 e4 e5
    subst e0 e3 e4 e5
    by_cases hk : k = 7
    · subst hk
      have hm : membersT (mkT 7 nm'.data.toList ns ks) = ks := by unfold membersT; rw [kind_mk, if_pos rfl, kids_mk]
      rw [hm]
      refine (parts_union nm na nl nc ka ks.length kc w).mono fun e w' ⟨he, hw⟩ => ?_
      subst hw
      exact ⟨ka, kc, he, kidsF_mono (kidsF_below hks (bl_alloc _ _)) (Nat.le_succ _), bl_alloc _ _, hkl⟩
    · have hm : membersT (mkT k nm'.data.toList ns ks) = [mkT k nm'.data.toList ns ks] := by unfold membersT; rw [kind_mk, if_neg hk]
      rw [hm]
      refine (parts_other k hk nm na nl nc ka ks.length kc w).mono fun e w' ⟨he, hw⟩ => ?_
      subst hw
      have hb := below_next (bl_alloc w (tyO k nm na nl nc ka ks.length kc)) (bl_alloc _ (tyO k nm na nl nc ka ks.length kc))
      have h0 := heap_at1 w (tyO k nm na nl nc ka ks.length kc) (tyO k nm na nl nc ka ks.length kc)
      refine ⟨_, _, he, .inr ⟨_, _, rfl, by omega, ⟨_, _, h0⟩, fun i hi => ?_⟩, hb, by simp [reachBytes]⟩
      obtain rfl : i = 0 := by simp at hi; omega
      refine ⟨_, _, _, _, ?_, ?_, ?_, ?_, tyF_below h hb⟩ <;> (rw [cell_of_row _ _ _ _ _ _ h0]; rfl)

/-- The first one of a kind, with one more behind. -/
theorem first_snoc (L : List Ty) (x : Ty) (k : Int) : firstK (L ++ [x]) k = match firstK L k with | some y => some y | none => if kindT x = k then some x else none := by
  unfold firstK
  rw [List.find?_append]
  cases L.find? fun x => kindT x == k with
  | some y => rfl
  | none => by_cases h : kindT x = k <;> simp [h]

theorem first_prefix {L M : List Ty} {k : Int} {y : Ty} (h : firstK L k = some y) : firstK (L ++ M) k = some y := by
  unfold firstK at h ⊢
  rw [List.find?_append, h]
  rfl

/-- A union is refused where one of its members is any, or is not the first one of its tag. -/
theorem union_no {n : Nat} {nm : List UInt8} {ns : List (List UInt8)} {ks es : List Ty} (hl : es.length ≤ ks.length) (he : ∀ i (h : i < es.length), normT n (ks[i]'(by omega)) = some es[i]) {P M : List Ty} {x : Ty} (hP : es.flatMap membersT = P ++ x :: M)
    (hx : kindT x = 0 ∨ ∃ y, firstK P (kindT x) = some y ∧ y ≠ x) : normT (n + 1) (mkT 7 nm ns ks) = none := by
  rw [normT_uni]
  cases hm : ks.mapM (normT n) with
  | none => rfl
  | some fs =>
    obtain ⟨h1, h2⟩ := mapM_mem hm
    have hz := mapM_zip hm
    have hpre : ∃ R, fs = es ++ R := by
      refine ⟨fs.drop es.length, ?_⟩
      conv => lhs; rw [← List.take_append_drop es.length fs]
      congr 1
      refine List.ext_getElem (by simp; omega) fun i g1 g2 => ?_
      have hi : i < fs.length := by simp at g1; omega
      have hik : i < ks.length := by omega
      have hzi := hz (fs[i], ks[i]) (List.mem_iff_getElem.2 ⟨i, by simp; omega, by simp⟩)
      have := he i g2
      rw [List.getElem_take]
      exact Option.some.inj (hzi.symm.trans this)
    obtain ⟨R, rfl⟩ := hpre
    have hnorm : ∀ y ∈ es ++ R, NormT n y := fun y hy => by
      obtain ⟨z, _, hz⟩ := h1 y hy
      exact norm_normal hz
    have hmem : ∀ z ∈ (es ++ R).flatMap membersT, IsT n z := fun z hz => by
      obtain ⟨y, hy, hzy⟩ := List.mem_flatMap.1 hz
      exact is_norm (members_norm (hnorm y hy) z hzy).1
    have hfl : (es ++ R).flatMap membersT = P ++ x :: (M ++ R.flatMap membersT) := by rw [List.flatMap_append, hP]; simp
    show unionV n (es ++ R) = none
    unfold unionV
    rw [hfl]
    rw [hfl] at hmem
    rcases hx with hx | ⟨y, hy, hne⟩
    · rw [if_pos (List.any_eq_true.2 ⟨x, by simp, by simp [hx]⟩)]
    · split
      · rfl
      · rw [if_neg]
        intro hal
        unfold alikeV at hal
        have h3 := List.all_eq_true.1 hal x (by simp)
        rw [first_prefix hy] at h3
        have hyP := (first_mem hy).1
        exact hne (same_eq (hmem y (by simp [hyP])) (hmem x (by simp)) h3)

/-- .. and is made of the first ones, where there is none such. -/
theorem union_yes {n : Nat} {nm : List UInt8} {ns : List (List UInt8)} {ks es : List Ty} (hl : es.length = ks.length) (he : ∀ i (h : i < es.length), normT n (ks[i]'(by omega)) = some es[i])
    (hg : ∀ x ∈ es.flatMap membersT, kindT x ≠ 0 ∧ firstK (es.flatMap membersT) (kindT x) = some x) : normT (n + 1) (mkT 7 nm ns ks) = madeV (tagsL.filterMap (firstK (es.flatMap membersT))) := by
  have hm : ks.mapM (normT n) = some es := by
    clear hg
    induction ks generalizing es with
    | nil =>
      have : es = [] := List.length_eq_zero_iff.1 (by simpa using hl)
      subst this
      rfl
    | cons k ks ih =>
      match es, hl, he with
      | [], hl, _ => simp at hl
      | e :: es, hl, he =>
        have h0 := he 0 (by simp)
        have := ih (es := es) (by simpa using hl) fun i h => by
          have := he (i + 1) (by simpa using h)
          simpa using this
        simp only [List.getElem_cons_zero] at h0
        rw [List.mapM_cons, h0, this]
        rfl
  rw [normT_uni, hm]
  show unionV n es = _
  unfold unionV
  rw [if_neg, if_pos]
  · unfold alikeV
    refine List.all_eq_true.2 fun x hx => ?_
    rw [(hg x hx).2]
    obtain ⟨y, hy, hxy⟩ := List.mem_flatMap.1 hx
    obtain ⟨z, _, hz⟩ := (mapM_mem hm).1 y hy
    exact same_self (is_norm (members_norm (norm_normal hz) x hxy).1)
  · intro h
    obtain ⟨x, hx, h0⟩ := List.any_eq_true.1 h
    exact (hg x hx).1 (by simpa using h0)
end Go.Proofs.YtmpcjcjacpjilaaDoor
