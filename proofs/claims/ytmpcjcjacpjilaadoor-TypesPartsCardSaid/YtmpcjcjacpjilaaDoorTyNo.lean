/- types.norm by a contract. -/
import Derived.Test.YtmpcjcjacpjilaaDoorTyNf
import Derived.Test.YtmpcjcjacpjilaaDoorTyNu2
import Derived.Test.YtmpcjcjacpjilaaDoorTyNr2
namespace Go.Proofs.YtmpcjcjacpjilaaDoor
open Go.RowKit

/-- What norm does with what its three helpers answer. -/
theorem norm_pass {w w0 w1 : World} {n : Nat} {D : Ty} {e : Ending} (hb : Below w.heap.size w w0) (h : NormPost w0 n D e w1) : NormPost w n D e w1 := by
  obtain ⟨h1, h2⟩ := h
  refine ⟨below_next hb h1, ?_⟩
  cases hn : normT n D with
  | none => rw [hn] at h2; exact h2
  | some E =>
    rw [hn] at h2
    obtain ⟨v, e1, e2⟩ := h2
    exact ⟨v, e1, tyF_lower e2 hb.size⟩

set_option maxHeartbeats 4000000 in
set_option maxRecDepth 100000 in
theorem norm_step (n : Nat) (ih : NormAt n) : NormAt (n + 1) := by
  intro v D w h hw
  obtain ⟨k, nm, na, nc, ka, kc, ns, ks, rfl, rfl, h3, h4, h5, ⟨_, h6⟩, ⟨_, h7⟩, h8, h9⟩ := h
  have HW := hideP hw
  have HNA := hideP h8
  have HK := hideP h9
  have HNS := hideP h5
  have HNM := hideP h4
  have HB := hideP (below_next (bl_alloc w (tyO k nm na ns.length nc ka ks.length kc)) (bl_alloc _ zO))
  have IH := hideP ih
  clear hw h8 h9 h5 h4 ih
  by_cases h50 : k = 5
  · subst h50
    have HC : Hid (∀ wx, Below w.heap.size w wx → Calls Tryd.prog 43 #[.agg #[.int .i64 5, .string nm, .slice na ns.length nc, .slice ka ks.length kc]] wx (NormPost wx (n + 1) (mkT 5 nm.data.toList ns ks))) := fun wx hx => normRecord_c n IH.out nm na nc ka kc ns ks wx h6 h7 HNS.out (names_below HNA.out hx) (kids_below HK.out hx) (HW.out.below hx)
    go_enter Tryd.func28, Tryd.ntmps28
    go_wp2_with fail
    refine (HC.out _ HB.out).mono ?_
    intro e w1 hpost
    have HP := hideP (norm_pass HB.out hpost)
    obtain ⟨hb1, hways⟩ := norm_ways HP.out
    have hrs : w1.heap[w.heap.size + 1]? = some zO := (hpost.1.block _ (by simp)).trans (heap_at1 w _ _)
    obtain ⟨⟨z0, z1, z2, z3⟩, ⟨f0, f1, f2, f3⟩, hlt1⟩ := res_facts hrs
    have HRS := hideP hrs
    have HB1 := hideP hb1
    have HPB := hideP hpost
    clear hrs hb1 hpost
    rcases hways with ⟨hn, rfl⟩ | ⟨E1, g1, g2, g3, g4, g5, g6, g7, g8, hn, rfl, hF1, hk1⟩
    · have HN := hideP hn
      clear hn
      go_wp2_with fail
      exact bodyPost_ret (results_cell_tmp rfl _ rfl (no_answer0 HN.out HB1.out (by omega) HRS.out).1 Tryd.underlying25 ty_size) rfl (norm_conv (no_answer0 HN.out HB1.out (by omega) HRS.out).2 rfl)
    · have HN := hideP hn
      have HF := hideP hF1
      have HF2 : Hid (TyF w1 (w.heap.size + 2) (n + 1) (.agg #[.int .i64 g1, .string g2, .slice g3 g4 g5, .slice g6 g7 g8]) E1) := by
        obtain ⟨_, hh⟩ := HPB.out
        rw [HN.out] at hh
        obtain ⟨v, e1, e2⟩ := hh
        injection e1 with e1
        injection e1 with e1
        injection e1 with e1
        injection e1 with e1 _
        rw [e1]
        show TyF _ _ _ _ _
        simpa using e2
      clear hn hF1 hk1
      go_wp2_with fail
      refine bodyPost_ret (results_cell_tmp rfl _ rfl (set4 HRS.out _ _ _ _) Tryd.underlying25 ty_size) rfl ?_
      exact an_answer HN.out (below_set4 HB1.out (by omega) _ _ _ _) (tyF_lower (tyF_keep HF2.out (by rw [size_set4]; exact Nat.le_refl _) fun bb h1 _ => other_set4 (by omega) _ _ _ _) (by omega)) rfl
  by_cases h60 : k = 6
  · subst h60
    have HC : Hid (∀ wx, Below w.heap.size w wx → Calls Tryd.prog 44 #[.agg #[.int .i64 6, .string nm, .slice na ns.length nc, .slice ka ks.length kc]] wx (NormPost wx (n + 1) (mkT 6 nm.data.toList ns ks))) := fun wx hx => normFunction_c n IH.out nm na nc ka kc ns ks wx h7 (kids_below HK.out hx) (HW.out.below hx)
    go_enter Tryd.func28, Tryd.ntmps28
    go_wp2_with fail
    refine (HC.out _ HB.out).mono ?_
    intro e w1 hpost
    have HP := hideP (norm_pass HB.out hpost)
    obtain ⟨hb1, hways⟩ := norm_ways HP.out
    have hrs : w1.heap[w.heap.size + 1]? = some zO := (hpost.1.block _ (by simp)).trans (heap_at1 w _ _)
    obtain ⟨⟨z0, z1, z2, z3⟩, ⟨f0, f1, f2, f3⟩, hlt1⟩ := res_facts hrs
    have HRS := hideP hrs
    have HB1 := hideP hb1
    have HPB := hideP hpost
    clear hrs hb1 hpost
    rcases hways with ⟨hn, rfl⟩ | ⟨E1, g1, g2, g3, g4, g5, g6, g7, g8, hn, rfl, hF1, hk1⟩
    · have HN := hideP hn
      clear hn
      go_wp2_with fail
      exact bodyPost_ret (results_cell_tmp rfl _ rfl (no_answer0 HN.out HB1.out (by omega) HRS.out).1 Tryd.underlying25 ty_size) rfl (norm_conv (no_answer0 HN.out HB1.out (by omega) HRS.out).2 rfl)
    · have HN := hideP hn
      have HF := hideP hF1
      have HF2 : Hid (TyF w1 (w.heap.size + 2) (n + 1) (.agg #[.int .i64 g1, .string g2, .slice g3 g4 g5, .slice g6 g7 g8]) E1) := by
        obtain ⟨_, hh⟩ := HPB.out
        rw [HN.out] at hh
        obtain ⟨v, e1, e2⟩ := hh
        injection e1 with e1
        injection e1 with e1
        injection e1 with e1
        injection e1 with e1 _
        rw [e1]
        show TyF _ _ _ _ _
        simpa using e2
      clear hn hF1 hk1
      go_wp2_with fail
      refine bodyPost_ret (results_cell_tmp rfl _ rfl (set4 HRS.out _ _ _ _) Tryd.underlying25 ty_size) rfl ?_
      exact an_answer HN.out (below_set4 HB1.out (by omega) _ _ _ _) (tyF_lower (tyF_keep HF2.out (by rw [size_set4]; exact Nat.le_refl _) fun bb h1 _ => other_set4 (by omega) _ _ _ _) (by omega)) rfl
  by_cases h70 : k = 7
  · subst h70
    have HC : Hid (∀ wx, Below w.heap.size w wx → Calls Tryd.prog 45 #[.agg #[.int .i64 7, .string nm, .slice na ns.length nc, .slice ka ks.length kc]] wx (NormPost wx (n + 1) (mkT 7 nm.data.toList ns ks))) := fun wx hx => normUnion_c n IH.out nm na nc ka kc ns ks wx h7 (kids_below HK.out hx) (HW.out.below hx)
    go_enter Tryd.func28, Tryd.ntmps28
    go_wp2_with fail
    refine (HC.out _ HB.out).mono ?_
    intro e w1 hpost
    have HP := hideP (norm_pass HB.out hpost)
    obtain ⟨hb1, hways⟩ := norm_ways HP.out
    have hrs : w1.heap[w.heap.size + 1]? = some zO := (hpost.1.block _ (by simp)).trans (heap_at1 w _ _)
    obtain ⟨⟨z0, z1, z2, z3⟩, ⟨f0, f1, f2, f3⟩, hlt1⟩ := res_facts hrs
    have HRS := hideP hrs
    have HB1 := hideP hb1
    have HPB := hideP hpost
    clear hrs hb1 hpost
    rcases hways with ⟨hn, rfl⟩ | ⟨E1, g1, g2, g3, g4, g5, g6, g7, g8, hn, rfl, hF1, hk1⟩
    · have HN := hideP hn
      clear hn
      go_wp2_with fail
      exact bodyPost_ret (results_cell_tmp rfl _ rfl (no_answer0 HN.out HB1.out (by omega) HRS.out).1 Tryd.underlying25 ty_size) rfl (norm_conv (no_answer0 HN.out HB1.out (by omega) HRS.out).2 rfl)
    · have HN := hideP hn
      have HF := hideP hF1
      have HF2 : Hid (TyF w1 (w.heap.size + 2) (n + 1) (.agg #[.int .i64 g1, .string g2, .slice g3 g4 g5, .slice g6 g7 g8]) E1) := by
        obtain ⟨_, hh⟩ := HPB.out
        rw [HN.out] at hh
        obtain ⟨v, e1, e2⟩ := hh
        injection e1 with e1
        injection e1 with e1
        injection e1 with e1
        injection e1 with e1 _
        rw [e1]
        show TyF _ _ _ _ _
        simpa using e2
      clear hn hF1 hk1
      go_wp2_with fail
      refine bodyPost_ret (results_cell_tmp rfl _ rfl (set4 HRS.out _ _ _ _) Tryd.underlying25 ty_size) rfl ?_
      exact an_answer HN.out (below_set4 HB1.out (by omega) _ _ _ _) (tyF_lower (tyF_keep HF2.out (by rw [size_set4]; exact Nat.le_refl _) fun bb h1 _ => other_set4 (by omega) _ _ _ _) (by omega)) rfl
  have HRS : Hid (((w.alloc (tyO k nm na ns.length nc ka ks.length kc)).alloc zO).heap[w.heap.size + 1]? = some zO) := heap_at1 w _ _
  by_cases hbase : 0 ≤ k ∧ k ≤ 4
  · have HN : Hid (normT (n + 1) (mkT k nm.data.toList ns ks) = some (mkT k [] [] [])) := normT_base hbase
    have hk5 : k = 0 ∨ k = 1 ∨ k = 2 ∨ k = 3 ∨ k = 4 := by omega
    clear hbase h50 h60 h70
    rcases hk5 with rfl | rfl | rfl | rfl | rfl
    all_goals
      go_enter Tryd.func28, Tryd.ntmps28
      go_wp2_with fail
      refine bodyPost_ret (results_cell_tmp rfl _ rfl (heap_at1 w _ _) Tryd.underlying25 ty_size) rfl ?_
      exact an_answer HN.out (below_next (bl_alloc w _) (bl_alloc _ _)) ⟨_, ⟨#[]⟩, none, 0, none, 0, [], [], rfl, rfl, by decide, by decide, by simp, ⟨Nat.le_refl _, by simp [reachBytes]⟩, ⟨Nat.le_refl _, by simp [reachBytes]⟩, .inl rfl, .inl rfl⟩ rfl
  · have HN : Hid (normT (n + 1) (mkT k nm.data.toList ns ks) = none) := normT_other (by omega)
    have b0 : (k == 0) = false := by rw [beq_eq_false_iff_ne]; omega
    have b1 : (k == 1) = false := by rw [beq_eq_false_iff_ne]; omega
    have b2 : (k == 2) = false := by rw [beq_eq_false_iff_ne]; omega
    have b3 : (k == 3) = false := by rw [beq_eq_false_iff_ne]; omega
    have b4 : (k == 4) = false := by rw [beq_eq_false_iff_ne]; omega
    have b5 : (k == 5) = false := by rw [beq_eq_false_iff_ne]; omega
    have b6 : (k == 6) = false := by rw [beq_eq_false_iff_ne]; omega
    have b7 : (k == 7) = false := by rw [beq_eq_false_iff_ne]; omega
    go_enter Tryd.func28, Tryd.ntmps28
    go_wp2_with fail
    exact bodyPost_ret (results_cell_tmp rfl _ rfl (heap_at1 w _ _) Tryd.underlying25 ty_size) rfl (norm_conv (e' := .returned (.tuple #[zTy, .bool false])) ⟨below_next (bl_alloc w _) (bl_alloc _ _), by rw [HN.out]⟩ rfl)

theorem norm_c : ∀ n, NormAt n
  | 0 => fun _ _ _ h => h.elim
  | n + 1 => norm_step n (norm_c n)
end Go.Proofs.YtmpcjcjacpjilaaDoor
