/- types.Member by a contract. -/
import Derived.Test.YtmpcjcjacpjilaaDoorTyCopy
import Derived.Test.YtmpcjcjacpjilaaDoorTyCp
import Derived.Test.YtmpcjcjacpjilaaDoorRefTg
namespace Go.Proofs.YtmpcjcjacpjilaaDoor
open Go.RowKit

/-- What Member leaves: the member of that tag as a fresh copy. -/
def MbPost (w : World) (n : Nat) (D : Ty) (tag : Int) (e : Ending) (w' : World) : Prop :=
  Below w.heap.size w w' ∧ ((memberV D tag = none ∧ e = .returned (.tuple #[zTy, .bool false])) ∨
    ∃ (E : Ty) (k : Int) (nm : ByteArray) (na : Option Addr) (nl nc : Nat) (ka : Option Addr) (kl kc : Nat), memberV D tag = some E ∧ e = .returned (.tuple #[.agg #[.int .i64 k, .string nm, .slice na nl nc, .slice ka kl kc], .bool true]) ∧
      TyF w' w.heap.size n (.agg #[.int .i64 k, .string nm, .slice na nl nc, .slice ka kl kc]) E)

/-- The members of a type, in whatever rows. -/
theorem parts_f (n : Nat) (v : Value) (D : Ty) (w : World) (h : TyAt w false n v D) :
    Calls Tryd.prog 24 #[v] w fun e w' => ∃ a c, e = .returned (.slice a (membersT D).length c) ∧ KidsAt w' false n a (membersT D) ∧ Below w.heap.size w w' ∧ (membersT D).length ≤ reachBytes := by
  have h' := h
  cases n with
  | zero => exact h.elim
  | succ n =>
    obtain ⟨k, nm, na, nc, ka, kc, ns, ks, rfl, rfl, _, _, _, _, ⟨_, hkl⟩, _, hks⟩ := h
    by_cases h7 : k = 7
    · rw [members_uni h7]
      subst h7
      refine (parts_union nm na ns.length nc ka ks.length kc w).mono ?_
      rintro e w' ⟨rfl, rfl⟩
      exact ⟨ka, kc, rfl, kids_mono (kids_below hks (bl_alloc _ _)) (Nat.le_succ _), bl_alloc _ _, hkl⟩
    · rw [members_one h7]
      refine (parts_other k h7 nm na ns.length nc ka ks.length kc w).mono ?_
      rintro e w' ⟨rfl, rfl⟩
      have hb := below_next (bl_alloc w (tyO k nm na ns.length nc ka ks.length kc)) (bl_alloc _ (tyO k nm na ns.length nc ka ks.length kc))
      have hx := heap_at1 w (tyO k nm na ns.length nc ka ks.length kc) (tyO k nm na ns.length nc ka ks.length kc)
      refine ⟨some ⟨w.heap.size + 1, 0, none⟩, 1, rfl, .inr ⟨_, 0, rfl, lt_of_block hx, clean_frozen ⟨_, _, hx⟩, fun h => (by cases h), fun i hi => ?_⟩, hb, by simp [reachBytes]⟩
      have : i = 0 := by simp at hi; omega
      subst this
      refine ⟨_, _, _, _, ?_, ?_, ?_, ?_, ty_below h' hb⟩ <;> (rw [cell_of_row _ (w.heap.size + 1) _ _ _ _ hx]; rfl)

/-- Nothing is answered. -/
theorem mb_none {w w1 : World} {n : Nat} {D : Ty} {tag : Int} {b : Nat} (x0 x1 x2 x3 : Value) (hn : memberV D tag = none) (hb : Below w.heap.size w w1) (hw : w.heap.size ≤ b) :
    MbPost w n D tag (.returned (.tuple #[zTy, .bool false])) ((((w1.setCell ⟨b, 0, none⟩ x0).setCell ⟨b, 1, none⟩ x1).setCell ⟨b, 2, none⟩ x2).setCell ⟨b, 3, none⟩ x3) :=
  ⟨below_set4 hb hw _ _ _ _, .inl ⟨hn, rfl⟩⟩

set_option maxHeartbeats 4000000 in
set_option maxRecDepth 100000 in
theorem member_c (n : Nat) (v : Value) (D : Ty) (w : World) (tag : Int) (h : TyAt w false n v D) (hf : FewT n D) :
    Calls Tryd.prog 9 #[v, .int .i64 tag] w (MbPost w n D tag) := by
  obtain ⟨k, nm, na, nl, nc, ka, kl, kc, rfl, _⟩ := ty_form0 h
  have HB0 := hideP (below_next (bl_alloc w (tyO k nm na nl nc ka kl kc)) (bl_alloc _ zR))
  have HBX : Hid (((w.alloc (tyO k nm na nl nc ka kl kc)).alloc zR).heap[w.heap.size]? = some (tyO k nm na nl nc ka kl kc)) := (Below.heap_alloc _ _ _ (by simp)).trans (heap_alloc_last w _)
  have HRS : Hid (((w.alloc (tyO k nm na nl nc ka kl kc)).alloc zR).heap[w.heap.size + 1]? = some zR) := heap_at1 w _ _
  have HFM := hideP (few_of_members (ty_is h) hf)
  have HC1 := hideP (parts_f n _ D _ (ty_below h HB0.out))
  clear h hf
  by_cases c1 : tag = -1
  · subst c1
    have HN : Hid (memberV D (-1) = none) := by show _ = _; unfold memberV; rw [if_pos rfl]
    go_enter Tryd.func9, Tryd.ntmps9
    go_wp2_with fail
    exact bodyPost_ret (results_cell_tmp rfl _ rfl HRS.out Tryd.underlying25 ty_size) rfl ⟨HB0.out, .inl ⟨HN.out, rfl⟩⟩
  have e1 : (tag == -1) = false := by rw [beq_eq_false_iff_ne]; exact c1
  have HMV : Hid (memberV D tag = (membersT D).find? fun x => decide (tagV (kindT x) = tag)) := by show _ = _; unfold memberV; rw [if_neg c1]
  obtain ⟨M, hM⟩ : ∃ M, M = membersT D := ⟨_, rfl⟩
  rw [← hM] at HFM HC1 HMV
  clear c1 hM
  go_enter Tryd.func9, Tryd.ntmps9
  go_wp2_with fail
  refine HC1.out.mono ?_
  rintro e w1 ⟨a, c, rfl, hKA, hb1, hml⟩
  have hml' : M.length ≤ 140737488351232 := hml
  have HB1 := hideP (below_next HB0.out hb1)
  have HRS1 := hideP ((hb1.block _ (lt_of_block HRS.out)).trans HRS.out)
  have HKA := hideP hKA
  have hsz1 : w.heap.size + 2 ≤ w1.heap.size := by have := lt_of_block HRS1.out; omega
  clear hKA hb1 hml
  go_wp2_with fail
  go_loopw [14] (fun i wx => ∃ j : Nat, i = .int .i64 j ∧ j ≤ M.length ∧ Hid ((M.take j).find? (fun x => decide (tagV (kindT x) = tag)) = none) ∧ Hid (Below w1.heap.size w1 wx)) (fun i _ => M.length - (intOf i).toNat)
  case atStart => exact ⟨0, rfl, Nat.zero_le _, show _ = _ by simp, Below.refl _ _⟩
  case round =>
    obtain ⟨j, rfl, hj, hfd, hbl⟩ := hrel
    have hrs := (hbl.out.block _ (lt_of_block HRS1.out)).trans HRS1.out
    obtain ⟨⟨z0, z1, z2, z3⟩, ⟨f0, f1, f2, f3⟩, hltz⟩ := res_facts hrs
    have HRS2 := hideP hrs
    have HBW := hideP (below_next HB1.out hbl.out)
    clear hrs
    by_cases hlt : j < M.length
    · have hjl : (j : Int) < (M.length : Int) := by omega
      obtain ⟨b, o, k', nm', na', nl', nc', la', ll', lc', rfl, hb1, q0, q1, q2, q3, ht⟩ := kid_at HKA.out hlt
      have r0 := (hbl.out.cell (p := ⟨b, o + j * 4, none⟩) hb1).trans q0
      have r1 := (hbl.out.cell (p := ⟨b, o + j * 4 + 1, none⟩) hb1).trans q1
      have r2 := (hbl.out.cell (p := ⟨b, o + j * 4 + 2, none⟩) hb1).trans q2
      have r3 := (hbl.out.cell (p := ⟨b, o + j * 4 + 3, none⟩) hb1).trans q3
      have HTK := hideP (ty_below ht hbl.out)
      have hkt := kind_of_ty ht
      have hltb : b < wr.heap.size := Nat.lt_of_lt_of_le hb1 hbl.out.size
      clear q0 q1 q2 q3 ht
      by_cases hg : tagV k' = tag
      · have hge : (tagV k' == tag) = true := by rw [beq_iff_eq]; exact hg
        have HHIT := hideP (find_take hlt hfd.out (by rw [hkt]; exact decide_eq_true hg))
        have HFJ := hideP (HFM.out _ (List.getElem_mem hlt))
        have HCP := hideP (fun wx hwx => copy_c n _ M[j] wx (ty_below HTK.out hwx) HFJ.out)
        clear hg hkt
        go_wp2_with fail
        refine (tag_c _ _ _ _ _ _ _ _ _).mono ?_
        rintro e w' ⟨rfl, rfl⟩
        go_wp2_with fail
        refine (HCP.out _ (below_next (bl_alloc _ _) (bl_alloc _ _))).mono ?_
        rintro e w5 ⟨v5, rfl, hF5, hb5⟩
        obtain ⟨c1, c2, c3, c4, c5, c6, c7, c8, rfl, _⟩ := tyF_form hF5
        have hb50 := below_next (below_next (bl_alloc wr (tyO k' nm' na' nl' nc' la' ll' lc')) (bl_alloc _ (tyO k' nm' na' nl' nc' la' ll' lc'))) hb5
        have HRS5 := hideP ((hb50.block _ hltz).trans HRS2.out)
        have HB5 := hideP (below_next HBW.out hb50)
        have HF5 := hideP (tyF_lower hF5 (lo' := w.heap.size + 2) (by have := hbl.out.size; simp; omega))
        clear hF5 hb5 hb50 z0 z1 z2 z3 f0 f1 f2 f3 hltz
        obtain ⟨⟨z0, z1, z2, z3⟩, ⟨f0, f1, f2, f3⟩, hltz⟩ := res_facts HRS5.out
        go_wp2_with fail
        refine bodyPost_ret (results_cell_tmp rfl _ rfl (set4 HRS5.out _ _ _ _) Tryd.underlying25 ty_size) rfl ?_
        exact ⟨below_set4 HB5.out (by omega) _ _ _ _, .inr ⟨_, c1, c2, c3, c4, c5, c6, c7, c8, HMV.out.trans HHIT.out, rfl, tyF_lower (tyF_keep HF5.out (by rw [size_set4]; exact Nat.le_refl _) fun bb h1 _ => other_set4 (by omega) _ _ _ _) (by omega)⟩⟩
      · have hge : (tagV k' == tag) = false := by rw [beq_eq_false_iff_ne]; exact hg
        have HMISS := hideP (find_next hlt hfd.out (by rw [hkt]; exact decide_eq_false hg))
        clear hg hkt
        go_wp2_with fail
        refine (tag_c _ _ _ _ _ _ _ _ _).mono ?_
        rintro e w' ⟨rfl, rfl⟩
        go_wp2_with fail
        exact ⟨⟨j + 1, by go_num, by omega, HMISS, (hbl.out.alloc hbl.out.size _).alloc (by simp; have := hbl.out.size; omega) _⟩, by simp [intOf]; omega⟩
    · have hjl : ¬ (j : Int) < (M.length : Int) := by omega
      have HMISS : Hid (memberV D tag = none) := by
        show _ = _
        have := hfd.out
        rw [List.take_of_length_le (by omega)] at this
        rw [HMV.out, this]
      go_wp2_with fail
      exact bodyPost_ret (results_cell_tmp rfl _ rfl (set4 HRS2.out _ _ _ _) Tryd.underlying25 ty_size) rfl (mb_none _ _ _ _ HMISS.out HBW.out (by omega))
end Go.Proofs.YtmpcjcjacpjilaaDoor
