/- gradusref03.Tag, Member and Same by contracts. -/
import Derived.Test.YtmpcjcjacpjilaaDoorTyNp
namespace Go.Proofs.YtmpcjcjacpjilaaDoor
open Go.RowKit

abbrev zR : Obj := .cells #[.int .i64 0, .string ⟨#[]⟩, .slice none 0 0, .slice none 0 0] 25

/-- The member of a tag. -/
def memberV (D : Ty) (tag : Int) : Option Ty := if tag = -1 then none else (membersT D).find? fun x => decide (tagV (kindT x) = tag)

theorem tagV_range (k : Int) : -1 ≤ tagV k ∧ tagV k ≤ 5 := by unfold tagV; split <;> omega

theorem member_out {D : Ty} {tag : Int} (h : tag < 0 ∨ 6 ≤ tag) : memberV D tag = none := by
  unfold memberV
  split
  · rfl
  · rw [List.find?_eq_none]
    intro x _
    have := tagV_range (kindT x)
    simp
    omega

theorem member_in {D : Ty} {tag : Int} (h : 0 ≤ tag) : memberV D tag = (membersT D).find? fun x => decide (tagV (kindT x) = tag) := by
  unfold memberV
  rw [if_neg (by omega)]

theorem find_take {p : Ty → Bool} {ks : List Ty} {j : Nat} (hj : j < ks.length) (h : (ks.take j).find? p = none) (hp : p ks[j] = true) : ks.find? p = some ks[j] := by
  have e := congrArg (List.find? p) (List.take_append_drop j ks)
  rw [List.find?_append, h, List.drop_eq_getElem_cons hj, List.find?_cons, hp] at e
  rw [← e]
  rfl

theorem find_next {p : Ty → Bool} {ks : List Ty} {j : Nat} (hj : j < ks.length) (h : (ks.take j).find? p = none) (hp : p ks[j] = false) : (ks.take (j + 1)).find? p = none := by
  rw [List.take_succ_eq_append_getElem hj, List.find?_append, h, List.find?_cons, hp]
  rfl

set_option maxHeartbeats 1000000 in
theorem rtag_c (k : Int) (nm : ByteArray) (na : Option Addr) (nl nc : Nat) (ka : Option Addr) (kl kc : Nat) (w : World) :
    Calls Tryd.prog 13 #[.agg #[.int .i64 k, .string nm, .slice na nl nc, .slice ka kl kc]] w fun e w' => e = .returned (.int .i64 (tagV k)) ∧ w' = w.alloc (tyO k nm na nl nc ka kl kc) := by
  by_cases hk : 1 ≤ k ∧ k ≤ 6
  · have : k = 1 ∨ k = 2 ∨ k = 3 ∨ k = 4 ∨ k = 5 ∨ k = 6 := by omega
    rcases this with rfl | rfl | rfl | rfl | rfl | rfl
    all_goals
      go_enter Tryd.func13, Tryd.ntmps13
      go_wp2
      go_ret
      exact ⟨rfl, rfl⟩
  · have h1 : (k == 1) = false := by rw [beq_eq_false_iff_ne]; omega
    have h2 : (k == 2) = false := by rw [beq_eq_false_iff_ne]; omega
    have h3 : (k == 3) = false := by rw [beq_eq_false_iff_ne]; omega
    have h4 : (k == 4) = false := by rw [beq_eq_false_iff_ne]; omega
    have h5 : (k == 5) = false := by rw [beq_eq_false_iff_ne]; omega
    have h6 : (k == 6) = false := by rw [beq_eq_false_iff_ne]; omega
    have ht : tagV k = -1 := by unfold tagV; rw [if_neg hk]
    rw [ht]
    clear hk ht
    go_enter Tryd.func13, Tryd.ntmps13
    go_wp2
    go_ret
    exact ⟨rfl, rfl⟩

/-- What the reference's Member leaves. -/
def RbPost (w : World) (n : Nat) (D : Ty) (tag : Int) (e : Ending) (w' : World) : Prop :=
  Below w.heap.size w w' ∧ ((memberV D tag = none ∧ e = .returned (.tuple #[zTy, .bool false])) ∨
    ∃ (E : Ty) (k : Int) (nm : ByteArray) (na : Option Addr) (nl nc : Nat) (ka : Option Addr) (kl kc : Nat), memberV D tag = some E ∧ e = .returned (.tuple #[.agg #[.int .i64 k, .string nm, .slice na nl nc, .slice ka kl kc], .bool true]) ∧
      TyAt w' false n (.agg #[.int .i64 k, .string nm, .slice na nl nc, .slice ka kl kc]) E)

theorem members_uni {k : Int} {nm : List UInt8} {ns : List (List UInt8)} {ks : List Ty} (h : k = 7) : membersT (mkT k nm ns ks) = ks := by
  unfold membersT
  rw [kind_mk, if_pos h, kids_mk]
theorem members_one {k : Int} {nm : List UInt8} {ns : List (List UInt8)} {ks : List Ty} (h : k ≠ 7) : membersT (mkT k nm ns ks) = [mkT k nm ns ks] := by
  unfold membersT
  rw [kind_mk, if_neg h]

/-- Nothing is answered. -/
theorem rb_none {w w1 : World} {n : Nat} {D : Ty} {tag : Int} {b : Nat} {y0 y1 y2 y3 : Value} (hn : memberV D tag = none) (hb : Below w.heap.size w w1) (hw : w.heap.size ≤ b) (h : w1.heap[b]? = some (.cells #[y0, y1, y2, y3] 25)) :
    (((((w1.setCell ⟨b, 0, none⟩ (.int .i64 0)).setCell ⟨b, 1, none⟩ (.string ⟨#[]⟩)).setCell ⟨b, 2, none⟩ (.slice none 0 0)).setCell ⟨b, 3, none⟩ (.slice none 0 0)).heap[b]? = some (.cells #[.int .i64 0, .string ⟨#[]⟩, .slice none 0 0, .slice none 0 0] 25)) ∧
    RbPost w n D tag (.returned (.tuple #[zTy, .bool false])) ((((w1.setCell ⟨b, 0, none⟩ (.int .i64 0)).setCell ⟨b, 1, none⟩ (.string ⟨#[]⟩)).setCell ⟨b, 2, none⟩ (.slice none 0 0)).setCell ⟨b, 3, none⟩ (.slice none 0 0)) :=
  ⟨set4 h _ _ _ _, below_set4 hb hw _ _ _ _, .inl ⟨hn, rfl⟩⟩

theorem kind_of_ty {w : World} {u : Bool} {n : Nat} {k : Int} {nm : ByteArray} {na : Option Addr} {nl nc : Nat} {ka : Option Addr} {kl kc : Nat} {D : Ty} (h : TyAt w u n (.agg #[.int .i64 k, .string nm, .slice na nl nc, .slice ka kl kc]) D) : kindT D = k := by
  cases n with
  | zero => exact h.elim
  | succ n =>
    obtain ⟨_, _, _, _, _, _, _, _, e, rfl, _⟩ := h
    injection e with e
    injection e with e
    injection e with e _
    injection e with _ e
    rw [kind_mk, e]

set_option maxHeartbeats 4000000 in
set_option maxRecDepth 100000 in
theorem rmember_c (n : Nat) (v : Value) (D : Ty) (w : World) (tag : Int) (h : TyAt w false n v D) :
    Calls Tryd.prog 10 #[v, .int .i64 tag] w (RbPost w n D tag) := by
  have HT := hideP h
  cases n with
  | zero => exact h.elim
  | succ n =>
    obtain ⟨k, nm, na, nc, ka, kc, ns, ks, rfl, rfl, _, _, _, ⟨_, hnl⟩, ⟨_, hkl⟩, _, hks⟩ := h
    have hkl' : ks.length ≤ 140737488351232 := hkl
    have HB0 := hideP (below_next (bl_alloc w (tyO k nm na ns.length nc ka ks.length kc)) (bl_alloc _ zR))
    have HBX : Hid (((w.alloc (tyO k nm na ns.length nc ka ks.length kc)).alloc zR).heap[w.heap.size]? = some (tyO k nm na ns.length nc ka ks.length kc)) := (Below.heap_alloc _ _ _ (by simp)).trans (heap_alloc_last w _)
    have HRS : Hid (((w.alloc (tyO k nm na ns.length nc ka ks.length kc)).alloc zR).heap[w.heap.size + 1]? = some zR) := heap_at1 w _ _
    have HK := hideP hks
    clear hks hnl hkl
    by_cases c1 : tag < 0
    · have HN := hideP (member_out (D := mkT k nm.data.toList ns ks) (tag := tag) (.inl c1))
      go_enter Tryd.func10, Tryd.ntmps10
      go_wp2_with fail
      exact bodyPost_ret (results_cell_tmp rfl _ rfl HRS.out Tryd.underlying25 ty_size) rfl ⟨HB0.out, .inl ⟨HN.out, rfl⟩⟩
    by_cases c2 : 6 ≤ tag
    · have HN := hideP (member_out (D := mkT k nm.data.toList ns ks) (tag := tag) (.inr c2))
      go_enter Tryd.func10, Tryd.ntmps10
      go_wp2_with fail
      exact bodyPost_ret (results_cell_tmp rfl _ rfl HRS.out Tryd.underlying25 ty_size) rfl ⟨HB0.out, .inl ⟨HN.out, rfl⟩⟩
    have HMV := hideP (member_in (D := mkT k nm.data.toList ns ks) (tag := tag) (by omega))
    by_cases c3 : k = 7
    · subst c3
      rw [members_uni rfl] at HMV
      obtain ⟨W, hW⟩ : ∃ W, W = (w.alloc (tyO 7 nm na ns.length nc ka ks.length kc)).alloc zR := ⟨_, rfl⟩
      have HWW := hideP hW
      rw [← hW] at HB0 HBX HRS
      clear hW
      go_enter Tryd.func10, Tryd.ntmps10
      go_wp2_with fail
      go_loopw [6] (fun i wx => ∃ j : Nat, i = .int .i64 j ∧ j ≤ ks.length ∧ Hid ((ks.take j).find? (fun x => decide (tagV (kindT x) = tag)) = none) ∧ Hid (Below W.heap.size W wx)) (fun i _ => ks.length - (intOf i).toNat)
      case atStart => exact ⟨0, rfl, Nat.zero_le _, show _ = _ by simp, by show Below _ _ _; rw [HWW.out]; exact Below.refl _ _⟩
      case round =>
        obtain ⟨j, rfl, hj, hfd, hbl⟩ := hrel
        have hbx := (hbl.out.block _ (lt_of_block HBX.out)).trans HBX.out
        have hrs := (hbl.out.block _ (lt_of_block HRS.out)).trans HRS.out
        obtain ⟨⟨x0, x1, x2, x3⟩, _, hltx⟩ := res_facts hbx
        obtain ⟨⟨z0, z1, z2, z3⟩, ⟨f0, f1, f2, f3⟩, hltz⟩ := res_facts hrs
        have HRS1 := hideP hrs
        have HBW := hideP (below_next HB0.out hbl.out)
        clear hbx hrs
        by_cases hlt : j < ks.length
        · have hjl : (j : Int) < (ks.length : Int) := by omega
          obtain ⟨b, o, k', nm', na', nl', nc', la', ll', lc', rfl, hb1, q0, q1, q2, q3, ht⟩ := kid_at HK.out hlt
          have r0 := (HBW.out.cell (p := ⟨b, o + j * 4, none⟩) hb1).trans q0
          have r1 := (HBW.out.cell (p := ⟨b, o + j * 4 + 1, none⟩) hb1).trans q1
          have r2 := (HBW.out.cell (p := ⟨b, o + j * 4 + 2, none⟩) hb1).trans q2
          have r3 := (HBW.out.cell (p := ⟨b, o + j * 4 + 3, none⟩) hb1).trans q3
          have HTK := hideP ht
          clear q0 q1 q2 q3 ht
          have hkt := kind_of_ty HTK.out
          have hltb : b < wr.heap.size := Nat.lt_of_lt_of_le hb1 HBW.out.size
          by_cases hg : tagV k' = tag
          · have hge : (tagV k' == tag) = true := by rw [beq_iff_eq]; exact hg
            have HHIT := hideP (find_take hlt hfd.out (by rw [hkt]; exact decide_eq_true hg))
            clear hg hkt
            go_wp2_with fail
            refine (rtag_c _ _ _ _ _ _ _ _ _).mono ?_
            rintro e w' ⟨rfl, rfl⟩
            go_wp2_with fail
            refine bodyPost_ret (results_cell_tmp rfl _ rfl ((Below.heap_alloc _ _ _ (by rw [size_set4]; exact hltz)).trans (set4 HRS1.out _ _ _ _)) Tryd.underlying25 ty_size) rfl ?_
            have hbf := (below_set4 HBW.out (show w.heap.size ≤ w.heap.size + 1 by omega) (.int .i64 k') (.string nm') (.slice na' nl' nc') (.slice la' ll' lc')).alloc (by rw [size_set4]; exact HBW.out.size) (tyO k' nm' na' nl' nc' la' ll' lc')
            exact ⟨hbf, .inr ⟨_, k', nm', na', nl', nc', la', ll', lc', HMV.out.trans HHIT.out, rfl, ty_mono (ty_below HTK.out hbf) (Nat.le_succ _)⟩⟩
          · have hge : (tagV k' == tag) = false := by rw [beq_eq_false_iff_ne]; exact hg
            have HMISS := hideP (find_next hlt hfd.out (by rw [hkt]; exact decide_eq_false hg))
            clear hg hkt
            go_wp2_with fail
            refine (rtag_c _ _ _ _ _ _ _ _ _).mono ?_
            rintro e w' ⟨rfl, rfl⟩
            go_wp2_with fail
            exact ⟨⟨j + 1, by go_num, by omega, HMISS, hbl.out.alloc hbl.out.size _⟩, by simp [intOf]; omega⟩
        · have hjl : ¬ (j : Int) < (ks.length : Int) := by omega
          have HMISS : Hid (memberV (mkT 7 nm.data.toList ns ks) tag = none) := by
            show _ = _
            have := hfd.out
            rw [List.take_of_length_le (by omega)] at this
            rw [HMV.out, this]
          go_wp2_with fail
          obtain ⟨g1, g2⟩ := rb_none HMISS.out HBW.out (by omega) HRS1.out
          exact bodyPost_ret (results_cell_tmp rfl _ rfl g1 Tryd.underlying25 ty_size) rfl g2
    · rw [members_one c3] at HMV
      have e3 : (k == 7) = false := by rw [beq_eq_false_iff_ne]; exact c3
      clear HK
      obtain ⟨⟨x0, x1, x2, x3⟩, _, hltx⟩ := res_facts HBX.out
      obtain ⟨⟨z0, z1, z2, z3⟩, ⟨f0, f1, f2, f3⟩, hltz⟩ := res_facts HRS.out
      by_cases hg : tagV k = tag
      · have hge : (tagV k == tag) = true := by rw [beq_iff_eq]; exact hg
        have HHIT : Hid (memberV (mkT k nm.data.toList ns ks) tag = some (mkT k nm.data.toList ns ks)) := by
          show _ = _
          rw [HMV.out, List.find?_cons, kind_mk, decide_eq_true hg]
        clear hg c3
        go_enter Tryd.func10, Tryd.ntmps10
        go_wp2_with fail
        refine (rtag_c _ _ _ _ _ _ _ _ _).mono ?_
        rintro e w' ⟨rfl, rfl⟩
        go_wp2_with fail
        have hbf := below_next (below_next (bl_alloc w (tyO k nm na ns.length nc ka ks.length kc)) (bl_alloc _ (tyO k nm na ns.length nc ka ks.length kc))) (bl_alloc _ (tyO k nm na ns.length nc ka ks.length kc))
        refine bodyPost_ret (results_cell_tmp rfl _ rfl ((Below.heap_alloc _ _ _ (by simp)).trans (heap_at1 w _ _)) Tryd.underlying25 ty_size) rfl ?_
        exact ⟨hbf, .inr ⟨_, k, nm, na, ns.length, nc, ka, ks.length, kc, HHIT.out, rfl, ty_below HT.out hbf⟩⟩
      · have hge : (tagV k == tag) = false := by rw [beq_eq_false_iff_ne]; exact hg
        have HMISS : Hid (memberV (mkT k nm.data.toList ns ks) tag = none) := by
          show _ = _
          rw [HMV.out, List.find?_cons, kind_mk, decide_eq_false hg]
          rfl
        clear hg c3
        go_enter Tryd.func10, Tryd.ntmps10
        go_wp2_with fail
        refine (rtag_c _ _ _ _ _ _ _ _ _).mono ?_
        rintro e w' ⟨rfl, rfl⟩
        go_wp2_with fail
        refine bodyPost_ret (results_cell_tmp rfl _ rfl ((Below.heap_alloc _ _ _ (by simp)).trans (heap_at1 w _ _)) Tryd.underlying25 ty_size) rfl ?_
        exact ⟨below_next HB0.out (bl_alloc _ _), .inl ⟨HMISS.out, rfl⟩⟩
end Go.Proofs.YtmpcjcjacpjilaaDoor
