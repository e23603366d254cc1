/- A union has a member just for the tags of its Kids, and each is that Kid; another type is its own member: graduslaw03.TypesParts returns true for every type and every tag. -/
import Derived.Test.YtmpcjcjacpjilaaDoorTyAw
import Derived.Test.YtmpcjcjacpjilaaDoorTySm
import Derived.Test.YtmpcjcjacpjilaaDoorTyMb
import Derived.BigQuiet
import Derived.Deep.RegionWith
import Derived.RegionTactic
import Derived.Deep.Cut
import Derived.Deep.CutRange
import Derived.Deep.RegionHeld
import Derived.Test.YtmpcjcjacpjilaaDoorLaid3
namespace Go.Proofs.YtmpcjcjacpjilaaDoor
open Go.ChangeShapes Go.WideShapes Go.ChangeAt Go.RowKit
open Go.ChangeMaps (open_string shut_string)

/-- Among types of rising kinds, the first of a tag is the only one of it. -/
theorem find_rise {ks : List Ty} (hr : ks.Pairwise fun a b => kindT a < kindT b) (hk : ∀ x ∈ ks, 1 ≤ kindT x ∧ kindT x ≤ 6) {tag : Int} {E x : Ty} (h : ks.find? (fun x => decide (tagV (kindT x) = tag)) = some E) (hx : x ∈ ks) (ht : tagV (kindT x) = tag) : E = x := by
  have hE := List.mem_of_find?_eq_some h
  have hEt : tagV (kindT E) = tag := by simpa using List.find?_some h
  have h1 := hk x hx
  have h2 := hk E hE
  refine rise_one hr hE hx ?_
  unfold tagV at ht hEt
  rw [if_pos h1] at ht
  rw [if_pos h2] at hEt
  omega

theorem two_forms {w : World} {n : Nat} {k : Int} {nm : ByteArray} {na : Option Addr} {nl nc : Nat} {ka : Option Addr} {kl kc lo : Nat} {E : Ty} (h : TyF w lo (n + 1) (.agg #[.int .i64 k, .string nm, .slice na nl nc, .slice ka kl kc]) E) : KidsF w lo n ka (kidsT E) ∧ kl = (kidsT E).length ∧ kl ≤ 140737488351232 := by
  obtain ⟨_, _, _, _, _, _, ns, ks, e, rfl, _, _, _, _, ⟨_, hl⟩, _, hk⟩ := h
  injection e with e
  injection e with e
  injection e with _ e
  injection e with _ e
  injection e with _ e
  injection e with e _
  injection e with e1 e2 _
  subst e1 e2
  rw [kids_mk]
  exact ⟨hk, rfl, hl⟩

/-- Member's two ways as one. -/
theorem mb_ways {w w' : World} {n : Nat} {D : Ty} {tag : Int} {e : Ending} (h : MbPost w (n + 1) D tag e w') : Below w.heap.size w w' ∧ ∃ (f : Bool) (k : Int) (nm : ByteArray) (na : Option Addr) (nl nc : Nat) (ka : Option Addr) (kl kc : Nat), e = .returned (.tuple #[.agg #[.int .i64 k, .string nm, .slice na nl nc, .slice ka kl kc], .bool f]) ∧
    ((f = false ∧ memberV D tag = none) ∨ ∃ G, f = true ∧ memberV D tag = some G ∧ TyF w' w.heap.size (n + 1) (.agg #[.int .i64 k, .string nm, .slice na nl nc, .slice ka kl kc]) G) := by
  obtain ⟨hb, h⟩ := h
  refine ⟨hb, ?_⟩
  rcases h with ⟨hn, rfl⟩ | ⟨E, k, nm, na, nl, nc, ka, kl, kc, hn, rfl, hF⟩
  · exact ⟨false, 0, ⟨#[]⟩, none, 0, 0, none, 0, 0, rfl, .inl ⟨rfl, hn⟩⟩
  · exact ⟨true, k, nm, na, nl, nc, ka, kl, kc, rfl, .inr ⟨E, rfl, hn, hF⟩⟩

theorem norm_uni {n : Nat} {E : Ty} (h : NormT (n + 1) E) (hk : kindT E = 7) : (∀ x ∈ kidsT E, 1 ≤ kindT x ∧ kindT x ≤ 6) ∧ (kidsT E).Pairwise fun a b => kindT a < kindT b := by
  rcases h with ⟨k, _, _, rfl⟩ | ⟨ns, ks, rfl, _⟩ | ⟨a, b, rfl, _⟩ | ⟨ks, rfl, _, h3, h4⟩
  · rw [kind_mk] at hk
    omega
  · rw [kind_mk] at hk
    omega
  · rw [kind_mk] at hk
    omega
  · rw [kids_mk]
    exact ⟨fun x hx => (h3 x hx).2, h4⟩

/-- Of a union: whether there is one is whether some Kid has the tag. -/
theorem member_any {ks : List Ty} {E : Ty} {tag : Int} (hE : membersT E = ks) (hk : ∀ x ∈ ks, 1 ≤ kindT x ∧ kindT x ≤ 6) : (memberV E tag).isSome = ks.any fun x => decide (tagV (kindT x) = tag) := by
  unfold memberV
  rw [hE]
  by_cases h1 : tag = -1
  · rw [if_pos h1]
    symm
    show _ = false
    rw [List.any_eq_false]
    intro x hx
    have := hk x hx
    unfold tagV
    rw [if_pos this]
    simp
    omega
  · rw [if_neg h1, List.isSome_find?]

theorem any_take {p : Ty → Bool} {ks : List Ty} {j : Nat} (hj : j < ks.length) : (ks.take (j + 1)).any p = ((ks.take j).any p || p ks[j]) := by
  rw [List.take_succ_eq_append_getElem hj, List.any_append]
  simp

/-- Of a type that is no union. -/
theorem member_self {E : Ty} {tag : Int} (h : kindT E ≠ 7) : memberV E tag = if tag ≠ -1 ∧ tagV (kindT E) = tag then some E else none := by
  unfold memberV membersT
  rw [if_neg h]
  by_cases h1 : tag = -1
  · rw [if_pos h1, if_neg (fun e => e.1 h1)]
  · rw [if_neg h1, List.find?_cons]
    by_cases h2 : tagV (kindT E) = tag
    · rw [decide_eq_true h2, if_pos ⟨h1, h2⟩]
    · rw [decide_eq_false h2, if_neg (fun e => h2 e.2)]
      rfl

set_option maxHeartbeats 8000000 in
set_option maxRecDepth 100000 in
theorem typesParts_walk (N : Nat) (D : Ty) (k : Int) (nm : ByteArray) (na : Option Addr) (nl nc : Nat) (ka : Option Addr) (kl kc : Nat) (tag : Int) (w : World) (hw : Words w ∧ Plain w)
    (h : TyAt w false N (.agg #[.int .i64 k, .string nm, .slice na nl nc, .slice ka kl kc]) D) (_ : (Lit.int .i64 tag).wf = true) :
    Calls Tryd.prog 4 #[.agg #[.int .i64 k, .string nm, .slice na nl nc, .slice ka kl kc], .int .i64 tag] w fun e w' => e = .returned (.bool true) ∧ Below w.heap.size w w' := by
  have HT := hideP h
  obtain ⟨N, rfl⟩ : ∃ m, N = m + 1 := by
    cases N with
    | zero => exact h.elim
    | succ m => exact ⟨m, rfl⟩
  have hb0 := bl_alloc w (tyO k nm na nl nc ka kl kc)
  have HBX : Hid ((w.alloc (tyO k nm na nl nc ka kl kc)).heap[w.heap.size]? = some (tyO k nm na nl nc ka kl kc)) := heap_alloc_last w _
  have HC1 := hideP (awake_c _ (hw.1.below hb0) (hw.2.below hb0))
  have HB0 := hideP hb0
  have HW := hideP hw.1
  clear h hw hb0
  go_enter Tryd.func4, Tryd.ntmps4
  go_wp2_with fail
  refine HC1.out.mono ?_
  rintro e w1 ⟨rfl, hb1⟩
  have HB1 := hideP (below_next HB0.out hb1)
  have HBX1 := hideP ((hb1.block _ (lt_of_block HBX.out)).trans HBX.out)
  obtain ⟨⟨x0, x1, x2, x3⟩, _, hltx⟩ := res_facts HBX1.out
  have HC2 := hideP (small_c (N + 1) _ D _ 300 (ty_below HT.out HB1.out) (by decide) (by decide))
  clear hb1
  go_wp2_with fail
  refine HC2.out.mono ?_
  rintro e w2 ⟨⟨r, rfl, hr0, hr1, hr2⟩, hb2⟩
  have HB2 := hideP (below_next HB1.out hb2)
  have HBX2 := hideP ((hb2.block _ (lt_of_block HBX1.out)).trans HBX1.out)
  clear x0 x1 x2 x3 hltx hb2 hr2
  obtain ⟨⟨x0, x1, x2, x3⟩, _, hltx⟩ := res_facts HBX2.out
  by_cases hr : r = 0
  · subst hr
    go_wp2_with fail
    go_ret
    exact ⟨rfl, HB2.out⟩
  have hre : (r == 0) = false := by rw [beq_eq_false_iff_ne]; exact hr
  have HC3 := hideP (nm_c false (N + 1) _ D w2 (ty_below HT.out HB2.out) (HW.out.below HB2.out))
  clear hr
  go_wp2_with fail
  refine HC3.out.mono ?_
  rintro e w3 ⟨hb3, hways⟩
  have HB3 := hideP (below_next HB2.out hb3)
  rcases hways with ⟨rfl, _⟩ | ⟨E, g1, g2, g3, g4, g5, g6, g7, g8, hn, hs, rfl, hF, hk⟩
  · clear hb3
    go_wp2_with fail
    go_ret
    exact ⟨rfl, HB3.out.alloc HB3.out.size _⟩
  have HNE := hideP (norm_normal hn)
  have HF := hideP hF
  have HK := hideP hk
  have hb4 := bl_alloc w3 (tyO g1 g2 g3 g4 g5 g6 g7 g8)
  have HNX : Hid ((w3.alloc (tyO g1 g2 g3 g4 g5 g6 g7 g8)).heap[w3.heap.size]? = some (tyO g1 g2 g3 g4 g5 g6 g7 g8)) := heap_alloc_last w3 _
  have HC4 := hideP (member_c (N + 1) _ E _ tag (ty_forget (tyF_at (tyF_below hF hb4))) (few_norm HNE.out))
  have HB4 := hideP hb4
  clear hb3 hn hs hF hk hb4
  go_wp2_with fail
  refine HC4.out.mono ?_
  intro e w5 hpost
  obtain ⟨hb5, f, m1, m2, m3, m4, m5, m6, m7, m8, rfl, hways⟩ := mb_ways hpost
  have HB5 := hideP (below_next HB4.out hb5)
  have HNX5 := hideP ((hb5.block _ (lt_of_block HNX.out)).trans HNX.out)
  have HWY := hideP hways
  obtain ⟨w6, hw6⟩ : ∃ w6, w6 = w5.alloc (tyO m1 m2 m3 m4 m5 m6 m7 m8) := ⟨_, rfl⟩
  have hb6 : Below w5.heap.size w5 w6 := by rw [hw6]; exact bl_alloc _ _
  have HMX6 : Hid (w6.heap[w5.heap.size]? = some (tyO m1 m2 m3 m4 m5 m6 m7 m8)) := by show _ = _; rw [hw6]; exact heap_alloc_last _ _
  have HNX6 := hideP ((hb6.block _ (lt_of_block HNX5.out)).trans HNX5.out)
  have HB6 := hideP (below_next HB5.out hb6)
  have HBW := hideP (below_next HB3.out HB6.out)
  have HB56 := hideP hb6
  have HF6 := hideP (tyF_below HF.out HB6.out)
  have HW6 := hideP hw6
  clear hb5 hb6 hpost hways hw6 x0 x1 x2 x3 hltx
  obtain ⟨⟨x0, x1, x2, x3⟩, _, hltx⟩ := res_facts HNX6.out
  obtain ⟨⟨y0, y1, y2, y3⟩, _, hlty⟩ := res_facts HMX6.out
  rw [HW6.out] at x0 x1 x2 x3 y0 y1 y2 y3 hltx hlty
  have HCELL : Hid (∀ wx, Below w6.heap.size w6 wx → (wx.cell? ⟨w3.heap.size, 0, none⟩ = some (.int .i64 g1) ∧ wx.cell? ⟨w3.heap.size, 1, none⟩ = some (.string g2) ∧ wx.cell? ⟨w3.heap.size, 2, none⟩ = some (.slice g3 g4 g5) ∧ wx.cell? ⟨w3.heap.size, 3, none⟩ = some (.slice g6 g7 g8)) ∧ wx.cell? ⟨w5.heap.size, 0, none⟩ = some (.int .i64 m1) ∧ wx.cell? ⟨w5.heap.size, 1, none⟩ = some (.string m2) ∧ wx.cell? ⟨w5.heap.size, 2, none⟩ = some (.slice m3 m4 m5) ∧ wx.cell? ⟨w5.heap.size, 3, none⟩ = some (.slice m6 m7 m8)) := fun wx hwx =>
    ⟨(res_facts ((hwx.block _ (lt_of_block HNX6.out)).trans HNX6.out)).1, (res_facts ((hwx.block _ (lt_of_block HMX6.out)).trans HMX6.out)).1⟩
  have HCT : Hid (∀ wx, Below w6.heap.size w6 wx → Calls Tryd.prog 12 #[.agg #[.int .i64 g1, .string g2, .slice g3 g4 g5, .slice g6 g7 g8]] wx fun e w' => e = .returned (.int .i64 (tagV g1)) ∧ Below w6.heap.size w6 w') := fun wx hwx => (tag_c g1 g2 g3 g4 g5 g6 g7 g8 wx).mono fun e w' ⟨e1, e2⟩ => ⟨e1, by rw [e2]; exact below_next hwx (bl_alloc _ _)⟩
  have HW56 : Hid (Below w6.heap.size w6 (w5.alloc (tyO m1 m2 m3 m4 m5 m6 m7 m8))) := by show Below _ _ _; rw [← HW6.out]; exact Below.refl _ _
  have HBW5 : Hid (Below w.heap.size w (w5.alloc (tyO m1 m2 m3 m4 m5 m6 m7 m8))) := by show Below _ _ _; rw [← HW6.out]; exact HBW.out
  by_cases h7 : g1 = 7
  · subst h7
    have hmu : membersT E = kidsT E := by unfold membersT; rw [if_pos HK.out]
    obtain ⟨hkk, hkp⟩ := norm_uni HNE.out HK.out
    obtain ⟨hKF, hgl, hgr⟩ := two_forms HF6.out
    have hany := member_any (tag := tag) hmu hkk
    obtain ⟨ks, hks⟩ : ∃ ks, ks = kidsT E := ⟨_, rfl⟩
    rw [← hks] at hKF hgl hmu hkk hkp hany
    have HMU := hideP hmu
    have HKK := hideP hkk
    have HKP := hideP hkp
    have HKF := hideP hKF
    have HGL := hideP hgl
    have HANY := hideP hany
    have HFA : Hid (f = ks.any fun x => decide (tagV (kindT x) = tag)) := by
      show _ = _
      rcases HWY.out with ⟨rfl, hmn⟩ | ⟨G, rfl, hmn, _⟩
      · rw [← hany, hmn]; rfl
      · rw [← hany, hmn]; rfl
    subst hgl
    clear hmu hkk hkp hKF hany hks
    have HHIT : Hid (∀ x ∈ ks, tagV (kindT x) = tag → TyF w6 w3.heap.size (N + 1) (.agg #[.int .i64 m1, .string m2, .slice m3 m4 m5, .slice m6 m7 m8]) x) := by
      intro x hx ht
      rcases HWY.out with ⟨_, hmn⟩ | ⟨G, _, hmn, hG⟩
      · have h1 := HANY.out
        rw [hmn] at h1
        have h2 := (List.any_eq_false.1 h1.symm) x hx
        simp [ht] at h2
      · have h1 : G = x := by
          have h2 := hmn
          unfold memberV at h2
          split at h2
          · cases h2
          · rw [HMU.out] at h2
            exact find_rise HKP.out HKK.out h2 hx ht
        rw [← h1]
        exact tyF_lower (tyF_below hG HB56.out) (Nat.le_trans HB4.out.size (Nat.le_refl _))
    have et : (tagV 7 == -1) = true := by decide
    go_wp2_with fail
    go_loopw [10, 11] (fun F i wx => ∃ (j : Nat) (fb : Bool), F = .bool fb ∧ i = .int .i64 j ∧ j ≤ ks.length ∧ Hid (fb = (ks.take j).any fun x => decide (tagV (kindT x) = tag)) ∧ Hid (Below w6.heap.size w6 wx)) (fun _ i _ => ks.length - (intOf i).toNat)
    case atStart => exact ⟨0, false, rfl, rfl, Nat.zero_le _, show _ = _ by simp, HW56⟩
    case round =>
      obtain ⟨j, fb, rfl, rfl, hj, hfb, hbl⟩ := hrel
      clear x0 x1 x2 x3 y0 y1 y2 y3 hltx hlty
      obtain ⟨⟨x0, x1, x2, x3⟩, y0, y1, y2, y3⟩ := HCELL.out _ hbl.out
      by_cases hlt : j < ks.length
      · have hjl : (j : Int) < (ks.length : Int) := by omega
        obtain ⟨b, o, k', nm', na', nl', nc', la', ll', lc', rfl, hb1, q0, q1, q2, q3, ht⟩ := kidF_at HKF.out hlt
        have r0 := (hbl.out.cell (p := ⟨b, o + j * 4, none⟩) hb1).trans q0
        have r1 := (hbl.out.cell (p := ⟨b, o + j * 4 + 1, none⟩) hb1).trans q1
        have r2 := (hbl.out.cell (p := ⟨b, o + j * 4 + 2, none⟩) hb1).trans q2
        have r3 := (hbl.out.cell (p := ⟨b, o + j * 4 + 3, none⟩) hb1).trans q3
        have hkt := kind_of_ty (tyF_at ht)
        have HTK := hideP ht
        have hltb : b < wr.heap.size := Nat.lt_of_lt_of_le hb1 hbl.out.size
        by_cases hg : tagV k' = tag
        · have hge : (tagV k' == tag) = true := by rw [beq_iff_eq]; exact hg
          have HAT : Hid (true = (ks.take (j + 1)).any fun x => decide (tagV (kindT x) = tag)) := by
            show _ = _
            rw [any_take hlt, hkt, decide_eq_true hg]
            simp
          have HMJ := hideP (HHIT.out ks[j] (List.getElem_mem hlt) (by rw [hkt]; exact hg))
          obtain ⟨w7, hw7⟩ : ∃ w7, w7 = wr.alloc (tyO k' nm' na' nl' nc' la' ll' lc') := ⟨_, rfl⟩
          have hb7 : Below w6.heap.size w6 w7 := by rw [hw7]; exact below_next hbl.out (bl_alloc _ _)
          obtain ⟨⟨_, _, _, u3⟩, v0, v1, v2, v3⟩ := HCELL.out _ hb7
          have s0 := (hb7.cell (p := ⟨b, o + j * 4, none⟩) hb1).trans q0
          have s1 := (hb7.cell (p := ⟨b, o + j * 4 + 1, none⟩) hb1).trans q1
          have s2 := (hb7.cell (p := ⟨b, o + j * 4 + 2, none⟩) hb1).trans q2
          have s3 := (hb7.cell (p := ⟨b, o + j * 4 + 3, none⟩) hb1).trans q3
          have HCS : Hid (∀ wx, Below w7.heap.size w7 wx → Calls Tryd.prog 15 #[.agg #[.int .i64 m1, .string m2, .slice m3 m4 m5, .slice m6 m7 m8], .agg #[.int .i64 k', .string nm', .slice na' nl' nc', .slice la' ll' lc']] wx fun e w' => e = .returned (.bool true) ∧ Below w6.heap.size w6 w') := fun wx hwx => by
            have hb8 := below_next hb7 hwx
            refine (tsame_c (N + 1) _ _ ks[j] ks[j] wx (tyF_at (tyF_below HMJ.out hb8)) (ty_mono (tyF_at (tyF_below HTK.out hb8)) (Nat.le_succ _))).mono fun e w' ⟨⟨rr, e1, e2⟩, e3⟩ => ⟨?_, below_next hb8 e3⟩
            rw [e1, e2.2 rfl]
          have HS0 : Hid (w7.drew.cell? ⟨w3.heap.size, 3, none⟩ = some (.slice (some ⟨b, o, none⟩) ks.length g8) ∧ w7.drew.cell? ⟨w5.heap.size, 0, none⟩ = some (.int .i64 m1) ∧ w7.drew.cell? ⟨w5.heap.size, 1, none⟩ = some (.string m2) ∧ w7.drew.cell? ⟨w5.heap.size, 2, none⟩ = some (.slice m3 m4 m5) ∧ w7.drew.cell? ⟨w5.heap.size, 3, none⟩ = some (.slice m6 m7 m8) ∧ w7.drew.cell? ⟨b, o + j * 4, none⟩ = some (.int .i64 k') ∧ w7.drew.cell? ⟨b, o + j * 4 + 1, none⟩ = some (.string nm') ∧ w7.drew.cell? ⟨b, o + j * 4 + 2, none⟩ = some (.slice na' nl' nc') ∧ w7.drew.cell? ⟨b, o + j * 4 + 3, none⟩ = some (.slice la' ll' lc')) := ⟨u3, v0, v1, v2, v3, s0, s1, s2, s3⟩
          have HSK : Hid (∀ wx, Below w6.heap.size w6 wx → wx.cell? ⟨w3.heap.size, 3, none⟩ = some (.slice (some ⟨b, o, none⟩) ks.length g8) ∧ wx.cell? ⟨w5.heap.size, 0, none⟩ = some (.int .i64 m1) ∧ wx.cell? ⟨w5.heap.size, 1, none⟩ = some (.string m2) ∧ wx.cell? ⟨w5.heap.size, 2, none⟩ = some (.slice m3 m4 m5) ∧ wx.cell? ⟨w5.heap.size, 3, none⟩ = some (.slice m6 m7 m8) ∧ wx.cell? ⟨b, o + j * 4, none⟩ = some (.int .i64 k') ∧ wx.cell? ⟨b, o + j * 4 + 1, none⟩ = some (.string nm') ∧ wx.cell? ⟨b, o + j * 4 + 2, none⟩ = some (.slice na' nl' nc') ∧ wx.cell? ⟨b, o + j * 4 + 3, none⟩ = some (.slice la' ll' lc')) := fun wx hwx => by
            obtain ⟨⟨_, _, _, a3⟩, b0, b1, b2, b3⟩ := HCELL.out _ hwx
            exact ⟨a3, b0, b1, b2, b3, (hwx.cell (p := ⟨b, o + j * 4, none⟩) hb1).trans q0, (hwx.cell (p := ⟨b, o + j * 4 + 1, none⟩) hb1).trans q1, (hwx.cell (p := ⟨b, o + j * 4 + 2, none⟩) hb1).trans q2, (hwx.cell (p := ⟨b, o + j * 4 + 3, none⟩) hb1).trans q3⟩
          have hCT := tag_c k' nm' na' nl' nc' la' ll' lc' wr
          rw [← hw7] at hCT
          have HCT7 := hideP hCT
          have HB67 := hideP hb7
          clear hg hkt q0 q1 q2 q3 ht hw7 hb7 s0 s1 s2 s3 u3 v0 v1 v2 v3 hCT
          go_wp2_with fail
          refine HCT7.out.mono ?_
          rintro e w' ⟨rfl, rfl⟩
          clear x0 x1 x2 x3 y0 y1 y2 y3 r0 r1 r2 r3 hltb
          go_wp2_with fail
          have hS0 := HS0.out
          go_region_held (fun W => W.cell? ⟨w3.heap.size, 3, none⟩ = some (.slice (some ⟨b, o, none⟩) ks.length g8) ∧ W.cell? ⟨w5.heap.size, 0, none⟩ = some (.int .i64 m1) ∧ W.cell? ⟨w5.heap.size, 1, none⟩ = some (.string m2) ∧ W.cell? ⟨w5.heap.size, 2, none⟩ = some (.slice m3 m4 m5) ∧ W.cell? ⟨w5.heap.size, 3, none⟩ = some (.slice m6 m7 m8) ∧ W.cell? ⟨b, o + j * 4, none⟩ = some (.int .i64 k') ∧ W.cell? ⟨b, o + j * 4 + 1, none⟩ = some (.string nm') ∧ W.cell? ⟨b, o + j * 4 + 2, none⟩ = some (.slice na' nl' nc') ∧ W.cell? ⟨b, o + j * 4 + 3, none⟩ = some (.slice la' ll' lc')) (assumption) (first
            | (go_at_call 15; refine (HCS.out _ (by first | exact Below.refl _ _ | exact below_drewN (Below.refl _ _) _ | exact (Below.refl _ _).drew)).mono ?_; rintro e w8 ⟨rfl, hb8⟩; have t0 := HSK.out _ hb8; have HB8 := hideP hb8; clear hb8))
          all_goals go_wp2_with fail
          all_goals exact ⟨⟨j + 1, true, rfl, by go_num, by omega, HAT, HB8⟩, by simp [intOf]; omega⟩
        · have hge : (tagV k' == tag) = false := by rw [beq_eq_false_iff_ne]; exact hg
          have HAT : Hid (fb = (ks.take (j + 1)).any fun x => decide (tagV (kindT x) = tag)) := by
            show _ = _
            rw [any_take hlt, hkt, decide_eq_false hg, ← hfb.out]
            simp
          clear hg hkt q0 q1 q2 q3 ht
          go_wp2_with fail
          refine (tag_c _ _ _ _ _ _ _ _ _).mono ?_
          rintro e w' ⟨rfl, rfl⟩
          go_wp2_with fail
          exact ⟨⟨j + 1, fb, rfl, by go_num, by omega, HAT, below_next hbl.out (bl_alloc _ _)⟩, by simp [intOf]; omega⟩
      · have hjl : ¬ (j : Int) < (ks.length : Int) := by omega
        have hff : fb = f := by
          have := hfb.out
          rw [List.take_of_length_le (by omega)] at this
          rw [this, HFA.out]
        subst hff
        have efb : (fb == fb) = true := by simp
        go_wp2_with fail
        refine (HCT.out _ hbl.out).mono ?_
        rintro e w7 ⟨rfl, hb7⟩
        have HB7 := hideP hb7
        clear hb7
        go_wp2_with fail
        go_ret
        exact ⟨rfl, below_next HBW.out HB7.out⟩
  · have h7e : (g1 != 7) = true := by rw [bne_iff_ne]; exact h7
    have hms := member_self (E := E) (tag := tag) (by rw [HK.out]; exact h7)
    rw [HK.out] at hms
    rcases HWY.out with ⟨rfl, hmn⟩ | ⟨G, rfl, hmn, hG⟩
    · have hno : ¬ (tag ≠ -1 ∧ tagV g1 = tag) := fun h => by
        rw [hmn, if_pos h] at hms
        cases hms
      clear hms hmn h7
      by_cases hneg : tag < 0
      · have hd : decide ((0 : Int) ≤ tag) = false := by rw [decide_eq_false_iff_not]; omega
        go_wp2_with fail
        go_ret
        exact ⟨rfl, HBW5.out⟩
      · have hd : (0 : Int) ≤ tag := by omega
        have het : (tag == tagV g1) = false := by rw [beq_eq_false_iff_ne]; exact fun h => hno ⟨by omega, h.symm⟩
        clear hno hneg
        go_wp2_with fail
        refine (HCT.out _ HW56.out).mono ?_
        rintro e w7 ⟨rfl, hb7⟩
        have HB7 := hideP hb7
        clear hb7
        go_wp2_with fail
        go_ret
        exact ⟨rfl, below_next HBW.out HB7.out⟩
    · have hyes : tag ≠ -1 ∧ tagV g1 = tag := by
        by_cases h : tag ≠ -1 ∧ tagV g1 = tag
        · exact h
        · rw [hmn, if_neg h] at hms
          cases hms
      rw [hmn, if_pos hyes] at hms
      injection hms with hms
      subst hms
      have hrg := tagV_range g1
      obtain ⟨hy1, hy2⟩ := hyes
      have hd : (0 : Int) ≤ tag := by omega
      have het : (tag == tagV g1) = true := by rw [beq_iff_eq]; exact hy2.symm
      have HG6 := hideP (tyF_below hG HB56.out)
      clear hmn hG h7 hy1 hy2 hrg
      go_wp2_with fail
      refine (HCT.out _ HW56.out).mono ?_
      rintro e w7 ⟨rfl, hb7⟩
      have HB7 := hideP hb7
      clear x0 x1 x2 x3 y0 y1 y2 y3 hltx hlty
      obtain ⟨⟨x0, x1, x2, x3⟩, y0, y1, y2, y3⟩ := HCELL.out _ hb7
      have HC8 := hideP (tsame_c (N + 1) _ _ _ _ w7 (tyF_at (tyF_below HG6.out hb7)) (tyF_at (tyF_below HF6.out hb7)))
      clear hb7
      go_wp2_with fail
      refine HC8.out.mono ?_
      rintro e w8 ⟨⟨rr, rfl, hrr⟩, hb8⟩
      obtain rfl : rr = true := by simpa using hrr
      have HB8 := hideP (below_next HB7.out hb8)
      clear hb8 hrr
      go_wp2_with fail
      go_ret
      exact ⟨rfl, below_next HBW.out HB8.out⟩

set_option maxRecDepth 100000 in
theorem typesParts_lifted (os : Os) (started : os.Started) (H : Type) (enc : TypeId × Value → H) :
    ReturnsInHanded {} Tryd.checked os 4 .any (fun w args => (Rows.typesPartsSpec.pre enc Tryd.prog Tryd.f4 [] false w args ∧ laidMetH Tryd.prog laidL w) ∧ sizedMet enc Tryd.prog Tryd.f4 (OpenSpec.ofChange Rows.typesPartsSpec) false w args)
      (Rows.typesPartsSpec.post enc Tryd.prog Tryd.f4 false true false false) := by
  refine returnsInHanded_of_change_and (C := Tryd.checked) (X := fun w _ => laidMetH Tryd.prog laidL w) (fun _ _ _ hh h => h.of_heap hh) own started (by kernel_rfl) Tryd.func4
    (ChangeSpec.witness_shaped (enc := enc) (C := Tryd.checked) (os := os) (X := fun w _ => laidMetH Tryd.prog laidL w) false (World.doorLaid Tryd.prog 150 os) #[.agg #[.int .i64 0, .string ByteArray.empty, .slice none 0 0, .slice none 0 0], .int .i64 0] 8 rfl (World.shaped_of_RefB (by kernel_rfl) (by kernel_rfl)) (by kernel_rfl) (by kernel_rfl) (by kernel_rfl) (door_met os _)) ?_
  intro W base args ds gs before hval0 hW _ hsz0 hL _
  have htab := tab_of_laid hL
  have hval : ∀ (j : Nat) t v, Tryd.f4.params[j]? = some t → args[j]? = some v → Value.okWide Tryd.prog W .any base t v := hval0
  have hW' := hW
  obtain ⟨p, q, hA0, hV, rfl, hfz, hnd⟩ := hW
  have hA : DataW.TrodAll enc Tryd.prog W 0 (fun _ => true) true Tryd.f4.params.toList args.toList ds p := hA0
  have hsz : (DataW.weightsEach Tryd.prog (Tryd.f4.params.toList ++ Rows.typesPartsSpec.plain.varTypes Tryd.prog) (ds ++ gs)).all (· ≤ reachBytes) = true := hsz0
  rw [Tryd.params4] at hA hval hsz
  obtain ⟨v0, vs0, d0, ds0, p0, q0, hargs, rfl, rfl, h0, r0⟩ := trodAll_cons hA
  obtain ⟨v1, vs1, d1, ds1, p1, q1, rfl, rfl, rfl, h1, r1⟩ := trodAll_cons r0
  obtain ⟨rfl, rfl, rfl⟩ := trodAll_nil r1
  obtain rfl : args = #[v0, v1] := by cases args; simp_all
  obtain ⟨rfl, rfl⟩ := trodVars_none hV
  obtain ⟨cs0, rfl, _⟩ := okWide_struct Tryd.underlying25 (hval 0 25 v0 rfl rfl)
  have k0 := h0
  have lt0 : ∀ x ∈ p0, x.block < W.heap.size := by obtain ⟨m, hm⟩ := k0; exact DataW.trod_lt m _ _ _ hm
  obtain ⟨N0, D0, T0⟩ : ∃ N D, TyAt W false N (.agg cs0) D := by
    obtain ⟨m, hm⟩ := k0
    obtain ⟨D, hD⟩ := ty_of_trod tyRow m hm (fun x hx => of_decide_eq_true (List.all_eq_true.1 hsz x (DataW.weights_mem_each (j := 0) (t := 25) rfl rfl x hx))) (fun b off hm => hfz b off (by simp [hm]))
    exact ⟨m, D, by simpa [Value.cells] using hD⟩
  obtain ⟨a0k, a0n, a0na, a0nl, a0nc, a0ka, a0kl, a0kc, e0, _⟩ := ty_form T0
  injection e0 with e0
  subst e0
  obtain ⟨a1, rfl, rfl, rfl, w1⟩ := open_int Tryd.underlying3 (hval 1 3 v1 rfl rfl) h1
  clear hA0 hval0
  refine (typesParts_walk N0 D0 a0k a0n a0na a0nl a0nc a0ka a0kl a0kc a1 W htab T0 w1).mono fun e W' ⟨he, bel⟩ => ?_
  subst he
  exact ⟨_, rfl, _, _, _, [], _, [], hW', trodAll_mk1 (shut_bool Tryd.underlying4 _), (trodAll_cons_mk (Below.trod laidOut (by kernel_rfl) (of_decide_eq_true (by kernel_rfl)) k0 bel lt0) (trodAll_cons_mk (shut_int Tryd.underlying3 w1) trodAll_mk0)), rfl, bel.frame _, fun h => by cases h⟩

theorem typesParts_over : Rows.TypesPartsSaid :=
  OpenClaim.holds_of_wide 4 Tryd.f4 rfl rfl rfl rfl rfl rfl rfl ⟨rfl, rfl, rfl, rfl, rfl⟩ rfl rfl rfl rfl rfl (by kernel_rfl) Tryd.func4 (by kernel_rfl)
    (of_decide_eq_true (by kernel_rfl)) (by unfold Func.isWrapper; rw [if_neg (of_decide_eq_false (by kernel_rfl))]; exact ⟨rfl, rfl⟩)
    (fun os started H enc _ => typesParts_lifted os started H enc)

theorem typesParts_card : Rows.TypesPartsCardSaid :=
  Claim7.holds_tied_plain_at .later [] [.data, .data] true Rows.typesPartsCard.stood.harness false
    typesParts_over (fun _ h => by cases h) (by kernel_rfl) (fun _ h => by cases h) typesParts_row_tie rfl ⟨rfl, rfl⟩ (by kernel_rfl) (by kernel_rfl)
    (fun f fn hf hfn => by
      obtain rfl : f = 4 := Option.some.inj ((show Tryd.prog.funcNamed Rows.typesPartsRow.func = some 4 by kernel_rfl).symm.trans hf) |>.symm
      obtain rfl : fn = Tryd.f4 := (Option.some.inj (Tryd.func4.symm.trans hfn)).symm
      exact ⟨by kernel_rfl, fun j t ht => by
        rw [Tryd.params4] at ht
        have hm : t ∈ [25, 3] := by simpa using Array.mem_of_getElem? ht
        have hall : ([25, 3].all fun u => !Tryd.prog.wantsStandIn u) = true := by kernel_rfl
        exact (show Tryd.prog.wantsStandIn t = false by simpa using List.all_eq_true.1 hall t hm)⟩)
    (by kernel_rfl)
end Go.Proofs.YtmpcjcjacpjilaaDoor
