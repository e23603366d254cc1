/- gradusref03.Same by a contract: two types in memory, in whatever rows. -/
import Derived.Test.YtmpcjcjacpjilaaDoorTyNp
import Derived.Deep.RegionWith
import Derived.RegionTactic
import Derived.Deep.Cut
import Derived.Deep.CutRange
import Derived.Deep.QuietTactic
import Derived.Test.YtmpcjcjacpjilaaDoorRefTg
namespace Go.Proofs.YtmpcjcjacpjilaaDoor
open Go.RowKit

theorem bytes_ne' {a b : ByteArray} (h : a.data.toList ≠ b.data.toList) : (a.toList == b.toList) = false := by
  cases hh : (a.toList == b.toList)
  · rfl
  · exact absurd (congrArg (fun s : ByteArray => s.data.toList) (str_eq.1 hh)) h

theorem mk_ne' {k k' : Int} {nm nm' : List UInt8} {ns ns' : List (List UInt8)} {ks ks' : List Ty} (h : k ≠ k' ∨ nm ≠ nm' ∨ ns ≠ ns' ∨ ks ≠ ks') : mkT k nm ns ks ≠ mkT k' nm' ns' ks' := fun e => by
  obtain ⟨e1, e2, e3, e4⟩ := mkT_inj e
  rcases h with h | h | h | h
  · exact h e1
  · exact h e2
  · exact h e3
  · exact h e4

theorem cell_ne {a b : List UInt8} (h : a ≠ b) : ((⟨a.toArray⟩ : ByteArray).toList == (⟨b.toArray⟩ : ByteArray).toList) = false := bytes_ne' (by simpa using h)

theorem names_cell {w : World} {na : Option Addr} {ns : List (List UInt8)} (h : NamesAt w na ns) {i : Nat} (hi : i < ns.length) : ∃ b o, na = some ⟨b, o, none⟩ ∧ b < w.heap.size ∧ w.cell? ⟨b, o + i, none⟩ = some (.string ⟨ns[i].toArray⟩) := by
  rcases h with rfl | ⟨b, o, e, hb, hc⟩
  · cases hi
  · exact ⟨b, o, e, hb, hc i hi⟩

theorem take_next {α : Type} {a b : List α} {j : Nat} (h1 : j < a.length) (h2 : j < b.length) (h : a.take j = b.take j) (e : a[j] = b[j]) : a.take (j + 1) = b.take (j + 1) := by
  rw [List.take_succ_eq_append_getElem h1, List.take_succ_eq_append_getElem h2, h, e]

theorem ne_at {α : Type} {a b : List α} {j : Nat} (h1 : j < a.length) (h2 : j < b.length) (e : a[j] ≠ b[j]) : a ≠ b := fun h => by subst h; exact e rfl

/-- What the reference's Same leaves. -/
def RsPost (w : World) (Da Db : Ty) (e : Ending) (w' : World) : Prop := (∃ r, e = .returned (.bool r) ∧ (r = true ↔ Da = Db)) ∧ Below w.heap.size w w'

set_option maxHeartbeats 4000000 in
theorem rsame_c (n : Nat) : ∀ (va vb : Value) (Da Db : Ty) (w : World), TyAt w false n va Da → TyAt w false n vb Db →
    Calls Tryd.prog 11 #[va, vb] w (RsPost w Da Db) := by
  induction n with
  | zero => intro va vb Da Db w h; exact h.elim
  | succ n ih =>
    intro va vb Da Db w h h'
    obtain ⟨k, nm, na, nc, ka, kc, ns, ks, rfl, rfl, _, _, _, ⟨_, hnl⟩, ⟨_, hkl⟩, hns, hks⟩ := h
    obtain ⟨k', nm', na', nc', ka', kc', ns', ks', rfl, rfl, _, _, _, ⟨_, hnl'⟩, ⟨_, hkl'⟩, hns', hks'⟩ := h'
    have hl1 : ns.length ≤ 140737488351232 := hnl
    have hl2 : ns'.length ≤ 140737488351232 := hnl'
    have hl3 : ks.length ≤ 140737488351232 := hkl
    have hl4 : ks'.length ≤ 140737488351232 := hkl'
    clear hnl hnl' hkl hkl'
    have hb0 : Below w.heap.size w ((w.alloc (tyO k nm na ns.length nc ka ks.length kc)).alloc (tyO k' nm' na' ns'.length nc' ka' ks'.length kc')) := below_next (bl_alloc _ _) (bl_alloc _ _)
    have HB0 := hideP hb0
    clear hb0
    by_cases c1 : ¬ k = k'
    · have e1 : (k != k') = true := by rw [bne_iff_ne]; exact c1
      have HN := hideP (mk_ne' (nm := nm.data.toList) (nm' := nm'.data.toList) (ns := ns) (ns' := ns') (ks := ks) (ks' := ks') (.inl c1))
      clear c1 hns hns' hks hks'
      go_enter Tryd.func11, Tryd.ntmps11
      go_wp2_with fail
      go_ret
      exact ⟨⟨false, rfl, fun h => (by cases h), fun h => absurd h HN.out⟩, HB0.out⟩
    have c1 := Decidable.not_not.1 c1
    subst c1
    have e1 : (k != k) = false := by simp
    by_cases c2 : ¬ nm.data.toList = nm'.data.toList
    · have e2 := bytes_ne' c2
      have HN := hideP (mk_ne' (k := k) (k' := k) (nm := nm.data.toList) (nm' := nm'.data.toList) (ns := ns) (ns' := ns') (ks := ks) (ks' := ks') (.inr (.inl c2)))
      clear c2 hns hns' hks hks'
      go_enter Tryd.func11, Tryd.ntmps11
      go_wp2_with fail
      go_ret
      exact ⟨⟨false, rfl, fun h => (by cases h), fun h => absurd h HN.out⟩, HB0.out⟩
    have c2 := Decidable.not_not.1 c2
    have c2' : nm = nm' := by
      cases nm
      cases nm'
      simp at c2
      rw [c2]
    subst c2'
    clear c2
    have e2 : (nm.toList == nm.toList) = true := by simp
    by_cases c3 : ¬ ns.length = ns'.length
    · have e3 : ((ns.length : Int) != (ns'.length : Int)) = true := by rw [bne_iff_ne]; omega
      have HN := hideP (mk_ne' (k := k) (k' := k) (nm := nm.data.toList) (nm' := nm.data.toList) (ns := ns) (ns' := ns') (ks := ks) (ks' := ks') (.inr (.inr (.inl fun h => c3 (by rw [h])))))
      clear c3 hns hns' hks hks'
      go_enter Tryd.func11, Tryd.ntmps11
      go_wp2_with fail
      go_ret
      exact ⟨⟨false, rfl, fun h => (by cases h), fun h => absurd h HN.out⟩, HB0.out⟩
    have c3 := Decidable.not_not.1 c3
    have e3 : ((ns.length : Int) != (ns'.length : Int)) = false := by rw [bne_eq_false_iff_eq]; omega
    by_cases c4 : ¬ ks.length = ks'.length
    · have e4 : ((ks.length : Int) != (ks'.length : Int)) = true := by rw [bne_iff_ne]; omega
      have HN := hideP (mk_ne' (k := k) (k' := k) (nm := nm.data.toList) (nm' := nm.data.toList) (ns := ns) (ns' := ns') (ks := ks) (ks' := ks') (.inr (.inr (.inr fun h => c4 (by rw [h])))))
      have C3 := hideP c3
      clear c3 c4 hns hns' hks hks'
      go_enter Tryd.func11, Tryd.ntmps11
      go_wp2_with fail
      go_ret
      exact ⟨⟨false, rfl, fun h => (by cases h), fun h => absurd h HN.out⟩, HB0.out⟩
    have c4 := Decidable.not_not.1 c4
    have e4 : ((ks.length : Int) != (ks'.length : Int)) = false := by rw [bne_eq_false_iff_eq]; omega
    have C3 := hideP c3
    have C4 := hideP c4
    have HNA := hideP (names_below hns HB0.out)
    have HNB := hideP (names_below hns' HB0.out)
    have HKA := hideP (kids_below hks HB0.out)
    have HKB := hideP (kids_below hks' HB0.out)
    clear c3 c4 hns hns' hks hks'
    obtain ⟨W, hW⟩ : ∃ W, W = (w.alloc (tyO k nm na ns.length nc ka ks.length kc)).alloc (tyO k nm na' ns'.length nc' ka' ks'.length kc') := ⟨_, rfl⟩
    have hxa : W.heap[w.heap.size]? = some (tyO k nm na ns.length nc ka ks.length kc) := by rw [hW]; exact (Below.heap_alloc _ _ _ (by simp)).trans (heap_alloc_last w _)
    have hxb : W.heap[w.heap.size + 1]? = some (tyO k nm na' ns'.length nc' ka' ks'.length kc') := by rw [hW]; exact heap_at1 w _ _
    rw [← hW] at HB0 HNA HNB HKA HKB
    have HXA := hideP hxa
    have HXB := hideP hxb
    have HWW := hideP hW
    clear hxa hxb hW
    go_enter Tryd.func11, Tryd.ntmps11
    go_wp2_with fail
    go_loopw [5] (fun i wx => ∃ j q : Nat, i = .int .i64 j ∧ j ≤ ns.length ∧ Hid (ns.take j = ns'.take j) ∧ wx = W.drewN q) (fun i _ => ns.length - (intOf i).toNat)
    case atStart => exact ⟨0, 0, rfl, Nat.zero_le _, show _ = _ by simp, HWW.out.symm⟩
    case round =>
      obtain ⟨j, q, rfl, hj, htk, rfl⟩ := hrel
      obtain ⟨⟨x0, x1, x2, x3⟩, _, hltx⟩ := res_facts HXA.out
      obtain ⟨⟨y0, y1, y2, y3⟩, _, hlty⟩ := res_facts HXB.out
      by_cases hlt : j < ns.length
      · have hlt' : j < ns'.length := by rw [← C3.out]; exact hlt
        have hjl : (j : Int) < (ns.length : Int) := by omega
        have hjl' : (j : Int) < (ns'.length : Int) := by omega
        obtain ⟨b, o, rfl, hbl, hc⟩ := names_cell HNA.out hlt
        obtain ⟨b', o', rfl, hbl', hc'⟩ := names_cell HNB.out hlt'
        obtain ⟨s1, hs1⟩ : ∃ s1, s1 = ns[j] := ⟨_, rfl⟩
        obtain ⟨s2, hs2⟩ : ∃ s2, s2 = ns'[j] := ⟨_, rfl⟩
        rw [← hs1] at hc
        rw [← hs2] at hc'
        by_cases hs : s1 = s2
        · have HTK := hideP (take_next hlt hlt' htk.out (by rw [← hs1, ← hs2]; exact hs))
          subst hs
          obtain ⟨S1, hS1⟩ : ∃ S1 : ByteArray, S1 = ⟨s1.toArray⟩ := ⟨_, rfl⟩
          rw [← hS1] at hc hc'
          have e5 : (S1.toList == S1.toList) = true := by simp
          clear hs1 hs2 hS1
          go_wp2_with fail
          go_quiet (fail)
          go_wp2_with fail
          exact ⟨⟨j + 1, _, by go_num, by omega, HTK, rfl⟩, by simp [intOf]; omega⟩
        · have e5 := cell_ne hs
          have HN := hideP (mk_ne' (k := k) (k' := k) (nm := nm.data.toList) (nm' := nm.data.toList) (ns := ns) (ns' := ns') (ks := ks) (ks' := ks') (.inr (.inr (.inl (ne_at hlt hlt' (by rw [← hs1, ← hs2]; exact hs))))))
          obtain ⟨S1, hS1⟩ : ∃ S1 : ByteArray, S1 = ⟨s1.toArray⟩ := ⟨_, rfl⟩
          obtain ⟨S2, hS2⟩ : ∃ S2 : ByteArray, S2 = ⟨s2.toArray⟩ := ⟨_, rfl⟩
          rw [← hS1] at hc e5
          rw [← hS2] at hc' e5
          clear hs1 hs2 hS1 hS2 hs
          go_wp2_with fail
          go_quiet (fail)
          go_wp2_with fail
          go_ret
          exact ⟨⟨false, rfl, fun h => (by cases h), fun h => absurd h HN.out⟩, below_drewN (below_drewN HB0.out _) _⟩
      · have hjl : ¬ (j : Int) < (ns.length : Int) := by omega
        have HNS : Hid (ns = ns') := by
          show _ = _
          have := htk.out
          rw [List.take_of_length_le (by omega), List.take_of_length_le (by rw [← C3.out]; omega)] at this
          exact this
        generalize hV : W.drewN q = V
        have hbV : Below W.heap.size W V := by rw [← hV]; exact below_drewN (Below.refl _ _) _
        have HBV := hideP hbV
        have HXA2 := hideP ((hbV.block _ (lt_of_block HXA.out)).trans HXA.out)
        have HXB2 := hideP ((hbV.block _ (lt_of_block HXB.out)).trans HXB.out)
        have HKA2 := hideP (kids_below HKA.out hbV)
        have HKB2 := hideP (kids_below HKB.out hbV)
        have HBW := hideP (below_next HB0.out hbV)
        clear x0 x1 x2 x3 y0 y1 y2 y3 hltx hlty hV hbV HKA HKB HNA HNB
        obtain ⟨⟨x0, x1, x2, x3⟩, _, hltx⟩ := res_facts HXA2.out
        obtain ⟨⟨y0, y1, y2, y3⟩, _, hlty⟩ := res_facts HXB2.out
        go_wp2_with fail
        go_loopw [6] (fun i wx => ∃ j : Nat, i = .int .i64 j ∧ j ≤ ks.length ∧ Hid (ks.take j = ks'.take j) ∧ Hid (Below V.heap.size V wx)) (fun i _ => ks.length - (intOf i).toNat)
        case atStart => exact ⟨0, rfl, Nat.zero_le _, show _ = _ by simp, Below.refl _ _⟩
        case round =>
          obtain ⟨i, rfl, hi, hti, hbi⟩ := hrel
          clear x0 x1 x2 x3 y0 y1 y2 y3 hltx hlty
          have HBR := hideP (below_next HBW.out hbi.out)
          obtain ⟨⟨x0, x1, x2, x3⟩, _, hltx⟩ := res_facts ((hbi.out.block _ (lt_of_block HXA2.out)).trans HXA2.out)
          obtain ⟨⟨y0, y1, y2, y3⟩, _, hlty⟩ := res_facts ((hbi.out.block _ (lt_of_block HXB2.out)).trans HXB2.out)
          by_cases hlt2 : i < ks.length
          · have hlt2' : i < ks'.length := by rw [← C4.out]; exact hlt2
            have hil : (i : Int) < (ks.length : Int) := by omega
            have hil' : (i : Int) < (ks'.length : Int) := by omega
            obtain ⟨b, o, k1, nm1, na1, nl1, nc1, la1, ll1, lc1, rfl, hb1, q0, q1, q2, q3, ht1⟩ := kid_at HKA2.out hlt2
            obtain ⟨b', o', k2, nm2, na2, nl2, nc2, la2, ll2, lc2, rfl, hb2, p0, p1, p2, p3, ht2⟩ := kid_at HKB2.out hlt2'
            have r0 := (hbi.out.cell (p := ⟨b, o + i * 4, none⟩) hb1).trans q0
            have r1 := (hbi.out.cell (p := ⟨b, o + i * 4 + 1, none⟩) hb1).trans q1
            have r2 := (hbi.out.cell (p := ⟨b, o + i * 4 + 2, none⟩) hb1).trans q2
            have r3 := (hbi.out.cell (p := ⟨b, o + i * 4 + 3, none⟩) hb1).trans q3
            have t0 := (hbi.out.cell (p := ⟨b', o' + i * 4, none⟩) hb2).trans p0
            have t1 := (hbi.out.cell (p := ⟨b', o' + i * 4 + 1, none⟩) hb2).trans p1
            have t2 := (hbi.out.cell (p := ⟨b', o' + i * 4 + 2, none⟩) hb2).trans p2
            have t3 := (hbi.out.cell (p := ⟨b', o' + i * 4 + 3, none⟩) hb2).trans p3
            have HC := hideP (fun wx (hwx : Below wr.heap.size wr wx) => ih _ _ ks[i] ks'[i] wx (ty_below ht1 (below_next hbi.out hwx)) (ty_below ht2 (below_next hbi.out hwx)))
            have IH := hideP ih
            clear q0 q1 q2 q3 p0 p1 p2 p3 ht1 ht2 ih
            go_wp2_with fail
            go_cut [7] from 63 (fun v wx => ∃ r, v = .bool r ∧ Hid (r = true ↔ ks[i] = ks'[i]) ∧ Hid (Below wr.heap.size wr wx))
            case first =>
              go_region_with (go_at_call 11; refine (HC.out _ (by first | exact Below.refl _ _ | exact below_drewN (Below.refl _ _) _ | exact (Below.refl _ _).drew)).mono ?_; rintro e w5 ⟨⟨r, rfl, hr⟩, hb5⟩; have HR5 := hideP hr; have HB5 : Hid (Below wr.heap.size wr w5) := by { first | exact hb5 | exact below_next (below_drewN (Below.refl _ _) _) hb5 | exact below_next (Below.refl _ _).drew hb5 }; clear hr hb5)
              all_goals (go_wp2_with fail; go_meet; exact ⟨r, rfl, HR5, HB5⟩)
            case rest =>
              obtain ⟨r, rfl, hr, hbr⟩ := hcut
              cases r
              · have HN := hideP (mk_ne' (k := k) (k' := k) (nm := nm.data.toList) (nm' := nm.data.toList) (ns := ns) (ns' := ns') (ks := ks) (ks' := ks') (.inr (.inr (.inr (ne_at hlt2 hlt2' fun h => by have := hr.out.2 h; cases this)))))
                go_wp2_with fail
                go_ret
                exact ⟨⟨false, rfl, fun h => (by cases h), fun h => absurd h HN.out⟩, below_next HBR.out hbr.out⟩
              · have HTK := hideP (take_next hlt2 hlt2' hti.out (hr.out.1 rfl))
                go_wp2_with fail
                exact ⟨⟨i + 1, by go_num, by omega, HTK, below_next hbi.out hbr.out⟩, by simp [intOf]; omega⟩
          · have hil : ¬ (i : Int) < (ks.length : Int) := by omega
            have HKS : Hid (ks = ks') := by
              show _ = _
              have := hti.out
              rw [List.take_of_length_le (by omega), List.take_of_length_le (by rw [← C4.out]; omega)] at this
              exact this
            go_wp2_with fail
            go_ret
            exact ⟨⟨true, rfl, fun _ => by rw [HNS.out, HKS.out], fun _ => rfl⟩, HBR.out⟩
end Go.Proofs.YtmpcjcjacpjilaaDoor
