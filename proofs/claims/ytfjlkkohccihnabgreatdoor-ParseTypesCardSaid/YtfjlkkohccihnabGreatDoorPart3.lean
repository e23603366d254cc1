/- Part of the proof of ParseTypes: the texts that follow, in build order. -/
import Derived.Test.YtfjlkkohccihnabGreatDoorPart2
import Derived.Deep.RegionHeld

/- tree.allOf over nodes, by contracts. -/
namespace Go.Proofs.YtfjlkkohccihnabGreatDoor
open Go.RowKit

abbrev fitsN : Value := .func (.func 96) #[] #[]
abbrev kidsN : Value := .func (.func 95) #[] #[]
abbrev partsN (b : Nat) : Value := .func (.func 152) #[] #[.pointer (some ⟨b, 0, none⟩)]

/-- nodeFits answers so, of these nodes. -/
def NFit (w : World) (S : Ty → Prop) (fb : Ty → Bool) : Prop := ∀ (n k : Nat) (tx : ByteArray) (N : Nat) (pq : PX) (ka : Option Addr) (kl kc : Nat) (D : Ty) (wx : World), Below w.heap.size w wx → S D → NdAt wx n k tx N pq ka kl kc D → Calls Tryz.prog 96 #[ndV k tx N pq ka kl kc] wx fun e w' => e = .returned (.bool (fb D)) ∧ Below wx.heap.size wx w'

theorem all_take {fb : Ty → Bool} {ks : List Ty} {j : Nat} (hj : j < ks.length) (h : (ks.take j).all fb = true) (hb : fb ks[j] = true) : (ks.take (j + 1)).all fb = true := by
  rw [List.take_succ_eq_append_getElem hj, List.all_append, h]
  simp [hb]

theorem all_no {α : Type} {fb : α → Bool} {ks : List α} {j : Nat} (hj : j < ks.length) (hb : fb ks[j] = false) : ks.all fb = false := by
  rw [List.all_eq_false]
  exact ⟨ks[j], List.getElem_mem hj, by rw [hb]; decide⟩

set_option maxHeartbeats 2000000 in
theorem allNodes_c (n : Nat) (S : Ty → Prop) (fb : Ty → Bool) (ka : Option Addr) (kc : Nat) (ks : List Ty) (w : World) (hF : NFit w S fb) (h : NKids w n ka ks) (hl : ks.length ≤ 140737488351232) (hs : ∀ x ∈ ks, S x) :
    Calls Tryz.prog 153 #[.slice ka ks.length kc, fitsN] w fun e w' => e = .returned (.bool (ks.all fb)) ∧ Below w.heap.size w w' := by
  have HK := hideP h
  have HF := hideP hF
  have HS := hideP hs
  obtain ⟨q, hq⟩ : ∃ q, q = ks.all fb := ⟨_, rfl⟩
  rw [← hq]
  have HQ := hideP hq
  clear h hF hs hq
  go_enter Tryz.func153, Tryz.ntmps153
  go_wp2_with fail
  go_loopw [9] (fun i wx => ∃ j : Nat, i = .int .i64 j ∧ j ≤ ks.length ∧ Hid ((ks.take j).all fb = true) ∧ Hid (Below w.heap.size w wx)) (fun i _ => ks.length - (intOf i).toNat)
  case atStart => exact ⟨0, rfl, Nat.zero_le _, show _ = _ by simp, Below.refl _ _⟩
  case round =>
    obtain ⟨j, rfl, hj, hall, hbl⟩ := hrel
    by_cases hlt : j < ks.length
    · have hjl : (j : Int) < (ks.length : Int) := by omega
      obtain ⟨b, o, k, tx, N, pq, la, ll, lc, rfl, hb1, qc, ht⟩ := nkid_at HK.out hlt
      obtain ⟨r0, r1, r2, r3, r4, r5, r6, r7⟩ := qc.below hb1 hbl.out
      have hb2 := below_next hbl.out (bl_alloc wr (ndO k tx N pq la ll lc))
      have HC := hideP (HF.out n k tx N pq la ll lc _ _ hb2 (HS.out _ (List.getElem_mem hlt)) (nd_below ht hb2))
      have HB2 := hideP hb2
      clear ht hb2
      cases hfb : fb ks[j]
      · rw [hfb] at HC
        obtain rfl : q = false := by rw [HQ.out]; exact all_no hlt hfb
        clear hfb
        go_wp2_with fail
        refine HC.out.mono ?_
        rintro e w' ⟨rfl, hb'⟩
        have HB3 := hideP (below_next HB2.out hb')
        clear hb'
        go_wp2_with fail
        go_ret
        exact ⟨rfl, HB3.out⟩
      · rw [hfb] at HC
        have HA := hideP (all_take hlt hall.out hfb)
        clear hfb
        go_wp2_with fail
        refine HC.out.mono ?_
        rintro e w' ⟨rfl, hb'⟩
        have HB3 := hideP (below_next HB2.out hb')
        clear hb'
        go_wp2_with fail
        exact ⟨⟨j + 1, by go_num, by omega, HA, HB3⟩, by simp [intOf]; omega⟩
    · have hjl : ¬ (j : Int) < (ks.length : Int) := by omega
      obtain rfl : q = true := by
        rw [HQ.out]
        have := hall.out
        rw [List.take_of_length_le (by omega)] at this
        exact this
      go_wp2_with fail
      go_ret
      exact ⟨rfl, hbl.out⟩

theorem kidsOfN_c (k : Nat) (tx : ByteArray) (N : Nat) (pq : PX) (ka : Option Addr) (kl kc : Nat) (w : World) :
    Calls Tryz.prog 95 #[ndV k tx N pq ka kl kc] w fun e w' => e = .returned (.slice ka kl kc) ∧ w' = w.alloc (ndO k tx N pq ka kl kc) := by
  go_enter Tryz.func95, Tryz.ntmps95
  go_wp2_with fail
  go_ret
  exact ⟨rfl, rfl⟩

set_option maxHeartbeats 2000000 in
theorem partsOfN_c (n b : Nat) (S : Ty → Prop) (fb : Ty → Bool) (ka : Option Addr) (kc : Nat) (ks : List Ty) (w : World) (hx : w.cell? ⟨b, 0, none⟩ = some fitsN) (hF : NFit w S fb) (h : NKids w n ka ks) (hl : ks.length ≤ 140737488351232) (hs : ∀ x ∈ ks, S x) :
    Calls Tryz.prog 152 #[.slice ka ks.length kc, .pointer (some ⟨b, 0, none⟩)] w fun e w' => e = .returned (.bool (ks.all fb)) ∧ Below w.heap.size w w' := by
  have HC := hideP (allNodes_c n S fb ka kc ks w hF h hl hs)
  clear h hF hs
  generalize ks.all fb = q at HC
  go_enter Tryz.func152, Tryz.ntmps152
  go_wp2_with fail
  refine HC.out.mono ?_
  rintro e w' ⟨rfl, hb⟩
  have HB := hideP hb
  clear hb
  go_wp2_with fail
  go_ret
  exact ⟨rfl, HB.out⟩

set_option maxHeartbeats 2000000 in
theorem allListsN_c (n b : Nat) (S : Ty → Prop) (fb : Ty → Bool) (a : Option Addr) (c : Nat) (qs : List (Value × List Ty)) (w : World) (hx : w.cell? ⟨b, 0, none⟩ = some fitsN) (hF : NFit w S fb) (hr : RowAt w a (qs.map (·.1))) (hq : ∀ q ∈ qs, NLst w true n q.1 q.2) (hl : qs.length ≤ 140737488351232) (hs : ∀ q ∈ qs, ∀ x ∈ q.2, S x) :
    Calls Tryz.prog 151 #[.slice a qs.length c, partsN b] w fun e w' => e = .returned (.bool (qs.all fun q => q.2.all fb)) ∧ Below w.heap.size w w' := by
  have HR := hideP hr
  have HQ := hideP hq
  have HS := hideP hs
  have HF := hideP hF
  have HX := hideP hx
  obtain ⟨r, hre⟩ : ∃ r, r = qs.all fun q => q.2.all fb := ⟨_, rfl⟩
  rw [← hre]
  have HRE := hideP hre
  clear hr hq hs hF hx hre
  go_enter Tryz.func151, Tryz.ntmps151
  go_wp2_with fail
  go_loopw [9] (fun i wx => ∃ j : Nat, i = .int .i64 j ∧ j ≤ qs.length ∧ Hid (∀ q ∈ qs.take j, q.2.all fb = true) ∧ Hid (Below w.heap.size w wx)) (fun i _ => qs.length - (intOf i).toNat)
  case atStart => exact ⟨0, rfl, Nat.zero_le _, fun q h => by simp at h, Below.refl _ _⟩
  case round =>
    obtain ⟨j, rfl, hj, hall, hbl⟩ := hrel
    by_cases hlt : j < qs.length
    · have hjl : (j : Int) < (qs.length : Int) := by omega
      have hr0 : ∃ b o, a = some ⟨b, o, none⟩ ∧ b < w.heap.size ∧ w.cell? ⟨b, o + j, none⟩ = some qs[j].1 := by
        rcases HR.out with h0 | ⟨b, o, e, hb, hc⟩
        · have := congrArg List.length h0
          rw [List.length_map, List.length_nil] at this
          omega
        · have := hc j (by simpa using hlt)
          rw [List.getElem_map] at this
          exact ⟨b, o, e, hb, this⟩
      obtain ⟨b0, o0, rfl, hb0, hcj⟩ := hr0
      obtain ⟨b1, o1, c1, e1, _, hll, hkids⟩ := HQ.out qs[j] (List.getElem_mem hlt)
      rw [e1] at hcj
      have hcr := (hbl.out.cell (p := ⟨b0, o0 + j, none⟩) hb0).trans hcj
      have hxr := (hbl.out.cell (p := ⟨b, 0, none⟩) (World.block_lt_of_cell? w _ HX.out)).trans HX.out
      have HC := hideP (partsOfN_c n b S fb (some ⟨b1, o1, none⟩) c1 qs[j].2 wr hxr (fun n k tx N pq ka kl kc D wx hwx => HF.out n k tx N pq ka kl kc D wx (below_next hbl.out hwx)) (nkids_below hkids hbl.out) hll (HS.out _ (List.getElem_mem hlt)))
      clear hcj e1 hll hkids hxr
      cases hfb : qs[j].2.all fb
      · rw [hfb] at HC
        obtain rfl : r = false := by rw [HRE.out]; exact all_no (fb := fun q : Value × List Ty => q.2.all fb) hlt hfb
        clear hfb
        go_wp2_with fail
        refine HC.out.mono ?_
        rintro e w' ⟨rfl, hb'⟩
        have HB3 := hideP (below_next hbl.out hb')
        clear hb'
        go_wp2_with fail
        go_ret
        exact ⟨rfl, HB3.out⟩
      · rw [hfb] at HC
        have HA : Hid (∀ q ∈ qs.take (j + 1), q.2.all fb = true) := fun q hq => by
          rw [List.take_succ_eq_append_getElem hlt, List.mem_append] at hq
          rcases hq with hq | hq
          · exact hall.out q hq
          · rw [List.mem_singleton.1 hq]
            exact hfb
        clear hfb
        go_wp2_with fail
        refine HC.out.mono ?_
        rintro e w' ⟨rfl, hb'⟩
        have HB3 := hideP (below_next hbl.out hb')
        clear hb'
        go_wp2_with fail
        exact ⟨⟨j + 1, by go_num, by omega, HA, HB3⟩, by simp [intOf]; omega⟩
    · have hjl : ¬ (j : Int) < (qs.length : Int) := by omega
      obtain rfl : r = true := by
        rw [HRE.out, List.all_eq_true]
        have := hall.out
        rw [List.take_of_length_le (by omega)] at this
        exact this
      go_wp2_with fail
      go_ret
      exact ⟨rfl, hbl.out⟩
end Go.Proofs.YtfjlkkohccihnabGreatDoor

/- The keys by which tree.nextLevel tells lists from one another: as those of types. -/
namespace Go.Proofs.YtfjlkkohccihnabGreatDoor
open Go.RowKit

theorem partN_ptr (xs : Array Value) (w : World) (a : Addr) (h : xs[0]? = some (.pointer (some a))) : (part 217 xs 0).run Tryz.prog w = .ok (.pointer (some a)) w := by
  simp [part, isAgg, run_underlying Tryz.underlying217, h]
theorem runN_eq_ptr (d : Nat) (w : World) (a b : Addr) : (Op.equalIn (d + 1) 217 (.pointer (some a)) (.pointer (some b))).run Tryz.prog w = (sameAddr a b).run Tryz.prog w := by
  simp [Op.equalIn, run_underlying Tryz.underlying217]

theorem stretchN_fields : Tryz.prog.underlying 219 = some (.struct (Tryz.prog.fieldsOf 219)) := by kernel_rfl
theorem stretchN_held : Tryz.prog.stoodInHeld 219 = false := by kernel_rfl

theorem run_eq_stretchN (d : Nat) {w : World} {a b : Addr} {m l : Nat} (ha : GoodA w a) (hb : GoodA w b) :
    ∃ r n, (Op.equalIn (d + 2) 219 (keyV a m) (keyV b l)).run Tryz.prog w = .ok r (w.drewN n) ∧ ((a = b ∧ m = l) → r = true) ∧ (PlainA w a → PlainA w b → (r = true → a = b ∧ m = l)) := by
  obtain ⟨r, n, h, h1, h2⟩ := run_sameAddr_any (P := Tryz.prog) ha hb
  unfold keyV
  rw [run_equalIn_struct _ _ _ _ _ stretchN_fields stretchN_held]
  simp only [Program.fieldsOf, Tryz.underlying219, Op.eqFields, ne_eq]
  simp only [show ¬ ("first" = "_") by decide, show ¬ ("length" = "_") by decide, not_false_eq_true, if_true, Sem.run_bind]
  simp only [partN_ptr _ _ a (show (#[Value.pointer (some a), .int .i64 m] : Array Value)[0]? = _ from rfl), partN_ptr _ _ b (show (#[Value.pointer (some b), .int .i64 l] : Array Value)[0]? = _ from rfl), Result.andThen_ok, runN_eq_ptr, h]
  cases r
  · refine ⟨false, n, by simp, fun e => ?_, fun _ _ e => by cases e⟩
    exact absurd (h1 e.1) (by decide)
  · refine ⟨m == l, n, ?_, fun e => by simp [e.2], fun p1 p2 e => ⟨h2 p1 p2 rfl, by simpa using e⟩⟩
    simp [part_len _ _ m (show (#[Value.pointer (some a), .int .i64 m] : Array Value)[1]? = _ from rfl), part_len _ _ l (show (#[Value.pointer (some b), .int .i64 l] : Array Value)[1]? = _ from rfl), run_eq_int]
    by_cases hml : m = l <;> simp [hml]

theorem stretchN_ok : KeyOK 219 GoodK PlainK where
  eq w x y hx hy := by
    obtain ⟨a, m, rfl, ha⟩ := hx
    obtain ⟨b, l, rfl, hb⟩ := hy
    obtain ⟨r, n, h, h1, h2⟩ := run_eq_stretchN 9998 (m := m) (l := l) ha hb
    refine ⟨r, n, h, fun e => h1 (keyV_inj e), fun p1 p2 e => ?_⟩
    obtain ⟨a', m', e1, p1⟩ := p1
    obtain ⟨b', l', e2, p2⟩ := p2
    obtain ⟨rfl, rfl⟩ := keyV_inj e1
    obtain ⟨rfl, rfl⟩ := keyV_inj e2
    obtain ⟨rfl, rfl⟩ := h2 p1 p2 e
    rfl
  check w em x hx := by
    obtain ⟨a, m, rfl, ha⟩ := hx
    kernel_rfl
  drew w n x hx := hx
  drewP w n x hx := hx
  now w x y hx := by
    obtain ⟨a, m, rfl, ha⟩ := hx
    exact ⟨_, Tryz.underlying219, rfl⟩
end Go.Proofs.YtfjlkkohccihnabGreatDoor

/- tree.nextLevel over nodes, by a contract. -/
namespace Go.Proofs.YtfjlkkohccihnabGreatDoor
open Go.RowKit

theorem info_lstN : (Tryz.prog.info? 25).map (fun i => (i.zero, i.size, i.bytes)) = some (some (.slice none 0 0), 1, 24) := by kernel_rfl

theorem ownN_up {w0 wr w1 : World} {u : Bool} {n : Nat} {v : Value} {done : List Ty} {ps : List (Value × List Ty)} {vs : List Value} (h : NLev w0 wr u n v done ps vs) (hg : wr.grownBy w1 (some w0.heap.size)) : w1.ownsRow (w0.heap.size + 1) 25 1 v ps.length (ps.map (·.1)) :=
  h.ow.kept hg (.inr fun e => by have := (h.ow.lt _ e).1; omega)

/-- What nextLevel leaves. -/
def NextPostN (w : World) (u : Bool) (n : Nat) (Ds : List Ty) (e : Ending) (w' : World) : Prop :=
  ∃ v ps vs, e = .returned v ∧ NLev w w' u n v Ds ps vs

set_option maxHeartbeats 4000000 in
set_option maxRecDepth 100000 in
theorem trNextN_c (u : Bool) (n : Nat) (qs : List (Value × List Ty)) (a : Option Addr) (c : Nat) (w : World) (hr : RowAt w a (qs.map (·.1))) (hq : ∀ q ∈ qs, NLst w u (n + 1) q.1 q.2) (ht : totL (n + 1) qs ≤ 1000) :
    Calls Tryz.prog 154 #[.slice a qs.length c, kidsN] w (NextPostN w u n (qs.map (·.2)).flatten) := by
  have hql : qs.length ≤ 1000 := Nat.le_trans (ntot_len hq) ht
  obtain ⟨i0, hi, hz0, hz1, hz2⟩ := info_parts info_lstN
  have hmm := @run_makeMap Tryz.prog
  have HR := hideP hr
  have HQ := hideP hq
  have HTT := hideP ht
  clear hr hq ht
  go_enter Tryz.func154, Tryz.ntmps154
  go_wp2_with fail
  go_loopw [5, 18] (fun v i wr => ∃ (j : Nat) (ps : List (Value × List Ty)) (vs : List Value), i = .int .i64 j ∧ j ≤ qs.length ∧ Hid (NLev w wr u n v ((qs.map (·.2)).take j).flatten ps vs)) (fun _ i _ => qs.length - (intOf i).toNat)
  case atStart =>
    refine ⟨0, [], [], rfl, Nat.zero_le _, ?_⟩
    refine ⟨bl_alloc _ _, set_made w, World.ownsRow_nil .., by simp, by simp, by simp, ?_, ?_⟩
    · simp [totL]
    · simp
  case round =>
    obtain ⟨j, ps, vs, rfl, hj, hL⟩ := hrel
    by_cases hlt : j < qs.length
    · have hjl : (j : Int) < (qs.length : Int) := by omega
      have hr0 : ∃ b o, a = some ⟨b, o, none⟩ ∧ b < w.heap.size ∧ w.cell? ⟨b, o + j, none⟩ = some qs[j].1 := by
        rcases HR.out with h0 | ⟨b, o, e, hb, hc⟩
        · have := congrArg List.length h0
          rw [List.length_map, List.length_nil] at this
          omega
        · have := hc j (by simpa using hlt)
          rw [List.getElem_map] at this
          exact ⟨b, o, e, hb, this⟩
      obtain ⟨b, o, rfl, hbl, hcj⟩ := hr0
      have hls := HQ.out qs[j] (List.getElem_mem hlt)
      obtain ⟨b1, o1, c1, e1, hne, hll, hkids⟩ := hls
      have hll' : qs[j].2.length ≤ 140737488351232 := hll
      rw [e1] at hcj
      have hcr := (hL.out.bl.cell (p := ⟨b, o + j, none⟩) hbl).trans hcj
      obtain ⟨Ds, hDs⟩ : ∃ Ds, Ds = qs[j].2 := ⟨_, rfl⟩
      rw [← hDs] at hcr hll' hkids hne
      have hDM : Hid (Ds = qs[j].2) := hDs
      have HK := hideP hkids
      have HNE := hideP hne
      clear hcj e1 hkids hll hDs hne
      go_wp2_with fail
      go_loopw [5, 24] (fun v i wr => ∃ (k : Nat) (ps : List (Value × List Ty)) (vs : List Value), i = .int .i64 k ∧ k ≤ Ds.length ∧ Hid (NLev w wr u n v (((qs.map (·.2)).take j).flatten ++ Ds.take k) ps vs)) (fun _ i _ => Ds.length - (intOf i).toNat)
      case atStart => exact ⟨0, ps, vs, rfl, Nat.zero_le _, by simpa using hL⟩
      case round =>
        obtain ⟨k, ps, vs, rfl, hk, hL⟩ := hrel
        by_cases hkt : k < Ds.length
        · have hkl : (k : Int) < (Ds.length : Int) := by omega
          obtain ⟨_, _, k', tx', N', pq', la', ll', lc', e2, hbl1, qc, hty⟩ := nkid_at HK.out hkt
          injection e2 with e2
          injection e2 with e3 e4
          subst e3 e4
          obtain ⟨r0, r1, r2, r3, r4, r5, r6, r7⟩ := qc.below hbl1 hL.out.bl
          obtain ⟨ks', e5, e6, _, _, _, _, hkl', hk2⟩ := hty
          subst e5
          clear qc
          by_cases hz : ks' = []
          · subst hz
            clear HK HR HQ
            have hLn := hideP (((hL.out.grow (World.grownBy_alloc _ (ndO k' tx' N' pq' la' 0 lc') none)).grow (World.grownBy_alloc _ (ndO k' tx' N' pq' la' 0 lc') none)).skip (D := Ds[k]) (by rw [e6]; rfl))
            clear e6 hk2 hkl'
            go_wp2_with fail
            refine (kidsOfN_c _ _ _ _ _ _ _ _).mono ?_
            rintro e w1 ⟨rfl, rfl⟩
            go_wp2_with fail
            refine ⟨⟨k + 1, ps, vs, by go_num, by omega, ?_⟩, by simp [intOf]; omega⟩
            rw [List.take_succ_eq_append_getElem hkt, ← List.append_assoc]
            exact hLn.out
          · have hlst : NLst w u n (.slice la' ks'.length lc') (kidsT Ds[k]) := by
              rw [e6]
              rcases hk2 with h0 | ⟨b2, o2, rfl, h3⟩
              · exact absurd h0 hz
              · exact ⟨b2, o2, lc', rfl, hz, Nat.le_trans hkl' (by decide), .inr ⟨b2, o2, rfl, h3⟩⟩
            obtain ⟨b2, o2, _, e7, hbl2, hgood, hplain, _, _⟩ := hlst.good
            injection e7 with e7 e8 e9
            subst e7
            have hkl2 : ks'.length ≤ 140737488351232 := Nat.le_trans hkl' (by decide)
            have hk1 : 1 ≤ ks'.length := List.length_pos_iff.2 hz
            have hzk : ((ks'.length : Int) == 0) = false := by rw [beq_eq_false_iff_ne]; omega
            have HLST := hideP hlst
            have HGD := hideP ((((hgood.below hL.out.bl).below (bl_alloc wr (ndO k' tx' N' pq' (some ⟨b2, o2, none⟩) ks'.length lc'))).below (bl_alloc _ (ndO k' tx' N' pq' (some ⟨b2, o2, none⟩) ks'.length lc'))).below (bl_alloc _ (.cells #[.pointer (some ⟨b2, o2, none⟩), .int .i64 ks'.length] 219)))
            have HL1 := hideP (((hL.out.grow (World.grownBy_alloc _ (ndO k' tx' N' pq' (some ⟨b2, o2, none⟩) ks'.length lc') none)).grow (World.grownBy_alloc _ (ndO k' tx' N' pq' (some ⟨b2, o2, none⟩) ks'.length lc') none)).grow (World.grownBy_alloc _ (.cells #[.pointer (some ⟨b2, o2, none⟩), .int .i64 ks'.length] 219) none))
            clear e6 e8 e9 hk2 hkl' HK HR HQ hlst hgood hplain hz
            go_wp2_with fail
            refine (kidsOfN_c _ _ _ _ _ _ _ _).mono ?_
            rintro e w1 ⟨rfl, rfl⟩
            have htl : ps.length ≤ 1000 := by
              have h1 := ntot_len HL1.out.ls
              have h2 := HL1.out.tt
              have h3 : ((((qs.map (·.2)).take j).flatten ++ Ds.take k).map (sizeT (n + 1))).sum ≤ totL (n + 1) qs := by
                rw [hDM.out]
                exact done_le qs j k hlt
              have := HTT.out
              omega
            go_wp2_with (first | (at_lookup; refine wpList_set_look rfl _ _ 216 rfl stretchN_ok Tryz.underlying216 unit_zero w.heap.size vs rfl HL1.out.st _ rfl ⟨_, _, rfl, HGD.out⟩ HL1.out.goodK ?_; intro r nd hno hyes; have HL2 := hideP ((HL1.out.grow (grown_drewN _ nd none)).grow (World.grownBy_alloc _ (.cells #[] 200) none)); have HGD2 := hideP ((HGD.out.drew nd).below (bl_alloc _ (.cells #[] 200))); have HYES := hideP hyes; clear hno hyes) | (at_mapUpdate; refine wpList_set_store rfl _ _ _ 216 rfl stretchN_ok Tryz.underlying216 w.heap.size vs rfl HL2.out.st _ rfl rfl ⟨_, _, rfl, HGD2.out⟩ HL2.out.goodK ?_; intro w3 vs' hst hgr hsub hall; have HST := hideP hst; have HGR := hideP hgr; have HSUB := hideP hsub; have HOW := hideP (ownN_up HL2.out hgr); have hs3 : w.heap.size + 1 ≤ w3.heap.size := Nat.le_trans HL2.out.sz hgr.size; clear hst hgr hsub hall) | (at_builtin; refine wpList_append_own _ rfl (.tmp 50) (.tmp 52) 185 rfl (w.heap.size + 1) 25 i0 _ 1 24 Tryz.underlying185 hi hz0 hz1 hz2 rfl (by decide) _ _ _ rfl (HOW.out.alloc _) ⟨_, 0, none⟩ 1 1 [.slice (some ⟨b2, o2, none⟩) ks'.length lc'] rfl rfl (one_new _ _ _) (by simp [Value.oneCell']) (by unfold maxLen; omega) (by omega) (by simp; omega) ?_; intro v' w4 hown' hgrow _; have HOWN := hideP hown'; have HGROW := hideP hgrow; clear hown' hgrow))
            · have HL5 := hideP (HL2.out.add (D := Ds[k]) HLST.out HST.out HGR.out HSUB.out HOWN.out HGROW.out)
              clear HL1 HGD HYES HL2 HGD2 HST HGR HSUB HOW HOWN HGROW
              refine ⟨⟨k + 1, ps ++ [(.slice (some ⟨b2, o2, none⟩) ks'.length lc', kidsT Ds[k])], vs', by go_num, by omega, ?_⟩, by simp [intOf]; omega⟩
              rw [List.take_succ_eq_append_getElem hkt, ← List.append_assoc]
              exact HL5.out
            · have hr : r = true := by cases r <;> simp_all
              have HL3 := hideP (((HL1.out.had (D := Ds[k]) HLST.out (HYES.out hr)).grow (grown_drewN _ nd none)).grow (World.grownBy_alloc _ (.cells #[] 200) none))
              clear HL1 HGD HYES HL2 HGD2
              refine ⟨⟨k + 1, ps, vs, by go_num, by omega, ?_⟩, by simp [intOf]; omega⟩
              rw [List.take_succ_eq_append_getElem hkt, ← List.append_assoc]
              exact HL3.out
        · have hkl : ¬ (k : Int) < (Ds.length : Int) := by omega
          clear HK HR HQ
          go_wp2_with fail
          refine ⟨⟨j + 1, ps, vs, by go_num, by omega, ?_⟩, by simp [intOf]; omega⟩
          rw [flat_take _ _ (by simpa using hlt), List.getElem_map]
          have := hL.out
          rw [List.take_of_length_le (l := Ds) (by omega), hDM.out] at this
          exact this
    · have hjl : ¬ (j : Int) < (qs.length : Int) := by omega
      clear HR HQ
      go_wp2_with fail
      go_ret
      have := hL.out
      rw [List.take_of_length_le (by simp; omega)] at this
      exact ⟨_, ps, vs, rfl, this⟩
end Go.Proofs.YtfjlkkohccihnabGreatDoor

/- types.Height by a contract. -/
namespace Go.Proofs.YtfjlkkohccihnabGreatDoor
open Go.RowKit

def hiL (n : Nat) (ps : List (Value × List Ty)) : Nat := maxL (ps.map fun p => maxL (p.2.map (heightT n)))

theorem hiL_flat (n : Nat) (ps : List (Value × List Ty)) : hiL n ps = maxL ((ps.map (·.2)).flatten.map (heightT n)) := by
  apply Nat.le_antisymm
  · refine maxL_le fun a ha => ?_
    obtain ⟨p, hp, rfl⟩ := List.mem_map.1 ha
    refine maxL_le fun x hx => le_maxL ?_
    obtain ⟨D, hD, rfl⟩ := List.mem_map.1 hx
    exact List.mem_map.2 ⟨D, List.mem_flatten.2 ⟨p.2, List.mem_map.2 ⟨p, hp, rfl⟩, hD⟩, rfl⟩
  · refine maxL_le fun a ha => ?_
    obtain ⟨D, hD, rfl⟩ := List.mem_map.1 ha
    obtain ⟨L, hL, hD⟩ := List.mem_flatten.1 hD
    obtain ⟨p, hp, rfl⟩ := List.mem_map.1 hL
    exact Nat.le_trans (le_maxL (List.mem_map.2 ⟨D, hD, rfl⟩)) (le_maxL (List.mem_map.2 ⟨p, hp, rfl⟩ : maxL (p.2.map (heightT n)) ∈ ps.map fun p => maxL (p.2.map (heightT n))))

theorem tot_flat (n : Nat) (ps : List (Value × List Ty)) : ((ps.map (·.2)).flatten.map (sizeT n)).sum = totL n ps := by
  rw [sum_flat, List.map_map]
  rfl

end Go.Proofs.YtfjlkkohccihnabGreatDoor

/- tree.everyPart over nodes, tree.isExpression, by contracts. -/
namespace Go.Proofs.YtfjlkkohccihnabGreatDoor
open Go.RowKit

theorem nlev_height {w0 wr : World} {n : Nat} {v : Value} {Ds : List Ty} {ps : List (Value × List Ty)} {vs : List Value} (h : NLev w0 wr true n v Ds ps vs) (hne : Ds ≠ []) : 1 + hiL n ps = maxL (Ds.map (heightT (n + 1))) := by
  apply Nat.le_antisymm
  · have h1 : hiL n ps ≤ maxL (Ds.map (heightT (n + 1))) - 1 := by
      refine maxL_le fun a ha => ?_
      obtain ⟨p, hp, rfl⟩ := List.mem_map.1 ha
      obtain ⟨D, hD, e⟩ := h.fr p hp
      have := le_maxL (List.mem_map.2 ⟨D, hD, rfl⟩ : heightT (n + 1) D ∈ Ds.map (heightT (n + 1)))
      rw [heightT] at this
      rw [e]
      omega
    obtain ⟨D, rest, e⟩ := List.exists_cons_of_ne_nil hne
    have h2 := le_maxL (List.mem_map.2 ⟨D, by rw [e]; simp, rfl⟩ : heightT (n + 1) D ∈ Ds.map (heightT (n + 1)))
    rw [heightT] at h2
    omega
  · refine maxL_le fun a ha => ?_
    obtain ⟨D, hD, rfl⟩ := List.mem_map.1 ha
    rw [heightT]
    by_cases hk : kidsT D = []
    · rw [hk]
      simp [maxL]
    · obtain ⟨p, hp, e⟩ := h.al rfl D hD hk
      have := le_maxL (List.mem_map.2 ⟨p, hp, rfl⟩ : maxL (p.2.map (heightT n)) ∈ ps.map fun p => maxL (p.2.map (heightT n)))
      rw [e] at this
      unfold hiL
      omega

theorem nhiL_pos {w : World} {u : Bool} {n : Nat} {ps : List (Value × List Ty)} (h : ∀ p ∈ ps, NLst w u n p.1 p.2) (hne : ps ≠ []) : 1 ≤ hiL n ps := by
  obtain ⟨p, rest, rfl⟩ := List.exists_cons_of_ne_nil hne
  obtain ⟨b, o, c, _, hne2, _, hk⟩ := h p (by simp)
  obtain ⟨D, ks, e⟩ := List.exists_cons_of_ne_nil hne2
  have hm : ∃ m, n = m + 1 := by
    rcases hk with hk | ⟨_, _, _, _, hc⟩
    · exact absurd hk hne2
    · obtain ⟨_, _, _, _, _, _, _, _, ht⟩ := hc 0 (List.length_pos_iff.2 hne2)
      cases n with
      | zero => exact ht.elim
      | succ m => exact ⟨m, rfl⟩
  obtain ⟨m, rfl⟩ := hm
  have h1 := le_maxL (List.mem_map.2 ⟨D, by rw [e]; simp, rfl⟩ : heightT (m + 1) D ∈ p.2.map (heightT (m + 1)))
  have h2 := le_maxL (List.mem_map.2 ⟨p, by simp, rfl⟩ : maxL (p.2.map (heightT (m + 1))) ∈ (p :: rest).map fun p => maxL (p.2.map (heightT (m + 1))))
  rw [heightT] at h1
  unfold hiL
  omega

theorem nflat_ne {w : World} {u : Bool} {n : Nat} {ps : List (Value × List Ty)} (h : ∀ p ∈ ps, NLst w u n p.1 p.2) (hne : ps ≠ []) : (ps.map (·.2)).flatten ≠ [] := by
  obtain ⟨p, rest, rfl⟩ := List.exists_cons_of_ne_nil hne
  obtain ⟨b, o, c, _, hne2, _, hk⟩ := h p (by simp)
  simp [hne2]

/-- A level in memory, as Height keeps it. -/
def NLevel (w : World) (u : Bool) (m : Nat) (v : Value) (ps : List (Value × List Ty)) : Prop :=
  ∃ a c, v = .slice a ps.length c ∧ RowAt w a (ps.map (·.1)) ∧ (∀ p ∈ ps, NLst w u m p.1 p.2) ∧ totL m ps ≤ 1000

theorem nlevel_of_lev {w0 wr : World} {u : Bool} {n : Nat} {v : Value} {Ds : List Ty} {ps : List (Value × List Ty)} {vs : List Value} (h : NLev w0 wr u n v Ds ps vs) (ht : (Ds.map (sizeT (n + 1))).sum ≤ 1000) : NLevel wr u n v ps := by
  obtain ⟨a, c, e, hr, _⟩ := row_of_owns h.ow
  rw [List.length_map] at e
  exact ⟨a, c, e, hr, fun p hp => nlst_below (h.ls p hp) h.bl, Nat.le_trans h.tt ht⟩

/-- The first level: one list of one node. -/
theorem nfirst_level {w : World} {u : Bool} {n : Nat} {k : Nat} {tx : ByteArray} {N : Nat} {pq : PX} {ka : Option Addr} {kl kc : Nat} {D : Ty} {B : Nat} (hB : B = w.heap.size) (h : NdAt w n k tx N pq ka kl kc D) (hs : sizeT n D ≤ 1000) :
    NLevel ((w.alloc (ndO k tx N pq ka kl kc)).alloc (.cells #[.slice (some ⟨B, 0, none⟩) 1 1] 25)) u n (.slice (some ⟨B + 1, 0, none⟩) 1 1) [(.slice (some ⟨B, 0, none⟩) 1 1, [D])] := by
  subst hB
  have hb := below_next (bl_alloc w (ndO k tx N pq ka kl kc)) (bl_alloc _ (.cells #[.slice (some ⟨w.heap.size, 0, none⟩) 1 1] 25))
  have h0 : ((w.alloc (ndO k tx N pq ka kl kc)).alloc (.cells #[.slice (some ⟨w.heap.size, 0, none⟩) 1 1] 25)).heap[w.heap.size]? = some (ndO k tx N pq ka kl kc) := by
    rw [Below.heap_alloc _ _ _ (by simp)]
    exact heap_alloc_last w _
  have h1 : ((w.alloc (ndO k tx N pq ka kl kc)).alloc (.cells #[.slice (some ⟨w.heap.size, 0, none⟩) 1 1] 25)).heap[w.heap.size + 1]? = some (.cells #[.slice (some ⟨w.heap.size, 0, none⟩) 1 1] 25) := heap_at1 w _ _
  refine ⟨_, _, rfl, .inr ⟨_, 0, rfl, lt_of_block h1, fun i hi => ?_⟩, fun p hp => ?_, by simpa [totL] using hs⟩
  · obtain rfl : i = 0 := by simp at hi; omega
    rw [cell_of_row _ _ _ _ _ _ h1]
    rfl
  · rw [List.mem_singleton.1 hp]
    refine ⟨_, _, _, rfl, by simp, by simp [reachBytes], .inr ⟨_, _, rfl, ⟨_, _, h0⟩, fun i hi => ?_⟩⟩
    obtain rfl : i = 0 := by simp at hi; omega
    exact ⟨k, tx, N, pq, ka, kl, kc, by simpa using (nd_facts h0).1, nd_below h hb⟩

theorem nnext_zero (u : Bool) (v : Value) (ps : List (Value × List Ty)) (w : World) (h : NLevel w u 0 v ps) : ps = [] := by
  obtain ⟨a, c, _, _, hls, _⟩ := h
  cases ps with
  | nil => rfl
  | cons p ps =>
    obtain ⟨b, o, c, _, hne2, _, hk⟩ := hls p (by simp)
    rcases hk with hk | ⟨_, _, _, _, hc⟩
    · exact absurd hk hne2
    · obtain ⟨_, _, _, _, _, _, _, _, ht⟩ := hc 0 (List.length_pos_iff.2 hne2)
      exact ht.elim

set_option maxHeartbeats 4000000 in
set_option maxRecDepth 100000 in
theorem everyN_c (n : Nat) (k : Nat) (tx : ByteArray) (N : Nat) (pq : PX) (ka : Option Addr) (kl kc : Nat) (D : Ty) (S : Ty → Prop) (fb : Ty → Bool) (w : World) (h : NdAt w (n + 1) k tx N pq ka kl kc D) (hs : sizeT (n + 1) D ≤ 1000) (hh : heightT (n + 1) D ≤ 25) (hn : S D) (hS : ∀ D, S D → ∀ x ∈ kidsT D, S x) (hfb : ∀ D, S D → fb D = true) (hf : NFit w S fb) :
    Calls Tryz.prog 94 #[ndV k tx N pq ka kl kc, .int .i64 25, kidsN, fitsN] w fun e w' => e = .returned (.bool true) ∧ Below w.heap.size w w' := by
  have hb1 := below_next (bl_alloc w (ndO k tx N pq ka kl kc)) (bl_alloc _ (.cells #[fitsN] 96))
  have hlv := nfirst_level (u := true) (B := w.heap.size + 1 + 1) (by simp) (nd_below h hb1) hs
  have hb2 := below_next (below_next hb1 (bl_alloc _ (ndO k tx N pq ka kl kc))) (bl_alloc _ (.cells #[.slice (some ⟨w.heap.size + 1 + 1, 0, none⟩) 1 1] 25))
  obtain ⟨W, hW⟩ : ∃ W, W = (((w.alloc (ndO k tx N pq ka kl kc)).alloc (.cells #[fitsN] 96)).alloc (ndO k tx N pq ka kl kc)).alloc (.cells #[.slice (some ⟨w.heap.size + 1 + 1, 0, none⟩) 1 1] 25) := ⟨_, rfl⟩
  have hxb : W.heap[w.heap.size + 1]? = some (.cells #[fitsN] 96) := by
    rw [hW, Below.heap_alloc _ _ _ (by simp), Below.heap_alloc _ _ _ (by simp)]
    exact heap_at1 w _ _
  rw [← hW] at hlv hb2
  have HLV := hideP hlv
  have HB2 := hideP hb2
  have HXB := hideP hxb
  have HWW := hideP hW
  have HF := hideP hf
  have HSS := hideP hS
  have HFB := hideP hfb
  have HH := hideP hh
  have HN := hideP hn
  have HI : Hid (hiL (n + 1) [(Value.slice (some ⟨w.heap.size + 1 + 1, 0, none⟩) 1 1, [D])] + 0 = heightT (n + 1) D) := by
    show _ = _
    simp [hiL, maxL]
  clear hb1 hlv hb2 hxb hW hf hn h hs hS hfb hh
  go_enter Tryz.func94, Tryz.ntmps94
  go_wp2_with fail
  go_loopw [9, 10] (fun l s wr => ∃ (h m : Nat) (ps : List (Value × List Ty)), s = .int .i64 h ∧ h ≤ 25 ∧ Hid (NLevel wr true m l ps) ∧ Hid (hiL m ps + h = heightT (n + 1) D) ∧ Hid (∀ p ∈ ps, ∀ x ∈ p.2, S x) ∧ Hid (Below W.heap.size W wr)) (fun _ s _ => 26 - (intOf s).toNat)
  case atStart =>
    refine ⟨0, n + 1, _, rfl, by omega, by show NLevel _ _ _ _ _; rw [← HWW.out]; exact HLV.out, HI, ?_, by show Below _ _ _; rw [← HWW.out]; exact Below.refl _ _⟩
    intro p hp x hx
    rw [List.mem_singleton.1 hp] at hx
    rw [List.mem_singleton.1 hx]
    exact HN.out
  case round =>
    obtain ⟨h, m, ps, rfl, h2, hlv, hhi, hnn, hb⟩ := hrel
    have hlv' := hlv.out
    obtain ⟨a, c, rfl, hrow, hls, htot⟩ := hlv'
    have htl : ps.length ≤ 1000 := Nat.le_trans (ntot_len hls) htot
    have HLS := hideP hls
    have HT := hideP htot
    have HR := hideP hrow
    have HBW := hideP (below_next HB2.out hb.out)
    have hxr := (hb.out.block _ (lt_of_block HXB.out)).trans HXB.out
    clear hrow hls htot
    by_cases hz : ps = []
    · subst hz
      clear hlv HLS hxr
      go_wp2_with fail
      go_ret
      exact ⟨rfl, HBW.out⟩
    · have hp : 1 ≤ ps.length := List.length_pos_iff.2 hz
      have hpi : (0 : Int) < (ps.length : Int) := by omega
      by_cases hh : h = 25
      · have h1 := hhi.out
        have h3 := nhiL_pos HLS.out hz
        have := HH.out
        omega
      · have h16 : h < 25 := by omega
        have hhe : ((h : Int) == 25) = false := by rw [beq_eq_false_iff_ne]; omega
        cases m with
        | zero => exact absurd (nnext_zero true _ _ _ hlv.out) hz
        | succ m =>
          have hcx : wr.cell? ⟨w.heap.size + 1, 0, none⟩ = some fitsN := by rw [cell_of_row _ _ _ _ _ _ hxr]; rfl
          have HC1 := hideP (allListsN_c (m + 1) (w.heap.size + 1) S fb a c ps wr hcx (fun n k tx N pq ka kl kc D wx hwx => HF.out n k tx N pq ka kl kc D wx (below_next HBW.out hwx)) HR.out HLS.out (by omega) hnn.out)
          have hqa : (ps.all fun q => q.2.all fb) = true := by
            rw [List.all_eq_true]
            intro q hq
            rw [List.all_eq_true]
            exact fun x hx => HFB.out x (hnn.out q hq x hx)
          rw [hqa] at HC1
          clear hqa
          have HNE := hideP (nflat_ne HLS.out hz)
          clear hlv hz hh hxr hcx
          go_wp2_with fail
          refine HC1.out.mono ?_
          rintro e w1 ⟨rfl, hb1⟩
          have hb1' := below_next hb.out hb1
          have hr1 : RowAt w1 a (ps.map (·.1)) := by
            rcases HR.out with h0 | ⟨b, o, e, hbb, hc⟩
            · exact .inl h0
            · exact .inr ⟨b, o, e, Nat.lt_of_lt_of_le hbb hb1.size, fun i hi => (hb1.cell (p := ⟨b, o + i, none⟩) hbb).trans (hc i hi)⟩
          have HC2 := hideP (trNextN_c true m ps a c w1 hr1 (fun q hq => nlst_below (HLS.out q hq) hb1) HT.out)
          have HB1 := hideP hb1'
          clear hb1 hb1' hr1
          go_wp2_with fail
          refine HC2.out.mono ?_
          rintro e w2 ⟨v2, ps2, vs2, rfl, hlev⟩
          have HLV2 := hideP (nlevel_of_lev hlev (by rw [tot_flat]; exact HT.out))
          have HB3 := hideP (below_next HB1.out hlev.bl)
          have HI2 : Hid (hiL m ps2 + (h + 1) = heightT (n + 1) D) := by
            show _ = _
            have h1 := hhi.out
            have h3 := nlev_height hlev HNE.out
            rw [← hiL_flat] at h3
            omega
          have HN2 : Hid (∀ p ∈ ps2, ∀ x ∈ p.2, S x) := by
            intro p hp x hx
            obtain ⟨D', hD', e⟩ := hlev.fr p hp
            rw [e] at hx
            obtain ⟨L, hL, hDL⟩ := List.mem_flatten.1 hD'
            obtain ⟨q, hq, rfl⟩ := List.mem_map.1 hL
            exact HSS.out D' (hnn.out q hq D' hDL) x hx
          clear hlev
          go_wp2_with fail
          exact ⟨⟨h + 1, m, ps2, by go_num, by omega, HLV2, HI2, HN2, HB3⟩, by simp [intOf]; omega⟩

theorem isExpr_c (k : Nat) (tx : ByteArray) (N : Nat) (pq : PX) (ka : Option Addr) (kl kc : Nat) (r : Bool) (w : World) (h : ∀ wx, Below w.heap.size w wx → Calls Tryz.prog 94 #[ndV k tx N pq ka kl kc, .int .i64 25, kidsN, fitsN] wx fun e w' => e = .returned (.bool r) ∧ Below wx.heap.size wx w') :
    Calls Tryz.prog 51 #[ndV k tx N pq ka kl kc] w fun e w' => e = .returned (.bool r) ∧ Below w.heap.size w w' := by
  have hb := bl_alloc w (ndO k tx N pq ka kl kc)
  have HC := hideP (h _ hb)
  have HB := hideP hb
  clear hb h
  go_enter Tryz.func51, Tryz.ntmps51
  go_wp2_with fail
  refine HC.out.mono ?_
  rintro e w1 ⟨rfl, hb1⟩
  have HB1 := hideP (below_next HB.out hb1)
  clear hb1
  go_wp2_with fail
  go_ret
  exact ⟨rfl, HB1.out⟩
end Go.Proofs.YtfjlkkohccihnabGreatDoor

/- tree.exprText by contracts: names, numbers below ten; what a closure over a node needs. -/
namespace Go.Proofs.YtfjlkkohccihnabGreatDoor
open Go.RowKit

/-- The text of a node, from here on. -/
def ExprIs (w : World) (k : Nat) (tx : ByteArray) (N : Nat) (pq : PX) (ka : Option Addr) (kl kc : Nat) (t : List UInt8) : Prop := ∀ wx, Below w.heap.size w wx → Calls Tryz.prog 52 #[ndV k tx N pq ka kl kc] wx fun e w' => (∃ s : ByteArray, e = .returned (.string s) ∧ s.data.toList = t ∧ s.size ≤ 1000) ∧ Below wx.heap.size wx w'

set_option maxHeartbeats 4000000 in
set_option maxRecDepth 100000 in
theorem expr_name (tx : ByteArray) (hs : tx.size ≤ 1000) (N : Nat) (pq : PX) (ka : Option Addr) (kl kc : Nat) (w : World) : ExprIs w 4 tx N pq ka kl kc tx.data.toList := by
  intro wx _
  go_enter Tryz.func52, Tryz.ntmps52
  go_wp2_with fail
  go_ret
  exact ⟨⟨_, rfl, rfl, hs⟩, bl_alloc _ _⟩

/-- A box that holds a node whose i-th Kid is shown so. -/
def KidIs (w : World) (ka : Option Addr) (kl i : Nat) (t : List UInt8) : Prop := i < kl ∧ kl ≤ 1000 ∧ ∃ b o k tx N pq la ll lc, ka = some ⟨b, o, none⟩ ∧ b < w.heap.size ∧ NCells w b (o + i * 8) k tx N pq la ll lc ∧ ExprIs w k tx N pq la ll lc t

theorem KidIs.below {w w' : World} {ka : Option Addr} {kl i : Nat} {t : List UInt8} (h : KidIs w ka kl i t) (hb : Below w.heap.size w w') : KidIs w' ka kl i t := by
  obtain ⟨h1, h2, b, o, k, tx, N, pq, la, ll, lc, e, hlt, q, hx⟩ := h
  exact ⟨h1, h2, b, o, k, tx, N, pq, la, ll, lc, e, Nat.lt_of_lt_of_le hlt hb.size, q.below hlt hb, fun wx hwx => hx wx (below_next hb hwx)⟩

set_option maxHeartbeats 4000000 in
theorem kidN_c (T k : Nat) (tx : ByteArray) (N : Nat) (pq : PX) (ka : Option Addr) (kl kc i : Nat) (t : List UInt8) (w : World) (hT : w.heap[T]? = some (ndO k tx N pq ka kl kc)) (h : KidIs w ka kl i t) :
    Calls Tryz.prog 97 #[.int .i64 i, .pointer (some ⟨T, 0, none⟩)] w fun e w' => (∃ s : ByteArray, e = .returned (.string s) ∧ s.data.toList = t ∧ s.size ≤ 1000) ∧ Below w.heap.size w w' := by
  obtain ⟨h1, h2, b, o, k', tx', N', pq', la, ll, lc, rfl, hlt, ⟨r0, r1, r2, r3, r4, r5, r6, r7⟩, hx⟩ := h
  obtain ⟨⟨x0, x1, x2, x3, x4, x5, x6, x7⟩, hltx⟩ := nd_facts hT
  simp only [Nat.zero_add] at x0 x1 x2 x3 x4 x5 x6 x7
  have hil : (i : Int) < (kl : Int) := by omega
  have HC := hideP (hx w (Below.refl _ _))
  clear hx hT
  go_enter Tryz.func97, Tryz.ntmps97
  go_wp2_with fail
  refine HC.out.mono ?_
  rintro e w' ⟨⟨s, rfl, hs, hz⟩, hb⟩
  have HS := hideP hs
  have HB := hideP hb
  clear hs hb
  go_wp2_with fail
  go_ret
  exact ⟨⟨_, rfl, HS.out, hz⟩, HB.out⟩

end Go.Proofs.YtfjlkkohccihnabGreatDoor

/- tree.exprText of an operation of two. -/
namespace Go.Proofs.YtfjlkkohccihnabGreatDoor
open Go.RowKit

set_option maxHeartbeats 4000000 in
set_option maxRecDepth 100000 in
theorem expr_op (tx : ByteArray) (N : Nat) (pq : PX) (ka : Option Addr) (kl kc : Nat) (t u : List UInt8) (w : World) (h0 : KidIs w ka kl 0 t) (h1 : KidIs w ka kl 1 u) (hl : t.length + u.length + tx.size ≤ 990) : ExprIs w 14 tx N pq ka kl kc (40 :: t ++ 32 :: tx.data.toList ++ 32 :: u ++ [41]) := by
  intro wx hwx
  have hb := bl_alloc wx (ndO 14 tx N pq ka kl kc)
  have hT : (wx.alloc (ndO 14 tx N pq ka kl kc)).heap[wx.heap.size]? = some (ndO 14 tx N pq ka kl kc) := heap_alloc_last _ _
  obtain ⟨W, hW⟩ : ∃ W, W = wx.alloc (ndO 14 tx N pq ka kl kc) := ⟨_, rfl⟩
  rw [← hW] at hb hT
  have HC0 : Hid (∀ wy, Below W.heap.size W wy → Calls Tryz.prog 97 #[.int .i64 0, .pointer (some ⟨wx.heap.size, 0, none⟩)] wy fun e w' => (∃ s : ByteArray, e = .returned (.string s) ∧ s.data.toList = t ∧ s.size ≤ 1000) ∧ Below W.heap.size W w') := fun wy hwy => (kidN_c wx.heap.size 14 tx N pq ka kl kc 0 t wy ((hwy.block _ (lt_of_block hT)).trans hT) (h0.below (below_next (below_next hwx hb) hwy))).mono fun e w' ⟨e1, e2⟩ => ⟨e1, below_next hwy e2⟩
  have HC1 : Hid (∀ wy, Below W.heap.size W wy → Calls Tryz.prog 97 #[.int .i64 1, .pointer (some ⟨wx.heap.size, 0, none⟩)] wy fun e w' => (∃ s : ByteArray, e = .returned (.string s) ∧ s.data.toList = u ∧ s.size ≤ 1000) ∧ Below W.heap.size W w') := fun wy hwy => (kidN_c wx.heap.size 14 tx N pq ka kl kc 1 u wy ((hwy.block _ (lt_of_block hT)).trans hT) (h1.below (below_next (below_next hwx hb) hwy))).mono fun e w' ⟨e1, e2⟩ => ⟨e1, below_next hwy e2⟩
  have HCELL : Hid (∀ wy, Below W.heap.size W wy → wy.cell? ⟨wx.heap.size, 1, none⟩ = some (.string tx)) := fun wy hwy => by
    have := (nd_facts ((hwy.block _ (lt_of_block hT)).trans hT)).1.2.1
    simpa using this
  have hS0 := HCELL.out W.drew (Below.refl _ _).drew
  have HB := hideP hb
  have HL := hideP hl
  have htx : tx.size ≤ 990 := by omega
  subst hW
  clear hb hT h0 h1 hwx hl
  go_enter Tryz.func52, Tryz.ntmps52
  go_wp2_with fail
  go_region_held (fun W => W.cell? ⟨wx.heap.size, 1, none⟩ = some (.string tx)) (assumption) (first
    | (go_at_call 97; refine (HC0.out _ (by first | exact Below.refl _ _ | exact below_drewN (Below.refl _ _) _ | exact (Below.refl _ _).drew)).mono ?_; rintro e w1 ⟨⟨s0, rfl, hs0, hz0⟩, hb1⟩; have t0 := HCELL.out _ hb1; have HS0 := hideP hs0; have HB1 := hideP hb1; have v1 : ¬ 9223372036854775807 < 1 + s0.size := (by omega); have v2 : ¬ 9223372036854775807 < 1 + s0.size + 1 := (by omega); have v3 : ¬ 9223372036854775807 < 1 + s0.size + 1 + tx.size := (by omega); have v4 : ¬ 9223372036854775807 < 1 + s0.size + 1 + tx.size + 1 := (by omega); clear hs0 hb1)
    | (go_at_call 97; refine (HC1.out _ (by first | exact HB1.out | exact below_drewN HB1.out _ | exact HB1.out.drew)).mono ?_; rintro e w2 ⟨⟨s1, rfl, hs1, hz1⟩, hb2⟩; have t1 := HCELL.out _ hb2; have HS1 := hideP hs1; have HB2 := hideP hb2; have v5 : ¬ 9223372036854775807 < 1 + s0.size + 1 + tx.size + 1 + s1.size := (by omega); have v6 : ¬ 9223372036854775807 < 1 + s0.size + 1 + tx.size + 1 + s1.size + 1 := (by omega); clear hs1 hb2))
  all_goals go_wp2_with fail
  all_goals go_ret
  all_goals refine ⟨⟨_, rfl, ?_, ?_⟩, below_next HB.out HB2.out⟩
  · rw [← HS0.out, ← HS1.out]
    simp [ByteArray.data_append]
  · have h1 : s0.size = t.length := by rw [← HS0.out]; rfl
    have h2 : s1.size = u.length := by rw [← HS1.out]; rfl
    have := HL.out
    simp [ByteArray.size_append]
    have h3 : (⟨#[40]⟩ : ByteArray).size = 1 := rfl
    have h4 : (⟨#[41]⟩ : ByteArray).size = 1 := rfl
    have h5 : (⟨#[32]⟩ : ByteArray).size = 1 := rfl
    omega

end Go.Proofs.YtfjlkkohccihnabGreatDoor

/- Names and operations of two: that they fit, and their texts. -/
namespace Go.Proofs.YtfjlkkohccihnabGreatDoor
open Go.RowKit

/-- Names, and operations of two of these, at most n deep. -/
def NamesOps : Nat → Ty → Prop
  | 0, _ => False
  | n + 1, D => (∃ s, D = mkN 4 s 0 [] ∧ nameV s = true ∧ s.length ≤ 100) ∨ ∃ o x y, D = mkN 14 o 0 [x, y] ∧ opsV.contains o = true ∧ o.length ≤ 100 ∧ NamesOps n x ∧ NamesOps n y
def SetN (D : Ty) : Prop := ∃ n, NamesOps n D

theorem mkN_inj {k k' : Nat} {a b : List UInt8} {N N' : Nat} {ks ks' : List Ty} (h : mkN k a N ks = mkN k' b N' ks') : k = k' ∧ a = b ∧ N = N' ∧ ks = ks' := by
  obtain ⟨h1, h2, h3, h4⟩ := mkT_inj h
  have := congrArg List.length h3
  simp at this
  exact ⟨by omega, h2, this, h4⟩

theorem setN_kids (D : Ty) (h : SetN D) : ∀ x ∈ kidsT D, SetN x := by
  intro x hx
  obtain ⟨n, h⟩ := h
  cases n with
  | zero => exact h.elim
  | succ n =>
    rcases h with ⟨s, rfl, _⟩ | ⟨o, y, z, rfl, _, _, hy, hz⟩
    · rw [mkN, kids_mk] at hx; cases hx
    · rw [mkN, kids_mk] at hx
      simp at hx
      rcases hx with rfl | rfl
      · exact ⟨n, hy⟩
      · exact ⟨n, hz⟩

theorem strB_of {tx : ByteArray} {a : List UInt8} (h : tx.data.toList = a) : tx = ⟨a.toArray⟩ := by cases tx; cases h; rfl

theorem nd_parts {w : World} {n k : Nat} {tx : ByteArray} {N : Nat} {pq : PX} {ka : Option Addr} {kl kc : Nat} {k' : Nat} {a : List UInt8} {N' : Nat} {ks : List Ty} (h : NdAt w n k tx N pq ka kl kc (mkN k' a N' ks)) : k = k' ∧ tx = ⟨a.toArray⟩ ∧ N = N' ∧ kl = ks.length := by
  cases n with
  | zero => exact h.elim
  | succ n =>
    obtain ⟨ks', e1, e2, _⟩ := h
    obtain ⟨h1, h2, h3, h4⟩ := mkN_inj e2
    exact ⟨h1.symm, strB_of h2.symm, h3.symm, by rw [e1, h4]⟩

theorem fit_all (w : World) (hf : FormsN w) (hw : Words w) (ho : OpsN w) : NFit w SetN fun _ => true := by
  intro n k tx N pq ka kl kc D wx hwx hS hD
  obtain ⟨m, hS⟩ := hS
  cases m with
  | zero => exact hS.elim
  | succ m =>
    rcases hS with ⟨s, rfl, hs, hl⟩ | ⟨o, y, z, rfl, hs, hl, _, _⟩
    · obtain ⟨rfl, rfl, rfl, rfl⟩ := nd_parts hD
      exact fitsN_one 4 _ 0 pq ka 0 kc true wx (by decide) (hf.below hwx) (by decide) rfl (by decide) (by decide) rfl (by decide) (by decide) fun wy hwy => by
        have := text_name ⟨s.toArray⟩ (by show s.length ≤ 1000; omega) wy ((hw.below hwx).below hwy)
        rw [show nameV (⟨s.toArray⟩ : ByteArray).data.toList = true from hs] at this
        exact this
    · obtain ⟨rfl, rfl, rfl, rfl⟩ := nd_parts hD
      exact fitsN_one 14 _ 0 pq ka 2 kc true wx (by decide) (hf.below hwx) (by decide) rfl (by decide) (by decide) rfl (by decide) (by decide) fun wy hwy => by
        have := text_op ⟨o.toArray⟩ wy ((ho.below hwx).below hwy)
        rw [show opsV.contains (⟨o.toArray⟩ : ByteArray).data.toList = true from hs] at this
        exact this

/-- What tree.Expr leaves. -/
def TxPost (w : World) (t : List UInt8) (e : Ending) (w' : World) : Prop := (∃ s : ByteArray, e = .returned (.string s) ∧ s.data.toList = t) ∧ Below w.heap.size w w'

set_option maxHeartbeats 4000000 in
theorem trExpr_c (k : Nat) (tx : ByteArray) (N : Nat) (pq : PX) (ka : Option Addr) (kl kc : Nat) (t : List UInt8) (w : World) (h : ∀ wx, Below w.heap.size w wx → Calls Tryz.prog 51 #[ndV k tx N pq ka kl kc] wx fun e w' => e = .returned (.bool true) ∧ Below wx.heap.size wx w') (hx : ExprIs w k tx N pq ka kl kc t) :
    Calls Tryz.prog 21 #[ndV k tx N pq ka kl kc] w (TxPost w t) := by
  have hb := bl_alloc w (ndO k tx N pq ka kl kc)
  have HBX : Hid ((w.alloc (ndO k tx N pq ka kl kc)).heap[w.heap.size]? = some (ndO k tx N pq ka kl kc)) := heap_alloc_last w _
  have HC := hideP (h _ hb)
  have HX := hideP hx
  have HB := hideP hb
  clear hb h hx
  go_enter Tryz.func21, Tryz.ntmps21
  go_wp2_with fail
  refine HC.out.mono ?_
  rintro e w1 ⟨rfl, hb1⟩
  have hb2 := below_next HB.out hb1
  obtain ⟨⟨x0, x1, x2, x3, x4, x5, x6, x7⟩, hltx⟩ := nd_facts ((hb1.block _ (lt_of_block HBX.out)).trans HBX.out)
  simp only [Nat.zero_add] at x0 x1 x2 x3 x4 x5 x6 x7
  have HC2 := hideP (HX.out _ hb2)
  have HB2 := hideP hb2
  clear hb1 hb2
  go_wp2_with fail
  refine HC2.out.mono ?_
  rintro e w2 ⟨⟨s, rfl, hs, _⟩, hb3⟩
  have HS := hideP hs
  have HB3 := hideP (below_next HB2.out hb3)
  clear hs hb3
  go_wp2_with fail
  go_ret
  exact ⟨⟨_, rfl, HS.out⟩, HB3.out⟩

/-- All that is asked of memory. -/
structure Base (w : World) : Prop where
  ff : FormsN w
  ww : Words w
  oo : OpsN w

theorem Base.below {w w' : World} (h : Base w) (hb : Below w.heap.size w w') : Base w' := ⟨h.ff.below hb, h.ww.below hb, h.oo.below hb⟩

theorem isN {w : World} (hB : Base w) {n k : Nat} {tx : ByteArray} {N : Nat} {pq : PX} {ka : Option Addr} {kl kc : Nat} {D : Ty} (hD : SetN D) (h : NdAt w (n + 1) k tx N pq ka kl kc D) (hs : sizeT (n + 1) D ≤ 1000) (hh : heightT (n + 1) D ≤ 25) : ∀ wx, Below w.heap.size w wx → Calls Tryz.prog 51 #[ndV k tx N pq ka kl kc] wx fun e w' => e = .returned (.bool true) ∧ Below wx.heap.size wx w' := fun wx hwx =>
  isExpr_c k tx N pq ka kl kc true wx fun wy hwy => everyN_c n k tx N pq ka kl kc D SetN (fun _ => true) wy (nd_below (nd_below h hwx) hwy) hs hh hD setN_kids (fun _ _ => rfl) (fit_all wy ((hB.below hwx).below hwy).ff ((hB.below hwx).below hwy).ww ((hB.below hwx).below hwy).oo)

theorem kid_is {w : World} {n : Nat} {ka : Option Addr} {ks : List Ty} {i : Nat} {t : List UInt8} (h : NKids w n ka ks) (hi : i < ks.length) (hl : ks.length ≤ 1000) (ht : ∀ k tx N pq la ll lc, NdAt w n k tx N pq la ll lc ks[i] → ExprIs w k tx N pq la ll lc t) : KidIs w ka ks.length i t := by
  obtain ⟨b, o, k, tx, N, pq, la, ll, lc, e, hlt, q, hd⟩ := nkid_at h hi
  exact ⟨hi, hl, b, o, k, tx, N, pq, la, ll, lc, e, hlt, q, ht k tx N pq la ll lc hd⟩

/-- The text of names and operations. -/
def textN : Nat → Ty → List UInt8
  | 0, _ => []
  | n + 1, D => match kidsT D with
    | [x, y] => 40 :: textN n x ++ 32 :: nameT D ++ 32 :: textN n y ++ [41]
    | _ => nameT D

theorem textN_op (n : Nat) (o : List UInt8) (x y : Ty) : textN (n + 1) (mkN 14 o 0 [x, y]) = 40 :: textN n x ++ 32 :: o ++ 32 :: textN n y ++ [41] := rfl

theorem texts_is {w : World} : ∀ (n m k : Nat) (tx : ByteArray) (N : Nat) (pq : PX) (ka : Option Addr) (kl kc : Nat) (D : Ty), NamesOps m D → m ≤ n → NdAt w n k tx N pq ka kl kc D → (textN m D).length ≤ 900 → ExprIs w k tx N pq ka kl kc (textN m D)
  | 0, m, _, _, _, _, _, _, _, _, hS, hm, _, _ => by
    obtain rfl : m = 0 := by omega
    exact hS.elim
  | n + 1, 0, _, _, _, _, _, _, _, _, hS, _, _, _ => hS.elim
  | n + 1, m + 1, k, tx, N, pq, ka, kl, kc, D, hS, hm, hD, hl => by
    rcases hS with ⟨s, rfl, hs, hl⟩ | ⟨o, y, z, rfl, hs, hlo, hy, hz⟩
    · obtain ⟨rfl, rfl, rfl, rfl⟩ := nd_parts hD
      exact expr_name ⟨s.toArray⟩ (by show s.length ≤ 1000; omega) 0 pq ka 0 kc w
    · have hp := nd_parts hD
      obtain ⟨rfl, rfl, rfl, rfl⟩ := hp
      obtain ⟨ks', e1, e2, _, _, _, _, _, hr⟩ := hD
      obtain ⟨_, _, _, h4⟩ := mkN_inj e2
      subst h4
      rw [textN_op] at hl ⊢
      simp only [List.length_append, List.length_cons, List.length_nil] at hl
      have h0 := kid_is (i := 0) hr (by simp) (by simp) fun k tx N pq la ll lc h => texts_is n m k tx N pq la ll lc y hy (by omega) h (by omega)
      have h1 := kid_is (i := 1) hr (by simp) (by simp) fun k tx N pq la ll lc h => texts_is n m k tx N pq la ll lc z hz (by omega) h (by omega)
      exact expr_op ⟨o.toArray⟩ 0 pq ka 2 kc (textN m y) (textN m z) w h0 h1 (by show _ + _ + o.length ≤ _; omega)

/-- tree.Expr of names and operations. -/
theorem names_expr {w : World} (hB : Base w) {n m k : Nat} {tx : ByteArray} {N : Nat} {pq : PX} {ka : Option Addr} {kl kc : Nat} {D : Ty} (hS : NamesOps m D) (hm : m ≤ n + 1) (h : NdAt w (n + 1) k tx N pq ka kl kc D) (hs : sizeT (n + 1) D ≤ 1000) (hh : heightT (n + 1) D ≤ 25) (hl : (textN m D).length ≤ 900) :
    Calls Tryz.prog 21 #[ndV k tx N pq ka kl kc] w (TxPost w (textN m D)) :=
  trExpr_c k tx N pq ka kl kc _ w (isN hB ⟨m, hS⟩ h hs hh) (texts_is (n + 1) m k tx N pq ka kl kc D hS hm h hl)
end Go.Proofs.YtfjlkkohccihnabGreatDoor
