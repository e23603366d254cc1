/- Part. -/
import Derived.Test.YtlhmofphpfdjlaaGreatDoorPart7
set_option maxRecDepth 100000
set_option maxHeartbeats 4000000
/- tree.allOf over nodes, by contracts. -/
namespace Go.Proofs.YtlhmofphpfdjlaaGreatDoor
open Go.Proofs.Tryz
open Go.RowKit
abbrev fitsN : Value := .func (.func 39) #[] #[]
abbrev kidsN : Value := .func (.func 38) #[] #[]
abbrev partsN (b : Nat) : Value := .func (.func 69) #[] #[.pointer (some ⟨b, 0, none⟩)]
/-- nodeFits answers so, of these nodes. -/
def NFit (w : World) (S : Ty -> Prop) (fb : Ty -> Bool) : Prop := ∀ (n k : Nat) (tx : ByteArray) (N : Nat) (pq : PX) (ka : Option Addr) (kl kc : Nat) (D : Ty) (wx : World), Below w.heap.size w wx -> S D -> NdAt wx n k tx N pq ka kl kc D -> Calls prog 39 #[ndV k tx N pq ka kl kc] wx fun e w' => e = .returned (.bool (fb D)) /\ Below wx.heap.size wx w'
theorem all_take {fb : Ty -> Bool} {ks : List Ty} {j : Nat} (hj : j < ks.length) (h : (ks.take j).all fb = true) (hb : fb ks[j] = true) : (ks.take (j + 1)).all fb = true := by
  rw [List.take_succ_eq_append_getElem hj, List.all_append, h]
  simp [hb]
theorem all_no {α : Type} {fb : α -> Bool} {ks : List α} {j : Nat} (hj : j < ks.length) (hb : fb ks[j] = false) : ks.all fb = false := by
  rw [List.all_eq_false]
  exact ⟨ks[j], List.getElem_mem hj, by rw [hb]; decide⟩
theorem allNodes_c (n : Nat) (S : Ty -> Prop) (fb : Ty -> Bool) (ka : Option Addr) (kc : Nat) (ks : List Ty) (w : World) (hF : NFit w S fb) (h : NKids w n ka ks) (hl : ks.length <= 140737488351232) (hs : ∀ x ∈ ks, S x) :
    Calls prog 70 #[.slice ka ks.length kc, fitsN] w fun e w' => e = .returned (.bool (ks.all fb)) /\ Below w.heap.size w w' := by
  have HK := hideP h
  have HF := hideP hF
  have HS := hideP hs
  obtain ⟨q, hq⟩ : ∃ q, q = ks.all fb := ⟨_, rfl⟩
  rw [<- hq]
  have HQ := hideP hq
  clear h hF hs hq
  go_enter func70, ntmps70
  go_wp2_with fail
  go_loopw [9] (fun i wx => ∃ j : Nat, i = .int .i64 j /\ j <= ks.length /\ Hid ((ks.take j).all fb = true) /\ Hid (Below w.heap.size w wx)) (fun i _ => ks.length - (intOf i).toNat)
  case atStart => exact ⟨0, rfl, Nat.zero_le _, show _ = _ by simp, Below.refl _ _⟩
  case round =>
    obtain ⟨j, rfl, hj, hall, hbl⟩ := hrel
    by_cases hlt : j < ks.length
    · have hjl : (j : Int) < (ks.length : Int) := by omega
      obtain ⟨b, o, k, tx, N, pq, la, ll, lc, rfl, hb1, qc, ht⟩ := nkid_at HK.out hlt
      obtain ⟨r0, r1, r2, r3, r4, r5, r6, r7⟩ := qc.below hb1 hbl.out
      have hb2 := below_next hbl.out (bl_alloc wr (ndO k tx N pq la ll lc))
      have HC := hideP (HF.out n k tx N pq la ll lc _ _ hb2 (HS.out _ (List.getElem_mem hlt)) (nd_below ht hb2))
      have HB2 := hideP hb2
      clear ht hb2
      cases hfb : fb ks[j]
      · rw [hfb] at HC
        obtain rfl : q = false := by rw [HQ.out]; exact all_no hlt hfb
        clear hfb
        go_wp2_with fail
        refine HC.out.mono ?_
        rintro e w' ⟨rfl, hb'⟩
        have HB3 := hideP (below_next HB2.out hb')
        clear hb'
        go_wp2_with fail
        go_ret
        exact ⟨rfl, HB3.out⟩
      · rw [hfb] at HC
        have HA := hideP (all_take hlt hall.out hfb)
        clear hfb
        go_wp2_with fail
        refine HC.out.mono ?_
        rintro e w' ⟨rfl, hb'⟩
        have HB3 := hideP (below_next HB2.out hb')
        clear hb'
        go_wp2_with fail
        exact ⟨⟨j + 1, by go_num, by omega, HA, HB3⟩, by simp [intOf]; omega⟩
    · have hjl : ¬ (j : Int) < (ks.length : Int) := by omega
      obtain rfl : q = true := by
        rw [HQ.out]
        have := hall.out
        rw [List.take_of_length_le (by omega)] at this
        exact this
      go_wp2_with fail
      go_ret
      exact ⟨rfl, hbl.out⟩
theorem kidsOfN_c (k : Nat) (tx : ByteArray) (N : Nat) (pq : PX) (ka : Option Addr) (kl kc : Nat) (w : World) :
    Calls prog 38 #[ndV k tx N pq ka kl kc] w fun e w' => e = .returned (.slice ka kl kc) /\ w' = w.alloc (ndO k tx N pq ka kl kc) := by
  go_enter func38, ntmps38
  go_wp2_with fail
  go_ret
  exact ⟨rfl, rfl⟩
theorem partsOfN_c (n b : Nat) (S : Ty -> Prop) (fb : Ty -> Bool) (ka : Option Addr) (kc : Nat) (ks : List Ty) (w : World) (hx : w.cell? ⟨b, 0, none⟩ = some fitsN) (hF : NFit w S fb) (h : NKids w n ka ks) (hl : ks.length <= 140737488351232) (hs : ∀ x ∈ ks, S x) :
    Calls prog 69 #[.slice ka ks.length kc, .pointer (some ⟨b, 0, none⟩)] w fun e w' => e = .returned (.bool (ks.all fb)) /\ Below w.heap.size w w' := by
  have HC := hideP (allNodes_c n S fb ka kc ks w hF h hl hs)
  clear h hF hs
  generalize ks.all fb = q at HC
  go_enter func69, ntmps69
  go_wp2_with fail
  refine HC.out.mono ?_
  rintro e w' ⟨rfl, hb⟩
  have HB := hideP hb
  clear hb
  go_wp2_with fail
  go_ret
  exact ⟨rfl, HB.out⟩
theorem allListsN_c (n b : Nat) (S : Ty -> Prop) (fb : Ty -> Bool) (a : Option Addr) (c : Nat) (qs : List (Value × List Ty)) (w : World) (hx : w.cell? ⟨b, 0, none⟩ = some fitsN) (hF : NFit w S fb) (hr : RowAt w a (qs.map (·.1))) (hq : ∀ q ∈ qs, NLst w true n q.1 q.2) (hl : qs.length <= 140737488351232) (hs : ∀ q ∈ qs, ∀ x ∈ q.2, S x) :
    Calls prog 68 #[.slice a qs.length c, partsN b] w fun e w' => e = .returned (.bool (qs.all fun q => q.2.all fb)) /\ Below w.heap.size w w' := by
  have HR := hideP hr
  have HQ := hideP hq
  have HS := hideP hs
  have HF := hideP hF
  have HX := hideP hx
  obtain ⟨r, hre⟩ : ∃ r, r = qs.all fun q => q.2.all fb := ⟨_, rfl⟩
  rw [<- hre]
  have HRE := hideP hre
  clear hr hq hs hF hx hre
  go_enter func68, ntmps68
  go_wp2_with fail
  go_loopw [9] (fun i wx => ∃ j : Nat, i = .int .i64 j /\ j <= qs.length /\ Hid (∀ q ∈ qs.take j, q.2.all fb = true) /\ Hid (Below w.heap.size w wx)) (fun i _ => qs.length - (intOf i).toNat)
  case atStart => exact ⟨0, rfl, Nat.zero_le _, fun q h => by simp at h, Below.refl _ _⟩
  case round =>
    obtain ⟨j, rfl, hj, hall, hbl⟩ := hrel
    by_cases hlt : j < qs.length
    · have hjl : (j : Int) < (qs.length : Int) := by omega
      have hr0 : ∃ b o, a = some ⟨b, o, none⟩ /\ b < w.heap.size /\ w.cell? ⟨b, o + j, none⟩ = some qs[j].1 := by
        rcases HR.out with h0 | ⟨b, o, e, hb, hc⟩
        · have := congrArg List.length h0
          rw [List.length_map, List.length_nil] at this
          omega
        · have := hc j (by simpa using hlt)
          rw [List.getElem_map] at this
          exact ⟨b, o, e, hb, this⟩
      obtain ⟨b0, o0, rfl, hb0, hcj⟩ := hr0
      obtain ⟨b1, o1, c1, e1, _, hll, hkids⟩ := HQ.out qs[j] (List.getElem_mem hlt)
      rw [e1] at hcj
      have hcr := (hbl.out.cell (p := ⟨b0, o0 + j, none⟩) hb0).trans hcj
      have hxr := (hbl.out.cell (p := ⟨b, 0, none⟩) (World.block_lt_of_cell? w _ HX.out)).trans HX.out
      have HC := hideP (partsOfN_c n b S fb (some ⟨b1, o1, none⟩) c1 qs[j].2 wr hxr (fun n k tx N pq ka kl kc D wx hwx => HF.out n k tx N pq ka kl kc D wx (below_next hbl.out hwx)) (nkids_below hkids hbl.out) hll (HS.out _ (List.getElem_mem hlt)))
      clear hcj e1 hll hkids hxr
      cases hfb : qs[j].2.all fb
      · rw [hfb] at HC
        obtain rfl : r = false := by rw [HRE.out]; exact all_no (fb := fun q : Value × List Ty => q.2.all fb) hlt hfb
        clear hfb
        go_wp2_with fail
        refine HC.out.mono ?_
        rintro e w' ⟨rfl, hb'⟩
        have HB3 := hideP (below_next hbl.out hb')
        clear hb'
        go_wp2_with fail
        go_ret
        exact ⟨rfl, HB3.out⟩
      · rw [hfb] at HC
        have HA : Hid (∀ q ∈ qs.take (j + 1), q.2.all fb = true) := fun q hq => by
          rw [List.take_succ_eq_append_getElem hlt, List.mem_append] at hq
          rcases hq with hq | hq
          · exact hall.out q hq
          · rw [List.mem_singleton.1 hq]
            exact hfb
        clear hfb
        go_wp2_with fail
        refine HC.out.mono ?_
        rintro e w' ⟨rfl, hb'⟩
        have HB3 := hideP (below_next hbl.out hb')
        clear hb'
        go_wp2_with fail
        exact ⟨⟨j + 1, by go_num, by omega, HA, HB3⟩, by simp [intOf]; omega⟩
    · have hjl : ¬ (j : Int) < (qs.length : Int) := by omega
      obtain rfl : r = true := by
        rw [HRE.out, List.all_eq_true]
        have := hall.out
        rw [List.take_of_length_le (by omega)] at this
        exact this
      go_wp2_with fail
      go_ret
      exact ⟨rfl, hbl.out⟩
end Go.Proofs.YtlhmofphpfdjlaaGreatDoor
/- The keys by which tree.nextLevel tells lists from one another: as those of types. -/
namespace Go.Proofs.YtlhmofphpfdjlaaGreatDoor
open Go.Proofs.Tryz
open Go.RowKit
theorem partN_ptr (xs : Array Value) (w : World) (a : Addr) (h : xs[0]? = some (.pointer (some a))) : (part 149 xs 0).run prog w = .ok (.pointer (some a)) w := by
  simp [part, isAgg, run_underlying underlying149, h]
theorem runN_eq_ptr (d : Nat) (w : World) (a b : Addr) : (Op.equalIn (d + 1) 149 (.pointer (some a)) (.pointer (some b))).run prog w = (sameAddr a b).run prog w := by
  simp [Op.equalIn, run_underlying underlying149]
theorem stretchN_fields : prog.underlying 151 = some (.struct (prog.fieldsOf 151)) := by kernel_rfl
theorem stretchN_held : prog.stoodInHeld 151 = false := by kernel_rfl
theorem run_eq_stretchN (d : Nat) {w : World} {a b : Addr} {m l : Nat} (ha : GoodA w a) (hb : GoodA w b) :
    ∃ r n, (Op.equalIn (d + 2) 151 (keyV a m) (keyV b l)).run prog w = .ok r (w.drewN n) /\ ((a = b /\ m = l) -> r = true) /\ (PlainA w a -> PlainA w b -> (r = true -> a = b /\ m = l)) := by
  obtain ⟨r, n, h, h1, h2⟩ := run_sameAddr_any (P := prog) ha hb
  unfold keyV
  rw [run_equalIn_struct _ _ _ _ _ stretchN_fields stretchN_held]
  simp only [Program.fieldsOf, underlying151, Op.eqFields, ne_eq]
  simp only [show ¬ ("first" = "_") by decide, show ¬ ("length" = "_") by decide, not_false_eq_true, if_true, Sem.run_bind]
  simp only [partN_ptr _ _ a (show (#[Value.pointer (some a), .int .i64 m] : Array Value)[0]? = _ from rfl), partN_ptr _ _ b (show (#[Value.pointer (some b), .int .i64 l] : Array Value)[0]? = _ from rfl), Result.andThen_ok, runN_eq_ptr, h]
  cases r
  · refine ⟨false, n, by simp, fun e => ?_, fun _ _ e => by cases e⟩
    exact absurd (h1 e.1) (by decide)
  · refine ⟨m == l, n, ?_, fun e => by simp [e.2], fun p1 p2 e => ⟨h2 p1 p2 rfl, by simpa using e⟩⟩
    simp [part_len _ _ m (show (#[Value.pointer (some a), .int .i64 m] : Array Value)[1]? = _ from rfl), part_len _ _ l (show (#[Value.pointer (some b), .int .i64 l] : Array Value)[1]? = _ from rfl), run_eq_int]
    by_cases hml : m = l <;> simp [hml]
theorem stretchN_ok : KeyOK 151 GoodK PlainK where
  eq w x y hx hy := by
    obtain ⟨a, m, rfl, ha⟩ := hx
    obtain ⟨b, l, rfl, hb⟩ := hy
    obtain ⟨r, n, h, h1, h2⟩ := run_eq_stretchN 9998 (m := m) (l := l) ha hb
    refine ⟨r, n, h, fun e => h1 (keyV_inj e), fun p1 p2 e => ?_⟩
    obtain ⟨a', m', e1, p1⟩ := p1
    obtain ⟨b', l', e2, p2⟩ := p2
    obtain ⟨rfl, rfl⟩ := keyV_inj e1
    obtain ⟨rfl, rfl⟩ := keyV_inj e2
    obtain ⟨rfl, rfl⟩ := h2 p1 p2 e
    rfl
  check w em x hx := by
    obtain ⟨a, m, rfl, ha⟩ := hx
    kernel_rfl
  drew w n x hx := hx
  drewP w n x hx := hx
  now w x y hx := by
    obtain ⟨a, m, rfl, ha⟩ := hx
    exact ⟨_, underlying151, rfl⟩
end Go.Proofs.YtlhmofphpfdjlaaGreatDoor
/- tree.nextLevel over nodes, by a contract. -/
namespace Go.Proofs.YtlhmofphpfdjlaaGreatDoor
open Go.Proofs.Tryz
open Go.RowKit
theorem info_lstN : (prog.info? 25).map (fun i => (i.zero, i.size, i.bytes)) = some (some (.slice none 0 0), 1, 24) := by kernel_rfl
theorem ownN_up {w0 wr w1 : World} {u : Bool} {n : Nat} {v : Value} {done : List Ty} {ps : List (Value × List Ty)} {vs : List Value} (h : NLev w0 wr u n v done ps vs) (hg : wr.grownBy w1 (some w0.heap.size)) : w1.ownsRow (w0.heap.size + 1) 25 1 v ps.length (ps.map (·.1)) :=
  h.ow.kept hg (.inr fun e => by have := (h.ow.lt _ e).1; omega)
/-- What nextLevel leaves. -/
def NextPostN (w : World) (u : Bool) (n : Nat) (Ds : List Ty) (e : Ending) (w' : World) : Prop :=
  ∃ v ps vs, e = .returned v /\ NLev w w' u n v Ds ps vs
theorem trNextN_c (u : Bool) (n : Nat) (qs : List (Value × List Ty)) (a : Option Addr) (c : Nat) (w : World) (hr : RowAt w a (qs.map (·.1))) (hq : ∀ q ∈ qs, NLst w u (n + 1) q.1 q.2) (ht : totL (n + 1) qs <= 1000) :
    Calls prog 71 #[.slice a qs.length c, kidsN] w (NextPostN w u n (qs.map (·.2)).flatten) := by
  have hql : qs.length <= 1000 := Nat.le_trans (ntot_len hq) ht
  obtain ⟨i0, hi, hz0, hz1, hz2⟩ := info_parts info_lstN
  have hmm := @run_makeMap prog
  have HR := hideP hr
  have HQ := hideP hq
  have HTT := hideP ht
  clear hr hq ht
  go_enter func71, ntmps71
  go_wp2_with fail
  go_loopw [5, 18] (fun v i wr => ∃ (j : Nat) (ps : List (Value × List Ty)) (vs : List Value), i = .int .i64 j /\ j <= qs.length /\ Hid (NLev w wr u n v ((qs.map (·.2)).take j).flatten ps vs)) (fun _ i _ => qs.length - (intOf i).toNat)
  case atStart =>
    refine ⟨0, [], [], rfl, Nat.zero_le _, ?_⟩
    refine ⟨bl_alloc _ _, set_made w, World.ownsRow_nil .., by simp, by simp, by simp, ?_, ?_⟩
    · simp [totL]
    · simp
  case round =>
    obtain ⟨j, ps, vs, rfl, hj, hL⟩ := hrel
    by_cases hlt : j < qs.length
    · have hjl : (j : Int) < (qs.length : Int) := by omega
      have hr0 : ∃ b o, a = some ⟨b, o, none⟩ /\ b < w.heap.size /\ w.cell? ⟨b, o + j, none⟩ = some qs[j].1 := by
        rcases HR.out with h0 | ⟨b, o, e, hb, hc⟩
        · have := congrArg List.length h0
          rw [List.length_map, List.length_nil] at this
          omega
        · have := hc j (by simpa using hlt)
          rw [List.getElem_map] at this
          exact ⟨b, o, e, hb, this⟩
      obtain ⟨b, o, rfl, hbl, hcj⟩ := hr0
      have hls := HQ.out qs[j] (List.getElem_mem hlt)
      obtain ⟨b1, o1, c1, e1, hne, hll, hkids⟩ := hls
      have hll' : qs[j].2.length <= 140737488351232 := hll
      rw [e1] at hcj
      have hcr := (hL.out.bl.cell (p := ⟨b, o + j, none⟩) hbl).trans hcj
      obtain ⟨Ds, hDs⟩ : ∃ Ds, Ds = qs[j].2 := ⟨_, rfl⟩
      rw [<- hDs] at hcr hll' hkids hne
      have hDM : Hid (Ds = qs[j].2) := hDs
      have HK := hideP hkids
      have HNE := hideP hne
      clear hcj e1 hkids hll hDs hne
      go_wp2_with fail
      go_loopw [5, 24] (fun v i wr => ∃ (k : Nat) (ps : List (Value × List Ty)) (vs : List Value), i = .int .i64 k /\ k <= Ds.length /\ Hid (NLev w wr u n v (((qs.map (·.2)).take j).flatten ++ Ds.take k) ps vs)) (fun _ i _ => Ds.length - (intOf i).toNat)
      case atStart => exact ⟨0, ps, vs, rfl, Nat.zero_le _, by simpa using hL⟩
      case round =>
        obtain ⟨k, ps, vs, rfl, hk, hL⟩ := hrel
        by_cases hkt : k < Ds.length
        · have hkl : (k : Int) < (Ds.length : Int) := by omega
          obtain ⟨_, _, k', tx', N', pq', la', ll', lc', e2, hbl1, qc, hty⟩ := nkid_at HK.out hkt
          injection e2 with e2
          injection e2 with e3 e4
          subst e3 e4
          obtain ⟨r0, r1, r2, r3, r4, r5, r6, r7⟩ := qc.below hbl1 hL.out.bl
          obtain ⟨ks', e5, e6, _, _, _, _, hkl', hk2⟩ := hty
          subst e5
          clear qc
          by_cases hz : ks' = []
          · subst hz
            clear HK HR HQ
            have hLn := hideP (((hL.out.grow (World.grownBy_alloc _ (ndO k' tx' N' pq' la' 0 lc') none)).grow (World.grownBy_alloc _ (ndO k' tx' N' pq' la' 0 lc') none)).skip (D := Ds[k]) (by rw [e6]; rfl))
            clear e6 hk2 hkl'
            go_wp2_with fail
            refine (kidsOfN_c _ _ _ _ _ _ _ _).mono ?_
            rintro e w1 ⟨rfl, rfl⟩
            go_wp2_with fail
            refine ⟨⟨k + 1, ps, vs, by go_num, by omega, ?_⟩, by simp [intOf]; omega⟩
            rw [List.take_succ_eq_append_getElem hkt, <- List.append_assoc]
            exact hLn.out
          · have hlst : NLst w u n (.slice la' ks'.length lc') (kidsT Ds[k]) := by
              rw [e6]
              rcases hk2 with h0 | ⟨b2, o2, rfl, h3⟩
              · exact absurd h0 hz
              · exact ⟨b2, o2, lc', rfl, hz, Nat.le_trans hkl' (by decide), .inr ⟨b2, o2, rfl, h3⟩⟩
            obtain ⟨b2, o2, _, e7, hbl2, hgood, hplain, _, _⟩ := hlst.good
            injection e7 with e7 e8 e9
            subst e7
            have hkl2 : ks'.length <= 140737488351232 := Nat.le_trans hkl' (by decide)
            have hk1 : 1 <= ks'.length := List.length_pos_iff.2 hz
            have hzk : ((ks'.length : Int) == 0) = false := by rw [beq_eq_false_iff_ne]; omega
            have HLST := hideP hlst
            have HGD := hideP ((((hgood.below hL.out.bl).below (bl_alloc wr (ndO k' tx' N' pq' (some ⟨b2, o2, none⟩) ks'.length lc'))).below (bl_alloc _ (ndO k' tx' N' pq' (some ⟨b2, o2, none⟩) ks'.length lc'))).below (bl_alloc _ (.cells #[.pointer (some ⟨b2, o2, none⟩), .int .i64 ks'.length] 151)))
            have HL1 := hideP (((hL.out.grow (World.grownBy_alloc _ (ndO k' tx' N' pq' (some ⟨b2, o2, none⟩) ks'.length lc') none)).grow (World.grownBy_alloc _ (ndO k' tx' N' pq' (some ⟨b2, o2, none⟩) ks'.length lc') none)).grow (World.grownBy_alloc _ (.cells #[.pointer (some ⟨b2, o2, none⟩), .int .i64 ks'.length] 151) none))
            clear e6 e8 e9 hk2 hkl' HK HR HQ hlst hgood hplain hz
            go_wp2_with fail
            refine (kidsOfN_c _ _ _ _ _ _ _ _).mono ?_
            rintro e w1 ⟨rfl, rfl⟩
            have htl : ps.length <= 1000 := by
              have h1 := ntot_len HL1.out.ls
              have h2 := HL1.out.tt
              have h3 : ((((qs.map (·.2)).take j).flatten ++ Ds.take k).map (sizeT (n + 1))).sum <= totL (n + 1) qs := by
                rw [hDM.out]
                exact done_le qs j k hlt
              have := HTT.out
              omega
            go_wp2_with (first | (at_lookup; refine wpList_set_look rfl _ _ 148 rfl stretchN_ok underlying148 unit_zero w.heap.size vs rfl HL1.out.st _ rfl ⟨_, _, rfl, HGD.out⟩ HL1.out.goodK ?_; intro r nd hno hyes; have HL2 := hideP ((HL1.out.grow (grown_drewN _ nd none)).grow (World.grownBy_alloc _ (.cells #[] 137) none)); have HGD2 := hideP ((HGD.out.drew nd).below (bl_alloc _ (.cells #[] 137))); have HYES := hideP hyes; clear hno hyes) | (at_mapUpdate; refine wpList_set_store rfl _ _ _ 148 rfl stretchN_ok underlying148 w.heap.size vs rfl HL2.out.st _ rfl rfl ⟨_, _, rfl, HGD2.out⟩ HL2.out.goodK ?_; intro w3 vs' hst hgr hsub hall; have HST := hideP hst; have HGR := hideP hgr; have HSUB := hideP hsub; have HOW := hideP (ownN_up HL2.out hgr); have hs3 : w.heap.size + 1 <= w3.heap.size := Nat.le_trans HL2.out.sz hgr.size; clear hst hgr hsub hall) | (at_builtin; refine wpList_append_own _ rfl (.tmp 50) (.tmp 52) 116 rfl (w.heap.size + 1) 25 i0 _ 1 24 underlying116 hi hz0 hz1 hz2 rfl (by decide) _ _ _ rfl (HOW.out.alloc _) ⟨_, 0, none⟩ 1 1 [.slice (some ⟨b2, o2, none⟩) ks'.length lc'] rfl rfl (one_new _ _ _) (by simp [Value.oneCell']) (by unfold maxLen; omega) (by omega) (by simp; omega) ?_; intro v' w4 hown' hgrow _; have HOWN := hideP hown'; have HGROW := hideP hgrow; clear hown' hgrow))
            · have HL5 := hideP (HL2.out.add (D := Ds[k]) HLST.out HST.out HGR.out HSUB.out HOWN.out HGROW.out)
              clear HL1 HGD HYES HL2 HGD2 HST HGR HSUB HOW HOWN HGROW
              refine ⟨⟨k + 1, ps ++ [(.slice (some ⟨b2, o2, none⟩) ks'.length lc', kidsT Ds[k])], vs', by go_num, by omega, ?_⟩, by simp [intOf]; omega⟩
              rw [List.take_succ_eq_append_getElem hkt, <- List.append_assoc]
              exact HL5.out
            · have hr : r = true := by cases r <;> simp_all
              have HL3 := hideP (((HL1.out.had (D := Ds[k]) HLST.out (HYES.out hr)).grow (grown_drewN _ nd none)).grow (World.grownBy_alloc _ (.cells #[] 137) none))
              clear HL1 HGD HYES HL2 HGD2
              refine ⟨⟨k + 1, ps, vs, by go_num, by omega, ?_⟩, by simp [intOf]; omega⟩
              rw [List.take_succ_eq_append_getElem hkt, <- List.append_assoc]
              exact HL3.out
        · have hkl : ¬ (k : Int) < (Ds.length : Int) := by omega
          clear HK HR HQ
          go_wp2_with fail
          refine ⟨⟨j + 1, ps, vs, by go_num, by omega, ?_⟩, by simp [intOf]; omega⟩
          rw [flat_take _ _ (by simpa using hlt), List.getElem_map]
          have := hL.out
          rw [List.take_of_length_le (l := Ds) (by omega), hDM.out] at this
          exact this
    · have hjl : ¬ (j : Int) < (qs.length : Int) := by omega
      clear HR HQ
      go_wp2_with fail
      go_ret
      have := hL.out
      rw [List.take_of_length_le (by simp; omega)] at this
      exact ⟨_, ps, vs, rfl, this⟩
end Go.Proofs.YtlhmofphpfdjlaaGreatDoor
/- types.Height by a contract. -/
namespace Go.Proofs.YtlhmofphpfdjlaaGreatDoor
open Go.Proofs.Tryz
open Go.RowKit
def hiL (n : Nat) (ps : List (Value × List Ty)) : Nat := maxL (ps.map fun p => maxL (p.2.map (heightT n)))
theorem lev_height {w0 wr : World} {n : Nat} {v : Value} {Ds : List Ty} {ps : List (Value × List Ty)} {vs : List Value} (h : Lev w0 wr true n v Ds ps vs) (hne : Ds ≠ []) : 1 + hiL n ps = maxL (Ds.map (heightT (n + 1))) := by
  apply Nat.le_antisymm
  · have h1 : hiL n ps <= maxL (Ds.map (heightT (n + 1))) - 1 := by
      refine maxL_le fun a ha => ?_
      obtain ⟨p, hp, rfl⟩ := List.mem_map.1 ha
      obtain ⟨D, hD, e⟩ := h.fr p hp
      have := le_maxL (List.mem_map.2 ⟨D, hD, rfl⟩ : heightT (n + 1) D ∈ Ds.map (heightT (n + 1)))
      rw [heightT] at this
      rw [e]
      omega
    obtain ⟨D, rest, e⟩ := List.exists_cons_of_ne_nil hne
    have h2 := le_maxL (List.mem_map.2 ⟨D, by rw [e]; simp, rfl⟩ : heightT (n + 1) D ∈ Ds.map (heightT (n + 1)))
    rw [heightT] at h2
    omega
  · refine maxL_le fun a ha => ?_
    obtain ⟨D, hD, rfl⟩ := List.mem_map.1 ha
    rw [heightT]
    by_cases hk : kidsT D = []
    · rw [hk]
      simp [maxL]
    · obtain ⟨p, hp, e⟩ := h.al rfl D hD hk
      have := le_maxL (List.mem_map.2 ⟨p, hp, rfl⟩ : maxL (p.2.map (heightT n)) ∈ ps.map fun p => maxL (p.2.map (heightT n)))
      rw [e] at this
      unfold hiL
      omega
theorem hiL_pos {w : World} {u : Bool} {n : Nat} {ps : List (Value × List Ty)} (h : ∀ p ∈ ps, LstAt w u n p.1 p.2) (hne : ps ≠ []) : 1 <= hiL n ps := by
  obtain ⟨p, rest, rfl⟩ := List.exists_cons_of_ne_nil hne
  obtain ⟨b, o, c, _, hne2, _, hk⟩ := h p (by simp)
  obtain ⟨D, ks, e⟩ := List.exists_cons_of_ne_nil hne2
  have hm : ∃ m, n = m + 1 := by
    rcases hk with hk | ⟨_, _, _, _, _, _, hc⟩
    · exact absurd hk hne2
    · obtain ⟨_, _, _, _, _, _, _, _, ht⟩ := hc 0 (List.length_pos_iff.2 hne2)
      cases n with
      | zero => exact ht.elim
      | succ m => exact ⟨m, rfl⟩
  obtain ⟨m, rfl⟩ := hm
  have h1 := le_maxL (List.mem_map.2 ⟨D, by rw [e]; simp, rfl⟩ : heightT (m + 1) D ∈ p.2.map (heightT (m + 1)))
  have h2 := le_maxL (List.mem_map.2 ⟨p, by simp, rfl⟩ : maxL (p.2.map (heightT (m + 1))) ∈ (p :: rest).map fun p => maxL (p.2.map (heightT (m + 1))))
  rw [heightT] at h1
  unfold hiL
  omega
theorem hiL_flat (n : Nat) (ps : List (Value × List Ty)) : hiL n ps = maxL ((ps.map (·.2)).flatten.map (heightT n)) := by
  apply Nat.le_antisymm
  · refine maxL_le fun a ha => ?_
    obtain ⟨p, hp, rfl⟩ := List.mem_map.1 ha
    refine maxL_le fun x hx => le_maxL ?_
    obtain ⟨D, hD, rfl⟩ := List.mem_map.1 hx
    exact List.mem_map.2 ⟨D, List.mem_flatten.2 ⟨p.2, List.mem_map.2 ⟨p, hp, rfl⟩, hD⟩, rfl⟩
  · refine maxL_le fun a ha => ?_
    obtain ⟨D, hD, rfl⟩ := List.mem_map.1 ha
    obtain ⟨L, hL, hD⟩ := List.mem_flatten.1 hD
    obtain ⟨p, hp, rfl⟩ := List.mem_map.1 hL
    exact Nat.le_trans (le_maxL (List.mem_map.2 ⟨D, hD, rfl⟩)) (le_maxL (List.mem_map.2 ⟨p, hp, rfl⟩ : maxL (p.2.map (heightT n)) ∈ ps.map fun p => maxL (p.2.map (heightT n))))
theorem tot_flat (n : Nat) (ps : List (Value × List Ty)) : ((ps.map (·.2)).flatten.map (sizeT n)).sum = totL n ps := by
  rw [sum_flat, List.map_map]
  rfl
theorem flat_ne {w : World} {u : Bool} {n : Nat} {ps : List (Value × List Ty)} (h : ∀ p ∈ ps, LstAt w u n p.1 p.2) (hne : ps ≠ []) : (ps.map (·.2)).flatten ≠ [] := by
  obtain ⟨p, rest, rfl⟩ := List.exists_cons_of_ne_nil hne
  obtain ⟨b, o, c, _, hne2, _, hk⟩ := h p (by simp)
  simp [hne2]
/-- A level in memory, as Height keeps it. -/
def LevelAt (w : World) (u : Bool) (m : Nat) (v : Value) (ps : List (Value × List Ty)) : Prop :=
  ∃ a c, v = .slice a ps.length c /\ RowAt w a (ps.map (·.1)) /\ (∀ p ∈ ps, LstAt w u m p.1 p.2) /\ totL m ps <= 1000
theorem level_of_lev {w0 wr : World} {u : Bool} {n : Nat} {v : Value} {Ds : List Ty} {ps : List (Value × List Ty)} {vs : List Value} (h : Lev w0 wr u n v Ds ps vs) (ht : (Ds.map (sizeT (n + 1))).sum <= 1000) : LevelAt wr u n v ps := by
  obtain ⟨a, c, e, hr, _⟩ := row_of_owns h.ow
  rw [List.length_map] at e
  exact ⟨a, c, e, hr, fun p hp => lst_below (h.ls p hp) h.bl, Nat.le_trans h.tt ht⟩
/-- The first level: one list of one type. -/
theorem first_level {w : World} {u : Bool} {n : Nat} {k : Int} {nm : ByteArray} {na : Option Addr} {nl nc : Nat} {ka : Option Addr} {kl kc : Nat} {D : Ty} {B : Nat} (hB : B = w.heap.size) (h : TyAt w u n (.agg #[.int .i64 k, .string nm, .slice na nl nc, .slice ka kl kc]) D) (hs : sizeT n D <= 1000) :
    LevelAt ((w.alloc (tyO k nm na nl nc ka kl kc)).alloc (.cells #[.slice (some ⟨B, 0, none⟩) 1 1] 23)) u n (.slice (some ⟨B + 1, 0, none⟩) 1 1) [(.slice (some ⟨B, 0, none⟩) 1 1, [D])] := by
  subst hB
  have hb := below_next (bl_alloc w (tyO k nm na nl nc ka kl kc)) (bl_alloc _ (.cells #[.slice (some ⟨w.heap.size, 0, none⟩) 1 1] 23))
  have h0 : ((w.alloc (tyO k nm na nl nc ka kl kc)).alloc (.cells #[.slice (some ⟨w.heap.size, 0, none⟩) 1 1] 23)).heap[w.heap.size]? = some (tyO k nm na nl nc ka kl kc) := by
    rw [Below.heap_alloc _ _ _ (by simp)]
    exact heap_alloc_last w _
  have h1 : ((w.alloc (tyO k nm na nl nc ka kl kc)).alloc (.cells #[.slice (some ⟨w.heap.size, 0, none⟩) 1 1] 23)).heap[w.heap.size + 1]? = some (.cells #[.slice (some ⟨w.heap.size, 0, none⟩) 1 1] 23) := by
    have := heap_alloc_last (w.alloc (tyO k nm na nl nc ka kl kc)) (.cells #[.slice (some ⟨w.heap.size, 0, none⟩) 1 1] 23)
    simpa using this
  refine ⟨_, _, rfl, .inr ⟨_, 0, rfl, lt_of_block h1, fun i hi => ?_⟩, fun p hp => ?_, by simpa [totL] using hs⟩
  · obtain rfl : i = 0 := by simp at hi; omega
    rw [cell_of_row _ _ _ _ _ _ h1]
    rfl
  · rw [List.mem_singleton.1 hp]
    refine ⟨_, _, _, rfl, by simp, by simp [reachBytes], .inr ⟨_, _, rfl, lt_of_block h0, by simp [World.frozen?, h0], fun _ => ⟨_, _, h0⟩, fun i hi => ?_⟩⟩
    obtain rfl : i = 0 := by simp at hi; omega
    refine ⟨_, _, _, _, ?_, ?_, ?_, ?_, ty_below h hb⟩ <;> (rw [cell_of_row _ _ _ _ _ _ h0]; rfl)
theorem next_zero (u : Bool) (v : Value) (ps : List (Value × List Ty)) (w : World) (h : LevelAt w u 0 v ps) : ps = [] := by
  obtain ⟨a, c, _, _, hls, _⟩ := h
  cases ps with
  | nil => rfl
  | cons p ps =>
    obtain ⟨b, o, c, _, hne2, _, hk⟩ := hls p (by simp)
    rcases hk with hk | ⟨_, _, _, _, _, _, hc⟩
    · exact absurd hk hne2
    · obtain ⟨_, _, _, _, _, _, _, _, ht⟩ := hc 0 (List.length_pos_iff.2 hne2)
      exact ht.elim
end Go.Proofs.YtlhmofphpfdjlaaGreatDoor
