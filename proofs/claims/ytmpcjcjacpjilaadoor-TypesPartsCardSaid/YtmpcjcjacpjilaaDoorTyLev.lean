/- types.listOf, types.nextLevel, types.Height by contracts. -/
import Derived.Test.YtmpcjcjacpjilaaDoorTyLevV
import Derived.Test.YtmpcjcjacpjilaaDoorTySz
namespace Go.Proofs.YtmpcjcjacpjilaaDoor
open Go.RowKit

theorem unit_zero : (zeroValue 61).run Tryd.prog = fun w => .ok (.agg #[]) w := by funext w; kernel_rfl
theorem info_lst : (Tryd.prog.info? 23).map (fun i => (i.zero, i.size, i.bytes)) = some (some (.slice none 0 0), 1, 24) := by kernel_rfl

set_option maxHeartbeats 1000000 in
theorem listOf_c (b o l c : Nat) (h1 : 1 ≤ l) (h2 : l ≤ 140737488351232) (w : World) :
    Calls Tryd.prog 47 #[.slice (some ⟨b, o, none⟩) l c] w fun e w' => e = .returned (.agg #[.pointer (some ⟨b, o, none⟩), .int .i64 l]) ∧ w' = w.alloc (.cells #[.pointer (some ⟨b, o, none⟩), .int .i64 l] 58) := by
  have hl : (0 : Int) < (l : Int) := by omega
  go_enter Tryd.func47, Tryd.ntmps47
  go_wp2_with fail
  exact bodyPost_ret (v := .agg #[.pointer (some ⟨b, o, none⟩), .int .i64 l]) (by simp [results, Tryd.results47, go_sem]) rfl ⟨rfl, rfl⟩

theorem flat_take (Ls : List (List Ty)) (i : Nat) (hi : i < Ls.length) : (Ls.take (i + 1)).flatten = (Ls.take i).flatten ++ Ls[i] := by
  rw [List.take_succ_eq_append_getElem hi, List.flatten_append]
  simp

theorem sum_flat (f : Ty → Nat) : ∀ (Ls : List (List Ty)), (Ls.flatten.map f).sum = (Ls.map fun L => (L.map f).sum).sum
  | [] => rfl
  | L :: Ls => by rw [List.flatten_cons, List.map_append, List.sum_append, sum_flat f Ls]; simp

theorem box_up {w wr : World} {k : Int} {nm : ByteArray} {na : Option Addr} {nl nc : Nat} {ka : Option Addr} {kl kc nd : Nat} (o1 o2 : Obj) (hsz : w.heap.size < wr.heap.size) :
    ∀ w3, (((((wr.alloc (tyO k nm na nl nc ka kl kc)).alloc o1).drewN nd).alloc o2).alloc o1).grownBy w3 (some w.heap.size) → w3.cell? ⟨wr.heap.size, 3, none⟩ = some (.slice ka kl kc) := by
  intro w3 hg
  have h0 : (((((wr.alloc (tyO k nm na nl nc ka kl kc)).alloc o1).drewN nd).alloc o2).alloc o1).heap[wr.heap.size]? = some (tyO k nm na nl nc ka kl kc) := by
    rw [Below.heap_alloc _ _ _ (by simp; omega), Below.heap_alloc _ _ _ (by simp; omega), World.heap_drewN, Below.heap_alloc _ _ _ (by simp)]
    exact heap_alloc_last wr _
  have h1 := (hg.block wr.heap.size (lt_of_block h0) (fun e => by injection e with e; omega)).trans h0
  rw [cell_of_row _ _ _ _ _ _ h1]
  rfl

theorem own_up {w0 wr w1 : World} {u : Bool} {n : Nat} {v : Value} {done : List Ty} {ps : List (Value × List Ty)} {vs : List Value} (h : Lev w0 wr u n v done ps vs) (hg : wr.grownBy w1 (some w0.heap.size)) : w1.ownsRow (w0.heap.size + 1) 23 1 v ps.length (ps.map (·.1)) :=
  h.ow.kept hg (.inr fun e => by have := (h.ow.lt _ e).1; omega)

theorem one_new (W : World) (x : Value) (t : TypeId) : ∀ j u, ([x] : List Value)[j]? = some u → (W.alloc (.cells #[x] t)).cell? ((⟨W.heap.size, 0, none⟩ : Addr).add j) = some u := by
  intro j u hj
  cases j with
  | zero =>
    have hadd : (⟨W.heap.size, 0, none⟩ : Addr).add 0 = ⟨W.heap.size, 0, none⟩ := by simp [Addr.add]
    rw [hadd, cell_of_row _ _ 0 _ t (0, 0) (heap_alloc_last W _)]
    simpa using hj
  | succ j => simp at hj

theorem sum_take_le (l : List Nat) (k : Nat) : (l.take k).sum ≤ l.sum := by
  have := List.take_append_drop k l
  conv => rhs; rw [← this, List.sum_append]
  omega

theorem done_le {n : Nat} (qs : List (Value × List Ty)) (j k : Nat) (hj : j < qs.length) : ((((qs.map (·.2)).take j).flatten ++ (qs[j].2).take k).map (sizeT n)).sum ≤ totL n qs := by
  have h1 : ((((qs.map (·.2)).take j).flatten ++ (qs[j].2).take k).map (sizeT n)).sum ≤ (((qs.map (·.2)).take (j + 1)).flatten.map (sizeT n)).sum := by
    rw [flat_take _ _ (by simpa using hj), List.getElem_map, List.map_append, List.map_append, List.sum_append, List.sum_append, List.map_take]
    have := sum_take_le ((qs[j].2).map (sizeT n)) k
    omega
  refine Nat.le_trans h1 ?_
  rw [sum_flat, List.map_take, List.map_map]
  exact sum_take_le _ _

/-- What nextLevel leaves. -/
def NextPost (w : World) (u : Bool) (n : Nat) (Ds : List Ty) (e : Ending) (w' : World) : Prop :=
  ∃ v ps vs, e = .returned v ∧ Lev w w' u n v Ds ps vs

set_option maxHeartbeats 4000000 in
set_option maxRecDepth 100000 in
theorem nextLevel_c (u : Bool) (n : Nat) (qs : List (Value × List Ty)) (a : Option Addr) (c : Nat) (w : World) (hr : RowAt w a (qs.map (·.1))) (hq : ∀ q ∈ qs, LstAt w u (n + 1) q.1 q.2) (ht : totL (n + 1) qs ≤ 1000) :
    Calls Tryd.prog 42 #[.slice a qs.length c] w (NextPost w u n (qs.map (·.2)).flatten) := by
  have hql : qs.length ≤ 1000 := Nat.le_trans (tot_len hq) ht
  obtain ⟨i0, hi, hz0, hz1, hz2⟩ := info_parts info_lst
  have hmm := @run_makeMap Tryd.prog
  have HR := hideP hr
  have HQ := hideP hq
  have HTT := hideP ht
  clear hr hq ht
  go_enter Tryd.func42, Tryd.ntmps42
  go_wp2_with fail
  go_loopw [3, 14] (fun v i wr => ∃ (j : Nat) (ps : List (Value × List Ty)) (vs : List Value), i = .int .i64 j ∧ j ≤ qs.length ∧ Hid (Lev w wr u n v ((qs.map (·.2)).take j).flatten ps vs)) (fun _ i _ => qs.length - (intOf i).toNat)
  case atStart =>
    refine ⟨0, [], [], rfl, Nat.zero_le _, ?_⟩
    refine ⟨bl_alloc _ _, set_made w, World.ownsRow_nil .., by simp, by simp, by simp, ?_, ?_⟩
    · simp [totL]
    · simp
  case round =>
    obtain ⟨j, ps, vs, rfl, hj, hL⟩ := hrel
    by_cases hlt : j < qs.length
    · have hjl : (j : Int) < (qs.length : Int) := by omega
      have hr0 : ∃ b o, a = some ⟨b, o, none⟩ ∧ b < w.heap.size ∧ w.cell? ⟨b, o + j, none⟩ = some qs[j].1 := by
        rcases HR.out with h0 | ⟨b, o, e, hb, hc⟩
        · have := congrArg List.length h0
          rw [List.length_map, List.length_nil] at this
          omega
        · have := hc j (by simpa using hlt)
          rw [List.getElem_map] at this
          exact ⟨b, o, e, hb, this⟩
      obtain ⟨b, o, rfl, hbl, hcj⟩ := hr0
      have hls := HQ.out qs[j] (List.getElem_mem hlt)
      obtain ⟨b1, o1, c1, e1, hne, hll, hkids⟩ := hls
      have hll' : qs[j].2.length ≤ 140737488351232 := hll
      rw [e1] at hcj
      have hcr := (hL.out.bl.cell (p := ⟨b, o + j, none⟩) hbl).trans hcj
      obtain ⟨Ds, hDs⟩ : ∃ Ds, Ds = qs[j].2 := ⟨_, rfl⟩
      rw [← hDs] at hcr hll' hkids hne
      have hDM : Hid (Ds = qs[j].2) := hDs
      have HK := hideP hkids
      have HNE := hideP hne
      clear hcj e1 hkids hll hDs hne
      go_wp2_with fail
      go_loopw [3, 20] (fun v i wr => ∃ (k : Nat) (ps : List (Value × List Ty)) (vs : List Value), i = .int .i64 k ∧ k ≤ Ds.length ∧ Hid (Lev w wr u n v (((qs.map (·.2)).take j).flatten ++ Ds.take k) ps vs)) (fun _ i _ => Ds.length - (intOf i).toNat)
      case atStart => exact ⟨0, ps, vs, rfl, Nat.zero_le _, by simpa using hL⟩
      case round =>
        obtain ⟨k, ps, vs, rfl, hk, hL⟩ := hrel
        by_cases hkt : k < Ds.length
        · have hkl : (k : Int) < (Ds.length : Int) := by omega
          obtain ⟨_, _, k', nm', na', nl', nc', la', ll', lc', e2, hbl1, q0, q1, q2, q3, hty⟩ := kid_at HK.out hkt
          injection e2 with e2
          injection e2 with e3 e4
          subst e3 e4
          have r0 := (hL.out.bl.cell (p := ⟨b1, o1 + k * 4, none⟩) hbl1).trans q0
          have r1 := (hL.out.bl.cell (p := ⟨b1, o1 + k * 4 + 1, none⟩) hbl1).trans q1
          have r2 := (hL.out.bl.cell (p := ⟨b1, o1 + k * 4 + 2, none⟩) hbl1).trans q2
          have r3 := (hL.out.bl.cell (p := ⟨b1, o1 + k * 4 + 3, none⟩) hbl1).trans q3
          obtain ⟨_, _, _, _, _, _, ns', ks', e5, e6, _, _, _, _, ⟨_, hkl'⟩, _, hk2⟩ := hty
          injection e5 with e5
          injection e5 with e5
          injection e5 with _ e5
          injection e5 with _ e5
          injection e5 with _ e5
          injection e5 with e5 _
          injection e5 with e7 e8 e9
          subst e7 e8 e9
          clear q0 q1 q2 q3
          by_cases hz : ks' = []
          · subst hz
            clear HK HR HQ
            have hLn := hideP ((hL.out.grow (World.grownBy_alloc _ (tyO k' nm' na' nl' nc' la' 0 lc') none)).skip (D := Ds[k]) (by rw [e6]; rfl))
            clear e6 hk2 hkl'
            go_wp2_with fail
            refine ⟨⟨k + 1, ps, vs, by go_num, by omega, ?_⟩, by simp [intOf]; omega⟩
            rw [List.take_succ_eq_append_getElem hkt, ← List.append_assoc]
            exact hLn.out
          · have hlst : LstAt w u n (.slice la' ks'.length lc') (kidsT Ds[k]) := by
              rw [e6]
              rcases hk2 with h0 | ⟨b2, o2, rfl, h3⟩
              · exact absurd h0 hz
              · exact ⟨b2, o2, lc', rfl, hz, hkl', .inr ⟨b2, o2, rfl, h3⟩⟩
            obtain ⟨b2, o2, _, e7, hbl2, hgood, hplain, _, _⟩ := hlst.good
            injection e7 with e7 e8 e9
            subst e7
            have hkl2 : ks'.length ≤ 140737488351232 := hkl'
            have hk1 : 1 ≤ ks'.length := List.length_pos_iff.2 hz
            have hzk : ((ks'.length : Int) == 0) = false := by rw [beq_eq_false_iff_ne]; omega
            have HLST := hideP hlst
            have HGD := hideP (((hgood.below hL.out.bl).below (bl_alloc wr (tyO k' nm' na' nl' nc' (some ⟨b2, o2, none⟩) ks'.length lc'))).below (bl_alloc _ (.cells #[.pointer (some ⟨b2, o2, none⟩), .int .i64 ks'.length] 58)))
            have HL1 := hideP ((hL.out.grow (World.grownBy_alloc _ (tyO k' nm' na' nl' nc' (some ⟨b2, o2, none⟩) ks'.length lc') none)).grow (World.grownBy_alloc _ (.cells #[.pointer (some ⟨b2, o2, none⟩), .int .i64 ks'.length] 58) none))
            clear e6 e8 e9 hk2 hkl' HK HR HQ hlst hgood hplain hz
            go_wp2_with fail
            refine (listOf_c _ _ _ _ hk1 hkl2 _).mono ?_
            rintro e w1 ⟨rfl, rfl⟩
            go_wp2_with (at_lookup; refine wpList_set_look rfl _ _ 83 rfl key_ok Tryd.underlying83 unit_zero w.heap.size vs rfl HL1.out.st _ rfl ⟨_, _, rfl, HGD.out⟩ HL1.out.goodK ?_; intro r nd hno hyes; have HNO := hideP hno; have HYES := hideP hyes; clear hno hyes)
            · have HL2 := hideP ((((HL1.out.grow (grown_drewN _ nd none)).grow (World.grownBy_alloc _ (.cells #[] 61) none))).grow (World.grownBy_alloc _ (.cells #[.pointer (some ⟨b2, o2, none⟩), .int .i64 ks'.length] 58) none))
              have HGD2 := hideP ((((HGD.out.drew nd)).below (bl_alloc _ (.cells #[] 61))).below (bl_alloc _ (.cells #[.pointer (some ⟨b2, o2, none⟩), .int .i64 ks'.length] 58)))
              clear HL1 HGD HNO HYES
              have htl : ps.length ≤ 1000 := by
                have h1 := tot_len HL2.out.ls
                have h2 := HL2.out.tt
                have h3 : ((((qs.map (·.2)).take j).flatten ++ Ds.take k).map (sizeT (n + 1))).sum ≤ totL (n + 1) qs := by
                  rw [hDM.out]
                  exact done_le qs j k hlt
                have := HTT.out
                omega
              have hsz := hL.out.sz
              have HB3 := hideP (box_up (w := w) (k := k') (nm := nm') (na := na') (nl := ns'.length) (nc := nc') (ka := some ⟨b2, o2, none⟩) (kl := ks'.length) (kc := lc') (wr := wr) (nd := nd) (.cells #[.pointer (some ⟨b2, o2, none⟩), .int .i64 ks'.length] 58) (.cells #[] 61) hsz)
              refine (listOf_c _ _ _ _ hk1 hkl2 _).mono ?_
              rintro e w1 ⟨rfl, rfl⟩
              go_wp2_with (first | (at_mapUpdate; refine wpList_set_store rfl _ _ _ 83 rfl key_ok Tryd.underlying83 w.heap.size vs rfl HL2.out.st _ rfl rfl ⟨_, _, rfl, HGD2.out⟩ HL2.out.goodK ?_; intro w3 vs' hst hgr hsub hall; have HST := hideP hst; have HGR := hideP hgr; have HSUB := hideP hsub; have c3 := HB3.out w3 hgr; have HOW := hideP (own_up HL2.out hgr); have hs3 : w.heap.size + 1 ≤ w3.heap.size := Nat.le_trans HL2.out.sz hgr.size; clear hst hgr hsub hall) | (at_builtin; refine wpList_append_own _ rfl (.tmp 43) (.tmp 46) 53 rfl (w.heap.size + 1) 23 i0 _ 1 24 Tryd.underlying53 hi hz0 hz1 hz2 rfl (by decide) _ _ _ rfl (HOW.out.alloc _) ⟨_, 0, none⟩ 1 1 [.slice (some ⟨b2, o2, none⟩) ks'.length lc'] rfl rfl (one_new _ _ _) (by simp [Value.oneCell']) (by unfold maxLen; omega) (by omega) (by simp; omega) ?_; intro v' w4 hown' hgrow _; have HOWN := hideP hown'; have HGROW := hideP hgrow; clear hown' hgrow))
              have HL5 := hideP (HL2.out.add (D := Ds[k]) HLST.out HST.out HGR.out HSUB.out HOWN.out HGROW.out)
              clear HL2 HGD2 HST HGR HSUB HOW HOWN HGROW HB3
              refine ⟨⟨k + 1, ps ++ [(.slice (some ⟨b2, o2, none⟩) ks'.length lc', kidsT Ds[k])], vs', by go_num, by omega, ?_⟩, by simp [intOf]; omega⟩
              rw [List.take_succ_eq_append_getElem hkt, ← List.append_assoc]
              exact HL5.out
            · have hr : r = true := by cases r <;> simp_all
              have HL2 := hideP (((HL1.out.had (D := Ds[k]) HLST.out (HYES.out hr)).grow (grown_drewN _ nd none)).grow (World.grownBy_alloc _ (.cells #[] 61) none))
              clear HL1 HGD HNO HYES
              refine ⟨⟨k + 1, ps, vs, by go_num, by omega, ?_⟩, by simp [intOf]; omega⟩
              rw [List.take_succ_eq_append_getElem hkt, ← List.append_assoc]
              exact HL2.out
        · have hkl : ¬ (k : Int) < (Ds.length : Int) := by omega
          clear HK HR HQ
          go_wp2_with fail
          refine ⟨⟨j + 1, ps, vs, by go_num, by omega, ?_⟩, by simp [intOf]; omega⟩
          rw [flat_take _ _ (by simpa using hlt), List.getElem_map]
          have := hL.out
          rw [List.take_of_length_le (l := Ds) (by omega), hDM.out] at this
          exact this
    · have hjl : ¬ (j : Int) < (qs.length : Int) := by omega
      clear HR HQ
      go_wp2_with fail
      go_ret
      have := hL.out
      rw [List.take_of_length_le (by simp; omega)] at this
      exact ⟨_, ps, vs, rfl, this⟩
end Go.Proofs.YtmpcjcjacpjilaaDoor
