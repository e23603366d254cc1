/- Part of the proof of TreeNormal: the texts that follow, in build order. -/
import Derived.Test.YtmpcjcjacpjilabGreatDoorPart4
import Derived.Test.YtmpcjcjacpjilabGreatDoorPart3

/- types.listOf, types.nextLevel, types.Height by contracts. -/
namespace Go.Proofs.YtmpcjcjacpjilabGreatDoor
open Go.RowKit

theorem unit_zero : (zeroValue 61).run Tryz.prog = fun w => .ok (.agg #[]) w := by funext w; kernel_rfl
theorem info_lst : (Tryz.prog.info? 23).map (fun i => (i.zero, i.size, i.bytes)) = some (some (.slice none 0 0), 1, 24) := by kernel_rfl

set_option maxHeartbeats 1000000 in
theorem listOf_c (b o l c : Nat) (h1 : 1 ≤ l) (h2 : l ≤ 140737488351232) (w : World) :
    Calls Tryz.prog 43 #[.slice (some ⟨b, o, none⟩) l c] w fun e w' => e = .returned (.agg #[.pointer (some ⟨b, o, none⟩), .int .i64 l]) ∧ w' = w.alloc (.cells #[.pointer (some ⟨b, o, none⟩), .int .i64 l] 65) := by
  have hl : (0 : Int) < (l : Int) := by omega
  go_enter Tryz.func43, Tryz.ntmps43
  go_wp2_with fail
  exact bodyPost_ret (v := .agg #[.pointer (some ⟨b, o, none⟩), .int .i64 l]) (by simp [results, Tryz.results43, go_sem]) rfl ⟨rfl, rfl⟩

theorem flat_take (Ls : List (List Ty)) (i : Nat) (hi : i < Ls.length) : (Ls.take (i + 1)).flatten = (Ls.take i).flatten ++ Ls[i] := by
  rw [List.take_succ_eq_append_getElem hi, List.flatten_append]
  simp

theorem sum_flat (f : Ty → Nat) : ∀ (Ls : List (List Ty)), (Ls.flatten.map f).sum = (Ls.map fun L => (L.map f).sum).sum
  | [] => rfl
  | L :: Ls => by rw [List.flatten_cons, List.map_append, List.sum_append, sum_flat f Ls]; simp

theorem box_up {w wr : World} {k : Int} {nm : ByteArray} {na : Option Addr} {nl nc : Nat} {ka : Option Addr} {kl kc nd : Nat} (o1 o2 : Obj) (hsz : w.heap.size < wr.heap.size) :
    ∀ w3, (((((wr.alloc (tyO k nm na nl nc ka kl kc)).alloc o1).drewN nd).alloc o2).alloc o1).grownBy w3 (some w.heap.size) → w3.cell? ⟨wr.heap.size, 3, none⟩ = some (.slice ka kl kc) := by
  intro w3 hg
  have h0 : (((((wr.alloc (tyO k nm na nl nc ka kl kc)).alloc o1).drewN nd).alloc o2).alloc o1).heap[wr.heap.size]? = some (tyO k nm na nl nc ka kl kc) := by
    rw [Below.heap_alloc _ _ _ (by simp; omega), Below.heap_alloc _ _ _ (by simp; omega), World.heap_drewN, Below.heap_alloc _ _ _ (by simp)]
    exact heap_alloc_last wr _
  have h1 := (hg.block wr.heap.size (lt_of_block h0) (fun e => by injection e with e; omega)).trans h0
  rw [cell_of_row _ _ _ _ _ _ h1]
  rfl

theorem own_up {w0 wr w1 : World} {u : Bool} {n : Nat} {v : Value} {done : List Ty} {ps : List (Value × List Ty)} {vs : List Value} (h : Lev w0 wr u n v done ps vs) (hg : wr.grownBy w1 (some w0.heap.size)) : w1.ownsRow (w0.heap.size + 1) 23 1 v ps.length (ps.map (·.1)) :=
  h.ow.kept hg (.inr fun e => by have := (h.ow.lt _ e).1; omega)

theorem one_new (W : World) (x : Value) (t : TypeId) : ∀ j u, ([x] : List Value)[j]? = some u → (W.alloc (.cells #[x] t)).cell? ((⟨W.heap.size, 0, none⟩ : Addr).add j) = some u := by
  intro j u hj
  cases j with
  | zero =>
    have hadd : (⟨W.heap.size, 0, none⟩ : Addr).add 0 = ⟨W.heap.size, 0, none⟩ := by simp [Addr.add]
    rw [hadd, cell_of_row _ _ 0 _ t (0, 0) (heap_alloc_last W _)]
    simpa using hj
  | succ j => simp at hj

theorem sum_take_le (l : List Nat) (k : Nat) : (l.take k).sum ≤ l.sum := by
  have := List.take_append_drop k l
  conv => rhs; rw [← this, List.sum_append]
  omega

theorem done_le {n : Nat} (qs : List (Value × List Ty)) (j k : Nat) (hj : j < qs.length) : ((((qs.map (·.2)).take j).flatten ++ (qs[j].2).take k).map (sizeT n)).sum ≤ totL n qs := by
  have h1 : ((((qs.map (·.2)).take j).flatten ++ (qs[j].2).take k).map (sizeT n)).sum ≤ (((qs.map (·.2)).take (j + 1)).flatten.map (sizeT n)).sum := by
    rw [flat_take _ _ (by simpa using hj), List.getElem_map, List.map_append, List.map_append, List.sum_append, List.sum_append, List.map_take]
    have := sum_take_le ((qs[j].2).map (sizeT n)) k
    omega
  refine Nat.le_trans h1 ?_
  rw [sum_flat, List.map_take, List.map_map]
  exact sum_take_le _ _

/-- What nextLevel leaves. -/
def NextPost (w : World) (u : Bool) (n : Nat) (Ds : List Ty) (e : Ending) (w' : World) : Prop :=
  ∃ v ps vs, e = .returned v ∧ Lev w w' u n v Ds ps vs

set_option maxHeartbeats 4000000 in
set_option maxRecDepth 100000 in
theorem nextLevel_c (u : Bool) (n : Nat) (qs : List (Value × List Ty)) (a : Option Addr) (c : Nat) (w : World) (hr : RowAt w a (qs.map (·.1))) (hq : ∀ q ∈ qs, LstAt w u (n + 1) q.1 q.2) (ht : totL (n + 1) qs ≤ 1000) :
    Calls Tryz.prog 20 #[.slice a qs.length c] w (NextPost w u n (qs.map (·.2)).flatten) := by
  have hql : qs.length ≤ 1000 := Nat.le_trans (tot_len hq) ht
  obtain ⟨i0, hi, hz0, hz1, hz2⟩ := info_parts info_lst
  have hmm := @run_makeMap Tryz.prog
  have HR := hideP hr
  have HQ := hideP hq
  have HTT := hideP ht
  clear hr hq ht
  go_enter Tryz.func20, Tryz.ntmps20
  go_wp2_with fail
  go_loopw [3, 14] (fun v i wr => ∃ (j : Nat) (ps : List (Value × List Ty)) (vs : List Value), i = .int .i64 j ∧ j ≤ qs.length ∧ Hid (Lev w wr u n v ((qs.map (·.2)).take j).flatten ps vs)) (fun _ i _ => qs.length - (intOf i).toNat)
  case atStart =>
    refine ⟨0, [], [], rfl, Nat.zero_le _, ?_⟩
    refine ⟨bl_alloc _ _, set_made w, World.ownsRow_nil .., by simp, by simp, by simp, ?_, ?_⟩
    · simp [totL]
    · simp
  case round =>
    obtain ⟨j, ps, vs, rfl, hj, hL⟩ := hrel
    by_cases hlt : j < qs.length
    · have hjl : (j : Int) < (qs.length : Int) := by omega
      have hr0 : ∃ b o, a = some ⟨b, o, none⟩ ∧ b < w.heap.size ∧ w.cell? ⟨b, o + j, none⟩ = some qs[j].1 := by
        rcases HR.out with h0 | ⟨b, o, e, hb, hc⟩
        · have := congrArg List.length h0
          rw [List.length_map, List.length_nil] at this
          omega
        · have := hc j (by simpa using hlt)
          rw [List.getElem_map] at this
          exact ⟨b, o, e, hb, this⟩
      obtain ⟨b, o, rfl, hbl, hcj⟩ := hr0
      have hls := HQ.out qs[j] (List.getElem_mem hlt)
      obtain ⟨b1, o1, c1, e1, hne, hll, hkids⟩ := hls
      have hll' : qs[j].2.length ≤ 140737488351232 := hll
      rw [e1] at hcj
      have hcr := (hL.out.bl.cell (p := ⟨b, o + j, none⟩) hbl).trans hcj
      obtain ⟨Ds, hDs⟩ : ∃ Ds, Ds = qs[j].2 := ⟨_, rfl⟩
      rw [← hDs] at hcr hll' hkids hne
      have hDM : Hid (Ds = qs[j].2) := hDs
      have HK := hideP hkids
      have HNE := hideP hne
      clear hcj e1 hkids hll hDs hne
      go_wp2_with fail
      go_loopw [3, 20] (fun v i wr => ∃ (k : Nat) (ps : List (Value × List Ty)) (vs : List Value), i = .int .i64 k ∧ k ≤ Ds.length ∧ Hid (Lev w wr u n v (((qs.map (·.2)).take j).flatten ++ Ds.take k) ps vs)) (fun _ i _ => Ds.length - (intOf i).toNat)
      case atStart => exact ⟨0, ps, vs, rfl, Nat.zero_le _, by simpa using hL⟩
      case round =>
        obtain ⟨k, ps, vs, rfl, hk, hL⟩ := hrel
        by_cases hkt : k < Ds.length
        · have hkl : (k : Int) < (Ds.length : Int) := by omega
          obtain ⟨_, _, k', nm', na', nl', nc', la', ll', lc', e2, hbl1, q0, q1, q2, q3, hty⟩ := kid_at HK.out hkt
          injection e2 with e2
          injection e2 with e3 e4
          subst e3 e4
          have r0 := (hL.out.bl.cell (p := ⟨b1, o1 + k * 4, none⟩) hbl1).trans q0
          have r1 := (hL.out.bl.cell (p := ⟨b1, o1 + k * 4 + 1, none⟩) hbl1).trans q1
          have r2 := (hL.out.bl.cell (p := ⟨b1, o1 + k * 4 + 2, none⟩) hbl1).trans q2
          have r3 := (hL.out.bl.cell (p := ⟨b1, o1 + k * 4 + 3, none⟩) hbl1).trans q3
          obtain ⟨_, _, _, _, _, _, ns', ks', e5, e6, _, _, _, _, ⟨_, hkl'⟩, _, hk2⟩ := hty
          injection e5 with e5
          injection e5 with e5
          injection e5 with _ e5
          injection e5 with _ e5
          injection e5 with _ e5
          injection e5 with e5 _
          injection e5 with e7 e8 e9
          subst e7 e8 e9
          clear q0 q1 q2 q3
          by_cases hz : ks' = []
          · subst hz
            clear HK HR HQ
            have hLn := hideP ((hL.out.grow (World.grownBy_alloc _ (tyO k' nm' na' nl' nc' la' 0 lc') none)).skip (D := Ds[k]) (by rw [e6]; rfl))
            clear e6 hk2 hkl'
            go_wp2_with fail
            refine ⟨⟨k + 1, ps, vs, by go_num, by omega, ?_⟩, by simp [intOf]; omega⟩
            rw [List.take_succ_eq_append_getElem hkt, ← List.append_assoc]
            exact hLn.out
          · have hlst : LstAt w u n (.slice la' ks'.length lc') (kidsT Ds[k]) := by
              rw [e6]
              rcases hk2 with h0 | ⟨b2, o2, rfl, h3⟩
              · exact absurd h0 hz
              · exact ⟨b2, o2, lc', rfl, hz, hkl', .inr ⟨b2, o2, rfl, h3⟩⟩
            obtain ⟨b2, o2, _, e7, hbl2, hgood, hplain, _, _⟩ := hlst.good
            injection e7 with e7 e8 e9
            subst e7
            have hkl2 : ks'.length ≤ 140737488351232 := hkl'
            have hk1 : 1 ≤ ks'.length := List.length_pos_iff.2 hz
            have hzk : ((ks'.length : Int) == 0) = false := by rw [beq_eq_false_iff_ne]; omega
            have HLST := hideP hlst
            have HGD := hideP (((hgood.below hL.out.bl).below (bl_alloc wr (tyO k' nm' na' nl' nc' (some ⟨b2, o2, none⟩) ks'.length lc'))).below (bl_alloc _ (.cells #[.pointer (some ⟨b2, o2, none⟩), .int .i64 ks'.length] 65)))
            have HL1 := hideP ((hL.out.grow (World.grownBy_alloc _ (tyO k' nm' na' nl' nc' (some ⟨b2, o2, none⟩) ks'.length lc') none)).grow (World.grownBy_alloc _ (.cells #[.pointer (some ⟨b2, o2, none⟩), .int .i64 ks'.length] 65) none))
            clear e6 e8 e9 hk2 hkl' HK HR HQ hlst hgood hplain hz
            go_wp2_with fail
            refine (listOf_c _ _ _ _ hk1 hkl2 _).mono ?_
            rintro e w1 ⟨rfl, rfl⟩
            go_wp2_with (at_lookup; refine wpList_set_look rfl _ _ 60 rfl key_ok Tryz.underlying60 unit_zero w.heap.size vs rfl HL1.out.st _ rfl ⟨_, _, rfl, HGD.out⟩ HL1.out.goodK ?_; intro r nd hno hyes; have HNO := hideP hno; have HYES := hideP hyes; clear hno hyes)
            · have HL2 := hideP ((((HL1.out.grow (grown_drewN _ nd none)).grow (World.grownBy_alloc _ (.cells #[] 61) none))).grow (World.grownBy_alloc _ (.cells #[.pointer (some ⟨b2, o2, none⟩), .int .i64 ks'.length] 65) none))
              have HGD2 := hideP ((((HGD.out.drew nd)).below (bl_alloc _ (.cells #[] 61))).below (bl_alloc _ (.cells #[.pointer (some ⟨b2, o2, none⟩), .int .i64 ks'.length] 65)))
              clear HL1 HGD HNO HYES
              have htl : ps.length ≤ 1000 := by
                have h1 := tot_len HL2.out.ls
                have h2 := HL2.out.tt
                have h3 : ((((qs.map (·.2)).take j).flatten ++ Ds.take k).map (sizeT (n + 1))).sum ≤ totL (n + 1) qs := by
                  rw [hDM.out]
                  exact done_le qs j k hlt
                have := HTT.out
                omega
              have hsz := hL.out.sz
              have HB3 := hideP (box_up (w := w) (k := k') (nm := nm') (na := na') (nl := ns'.length) (nc := nc') (ka := some ⟨b2, o2, none⟩) (kl := ks'.length) (kc := lc') (wr := wr) (nd := nd) (.cells #[.pointer (some ⟨b2, o2, none⟩), .int .i64 ks'.length] 65) (.cells #[] 61) hsz)
              refine (listOf_c _ _ _ _ hk1 hkl2 _).mono ?_
              rintro e w1 ⟨rfl, rfl⟩
              go_wp2_with (first | (at_mapUpdate; refine wpList_set_store rfl _ _ _ 60 rfl key_ok Tryz.underlying60 w.heap.size vs rfl HL2.out.st _ rfl rfl ⟨_, _, rfl, HGD2.out⟩ HL2.out.goodK ?_; intro w3 vs' hst hgr hsub hall; have HST := hideP hst; have HGR := hideP hgr; have HSUB := hideP hsub; have c3 := HB3.out w3 hgr; have HOW := hideP (own_up HL2.out hgr); have hs3 : w.heap.size + 1 ≤ w3.heap.size := Nat.le_trans HL2.out.sz hgr.size; clear hst hgr hsub hall) | (at_builtin; refine wpList_append_own _ rfl (.tmp 43) (.tmp 46) 42 rfl (w.heap.size + 1) 23 i0 _ 1 24 Tryz.underlying42 hi hz0 hz1 hz2 rfl (by decide) _ _ _ rfl (HOW.out.alloc _) ⟨_, 0, none⟩ 1 1 [.slice (some ⟨b2, o2, none⟩) ks'.length lc'] rfl rfl (one_new _ _ _) (by simp [Value.oneCell']) (by unfold maxLen; omega) (by omega) (by simp; omega) ?_; intro v' w4 hown' hgrow _; have HOWN := hideP hown'; have HGROW := hideP hgrow; clear hown' hgrow))
              have HL5 := hideP (HL2.out.add (D := Ds[k]) HLST.out HST.out HGR.out HSUB.out HOWN.out HGROW.out)
              clear HL2 HGD2 HST HGR HSUB HOW HOWN HGROW HB3
              refine ⟨⟨k + 1, ps ++ [(.slice (some ⟨b2, o2, none⟩) ks'.length lc', kidsT Ds[k])], vs', by go_num, by omega, ?_⟩, by simp [intOf]; omega⟩
              rw [List.take_succ_eq_append_getElem hkt, ← List.append_assoc]
              exact HL5.out
            · have hr : r = true := by cases r <;> simp_all
              have HL2 := hideP (((HL1.out.had (D := Ds[k]) HLST.out (HYES.out hr)).grow (grown_drewN _ nd none)).grow (World.grownBy_alloc _ (.cells #[] 61) none))
              clear HL1 HGD HNO HYES
              refine ⟨⟨k + 1, ps, vs, by go_num, by omega, ?_⟩, by simp [intOf]; omega⟩
              rw [List.take_succ_eq_append_getElem hkt, ← List.append_assoc]
              exact HL2.out
        · have hkl : ¬ (k : Int) < (Ds.length : Int) := by omega
          clear HK HR HQ
          go_wp2_with fail
          refine ⟨⟨j + 1, ps, vs, by go_num, by omega, ?_⟩, by simp [intOf]; omega⟩
          rw [flat_take _ _ (by simpa using hlt), List.getElem_map]
          have := hL.out
          rw [List.take_of_length_le (l := Ds) (by omega), hDM.out] at this
          exact this
    · have hjl : ¬ (j : Int) < (qs.length : Int) := by omega
      clear HR HQ
      go_wp2_with fail
      go_ret
      have := hL.out
      rw [List.take_of_length_le (by simp; omega)] at this
      exact ⟨_, ps, vs, rfl, this⟩
end Go.Proofs.YtmpcjcjacpjilabGreatDoor

/- Levels of expressions: lists of nodes that lie in memory, and the lists within them; what a round of tree.nextLevel keeps. -/
namespace Go.Proofs.YtmpcjcjacpjilabGreatDoor
open Go.RowKit

/-- A list of types, at least one. -/
def NLst (w : World) (_ : Bool) (n : Nat) (x : Value) (ks : List Ty) : Prop :=
  ∃ b o c, x = .slice (some ⟨b, o, none⟩) ks.length c ∧ ks ≠ [] ∧ ks.length ≤ reachBytes ∧ NKids w n (some ⟨b, o, none⟩) ks

theorem NLst.good {w : World} {u : Bool} {n : Nat} {x : Value} {ks : List Ty} (h : NLst w u n x ks) : ∃ b o c, x = .slice (some ⟨b, o, none⟩) ks.length c ∧ b < w.heap.size ∧ GoodA w ⟨b, o, none⟩ ∧ (u = true → PlainA w ⟨b, o, none⟩) ∧ ks ≠ [] ∧ ks.length ≤ reachBytes := by
  obtain ⟨b, o, c, rfl, hne, hl, hk⟩ := h
  rcases hk with hk | ⟨b', o', e, hcl, hc⟩
  · exact absurd hk hne
  · injection e with e
    injection e with e1 e2
    subst e1 e2
    have hp : PlainA w ⟨b, o, none⟩ := hcl
    exact ⟨b, o, c, rfl, clean_lt hcl, hp.good, fun _ => hp, hne, hl⟩

/-- One place and one length are one list. -/
theorem nlst_det {w : World} {u u' : Bool} {n m : Nat} {x x' : Value} {ks ks' : List Ty} (h : NLst w u n x ks) (h' : NLst w u' m x' ks') (he : keyOfV x = keyOfV x') : ks = ks' := by
  obtain ⟨b, o, c, rfl, _, _, hk⟩ := h
  obtain ⟨b', o', c', rfl, _, _, hk'⟩ := h'
  obtain ⟨e1, e2⟩ := keyV_inj he
  injection e1 with e3 e4
  subst e3 e4
  exact nkids_det hk hk' e2

theorem nlst_below {w w' : World} {u : Bool} {n : Nat} {x : Value} {ks : List Ty} (h : NLst w u n x ks) (hb : Below w.heap.size w w') : NLst w' u n x ks := by
  obtain ⟨b, o, c, h1, h2, h3, h4⟩ := h
  exact ⟨b, o, c, h1, h2, h3, nkids_below h4 hb⟩

/-- What a round keeps. -/
structure NLev (w0 wr : World) (u : Bool) (n : Nat) (v : Value) (done : List Ty) (ps : List (Value × List Ty)) (vs : List Value) : Prop where
  bl : Below w0.heap.size w0 wr
  st : SetAt wr w0.heap.size vs
  ow : wr.ownsRow (w0.heap.size + 1) 33 1 v ps.length (ps.map (·.1))
  ls : ∀ p ∈ ps, NLst w0 u n p.1 p.2
  ky : ∀ y ∈ vs, ∃ p ∈ ps, y = keyOfV p.1
  fr : ∀ p ∈ ps, ∃ D ∈ done, p.2 = kidsT D
  tt : totL n ps ≤ (done.map (sizeT (n + 1))).sum
  al : u = true → ∀ D ∈ done, kidsT D ≠ [] → ∃ p ∈ ps, p.2 = kidsT D

section
variable {w0 wr wr' : World} {u : Bool} {n : Nat} {v : Value} {done : List Ty} {ps : List (Value × List Ty)} {vs : List Value}

theorem NLev.sz (h : NLev w0 wr u n v done ps vs) : w0.heap.size < wr.heap.size := set_lt h.st

theorem NLev.grow (h : NLev w0 wr u n v done ps vs) (hg : wr.grownBy wr' none) : NLev w0 wr' u n v done ps vs where
  bl := h.bl.grown hg h.bl.size (fun k hk => by cases hk)
  st := set_block h.st (hg.block _ h.sz (by simp))
  ow := h.ow.kept hg (by cases h1 : v.ownBlock <;> simp)
  ls := h.ls
  ky := h.ky
  fr := h.fr
  tt := h.tt
  al := h.al

theorem NLev.goodK (h : NLev w0 wr u n v done ps vs) : ∀ y ∈ vs, GoodK wr y := by
  intro y hy
  obtain ⟨p, hp, rfl⟩ := h.ky y hy
  obtain ⟨b, o, c, e, _, hg, _⟩ := (h.ls p hp).good
  rw [e]
  exact ⟨_, _, rfl, hg.below h.bl⟩

theorem NLev.plainK (h : NLev w0 wr u n v done ps vs) (hu : u = true) : ∀ y ∈ vs, PlainK wr y := by
  intro y hy
  obtain ⟨p, hp, rfl⟩ := h.ky y hy
  obtain ⟨b, o, c, e, _, _, hg, _⟩ := (h.ls p hp).good
  rw [e]
  exact ⟨_, _, rfl, clean_below (hg hu) h.bl⟩

theorem NLev.skip (h : NLev w0 wr u n v done ps vs) {D : Ty} (hD : kidsT D = []) : NLev w0 wr u n v (done ++ [D]) ps vs where
  bl := h.bl
  st := h.st
  ow := h.ow
  ls := h.ls
  ky := h.ky
  fr p hp := by
    obtain ⟨E, hE, h2⟩ := h.fr p hp
    exact ⟨E, by simp [hE], h2⟩
  tt := by
    have := h.tt
    simp
    omega
  al hu E hE hne := by
    rcases List.mem_append.1 hE with hE | hE
    · exact h.al hu E hE hne
    · rw [List.mem_singleton.1 hE] at hne
      exact absurd hD hne

theorem NLev.had (h : NLev w0 wr u n v done ps vs) {D : Ty} {x : Value} (hx : NLst w0 u n x (kidsT D)) (hf : ∃ y ∈ vs, PlainK wr (keyOfV x) → (∀ z ∈ vs, PlainK wr z) → y = keyOfV x) : NLev w0 wr u n v (done ++ [D]) ps vs where
  bl := h.bl
  st := h.st
  ow := h.ow
  ls := h.ls
  ky := h.ky
  fr p hp := by
    obtain ⟨E, hE, h2⟩ := h.fr p hp
    exact ⟨E, by simp [hE], h2⟩
  tt := by
    have := h.tt
    simp
    omega
  al hu E hE hne := by
    rcases List.mem_append.1 hE with hE | hE
    · exact h.al hu E hE hne
    · rw [List.mem_singleton.1 hE]
      obtain ⟨y, hy, hp⟩ := hf
      obtain ⟨b, o, c, e, _, _, hg, _⟩ := hx.good
      have hyx := hp (by rw [e]; exact ⟨_, _, rfl, clean_below (hg hu) h.bl⟩) (h.plainK hu)
      obtain ⟨p, hpm, he⟩ := h.ky y hy
      exact ⟨p, hpm, nlst_det (h.ls p hpm) hx (he.symm.trans hyx)⟩

/-- One more: the set first, then the list. -/
theorem NLev.add {w1 w2 : World} {vs' : List Value} {v' : Value} (h : NLev w0 wr u n v done ps vs) {D : Ty} {x : Value} (hx : NLst w0 u n x (kidsT D)) (hs : SetAt w1 w0.heap.size vs') (hg : wr.grownBy w1 (some w0.heap.size))
    (hsub : ∀ y ∈ vs', y ∈ vs ∨ y = keyOfV x) {o : Obj} (ho : w2.ownsRow (w0.heap.size + 1) 33 1 v' (ps.length + 1) (ps.map (·.1) ++ [x])) (hg2 : (w1.alloc o).grownBy w2 v.ownBlock) :
    NLev w0 w2 u n v' (done ++ [D]) (ps ++ [(x, kidsT D)]) vs' := by
  have hsz := h.sz
  have hlow : ∀ i, i ≤ w0.heap.size → w2.heap[i]? = w1.heap[i]? := fun i hi => by
    have h1 : i < w1.heap.size := Nat.lt_of_le_of_lt hi (Nat.lt_of_lt_of_le hsz hg.size)
    rw [hg2.block i (by simp; omega) (fun e => by have := (h.ow.lt i e.symm).1; omega), Below.heap_alloc _ _ _ h1]
  refine ⟨⟨?_, ?_, ?_, ?_, ?_⟩, ?_, ?_, ?_, ?_, ?_, ?_, ?_⟩
  · rw [hg2.os]; exact hg.os.trans h.bl.os
  · rw [hg2.tape]; exact hg.tape.trans h.bl.tape
  · rw [hg2.output]; exact hg.output.trans h.bl.output
  · have h1 := hg2.size
    have h2 := hg.size
    simp at h1
    omega
  · intro k hk
    rw [hlow k (by omega), hg.block k (by omega) (fun e => by injection e with e; omega)]
    exact h.bl.block k hk
  · exact set_block hs (hlow _ (Nat.le_refl _))
  · simpa using ho
  · intro p hp
    rcases List.mem_append.1 hp with hp | hp
    · exact h.ls p hp
    · rw [List.mem_singleton.1 hp]
      exact hx
  · intro y hy
    rcases hsub y hy with hy | rfl
    · obtain ⟨p, hp, e⟩ := h.ky y hy
      exact ⟨p, by simp [hp], e⟩
    · exact ⟨(x, kidsT D), by simp, rfl⟩
  · intro p hp
    rcases List.mem_append.1 hp with hp | hp
    · obtain ⟨E, hE, h2⟩ := h.fr p hp
      exact ⟨E, by simp [hE], h2⟩
    · rw [List.mem_singleton.1 hp]
      exact ⟨D, by simp, rfl⟩
  · have := h.tt
    unfold totL at this ⊢
    simp only [List.map_append, List.sum_append, List.map_cons, List.map_nil, List.sum_cons, List.sum_nil]
    rw [show sizeT (n + 1) D = 1 + ((kidsT D).map (sizeT n)).sum from rfl]
    omega
  · intro hu E hE hne
    rcases List.mem_append.1 hE with hE | hE
    · obtain ⟨p, hp, e⟩ := h.al hu E hE hne
      exact ⟨p, by simp [hp], e⟩
    · rw [List.mem_singleton.1 hE]
      exact ⟨(x, kidsT D), by simp, rfl⟩

theorem ntot_len {w : World} : ∀ {ps : List (Value × List Ty)}, (∀ p ∈ ps, NLst w u n p.1 p.2) → ps.length ≤ totL n ps
  | [], _ => Nat.zero_le _
  | p :: ps, h => by
    have ih := ntot_len (ps := ps) fun q hq => h q (by simp [hq])
    unfold totL at ih ⊢
    obtain ⟨b, o, c, _, hne, _, hk⟩ := h p (by simp)
    have h1 : 1 ≤ (p.2.map (sizeT n)).sum := by
      rcases hk with hk | ⟨_, _, _, _, hc⟩
      · exact absurd hk hne
      · obtain ⟨_, _, _, _, _, _, _, ht⟩ := hc 0 (List.length_pos_iff.2 hne)
        obtain ⟨m, rfl⟩ : ∃ m, n = m + 1 := by
          cases n with
          | zero => exact ht.elim
          | succ m => exact ⟨m, rfl⟩
        obtain ⟨D, ks, e⟩ := List.exists_cons_of_ne_nil hne
        rw [e, List.map_cons, List.sum_cons]
        have := size_pos (n := m) (D := D)
        omega
    simp only [List.map_cons, List.sum_cons, List.length_cons]
    omega
end
end Go.Proofs.YtmpcjcjacpjilabGreatDoor

/- tree.allOf over nodes, by contracts. -/
namespace Go.Proofs.YtmpcjcjacpjilabGreatDoor
open Go.RowKit

abbrev fitsN : Value := .func (.func 37) #[] #[]
abbrev kidsN : Value := .func (.func 36) #[] #[]
abbrev partsN (b : Nat) : Value := .func (.func 63) #[] #[.pointer (some ⟨b, 0, none⟩)]

/-- nodeFits answers so, of these nodes. -/
def NFit (w : World) (S : Ty → Prop) (fb : Ty → Bool) : Prop := ∀ (n k : Nat) (tx : ByteArray) (N : Nat) (ka : Option Addr) (kl kc : Nat) (D : Ty) (wx : World), Below w.heap.size w wx → S D → NdAt wx n k tx N ka kl kc D → Calls Tryz.prog 37 #[ndV k tx N ka kl kc] wx fun e w' => e = .returned (.bool (fb D)) ∧ Below wx.heap.size wx w'

theorem all_take {fb : Ty → Bool} {ks : List Ty} {j : Nat} (hj : j < ks.length) (h : (ks.take j).all fb = true) (hb : fb ks[j] = true) : (ks.take (j + 1)).all fb = true := by
  rw [List.take_succ_eq_append_getElem hj, List.all_append, h]
  simp [hb]

theorem all_no {α : Type} {fb : α → Bool} {ks : List α} {j : Nat} (hj : j < ks.length) (hb : fb ks[j] = false) : ks.all fb = false := by
  rw [List.all_eq_false]
  exact ⟨ks[j], List.getElem_mem hj, by rw [hb]; decide⟩

set_option maxHeartbeats 2000000 in
theorem allNodes_c (n : Nat) (S : Ty → Prop) (fb : Ty → Bool) (ka : Option Addr) (kc : Nat) (ks : List Ty) (w : World) (hF : NFit w S fb) (h : NKids w n ka ks) (hl : ks.length ≤ 140737488351232) (hs : ∀ x ∈ ks, S x) :
    Calls Tryz.prog 64 #[.slice ka ks.length kc, fitsN] w fun e w' => e = .returned (.bool (ks.all fb)) ∧ Below w.heap.size w w' := by
  have HK := hideP h
  have HF := hideP hF
  have HS := hideP hs
  obtain ⟨q, hq⟩ : ∃ q, q = ks.all fb := ⟨_, rfl⟩
  rw [← hq]
  have HQ := hideP hq
  clear h hF hs hq
  go_enter Tryz.func64, Tryz.ntmps64
  go_wp2_with fail
  go_loopw [9] (fun i wx => ∃ j : Nat, i = .int .i64 j ∧ j ≤ ks.length ∧ Hid ((ks.take j).all fb = true) ∧ Hid (Below w.heap.size w wx)) (fun i _ => ks.length - (intOf i).toNat)
  case atStart => exact ⟨0, rfl, Nat.zero_le _, show _ = _ by simp, Below.refl _ _⟩
  case round =>
    obtain ⟨j, rfl, hj, hall, hbl⟩ := hrel
    by_cases hlt : j < ks.length
    · have hjl : (j : Int) < (ks.length : Int) := by omega
      obtain ⟨b, o, k, tx, N, la, ll, lc, rfl, hb1, qc, ht⟩ := nkid_at HK.out hlt
      obtain ⟨r0, r1, r2, r3, r4, r5, r6, r7⟩ := qc.below hb1 hbl.out
      have hb2 := below_next hbl.out (bl_alloc wr (ndO k tx N la ll lc))
      have HC := hideP (HF.out n k tx N la ll lc _ _ hb2 (HS.out _ (List.getElem_mem hlt)) (nd_below ht hb2))
      have HB2 := hideP hb2
      clear ht hb2
      cases hfb : fb ks[j]
      · rw [hfb] at HC
        obtain rfl : q = false := by rw [HQ.out]; exact all_no hlt hfb
        clear hfb
        go_wp2_with fail
        refine HC.out.mono ?_
        rintro e w' ⟨rfl, hb'⟩
        have HB3 := hideP (below_next HB2.out hb')
        clear hb'
        go_wp2_with fail
        go_ret
        exact ⟨rfl, HB3.out⟩
      · rw [hfb] at HC
        have HA := hideP (all_take hlt hall.out hfb)
        clear hfb
        go_wp2_with fail
        refine HC.out.mono ?_
        rintro e w' ⟨rfl, hb'⟩
        have HB3 := hideP (below_next HB2.out hb')
        clear hb'
        go_wp2_with fail
        exact ⟨⟨j + 1, by go_num, by omega, HA, HB3⟩, by simp [intOf]; omega⟩
    · have hjl : ¬ (j : Int) < (ks.length : Int) := by omega
      obtain rfl : q = true := by
        rw [HQ.out]
        have := hall.out
        rw [List.take_of_length_le (by omega)] at this
        exact this
      go_wp2_with fail
      go_ret
      exact ⟨rfl, hbl.out⟩

theorem kidsOfN_c (k : Nat) (tx : ByteArray) (N : Nat) (ka : Option Addr) (kl kc : Nat) (w : World) :
    Calls Tryz.prog 36 #[ndV k tx N ka kl kc] w fun e w' => e = .returned (.slice ka kl kc) ∧ w' = w.alloc (ndO k tx N ka kl kc) := by
  go_enter Tryz.func36, Tryz.ntmps36
  go_wp2_with fail
  go_ret
  exact ⟨rfl, rfl⟩

set_option maxHeartbeats 2000000 in
theorem partsOfN_c (n b : Nat) (S : Ty → Prop) (fb : Ty → Bool) (ka : Option Addr) (kc : Nat) (ks : List Ty) (w : World) (hx : w.cell? ⟨b, 0, none⟩ = some fitsN) (hF : NFit w S fb) (h : NKids w n ka ks) (hl : ks.length ≤ 140737488351232) (hs : ∀ x ∈ ks, S x) :
    Calls Tryz.prog 63 #[.slice ka ks.length kc, .pointer (some ⟨b, 0, none⟩)] w fun e w' => e = .returned (.bool (ks.all fb)) ∧ Below w.heap.size w w' := by
  have HC := hideP (allNodes_c n S fb ka kc ks w hF h hl hs)
  clear h hF hs
  generalize ks.all fb = q at HC
  go_enter Tryz.func63, Tryz.ntmps63
  go_wp2_with fail
  refine HC.out.mono ?_
  rintro e w' ⟨rfl, hb⟩
  have HB := hideP hb
  clear hb
  go_wp2_with fail
  go_ret
  exact ⟨rfl, HB.out⟩

set_option maxHeartbeats 2000000 in
theorem allListsN_c (n b : Nat) (S : Ty → Prop) (fb : Ty → Bool) (a : Option Addr) (c : Nat) (qs : List (Value × List Ty)) (w : World) (hx : w.cell? ⟨b, 0, none⟩ = some fitsN) (hF : NFit w S fb) (hr : RowAt w a (qs.map (·.1))) (hq : ∀ q ∈ qs, NLst w true n q.1 q.2) (hl : qs.length ≤ 140737488351232) (hs : ∀ q ∈ qs, ∀ x ∈ q.2, S x) :
    Calls Tryz.prog 62 #[.slice a qs.length c, partsN b] w fun e w' => e = .returned (.bool (qs.all fun q => q.2.all fb)) ∧ Below w.heap.size w w' := by
  have HR := hideP hr
  have HQ := hideP hq
  have HS := hideP hs
  have HF := hideP hF
  have HX := hideP hx
  obtain ⟨r, hre⟩ : ∃ r, r = qs.all fun q => q.2.all fb := ⟨_, rfl⟩
  rw [← hre]
  have HRE := hideP hre
  clear hr hq hs hF hx hre
  go_enter Tryz.func62, Tryz.ntmps62
  go_wp2_with fail
  go_loopw [9] (fun i wx => ∃ j : Nat, i = .int .i64 j ∧ j ≤ qs.length ∧ Hid (∀ q ∈ qs.take j, q.2.all fb = true) ∧ Hid (Below w.heap.size w wx)) (fun i _ => qs.length - (intOf i).toNat)
  case atStart => exact ⟨0, rfl, Nat.zero_le _, fun q h => by simp at h, Below.refl _ _⟩
  case round =>
    obtain ⟨j, rfl, hj, hall, hbl⟩ := hrel
    by_cases hlt : j < qs.length
    · have hjl : (j : Int) < (qs.length : Int) := by omega
      have hr0 : ∃ b o, a = some ⟨b, o, none⟩ ∧ b < w.heap.size ∧ w.cell? ⟨b, o + j, none⟩ = some qs[j].1 := by
        rcases HR.out with h0 | ⟨b, o, e, hb, hc⟩
        · have := congrArg List.length h0
          rw [List.length_map, List.length_nil] at this
          omega
        · have := hc j (by simpa using hlt)
          rw [List.getElem_map] at this
          exact ⟨b, o, e, hb, this⟩
      obtain ⟨b0, o0, rfl, hb0, hcj⟩ := hr0
      obtain ⟨b1, o1, c1, e1, _, hll, hkids⟩ := HQ.out qs[j] (List.getElem_mem hlt)
      rw [e1] at hcj
      have hcr := (hbl.out.cell (p := ⟨b0, o0 + j, none⟩) hb0).trans hcj
      have hxr := (hbl.out.cell (p := ⟨b, 0, none⟩) (World.block_lt_of_cell? w _ HX.out)).trans HX.out
      have HC := hideP (partsOfN_c n b S fb (some ⟨b1, o1, none⟩) c1 qs[j].2 wr hxr (fun n k tx N ka kl kc D wx hwx => HF.out n k tx N ka kl kc D wx (below_next hbl.out hwx)) (nkids_below hkids hbl.out) hll (HS.out _ (List.getElem_mem hlt)))
      clear hcj e1 hll hkids hxr
      cases hfb : qs[j].2.all fb
      · rw [hfb] at HC
        obtain rfl : r = false := by rw [HRE.out]; exact all_no (fb := fun q : Value × List Ty => q.2.all fb) hlt hfb
        clear hfb
        go_wp2_with fail
        refine HC.out.mono ?_
        rintro e w' ⟨rfl, hb'⟩
        have HB3 := hideP (below_next hbl.out hb')
        clear hb'
        go_wp2_with fail
        go_ret
        exact ⟨rfl, HB3.out⟩
      · rw [hfb] at HC
        have HA : Hid (∀ q ∈ qs.take (j + 1), q.2.all fb = true) := fun q hq => by
          rw [List.take_succ_eq_append_getElem hlt, List.mem_append] at hq
          rcases hq with hq | hq
          · exact hall.out q hq
          · rw [List.mem_singleton.1 hq]
            exact hfb
        clear hfb
        go_wp2_with fail
        refine HC.out.mono ?_
        rintro e w' ⟨rfl, hb'⟩
        have HB3 := hideP (below_next hbl.out hb')
        clear hb'
        go_wp2_with fail
        exact ⟨⟨j + 1, by go_num, by omega, HA, HB3⟩, by simp [intOf]; omega⟩
    · have hjl : ¬ (j : Int) < (qs.length : Int) := by omega
      obtain rfl : r = true := by
        rw [HRE.out, List.all_eq_true]
        have := hall.out
        rw [List.take_of_length_le (by omega)] at this
        exact this
      go_wp2_with fail
      go_ret
      exact ⟨rfl, hbl.out⟩
end Go.Proofs.YtmpcjcjacpjilabGreatDoor

/- The keys by which tree.nextLevel tells lists from one another: as those of types. -/
namespace Go.Proofs.YtmpcjcjacpjilabGreatDoor
open Go.RowKit

theorem partN_ptr (xs : Array Value) (w : World) (a : Addr) (h : xs[0]? = some (.pointer (some a))) : (part 121 xs 0).run Tryz.prog w = .ok (.pointer (some a)) w := by
  simp [part, isAgg, run_underlying Tryz.underlying121, h]
theorem runN_eq_ptr (d : Nat) (w : World) (a b : Addr) : (Op.equalIn (d + 1) 121 (.pointer (some a)) (.pointer (some b))).run Tryz.prog w = (sameAddr a b).run Tryz.prog w := by
  simp [Op.equalIn, run_underlying Tryz.underlying121]

theorem stretchN_fields : Tryz.prog.underlying 123 = some (.struct (Tryz.prog.fieldsOf 123)) := by kernel_rfl
theorem stretchN_held : Tryz.prog.stoodInHeld 123 = false := by kernel_rfl

theorem run_eq_stretchN (d : Nat) {w : World} {a b : Addr} {m l : Nat} (ha : GoodA w a) (hb : GoodA w b) :
    ∃ r n, (Op.equalIn (d + 2) 123 (keyV a m) (keyV b l)).run Tryz.prog w = .ok r (w.drewN n) ∧ ((a = b ∧ m = l) → r = true) ∧ (PlainA w a → PlainA w b → (r = true → a = b ∧ m = l)) := by
  obtain ⟨r, n, h, h1, h2⟩ := run_sameAddr_any (P := Tryz.prog) ha hb
  unfold keyV
  rw [run_equalIn_struct _ _ _ _ _ stretchN_fields stretchN_held]
  simp only [Program.fieldsOf, Tryz.underlying123, Op.eqFields, ne_eq]
  simp only [show ¬ ("first" = "_") by decide, show ¬ ("length" = "_") by decide, not_false_eq_true, if_true, Sem.run_bind]
  simp only [partN_ptr _ _ a (show (#[Value.pointer (some a), .int .i64 m] : Array Value)[0]? = _ from rfl), partN_ptr _ _ b (show (#[Value.pointer (some b), .int .i64 l] : Array Value)[0]? = _ from rfl), Result.andThen_ok, runN_eq_ptr, h]
  cases r
  · refine ⟨false, n, by simp, fun e => ?_, fun _ _ e => by cases e⟩
    exact absurd (h1 e.1) (by decide)
  · refine ⟨m == l, n, ?_, fun e => by simp [e.2], fun p1 p2 e => ⟨h2 p1 p2 rfl, by simpa using e⟩⟩
    simp [part_len _ _ m (show (#[Value.pointer (some a), .int .i64 m] : Array Value)[1]? = _ from rfl), part_len _ _ l (show (#[Value.pointer (some b), .int .i64 l] : Array Value)[1]? = _ from rfl), run_eq_int]
    by_cases hml : m = l <;> simp [hml]

theorem stretchN_ok : KeyOK 123 GoodK PlainK where
  eq w x y hx hy := by
    obtain ⟨a, m, rfl, ha⟩ := hx
    obtain ⟨b, l, rfl, hb⟩ := hy
    obtain ⟨r, n, h, h1, h2⟩ := run_eq_stretchN 9998 (m := m) (l := l) ha hb
    refine ⟨r, n, h, fun e => h1 (keyV_inj e), fun p1 p2 e => ?_⟩
    obtain ⟨a', m', e1, p1⟩ := p1
    obtain ⟨b', l', e2, p2⟩ := p2
    obtain ⟨rfl, rfl⟩ := keyV_inj e1
    obtain ⟨rfl, rfl⟩ := keyV_inj e2
    obtain ⟨rfl, rfl⟩ := h2 p1 p2 e
    rfl
  check w em x hx := by
    obtain ⟨a, m, rfl, ha⟩ := hx
    kernel_rfl
  drew w n x hx := hx
  drewP w n x hx := hx
  now w x y hx := by
    obtain ⟨a, m, rfl, ha⟩ := hx
    exact ⟨_, Tryz.underlying123, rfl⟩
end Go.Proofs.YtmpcjcjacpjilabGreatDoor

/- tree.nextLevel over nodes, by a contract. -/
namespace Go.Proofs.YtmpcjcjacpjilabGreatDoor
open Go.RowKit

theorem info_lstN : (Tryz.prog.info? 33).map (fun i => (i.zero, i.size, i.bytes)) = some (some (.slice none 0 0), 1, 24) := by kernel_rfl

theorem ownN_up {w0 wr w1 : World} {u : Bool} {n : Nat} {v : Value} {done : List Ty} {ps : List (Value × List Ty)} {vs : List Value} (h : NLev w0 wr u n v done ps vs) (hg : wr.grownBy w1 (some w0.heap.size)) : w1.ownsRow (w0.heap.size + 1) 33 1 v ps.length (ps.map (·.1)) :=
  h.ow.kept hg (.inr fun e => by have := (h.ow.lt _ e).1; omega)

/-- What nextLevel leaves. -/
def NextPostN (w : World) (u : Bool) (n : Nat) (Ds : List Ty) (e : Ending) (w' : World) : Prop :=
  ∃ v ps vs, e = .returned v ∧ NLev w w' u n v Ds ps vs

set_option maxHeartbeats 4000000 in
set_option maxRecDepth 100000 in
theorem trNextN_c (u : Bool) (n : Nat) (qs : List (Value × List Ty)) (a : Option Addr) (c : Nat) (w : World) (hr : RowAt w a (qs.map (·.1))) (hq : ∀ q ∈ qs, NLst w u (n + 1) q.1 q.2) (ht : totL (n + 1) qs ≤ 1000) :
    Calls Tryz.prog 65 #[.slice a qs.length c, kidsN] w (NextPostN w u n (qs.map (·.2)).flatten) := by
  have hql : qs.length ≤ 1000 := Nat.le_trans (ntot_len hq) ht
  obtain ⟨i0, hi, hz0, hz1, hz2⟩ := info_parts info_lstN
  have hmm := @run_makeMap Tryz.prog
  have HR := hideP hr
  have HQ := hideP hq
  have HTT := hideP ht
  clear hr hq ht
  go_enter Tryz.func65, Tryz.ntmps65
  go_wp2_with fail
  go_loopw [5, 18] (fun v i wr => ∃ (j : Nat) (ps : List (Value × List Ty)) (vs : List Value), i = .int .i64 j ∧ j ≤ qs.length ∧ Hid (NLev w wr u n v ((qs.map (·.2)).take j).flatten ps vs)) (fun _ i _ => qs.length - (intOf i).toNat)
  case atStart =>
    refine ⟨0, [], [], rfl, Nat.zero_le _, ?_⟩
    refine ⟨bl_alloc _ _, set_made w, World.ownsRow_nil .., by simp, by simp, by simp, ?_, ?_⟩
    · simp [totL]
    · simp
  case round =>
    obtain ⟨j, ps, vs, rfl, hj, hL⟩ := hrel
    by_cases hlt : j < qs.length
    · have hjl : (j : Int) < (qs.length : Int) := by omega
      have hr0 : ∃ b o, a = some ⟨b, o, none⟩ ∧ b < w.heap.size ∧ w.cell? ⟨b, o + j, none⟩ = some qs[j].1 := by
        rcases HR.out with h0 | ⟨b, o, e, hb, hc⟩
        · have := congrArg List.length h0
          rw [List.length_map, List.length_nil] at this
          omega
        · have := hc j (by simpa using hlt)
          rw [List.getElem_map] at this
          exact ⟨b, o, e, hb, this⟩
      obtain ⟨b, o, rfl, hbl, hcj⟩ := hr0
      have hls := HQ.out qs[j] (List.getElem_mem hlt)
      obtain ⟨b1, o1, c1, e1, hne, hll, hkids⟩ := hls
      have hll' : qs[j].2.length ≤ 140737488351232 := hll
      rw [e1] at hcj
      have hcr := (hL.out.bl.cell (p := ⟨b, o + j, none⟩) hbl).trans hcj
      obtain ⟨Ds, hDs⟩ : ∃ Ds, Ds = qs[j].2 := ⟨_, rfl⟩
      rw [← hDs] at hcr hll' hkids hne
      have hDM : Hid (Ds = qs[j].2) := hDs
      have HK := hideP hkids
      have HNE := hideP hne
      clear hcj e1 hkids hll hDs hne
      go_wp2_with fail
      go_loopw [5, 24] (fun v i wr => ∃ (k : Nat) (ps : List (Value × List Ty)) (vs : List Value), i = .int .i64 k ∧ k ≤ Ds.length ∧ Hid (NLev w wr u n v (((qs.map (·.2)).take j).flatten ++ Ds.take k) ps vs)) (fun _ i _ => Ds.length - (intOf i).toNat)
      case atStart => exact ⟨0, ps, vs, rfl, Nat.zero_le _, by simpa using hL⟩
      case round =>
        obtain ⟨k, ps, vs, rfl, hk, hL⟩ := hrel
        by_cases hkt : k < Ds.length
        · have hkl : (k : Int) < (Ds.length : Int) := by omega
          obtain ⟨_, _, k', tx', N', la', ll', lc', e2, hbl1, qc, hty⟩ := nkid_at HK.out hkt
          injection e2 with e2
          injection e2 with e3 e4
          subst e3 e4
          obtain ⟨r0, r1, r2, r3, r4, r5, r6, r7⟩ := qc.below hbl1 hL.out.bl
          obtain ⟨ks', e5, e6, _, _, _, _, hkl', hk2⟩ := hty
          subst e5
          clear qc
          by_cases hz : ks' = []
          · subst hz
            clear HK HR HQ
            have hLn := hideP (((hL.out.grow (World.grownBy_alloc _ (ndO k' tx' N' la' 0 lc') none)).grow (World.grownBy_alloc _ (ndO k' tx' N' la' 0 lc') none)).skip (D := Ds[k]) (by rw [e6]; rfl))
            clear e6 hk2 hkl'
            go_wp2_with fail
            refine (kidsOfN_c _ _ _ _ _ _ _).mono ?_
            rintro e w1 ⟨rfl, rfl⟩
            go_wp2_with fail
            refine ⟨⟨k + 1, ps, vs, by go_num, by omega, ?_⟩, by simp [intOf]; omega⟩
            rw [List.take_succ_eq_append_getElem hkt, ← List.append_assoc]
            exact hLn.out
          · have hlst : NLst w u n (.slice la' ks'.length lc') (kidsT Ds[k]) := by
              rw [e6]
              rcases hk2 with h0 | ⟨b2, o2, rfl, h3⟩
              · exact absurd h0 hz
              · exact ⟨b2, o2, lc', rfl, hz, Nat.le_trans hkl' (by decide), .inr ⟨b2, o2, rfl, h3⟩⟩
            obtain ⟨b2, o2, _, e7, hbl2, hgood, hplain, _, _⟩ := hlst.good
            injection e7 with e7 e8 e9
            subst e7
            have hkl2 : ks'.length ≤ 140737488351232 := Nat.le_trans hkl' (by decide)
            have hk1 : 1 ≤ ks'.length := List.length_pos_iff.2 hz
            have hzk : ((ks'.length : Int) == 0) = false := by rw [beq_eq_false_iff_ne]; omega
            have HLST := hideP hlst
            have HGD := hideP ((((hgood.below hL.out.bl).below (bl_alloc wr (ndO k' tx' N' (some ⟨b2, o2, none⟩) ks'.length lc'))).below (bl_alloc _ (ndO k' tx' N' (some ⟨b2, o2, none⟩) ks'.length lc'))).below (bl_alloc _ (.cells #[.pointer (some ⟨b2, o2, none⟩), .int .i64 ks'.length] 123)))
            have HL1 := hideP (((hL.out.grow (World.grownBy_alloc _ (ndO k' tx' N' (some ⟨b2, o2, none⟩) ks'.length lc') none)).grow (World.grownBy_alloc _ (ndO k' tx' N' (some ⟨b2, o2, none⟩) ks'.length lc') none)).grow (World.grownBy_alloc _ (.cells #[.pointer (some ⟨b2, o2, none⟩), .int .i64 ks'.length] 123) none))
            clear e6 e8 e9 hk2 hkl' HK HR HQ hlst hgood hplain hz
            go_wp2_with fail
            refine (kidsOfN_c _ _ _ _ _ _ _).mono ?_
            rintro e w1 ⟨rfl, rfl⟩
            have htl : ps.length ≤ 1000 := by
              have h1 := ntot_len HL1.out.ls
              have h2 := HL1.out.tt
              have h3 : ((((qs.map (·.2)).take j).flatten ++ Ds.take k).map (sizeT (n + 1))).sum ≤ totL (n + 1) qs := by
                rw [hDM.out]
                exact done_le qs j k hlt
              have := HTT.out
              omega
            go_wp2_with (first | (at_lookup; refine wpList_set_look rfl _ _ 120 rfl stretchN_ok Tryz.underlying120 unit_zero w.heap.size vs rfl HL1.out.st _ rfl ⟨_, _, rfl, HGD.out⟩ HL1.out.goodK ?_; intro r nd hno hyes; have HL2 := hideP ((HL1.out.grow (grown_drewN _ nd none)).grow (World.grownBy_alloc _ (.cells #[] 61) none)); have HGD2 := hideP ((HGD.out.drew nd).below (bl_alloc _ (.cells #[] 61))); have HYES := hideP hyes; clear hno hyes) | (at_mapUpdate; refine wpList_set_store rfl _ _ _ 120 rfl stretchN_ok Tryz.underlying120 w.heap.size vs rfl HL2.out.st _ rfl rfl ⟨_, _, rfl, HGD2.out⟩ HL2.out.goodK ?_; intro w3 vs' hst hgr hsub hall; have HST := hideP hst; have HGR := hideP hgr; have HSUB := hideP hsub; have HOW := hideP (ownN_up HL2.out hgr); have hs3 : w.heap.size + 1 ≤ w3.heap.size := Nat.le_trans HL2.out.sz hgr.size; clear hst hgr hsub hall) | (at_builtin; refine wpList_append_own _ rfl (.tmp 50) (.tmp 52) 101 rfl (w.heap.size + 1) 33 i0 _ 1 24 Tryz.underlying101 hi hz0 hz1 hz2 rfl (by decide) _ _ _ rfl (HOW.out.alloc _) ⟨_, 0, none⟩ 1 1 [.slice (some ⟨b2, o2, none⟩) ks'.length lc'] rfl rfl (one_new _ _ _) (by simp [Value.oneCell']) (by unfold maxLen; omega) (by omega) (by simp; omega) ?_; intro v' w4 hown' hgrow _; have HOWN := hideP hown'; have HGROW := hideP hgrow; clear hown' hgrow))
            · have HL5 := hideP (HL2.out.add (D := Ds[k]) HLST.out HST.out HGR.out HSUB.out HOWN.out HGROW.out)
              clear HL1 HGD HYES HL2 HGD2 HST HGR HSUB HOW HOWN HGROW
              refine ⟨⟨k + 1, ps ++ [(.slice (some ⟨b2, o2, none⟩) ks'.length lc', kidsT Ds[k])], vs', by go_num, by omega, ?_⟩, by simp [intOf]; omega⟩
              rw [List.take_succ_eq_append_getElem hkt, ← List.append_assoc]
              exact HL5.out
            · have hr : r = true := by cases r <;> simp_all
              have HL3 := hideP (((HL1.out.had (D := Ds[k]) HLST.out (HYES.out hr)).grow (grown_drewN _ nd none)).grow (World.grownBy_alloc _ (.cells #[] 61) none))
              clear HL1 HGD HYES HL2 HGD2
              refine ⟨⟨k + 1, ps, vs, by go_num, by omega, ?_⟩, by simp [intOf]; omega⟩
              rw [List.take_succ_eq_append_getElem hkt, ← List.append_assoc]
              exact HL3.out
        · have hkl : ¬ (k : Int) < (Ds.length : Int) := by omega
          clear HK HR HQ
          go_wp2_with fail
          refine ⟨⟨j + 1, ps, vs, by go_num, by omega, ?_⟩, by simp [intOf]; omega⟩
          rw [flat_take _ _ (by simpa using hlt), List.getElem_map]
          have := hL.out
          rw [List.take_of_length_le (l := Ds) (by omega), hDM.out] at this
          exact this
    · have hjl : ¬ (j : Int) < (qs.length : Int) := by omega
      clear HR HQ
      go_wp2_with fail
      go_ret
      have := hL.out
      rw [List.take_of_length_le (by simp; omega)] at this
      exact ⟨_, ps, vs, rfl, this⟩
end Go.Proofs.YtmpcjcjacpjilabGreatDoor

/- types.Height by a contract. -/
namespace Go.Proofs.YtmpcjcjacpjilabGreatDoor
open Go.RowKit

def hiL (n : Nat) (ps : List (Value × List Ty)) : Nat := maxL (ps.map fun p => maxL (p.2.map (heightT n)))

theorem lev_height {w0 wr : World} {n : Nat} {v : Value} {Ds : List Ty} {ps : List (Value × List Ty)} {vs : List Value} (h : Lev w0 wr true n v Ds ps vs) (hne : Ds ≠ []) : 1 + hiL n ps = maxL (Ds.map (heightT (n + 1))) := by
  apply Nat.le_antisymm
  · have h1 : hiL n ps ≤ maxL (Ds.map (heightT (n + 1))) - 1 := by
      refine maxL_le fun a ha => ?_
      obtain ⟨p, hp, rfl⟩ := List.mem_map.1 ha
      obtain ⟨D, hD, e⟩ := h.fr p hp
      have := le_maxL (List.mem_map.2 ⟨D, hD, rfl⟩ : heightT (n + 1) D ∈ Ds.map (heightT (n + 1)))
      rw [heightT] at this
      rw [e]
      omega
    obtain ⟨D, rest, e⟩ := List.exists_cons_of_ne_nil hne
    have h2 := le_maxL (List.mem_map.2 ⟨D, by rw [e]; simp, rfl⟩ : heightT (n + 1) D ∈ Ds.map (heightT (n + 1)))
    rw [heightT] at h2
    omega
  · refine maxL_le fun a ha => ?_
    obtain ⟨D, hD, rfl⟩ := List.mem_map.1 ha
    rw [heightT]
    by_cases hk : kidsT D = []
    · rw [hk]
      simp [maxL]
    · obtain ⟨p, hp, e⟩ := h.al rfl D hD hk
      have := le_maxL (List.mem_map.2 ⟨p, hp, rfl⟩ : maxL (p.2.map (heightT n)) ∈ ps.map fun p => maxL (p.2.map (heightT n)))
      rw [e] at this
      unfold hiL
      omega

theorem hiL_pos {w : World} {u : Bool} {n : Nat} {ps : List (Value × List Ty)} (h : ∀ p ∈ ps, LstAt w u n p.1 p.2) (hne : ps ≠ []) : 1 ≤ hiL n ps := by
  obtain ⟨p, rest, rfl⟩ := List.exists_cons_of_ne_nil hne
  obtain ⟨b, o, c, _, hne2, _, hk⟩ := h p (by simp)
  obtain ⟨D, ks, e⟩ := List.exists_cons_of_ne_nil hne2
  have hm : ∃ m, n = m + 1 := by
    rcases hk with hk | ⟨_, _, _, _, _, _, hc⟩
    · exact absurd hk hne2
    · obtain ⟨_, _, _, _, _, _, _, _, ht⟩ := hc 0 (List.length_pos_iff.2 hne2)
      cases n with
      | zero => exact ht.elim
      | succ m => exact ⟨m, rfl⟩
  obtain ⟨m, rfl⟩ := hm
  have h1 := le_maxL (List.mem_map.2 ⟨D, by rw [e]; simp, rfl⟩ : heightT (m + 1) D ∈ p.2.map (heightT (m + 1)))
  have h2 := le_maxL (List.mem_map.2 ⟨p, by simp, rfl⟩ : maxL (p.2.map (heightT (m + 1))) ∈ (p :: rest).map fun p => maxL (p.2.map (heightT (m + 1))))
  rw [heightT] at h1
  unfold hiL
  omega

theorem hiL_flat (n : Nat) (ps : List (Value × List Ty)) : hiL n ps = maxL ((ps.map (·.2)).flatten.map (heightT n)) := by
  apply Nat.le_antisymm
  · refine maxL_le fun a ha => ?_
    obtain ⟨p, hp, rfl⟩ := List.mem_map.1 ha
    refine maxL_le fun x hx => le_maxL ?_
    obtain ⟨D, hD, rfl⟩ := List.mem_map.1 hx
    exact List.mem_map.2 ⟨D, List.mem_flatten.2 ⟨p.2, List.mem_map.2 ⟨p, hp, rfl⟩, hD⟩, rfl⟩
  · refine maxL_le fun a ha => ?_
    obtain ⟨D, hD, rfl⟩ := List.mem_map.1 ha
    obtain ⟨L, hL, hD⟩ := List.mem_flatten.1 hD
    obtain ⟨p, hp, rfl⟩ := List.mem_map.1 hL
    exact Nat.le_trans (le_maxL (List.mem_map.2 ⟨D, hD, rfl⟩)) (le_maxL (List.mem_map.2 ⟨p, hp, rfl⟩ : maxL (p.2.map (heightT n)) ∈ ps.map fun p => maxL (p.2.map (heightT n))))

theorem tot_flat (n : Nat) (ps : List (Value × List Ty)) : ((ps.map (·.2)).flatten.map (sizeT n)).sum = totL n ps := by
  rw [sum_flat, List.map_map]
  rfl

theorem flat_ne {w : World} {u : Bool} {n : Nat} {ps : List (Value × List Ty)} (h : ∀ p ∈ ps, LstAt w u n p.1 p.2) (hne : ps ≠ []) : (ps.map (·.2)).flatten ≠ [] := by
  obtain ⟨p, rest, rfl⟩ := List.exists_cons_of_ne_nil hne
  obtain ⟨b, o, c, _, hne2, _, hk⟩ := h p (by simp)
  simp [hne2]

/-- A level in memory, as Height keeps it. -/
def LevelAt (w : World) (u : Bool) (m : Nat) (v : Value) (ps : List (Value × List Ty)) : Prop :=
  ∃ a c, v = .slice a ps.length c ∧ RowAt w a (ps.map (·.1)) ∧ (∀ p ∈ ps, LstAt w u m p.1 p.2) ∧ totL m ps ≤ 1000

theorem level_of_lev {w0 wr : World} {u : Bool} {n : Nat} {v : Value} {Ds : List Ty} {ps : List (Value × List Ty)} {vs : List Value} (h : Lev w0 wr u n v Ds ps vs) (ht : (Ds.map (sizeT (n + 1))).sum ≤ 1000) : LevelAt wr u n v ps := by
  obtain ⟨a, c, e, hr, _⟩ := row_of_owns h.ow
  rw [List.length_map] at e
  exact ⟨a, c, e, hr, fun p hp => lst_below (h.ls p hp) h.bl, Nat.le_trans h.tt ht⟩

/-- The first level: one list of one type. -/
theorem first_level {w : World} {u : Bool} {n : Nat} {k : Int} {nm : ByteArray} {na : Option Addr} {nl nc : Nat} {ka : Option Addr} {kl kc : Nat} {D : Ty} {B : Nat} (hB : B = w.heap.size) (h : TyAt w u n (.agg #[.int .i64 k, .string nm, .slice na nl nc, .slice ka kl kc]) D) (hs : sizeT n D ≤ 1000) :
    LevelAt ((w.alloc (tyO k nm na nl nc ka kl kc)).alloc (.cells #[.slice (some ⟨B, 0, none⟩) 1 1] 23)) u n (.slice (some ⟨B + 1, 0, none⟩) 1 1) [(.slice (some ⟨B, 0, none⟩) 1 1, [D])] := by
  subst hB
  have hb := below_next (bl_alloc w (tyO k nm na nl nc ka kl kc)) (bl_alloc _ (.cells #[.slice (some ⟨w.heap.size, 0, none⟩) 1 1] 23))
  have h0 : ((w.alloc (tyO k nm na nl nc ka kl kc)).alloc (.cells #[.slice (some ⟨w.heap.size, 0, none⟩) 1 1] 23)).heap[w.heap.size]? = some (tyO k nm na nl nc ka kl kc) := by
    rw [Below.heap_alloc _ _ _ (by simp)]
    exact heap_alloc_last w _
  have h1 : ((w.alloc (tyO k nm na nl nc ka kl kc)).alloc (.cells #[.slice (some ⟨w.heap.size, 0, none⟩) 1 1] 23)).heap[w.heap.size + 1]? = some (.cells #[.slice (some ⟨w.heap.size, 0, none⟩) 1 1] 23) := by
    have := heap_alloc_last (w.alloc (tyO k nm na nl nc ka kl kc)) (.cells #[.slice (some ⟨w.heap.size, 0, none⟩) 1 1] 23)
    simpa using this
  refine ⟨_, _, rfl, .inr ⟨_, 0, rfl, lt_of_block h1, fun i hi => ?_⟩, fun p hp => ?_, by simpa [totL] using hs⟩
  · obtain rfl : i = 0 := by simp at hi; omega
    rw [cell_of_row _ _ _ _ _ _ h1]
    rfl
  · rw [List.mem_singleton.1 hp]
    refine ⟨_, _, _, rfl, by simp, by simp [reachBytes], .inr ⟨_, _, rfl, lt_of_block h0, by simp [World.frozen?, h0], fun _ => ⟨_, _, h0⟩, fun i hi => ?_⟩⟩
    obtain rfl : i = 0 := by simp at hi; omega
    refine ⟨_, _, _, _, ?_, ?_, ?_, ?_, ty_below h hb⟩ <;> (rw [cell_of_row _ _ _ _ _ _ h0]; rfl)

theorem next_c (u : Bool) (n : Nat) (v : Value) (ps : List (Value × List Ty)) (w : World) (h : LevelAt w u (n + 1) v ps) : Calls Tryz.prog 20 #[v] w (NextPost w u n (ps.map (·.2)).flatten) := by
  obtain ⟨a, c, rfl, hr, hls, ht⟩ := h
  exact nextLevel_c u n ps a c w hr hls ht

theorem next_zero (u : Bool) (v : Value) (ps : List (Value × List Ty)) (w : World) (h : LevelAt w u 0 v ps) : ps = [] := by
  obtain ⟨a, c, _, _, hls, _⟩ := h
  cases ps with
  | nil => rfl
  | cons p ps =>
    obtain ⟨b, o, c, _, hne2, _, hk⟩ := hls p (by simp)
    rcases hk with hk | ⟨_, _, _, _, _, _, hc⟩
    · exact absurd hk hne2
    · obtain ⟨_, _, _, _, _, _, _, _, ht⟩ := hc 0 (List.length_pos_iff.2 hne2)
      exact ht.elim

set_option maxHeartbeats 4000000 in
set_option maxRecDepth 100000 in
theorem height_c (u : Bool) (n : Nat) (v : Value) (D : Ty) (w : World) (h : TyAt w u n v D) (hs : sizeT n D ≤ 1000) :
    Calls Tryz.prog 11 #[v] w fun e w' => (∃ r : Nat, e = .returned (.int .i64 r) ∧ 1 ≤ r ∧ r ≤ 17 ∧ (u = true → r = min (heightT n D) 17)) ∧ Below w.heap.size w w' := by
  cases n with
  | zero => exact h.elim
  | succ n =>
    have hh := h
    obtain ⟨k, nm, na, nc, ka, kc, ns, ks, rfl, rfl, _⟩ := h
    have hb1 := bl_alloc w (tyO k nm na ns.length nc ka ks.length kc)
    have hf := first_level (B := w.heap.size + 1) (by simp) (ty_below hh hb1) hs
    have HN := hideP (next_c u n _ _ _ hf)
    have hsum : (([(Value.slice (some ⟨w.heap.size + 1, 0, none⟩) 1 1, [mkT k nm.data.toList ns ks])].map (·.2)).flatten.map (sizeT (n + 1))).sum ≤ 1000 := by simpa using hs
    have HS := hideP hsum
    have HF := hideP hf
    clear hf hh hb1 hsum
    go_enter Tryz.func11, Tryz.ntmps11
    go_wp2_with fail
    refine HN.out.mono ?_
    rintro e w1 ⟨v, ps, vs, rfl, hlev⟩
    have HL := hideP hlev
    have HLV := hideP (level_of_lev hlev HS.out)
    have HB := hideP (((bl_alloc w (tyO k nm na ns.length nc ka ks.length kc)).trans ((((Below.refl _ _).alloc (by simp) _).alloc (by simp; omega) _).trans (hlev.bl.mono (by simp; omega)))))
    have HI : Hid (u = true → hiL n ps + 1 = heightT (n + 1) (mkT k nm.data.toList ns ks)) := by
      intro hu
      subst hu
      have := lev_height hlev (by simp)
      simp [maxL] at this
      omega
    clear hlev HL HN HF HS
    go_wp2_with fail
    go_loopw [3, 4] (fun s l wr => ∃ (h m : Nat) (ps : List (Value × List Ty)), s = .int .i64 h ∧ 1 ≤ h ∧ h ≤ 17 ∧ Hid (LevelAt wr u m l ps) ∧ Hid (u = true → hiL m ps + h = heightT (n + 1) (mkT k nm.data.toList ns ks)) ∧ Hid (Below w.heap.size w wr)) (fun s _ _ => 17 - (intOf s).toNat)
    case atStart => exact ⟨1, n, ps, rfl, by omega, by omega, HLV, HI, HB⟩
    case round =>
      obtain ⟨h, m, ps, rfl, h1, h2, hlv, hhi, hb⟩ := hrel
      have hlv' := hlv.out
      obtain ⟨a, c, rfl, hrow, hls, htot⟩ := hlv'
      have htl : ps.length ≤ 1000 := Nat.le_trans (tot_len hls) htot
      have HLS := hideP hls
      have HT := hideP htot
      clear hrow hls htot HLV HI HB
      by_cases hz : ps = []
      · subst hz
        clear hlv HLS
        go_wp2_with fail
        go_ret
        refine ⟨⟨h, rfl, h1, h2, fun hu => ?_⟩, hb.out⟩
        have := hhi.out hu
        simp [hiL, maxL] at this
        omega
      · have hp : 1 ≤ ps.length := List.length_pos_iff.2 hz
        have hpi : (0 : Int) < (ps.length : Int) := by omega
        by_cases hh : h = 17
        · subst hh
          have HP := hideP (hiL_pos HLS.out hz)
          clear hlv hz
          go_wp2_with fail
          go_ret
          refine ⟨⟨17, rfl, h1, h2, fun hu => ?_⟩, hb.out⟩
          have := hhi.out hu
          omega
        · have hl : (h : Int) ≤ 16 := by omega
          cases m with
          | zero => exact absurd (next_zero u _ _ _ hlv.out) hz
          | succ m =>
            have HN := hideP (next_c u m _ _ _ hlv.out)
            have HNE := hideP (flat_ne HLS.out hz)
            clear hlv hz
            go_wp2_with fail
            refine HN.out.mono ?_
            rintro e w2 ⟨v2, ps2, vs2, rfl, hlev⟩
            have HLV2 := hideP (level_of_lev hlev (by rw [tot_flat]; exact HT.out))
            have HB2 := hideP (below_next hb.out hlev.bl)
            have HI2 : Hid (u = true → hiL m ps2 + (h + 1) = heightT (n + 1) (mkT k nm.data.toList ns ks)) := by
              intro hu
              have := hhi.out hu
              subst hu
              have h3 := lev_height hlev HNE.out
              rw [← hiL_flat] at h3
              omega
            clear hlev HN HNE hhi hb HLS HT
            go_wp2_with fail
            exact ⟨⟨h + 1, m, ps2, by go_num, by omega, by omega, HLV2, HI2, HB2⟩, by simp [intOf]; omega⟩
end Go.Proofs.YtmpcjcjacpjilabGreatDoor
