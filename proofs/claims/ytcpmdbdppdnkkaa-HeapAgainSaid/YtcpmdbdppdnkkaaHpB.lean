/- graduslaw16.HeapAgain: the walk. -/
import Derived.Test.YtcpmdbdppdnkkaaHpF
import Derived.Test.YtcpmdbdppdnkkaaHpN
namespace Go.Proofs.Ytcpmdbdppdnkkaa
open Go.RowKit Go.ChangeShapes Go.WideShapes Go.ChangeAt

/-- What stands between two calls: each reference is an object's, no two are one. -/
structure AgM (C : Nat) (M : Hp) (rs : List Int) : Prop where
  has : ∀ r ∈ rs, hasM M r
  nd : rs.Nodup
  used : usedM M ≤ C
theorem nodup_sub : ∀ {ks L : List Int}, ks.Nodup → (∀ k ∈ ks, k ∈ L) → ks.length ≤ L.length
  | [], _, _, _ => Nat.zero_le _
  | k :: ks, L, hd, hm => by
    rw [List.nodup_cons] at hd
    have h1 := nodup_sub (ks := ks) (L := L.erase k) hd.2 fun x hx => (List.mem_erase_of_ne (by rintro rfl; exact hd.1 hx)).2 (hm x (List.mem_cons_of_mem _ hx))
    rw [List.length_erase_of_mem (hm k (List.mem_cons_self ..))] at h1
    have := List.length_pos_of_mem (hm k (List.mem_cons_self ..))
    rw [List.length_cons]
    omega
theorem len_used : ∀ M : Hp, M.length ≤ usedM M
  | [] => Nat.le_refl _
  | p :: M => by
    have h := len_used M
    have e : usedM (p :: M) = p.2.length + 1 + usedM M := used_push (x := p.1) (l := p.2)
    rw [List.length_cons]
    omega
theorem keys_used {M : Hp} {ks : List Int} (hd : ks.Nodup) (h : ∀ k ∈ ks, hasM M k) : ks.length ≤ usedM M := by
  have h1 := nodup_sub (L := M.map (·.1)) hd fun k hk => by
    obtain ⟨l, hl⟩ := h k hk
    exact List.mem_map.2 ⟨_, hl, rfl⟩
  rw [List.length_map] at h1
  exact Nat.le_trans h1 (len_used M)
theorem AgM.push {C : Nat} {M : Hp} {rs : List Int} {x : Int} {l : List SlotV} (h : AgM C M rs) (hx : ¬ hasM M x) (hu : usedM M + l.length + 1 ≤ C) : AgM C ((x, l) :: M) (rs ++ [x]) := by
  refine ⟨fun r hr => ?_, ?_, by rw [used_push]; omega⟩
  · rcases List.mem_append.1 hr with hr | hr
    · obtain ⟨l', hl⟩ := h.has r hr
      exact ⟨l', List.mem_cons_of_mem _ hl⟩
    · rw [List.mem_singleton.1 hr]
      exact ⟨l, List.mem_cons_self ..⟩
  · rw [List.nodup_append]
    exact ⟨h.nd, by simp, fun a ha b hb => by rw [List.mem_singleton] at hb; subst hb; rintro rfl; exact hx (h.has a ha)⟩
theorem tmod_index (x : Int) {n : Nat} (hn : 0 < n) (h60 : n ≤ 60) : ∃ q : Nat, (wrap64 (x.tmod n + n)).tmod n = (q : Int) ∧ q < n := by
  have h1 : -(n : Int) < x.tmod n ∧ x.tmod n < n := by
    rcases Int.le_total 0 x with h | h
    · rw [Int.tmod_eq_emod_of_nonneg h]
      have := Int.emod_nonneg x (show (n : Int) ≠ 0 by omega)
      have := Int.emod_lt_of_pos x (show 0 < (n : Int) by omega)
      omega
    · have h2 : x.tmod n = -((-x).tmod n) := by rw [Int.neg_tmod, Int.neg_neg]
      rw [h2, Int.tmod_eq_emod_of_nonneg (by omega)]
      have := Int.emod_nonneg (-x) (show (n : Int) ≠ 0 by omega)
      have := Int.emod_lt_of_pos (-x) (show 0 < (n : Int) by omega)
      omega
  have h2 : wrap64 (x.tmod n + n) = x.tmod n + n := by unfold wrap64; omega
  rw [h2, Int.tmod_eq_emod_of_nonneg (by omega)]
  have h3 := Int.emod_nonneg (x.tmod n + n) (show (n : Int) ≠ 0 by omega)
  have h4 := Int.emod_lt_of_pos (x.tmod n + n) (show 0 < (n : Int) by omega)
  exact ⟨((x.tmod n + n) % n).toNat, by omega, by omega⟩
theorem take_not {rs : List Int} (hd : rs.Nodup) {n : Nat} (hn : n < rs.length) : rs[n] ∉ rs.take n := fun h => by
  obtain ⟨i, hi, e⟩ := List.getElem_of_mem h
  rw [List.length_take] at hi
  rw [List.getElem_take] at e
  have := (List.getElem_inj hd).1 e
  omega
theorem cells_newS (W : World) (N : Nat) (hN : W.heap.size = N) (c : List Value) (t : TypeId) : ∀ j u, c[j]? = some u → (W.alloc (.cells c.toArray t)).cell? ((⟨N, 0, none⟩ : Addr).add j) = some u := by
  subst hN
  exact cells_newK W c t
set_option maxRecDepth 100000 in
set_option maxHeartbeats 8000000 in
theorem heapAgain_c (cells : Int) (a : Option Addr) (cap : Nat) (l : List OpH) (roots : Int) (w : World) (hc : (Lit.int .i64 cells).wf = true) (h : OpsIn w a l.length cap l) (hr : (Lit.int .i64 roots).wf = true) :
    Calls Try.prog 4 #[.int .i64 cells, .slice a l.length cap, .int .i64 roots] w fun e w' => e = .returned (.bool true) ∧ Below w.heap.size w w' := by
  obtain ⟨hv, hln⟩ := h
  have HV := hideP hv
  have hcb := bounds_i64 hc
  have hrb := bounds_i64 hr
  have HFW : Hid (∀ W, Below w.heap.size w W → Calls Try.prog 9 #[.slice a l.length cap] W fun e w' => e = .returned (.bool (fewB l)) ∧ Ch noB W w') := fun W hW => few_c _ a cap l W (HV.out.ch (Ch.of (S := noB) hW) fun _ _ _ h => h) hln
  clear hv hc hr
  by_cases hbad : fewB l = false ∨ cells > 1000 ∨ cells < 0
  · have hf : fewB l = false ∨ fewB l = true := by cases fewB l <;> simp
    obtain ⟨R, hR⟩ : ∃ R, R = fewB l := ⟨_, rfl⟩
    rw [← hR] at HFW hbad hf
    clear hR
    rcases hf with rfl | rfl
    all_goals
      go_enter Try.func4, Try.ntmps4
      go_wp2_with fail
      refine (awake_c _).mono ?_
      rintro e w0 ⟨rfl, hb0⟩
      have B0 := hideP hb0
      clear hb0
      go_wp2_with fail
      refine (HFW.out _ B0.out).mono ?_
      rintro e w1 ⟨rfl, hc1⟩
      have B1 : Hid (Below w.heap.size w w1) := B0.out.trans (hc1.below B0.out.size fun _ h => h.elim)
      clear hc1
      go_wp2_with fail
      refine (hnew_c cells _ hcb.1 hcb.2).mono ?_
      rintro e w2 ⟨p, F, rfl, _, hc2⟩
      have B2 : Hid (Below w.heap.size w w2) := B1.out.trans (hc2.below B1.out.size fun _ h => h.elim)
      clear hc2
      go_wp2_with fail
      all_goals first
        | (go_ret; exact ⟨rfl, B2.out⟩)
        | (exfalso; simp at hbad; omega)
  have hfew : fewB l = true := by
    cases e : fewB l with
    | true => rfl
    | false => exact absurd (.inl e) hbad
  have HFEW : Hid (FewH l) := few_iff.1 hfew
  rw [hfew] at HFW
  have hc0 : ¬ cells > 1000 := by omega
  have hc1 : ¬ cells < 0 := by omega
  clear hbad hfew
  obtain ⟨C, rfl⟩ : ∃ C : Nat, cells = (C : Int) := ⟨cells.toNat, by omega⟩
  have hC : C ≤ 1000 := by omega
  obtain ⟨i0, hi, hz0, hz1, hz2⟩ := info_parts info_slot
  obtain ⟨i1, hi1, hj0, hj1, hj2⟩ := info_parts info_int
  go_enter Try.func4, Try.ntmps4
  go_wp2_with fail
  refine (awake_c _).mono ?_
  rintro e w0 ⟨rfl, hb0⟩
  have B0 := hideP hb0
  clear hb0
  go_wp2_with fail
  refine (HFW.out _ B0.out).mono ?_
  rintro e w1 ⟨rfl, hx1⟩
  have B1 : Hid (Below w.heap.size w w1) := B0.out.trans (hx1.below B0.out.size fun _ h => h.elim)
  clear hx1 B0
  go_wp2_with fail
  refine (hnew_c C _ hcb.1 hcb.2).mono ?_
  rintro e w2 ⟨p, F, rfl, h1, hx2⟩
  rw [show ((C : Int)).toNat = C from Int.toNat_natCast C] at h1
  have H1 : Hid (ArenaT w.heap.size F w2 p C []) := h1.base B1.out.size
  have B2 : Hid (Below w.heap.size w w2) := B1.out.trans (hx2.below B1.out.size fun _ h => h.elim)
  clear hx2 h1 B1 HFW
  go_wp2_with fail
  go_loopw [10, 11] (fun v i wx => ∃ (j k : Nat) (a1 : Option Addr) (c1 : Nat) (rs : List Int) (M : Hp), i = .int .i64 j ∧ j ≤ l.length ∧ k ≤ j ∧ v = .slice a1 k c1 ∧ Hid (AgM C M rs) ∧ Hid (RefsT w.heap.size wx p C M a1 k c1 rs) ∧ Hid (Below w.heap.size w wx)) (fun _ i _ => l.length - (intOf i).toNat)
  case atStart => exact ⟨0, 0, none, 0, [], [], rfl, Nat.zero_le _, Nat.le_refl _, rfl, ⟨(fun _ h => nomatch h), List.nodup_nil, Nat.zero_le _⟩, ⟨F, H1.out, good_nil, rfl, (fun _ h => nomatch h), World.ownsRow_nil _ _ _ _, fun q h => by cases h⟩, B2.out⟩
  case round =>
    clear H1 B2
    obtain ⟨j, k, a1, c1, rs, M, rfl, hj, hkj, rfl, HM, HR, HB⟩ := hrel
    have hl60 : l.length ≤ 60 := HFEW.out.1
    obtain ⟨wv, hwv⟩ : ∃ x, x = wr := ⟨_, rfl⟩
    rw [← hwv] at HR HB ⊢
    clear hwv
    by_cases hlt : j < l.length
    · have hjl : (j : Int) < (l.length : Int) := by omega
      have hjz : (0 : Int) ≤ (j : Int) := by omega
      obtain ⟨o, ho⟩ : ∃ o, o = l[j] := ⟨_, rfl⟩
      have ho40 := (HFEW.out.2 o (ho ▸ List.getElem_mem hlt)).1
      obtain ⟨b, q, rfl, _, hbl, hok, _, ⟨sa, sc, hcell, hsv⟩, _⟩ := (HV.out.ch (Ch.of (S := noB) HB.out) fun _ _ _ h => h).at.2 j hlt
      rw [← ho] at hcell hsv hok
      have HOK := hideP hok.1
      have HCS : Hid (∀ W, Ch noB wv W → W.cell? ⟨b, q + j * 3 + 1, none⟩ = some (.slice sa o.sl.length sc) ∧ SltV (fun b => b < w.heap.size) W (.slice sa o.sl.length sc) o.sl) := by
        have h1 := hideP hcell
        have h2 := hideP hsv
        exact fun W hW => ⟨hW.cell h1.out fun h => h, h2.out.ch hW fun _ _ _ h => h⟩
      clear hcell hsv hok ho
      go_wp2_with fail
      go_loopw [12, 13] (fun v i wx => ∃ (n : Nat) (a2 : Option Addr) (c2 : Nat) (y : List SlotV), i = .int .i64 n ∧ n ≤ o.sl.length ∧ v = .slice a2 n c2 ∧ Hid (wx.ownsRow wv.heap.size 47 2 (.slice a2 n c2) n (y.flatMap sltC)) ∧ Hid (y.length = n ∧ okSlots y ∧ ∀ s ∈ y, s.ref = true → s.n ∈ rs) ∧ Hid (Ch noB wv wx)) (fun _ i _ => o.sl.length - (intOf i).toNat)
      case atStart => exact ⟨0, none, 0, [], rfl, Nat.zero_le _, rfl, World.ownsRow_nil _ _ _ _, ⟨rfl, (fun _ h => nomatch h), fun _ h => nomatch h⟩, Ch.refl _ _⟩
      case round =>
        obtain ⟨n, a2, c2, y, rfl, hn, rfl, HY, HYP, HC⟩ := hrel
        by_cases hlt2 : n < o.sl.length
        · have hnl : (n : Int) < (o.sl.length : Int) := by omega
          have hn0 : (0 : Int) ≤ (n : Int) := by omega
          obtain ⟨x0, hx0⟩ := HCS.out wr HC.out
          obtain ⟨sa', sc', e, _, _, hk⟩ := hx0.form
          injection e with e1 _ e2
          subst e1 e2
          obtain ⟨b2, o2, rfl, hb2, _, x1, x2⟩ := hk n hlt2
          obtain ⟨s, hs⟩ : ∃ s, s = o.sl[n] := ⟨_, rfl⟩
          have hsb := HOK.out s (hs ▸ List.getElem_mem hlt2)
          rw [← hs] at x1 x2
          clear hk hx0 hs
          obtain ⟨sr, sn⟩ := s
          by_cases href : sr = true ∧ 0 < k
          · obtain ⟨rfl, hk0⟩ := href
            have hki : (k : Int) > 0 := by omega
            obtain ⟨ix, hix, hixk⟩ := tmod_index sn hk0 (by omega)
            have hixi : (ix : Int) < (k : Int) := by omega
            have hix0 : (0 : Int) ≤ (ix : Int) := by omega
            have hrl : rs.length = k := by obtain ⟨_, _, _, h, _⟩ := HR.out; exact h
            obtain ⟨qr, rfl, xr, hr0, hr1⟩ := HR.out.at (j := ix) (by omega)
            have xr2 := HC.out.cell xr fun h => h
            have hqr := World.block_lt_of_cell? wr _ xr2
            obtain ⟨r, hr⟩ : ∃ r, r = rs[ix]'(by omega) := ⟨_, rfl⟩
            rw [← hr] at xr xr2 hr0 hr1
            have HRM : Hid (r ∈ rs) := hr ▸ List.getElem_mem _
            clear hr
            have hbw : wv.heap.size ≤ wr.heap.size := HC.out.size
            go_wp2_with (at_builtin; refine wpList_append_own_at _ rfl (.tmp 100) (.tmp 102) 32 rfl wv.heap.size 47 i0 _ 2 16 Try.underlying32 hi hz0 hz1 hz2 rfl (by decide) _ n _ rfl ((HY.out.alloc _).alloc _) ⟨_, 0, none⟩ 1 1 [.bool true, .int .i64 r] rfl rfl (cells_newS _ _ (World.size_alloc _ _) _ _) (by simp [Value.oneCell']) (by unfold maxLen; omega) (by omega) (by rw [World.size_alloc, World.size_alloc]; omega) ?_)
            intro v3 w3 hown3 hgr3 _ _
            obtain ⟨a3, c3, rfl⟩ := row_shape hown3
            have HC3 : Hid (Ch noB wv w3) := ((HC.out.alloc _).alloc _).grown hgr3 fun q hq hlt => by have := (HY.out.lt q hq).1; omega
            have HY3 : Hid (w3.ownsRow wv.heap.size 47 2 (.slice a3 (n + 1) c3) (n + 1) ((y ++ [(⟨true, r⟩ : SlotV)]).flatMap sltC)) := by
              rw [List.flatMap_append]
              exact hown3
            have HP3 : Hid ((y ++ [(⟨true, r⟩ : SlotV)]).length = n + 1 ∧ okSlots (y ++ [⟨true, r⟩]) ∧ ∀ s ∈ y ++ [(⟨true, r⟩ : SlotV)], s.ref = true → s.n ∈ rs) := by
              obtain ⟨p1, p2, p3⟩ := HYP.out
              refine ⟨by rw [List.length_append, p1]; rfl, fun s hs => ?_, fun s hs hr => ?_⟩
              · rcases List.mem_append.1 hs with hs | hs
                · exact p2 s hs
                · rw [List.mem_singleton.1 hs]
                  exact ⟨by show -9223372036854775808 ≤ r; omega, hr1⟩
              · rcases List.mem_append.1 hs with hs | hs
                · exact p3 s hs hr
                · rw [List.mem_singleton.1 hs] at hr ⊢
                  exact HRM.out
            clear hown3 hgr3 HY HYP HC
            go_wp2_with fail
            exact ⟨⟨n + 1, a3, c3, _, by go_num, by omega, rfl, HY3.out, HP3.out, HC3.out⟩, by simp [intOf]; omega⟩
          · have hrf : sr = false ∨ sr = true ∧ k = 0 := by
              cases sr with
              | false => exact .inl rfl
              | true => exact .inr ⟨rfl, by have : ¬ 0 < k := fun h => href ⟨rfl, h⟩; omega⟩
            clear href
            rcases hrf with rfl | ⟨rfl, rfl⟩
            · have hbw : wv.heap.size ≤ wr.heap.size := HC.out.size
              go_wp2_with (at_builtin; refine wpList_append_own_at _ rfl (.tmp 100) (.tmp 102) 32 rfl wv.heap.size 47 i0 _ 2 16 Try.underlying32 hi hz0 hz1 hz2 rfl (by decide) _ n _ rfl ((HY.out.alloc _).alloc _) ⟨_, 0, none⟩ 1 1 [.bool false, .int .i64 sn] rfl rfl (cells_newS _ _ (World.size_alloc _ _) _ _) (by simp [Value.oneCell']) (by unfold maxLen; omega) (by omega) (by rw [World.size_alloc, World.size_alloc]; omega) ?_)
              intro v3 w3 hown3 hgr3 _ _
              obtain ⟨a3, c3, rfl⟩ := row_shape hown3
              have HC3 : Hid (Ch noB wv w3) := ((HC.out.alloc _).alloc _).grown hgr3 fun q hq hlt => by have := (HY.out.lt q hq).1; omega
              have HY3 : Hid (w3.ownsRow wv.heap.size 47 2 (.slice a3 (n + 1) c3) (n + 1) ((y ++ [(⟨false, sn⟩ : SlotV)]).flatMap sltC)) := by
                rw [List.flatMap_append]
                exact hown3
              have HP3 : Hid ((y ++ [(⟨false, sn⟩ : SlotV)]).length = n + 1 ∧ okSlots (y ++ [⟨false, sn⟩]) ∧ ∀ s ∈ y ++ [(⟨false, sn⟩ : SlotV)], s.ref = true → s.n ∈ rs) := by
                obtain ⟨p1, p2, p3⟩ := HYP.out
                refine ⟨by rw [List.length_append, p1]; rfl, fun s hs => ?_, fun s hs hr => ?_⟩
                · rcases List.mem_append.1 hs with hs | hs
                  · exact p2 s hs
                  · rw [List.mem_singleton.1 hs]
                    exact hsb
                · rcases List.mem_append.1 hs with hs | hs
                  · exact p3 s hs hr
                  · rw [List.mem_singleton.1 hs] at hr ⊢
                    cases hr
              clear hown3 hgr3 HY HYP HC
              go_wp2_with fail
              exact ⟨⟨n + 1, a3, c3, _, by go_num, by omega, rfl, HY3.out, HP3.out, HC3.out⟩, by simp [intOf]; omega⟩
            · have hbw : wv.heap.size ≤ wr.heap.size := HC.out.size
              go_wp2_with (at_builtin; refine wpList_append_own_at _ rfl (.tmp 100) (.tmp 102) 32 rfl wv.heap.size 47 i0 _ 2 16 Try.underlying32 hi hz0 hz1 hz2 rfl (by decide) _ n _ rfl ((HY.out.alloc _).alloc _) ⟨_, 0, none⟩ 1 1 [.bool false, .int .i64 sn] rfl rfl (cells_newS _ _ (World.size_alloc _ _) _ _) (by simp [Value.oneCell']) (by unfold maxLen; omega) (by omega) (by rw [World.size_alloc, World.size_alloc]; omega) ?_)
              intro v3 w3 hown3 hgr3 _ _
              obtain ⟨a3, c3, rfl⟩ := row_shape hown3
              have HC3 : Hid (Ch noB wv w3) := ((HC.out.alloc _).alloc _).grown hgr3 fun q hq hlt => by have := (HY.out.lt q hq).1; omega
              have HY3 : Hid (w3.ownsRow wv.heap.size 47 2 (.slice a3 (n + 1) c3) (n + 1) ((y ++ [(⟨false, sn⟩ : SlotV)]).flatMap sltC)) := by
                rw [List.flatMap_append]
                exact hown3
              have HP3 : Hid ((y ++ [(⟨false, sn⟩ : SlotV)]).length = n + 1 ∧ okSlots (y ++ [⟨false, sn⟩]) ∧ ∀ s ∈ y ++ [(⟨false, sn⟩ : SlotV)], s.ref = true → s.n ∈ rs) := by
                obtain ⟨p1, p2, p3⟩ := HYP.out
                refine ⟨by rw [List.length_append, p1]; rfl, fun s hs => ?_, fun s hs hr => ?_⟩
                · rcases List.mem_append.1 hs with hs | hs
                  · exact p2 s hs
                  · rw [List.mem_singleton.1 hs]
                    exact hsb
                · rcases List.mem_append.1 hs with hs | hs
                  · exact p3 s hs hr
                  · rw [List.mem_singleton.1 hs] at hr ⊢
                    cases hr
              clear hown3 hgr3 HY HYP HC
              go_wp2_with fail
              exact ⟨⟨n + 1, a3, c3, _, by go_num, by omega, rfl, HY3.out, HP3.out, HC3.out⟩, by simp [intOf]; omega⟩
        · have hnl : ¬ (n : Int) < (o.sl.length : Int) := by omega
          obtain rfl : n = o.sl.length := by omega
          obtain ⟨x0, _⟩ := HCS.out wr HC.out
          obtain ⟨Fj, g1, g2, g3, g4, g5, g6⟩ := HR.out
          obtain ⟨y1, y2, y3⟩ := HYP.out
          have G1 := hideP g1
          have G2 := hideP g2
          have G4 := hideP g4
          have G5 : Hid (wv.ownsRow w.heap.size 3 1 (.slice a1 k c1) k (rs.map fun r => .int .i64 r)) := g5
          have G6 := hideP g6
          have hnb : ¬ badL M y := fun ⟨s, hs, hr, hn⟩ => hn (HM.out.has _ (y3 s hs hr))
          have HNB := hideP hnb
          have HSY : Hid (SltV (fun b => wv.heap.size ≤ b) wr (.slice a2 o.sl.length c2) y) := sltV_own (by rw [y1]; exact HY.out) fun q hq => (HY.out.lt q hq).1
          have hus := HM.out.used
          have HAL := hideP (halloc_c w.heap.size p C Fj (fun b => wv.heap.size ≤ b) M _ y wr (G1.out.no HC.out) G2.out HSY.out (fun b h h2 => by have := (G1.out.lt b h2).2; omega) y2 (by omega) (by omega))
          have HY1 := hideP y1
          have HBr : Hid (Below w.heap.size w wr) := HB.out.trans (HC.out.below HB.out.size fun _ h => h.elim)
          have hro := HC.out.row g5 fun _ _ h => h
          have HRO := hideP hro
          clear g1 g2 g4 g5 g6 y1 y2 y3 hnb HYP HY HSY hro HR HCS
          go_wp2_with fail
          refine HAL.out.mono ?_
          rintro e w2 ⟨x, e0, M1, rfl, hR, F1, p1, p2, p3⟩
          have hst := refs_stay G6.out HRO.out p2 p3
          have HB2 : Hid (Below w.heap.size w w2) := HBr.out.trans (p3.below HBr.out.size fun b hb => (G1.out.lt b hb).1)
          by_cases hfit : usedM M + y.length + 1 ≤ C
          · obtain ⟨rfl, hy0, hy1, hyn, rfl⟩ := alloc_fits hR HNB.out hfit
            have P1 := hideP p1
            have HP := hideP hst
            have G2' := hideP (G2.out.push hyn hy0 HNB.out)
            have HM' := hideP (HM.out.push hyn hfit)
            clear p1 p2 p3 hst hR HAL G1 G2 G5 G6 HB HBr HRO HC hus hfit
            go_wp2_with (at_builtin; refine wpList_append_own_at _ rfl (.tmp 112) (.tmp 114) 31 rfl w.heap.size 3 i1 _ 1 8 Try.underlying31 hi1 hj0 hj1 hj2 rfl (by decide) _ k _ rfl (HP.out.1.alloc _) ⟨_, 0, none⟩ 1 1 [.int .i64 x] rfl rfl (cells_newK _ _ _) (by simp [Value.oneCell']) (by unfold maxLen; omega) (by omega) (by rw [World.size_alloc]; have := HB2.out.size; omega) ?_)
            intro v3 w3 hown3 hgr3 hl1 hl2
            obtain ⟨a4, c4, rfl⟩ := row_shape hown3
            have hra := RefsT.add P1.out G2'.out g3 G4.out hy0 hy1 HP.out.2 hown3 hgr3 hl2
            have HR3 := hideP hra.1
            have HB3 : Hid (Below w.heap.size w w3) := HB2.out.trans (hra.2.below HB2.out.size fun q hq => (HP.out.1.lt q hq).1)
            clear hra hown3 hgr3 hl1 hl2 HP P1 G2' HB2 G4
            go_wp2_with fail
            exact ⟨⟨j + 1, k + 1, a4, c4, _, _, by go_num, by omega, by omega, rfl, HM'.out, HR3.out, HB3.out⟩, by simp [intOf]; omega⟩
          · obtain ⟨rfl, rfl, rfl⟩ := alloc_full hR HNB.out (by omega)
            have HR3 : Hid (RefsT w.heap.size w2 p C M1 a1 k c1 rs) := ⟨F1, p1, G2.out, g3, G4.out, hst.1, hst.2⟩
            clear p1 p2 p3 hst hR HAL G1 G2 G4 G5 G6 HB HBr HRO HC hus hfit
            go_wp2_with fail
            exact ⟨⟨j + 1, k, a1, c1, rs, M1, by go_num, by omega, by omega, rfl, HM.out, HR3.out, HB2.out⟩, by simp [intOf]; omega⟩
    · have hjl : ¬ (j : Int) < (l.length : Int) := by omega
      obtain rfl : j = l.length := by omega
      have hrl : rs.length = k := by obtain ⟨_, _, _, h, _⟩ := HR.out; exact h
      go_wp2_with fail
      go_loopw [17, 18] (fun v i wx => ∃ (n m : Nat) (a5 : Option Addr) (c5 : Nat) (ks : List Int), i = .int .i64 n ∧ n ≤ k ∧ m ≤ n ∧ v = .slice a5 m c5 ∧ Hid (ks.length = m ∧ ks.Nodup ∧ ∀ x ∈ ks, x ∈ rs.take n) ∧ Hid (wx.ownsRow wv.heap.size 3 1 (.slice a5 m c5) m (ks.map (Value.int .i64))) ∧ Hid (Ch noB wv wx)) (fun _ i _ => k - (intOf i).toNat)
      case atStart => exact ⟨0, 0, none, 0, [], rfl, Nat.zero_le _, Nat.le_refl _, rfl, ⟨rfl, List.nodup_nil, (fun _ h => nomatch h)⟩, World.ownsRow_nil _ _ _ _, Ch.refl _ _⟩
      case round =>
        clear hlt hjl
        obtain ⟨n, m, a5, c5, ks, rfl, hn, hmn, rfl, HK, HY, HC⟩ := hrel
        by_cases hlt : n < k
        · have hnk : (n : Int) < (k : Int) := by omega
          have hnz : (0 : Int) ≤ (n : Int) := by omega
          obtain ⟨qr, rfl, xr, hr0, hr1⟩ := HR.out.at (j := n) (by omega)
          have xr2 := HC.out.cell xr fun h => h
          have hnot := take_not HM.out.nd (n := n) (by omega)
          have htk : rs.take (n + 1) = rs.take n ++ [rs[n]'(by omega)] := by rw [List.take_succ_eq_append_getElem (by omega)]
          obtain ⟨r, hr⟩ : ∃ r, r = rs[n]'(by omega) := ⟨_, rfl⟩
          rw [← hr] at xr xr2 hr0 hr1 hnot htk
          have HTK := hideP htk
          have HNOT := hideP hnot
          clear hr htk hnot
          have HNO : Hid (ks.length = m ∧ ks.Nodup ∧ ∀ x ∈ ks, x ∈ rs.take (n + 1)) := ⟨HK.out.1, HK.out.2.1, fun x hx => by rw [HTK.out]; exact List.mem_append_left _ (HK.out.2.2 x hx)⟩
          by_cases hpos : roots > 0
          · obtain ⟨dd, hdd, hd4⟩ : ∃ dd : Nat, roots.tmod 5 = (dd : Int) ∧ dd ≤ 4 := by
              rw [Int.tmod_eq_emod_of_nonneg (by omega)]
              exact ⟨(roots % 5).toNat, by omega, by omega⟩
            by_cases hz : (n : Int).tmod ((dd : Int) + 1) = 0
            · have hzb : ((n : Int).tmod ((dd : Int) + 1) == 0) = true := by simp [hz]
              have hbw : wv.heap.size ≤ wr.heap.size := HC.out.size
              go_wp2_with (at_builtin; refine wpList_append_own_at _ rfl (.tmp 132) (.tmp 137) 31 rfl wv.heap.size 3 i1 _ 1 8 Try.underlying31 hi1 hj0 hj1 hj2 rfl (by decide) _ m _ rfl (HY.out.alloc _) ⟨_, 0, none⟩ 1 1 [.int .i64 r] rfl rfl (cells_newK _ _ _) (by simp [Value.oneCell']) (by unfold maxLen; omega) (by omega) (by rw [World.size_alloc]; omega) ?_)
              intro v3 w3 hown3 hgr3 _ _
              obtain ⟨a6, c6, rfl⟩ := row_shape hown3
              have HC3 : Hid (Ch noB wv w3) := (HC.out.alloc _).grown hgr3 fun q hq hlt => by have := (HY.out.lt q hq).1; omega
              have HY3 : Hid (w3.ownsRow wv.heap.size 3 1 (.slice a6 (m + 1) c6) (m + 1) ((ks ++ [r]).map (Value.int .i64))) := by
                rw [List.map_append]
                exact hown3
              have HK3 : Hid ((ks ++ [r]).length = m + 1 ∧ (ks ++ [r]).Nodup ∧ ∀ x ∈ ks ++ [r], x ∈ rs.take (n + 1)) := by
                refine ⟨by rw [List.length_append, HK.out.1]; rfl, ?_, fun x hx => ?_⟩
                · rw [List.nodup_append]
                  exact ⟨HK.out.2.1, by simp, fun a ha b hb => by rw [List.mem_singleton] at hb; subst hb; rintro rfl; exact HNOT.out (HK.out.2.2 a ha)⟩
                · rw [HTK.out]
                  rcases List.mem_append.1 hx with hx | hx
                  · exact List.mem_append_left _ (HK.out.2.2 x hx)
                  · exact List.mem_append_right _ hx
              clear hown3 hgr3 HC HY HK HNO HTK HNOT
              go_wp2_with fail
              exact ⟨⟨n + 1, m + 1, a6, c6, _, by go_num, by omega, by omega, rfl, HK3.out, HY3.out, HC3.out⟩, by simp [intOf]; omega⟩
            · have hzb : ((n : Int).tmod ((dd : Int) + 1) == 0) = false := by simp [hz]
              have hnd : ¬ ((dd : Int) + 1 ∣ (n : Int)) := fun h => hz (Int.tmod_eq_zero_of_dvd h)
              go_wp2_with fail
              exact ⟨⟨n + 1, m, a5, c5, ks, by go_num, by omega, by omega, rfl, HNO.out, HY.out, HC.out⟩, by simp [intOf]; omega⟩
          · go_wp2_with fail
            exact ⟨⟨n + 1, m, a5, c5, ks, by go_num, by omega, by omega, rfl, HNO.out, HY.out, HC.out⟩, by simp [intOf]; omega⟩
        · have hnk : ¬ (n : Int) < (k : Int) := by omega
          obtain rfl : n = k := by omega
          obtain ⟨Fj, g1, g2, g3, g4, g5, g6⟩ := HR.out
          obtain ⟨q1, q2, q3⟩ := HK.out
          have hq : ∀ x ∈ ks, x ∈ rs := fun x hx => List.mem_of_mem_take (q3 x hx)
          have hlt1 := g1.lt
          have hu1 := HM.out.used
          have HIV : Hid (IntV (fun b => wv.heap.size ≤ b ∧ b < wr.heap.size) wr (.slice a5 m c5) ks) := by
            have h : IntV (fun b => wv.heap.size ≤ b ∧ b < wr.heap.size) wr (.slice a5 m c5) ks := intV_own (B := wv.heap.size) (by rw [q1]; exact HY.out) fun q hq => HY.out.lt q hq
            exact h
          have HKB : Hid (∀ q ∈ ks, -9223372036854775808 ≤ q ∧ q ≤ 9223372036854775807) := fun q hx => by
            have := g4 q (hq q hx)
            omega
          have HKH : Hid (∀ q ∈ ks, hasM M q) := fun q hx => HM.out.has q (hq q hx)
          have HC1 := hideP (hcollect_c w.heap.size p C Fj (fun b => wv.heap.size ≤ b ∧ b < wr.heap.size) M _ ks wr (g1.no HC.out) g2 HIV.out (fun b h h2 => by have := (hlt1 b h2).2; omega) HKB.out (by omega) (by omega))
          have HBr : Hid (Below w.heap.size w wr) := HB.out.trans (HC.out.below HB.out.size fun _ h => h.elim)
          have HF1 := hideP hlt1
          have G2 := hideP g2
          have HND := hideP q2
          have hsw := HC.out.size
          clear g1 g2 g3 g4 g5 g6 q3 hq hlt1 HR HM HB HC HY HK q2
          go_wp2_with fail
          refine HC1.out.mono ?_
          rintro e w3 ⟨M1, rfl, hs1, F1, p1, p2, p3⟩
          have G3 := hideP (stays_good G2.out hs1)
          have hu2 := stays_le G2.out hs1
          have HKH1 : Hid (∀ q ∈ ks, hasM M1 q) := fun q hx => by
            obtain ⟨l', hl'⟩ := HKH.out q hx
            exact ⟨l', (hs1.2 _).2 ⟨hl', reach_root hx ⟨l', hl'⟩⟩⟩
          have HB3 : Hid (Below w.heap.size w w3) := HBr.out.trans (p3.below HBr.out.size fun b hb => (HF1.out b hb).1)
          have HIV3 : Hid (IntV (fun b => wv.heap.size ≤ b ∧ b < wr.heap.size) w3 (.slice a5 m c5) ks) := HIV.out.ch p3 fun b hb _ h => by have := (HF1.out b h).2; omega
          obtain ⟨u, hu⟩ : ∃ u, u = usedM M1 := ⟨_, rfl⟩
          have hmu : m ≤ u := by
            have := keys_used HND.out HKH1.out
            omega
          have HC2 : Hid (Calls Try.prog 12 #[.pointer (some ⟨p, 0, none⟩), .slice a5 m c5] w3 fun e w' => e = .returned (.int .i64 0) ∧ ∃ (M2 : Hp) (F2 : Nat → Prop), ArenaT w.heap.size F2 w' p C M2 ∧ GoodM M2 ∧ usedM M2 = u ∧ Below w.heap.size w w') := by
            refine (hcollect_c w.heap.size p C F1 (fun b => wv.heap.size ≤ b ∧ b < wr.heap.size) M1 _ ks w3 p1 G3.out HIV3.out (fun b h h2 => by
              rcases p2 b h2 with h3 | h3
              · have := (HF1.out b h3).2
                omega
              · omega) HKB.out (by omega) (by omega)).mono ?_
            rintro e w' ⟨M2, rfl, hs2, F2, r1, r2, r3⟩
            have hp := stays_again hs1 hs2
            refine ⟨by rw [used_perm hp, Int.sub_self], M2, F2, r1, G3.out.perm hp.symm, (used_perm hp).trans hu.symm, HB3.out.trans (r3.below HB3.out.size fun b hb => (p1.lt b hb).1)⟩
          have hmi : ¬ (u : Int) < (m : Int) := by omega
          have huC : u ≤ C := by omega
          clear p1 p2 p3 hs1 hu hu2 HC1 HIV HIV3 HKH HKH1 HB3 HBr G2 G3 HND HF1 hsw hl60 hnk hkj hn hmn hrl
          go_wp2_with fail
          refine HC2.out.mono ?_
          rintro e w4 ⟨rfl, M2, F2, r1, r2, r3, r4⟩
          clear HC2
          have A4 := hideP r1
          have G4 := hideP r2
          have B4 := hideP r4
          have HU4 : Hid (∀ W, Ch noB w4 W → Calls Try.prog 19 #[.pointer (some ⟨p, 0, none⟩)] W fun e w' => e = .returned (.int .i64 u) ∧ Ch noB w4 w') := fun W hW => by
            have := hused_c w.heap.size p C F2 M2 W (r1.no hW) r2 (by omega)
            rw [r3] at this
            exact this.mono fun e w' h => ⟨h.1, hW.trans h.2 fun _ _ h => h⟩
          have R3 := hideP r3
          clear r1 r2 r3 r4
          go_wp2_with fail
          refine (HU4.out _ (Ch.refl _ _)).mono ?_
          rintro e w5 ⟨rfl, hc5⟩
          have C5 := hideP hc5
          clear hc5
          go_wp2_with fail
          refine (HU4.out _ C5.out).mono ?_
          rintro e w6 ⟨rfl, hc6⟩
          have A6 := hideP (A4.out.no hc6)
          have B6 : Hid (Below w.heap.size w w6) := B4.out.trans (hc6.below B4.out.size fun _ h => h.elim)
          clear hc6 C5 HU4 A4 B4
          obtain ⟨N, rfl⟩ : ∃ N, C = u + N := ⟨C - u, by omega⟩
          clear huC hmi hmu hu1
          go_wp2_with fail
          go_loopw [20] (fun i wx => ∃ (i' : Nat) (M' : Hp) (F' : Nat → Prop), i = .int .i64 i' ∧ i' ≤ N ∧ Hid (usedM M' = u + i') ∧ Hid (ArenaT w.heap.size F' wx p (u + N) M') ∧ Hid (GoodM M') ∧ Hid (Below w.heap.size w wx)) (fun i _ => N - (intOf i).toNat)
          case atStart => exact ⟨0, M2, F2, rfl, Nat.zero_le _, R3.out, A6.out, G4.out, B6.out⟩
          case round =>
            clear A6 G4 B6 R3
            obtain ⟨i, M', F', rfl, hiN, HU, HA, HG, HB⟩ := hrel
            have hbase := HB.out.size
            have HAL := hideP (halloc_c w.heap.size p (u + N) F' (fun _ => False) M' _ [] wr HA.out HG.out (sltV_nil _ _) (fun _ h => h.elim) (fun _ h => nomatch h) (by decide) (by have := HU.out; omega))
            by_cases hlt3 : i < N
            · have hil : (i : Int) < (N : Int) := by omega
              go_wp2_with fail
              refine HAL.out.mono ?_
              rintro e w7 ⟨x, e0, M8, rfl, hR, F8, p1, p2, p3⟩
              obtain ⟨rfl, hy0, hy1, hyn, rfl⟩ := alloc_fits hR (bad_plain fun _ h => nomatch h) (by have := HU.out; simp; omega)
              have A8 := hideP p1
              have G8 := hideP (HG.out.push hyn hy0 (bad_plain (l := []) fun _ h => nomatch h))
              have B8 : Hid (Below w.heap.size w w7) := HB.out.trans (p3.below hbase fun b hb => (HA.out.lt b hb).1)
              have U8 : Hid (usedM ((x, []) :: M') = u + (i + 1)) := by
                show usedM ((x, []) :: M') = _
                rw [used_push, HU.out]
                simp
                omega
              clear p1 p2 p3 hR hyn HAL HA HG HB HU
              go_wp2_with fail
              exact ⟨⟨i + 1, _, F8, by go_num, by omega, U8.out, A8.out, G8.out, B8.out⟩, by simp [intOf]; omega⟩
            · have hil : ¬ (i : Int) < (N : Int) := by omega
              obtain rfl : i = N := by omega
              go_wp2_with fail
              refine HAL.out.mono ?_
              rintro e w7 ⟨x, e0, M8, rfl, hR, F8, p1, p2, p3⟩
              obtain ⟨rfl, rfl, rfl⟩ := alloc_full hR (bad_plain fun _ h => nomatch h) (by have := HU.out; simp; omega)
              have B8 : Hid (Below w.heap.size w w7) := HB.out.trans (p3.below hbase fun b hb => (HA.out.lt b hb).1)
              have HUL : Hid (Calls Try.prog 19 #[.pointer (some ⟨p, 0, none⟩)] w7 fun e w' => e = .returned (.int .i64 ((u : Int) + (i : Int))) ∧ Ch noB w7 w') := by
                have := hused_c w.heap.size p (u + i) F8 M8 w7 p1 HG.out (by have := HU.out; omega)
                rw [HU.out] at this
                push_cast at this
                exact this
              clear p1 p2 p3 hR HAL HA HG HB HU
              go_wp2_with fail
              refine HUL.out.mono ?_
              rintro e w8 ⟨rfl, hc8⟩
              have B9 : Hid (Below w.heap.size w w8) := B8.out.trans (hc8.below B8.out.size fun _ h => h.elim)
              clear hc8 HUL B8
              go_wp2_with fail
              go_ret
              exact ⟨rfl, B9.out⟩
end Go.Proofs.Ytcpmdbdppdnkkaa
