/- The program's tree: Add, Of. -/
import Derived.Test.YtldcfglkcifklaaShE
namespace Go.Proofs.Ytldcfglkcifklaa
open Go.RowKit

/-- What number leaves, in plain words. -/
theorem number_facts {NL NL' : List ByteArray} {M : Num} {T : List (List ByteArray)} {x : ByteArray} {n : Nat} (hok : KeptOk NL M T) (hl : NL.length < T.length) (hT : T.length ≤ 1000000) (h : (NL' = NL ∧ slotV NL x = some n) ∨ (x ∉ NL ∧ NL' = NL ++ [x] ∧ n = NL.length)) :
    KeptOk NL' M T ∧ NL'.length ≤ T.length ∧ (∃ hn : n < NL'.length, NL'[n] = x) ∧ (x ∈ NL → NL'.length < T.length) := by
  rcases h with ⟨rfl, h⟩ | ⟨hx, rfl, rfl⟩
  · exact ⟨hok, by omega, slotV_lt h, fun _ => hl⟩
  · exact ⟨hok.name step_inj hx (by omega) (by omega), by simp; omega, ⟨by simp, by simp⟩, fun h => absurd h hx⟩
theorem add_grown {B t k nb mb : Nat} {F : Nat → Prop} {ro : Nat → Nat} {w w4 w5 : World} {vl vs : Value} {xs : List Value} {NL : List ByteArray} {M : Num} {T : List (List ByteArray)} {o : Obj} {cc : Array Value} (H : KT B F ro w t k nb mb vl vs xs NL M T) (hC : Ch noB w w4) (hsb : w4.heap[w.heap.size]? = some (.cells cc 63)) (hg : (w4.alloc o).grownBy w5 vs.ownBlock) :
    w5.heap[t]? = some (.cells #[.pointer (some ⟨k, 0, none⟩)] 55) ∧ w5.heap[k]? = some (.cells #[.map (some nb), vl, vs, .map (some mb)] 53) ∧ w5.heap[w.heap.size]? = some (.cells cc 63) ∧ NumG 63 w5 mb M ∧ Ch (fun b => vs.ownBlock = some b) w4 w5 := by
  have h5 : Ch (fun b => vs.ownBlock = some b) w4 w5 := ((Ch.refl _ w4).alloc _).grown hg fun q hq _ => hq
  have h := (hC.mono (S' := fun b => vs.ownBlock = some b) fun _ _ h => h.elim).trans h5 fun _ _ h => h
  refine ⟨h.obj H.tb fun e => ?_, h.obj H.kb fun e => ?_, h5.obj hsb fun e => ?_, H.md.ch h fun e => ?_, h5⟩
  · have h1 := (H.rs _ e).2; have h2 := H.rt.2; omega
  · have h1 := (H.rs _ e).2; have h2 := H.rk.2; omega
  · have := (H.low _ (H.rs _ e).1).2; omega
  · have h1 := (H.rs _ e).2; have h2 := H.rm.2; omega
theorem add_err {T : List (List ByteArray)} {s : Int} {x : ByteArray} (h : ¬ (s < 0 ∨ (T.length : Int) ≤ s)) : (addV T s x).2.2 = 0 := by
  cases hs : (slotV (atV T s) x).isSome with
  | true => rw [add_has h hs]
  | false =>
    cases hr : rowV T (atV T s ++ [x]) with
    | some i => rw [add_old h hs hr]
    | none => rw [add_new h hs hr]
set_option maxRecDepth 100000 in
set_option maxHeartbeats 8000000 in
theorem sadd_c (B t : Nat) (F : Nat → Prop) (T : List (List ByteArray)) (s : Int) (x : ByteArray) (w : World) (h : TreeT B F w t T) (hg : GoodT T) (hs0 : -9223372036854775808 ≤ s) (hs1 : s ≤ 9223372036854775807) (hT : T.length ≤ 1000000) (hx : x.size ≤ 140737488351232) :
    Calls Try.prog 12 #[.pointer (some ⟨t, 0, none⟩), .int .i64 s, .string x] w fun e w' => e = .returned (.tuple #[.int .i64 (addV T s x).2.1, .int .i64 (addV T s x).2.2]) ∧ TrP (fun F w T => TreeT B F w t T) F w (addV T s x).1 w' := by
  have HTT := hideP h
  obtain ⟨ro, k, nb, mb, vl, vs, xs, NL, M, H0, hok, hNL⟩ := h
  have HG := hideP hg
  have HOK := hideP hok
  obtain ⟨a5, cs, rfl⟩ := row_shape H0.sh
  have hb1 := (box1 H0.tb).1
  have c2 := (box4 H0.kb).1.2.2.1
  have HH := hideP (has_c t k T.length s w _ _ hb1 c2)
  by_cases hin : 0 ≤ s ∧ s < T.length
  · obtain ⟨j, rfl⟩ := Int.eq_ofNat_of_zero_le hin.1
    have hj : j < T.length := by omega
    have hj0 : (0 : Int) ≤ (j : Int) := by omega
    have hjl : (j : Int) < (T.length : Int) := by omega
    rw [decide_eq_true hin] at HH
    have HN := hideP (number_c B F ro w t k nb mb vl _ xs NL M T x H0 hx (by omega) hok.all)
    have hnot : ¬ ((j : Int) < 0 ∨ (T.length : Int) ≤ (j : Int)) := by omega
    have HHN := hideP hnot
    have hatj := atV_nat hj
    have HAT := hideP hatj
    have HNL := hideP hNL
    have HTL := hideP (hg.len _ (List.getElem_mem hj))
    obtain ⟨R, hR⟩ : ∃ R, R = addV T j x := ⟨_, rfl⟩
    rw [← hR]
    have HR := hideP hR
    clear H0 hok hNL hatj hR hnot hg hin HTT c2
    go_enter Try.func12, Try.ntmps12
    go_wp2_with fail
    refine HH.out.mono ?_
    rintro e w ⟨rfl, rfl⟩
    go_wp2_with fail
    refine HN.out.mono ?_
    rintro e w1 ⟨n, F1, ro1, vl1, NL1, rfl, H1, hF1, hC1, hcase⟩
    obtain ⟨ok1, nl1, ⟨hn, hnx⟩, hlt1⟩ := number_facts HOK.out HNL.out hT hcase
    have H := hideP H1
    have HF1 := hideP hF1
    have HC1 := hideP hC1
    have OK1 := hideP ok1
    have HLT1 := hideP hlt1
    have HNX := hideP hnx
    obtain ⟨al, cl, g, cs', rfl, hvs⟩ := H1.look
    obtain ⟨he, hcells⟩ := hvs (by omega)
    injection he with he1 _ he2
    subst he1 he2
    obtain ⟨A0, la0, pl, La0, e0, e1, e2, e3, _, _, _, _, hp⟩ := H1.rows j hj
    rw [getD_at hj] at hp
    obtain ⟨dd, _, hp⟩ := hp.ex
    have HA := hideP (at_c _ dd pl _ n w1 hp (by omega))
    rw [placeOf_at hn, hnx] at HA
    have d1 := (box1 H1.tb).1
    have d2 := (box4 H1.kb).1
    obtain ⟨k0, k1, k2, k3⟩ := d2
    have hc3 : w1.cell? ⟨g, j * 4 + 3, none⟩ = some pl := (hcells _ (by omega)).trans e3
    clear H1 hF1 hC1 ok1 hlt1 hnx hvs hcells e0 e1 e2 e3 hp hcase hb1 HN HH
    go_wp2_with fail
    refine HA.out.mono ?_
    rintro e w1 ⟨rfl, rfl⟩
    clear HA
    cases hsl : slotV T[j] x with
    | some i =>
      have hRe : R = (T, (j : Int), 0) := by rw [HR.out, add_has HHN.out (by rw [HAT.out, hsl]; rfl)]
      subst hRe
      have hxn : x ∈ NL := HOK.out.all _ (List.getElem_mem hj) x (slotV_some.1 (by rw [hsl]; rfl))
      have HXN := hideP hxn
      clear HR hsl hxn
      unfold atR
      go_wp2_with fail
      go_ret2
      exact ⟨rfl, F1, ⟨_, _, _, _, _, _, _, _, _, H.out, OK1.out, HLT1.out HXN.out⟩, HF1.out, HC1.out⟩
    | none =>
      have HSL := hideP hsl
      clear hsl
      unfold atR
      obtain ⟨i1, hi1, hy0, hy1, hy2⟩ := info_parts info_shape
      go_upto_region 8 with fail
      obtain ⟨w2, hw2⟩ : ∃ w2, w2 = w1.alloc (.cells #[.int .i64 j, .int .i64 n] 63) := ⟨_, rfl⟩
      rw [← hw2]
      have C2 : Hid (Ch noB w1 w2) := by rw [hw2]; exact (Ch.refl _ _).alloc _
      have SB : Hid (w2.heap[w1.heap.size]? = some (.cells #[.int .i64 j, .int .i64 n] 63)) := by rw [hw2]; exact heap_alloc_last _ _
      have HK : Hid (∀ W, Ch noB w2 W → W.cell? ⟨t, 0, none⟩ = some (.pointer (some ⟨k, 0, none⟩)) ∧ (W.cell? ⟨k, 0, none⟩ = some (.map (some nb)) ∧ W.cell? ⟨k, 1, none⟩ = some (.slice al NL1.length cl) ∧ W.cell? ⟨k, 2, none⟩ = some (.slice (some ⟨g, 0, none⟩) T.length cs) ∧ W.cell? ⟨k, 3, none⟩ = some (.map (some mb))) ∧ W.cell? ⟨w1.heap.size, 0, none⟩ = some (.int .i64 j) ∧ W.cell? ⟨w1.heap.size, 1, none⟩ = some (.int .i64 n)) := fun W hW => by
        have hH := H.out.ch (C2.out.trans hW fun _ _ h => h) fun _ _ h => h
        exact ⟨(box1 hH.tb).1, (box4 hH.kb).1, (box2 (hW.obj SB.out fun h => h)).1⟩
      have hklt : k < w1.heap.size := (H.out.low k H.out.rk.1).2
      have hks : k ≠ w1.heap.size := by omega
      have hlk : Hid (∀ W, Ch noB w2 W → (Instr.lookup 51 (.map (some mb)) (stepV j n) true).run Try.prog W = .ok (.tuple #[.int .i64 (((rowV T (T[j] ++ [x])).getD 0 : Nat) : Int), .bool (rowV T (T[j] ++ [x])).isSome]) W) := fun W hW => by
        have := numG_look (mt := 51) (H.out.md.ch (C2.out.trans hW fun _ _ h => h) fun h => h) keyedP Try.underlying51 (step_key j n (by omega) (by omega))
        rw [OK1.out.made j hj n hn, HNX.out] at this
        exact this
      obtain ⟨z0, ⟨z1, z2, z3, z4⟩, z5, z6⟩ := HK.out w2.drew (Ch.refl _ _).drew
      clear d1 k0 k1 k2 k3 hc3 hw2
      cases hrow : rowV T (T[j] ++ [x]) with
      | some i =>
        have hRe : R = (T, (i : Int), 0) := by rw [HR.out, add_old HHN.out (by rw [HAT.out, HSL.out]; rfl) (by rw [HAT.out]; exact hrow)]
        rw [hrow] at hlk
        subst hRe
        have hxn : x ∈ NL := by
          obtain ⟨hi, e⟩ := rowV_lt hrow
          exact HOK.out.all _ (List.getElem_mem hi) x (by rw [e]; simp)
        have HXN := hideP hxn
        clear HR hrow hxn
        have hl2 : (Instr.lookup 51 (.map (some mb)) (.agg #[.int .i64 j, .int .i64 n]) true).run Try.prog w2.drew = .ok (.tuple #[.int .i64 (i : Int), .bool true]) w2.drew := hlk.out w2.drew (Ch.refl _ _).drew
        go_region
        all_goals
          go_wp2_with fail
          go_ret2
          exact ⟨rfl, F1, ⟨_, _, _, _, _, _, _, _, _, H.out.ch C2.out.drew (fun _ _ h => h), OK1.out, HLT1.out HXN.out⟩, HF1.out, HC1.out.trans C2.out.drew fun _ _ h => h.elim⟩
      | none =>
        have hRe : R = (T ++ [T[j] ++ [x]], (T.length : Int), 0) := by rw [HR.out, add_new HHN.out (by rw [HAT.out, HSL.out]; rfl) (by rw [HAT.out]; exact hrow), HAT.out]
        rw [hrow] at hlk
        subst hRe
        have HRW := hideP hrow
        clear hrow HR
        have hl2 : (Instr.lookup 51 (.map (some mb)) (.agg #[.int .i64 j, .int .i64 n]) true).run Try.prog w2.drew = .ok (.tuple #[.int .i64 0, .bool false]) w2.drew := hlk.out w2.drew (Ch.refl _ _).drew
        go_region
        all_goals
          go_upto_region 11 with fail
          clear hl2 z0 z1 z2 z3 z4 z5 z6
          obtain ⟨z0, ⟨z1, z2, z3, z4⟩, z5, z6⟩ := HK.out w2.drew.drew (Ch.refl _ _).drew.drew
          obtain ⟨lm, hlm⟩ : ∃ lm, lm = (T[j] ++ [NL1[n]]).length := ⟨_, rfl⟩
          have HLM := hideP hlm
          have HM : Hid (∀ W, Ch noB w2 W → Calls Try.prog 22 #[.pointer (some ⟨k, 0, none⟩), .int .i64 j, .int .i64 n] W fun e w' => ∃ (A : Nat) (ao : Option Addr) (c b : Nat) (La : List ByteArray), e = .returned (.agg #[.int .i64 lm, .int .i64 A, .slice ao La.length c, .pointer (some ⟨b, 0, none⟩)]) ∧ Ch noB w2 w' ∧ Hid (A ≤ j ∧ T[j] ++ [NL1[n]] = T.getD A [] ++ La ∧ La.length ≤ 16 ∧ StrV (fun b => w1.heap.size ≤ b ∧ b < w'.heap.size) w' (.slice ao La.length c) La ∧ PT (fun b => (F1 b ∧ ro1 b = 6) ∨ (w1.heap.size ≤ b ∧ b < w'.heap.size)) w' (.pointer (some ⟨b, 0, none⟩)) (placeOf NL1 (T[j] ++ [NL1[n]])))) := fun W hW => by
            have hC := C2.out.trans hW fun _ _ h => h
            have hz := hC.size
            refine (more_c B F1 ro1 W t k nb mb _ _ xs NL1 M T j n (H.out.ch hC fun _ _ h => h) hj hn hT (by omega) OK1.out.nd (by rw [HNX.out]; exact slotV_no.1 (by rw [HSL.out]; rfl)) HTL.out).mono ?_
            rintro e w' ⟨A, ao, c, b, La, rfl, m1, m2, m3, m4, m5, m6⟩
            exact ⟨A, ao, c, b, La, by rw [hlm], hW.trans m6 fun _ _ h => h, m1, m2, m3, m4.mono fun b _ h => by omega, m5.mono fun b _ h => h.imp_right fun h => by omega⟩
          clear hlm
          have htk : t ≠ k := fun e => by have h1 := H.out.rt.2; have h2 := H.out.rk.2; rw [e] at h1; omega
          have HTS : Hid (∀ (V : World) (o : Obj) (u : Value), V.cell? ⟨t, 0, none⟩ = some (.pointer (some ⟨k, 0, none⟩)) → (V.alloc o).cell? ⟨t, 0, none⟩ = some (.pointer (some ⟨k, 0, none⟩)) ∧ (V.setCell ⟨k, 2, none⟩ u).cell? ⟨t, 0, none⟩ = some (.pointer (some ⟨k, 0, none⟩))) := fun V o u h => ⟨((Ch.refl (fun _ => False) V).alloc o).cell h fun h => h, ((Ch.refl (fun b => b = k) V).set (fun _ => rfl) 2 u).cell h htk⟩
          refine wp_region_held_drew (S := fun V => V.cell? ⟨t, 0, none⟩ = some (.pointer (some ⟨k, 0, none⟩))) (by kernel_rfl) z0 (fun hHeld => ?_)
          refine wpAnyH_take (i := 0) (v := ?_) rfl (by kernel_rfl) (by kernel_rfl) (by kernel_rfl) (fun _ _ _ h => h) (Or.inl ⟨by rfl, ?_⟩) (by with_reducible assumption) ?_
          rotate_left
          · intro w hSw
            (try dsimp only at hSw)
            go_simp
            (try with_reducible rfl)
          try simp only [Act.put, List.setIfInBounds_toArray]
          refine wpAnyH_take (i := 1) (v := ?_) rfl (by kernel_rfl) (by kernel_rfl) (by kernel_rfl) (fun _ _ _ h => h) (Or.inl ⟨by rfl, ?_⟩) (by with_reducible assumption) ?_
          rotate_left
          · intro w hSw
            (try dsimp only at hSw)
            go_simp
            (try with_reducible rfl)
          try simp only [Act.put]
          refine wpAnyH_take (i := 2) (v := ?_) rfl (by kernel_rfl) (by kernel_rfl) (by kernel_rfl) (fun _ _ _ h => h) (Or.inl ⟨by rfl, ?_⟩) (by with_reducible assumption) ?_
          rotate_left
          · intro w hSw
            (try dsimp only at hSw)
            go_simp
            (try with_reducible rfl)
          try simp only [Act.put]
          refine wpAnyH_take (i := 3) (v := ?_) rfl (by kernel_rfl) (by kernel_rfl) (by kernel_rfl) (fun _ _ _ h => h) (Or.inl ⟨by rfl, ?_⟩) (by with_reducible assumption) ?_
          rotate_left
          · intro w hSw
            (try dsimp only at hSw)
            go_simp
            (try with_reducible rfl)
          try simp only [Act.put]
          refine wpAnyH_take (i := 4) (v := ?_) rfl (by kernel_rfl) (by kernel_rfl) (by kernel_rfl) (fun _ _ _ h => h) (Or.inl ⟨by rfl, ?_⟩) (by with_reducible assumption) ?_
          rotate_left
          · intro w hSw
            (try dsimp only at hSw)
            go_simp
            (try with_reducible rfl)
          try simp only [Act.put]
          refine wpAnyH_take (i := 5) (v := ?_) rfl (by kernel_rfl) (by kernel_rfl) (by kernel_rfl) (fun _ _ _ h => h) (Or.inl ⟨by rfl, ?_⟩) (by with_reducible assumption) ?_
          rotate_left
          · intro w hSw
            (try dsimp only at hSw)
            go_simp
            (try with_reducible rfl)
          try simp only [Act.put]
          refine wpAnyH_take (i := 6) (v := ?_) rfl (by kernel_rfl) (by kernel_rfl) (by kernel_rfl) (fun _ _ _ h => h) (Or.inl ⟨by rfl, ?_⟩) (by with_reducible assumption) ?_
          rotate_left
          · intro w hSw
            (try dsimp only at hSw)
            go_simp
            (try with_reducible rfl)
          try simp only [Act.put]
          refine wpAnyH_take (i := 7) (v := ?_) rfl (by kernel_rfl) (by kernel_rfl) (by kernel_rfl) (fun _ _ _ h => h) (Or.inl ⟨by rfl, ?_⟩) (by with_reducible assumption) ?_
          rotate_left
          · intro w hSw
            (try dsimp only at hSw)
            go_simp
            (try with_reducible rfl)
          try simp only [Act.put]
          refine wpAnyH_take (i := 8) (v := ?_) rfl (by kernel_rfl) (by kernel_rfl) (by kernel_rfl) (fun _ _ _ h => h) (Or.inl ⟨by rfl, ?_⟩) (by with_reducible assumption) ?_
          rotate_left
          · intro w hSw
            (try dsimp only at hSw)
            go_simp
            (try with_reducible rfl)
          try simp only [Act.put]
          refine wpAnyH_take (i := 9) (v := ?_) rfl (by kernel_rfl) (by kernel_rfl) (by kernel_rfl) (fun _ _ _ h => h) (Or.inl ⟨by rfl, ?_⟩) (by with_reducible assumption) ?_
          rotate_left
          · intro w hSw
            (try dsimp only at hSw)
            go_simp
            (try with_reducible rfl)
          try simp only [Act.put]
          refine wpAnyH_take (i := 11) (v := ?_) rfl (by kernel_rfl) (by kernel_rfl) (by kernel_rfl) (fun _ _ _ h => h) (Or.inl ⟨by rfl, ?_⟩) (by with_reducible assumption) ?_
          rotate_left
          · intro w hSw
            (try dsimp only at hSw)
            go_simp
            (try with_reducible rfl)
          try simp only [Act.put]
          refine wpAnyH_take (i := 12) (v := ?_) rfl (by kernel_rfl) (by kernel_rfl) (by kernel_rfl) (fun _ _ _ h => h) (Or.inl ⟨by rfl, ?_⟩) (by with_reducible assumption) ?_
          rotate_left
          · intro w hSw
            (try dsimp only at hSw)
            go_simp
            (try with_reducible rfl)
          try simp only [Act.put]
          refine wpAnyH_take (i := 13) (v := ?_) rfl (by kernel_rfl) (by kernel_rfl) (by kernel_rfl) (fun _ _ _ h => h) (Or.inl ⟨by rfl, ?_⟩) (by with_reducible assumption) ?_
          rotate_left
          · intro w hSw
            (try dsimp only at hSw)
            go_simp
            (try with_reducible rfl)
          try simp only [Act.put]
          refine wpAnyH_take (i := 14) (v := ?_) rfl (by kernel_rfl) (by kernel_rfl) (by kernel_rfl) (fun _ _ _ h => h) (Or.inl ⟨by rfl, ?_⟩) (by with_reducible assumption) ?_
          rotate_left
          · intro w hSw
            (try dsimp only at hSw)
            go_simp
            (try with_reducible rfl)
          try simp only [Act.put]
          refine wpAnyH_take (i := 15) (v := ?_) rfl (by kernel_rfl) (by kernel_rfl) (by kernel_rfl) (fun _ _ _ h => h) (Or.inl ⟨by rfl, ?_⟩) (by with_reducible assumption) ?_
          rotate_left
          · intro w hSw
            (try dsimp only at hSw)
            go_simp
            (try with_reducible rfl)
          try simp only [Act.put]
          refine wpAnyH_take (i := 16) (v := ?_) rfl (by kernel_rfl) (by kernel_rfl) (by kernel_rfl) (fun _ _ _ h => h) (Or.inl ⟨by rfl, ?_⟩) (by with_reducible assumption) ?_
          rotate_left
          · intro w hSw
            (try dsimp only at hSw)
            go_simp
            (try with_reducible rfl)
          try simp only [Act.put]
          refine wpAnyH_ready (rs := [10, 17]) (by kernel_rfl) (by simp) ?_
          refine AllReadyH.cons rfl (fun K hK => ?_) ?_
          · skip
            go_simp
            refine hK.out _ _ ?_ (fun hHeld => ?_)
            · (try dsimp only); (first | with_reducible assumption | exact (HTS.out _ _ (.bool false) y0).1 | exact (HTS.out _ (.cells #[] 0) _ q0).2)
            · clear hK K
              refine wpAnyH_ready (rs := [17]) (by kernel_rfl) (by simp) ?_
              refine AllReadyH.cons rfl (fun K hK => ?_) ?_
              · skip
                go_simp
                go_wp2_with (go_at_call 22; refine Calls.mono (HM.out _ ?_) ?_; (case _ => (repeat' (first | exact Ch.refl _ _ | refine Ch.drewN ?_ _ | refine Ch.drew ?_)); done); rintro e w4 ⟨A, ao, c, b, La, rfl, k4, hF⟩; have C4 := k4; have HF4 := hF; obtain ⟨y0, ⟨y1, y2, y3, y4⟩, y5, y6⟩ := HK.out w4 k4; have kl4 : k < w4.heap.size := World.block_lt_of_cell? w4 _ y1; have tl4 : t < w4.heap.size := World.block_lt_of_cell? w4 _ y0; clear k4 hF)
                refine hK.out _ _ ?_ (fun hHeld => ?_)
                · (try dsimp only); (first | with_reducible assumption | exact (HTS.out _ _ (.bool false) y0).1 | exact (HTS.out _ (.cells #[] 0) _ q0).2)
                · clear hK K
                  refine wpAnyH_ready (rs := [18]) (by kernel_rfl) (by simp) ?_
                  refine AllReadyH.cons rfl (fun K hK => ?_) ?_
                  · skip
                    go_simp
                    refine hK.out _ _ ?_ (fun hHeld => ?_)
                    · (try dsimp only); (first | with_reducible assumption | exact (HTS.out _ _ (.bool false) y0).1 | exact (HTS.out _ (.cells #[] 0) _ q0).2)
                    · clear hK K
                      refine wpAnyH_ready (rs := [19]) (by kernel_rfl) (by simp) ?_
                      refine AllReadyH.cons rfl (fun K hK => ?_) ?_
                      · skip
                        (refine step_append_at rfl (.tmp 79) (.tmp 87) 50 (by rfl) B 60 i1 _ 4 48 Try.underlying50 hi1 hy0 hy1 hy2 rfl (by decide) (.slice (some ⟨g, 0, none⟩) T.length cs) T.length xs (by first | rfl | simp [Act.eval, Act.put]) (((C2.out.trans C4 fun _ _ h => h).row H.out.sh fun _ _ h => h).alloc _) ⟨w4.heap.size, 0, none⟩ 1 1 (shpC lm A ao La.length c b) (by first | rfl | simp [Act.eval, Act.put]) rfl (cells_newK _ _ _) (by simp [Value.oneCell']) (by unfold maxLen; omega) (by omega) (by have := (H.out.low t H.out.rt.1).1; have := (H.out.low t H.out.rt.1).2; have := (C2.out.trans C4 fun _ _ h => h).size; show B ≤ (w4.alloc _).heap.size; rw [World.size_alloc]; omega) ?_; intro v5 w5 hown5 hgr5 hloc5; obtain ⟨a5, c5, rfl⟩ := row_shape hown5; have HO5 := hideP hown5; have HG5 := hideP hgr5; have HL5 := hideP hloc5; obtain ⟨x1, x2, x3, x4, x5⟩ := add_grown H.out (C2.out.trans C4 fun _ _ h => h) (C4.obj SB.out fun h => h) hgr5; have X1 := hideP x1; have X2 := hideP x2; have X3 := hideP x3; have X4 := hideP x4; have X5 := hideP x5; obtain ⟨⟨_, _, q2, q3⟩, ⟨_, _, g2, _⟩, ql⟩ := box4 x2; obtain ⟨q0, _, _⟩ := box1 x1; clear hown5 hgr5 hloc5 x1 x2 x3 x4 x5)
                        refine hK.out _ _ ?_ (fun hHeld => ?_)
                        · (try dsimp only); (first | with_reducible assumption | exact (HTS.out _ _ (.bool false) y0).1 | exact (HTS.out _ (.cells #[] 0) _ q0).2)
                        · clear hK K
                          refine wpAnyH_take (i := 20) (v := ?_) rfl (by kernel_rfl) (by kernel_rfl) (by kernel_rfl) (fun _ _ _ h => h) (Or.inl ⟨by rfl, ?_⟩) (by with_reducible assumption) ?_
                          rotate_left
                          · intro w hSw
                            (try dsimp only at hSw)
                            go_simp
                            (try with_reducible rfl)
                          try simp only [Act.put, List.setIfInBounds_toArray]
                          refine wpAnyH_take (i := 21) (v := ?_) rfl (by kernel_rfl) (by kernel_rfl) (by kernel_rfl) (fun _ _ _ h => h) (Or.inl ⟨by rfl, ?_⟩) (by with_reducible assumption) ?_
                          rotate_left
                          · intro w hSw
                            (try dsimp only at hSw)
                            go_simp
                            (try with_reducible rfl)
                          try simp only [Act.put]
                          refine wpAnyH_ready (rs := [22]) (by kernel_rfl) (by simp) ?_
                          refine AllReadyH.cons rfl (fun K hK => ?_) ?_
                          · skip
                            go_simp
                            refine hK.out _ _ ?_ (fun hHeld => ?_)
                            · (try dsimp only); (first | with_reducible assumption | exact (HTS.out _ _ (.bool false) y0).1 | exact (HTS.out _ (.cells #[] 0) _ q0).2)
                            · clear hK K
                              refine wpAnyH_done (by kernel_rfl) ?_ _
                              go_upto_region 12 with fail
                              obtain ⟨w6, hw6⟩ : ∃ w6, w6 = w5.setCell ⟨k, 2, none⟩ (.slice a5 (T.length + 1) c5) := ⟨_, rfl⟩
                              rw [← hw6]
                              have C6 : Hid (Ch (fun b => b = k) w5 w6) := by rw [hw6]; exact (Ch.refl (fun b => b = k) w5).set (fun _ => rfl) _ _
                              have hkm : mb ≠ k := fun e => by have h1 := H.out.rm.2; have h2 := H.out.rk.2; rw [e] at h1; omega
                              obtain ⟨w7, hp1, hp2, hp3⟩ := numG_put (w := w6.drew) (mt := 51) (X4.out.ch C6.out.drew hkm) keyedP Try.underlying51 (by have := OK1.out.mlen; omega) (step_key j n (by omega) (by omega)) T.length (by omega)
                              have P2 := hideP hp2
                              have P3 : Hid (w6.grownBy w7 (some mb)) := ⟨hp3.os, hp3.tape, hp3.output, hp3.size, hp3.block⟩
                              have r0 : w6.drew.cell? ⟨t, 0, none⟩ = some (.pointer (some ⟨k, 0, none⟩)) := (box1 (C6.out.obj X1.out htk)).1
                              have r3 : w6.drew.cell? ⟨k, 3, none⟩ = some (.map (some mb)) := by
                                have h2 : w6.heap[k]? = some (.cells #[.map (some nb), .slice al NL1.length cl, .slice a5 (T.length + 1) c5, .map (some mb)] 53) := by
                                  rw [hw6]
                                  have := cells_setCell (o := 2) (u := .slice a5 (T.length + 1) c5) X2.out
                                  simpa using this
                                exact (box4 h2).1.2.2.2
                              obtain ⟨⟨r4, r5⟩, _, _⟩ := box2 (C6.out.obj X3.out fun e => hks e.symm)
                              have r6 : w6.drew.cell? ⟨w1.heap.size, 0, none⟩ = some (.int .i64 j) := r4
                              have r7 : w6.drew.cell? ⟨w1.heap.size, 1, none⟩ = some (.int .i64 n) := r5
                              have HW6 := hideP hw6
                              clear hp2 hp3 hw6 q2 q3 g2 z0 z1 z2 z3 z4 z5 z6 y0 y1 y2 y3 y4 y5 y6 r4 r5
                              go_region
                              all_goals
                                go_wp2_with fail
                                go_ret2
                                refine ⟨rfl, TrP.next HF1.out HC1.out ?_⟩
                                have hlm := HLM.out
                                subst hlm
                                obtain ⟨m1, m2, m3, m4, m5⟩ := HF4.out
                                have hend := add_end H.out OK1.out HG.out hj hn (by rw [HNX.out]; exact HRW.out) nl1 hT (C2.out.trans C4 fun _ _ h => h) m1 m2 m3 m4 m5 HO5.out HG5.out HL5.out X2.out P2.out (by rw [← HW6.out]; exact P3.out)
                                rw [HNX.out] at hend
                                exact hend
                          exact AllReadyH.nil
                      exact AllReadyH.nil
                  exact AllReadyH.nil
              exact AllReadyH.nil
          refine AllReadyH.cons rfl (fun K hK => ?_) ?_
          · skip
            go_simp
            go_wp2_with (go_at_call 22; refine Calls.mono (HM.out _ ?_) ?_; (case _ => (repeat' (first | exact Ch.refl _ _ | refine Ch.drewN ?_ _ | refine Ch.drew ?_)); done); rintro e w4 ⟨A, ao, c, b, La, rfl, k4, hF⟩; have C4 := k4; have HF4 := hF; obtain ⟨y0, ⟨y1, y2, y3, y4⟩, y5, y6⟩ := HK.out w4 k4; have kl4 : k < w4.heap.size := World.block_lt_of_cell? w4 _ y1; have tl4 : t < w4.heap.size := World.block_lt_of_cell? w4 _ y0; clear k4 hF)
            refine hK.out _ _ ?_ (fun hHeld => ?_)
            · (try dsimp only); (first | with_reducible assumption | exact (HTS.out _ _ (.bool false) y0).1 | exact (HTS.out _ (.cells #[] 0) _ q0).2)
            · clear hK K
              refine wpAnyH_ready (rs := [10, 18]) (by kernel_rfl) (by simp) ?_
              refine AllReadyH.cons rfl (fun K hK => ?_) ?_
              · skip
                go_simp
                refine hK.out _ _ ?_ (fun hHeld => ?_)
                · (try dsimp only); (first | with_reducible assumption | exact (HTS.out _ _ (.bool false) y0).1 | exact (HTS.out _ (.cells #[] 0) _ q0).2)
                · clear hK K
                  refine wpAnyH_ready (rs := [18]) (by kernel_rfl) (by simp) ?_
                  refine AllReadyH.cons rfl (fun K hK => ?_) ?_
                  · skip
                    go_simp
                    refine hK.out _ _ ?_ (fun hHeld => ?_)
                    · (try dsimp only); (first | with_reducible assumption | exact (HTS.out _ _ (.bool false) y0).1 | exact (HTS.out _ (.cells #[] 0) _ q0).2)
                    · clear hK K
                      refine wpAnyH_ready (rs := [19]) (by kernel_rfl) (by simp) ?_
                      refine AllReadyH.cons rfl (fun K hK => ?_) ?_
                      · skip
                        (refine step_append_at rfl (.tmp 79) (.tmp 87) 50 (by rfl) B 60 i1 _ 4 48 Try.underlying50 hi1 hy0 hy1 hy2 rfl (by decide) (.slice (some ⟨g, 0, none⟩) T.length cs) T.length xs (by first | rfl | simp [Act.eval, Act.put]) (((C2.out.trans C4 fun _ _ h => h).row H.out.sh fun _ _ h => h).alloc _) ⟨w4.heap.size, 0, none⟩ 1 1 (shpC lm A ao La.length c b) (by first | rfl | simp [Act.eval, Act.put]) rfl (cells_newK _ _ _) (by simp [Value.oneCell']) (by unfold maxLen; omega) (by omega) (by have := (H.out.low t H.out.rt.1).1; have := (H.out.low t H.out.rt.1).2; have := (C2.out.trans C4 fun _ _ h => h).size; show B ≤ (w4.alloc _).heap.size; rw [World.size_alloc]; omega) ?_; intro v5 w5 hown5 hgr5 hloc5; obtain ⟨a5, c5, rfl⟩ := row_shape hown5; have HO5 := hideP hown5; have HG5 := hideP hgr5; have HL5 := hideP hloc5; obtain ⟨x1, x2, x3, x4, x5⟩ := add_grown H.out (C2.out.trans C4 fun _ _ h => h) (C4.obj SB.out fun h => h) hgr5; have X1 := hideP x1; have X2 := hideP x2; have X3 := hideP x3; have X4 := hideP x4; have X5 := hideP x5; obtain ⟨⟨_, _, q2, q3⟩, ⟨_, _, g2, _⟩, ql⟩ := box4 x2; obtain ⟨q0, _, _⟩ := box1 x1; clear hown5 hgr5 hloc5 x1 x2 x3 x4 x5)
                        refine hK.out _ _ ?_ (fun hHeld => ?_)
                        · (try dsimp only); (first | with_reducible assumption | exact (HTS.out _ _ (.bool false) y0).1 | exact (HTS.out _ (.cells #[] 0) _ q0).2)
                        · clear hK K
                          refine wpAnyH_take (i := 20) (v := ?_) rfl (by kernel_rfl) (by kernel_rfl) (by kernel_rfl) (fun _ _ _ h => h) (Or.inl ⟨by rfl, ?_⟩) (by with_reducible assumption) ?_
                          rotate_left
                          · intro w hSw
                            (try dsimp only at hSw)
                            go_simp
                            (try with_reducible rfl)
                          try simp only [Act.put, List.setIfInBounds_toArray]
                          refine wpAnyH_take (i := 21) (v := ?_) rfl (by kernel_rfl) (by kernel_rfl) (by kernel_rfl) (fun _ _ _ h => h) (Or.inl ⟨by rfl, ?_⟩) (by with_reducible assumption) ?_
                          rotate_left
                          · intro w hSw
                            (try dsimp only at hSw)
                            go_simp
                            (try with_reducible rfl)
                          try simp only [Act.put]
                          refine wpAnyH_ready (rs := [22]) (by kernel_rfl) (by simp) ?_
                          refine AllReadyH.cons rfl (fun K hK => ?_) ?_
                          · skip
                            go_simp
                            refine hK.out _ _ ?_ (fun hHeld => ?_)
                            · (try dsimp only); (first | with_reducible assumption | exact (HTS.out _ _ (.bool false) y0).1 | exact (HTS.out _ (.cells #[] 0) _ q0).2)
                            · clear hK K
                              refine wpAnyH_done (by kernel_rfl) ?_ _
                              go_upto_region 12 with fail
                              obtain ⟨w6, hw6⟩ : ∃ w6, w6 = w5.setCell ⟨k, 2, none⟩ (.slice a5 (T.length + 1) c5) := ⟨_, rfl⟩
                              rw [← hw6]
                              have C6 : Hid (Ch (fun b => b = k) w5 w6) := by rw [hw6]; exact (Ch.refl (fun b => b = k) w5).set (fun _ => rfl) _ _
                              have hkm : mb ≠ k := fun e => by have h1 := H.out.rm.2; have h2 := H.out.rk.2; rw [e] at h1; omega
                              obtain ⟨w7, hp1, hp2, hp3⟩ := numG_put (w := w6.drew) (mt := 51) (X4.out.ch C6.out.drew hkm) keyedP Try.underlying51 (by have := OK1.out.mlen; omega) (step_key j n (by omega) (by omega)) T.length (by omega)
                              have P2 := hideP hp2
                              have P3 : Hid (w6.grownBy w7 (some mb)) := ⟨hp3.os, hp3.tape, hp3.output, hp3.size, hp3.block⟩
                              have r0 : w6.drew.cell? ⟨t, 0, none⟩ = some (.pointer (some ⟨k, 0, none⟩)) := (box1 (C6.out.obj X1.out htk)).1
                              have r3 : w6.drew.cell? ⟨k, 3, none⟩ = some (.map (some mb)) := by
                                have h2 : w6.heap[k]? = some (.cells #[.map (some nb), .slice al NL1.length cl, .slice a5 (T.length + 1) c5, .map (some mb)] 53) := by
                                  rw [hw6]
                                  have := cells_setCell (o := 2) (u := .slice a5 (T.length + 1) c5) X2.out
                                  simpa using this
                                exact (box4 h2).1.2.2.2
                              obtain ⟨⟨r4, r5⟩, _, _⟩ := box2 (C6.out.obj X3.out fun e => hks e.symm)
                              have r6 : w6.drew.cell? ⟨w1.heap.size, 0, none⟩ = some (.int .i64 j) := r4
                              have r7 : w6.drew.cell? ⟨w1.heap.size, 1, none⟩ = some (.int .i64 n) := r5
                              have HW6 := hideP hw6
                              clear hp2 hp3 hw6 q2 q3 g2 z0 z1 z2 z3 z4 z5 z6 y0 y1 y2 y3 y4 y5 y6 r4 r5
                              go_region
                              all_goals
                                go_wp2_with fail
                                go_ret2
                                refine ⟨rfl, TrP.next HF1.out HC1.out ?_⟩
                                have hlm := HLM.out
                                subst hlm
                                obtain ⟨m1, m2, m3, m4, m5⟩ := HF4.out
                                have hend := add_end H.out OK1.out HG.out hj hn (by rw [HNX.out]; exact HRW.out) nl1 hT (C2.out.trans C4 fun _ _ h => h) m1 m2 m3 m4 m5 HO5.out HG5.out HL5.out X2.out P2.out (by rw [← HW6.out]; exact P3.out)
                                rw [HNX.out] at hend
                                exact hend
                          exact AllReadyH.nil
                      exact AllReadyH.nil
                  exact AllReadyH.nil
              refine AllReadyH.cons rfl (fun K hK => ?_) ?_
              · skip
                go_simp
                refine hK.out _ _ ?_ (fun hHeld => ?_)
                · (try dsimp only); (first | with_reducible assumption | exact (HTS.out _ _ (.bool false) y0).1 | exact (HTS.out _ (.cells #[] 0) _ q0).2)
                · clear hK K
                  refine wpAnyH_ready (rs := [10]) (by kernel_rfl) (by simp) ?_
                  refine AllReadyH.cons rfl (fun K hK => ?_) ?_
                  · skip
                    go_simp
                    refine hK.out _ _ ?_ (fun hHeld => ?_)
                    · (try dsimp only); (first | with_reducible assumption | exact (HTS.out _ _ (.bool false) y0).1 | exact (HTS.out _ (.cells #[] 0) _ q0).2)
                    · clear hK K
                      refine wpAnyH_ready (rs := [19]) (by kernel_rfl) (by simp) ?_
                      refine AllReadyH.cons rfl (fun K hK => ?_) ?_
                      · skip
                        (refine step_append_at rfl (.tmp 79) (.tmp 87) 50 (by rfl) B 60 i1 _ 4 48 Try.underlying50 hi1 hy0 hy1 hy2 rfl (by decide) (.slice (some ⟨g, 0, none⟩) T.length cs) T.length xs (by first | rfl | simp [Act.eval, Act.put]) (((C2.out.trans C4 fun _ _ h => h).row H.out.sh fun _ _ h => h).alloc _) ⟨w4.heap.size, 0, none⟩ 1 1 (shpC lm A ao La.length c b) (by first | rfl | simp [Act.eval, Act.put]) rfl (cells_newK _ _ _) (by simp [Value.oneCell']) (by unfold maxLen; omega) (by omega) (by have := (H.out.low t H.out.rt.1).1; have := (H.out.low t H.out.rt.1).2; have := (C2.out.trans C4 fun _ _ h => h).size; show B ≤ (w4.alloc _).heap.size; rw [World.size_alloc]; omega) ?_; intro v5 w5 hown5 hgr5 hloc5; obtain ⟨a5, c5, rfl⟩ := row_shape hown5; have HO5 := hideP hown5; have HG5 := hideP hgr5; have HL5 := hideP hloc5; obtain ⟨x1, x2, x3, x4, x5⟩ := add_grown H.out (C2.out.trans C4 fun _ _ h => h) (C4.obj SB.out fun h => h) hgr5; have X1 := hideP x1; have X2 := hideP x2; have X3 := hideP x3; have X4 := hideP x4; have X5 := hideP x5; obtain ⟨⟨_, _, q2, q3⟩, ⟨_, _, g2, _⟩, ql⟩ := box4 x2; obtain ⟨q0, _, _⟩ := box1 x1; clear hown5 hgr5 hloc5 x1 x2 x3 x4 x5)
                        refine hK.out _ _ ?_ (fun hHeld => ?_)
                        · (try dsimp only); (first | with_reducible assumption | exact (HTS.out _ _ (.bool false) y0).1 | exact (HTS.out _ (.cells #[] 0) _ q0).2)
                        · clear hK K
                          refine wpAnyH_take (i := 20) (v := ?_) rfl (by kernel_rfl) (by kernel_rfl) (by kernel_rfl) (fun _ _ _ h => h) (Or.inl ⟨by rfl, ?_⟩) (by with_reducible assumption) ?_
                          rotate_left
                          · intro w hSw
                            (try dsimp only at hSw)
                            go_simp
                            (try with_reducible rfl)
                          try simp only [Act.put, List.setIfInBounds_toArray]
                          refine wpAnyH_take (i := 21) (v := ?_) rfl (by kernel_rfl) (by kernel_rfl) (by kernel_rfl) (fun _ _ _ h => h) (Or.inl ⟨by rfl, ?_⟩) (by with_reducible assumption) ?_
                          rotate_left
                          · intro w hSw
                            (try dsimp only at hSw)
                            go_simp
                            (try with_reducible rfl)
                          try simp only [Act.put]
                          refine wpAnyH_ready (rs := [22]) (by kernel_rfl) (by simp) ?_
                          refine AllReadyH.cons rfl (fun K hK => ?_) ?_
                          · skip
                            go_simp
                            refine hK.out _ _ ?_ (fun hHeld => ?_)
                            · (try dsimp only); (first | with_reducible assumption | exact (HTS.out _ _ (.bool false) y0).1 | exact (HTS.out _ (.cells #[] 0) _ q0).2)
                            · clear hK K
                              refine wpAnyH_done (by kernel_rfl) ?_ _
                              go_upto_region 12 with fail
                              obtain ⟨w6, hw6⟩ : ∃ w6, w6 = w5.setCell ⟨k, 2, none⟩ (.slice a5 (T.length + 1) c5) := ⟨_, rfl⟩
                              rw [← hw6]
                              have C6 : Hid (Ch (fun b => b = k) w5 w6) := by rw [hw6]; exact (Ch.refl (fun b => b = k) w5).set (fun _ => rfl) _ _
                              have hkm : mb ≠ k := fun e => by have h1 := H.out.rm.2; have h2 := H.out.rk.2; rw [e] at h1; omega
                              obtain ⟨w7, hp1, hp2, hp3⟩ := numG_put (w := w6.drew) (mt := 51) (X4.out.ch C6.out.drew hkm) keyedP Try.underlying51 (by have := OK1.out.mlen; omega) (step_key j n (by omega) (by omega)) T.length (by omega)
                              have P2 := hideP hp2
                              have P3 : Hid (w6.grownBy w7 (some mb)) := ⟨hp3.os, hp3.tape, hp3.output, hp3.size, hp3.block⟩
                              have r0 : w6.drew.cell? ⟨t, 0, none⟩ = some (.pointer (some ⟨k, 0, none⟩)) := (box1 (C6.out.obj X1.out htk)).1
                              have r3 : w6.drew.cell? ⟨k, 3, none⟩ = some (.map (some mb)) := by
                                have h2 : w6.heap[k]? = some (.cells #[.map (some nb), .slice al NL1.length cl, .slice a5 (T.length + 1) c5, .map (some mb)] 53) := by
                                  rw [hw6]
                                  have := cells_setCell (o := 2) (u := .slice a5 (T.length + 1) c5) X2.out
                                  simpa using this
                                exact (box4 h2).1.2.2.2
                              obtain ⟨⟨r4, r5⟩, _, _⟩ := box2 (C6.out.obj X3.out fun e => hks e.symm)
                              have r6 : w6.drew.cell? ⟨w1.heap.size, 0, none⟩ = some (.int .i64 j) := r4
                              have r7 : w6.drew.cell? ⟨w1.heap.size, 1, none⟩ = some (.int .i64 n) := r5
                              have HW6 := hideP hw6
                              clear hp2 hp3 hw6 q2 q3 g2 z0 z1 z2 z3 z4 z5 z6 y0 y1 y2 y3 y4 y5 y6 r4 r5
                              go_region
                              all_goals
                                go_wp2_with fail
                                go_ret2
                                refine ⟨rfl, TrP.next HF1.out HC1.out ?_⟩
                                have hlm := HLM.out
                                subst hlm
                                obtain ⟨m1, m2, m3, m4, m5⟩ := HF4.out
                                have hend := add_end H.out OK1.out HG.out hj hn (by rw [HNX.out]; exact HRW.out) nl1 hT (C2.out.trans C4 fun _ _ h => h) m1 m2 m3 m4 m5 HO5.out HG5.out HL5.out X2.out P2.out (by rw [← HW6.out]; exact P3.out)
                                rw [HNX.out] at hend
                                exact hend
                          exact AllReadyH.nil
                      exact AllReadyH.nil
                  exact AllReadyH.nil
              exact AllReadyH.nil
          exact AllReadyH.nil
  · rw [decide_eq_false hin] at HH
    rw [add_out (by omega)]
    clear hin H0 hok
    go_enter Try.func12, Try.ntmps12
    go_wp2_with fail
    refine HH.out.mono ?_
    rintro e w ⟨rfl, rfl⟩
    go_wp2_with fail
    go_ret2
    exact ⟨rfl, TrP.same HTT.out⟩
set_option maxRecDepth 100000 in
set_option maxHeartbeats 4000000 in
theorem sof_c (B t : Nat) (F FA : Nat → Prop) (T : List (List ByteArray)) (v : Value) (ns : List ByteArray) (w : World) (h : TreeT B F w t T) (hg : GoodT T) (hv : StrV FA w v ns) (hF : ∀ b, FA b → ¬ F b) (hT : T.length + ns.length ≤ 1000000) (hx : ∀ x ∈ ns, x.size ≤ 140737488351232) :
    Calls Try.prog 10 #[.pointer (some ⟨t, 0, none⟩), v] w fun e w' => e = .returned (.tuple #[.int .i64 (ofV ns T 0).2, .int .i64 0]) ∧ TrP (fun F w T => TreeT B F w t T) F w (ofV ns T 0).1 w' := by
  have H := hideP h
  have HV := hideP hv
  have HG := hideP hg
  have HF := hideP hF
  have HX := hideP hx
  obtain ⟨ao, c, rfl, _, _, _⟩ := hv.form
  clear h hv hg hF hx
  go_enter Try.func10, Try.ntmps10
  go_wp2_with fail
  go_loopw [6, 7, 12] (fun sv ev i wx => ∃ j : Nat, i = .int .i64 j ∧ j ≤ ns.length ∧ ev = .int .i64 0 ∧ sv = .int .i64 (ofV (ns.take j) T 0).2 ∧ Hid (TrP (fun F w T => TreeT B F w t T) F w (ofV (ns.take j) T 0).1 wx)) (fun _ _ i _ => ns.length - (intOf i).toNat)
  case atStart => exact ⟨0, rfl, Nat.zero_le _, rfl, rfl, TrP.same H.out⟩
  case round =>
    obtain ⟨j, rfl, hj, rfl, rfl, HP⟩ := hrel
    obtain ⟨F1, p1, p2, p3⟩ := HP.out
    by_cases hlt : j < ns.length
    · have hjl : (j : Int) < (ns.length : Int) := by omega
      have hj0 : (0 : Int) ≤ (j : Int) := by omega
      have hl1 := of_len (ns.take j) (T := T) (s := 0)
      rw [List.length_take] at hl1
      have hgT := good_of (ns.take j) (s := 0) HG.out
      have hv1 : StrV FA wr (.slice ao ns.length c) ns := HV.out.ch p3 fun b hb _ => HF.out b hb
      obtain ⟨ao', c', e, _, _, hc⟩ := hv1.form
      injection e with e1 _ e2
      subst e1 e2
      obtain ⟨b, o, rfl, _, _, hcell⟩ := hc j hlt
      have hN : ofV (ns.take (j + 1)) T 0 = ((addV (ofV (ns.take j) T 0).1 (ofV (ns.take j) T 0).2 ns[j]).1, (addV (ofV (ns.take j) T 0).1 (ofV (ns.take j) T 0).2 ns[j]).2.1) := by rw [take_snocK _ _ hlt, ofV_snoc]
      have HN := hideP hN
      have hr := of_rng (ns.take j) (T := T) (s := 0) HG.out.pos (Int.le_refl _) (by have := HG.out.pos; omega)
      obtain ⟨X, hX⟩ : ∃ X, X = ofV (ns.take j) T 0 := ⟨_, rfl⟩
      rw [← hX] at hl1 hgT p1 HP HN hr ⊢
      have hb1 : -9223372036854775808 ≤ X.2 ∧ X.2 ≤ 9223372036854775807 := by omega
      have hz : (addV X.1 X.2 ns[j]).2.2 = 0 := add_err (by omega)
      have HC := hideP (sadd_c B t F1 X.1 X.2 ns[j] wr p1 hgT hb1.1 hb1.2 (by omega) (HX.out _ (List.getElem_mem hlt)))
      rw [hz] at HC
      have P2 := hideP p2
      have P3 := hideP p3
      clear hX hgT hv1 hc p1 p2 p3 hN hr hb1 hz
      go_wp2_with fail
      refine HC.out.mono ?_
      rintro e w4 ⟨rfl, hp⟩
      have HP4 := hideP (TrP.next P2.out P3.out hp)
      clear hp
      go_wp2_with fail
      exact ⟨⟨j + 1, by go_num, by omega, rfl, by rw [HN.out], by rw [HN.out]; exact HP4.out⟩, by simp [intOf]; omega⟩
    · have hjl : ¬ (j : Int) < (ns.length : Int) := by omega
      have e : ns.take j = ns := List.take_of_length_le (by omega)
      rw [e] at HP ⊢
      clear e p1 p2 p3
      go_wp2_with fail
      go_ret2
      exact ⟨rfl, HP.out⟩
end Go.Proofs.Ytldcfglkcifklaa
