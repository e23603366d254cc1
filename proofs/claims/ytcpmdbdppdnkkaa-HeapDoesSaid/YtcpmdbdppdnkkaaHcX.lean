/- The program's arena: the closure that marks. -/
import Derived.Test.YtcpmdbdppdnkkaaHcR
namespace Go.Proofs.Ytcpmdbdppdnkkaa
open Go.RowKit

theorem MkR.weaken {Q : List Ob} {m m' : Int → Bool} {E rts : List Int} {k k' : Nat} (h : MkR Q m m' E rts k) (hk : k ≤ k') : MkR Q m m' E rts k' := ⟨h.up, h.has, h.new, h.kids, h.roots, Nat.le_trans h.pot (by omega)⟩
def ReachOk (B : Nat) (F : Nat → Prop) (w0 : World) (kb : Nat) (room free used : Int) (os : List Int) (C : List CellV) (Q : List Ob) (bx lb rb f : Nat) : Prop :=
  ∀ (deep : Nat) (ref : Int) (m : Int → Bool) (L : List Int) (W : World), deep + f = 1024 → ref ≤ 9223372036854775807 → L.length + potQ Q m ≤ 3000000000 → MkS B F w0 kb room free used os C Q bx lb rb W m L →
    Calls Try.prog 31 #[.int .i64 ref, .int .i64 (deep : Int), .pointer (some ⟨bx, 0, none⟩), .pointer (some ⟨lb, 0, none⟩), .pointer (some ⟨rb, 0, none⟩)] W fun e w' => e = .returned (.tuple #[]) ∧ ∃ m' E, MkR Q m m' E [ref] (if f = 0 then 1 else 0) ∧ MkS B F w0 kb room free used os C Q bx lb rb w' m' (L ++ E)
def rtsOf (l : List SlotV) : List Int := (l.filter fun s => s.ref).map fun s => s.n
theorem rts_snoc (l : List SlotV) (s : SlotV) : rtsOf (l ++ [s]) = rtsOf l ++ if s.ref = true then [s.n] else [] := by
  unfold rtsOf
  rw [List.filter_append, List.map_append]
  congr 1
  cases h : s.ref <;> simp [h]
set_option maxRecDepth 100000 in
set_option maxHeartbeats 8000000 in
theorem rch_step (B : Nat) (F : Nat → Prop) (w0 : World) (kb : Nat) (room free used : Int) (os : List Int) (C : List CellV) (Q : List Ob) (fr : List Nat) (bx lb rb f : Nat) (hB : MkB F w0.heap.size bx lb rb) (hk : Kp C free Q fr []) (hg : GoodM (hpO Q)) (hC : C.length ≤ 2000000000) (IH : ∀ f', f = f' + 1 → ReachOk B F w0 kb room free used os C Q bx lb rb f') : ReachOk B F w0 kb room free used os C Q bx lb rb f := by
  intro deep ref m L W hd hr1 hpb hS
  obtain ⟨kk, hkk⟩ : ∃ kk, kk = (if f = 0 then 1 else 0) := ⟨_, rfl⟩
  rw [← hkk]
  have HKK := hideP hkk
  clear hkk
  obtain ⟨C1, hl1, hst, hkt⟩ := hS.arena
  have hC1 : C1.length = C.length := hl1.1
  have HC := hideP (has_c B kb F room free used C1 os ref W hkt hr1)
  have c1 := hS.k
  have HS := hideP hS
  have HB := hideP hB
  have HK := hideP hk
  have HG := hideP hg
  have HIH := hideP IH
  have hd' : (deep : Int) ≤ 1024 := by omega
  have hib := (hk.asLike hl1).hasB (x := ref)
  cases hh : hasC C1 ref with
  | false =>
    rw [hh] at HC hib
    have hno : ¬ hasM (hpO Q) ref := fun h => absurd (hib.2 h) (by decide)
    have HN := hideP hno
    clear hS hB hk hg IH hib hh hno hkt hst hl1
    go_enter Try.func31, Try.ntmps31
    go_wp2_with fail
    refine HC.out.mono ?_
    rintro e w' ⟨rfl, rfl⟩
    go_wp2_with fail
    exact bodyPost_ret (results_none rfl _ _ _) rfl ⟨rfl, m, [], MkR.none (.inl HN.out) _, by rw [List.append_nil]; exact HS.out⟩
  | true =>
    rw [hh] at HC hib
    obtain ⟨o, ho, rfl⟩ := hp_has.1 (hib.1 rfl)
    obtain ⟨c, g1, g2, g3, g4⟩ := hk.objs o ho
    obtain ⟨b, hb⟩ := hl1.2 _ _ g1
    obtain ⟨a1, k1, a2, k2, ⟨x0, _⟩, xf, xl, _⟩ := KR.look hkt
    obtain ⟨q, rfl, hFq, hqk, ⟨_, y1, _, _, y4⟩, yf, yl⟩ := KeptT.at hkt hb x0
    have hbm := hst o ho _ hb
    simp only at hbm y1 y4
    rw [hbm] at y4
    have hp := (List.getElem?_eq_some_iff.1 g1).1
    obtain ⟨p, hpp⟩ : ∃ p, p = o.p := ⟨_, rfl⟩
    rw [← hpp] at y1 y4 hp HC ⊢
    obtain ⟨mk, hmk⟩ : ∃ mk, mk = m (p : Int) := ⟨_, rfl⟩
    have hmk' : mk = m (o.p : Int) := by rw [hmk, hpp]
    rw [← hmk] at y4
    rw [hC1] at x0
    have hpl : (p : Int) < (C.length : Int) := by omega
    have hp0 : (0 : Int) ≤ (p : Int) := by omega
    obtain ⟨nx, hnx⟩ : ∃ nx, nx = c.next := ⟨_, rfl⟩
    rw [← hnx] at y1 g4
    have HGS := hideP g4
    have HG1 := hideP g1
    have HO := hideP ho
    have HPP := hideP hpp
    have HMK := hideP hmk
    have f4 := yf (p * 5 + 4)
    cases mk with
    | true =>
      clear hS hB hk hg IH hib hh hkt hst hl1 hbm hb g1 g2 g3 g4 ho hpp hmk hmk' hnx xf yf hC1
      go_enter Try.func31, Try.ntmps31
      go_wp2_with fail
      refine HC.out.mono ?_
      rintro e w' ⟨rfl, rfl⟩
      go_wp2_with fail
      exact bodyPost_ret (results_none rfl _ _ _) rfl ⟨rfl, m, [], MkR.none (.inr HMK.out.symm) _, by rw [List.append_nil]; exact HS.out⟩
    | false =>
      clear hS hB hk hg IH hib hh hkt hst hl1 hbm hb g1 g2 g3 g4 ho hpp hmk hmk' hnx xf yf hC1
      cases f with
      | zero =>
        have hd2 : deep = 1024 := by omega
        subst hd2
        obtain ⟨v3, hl, hown, hsep⟩ := HS.out.l
        obtain ⟨a3, c3, rfl⟩ := row_shape hown
        obtain ⟨l0, l1, l2⟩ := box1 hl
        have HL := hideP hl
        have HOW := hideP hown
        have HSE := hideP hsep
        obtain ⟨i0, hi, hz0, hz1, hz2⟩ := info_parts info_intC
        clear hl hown hsep
        go_enter Try.func31, Try.ntmps31
        go_wp2_with fail
        refine HC.out.mono ?_
        rintro e w' ⟨rfl, rfl⟩
        go_wp2_with (at_builtin; refine wpList_append_own_at _ rfl (.tmp 24) (.tmp 26) 31 rfl w0.heap.size 3 i0 _ 1 8 Try.underlying31 hi hz0 hz1 hz2 rfl (by decide) _ L.length _ rfl (HOW.out.alloc _) ⟨_, 0, none⟩ 1 1 [.int .i64 (p : Int)] rfl rfl (cells_newK _ _ _) (by simp [Value.oneCell']) (by unfold maxLen; omega) (by omega) (by rw [World.size_alloc]; have := HS.out.ch.size; omega) ?_)
        intro v5 w5 hown5 hgr5 _ hb5
        obtain ⟨a5, c5, rfl⟩ := row_shape hown5
        obtain ⟨p1, p2⟩ := MkS.push HB.out HS.out HL.out hgr5 hown5 (by rw [World.size_alloc]; exact hb5)
        obtain ⟨_, q1, q2⟩ := box1 p1
        have HP := hideP p2
        clear hown5 hgr5 hb5 p1 p2
        have hkk : kk = 1 := HKK.out
        go_wp2_with fail
        exact bodyPost_ret (results_none rfl _ _ _) rfl ⟨rfl, m, [(p : Int)], by rw [hkk]; exact MkR.later (hp_has.2 ⟨o, HO.out, by rw [HPP.out]⟩), HP.out⟩
      | succ f =>
        have hkk : kk = 0 := HKK.out
        subst hkk
        have hdn : ¬ (deep : Int) = 1024 := by omega
        have HI := hideP (HIH.out f rfl)
        have HS1 : Hid (MkS B F w0 kb room free used os C Q bx lb rb (W.setCell ⟨q, p * 5 + 4, none⟩ (.bool true)) (markM m (p : Int)) L) := by
          have := MkS.mark HB.out HS.out HG1.out x0
          rw [← HPP.out] at this
          exact this
        obtain ⟨n, hn⟩ : ∃ n, n = o.l.length := ⟨_, rfl⟩
        have hpm : potQ Q (markM m (p : Int)) + (n + 1) = potQ Q m := by
          rw [HPP.out, hn]
          exact pot_mark HK.out.heads HO.out (by rw [← HPP.out]; exact HMK.out.symm)
        obtain ⟨m1, hm1⟩ : ∃ m1, m1 = markM m (p : Int) := ⟨_, rfl⟩
        rw [← hm1] at HS1 hpm
        have HM1 := hideP hm1
        have HN := hideP hn
        have hnd : o.ps.Nodup := by
          have h1 := ((HK.out.nd.sublist (List.sublist_append_right _ _)).sublist (List.sublist_append_right _ _))
          obtain ⟨A, R, e⟩ := List.append_of_mem HO.out
          rw [e, allO_app, show o :: R = [o] ++ R from rfl, allO_app, allO_one] at h1
          have h2 := (h1.sublist (List.sublist_append_right _ _)).sublist (List.sublist_append_left _ _)
          exact (List.nodup_cons.1 h2).2
        have HND := hideP hnd
        have HI0 : Hid (∃ mj Ej, MkR Q m1 mj Ej (rtsOf (o.l.take 0)) 0 ∧ MkS B F w0 kb room free used os C Q bx lb rb (W.setCell ⟨q, p * 5 + 4, none⟩ (.bool true)) mj (L ++ Ej)) := ⟨m1, [], MkR.refl Q m1 0, by rw [List.append_nil]; exact HS1.out⟩
        clear hn hm1 hnd
        go_enter Try.func31, Try.ntmps31
        go_wp2_with fail
        refine HC.out.mono ?_
        rintro e w' ⟨rfl, rfl⟩
        go_wp2_with fail
        go_loopw [7] (fun i wr => ∃ (x : Int) (j : Nat), i = .int .i64 x ∧ j ≤ n ∧ Hid (∃ a rest, o.ps = a ++ rest ∧ SlotsC C x rest (o.l.drop j)) ∧ Hid (∃ mj Ej, MkR Q m1 mj Ej (rtsOf (o.l.take j)) j ∧ MkS B F w0 kb room free used os C Q bx lb rb wr mj (L ++ Ej))) (fun i _ => leftOf o.ps (intOf i))
        case atStart => exact ⟨nx, 0, rfl, Nat.zero_le _, ⟨[], o.ps, rfl, HGS.out⟩, HI0.out⟩
        case round =>
          clear HI0 HS1 x0 y1 y4 f4 xl yl c1 HC
          obtain ⟨x, j, rfl, hj, HCH, HM⟩ := hrel
          obtain ⟨a, rest, hps, hch⟩ := HCH.out
          by_cases hjn : j < n
          · have hjl : j < o.l.length := by rw [← HN.out]; exact hjn
            have hdr := List.drop_eq_getElem_cons hjl
            rw [hdr] at hch
            cases rest with
            | nil => exact hch.elim
            | cons p' rest =>
              have hlt1 := left_at a (p' :: rest) x (by rw [← hps]; exact HND.out) (slots_path hch)
              obtain ⟨rfl, c', t1, t2, t3, t4, t5⟩ := hch
              obtain ⟨⟨sr, sn⟩, hsl⟩ : ∃ s, s = o.l[j] := ⟨_, rfl⟩
              rw [← hsl] at t2 t3
              simp only at t2 t3
              obtain ⟨nx', hnx'⟩ : ∃ nx', nx' = c'.next := ⟨_, rfl⟩
              rw [← hnx'] at t5
              have hlt2 := left_at (a ++ [p']) rest nx' (by rw [List.append_assoc, List.singleton_append, ← hps]; exact HND.out) (slots_path t5)
              rw [List.append_assoc, List.singleton_append, ← hps] at hlt2
              rw [← hps] at hlt1
              have HLT : Hid (leftOf o.ps nx' < leftOf o.ps (p' : Int)) := by
                show leftOf o.ps nx' < leftOf o.ps (p' : Int)
                rw [hlt1, hlt2, List.length_cons]
                exact Nat.lt_succ_self _
              have HCH2 : Hid (∃ a rest, o.ps = a ++ rest ∧ SlotsC C nx' rest (o.l.drop (j + 1))) := ⟨a ++ [p'], rest, by rw [hps]; simp, t5⟩
              have hrt : rtsOf (o.l.take (j + 1)) = rtsOf (o.l.take j) ++ if sr = true then [sn] else [] := by
                rw [List.take_succ_eq_append_getElem hjl, rts_snoc, ← hsl]
              have HRT := hideP hrt
              have HSN : Hid (sr = true → sn ≤ 9223372036854775807) := fun hs => by
                obtain ⟨o', ho', e⟩ := hp_has.1 (HG.out.refs _ (hp_mem.2 ⟨o, HO.out, rfl⟩) ⟨sr, sn⟩ (by rw [hsl]; exact List.getElem_mem hjl) hs)
                have h1 := objC_lt (HK.out.objs o' ho') o'.p (List.mem_cons_self ..)
                have h2 : sn = (o'.p : Int) := e
                omega
              obtain ⟨mj, Ej, hR, hSj⟩ := HM.out
              obtain ⟨C2, hl2, hst2, hkt2⟩ := hSj.arena
              obtain ⟨b', hb'⟩ := hl2.2 _ _ t1
              obtain ⟨a1', k1', _, _, ⟨x0, _⟩, _, xl, _⟩ := KR.look hkt2
              obtain ⟨q', rfl, hFq', hqk', ⟨y0, y1, y2, _, _⟩, _, yl⟩ := KeptT.at hkt2 hb' x0
              simp only at y0 y1 y2
              have t2' := t2
              have hSj0 := hSj.h0
              rw [t2] at y0
              rw [t3] at y2
              rw [← hnx'] at y1
              rw [show C2.length = C.length from hl2.1] at x0
              have c1 := hSj.k
              have c2 := hSj.r
              have hp' := (List.getElem?_eq_some_iff.1 t1).1
              have hpl' : (p' : Int) < (C.length : Int) := by omega
              have hp0' : (0 : Int) ≤ (p' : Int) := by omega
              have hpz' : ¬ (p' : Int) = -1 := by omega
              cases sr with
              | false =>
                have HM2 : Hid (∃ mj Ej, MkR Q m1 mj Ej (rtsOf (o.l.take (j + 1))) (j + 1) ∧ MkS B F w0 kb room free used os C Q bx lb rb wr mj (L ++ Ej)) := ⟨mj, Ej, by rw [HRT.out, if_neg (by decide), List.append_nil]; exact hR.weaken (Nat.le_succ _), hSj⟩
                clear hrt hsl t1 t2 t3 t4 t5 hR hSj hl2 hst2 hkt2 hb' hps hlt1 hlt2 hnx' hdr HM HCH hp' hjl
                go_wp2_with fail
                exact ⟨⟨nx', j + 1, rfl, by omega, HCH2.out, HM2.out⟩, by simpa [intOf] using HLT.out⟩
              | true =>
                have hsn := HSN.out rfl
                have e1 : ((deep + 1 : Nat) : Int) = (deep : Int) + 1 := by omega
                have HCall : Hid (∀ W', Ch noB wr W' → Calls Try.prog 31 #[.int .i64 sn, .int .i64 ((deep : Int) + 1), .pointer (some ⟨bx, 0, none⟩), .pointer (some ⟨lb, 0, none⟩), .pointer (some ⟨rb, 0, none⟩)] W' fun e w2 => e = .returned (.tuple #[]) ∧ Hid (∃ mj Ej, MkR Q m1 mj Ej (rtsOf (o.l.take (j + 1))) (j + 1) ∧ MkS B F w0 kb room free used os C Q bx lb rb w2 mj (L ++ Ej))) := fun W' hW => by
                  rw [← e1]
                  refine (HI.out (deep + 1) sn mj (L ++ Ej) W' (by omega) hsn ?_ (hSj.no hW)).mono ?_
                  · have := hR.pot
                    rw [List.length_append]
                    omega
                  · rintro e w2 ⟨rfl, m', E, hr, hs⟩
                    refine ⟨rfl, m', Ej ++ E, ?_, by rw [← List.append_assoc]; exact hs⟩
                    rw [HRT.out, if_pos rfl]
                    exact (hR.trans hr).weaken (by split <;> omega)
                clear hrt hsl t2 t3 t4 t5 hR hSj hl2 hst2 hkt2 hb' hps hlt1 hlt2 hdr HM HCH hp' hjl HSN e1
                have HT1 := hideP t1
                have HNX := hideP hnx'
                have HSS : Hid (∀ w2, Hid (∃ mj Ej, MkR Q m1 mj Ej (rtsOf (o.l.take (j + 1))) (j + 1) ∧ MkS B F w0 kb room free used os C Q bx lb rb w2 mj (L ++ Ej)) → (w2.cell? ⟨bx, 0, none⟩ = some (.pointer (some ⟨kb, 0, none⟩)) ∧ w2.cell? ⟨rb, 0, none⟩ = some (reachFn bx lb rb) ∧ w2.cell? ⟨kb, 0, none⟩ = some (.slice (some ⟨q', 0, none⟩) C.length k1') ∧ w2.cell? ⟨q', p' * 5, none⟩ = some (.int .i64 sn)) ∧ w2.cell? ⟨q', p' * 5 + 1, none⟩ = some (.int .i64 nx')) := fun w2 h => by
                  obtain ⟨mj2, Ej2, _, hs2⟩ := h.out
                  obtain ⟨C3, hl3, _, hkt3⟩ := hs2.arena
                  obtain ⟨b3, hb3⟩ := hl3.2 _ _ t1
                  have hh : w2.cell? ⟨kb, 0, none⟩ = some (.slice (some ⟨q', 0, none⟩) C.length k1') := by rw [hs2.h0, ← hSj0, x0]
                  obtain ⟨q3, e, _, _, ⟨z0, z1, _⟩, _⟩ := KeptT.at hkt3 hb3 hh
                  injection e with e
                  injection e with e _ _
                  subst e
                  simp only at z0 z1
                  rw [t2'] at z0
                  rw [← hnx'] at z1
                  exact ⟨⟨hs2.k, hs2.r, hh, z0⟩, z1⟩
                clear t1 hnx' t2' hSj0
                go_upto_region 8 with fail
                have s0 : wr.drew.cell? ⟨bx, 0, none⟩ = some (.pointer (some ⟨kb, 0, none⟩)) ∧ wr.drew.cell? ⟨rb, 0, none⟩ = some (reachFn bx lb rb) ∧ wr.drew.cell? ⟨kb, 0, none⟩ = some (.slice (some ⟨q', 0, none⟩) C.length k1') ∧ wr.drew.cell? ⟨q', p' * 5, none⟩ = some (.int .i64 sn) := ⟨c1, c2, x0, y0⟩
                refine wp_region_held_drew (S := (fun V => V.cell? ⟨bx, 0, none⟩ = some (.pointer (some ⟨kb, 0, none⟩)) ∧ V.cell? ⟨rb, 0, none⟩ = some (reachFn bx lb rb) ∧ V.cell? ⟨kb, 0, none⟩ = some (.slice (some ⟨q', 0, none⟩) C.length k1') ∧ V.cell? ⟨q', p' * 5, none⟩ = some (.int .i64 sn))) (by kernel_rfl) s0 (fun hHeld => ?_)
                refine wpAnyH_take (i := 0) (v := ?_) rfl (by kernel_rfl) (by kernel_rfl) (by kernel_rfl) (fun _ _ _ h => h) (Or.inl ⟨by rfl, ?_⟩) (by with_reducible assumption) ?_
                rotate_left
                · intro w hSw
                  obtain ⟨v1, v2, v3, v4⟩ := hSw
                  go_simp
                  (try with_reducible rfl)
                simp only [Act.put, List.getElem_toArray, List.getElem_cons_zero, List.setIfInBounds_toArray, List.set_cons_zero, List.set_cons_succ]
                refine wpAnyH_take (i := 1) (v := ?_) rfl (by kernel_rfl) (by kernel_rfl) (by kernel_rfl) (fun _ _ _ h => h) (Or.inl ⟨by rfl, ?_⟩) (by with_reducible assumption) ?_
                rotate_left
                · intro w hSw
                  obtain ⟨v1, v2, v3, v4⟩ := hSw
                  go_simp
                  (try with_reducible rfl)
                simp only [Act.put, List.getElem_toArray, List.getElem_cons_zero, List.getElem_cons_succ, List.setIfInBounds_toArray, List.set_cons_zero, List.set_cons_succ]
                refine wpAnyH_take (i := 2) (v := ?_) rfl (by kernel_rfl) (by kernel_rfl) (by kernel_rfl) (fun _ _ _ h => h) (Or.inl ⟨by rfl, ?_⟩) (by with_reducible assumption) ?_
                rotate_left
                · intro w hSw
                  obtain ⟨v1, v2, v3, v4⟩ := hSw
                  go_simp
                  (try with_reducible rfl)
                simp only [Act.put, List.getElem_toArray, List.getElem_cons_zero, List.getElem_cons_succ, List.setIfInBounds_toArray, List.set_cons_zero, List.set_cons_succ]
                refine wpAnyH_take (i := 3) (v := ?_) rfl (by kernel_rfl) (by kernel_rfl) (by kernel_rfl) (fun _ _ _ h => h) (Or.inl ⟨by rfl, ?_⟩) (by with_reducible assumption) ?_
                rotate_left
                · intro w hSw
                  obtain ⟨v1, v2, v3, v4⟩ := hSw
                  go_simp
                  (try with_reducible rfl)
                simp only [Act.put, List.getElem_toArray, List.getElem_cons_zero, List.getElem_cons_succ, List.setIfInBounds_toArray, List.set_cons_zero, List.set_cons_succ]
                refine wpAnyH_take (i := 4) (v := ?_) rfl (by kernel_rfl) (by kernel_rfl) (by kernel_rfl) (fun _ _ _ h => h) (Or.inl ⟨by rfl, ?_⟩) (by with_reducible assumption) ?_
                rotate_left
                · intro w hSw
                  obtain ⟨v1, v2, v3, v4⟩ := hSw
                  go_simp
                  (try with_reducible rfl)
                simp only [Act.put, List.getElem_toArray, List.getElem_cons_zero, List.getElem_cons_succ, List.setIfInBounds_toArray, List.set_cons_zero, List.set_cons_succ]
                refine wpAnyH_take (i := 5) (v := ?_) rfl (by kernel_rfl) (by kernel_rfl) (by kernel_rfl) (fun _ _ _ h => h) (Or.inl ⟨by rfl, ?_⟩) (by with_reducible assumption) ?_
                rotate_left
                · intro w hSw
                  obtain ⟨v1, v2, v3, v4⟩ := hSw
                  go_simp
                  (try with_reducible rfl)
                simp only [Act.put, List.getElem_toArray, List.getElem_cons_zero, List.getElem_cons_succ, List.setIfInBounds_toArray, List.set_cons_zero, List.set_cons_succ]
                refine wpAnyH_take (i := 6) (v := ?_) rfl (by kernel_rfl) (by kernel_rfl) (by kernel_rfl) (fun _ _ _ h => h) (Or.inl ⟨by rfl, ?_⟩) (by with_reducible assumption) ?_
                rotate_left
                · intro w hSw
                  obtain ⟨v1, v2, v3, v4⟩ := hSw
                  go_simp
                  (try with_reducible rfl)
                simp only [Act.put, List.getElem_toArray, List.getElem_cons_zero, List.getElem_cons_succ, List.setIfInBounds_toArray, List.set_cons_zero, List.set_cons_succ]
                refine wpAnyH_take (i := 7) (v := ?_) rfl (by kernel_rfl) (by kernel_rfl) (by kernel_rfl) (fun _ _ _ h => h) (Or.inl ⟨by rfl, ?_⟩) (by with_reducible assumption) ?_
                rotate_left
                · intro w hSw
                  obtain ⟨v1, v2, v3, v4⟩ := hSw
                  go_simp
                  (try with_reducible rfl)
                simp only [Act.put, List.getElem_toArray, List.getElem_cons_zero, List.getElem_cons_succ, List.setIfInBounds_toArray, List.set_cons_zero, List.set_cons_succ]
                refine wpAnyH_take (i := 8) (v := ?_) rfl (by kernel_rfl) (by kernel_rfl) (by kernel_rfl) (fun _ _ _ h => h) (Or.inl ⟨by rfl, ?_⟩) (by with_reducible assumption) ?_
                rotate_left
                · intro w hSw
                  obtain ⟨v1, v2, v3, v4⟩ := hSw
                  go_simp
                  (try with_reducible rfl)
                simp only [Act.put, List.getElem_toArray, List.getElem_cons_zero, List.getElem_cons_succ, List.setIfInBounds_toArray, List.set_cons_zero, List.set_cons_succ]
                refine wpAnyH_take (i := 9) (v := ?_) rfl (by kernel_rfl) (by kernel_rfl) (by kernel_rfl) (fun _ _ _ h => h) (Or.inl ⟨by rfl, ?_⟩) (by with_reducible assumption) ?_
                rotate_left
                · intro w hSw
                  obtain ⟨v1, v2, v3, v4⟩ := hSw
                  go_simp
                  (try with_reducible rfl)
                simp only [Act.put, List.getElem_toArray, List.getElem_cons_zero, List.getElem_cons_succ, List.setIfInBounds_toArray, List.set_cons_zero, List.set_cons_succ]
                refine wpAnyH_take (i := 10) (v := ?_) rfl (by kernel_rfl) (by kernel_rfl) (by kernel_rfl) (fun _ _ _ h => h) (Or.inl ⟨by rfl, ?_⟩) (by with_reducible assumption) ?_
                rotate_left
                · intro w hSw
                  obtain ⟨v1, v2, v3, v4⟩ := hSw
                  go_simp
                  (try with_reducible rfl)
                simp only [Act.put, List.getElem_toArray, List.getElem_cons_zero, List.getElem_cons_succ, List.setIfInBounds_toArray, List.set_cons_zero, List.set_cons_succ]
                refine wpAnyH_ready (rs := [11]) (by kernel_rfl) (by simp) ?_
                refine AllReadyH.cons rfl (fun K hK => ?_) ?_
                · have hwr : IntKind.i64.wrap ((deep : Int) + 1) = (deep : Int) + 1 := by rw [IntKind.wrap_i64]; omega
                  go_simp
                  refine (HCall.out _ (Ch.refl _ _).drew).mono ?_
                  rintro e w2 ⟨rfl, HM2⟩
                  obtain ⟨s2, z2⟩ := HSS.out w2 HM2
                  go_simp
                  refine hK.out _ _ s2 (fun hHeld => ?_)
                  clear hK K HSS HCall
                  refine wpAnyH_done (by kernel_rfl) ?_ _
                  obtain ⟨v1, v2, v3, v4⟩ := s2
                  go_wp2_with fail
                  exact ⟨⟨j + 1, by omega, HCH2.out, HM2.out⟩, HLT.out⟩
                · exact AllReadyH.nil
          · obtain rfl : j = n := by omega
            rw [HN.out, List.drop_length] at hch
            cases rest with
            | cons _ _ => exact hch.elim
            | nil =>
              have hx : x = -1 := hch
              subst hx
              clear hch hps HCH
              go_wp2_with fail
              obtain ⟨mj, Ej, hR, hSj⟩ := HM.out
              rw [List.take_of_length_le (by rw [← HN.out]; exact Nat.le_refl _), HN.out, HM1.out, HPP.out] at hR
              refine bodyPost_end (results_none rfl _ _ _) rfl ⟨rfl, mj, Ej, ?_, hSj⟩
              rw [HPP.out]
              exact MkR.visit HG.out HK.out.heads HO.out (by rw [← HPP.out]; exact HMK.out.symm) rfl hR
end Go.Proofs.Ytcpmdbdppdnkkaa
