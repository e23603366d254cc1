/- The program's arena: sweep. -/
import Derived.Test.YtcpmdbdppdnkkaaHcS
namespace Go.Proofs.Ytcpmdbdppdnkkaa
open Go.RowKit

section
variable {B kb N i c2 : Nat} {F : Nat → Prop} {w W : World} {room free : Int} {Q : List Ob} {m : Int → Bool} {a2 : Option Addr} {C : List CellV} {fr : List Nat} {os : List Int}
theorem SweepI.no {W1 : World} (h : SweepI B F w kb room Q m N a2 c2 W i C free fr os) (hc : Ch noB W W1) : SweepI B F w kb room Q m N a2 c2 W1 i C free fr os := by
  obtain ⟨h1, h2, h3, h4, h5, h6, h7, h8, h9⟩ := h
  exact ⟨h1, h2, h3, h4, h5, h6, h7, h8.no hc, hc.cell h9 fun h => h⟩
/-- What is looked at in a round. -/
theorem SweepI.at (h : SweepI B F w kb room Q m N a2 c2 W i C free fr os) (hi : i < Q.length) : os[i]? = some ((Q[i]).p : Int) ∧ ∃ c, C[(Q[i]).p]? = some c ∧ c.stays = m ((Q[i]).p : Int) ∧ (Q[i]).p < N := by
  obtain ⟨h1, h2, h3, h4, h5, h6, h7, h8, h9⟩ := h
  have hq : Q[i] ∈ Q.drop i := by rw [List.drop_eq_getElem_cons hi]; exact List.mem_cons_self ..
  obtain ⟨c, e, _⟩ := h1.objs Q[i] (List.mem_append_right _ hq)
  refine ⟨by rw [h7 i (Nat.le_refl _), List.getElem?_eq_getElem hi]; rfl, c, e, h3 _ hq c e, ?_⟩
  rw [← h4]
  exact (List.getElem?_eq_some_iff.1 e).1
theorem heads_apart {A R : List Ob} {o x : Ob} {pend : List Nat} (h : Kp C free (A ++ o :: R) fr pend) (hx : x ∈ A ∨ x ∈ R) : o.p ≠ x.p := by
  have hn := h.heads
  rw [List.map_append, List.map_cons] at hn
  have hn2 := (List.perm_middle.nodup_iff).1 hn
  have := (List.nodup_cons.1 hn2).1
  intro e
  apply this
  rw [e, ← List.map_append]
  exact List.mem_map.2 ⟨x, List.mem_append.2 hx, rfl⟩
/-- It stays. -/
theorem SweepI.stay (h : SweepI B F w kb room Q m N a2 c2 W i C free fr os) (hi : i < Q.length) (hm : m ((Q[i]).p : Int) = true) {c : CellV} (hc : C[(Q[i]).p]? = some c) {W' : World} (hk : KTr B F w kb room (C.set (Q[i]).p { c with stays := false }) free ((allO (keptQ Q m i ++ Q.drop i)).length : Nat) (os.set (keptQ Q m i).length ((Q[i]).p : Int)) W') (h9' : W'.cell? ⟨kb, 4, none⟩ = some (.slice a2 Q.length c2)) :
    SweepI B F w kb room Q m N a2 c2 W' (i + 1) (C.set (Q[i]).p { c with stays := false }) free fr (os.set (keptQ Q m i).length ((Q[i]).p : Int)) ∧ (keptQ Q m (i + 1)).length = (keptQ Q m i).length + 1 := by
  obtain ⟨h1, h2, h3, h4, h5, h6, h7, h8, h9⟩ := h
  have hd := List.drop_eq_getElem_cons hi
  have hs : keptQ Q m (i + 1) = keptQ Q m i ++ [Q[i]] := by rw [keptQ_succ hi, if_pos hm]
  have hl := (keptQ_len Q m i).1
  have he : keptQ Q m (i + 1) ++ Q.drop (i + 1) = keptQ Q m i ++ Q.drop i := by rw [hs, hd]; simp
  have hlen : (keptQ Q m (i + 1)).length = (keptQ Q m i).length + 1 := by rw [hs]; simp
  have hap : ∀ x, x ∈ keptQ Q m i ∨ x ∈ Q.drop (i + 1) → (Q[i]).p ≠ x.p := fun x hx => heads_apart (by rw [← hd]; exact h1) hx
  refine ⟨⟨by rw [he]; exact h1.asLike (like_set hc false), fun o ho d hd2 => ?_, fun o ho d hd2 => ?_, by rw [List.length_set]; exact h4, by rw [List.length_set]; exact h5, fun j hj => ?_, fun j hj => ?_, by rw [he]; exact hk, h9'⟩, hlen⟩
  · rw [hs] at ho
    rcases List.mem_append.1 ho with ho | ho
    · rw [List.getElem?_set_ne (hap o (.inl ho))] at hd2
      exact h2 o ho d hd2
    · rw [List.mem_singleton.1 ho, List.getElem?_set_self (List.getElem?_eq_some_iff.1 hc).1] at hd2
      cases hd2
      rfl
  · rw [List.getElem?_set_ne (hap o (.inr ho))] at hd2
    exact h3 o (by rw [hd]; exact List.mem_cons_of_mem _ ho) d hd2
  · rw [hlen] at hj
    rw [hs]
    by_cases e : j = (keptQ Q m i).length
    · subst e
      rw [List.getElem?_set_self (by omega), List.getElem?_append_right (Nat.le_refl _), Nat.sub_self]
      rfl
    · rw [List.getElem?_set_ne (by omega), List.getElem?_append_left (by omega)]
      exact h6 j (by omega)
  · rw [List.getElem?_set_ne (by omega)]
    exact h7 j (by omega)
/-- It goes. -/
theorem SweepI.gone {C' : List CellV} {free' : Int} {fr' : List Nat} {W' : World} (h : SweepI B F w kb room Q m N a2 c2 W i C free fr os) (hi : i < Q.length) (hm : m ((Q[i]).p : Int) = false) (hk : Kp C' free' (keptQ Q m i ++ Q.drop (i + 1)) fr' []) (hf : ∀ q ∈ allO (keptQ Q m i ++ Q.drop (i + 1)), C'[q]? = C[q]?) (hl : C'.length = C.length)
    (ht : KTr B F w kb room C' free' ((allO (keptQ Q m i ++ Q.drop (i + 1))).length : Nat) os W') (h9' : W'.cell? ⟨kb, 4, none⟩ = some (.slice a2 Q.length c2)) :
    SweepI B F w kb room Q m N a2 c2 W' (i + 1) C' free' fr' os ∧ (keptQ Q m (i + 1)).length = (keptQ Q m i).length := by
  obtain ⟨h1, h2, h3, h4, h5, h6, h7, h8, h9⟩ := h
  have hd := List.drop_eq_getElem_cons hi
  have hs : keptQ Q m (i + 1) = keptQ Q m i := by rw [keptQ_succ hi, if_neg (by rw [hm]; decide), List.append_nil]
  refine ⟨⟨by rw [hs]; exact hk, fun o ho d hd2 => ?_, fun o ho d hd2 => ?_, hl.trans h4, h5, fun j hj => ?_, fun j hj => h7 j (by omega), by rw [hs]; exact ht, h9'⟩, by rw [hs]⟩
  · rw [hs] at ho
    rw [hf _ (mem_allO.2 ⟨o, List.mem_append_left _ ho, List.mem_cons_self ..⟩)] at hd2
    exact h2 o ho d hd2
  · rw [hf _ (mem_allO.2 ⟨o, List.mem_append_right _ ho, List.mem_cons_self ..⟩)] at hd2
    exact h3 o (by rw [hd]; exact List.mem_cons_of_mem _ ho) d hd2
  · rw [hs] at hj ⊢
    exact h6 j hj
end
theorem KR.objs {B kb n : Nat} {F : Nat → Prop} {w : World} {f r u : Int} {xs : List Value} {os : List Int} (h : KR B F w kb f r u n xs os) {v : Value} (ha : w.cell? ⟨kb, 4, none⟩ = some v) : w.ownsRow B 3 1 v os.length (os.map (Value.int .i64)) := by
  obtain ⟨v1, v2, h1, h2, h3, _⟩ := h
  have e := (box5 h1).1.2.2.2.2
  rw [ha] at e
  injection e with e
  subst e
  exact h3
set_option maxRecDepth 100000 in
set_option maxHeartbeats 4000000 in
theorem sweep_c (B kb : Nat) (F : Nat → Prop) (room free : Int) (C : List CellV) (Q : List Ob) (fr : List Nat) (m : Int → Bool) (w : World) (h : KeptT B F w kb room C free ((allO Q).length : Nat) (Q.map fun o => (o.p : Int))) (hk : Kp C free Q fr []) (hm : StQ C Q m) (hub : (allO Q).length ≤ 2000000000) (hC : C.length ≤ 2000000000) (hQ : Q.length ≤ 2000000000) :
    Calls Try.prog 24 #[.pointer (some ⟨kb, 0, none⟩)] w fun e w' => ∃ (C' : List CellV) (free' : Int) (fr' : List Nat), e = .returned (.tuple #[]) ∧ Kp C' free' (Q.filter fun o => m (o.p : Int)) fr' [] ∧ StQ C' (Q.filter fun o => m (o.p : Int)) (fun _ => false) ∧ C'.length = C.length ∧
      KTr B F w kb room C' free' ((allO (Q.filter fun o => m (o.p : Int))).length : Nat) ((Q.filter fun o => m (o.p : Int)).map fun o => (o.p : Int)) w' := by
  obtain ⟨a1, c1, a2, c2, ⟨_, _, _, _, x4⟩, _, xl, _, _⟩ := KR.look h
  rw [List.length_map] at x4
  obtain ⟨n, hn⟩ : ∃ n, n = Q.length := ⟨_, rfl⟩
  rw [← hn] at x4 hQ
  have hnz : ((n : Int) ≤ 9223372036854775807) := by omega
  have HI0 : Hid (∃ C1 free1 fr1 os1, SweepI B F w kb room Q m C.length a2 c2 w 0 C1 free1 fr1 os1) := ⟨C, free, fr, _, hk, (fun _ h => (nomatch h)), hm, rfl, by rw [List.length_map], (fun _ h => (nomatch h)), fun j _ => by rw [List.getElem?_map], KTr.same h, by rw [← hn]; exact x4⟩
  have HN := hideP hn
  obtain ⟨i0, hi, hz0, hz1, hz2⟩ := info_parts info_intC
  have HUB := hideP hub
  clear h hk hm hn hub
  go_enter Try.func24, Try.ntmps24
  go_wp2_with fail
  go_loopw [2, 15] (fun sv i wr => ∃ (j k : Nat), i = .int .i64 j ∧ sv = .slice a2 k c2 ∧ j ≤ n ∧ Hid (∃ C1 free1 fr1 os1, SweepI B F w kb room Q m C.length a2 c2 wr j C1 free1 fr1 os1) ∧ Hid (k = (keptQ Q m j).length)) (fun _ i _ => n - (intOf i).toNat)
  case atStart => exact ⟨0, 0, rfl, rfl, Nat.zero_le _, HI0.out, rfl⟩
  case round =>
    clear HI0 x4 xl
    obtain ⟨j, k, rfl, rfl, hj, HI, HK⟩ := hrel
    obtain ⟨C1, free1, fr1, os1, hI⟩ := HI.out
    by_cases hjn : j < n
    · have hjl : (j : Int) < (n : Int) := by omega
      have hj0 : (0 : Int) ≤ (j : Int) := by omega
      have hjQ : j < Q.length := by rw [← HN.out]; exact hjn
      obtain ⟨ho, c, hc, hst, hpN⟩ := hI.at hjQ
      have HIa := hideP hI
      obtain ⟨h1, h2, h3, h4, h5, h6, h7, ⟨F2, k1, k2, k3⟩, h9⟩ := hI
      obtain ⟨a1', c1', a2', c2', ⟨x0, _, _, _, x4⟩, xf, xl, _, x5⟩ := KR.look k1
      rw [h5, h9] at x4
      injection x4 with x4
      injection x4 with e1 _ e2
      subst e1 e2
      obtain ⟨g, rfl, _, hgk, x5⟩ := x5 (by rw [h5]; omega)
      have x6 := x5 j (by rw [h5]; exact hjQ)
      rw [(List.getElem?_eq_some_iff.1 ho).2] at x6
      obtain ⟨q, rfl, hFq, hqk, ⟨_, _, _, _, y4⟩, yf, yl⟩ := KeptT.at k1 hc x0
      rw [h4] at x0
      rw [← HN.out] at h9
      obtain ⟨p, hp⟩ : ∃ p, p = (Q[j]).p := ⟨_, rfl⟩
      have HQp : Hid (p = (Q[j]'hjQ).p) := hp
      rw [hst] at y4
      rw [← hp] at x6 y4 hpN
      obtain ⟨mk, hmk⟩ : ∃ mk, mk = m (p : Int) := ⟨_, rfl⟩
      rw [← hmk] at y4
      have HMK := hideP hmk
      have hpl : (p : Int) < (C.length : Int) := by omega
      have hp0 : (0 : Int) ≤ (p : Int) := by omega
      have g4 := yf (p * 5 + 4)
      have HC := hideP hc
      have HK1 := hideP (And.intro k1 (And.intro k2 k3))
      have h9H := hideP h9
      have hkn : k < n := by have := HK.out; have := (keptQ_len Q m j).1; omega
      cases mk with
      | true =>
        clear h1 h2 h3 h4 h6 h7 k1 k2 k3 x5 ho hc hst hp hmk xf yf HI
        obtain ⟨W1, hW1⟩ : ∃ W1, W1 = wr.setCell ⟨q, p * 5 + 4, none⟩ (.bool false) := ⟨_, rfl⟩
        have HW1 : Hid (KR B F2 W1 kb free1 room ((allO (keptQ Q m j ++ Q.drop j)).length : Nat) (C1.set p { c with stays := false }).length ((C1.set p { c with stays := false }).flatMap cellC) os1 ∧ Ch F2 wr W1 ∧ W1.cell? ⟨kb, 4, none⟩ = some (.slice (some ⟨g, 0, none⟩) n c2)) := by
          obtain ⟨m1, m2, _⟩ := KR.put4 HK1.out.1 (p := p) (by rw [x0]) (by rw [HQp.out]; exact HC.out) false
          rw [hW1]
          exact ⟨m1, m2, by rw [cell_apart _ (.inl hqk)]; exact h9⟩
        have hO : W1.ownsRow B 3 1 (.slice (some ⟨g, 0, none⟩) n c2) n (os1.map (Value.int .i64)) := by
          have := KR.objs HW1.out.1 HW1.out.2.2
          rw [h5, ← HN.out] at this
          exact this
        have HO := hideP hO
        have HL5 := hideP h5
        have HWe := hideP hW1
        clear hO h5 h9
        go_upto_region 6 with fail
        rw [← hW1]
        clear hW1
        go_wp2_with (at_builtin; refine wpList_append_mid _ rfl (.tmp 34) (.tmp 36) 31 rfl B 3 i0 Try.underlying31 hi hz1 g k n c2 (os1.map (Value.int .i64)) rfl (HO.out.alloc _) ⟨_, 0, none⟩ 1 (.int .i64 (p : Int)) rfl (cells_newK _ _ _) (by simp [Value.oneCell']) hkn ?_)
        intro w5 hown5 hgr5
        have HW5 : Hid (∃ C1 free1 fr1 os1, SweepI B F w kb room Q m C.length (some ⟨g, 0, none⟩) c2 w5 (j + 1) C1 free1 fr1 os1) ∧ Hid (k + 1 = (keptQ Q m (j + 1)).length) := by
          have hos : (os1.set k (p : Int)).length = os1.length := List.length_set
          have hl5 := HL5.out
          obtain ⟨m1, m2, m3⟩ := kr_mid (os' := os1.set k (p : Int)) (c2 := c2) (g := g) HW1.out.1 (by rw [hl5, ← HN.out]; exact HW1.out.2.2) hos hgr5 (by rw [hl5, ← HN.out, List.map_set]; exact hown5)
          rw [hl5] at m3
          have hM := HMK.out
          rw [HQp.out] at hM
          obtain ⟨t1, t2⟩ := HIa.out.stay hjQ hM.symm HC.out (W' := w5) (by
            rw [← HK.out, ← HQp.out]
            exact ktr_trans HK1.out.2.1 HK1.out.2.2 (KTr.put m1 (HW1.out.2.1.trans m2 fun _ _ h => h))) m3
          exact ⟨⟨_, _, _, _, t1⟩, by rw [t2, ← HK.out]; exact rfl⟩
        clear hown5 hgr5
        go_wp2_with fail
        exact ⟨⟨j + 1, k + 1, by go_num, rfl, by omega, HW5.1.out, HW5.2.out⟩, by simp [intOf]; omega⟩
      | false =>
        have HD : Hid (Calls Try.prog 32 #[.pointer (some ⟨kb, 0, none⟩), .int .i64 (p : Int)] wr fun e w' => e = .returned (.tuple #[]) ∧ Hid (∃ C1 free1 fr1 os1, SweepI B F w kb room Q m C.length (some ⟨g, 0, none⟩) c2 w' (j + 1) C1 free1 fr1 os1) ∧ Hid (k = (keptQ Q m (j + 1)).length)) := by
          have hd := List.drop_eq_getElem_cons hjQ
          rw [hd] at h1
          obtain ⟨t1, t2⟩ := h1.open
          have hlen : (allO (keptQ Q m j ++ Q.drop j)).length = ((Q[j]).p :: (Q[j]).ps).length + (allO (keptQ Q m j ++ Q.drop (j + 1))).length := by
            rw [hd, allO_app, allO_app, show Q[j] :: Q.drop (j + 1) = [Q[j]] ++ Q.drop (j + 1) from rfl, allO_app, allO_one]
            simp only [List.length_append, List.length_cons]
            omega
          have hle := h1.len
          have hCl := h4
          rw [← hd] at hle
          have hub : (allO (keptQ Q m j ++ Q.drop j)).length ≤ 2000000000 := by
            simp only [List.length_nil] at hle
            omega
          have hM := HMK.out
          rw [HQp.out] at hM
          rw [HQp.out]
          refine (drop_c B kb F2 room free1 _ C1 os1 _ fr1 _ _ wr k1 t1 t2 hlen hub).mono ?_
          rintro e w' ⟨C2, free2, fr2, rfl, m1, m2, m3, m4, m5⟩
          rw [h9, HN.out] at m5
          obtain ⟨s1, s2⟩ := HIa.out.gone hjQ hM.symm m1 m2 m3 (ktr_trans k2 k3 m4) m5
          exact ⟨rfl, ⟨_, _, _, _, s1⟩, by rw [s2]; exact HK.out⟩
        clear h1 h2 h3 h4 h5 h6 h7 k1 k2 k3 x5 ho hc hst hp hmk xf yf HI h9
        go_wp2_with fail
        refine HD.out.mono ?_
        rintro e w5 ⟨rfl, HI5, HK5⟩
        clear HD
        go_wp2_with fail
        exact ⟨⟨j + 1, k, by go_num, rfl, by omega, HI5.out, HK5.out⟩, by simp [intOf]; omega⟩
    · have hjl : ¬ (j : Int) < (n : Int) := by omega
      obtain rfl : j = n := by omega
      have HIa := hideP hI
      obtain ⟨h1, h2, h3, h4, h5, h6, h7, ⟨F2, k1, k2, k3⟩, h9⟩ := hI
      obtain ⟨_, _, _, _, ⟨_, _, _, _, x4⟩, xf, xl, _⟩ := KR.look k1
      rw [h5, ← HN.out] at x4
      have f4 := xf 4
      clear h1 h2 h3 h4 h5 h6 h7 k1 k2 k3 xf h9 HI
      go_wp2_with fail
      obtain ⟨h1, h2, h3, h4, h5, h6, h7, ⟨F2, k1, k2, k3⟩, h9⟩ := HIa.out
      have hdr : Q.drop j = [] := by rw [HN.out]; exact List.drop_length
      have hkq : keptQ Q m j = Q.filter fun o => m (o.p : Int) := by unfold keptQ; rw [HN.out, List.take_length]
      rw [hdr, List.append_nil, hkq] at h1 k1
      rw [hkq] at h2 h6
      have hkl := HK.out
      rw [hkq] at hkl
      have hle := (keptQ_len Q m j).2
      rw [hkq] at hle
      obtain ⟨m1, m2⟩ := kr_cut (k := k) k1 (by rw [h5]; exact h9) (by omega)
      have htk : os1.take k = (Q.filter fun o => m (o.p : Int)).map fun o => (o.p : Int) := by
        apply List.ext_getElem?
        intro y
        rw [List.getElem?_take, List.getElem?_map]
        by_cases hy : y < k
        · rw [if_pos hy, h6 y (by omega)]
        · rw [if_neg hy, List.getElem?_eq_none (by omega)]
          rfl
      rw [htk] at m1
      exact bodyPost_end (results_none rfl _ _ _) rfl ⟨rfl, C1, free1, ⟨fr1, h1⟩, h2, h4, ktr_trans k2 k3 (KTr.put m1 m2)⟩
end Go.Proofs.Ytcpmdbdppdnkkaa
