/- The program's arena: an object is put. -/
import Derived.Test.YtcpmdbdppdnkkaaHcT
namespace Go.Proofs.Ytcpmdbdppdnkkaa
open Go.RowKit

section
variable {C C' : List CellV} {free free' : Int} {Q : List Ob} {fr pend : List Nat} {p : Nat} {c : CellV}
theorem Kp.canTake (h : Kp C free Q fr pend) : free = -1 ∨ ∃ (p : Nat) (c0 : CellV), free = (p : Int) ∧ C[p]? = some c0 := by
  have h1 := h.free
  cases fr with
  | nil => exact .inl h1
  | cons q fr => obtain ⟨e, c, h2, _⟩ := h1; exact .inr ⟨q, c, e, h2⟩
theorem Kp.took (h : Kp C free Q fr pend) (ht : TakeR C free c p C' free') : ∃ fr', Kp C' free' Q fr' (p :: pend) ∧ C'[p]? = some c ∧ (∀ q ∈ pend, C'[q]? = C[q]?) ∧ (∀ q ∈ allO Q, C'[q]? = C[q]?) ∧ (C'.length = C.length ∨ C'.length = pend.length + (allO Q).length + 1) := by
  rcases ht with ⟨rfl, rfl, rfl, rfl⟩ | ⟨rfl, rfl, c0, h1, rfl⟩
  · obtain ⟨rfl, k⟩ := h.more
    have hl := h.lts
    refine ⟨[], k c, by simp, fun q hq => ?_, fun q hq => ?_, .inr ?_⟩
    · exact List.getElem?_append_left (hl q (List.mem_append_right _ (List.mem_append_left _ hq)))
    · exact List.getElem?_append_left (hl q (List.mem_append_right _ (List.mem_append_right _ hq)))
    · have := h.len
      rw [List.length_append]
      simp only [List.length_nil, List.length_cons] at this ⊢
      omega
  · obtain ⟨c1, fr', rfl, h2, h3, k⟩ := h.take
    rw [h1] at h2
    cases h2
    have hn := h.nd
    rw [List.cons_append, List.nodup_cons] at hn
    refine ⟨fr', k c, List.getElem?_set_self (List.getElem?_eq_some_iff.1 h1).1, fun q hq => ?_, fun q hq => ?_, .inl List.length_set⟩
    · exact List.getElem?_set_ne fun e => hn.1 (by rw [e]; exact List.mem_append_right _ (List.mem_append_left _ hq))
    · exact List.getElem?_set_ne fun e => hn.1 (by rw [e]; exact List.mem_append_right _ (List.mem_append_right _ hq))
theorem stq_frame {m : Int → Bool} (h : StQ C Q m) (hf : ∀ q ∈ allO Q, C'[q]? = C[q]?) : StQ C' Q m := fun o ho c hc => h o ho c (by rw [← hf o.p (mem_allO.2 ⟨o, ho, List.mem_cons_self ..⟩)]; exact hc)
end
theorem info_intC : (Try.prog.info? 3).map (fun i => (i.zero, i.size, i.bytes)) = some (some (.int .i64 0), 1, 8) := by kernel_rfl
/-- How far a list has got, while an object is put. -/
def PutI (B : Nat) (F : Nat → Prop) (w : World) (kb : Nat) (room : Int) (u : Nat) (os : List Int) (Q : List Ob) (C0 : List CellV) (l : List SlotV) (W : World) (j : Nat) (C : List CellV) (free x : Int) (fr pend : List Nat) : Prop :=
  KTr B F w kb room C free ((u + j : Nat) : Int) os W ∧ Kp C free Q fr pend ∧ SlotsC C x pend (l.drop (l.length - j)) ∧ (∀ q ∈ allO Q, C[q]? = C0[q]?) ∧ C.length ≤ 2000000000 ∧ pend.length = j
theorem take_step {B kb : Nat} {F : Nat → Prop} {w w1 : World} {room free used : Int} {C : List CellV} {os : List Int} {Q : List Ob} {fr pend : List Nat} (c : CellV) (h : KTr B F w kb room C free used os w1) (hk : Kp C free Q fr pend) (hu0 : 0 ≤ used) (hu1 : used ≤ 4000000000) (hC : C.length ≤ 2000000000) (hq : pend.length + (allO Q).length + 1 ≤ 2000000000) {W : World} (hW : Ch noB w1 W) :
    Calls Try.prog 33 #[.pointer (some ⟨kb, 0, none⟩), .agg #[.int .i64 c.n, .int .i64 c.next, .bool c.ref, .bool c.first, .bool c.stays]] W fun e w' => ∃ (p : Nat) (C' : List CellV) (free' : Int) (fr' : List Nat), e = .returned (.int .i64 (p : Int)) ∧ KTr B F w kb room C' free' (used + 1) os w' ∧ Kp C' free' Q fr' (p :: pend) ∧ C'[p]? = some c ∧ (∀ q ∈ pend, C'[q]? = C[q]?) ∧ (∀ q ∈ allO Q, C'[q]? = C[q]?) ∧ C'.length ≤ 2000000000 ∧ p < 2000000000 := by
  obtain ⟨F2, h1, h2, h3⟩ := h
  have hW2 : Ch F w W := h3.trans hW fun _ _ h => h.elim
  refine (take_c B kb F2 room free used C os c W (h1.ch hW fun _ _ h => h) hu0 hu1 (by omega) hk.canTake).mono ?_
  rintro e w' ⟨p, C', free', rfl, ht, k⟩
  obtain ⟨fr', k1, k2, k3, k4, k5⟩ := hk.took ht
  have hp := (List.getElem?_eq_some_iff.1 k2).1
  exact ⟨p, C', free', fr', rfl, ktr_trans h2 hW2 k, k1, k2, k3, k4, by omega, by omega⟩
set_option maxRecDepth 100000 in
set_option maxHeartbeats 4000000 in
theorem put_c (B kb : Nat) (F FA : Nat → Prop) (room free : Int) (u : Nat) (C : List CellV) (os : List Int) (Q : List Ob) (fr : List Nat) (v : Value) (l : List SlotV) (w : World) (h : KeptT B F w kb room C free u os) (hk : Kp C free Q fr []) (hu : u = (allO Q).length) (hos : os.length ≤ 1000000000) (hub : u ≤ 1000000000) (hv : SltV FA w v l) (hFA : ∀ b, FA b → ¬ F b) (hl : l.length ≤ 1000000) (hC : C.length ≤ 2000000000) :
    Calls Try.prog 26 #[.pointer (some ⟨kb, 0, none⟩), v] w fun e w' => ∃ (o : Ob) (C' : List CellV) (free' : Int) (fr' : List Nat), e = .returned (.int .i64 (o.p : Int)) ∧ o.l = l ∧ o.p < 2000000000 ∧ Kp C' free' (Q ++ [o]) fr' [] ∧ (∀ q ∈ allO Q, C'[q]? = C[q]?) ∧ (∀ c, C'[o.p]? = some c → c.stays = false) ∧ KTr B F w kb room C' free' ((u + l.length + 1 : Nat) : Int) (os ++ [(o.p : Int)]) w' ∧ C'.length ≤ 2000000000 := by
  obtain ⟨ao, ca, rfl, _⟩ := hv.form
  obtain ⟨n, hn⟩ : ∃ n, n = l.length := ⟨_, rfl⟩
  have HV := hideP hv
  have H := hideP h
  have HK := hideP hk
  have HFA := hideP hFA
  rw [← hn] at hl HV ⊢
  have HN := hideP hn
  have hnz : ((n : Int) ≤ 9223372036854775807) := by omega
  obtain ⟨i0, hi, hz0, hz1, hz2⟩ := info_parts info_intC
  have HI0 : Hid (PutI B F w kb room u os Q C l w 0 C free (-1) fr []) := by
    refine ⟨KTr.same (by simpa using h), hk, ?_, fun _ _ => rfl, hC, rfl⟩
    rw [Nat.sub_zero, List.drop_length]
    exact rfl
  clear h hk hv hFA hn
  go_enter Try.func26, Try.ntmps26
  go_wp2_with fail
  go_loopw [5, 11] (fun nx i wr => ∃ (j : Nat) (x : Int), i = .int .i64 j ∧ nx = .int .i64 x ∧ j ≤ n ∧ Hid (∃ C1 free1 fr1 pend, PutI B F w kb room u os Q C l wr j C1 free1 x fr1 pend)) (fun _ i _ => n - (intOf i).toNat)
  case atStart => exact ⟨0, -1, rfl, rfl, Nat.zero_le _, _, _, _, _, HI0.out⟩
  case round =>
    clear HI0
    obtain ⟨j, x, rfl, rfl, hj, HI⟩ := hrel
    by_cases hjn : j < n
    · have hjl : (j : Int) < (n : Int) := by omega
      obtain ⟨m, hm⟩ : ∃ m, m = n - (j + 1) := ⟨_, rfl⟩
      have hmn : m < l.length := by rw [← HN.out]; omega
      have hm0 : (0 : Int) ≤ (m : Int) := by omega
      have hml : (m : Int) < (n : Int) := by omega
      have e3 : (n : Int) - 1 - (j : Int) = (m : Int) := by omega
      have hvr : SltV FA wr (.slice ao n ca) l := by
        obtain ⟨C1, free1, fr1, pend, hI⟩ := HI.out
        obtain ⟨F2, _, _, hc⟩ := hI.1
        exact HV.out.ch hc fun b hb _ h => HFA.out b hb h
      obtain ⟨ao', ca', e, _, _, hf⟩ := hvr.form
      injection e with e1 e0 e2
      clear e0
      subst e1 e2
      obtain ⟨b, o, rfl, _, _, c0, c1⟩ := hf m hmn
      obtain ⟨⟨sr, sn⟩, hs⟩ : ∃ s, s = l[m] := ⟨_, rfl⟩
      have hdrop : l.drop (l.length - (j + 1)) = ⟨sr, sn⟩ :: l.drop (l.length - j) := by
        rw [← HN.out, ← hm, List.drop_eq_getElem_cons hmn, hs]
        congr 2
        omega
      rw [← hs] at c0 c1
      simp only at c0 c1
      have HT : Hid (∀ W, Ch noB wr W → Calls Try.prog 33 #[.pointer (some ⟨kb, 0, none⟩), .agg #[.int .i64 sn, .int .i64 x, .bool sr, .bool false, .bool false]] W fun e w' => ∃ p : Nat, e = .returned (.int .i64 (p : Int)) ∧ Hid (∃ C1 free1 fr1 pend, PutI B F w kb room u os Q C l w' (j + 1) C1 free1 p fr1 pend)) := fun W hW => by
        obtain ⟨C1, free1, fr1, pend, hI⟩ := HI.out
        obtain ⟨k1, k2, k3, k4, k5, k6⟩ := hI
        refine (take_step ⟨sn, x, sr, false, false⟩ k1 k2 (by omega) (by omega) k5 (by omega) hW).mono ?_
        rintro e w' ⟨p, C2, free2, fr2, rfl, t1, t2, t3, t4, t5, t6, _⟩
        refine ⟨p, rfl, C2, free2, fr2, p :: pend, ?_, t2, ?_, fun q hq => (t5 q hq).trans (k4 q hq), t6, by rw [List.length_cons, k6]⟩
        · exact t1
        · rw [hdrop]
          exact ⟨rfl, _, t3, rfl, rfl, rfl, slots_frame k3 t4⟩
      clear hvr hf hs hdrop HI hm hmn
      go_wp2_with fail
      refine (HT.out _ ((Ch.refl noB _).alloc _)).mono ?_
      rintro e w4 ⟨p, rfl, HP⟩
      clear HT
      go_wp2_with fail
      exact ⟨⟨j + 1, p, by go_num, rfl, by omega, HP.out⟩, by simp [intOf]; omega⟩
    · have hjl : ¬ (j : Int) < (n : Int) := by omega
      obtain rfl : j = n := by omega
      have HT : Hid (Calls Try.prog 33 #[.pointer (some ⟨kb, 0, none⟩), .agg #[.int .i64 (j : Int), .int .i64 x, .bool false, .bool true, .bool false]] wr fun e w' => ∃ p : Nat, e = .returned (.int .i64 (p : Int)) ∧ p < 2000000000 ∧ Hid (∃ pend C2 free2 fr2, KTr B F w kb room C2 free2 ((u + j + 1 : Nat) : Int) os w' ∧ Kp C2 free2 Q fr2 (p :: pend) ∧ ObjC C2 ⟨p, l, pend⟩ ∧ (∀ q ∈ allO Q, C2[q]? = C[q]?) ∧ (∀ c, C2[p]? = some c → c.stays = false) ∧ C2.length ≤ 2000000000)) := by
        obtain ⟨C1, free1, fr1, pend, hI⟩ := HI.out
        obtain ⟨k1, k2, k3, k4, k5, k6⟩ := hI
        have hlj : l.length - j = 0 := by rw [← HN.out]; omega
        rw [hlj, List.drop_zero] at k3
        refine (take_step ⟨(j : Int), x, false, true, false⟩ k1 k2 (by omega) (by omega) k5 (by omega) (Ch.refl noB wr)).mono ?_
        rintro e w' ⟨p, C2, free2, fr2, rfl, t1, t2, t3, t4, t5, t6, t7⟩
        refine ⟨p, rfl, t7, pend, C2, free2, fr2, t1, t2, ⟨_, t3, rfl, by rw [← HN.out], slots_frame k3 t4⟩, fun q hq => (t5 q hq).trans (k4 q hq), fun c hc => ?_, t6⟩
        rw [t3] at hc
        cases hc
        rfl
      go_wp2_with fail
      refine HT.out.mono ?_
      rintro e w4 ⟨p, rfl, hp, HP⟩
      clear HT HI
      obtain ⟨pend, C2, free2, fr2, ⟨F2, k1, k2, k3⟩, t2, t3, t4, t5, t6⟩ := HP.out
      obtain ⟨v1, v2, h1, h2, h3, h4, h5, h6, h7⟩ := k1
      obtain ⟨a5, c5, rfl⟩ := row_shape h3
      obtain ⟨⟨_, _, _, _, y4⟩, _, yl⟩ := box5 h1
      have H1 := hideP h1
      have H2 := hideP h2
      have H3 := hideP h3
      have HR := hideP (And.intro h4 (And.intro h5 (And.intro h6 h7)))
      have HT := hideP (And.intro k2 (And.intro k3 (And.intro t2 (And.intro t3 (And.intro t4 (And.intro t5 t6))))))
      clear h1 h2 h3 h4 h5 h6 h7 k2 k3 t2 t3 t4 t5 t6 HP
      go_wp2_with (at_builtin; refine wpList_append_own_at _ rfl (.tmp 41) (.tmp 43) 31 rfl B 3 i0 _ 1 8 Try.underlying31 hi hz0 hz1 hz2 rfl (by decide) _ os.length _ rfl (H3.out.alloc _) ⟨_, 0, none⟩ 1 1 [.int .i64 (p : Int)] rfl rfl (cells_newK _ _ _) (by simp [Value.oneCell']) (by unfold maxLen; omega) (by omega) (by rw [World.size_alloc]; have := (HR.out.2.2.2 kb HR.out.1).1; omega) ?_)
      intro v3 w5 hown3 hgr3 _ hb3
      obtain ⟨a6, c6, rfl⟩ := row_shape hown3
      have GR := hideP hgr3
      have HO := hideP hown3
      have HB := hideP hb3
      obtain ⟨_, gk, gl⟩ := box5 (grown_kb H1.out hgr3 fun e => (HR.out.2.2.1 kb e).2 rfl)
      have gk4 := gk 4
      clear hown3 hgr3 hb3 gk
      go_wp2_with fail
      go_ret
      obtain ⟨h4, h5, h6, h7⟩ := HR.out
      obtain ⟨k2, k3, t2, t3, t4, t5, t6⟩ := HT.out
      have e1 : (os ++ [(p : Int)]).length = os.length + 1 := by simp
      have e2 : (os ++ [(p : Int)]).map (Value.int .i64) = os.map (Value.int .i64) ++ [.int .i64 (p : Int)] := by simp
      have HO2 := HO.out
      rw [← e2, ← e1] at HO2
      obtain ⟨F3, m1, m2, m3⟩ := kr_growO (os' := os ++ [(p : Int)]) H1.out H2.out h4 h5 h6 h7 GR.out (by rw [e1] at HO2 ⊢; exact HO2) (by rw [World.size_alloc]; exact HB.out)
      exact ⟨⟨p, l, pend⟩, C2, free2, fr2, rfl, rfl, hp, t2.close t3, t4, t5, ktr_trans k2 k3 ⟨F3, m1, m2, m3⟩, t6⟩
end Go.Proofs.Ytcpmdbdppdnkkaa
