/- graduslaw16.tells. -/
import Derived.Test.YtcpmdbdppdnkkaaHpX
import Derived.BigQuiet
import Derived.Deep.QuietTactic
namespace Go.Proofs.Ytcpmdbdppdnkkaa
open Go.RowKit

/-- What tells leans on, in every world in which nothing of it has turned. -/
structure TellT (p r cells : Nat) (ci : Int) (M : Hp) (L : Wd) (refs : List Int) (a : Option Addr) (n c : Nat) (w : World) : Prop where
  ar : ∃ B F, ArenaT B F w p cells M
  wd : ∃ B F, WorldT B F w r ci L
  co : Corr refs L M
  rf : ∃ F, IntV F w (.slice a n c) refs
  rb : ∀ x ∈ refs, 0 ≤ x ∧ x ≤ 9223372036854775807
  sl : ∀ o ∈ L, okSlots o.1 ∧ o.1.length ≤ 1000
  ll : L.length ≤ 1000
  us : usedL L ≤ 1000000
theorem TellT.no {p r cells : Nat} {ci : Int} {M : Hp} {L : Wd} {refs : List Int} {a : Option Addr} {n c : Nat} {w w' : World} (h : TellT p r cells ci M L refs a n c w) (hc : Ch noB w w') : TellT p r cells ci M L refs a n c w' := by
  obtain ⟨⟨B, F, h1⟩, ⟨B2, F2, h2⟩, h3, ⟨F4, h4⟩, h5, h6, h7, h8⟩ := h
  exact ⟨⟨B, F, h1.no hc⟩, ⟨B2, F2, h2.ch hc fun _ _ h => h⟩, h3, ⟨F4, h4.ch hc fun _ _ _ h => h⟩, h5, h6, h7, h8⟩
section
variable {p r cells : Nat} {ci : Int} {M : Hp} {L : Wd} {refs : List Int} {a : Option Addr} {n c : Nat} {w : World}
theorem TellT.usedA (h : TellT p r cells ci M L refs a n c w) : Calls Try.prog 19 #[.pointer (some ⟨p, 0, none⟩)] w fun e w' => e = .returned (.int .i64 (usedL L)) ∧ Ch noB w w' := by
  obtain ⟨B, F, h1⟩ := h.ar
  have := hused_c B p cells F M w h1 h.co.good (by rw [h.co.used.1]; have := h.us; omega)
  rw [h.co.used.1] at this
  exact this
theorem TellT.objsA (h : TellT p r cells ci M L refs a n c w) : Calls Try.prog 20 #[.pointer (some ⟨p, 0, none⟩)] w fun e w' => e = .returned (.int .i64 (objsL L)) ∧ Ch noB w w' := by
  obtain ⟨B, F, h1⟩ := h.ar
  have := hobjs_c B p cells F M w h1 h.co.good (by rw [h.co.used.1]; have := h.us; omega)
  rw [h.co.used.2] at this
  exact this
theorem objs_le (L : Wd) : objsL L ≤ usedL L := by
  unfold objsL usedL
  induction L with
  | nil => exact Nat.le_refl _
  | cons o L ih =>
    rw [List.map_cons, List.map_cons, List.sum_cons, List.sum_cons]
    have : (if o.2 = true then 0 else 1) ≤ (if o.2 = true then 0 else o.1.length + 1) := by split <;> omega
    omega
theorem TellT.usedW (h : TellT p r cells ci M L refs a n c w) : Calls Try.prog 27 #[.pointer (some ⟨r, 0, none⟩)] w fun e w' => e = .returned (.int .i64 (usedL L)) ∧ w' = w := by
  obtain ⟨B, F, h1⟩ := h.wd
  exact used_c B r F ci L w h1 (by have := h.ll; omega) (by have := h.us; omega)
theorem TellT.objsW (h : TellT p r cells ci M L refs a n c w) : Calls Try.prog 28 #[.pointer (some ⟨r, 0, none⟩)] w fun e w' => e = .returned (.int .i64 (objsL L)) ∧ w' = w := by
  obtain ⟨B, F, h1⟩ := h.wd
  exact objs_c B r F ci L w h1 (by have := h.ll; omega) (by have := h.us; have := objs_le L; omega)
theorem TellT.is (h : TellT p r cells ci M L refs a n c w) (k : Nat) (hk : k ≤ 1000000) : Calls Try.prog 21 #[.pointer (some ⟨r, 0, none⟩), .int .i64 k] w fun e w' => e = .returned (.bool (isB L k)) ∧ w' = w := by
  obtain ⟨B, F, h1⟩ := h.wd
  exact is_c B r F ci L k w h1 (by omega)
theorem isB_at {i : Nat} (h : isB L (i : Int) = true) : ∃ l, L[i]? = some (l, false) := by
  obtain ⟨_, o, ho, hf⟩ := isB_iff.1 h
  rw [Int.toNat_natCast] at ho
  exact ⟨o.1, by rw [ho, ← hf]⟩
theorem TellT.get (h : TellT p r cells ci M L refs a n c w) {i : Nat} {l : List SlotV} (hi : L[i]? = some (l, false)) (hr : i < refs.length) : Calls Try.prog 18 #[.pointer (some ⟨p, 0, none⟩), .int .i64 refs[i]] w fun e w' => ∃ a5 c5, e = .returned (.tuple #[.slice a5 l.length c5, .bool true]) ∧ Hid (SltV (fun _ => True) w' (.slice a5 l.length c5) (l.map (mapS refs L))) ∧ Ch noB w w' := by
  obtain ⟨B, F, h1⟩ := h.ar
  have hrb := h.rb _ (List.getElem_mem hr)
  refine (hget_c B p cells F M refs[i] w h1 h.co.good (by omega) hrb.2 (by rw [h.co.used.1]; have := h.us; omega)).mono ?_
  rintro e w' ⟨v, b, l2, rfl, hq, ho, hc⟩
  obtain ⟨r2, h3, h4⟩ := h.co.at hi
  rw [List.getElem?_eq_getElem hr] at h3
  injection h3 with h3
  subst h3
  rcases hq with ⟨rfl, hl⟩ | ⟨_, hq, _⟩
  · rw [h.co.good.uniq hl h4] at ho
    rw [List.length_map] at ho
    obtain ⟨a5, c5, rfl⟩ := row_shape ho
    refine ⟨a5, c5, rfl, ?_, hc⟩
    have hs := sltV_own (l := l.map (mapS refs L)) (F := fun _ => True) (by rw [List.length_map]; exact ho) fun _ _ => trivial
    exact hs
  · exact absurd ⟨_, h4⟩ hq
end
theorem TellT.slots {p r cells : Nat} {ci : Int} {M : Hp} {L : Wd} {refs : List Int} {a : Option Addr} {n c : Nat} {w : World} (h : TellT p r cells ci M L refs a n c w) {i : Nat} {l : List SlotV} (hi : L[i]? = some (l, false)) {ao : Option Addr} {co : Nat} {FA : Nat → Prop} (hs : SltV FA w (.slice ao l.length co) l) : Calls Try.prog 15 #[.slice a n c, .pointer (some ⟨r, 0, none⟩), .slice ao l.length co] w fun e w' => ∃ a5 c5, e = .returned (.slice a5 l.length c5) ∧ Hid (SltV (fun _ => True) w' (.slice a5 l.length c5) (l.map (mapS refs L))) ∧ Ch noB w w' := by
  obtain ⟨B, F, h1⟩ := h.wd
  obtain ⟨F4, h4⟩ := h.rf
  have hol := h.sl _ (List.mem_of_getElem? hi)
  refine (slots_c B r F F4 FA ci L refs a n c ao l.length co l w h1 h4 h.co.len hs hol.1 (Nat.le_trans hol.2 (by decide))).mono ?_
  rintro e w' ⟨v, rfl, ho, hc⟩
  obtain ⟨a5, c5, rfl⟩ := row_shape ho
  refine ⟨a5, c5, rfl, ?_, hc⟩
  have hs := sltV_own (l := l.map (mapS refs L)) (F := fun _ => True) (by rw [List.length_map]; exact ho) fun _ _ => trivial
  exact hs
set_option maxRecDepth 100000 in
set_option maxHeartbeats 8000000 in
theorem tells_c (p r cells : Nat) (ci : Int) (M : Hp) (L : Wd) (refs : List Int) (a : Option Addr) (n c : Nat) (w : World) (h : TellT p r cells ci M L refs a n c w) :
    Calls Try.prog 17 #[.pointer (some ⟨p, 0, none⟩), .pointer (some ⟨r, 0, none⟩), .slice a n c] w fun e w' => e = .returned (.bool true) ∧ Ch noB w w' := by
  have H := hideP h
  have hll := h.ll
  have HRL := hideP h.co.len
  obtain ⟨F4, h4⟩ := h.rf
  obtain ⟨a', c', e, _⟩ := h4.form
  injection e with e1 e2 e3
  subst e1 e2 e3
  have HUA := hideP h.usedA
  obtain ⟨u, hu⟩ : ∃ u, u = usedL L := ⟨_, rfl⟩
  obtain ⟨ob, hob⟩ : ∃ ob, ob = objsL L := ⟨_, rfl⟩
  have HUW : Hid (∀ W, Ch noB w W → Calls Try.prog 27 #[.pointer (some ⟨r, 0, none⟩)] W fun e w' => e = .returned (.int .i64 u) ∧ w' = W) := fun W hW => by rw [hu]; exact (H.out.no hW).usedW
  have HOA : Hid (∀ W, Ch noB w W → Calls Try.prog 20 #[.pointer (some ⟨p, 0, none⟩)] W fun e w' => e = .returned (.int .i64 ob) ∧ Ch noB w w') := fun W hW => by rw [hob]; exact (H.out.no hW).objsA.mono fun e w' h => ⟨h.1, hW.trans h.2 fun _ _ h => h⟩
  have HOW : Hid (∀ W, Ch noB w W → Calls Try.prog 28 #[.pointer (some ⟨r, 0, none⟩)] W fun e w' => e = .returned (.int .i64 ob) ∧ w' = W) := fun W hW => by rw [hob]; exact (H.out.no hW).objsW
  rw [← hu] at HUA
  clear h h4 hu hob
  go_enter Try.func17, Try.ntmps17
  go_wp2_with fail
  refine HUA.out.mono ?_
  rintro e w1 ⟨rfl, hc1⟩
  have C1 := hideP hc1
  clear hc1
  go_wp2_with fail
  refine (HUW.out _ C1.out).mono ?_
  rintro e w1 ⟨rfl, rfl⟩
  go_wp2_with fail
  refine (HOA.out _ C1.out).mono ?_
  rintro e w2 ⟨rfl, hc2⟩
  have C2 := hideP hc2
  clear hc2
  go_wp2_with fail
  refine (HOW.out _ C2.out).mono ?_
  rintro e w2 ⟨rfl, rfl⟩
  clear HUA HUW HOA HOW C1
  go_wp2_with fail
  go_loopw [7] (fun i wx => ∃ j : Nat, i = .int .i64 j ∧ j ≤ L.length ∧ Hid (Ch noB w wx)) (fun i _ => L.length - (intOf i).toNat)
  case atStart => exact ⟨0, rfl, Nat.zero_le _, C2.out⟩
  case round =>
    clear C2
    obtain ⟨j, rfl, hj, HC⟩ := hrel
    have T := hideP (H.out.no HC.out)
    obtain ⟨B, F, hwd⟩ := T.out.wd
    obtain ⟨a0, cap, ⟨_, hd1⟩, hlook⟩ := hwd.look
    have hri := World.block_lt_of_cell? wr _ hd1
    by_cases hlt : j < L.length
    · have hjl : (j : Int) < (L.length : Int) := by omega
      have hjz : (0 : Int) ≤ (j : Int) := by omega
      obtain ⟨wv, hwv⟩ : ∃ x, x = wr := ⟨_, rfl⟩
      rw [← hwv] at HC T hd1 hlook hri ⊢
      clear hwv hwd
      have HIS := hideP (T.out.is j (by omega))
      cases hb : isB L (j : Int) with
      | false =>
        rw [hb] at HIS
        clear hb
        go_wp2_with fail
        refine HIS.out.mono ?_
        rintro e w3 ⟨rfl, rfl⟩
        go_wp2_with fail
        exact ⟨⟨j + 1, by go_num, by omega, HC.out⟩, by simp [intOf]; omega⟩
      | true =>
        rw [hb] at HIS
        obtain ⟨l, hi⟩ := isB_at hb
        have hjr : j < refs.length := by have := HRL.out; omega
        have hLj : L[j] = (l, false) := by
          rw [List.getElem?_eq_getElem hlt] at hi
          exact Option.some.inj hi
        obtain ⟨q, ao, co, rfl, _, hq1, _, _, hsv, _⟩ := hlook j hlt
        rw [hLj] at hq1 hsv
        obtain ⟨F5, hrf⟩ := T.out.rf
        obtain ⟨a6, c6, e, hrc⟩ := hrf.form
        injection e with e1 _ e2
        subst e1 e2
        obtain ⟨br, qr, rfl, _, _, hcell⟩ := hrc j hjr
        have HGT := hideP (T.out.get hi hjr)
        obtain ⟨x, hx⟩ : ∃ x, x = refs[j] := ⟨_, rfl⟩
        obtain ⟨ll, hlen⟩ : ∃ ll, ll = l.length := ⟨_, rfl⟩
        have HI := hideP hi
        have HX := hideP hx
        have HLN := hideP hlen
        have HQ1 : Hid (wv.cell? ⟨q, j * 2, none⟩ = some (.slice ao ll co)) := by rw [hlen]; exact hq1
        have HSL : Hid (∀ W, Ch noB wv W → Calls Try.prog 15 #[.slice (some ⟨br, qr, none⟩) refs.length c, .pointer (some ⟨r, 0, none⟩), .slice ao ll co] W fun e w' => ∃ a5 c5, e = .returned (.slice a5 ll c5) ∧ Hid (SltV (fun _ => True) w' (.slice a5 ll c5) (l.map (mapS refs L))) ∧ Ch noB W w') := fun W hW => by
          rw [hlen]
          exact (T.out.no hW).slots hi (hsv.ch hW fun _ _ _ h => h)
        have HD1 := hideP hd1
        rw [← hx] at hcell HGT
        rw [← hlen] at HGT
        have hjri : (j : Int) < (refs.length : Int) := by omega
        have hllb : ll ≤ 1000 := by rw [hlen]; exact (T.out.sl _ (List.mem_of_getElem? hi)).2
        clear hi hx hlen hq1 hsv hLj hlook hrc hrf hb
        go_wp2_with fail
        refine HIS.out.mono ?_
        rintro e wv ⟨rfl, rfl⟩
        go_wp2_with fail
        refine HGT.out.mono ?_
        rintro e w4 ⟨a7, c7, rfl, HV7, hc4⟩
        have C4 := hideP hc4
        have z1 := hc4.cell hd1 fun h => h
        have z2 := hc4.cell HQ1.out fun h => h
        have HS4 := hideP (HSL.out w4 hc4)
        clear hc4 HIS HGT HSL hd1
        go_wp2_with fail
        refine HS4.out.mono ?_
        rintro e w5 ⟨a8, c8, rfl, HV8, hc5⟩
        have C5 := hideP (C4.out.trans hc5 fun _ _ h => h)
        have V7 := hideP (HV7.out.ch hc5 fun _ _ _ h => h)
        clear hc5 HS4 HV7 z1 z2 C4
        go_wp2_with fail
        go_loopw [12] (fun i wx => ∃ k : Nat, i = .int .i64 k ∧ k ≤ ll ∧ Hid (Ch noB w5 wx)) (fun i _ => ll - (intOf i).toNat)
        case atStart => exact ⟨0, rfl, Nat.zero_le _, Ch.refl _ _⟩
        case round =>
          obtain ⟨k, rfl, hk, HK⟩ := hrel
          obtain ⟨wq, hwq⟩ : ∃ x, x = wr := ⟨_, rfl⟩
          rw [← hwq] at HK ⊢
          clear hwq
          by_cases hkl : k < ll
          · have hki : (k : Int) < (ll : Int) := by omega
            have hkz : (0 : Int) ≤ (k : Int) := by omega
            have hkm : k < (l.map (mapS refs L)).length := by rw [List.length_map]; have := HLN.out; omega
            obtain ⟨b7, d7, e, _, _, hc7⟩ := (V7.out.ch HK.out fun _ _ _ h => h).form
            obtain ⟨b8, d8, e', _, _, hc8⟩ := (HV8.out.ch HK.out fun _ _ _ h => h).form
            injection e with e1 ez e2
            injection e' with e3 ez' e4
            subst e1 e2 e3 e4
            clear ez ez'
            obtain ⟨b9, o9, rfl, _, _, y1, y2⟩ := hc7 k hkm
            obtain ⟨b0, o0, rfl, _, _, y3, y4⟩ := hc8 k hkm
            obtain ⟨s, hs⟩ : ∃ s, s = (l.map (mapS refs L))[k] := ⟨_, rfl⟩
            rw [← hs] at y1 y2 y3 y4
            obtain ⟨sr, sn⟩ := s
            clear hs hc7 hc8 hkm
            go_wp2_with fail
            go_quiet (fail)
            go_wp2_with fail
            exact ⟨⟨k + 1, by go_num, by omega, HK.out.drewN _⟩, by simp [intOf]; omega⟩
          · have hki : ¬ (k : Int) < (ll : Int) := by omega
            clear V7 HV8
            go_wp2_with fail
            have TQ := hideP (T.out.no (C5.out.trans HK.out fun _ _ h => h))
            have HCQ : Hid (Ch noB w wq) := HC.out.trans (C5.out.trans HK.out fun _ _ h => h) fun _ _ h => h
            clear T C5 HK HC hk hki hkl hllb HLN HQ1 HD1 hri
            go_loopw [13] (fun i wx => ∃ k : Nat, i = .int .i64 k ∧ k ≤ j ∧ Hid (Ch noB wq wx)) (fun i _ => j - (intOf i).toNat)
            case atStart => exact ⟨0, rfl, Nat.zero_le _, Ch.refl _ _⟩
            case round =>
              obtain ⟨k, rfl, hk, HK⟩ := hrel
              obtain ⟨wz, hwz⟩ : ∃ x, x = wr := ⟨_, rfl⟩
              rw [← hwz] at HK ⊢
              clear hwz
              by_cases hkj : k < j
              · have hki : (k : Int) < (j : Int) := by omega
                have hkz : (0 : Int) ≤ (k : Int) := by omega
                have hkr : k < refs.length := by omega
                have hkri : (k : Int) < (refs.length : Int) := by omega
                have TZ := hideP (TQ.out.no HK.out)
                have HIS := hideP (TZ.out.is k (by omega))
                obtain ⟨F5, hrf⟩ := TZ.out.rf
                obtain ⟨a6, c6, e, hrc⟩ := hrf.form
                injection e with e1 ez e2
                subst e1 e2
                clear ez
                obtain ⟨br2, qr2, e3, _, _, hcell⟩ := hrc k hkr
                obtain ⟨br3, qr3, e4, _, _, hcell2⟩ := hrc j hjr
                injection e3 with e3
                injection e3 with e5 e6
                injection e4 with e4
                injection e4 with e7 e8
                subst e5 e6 e7 e8
                have hneq : isB L (k : Int) = true → refs[k] ≠ refs[j] := fun hb e => by
                  obtain ⟨lk, hlk⟩ := isB_at hb
                  have := TQ.out.co.inj hlk HI.out (by rw [List.getElem?_eq_getElem hkr, List.getElem?_eq_getElem hjr, e])
                  omega
                obtain ⟨xk, hxk⟩ : ∃ y, y = refs[k] := ⟨_, rfl⟩
                obtain ⟨xj, hxj⟩ : ∃ y, y = refs[j] := ⟨_, rfl⟩
                rw [← hxk] at hcell hneq
                rw [← hxj] at hcell2 hneq
                clear hxk hxj hrc hrf
                cases hbk : isB L (k : Int) with
                | false =>
                  rw [hbk] at HIS
                  clear hbk hneq
                  go_wp2_with fail
                  refine HIS.out.mono ?_
                  rintro e wz ⟨rfl, rfl⟩
                  go_wp2_with fail
                  go_quiet (fail)
                  go_wp2_with fail
                  exact ⟨⟨k + 1, by go_num, by omega, HK.out.drewN _⟩, by simp [intOf]; omega⟩
                | true =>
                  have hq := hneq hbk
                  have hqb : (xk == xj) = false := by simp [hq]
                  rw [hbk] at HIS
                  clear hbk hneq
                  go_wp2_with fail
                  refine HIS.out.mono ?_
                  rintro e wz ⟨rfl, rfl⟩
                  go_wp2_with fail
                  go_quiet (fail)
                  go_wp2_with fail
                  exact ⟨⟨k + 1, by go_num, by omega, HK.out.drewN _⟩, by simp [intOf]; omega⟩
              · have hki : ¬ (k : Int) < (j : Int) := by omega
                have HCZ : Hid (Ch noB w wz) := HCQ.out.trans HK.out fun _ _ h => h
                go_wp2_with fail
                exact ⟨⟨j + 1, by go_num, by omega, HCZ.out⟩, by simp [intOf]; omega⟩
    · have hjl : ¬ (j : Int) < (L.length : Int) := by omega
      go_wp2_with fail
      go_ret
      exact ⟨rfl, HC.out⟩
end Go.Proofs.Ytcpmdbdppdnkkaa
