/- graduslaw15.ShapeStays: the walk. -/
import Derived.Test.YtldcfglkcifklaaShW
import Derived.Test.YtldcfglkcifklaaShU
namespace Go.Proofs.Ytldcfglkcifklaa
open Go.RowKit

theorem slotR_in {T : List (List ByteArray)} {s : Int} {x : ByteArray} (h0 : 0 ≤ s) (h1 : s < (T.length : Int)) : slotR T s x = match slotV (atV T s) x with
  | some i => .tuple #[.int .i64 i, .bool true]
  | none => .tuple #[.int .i64 0, .bool false] := by
  unfold slotR
  rw [if_neg (by omega)]
  rfl
theorem strs_len (F : Nat → Prop) {w : World} {a : Option Addr} {n c : Nat} {l : List ByteArray} (h : StrV F w (.slice a n c) l) : n = l.length := by
  obtain ⟨a', c', e, _⟩ := h.form
  injection e with _ e _
set_option maxRecDepth 100000 in
set_option maxHeartbeats 8000000 in
theorem shapeStays_c (a : Option Addr) (cap : Nat) (l : List ByteArray) (a' : Option Addr) (cap' : Nat) (more : List ByteArray) (w : World) (hl : StrV (fun b => b < w.heap.size) w (.slice a l.length cap) l) (hm : StrV (fun b => b < w.heap.size) w (.slice a' more.length cap') more)
    (hln : (l.length : Int) ≤ 9223372036854775807) (hmn : (more.length : Int) ≤ 9223372036854775807) (hls : ∀ x ∈ l, x.size ≤ 140737488351232) (hms : ∀ x ∈ more, x.size ≤ 140737488351232) :
    Calls Try.prog 4 #[.slice a l.length cap, .slice a' more.length cap'] w fun e w' => e = .returned (.bool true) ∧ Below w.heap.size w w' := by
  have HL := hideP hl
  have HM := hideP hm
  have HLS := hideP hls
  have HMS := hideP hms
  clear hl hm hls hms
  by_cases hbad : 40 < l.length ∨ 40 < more.length
  · by_cases hlen : 40 < l.length
    all_goals
      have hlen' : decide ((l.length : Int) > 40) = decide (40 < l.length) := by simp; omega
      have hlen2 : ¬ 40 < l.length → (more.length : Int) > 40 := by omega
      first
        | (have hlen3 : (l.length : Int) > 40 := by omega)
        | (have hlen3 : ¬ (l.length : Int) > 40 := by omega
           have hlen4 : (more.length : Int) > 40 := by omega)
      clear hlen2 hlen' hbad
      go_enter Try.func4, Try.ntmps4
      go_wp2_with fail
      refine (awake_c _).mono ?_
      rintro e w0 ⟨rfl, hb0⟩
      have B0 := hideP hb0
      clear hb0
      go_wp2_with fail
      refine (snew_c _).mono ?_
      rintro e w1 ⟨t, F, rfl, _, hc⟩
      have B1 : Hid (Below w.heap.size w w1) := B0.out.trans (hc.below B0.out.size fun _ h => h.elim)
      clear hc B0
      go_wp2_with fail
      go_ret
      exact ⟨rfl, B1.out⟩
  have hlen : ¬ (l.length : Int) > 40 := by omega
  have hmlen : ¬ (more.length : Int) > 40 := by omega
  obtain ⟨i0, hi, hz0, hz1, hz2⟩ := info_parts info_str
  go_enter Try.func4, Try.ntmps4
  go_wp2_with fail
  refine (awake_c _).mono ?_
  rintro e w0 ⟨rfl, hb0⟩
  have B0 := hideP hb0
  clear hb0
  go_wp2_with fail
  refine (snew_c _).mono ?_
  rintro e w1 ⟨t, F, rfl, ht, hc⟩
  have B1 : Hid (Below w.heap.size w w1) := B0.out.trans (hc.below B0.out.size fun _ h => h.elim)
  have T1 : Hid (TreeT w.heap.size F w1 t [[]]) := ht.base B0.out.size
  clear hc B0 ht
  have HLw : Hid (∀ W, Below w.heap.size w W → StrV (fun b => b < w.heap.size) W (.slice a l.length cap) l) := fun W h => HL.out.ch (Ch.of (S := noB) h) fun _ _ _ h => h
  have HMw : Hid (∀ W, Below w.heap.size w W → StrV (fun b => b < w.heap.size) W (.slice a' more.length cap') more) := fun W h => HM.out.ch (Ch.of (S := noB) h) fun _ _ _ h => h
  obtain ⟨r, hr⟩ : ∃ r, r = ofV l [[]] 0 := ⟨_, rfl⟩
  have C := sof_c w.heap.size t F (fun b => b < w.heap.size) [[]] _ l w1 T1.out good_one (HLw.out w1 B1.out) (fun b h h2 => by have := (T1.out.lt b h2).1; omega) (by show 1 + l.length ≤ _; omega) HLS.out
  have g1 : GoodT r.1 := hr ▸ good_of l good_one
  have l1 : r.1.length ≤ 1 + l.length := hr ▸ of_len l
  rw [← hr] at C
  have HC := hideP C
  have G1 := hideP g1
  have HR := hideP hr
  clear C g1 hr
  go_wp2_with fail
  refine HC.out.mono ?_
  rintro e w2 ⟨rfl, F2, p1, p2, p3⟩
  have T2 := hideP p1
  have B2 : Hid (Below w.heap.size w w2) := B1.out.trans (p3.below B1.out.size fun b h => (T1.out.lt b h).1)
  clear p1 p2 p3 HC T1 B1
  obtain ⟨ao, c1, e, n1, n2, _⟩ := (HLw.out w2 B2.out).form
  injection e with e1 _ e2
  subst e1 e2
  have N1 := hideP n1
  have N2 := hideP n2
  clear n1 n2
  go_wp2_with (at_builtin; refine wpList_append_anyK _ rfl (.const (.slice none 0 0)) (.tmp 50) 28 rfl w2.heap.size 9 i0 _ 1 16 Try.underlying28 hi hz0 hz1 hz2 rfl (by decide) _ 0 [] rfl (World.ownsRow_nil _ _ _ _) a l.length cap (l.map Value.string) rfl (by simp) N1.out N2.out (one_strs _) (by unfold maxLen; omega) (by omega) (Nat.le_refl _) ?_)
  intro v3 w3 hown3 hgr3 _
  have hown3' : w3.ownsRow w2.heap.size 9 1 v3 l.length (l.map Value.string) := by simpa using hown3
  obtain ⟨a3, c3, rfl⟩ := row_shape hown3'
  have HO3 := hideP hown3'
  have HC3 : Hid (Ch noB w2 w3) := (Ch.refl _ w2).grown hgr3 fun q hq => by cases hq
  clear hown3 hown3' hgr3 N1 N2
  have B3 : Hid (Below w.heap.size w w3) := B2.out.trans (HC3.out.below B2.out.size fun _ h => h.elim)
  obtain ⟨ao, c1, e, n1, n2, _⟩ := (HMw.out w3 B3.out).form
  injection e with e1 _ e2
  subst e1 e2
  have N1 := hideP n1
  have N2 := hideP n2
  clear n1 n2
  go_wp2_with (at_builtin; refine wpList_append_anyK _ rfl (.tmp 51) (.tmp 52) 28 rfl w2.heap.size 9 i0 _ 1 16 Try.underlying28 hi hz0 hz1 hz2 rfl (by decide) _ l.length _ rfl HO3.out a' more.length cap' (more.map Value.string) rfl (by simp) N1.out N2.out (one_strs _) (by unfold maxLen; omega) (by omega) HC3.out.size ?_)
  intro v4 w4 hown4 hgr4 _
  have hown4' : w4.ownsRow w2.heap.size 9 1 v4 (l ++ more).length ((l ++ more).map Value.string) := by simpa using hown4
  have HC4 : Hid (Ch noB w2 w4) := HC3.out.grown hgr4 fun q hq hlt => by have := (HO3.out.lt q hq).1; omega
  have HV4 : Hid (StrV (fun b => w2.heap.size ≤ b) w4 v4 (l ++ more)) := strV_own hown4' fun q hq => (hown4'.lt q hq).1
  obtain ⟨a4, c4, rfl⟩ := row_shape hown4
  have T4 : Hid (TreeT w.heap.size F2 w4 t r.1) := T2.out.no HC4.out
  have B4 : Hid (Below w.heap.size w w4) := B2.out.trans (HC4.out.below B2.out.size fun _ h => h.elim)
  clear hown4 hown4' hgr4 N1 N2 HO3 HC3 B3
  obtain ⟨q, hq⟩ : ∃ q, q = ofV (l ++ more) r.1 0 := ⟨_, rfl⟩
  have C := sof_c w.heap.size t F2 (fun b => w2.heap.size ≤ b) r.1 (.slice a4 (l.length + more.length) c4) (l ++ more) w4 T4.out G1.out HV4.out (fun b h h2 => by have := (T2.out.lt b h2).2; omega) (by rw [List.length_append]; omega) (fun x hx => by
    rcases List.mem_append.1 hx with h | h
    · exact HLS.out x h
    · exact HMS.out x h)
  have g2 : GoodT q.1 := hq ▸ good_of (l ++ more) G1.out
  have l2 : q.1.length ≤ r.1.length + (l ++ more).length := hq ▸ of_len (l ++ more)
  rw [List.length_append] at l2
  rw [← hq] at C
  have HC := hideP C
  have G2 := hideP g2
  have HQ := hideP hq
  clear C g2 hq HV4
  go_wp2_with fail
  refine HC.out.mono ?_
  rintro e w5 ⟨rfl, F5, p1, p2, p3⟩
  have T5 := hideP p1
  have B5 : Hid (Below w.heap.size w w5) := B4.out.trans (p3.below B4.out.size fun b h => (T4.out.lt b h).1)
  clear p1 p2 p3 HC T4 B4 T2 B2 HC4
  obtain ⟨P, hP⟩ : ∃ P, P = ofV l q.1 0 := ⟨_, rfl⟩
  have C := sof_c w.heap.size t F5 (fun b => b < w.heap.size) q.1 _ l w5 T5.out G2.out (HLw.out w5 B5.out) (fun b h h2 => by have := (T5.out.lt b h2).1; omega) (by omega) HLS.out
  obtain ⟨h1, h2, h3, h4, h5, h6, h7⟩ := of_again (l := l) (m := l ++ more) good_one HR.out.symm HQ.out.symm
  obtain ⟨R, hR⟩ := of_ext l q.1 0
  have l3 : P.1.length ≤ q.1.length + l.length := hP ▸ of_len l
  have g3 : GoodT P.1 := hP ▸ good_of l G2.out
  rw [← hP] at C h1 hR
  rw [h1] at C
  have l4 : q.1.length ≤ P.1.length := by rw [hR, List.length_append]; omega
  have a1 : atV P.1 r.2 = ddV [] l := by rw [hR, atV_ext h4 h5]; exact h2
  have a2 : atV P.1 q.2 = ddV [] (l ++ more) := by rw [hR, atV_ext h6 h7]; exact h3
  have HC := hideP C
  have G3 := hideP g3
  have A1 := hideP a1
  have A2 := hideP a2
  have e1 : (r.2 != r.2) = false := by simp
  clear C g3 a1 a2 h1 h2 h3 hP hR HQ HR G1 G2
  go_wp2_with fail
  refine HC.out.mono ?_
  rintro e w6 ⟨rfl, F6, p1, p2, p3⟩
  have T6 := hideP p1
  have B6 : Hid (Below w.heap.size w w6) := B5.out.trans (p3.below B5.out.size fun b h => (T5.out.lt b h).1)
  clear p1 p2 p3 HC T5 B5
  have HCs : Hid (∀ W s x R, Ch noB w6 W → (s = r.2 ∨ s = q.2) → slotR P.1 s x = R → x.size ≤ 140737488351232 → Calls Try.prog 17 #[.pointer (some ⟨t, 0, none⟩), .int .i64 s, .string x] W fun e w' => e = .returned R ∧ Hid (Ch noB w6 w')) :=
    fun W s x R hW hs hR hxz => (sslot_c w.heap.size t F6 P.1 s x W (T6.out.no hW) G3.out (by omega) (by omega) (by omega) hxz).mono fun e w' h => ⟨by rw [← hR]; exact h.1, hW.trans h.2 fun _ _ h => h⟩
  go_wp2_with fail
  go_loopw [13] (fun i wx => ∃ j : Nat, i = .int .i64 j ∧ j ≤ l.length ∧ Hid (Ch noB w6 wx)) (fun i _ => l.length - (intOf i).toNat)
  case atStart => exact ⟨0, rfl, Nat.zero_le _, Ch.refl _ _⟩
  case round =>
    obtain ⟨j, rfl, hj, HC⟩ := hrel
    by_cases hlt : j < l.length
    · have hjl : (j : Int) < (l.length : Int) := by omega
      have hj0 : (0 : Int) ≤ (j : Int) := by omega
      have hB : Below w.heap.size w wr := B6.out.trans (HC.out.below B6.out.size fun _ h => h.elim)
      obtain ⟨ao, c1, e, _, _, hc⟩ := (HLw.out wr hB).form
      injection e with e1 _ e2
      subst e1 e2
      obtain ⟨b, o, rfl, hbl, hbw, hcell⟩ := hc j hlt
      obtain ⟨x, hx⟩ : ∃ x, x = l[j] := ⟨_, rfl⟩
      have hxm : x ∈ l := hx ▸ List.getElem_mem hlt
      rw [← hx] at hcell
      obtain ⟨i1, hi1⟩ := slotV_mem ((ddV_has l [] x).2 (.inr hxm))
      have s1 : slotR P.1 r.2 x = .tuple #[.int .i64 i1, .bool true] := by rw [slotR_in h4 (by omega), A1.out, hi1]
      have s2 : slotR P.1 q.2 x = .tuple #[.int .i64 i1, .bool true] := by
        obtain ⟨rr, hrr⟩ := ddV_ext more (ddV [] l)
        rw [slotR_in h6 (by omega), A2.out, ddV_append, hrr, slotV_ext hi1]
      have S1 := hideP s1
      have S2 := hideP s2
      have e3 : ((i1 : Int) != (i1 : Int)) = false := by simp
      have HX : Hid (∀ W, Ch noB w6 W → W.cell? ⟨b, o + j, none⟩ = some (.string x)) := by
        have hB' := hideP hB
        have h := hideP hcell
        intro W hW
        have h1 := (B6.out.trans (hW.below B6.out.size fun _ h => h.elim)).cell (p := ⟨b, o + j, none⟩) hbw
        have h2 := hB'.out.cell (p := ⟨b, o + j, none⟩) hbw
        rw [h1, ← h2]
        exact h.out
      have HXZ : Hid (x.size ≤ 140737488351232) := HLS.out x (by rw [hx]; exact List.getElem_mem _)
      clear hx hxm hi1 s1 s2 hc hB
      go_wp2_with fail
      refine (HCs.out _ _ _ _ HC.out (.inl rfl) S1.out HXZ.out).mono ?_
      rintro e w7 ⟨rfl, HP7⟩
      have hcell7 := HX.out w7 HP7.out
      clear hcell
      go_wp2_with fail
      refine (HCs.out _ _ _ _ HP7.out (.inr rfl) S2.out HXZ.out).mono ?_
      rintro e w8 ⟨rfl, HP8⟩
      clear hcell7
      go_wp2_with fail
      exact ⟨⟨j + 1, by go_num, by omega, HP8.out⟩, by simp [intOf]; omega⟩
    · have hjl : ¬ (j : Int) < (l.length : Int) := by omega
      have T7 : Hid (TreeT w.heap.size F6 wr t P.1) := T6.out.no HC.out
      obtain ⟨w9, hw9⟩ : ∃ w9, w9 = wr := ⟨_, rfl⟩
      rw [← hw9] at T7 HC ⊢
      clear hw9
      go_wp2_with fail
      go_loopw [18] (fun i wx => ∃ j : Nat, i = .int .i64 j ∧ j ≤ more.length ∧ Hid (Ch noB w6 wx)) (fun i _ => more.length - (intOf i).toNat)
      case atStart => exact ⟨0, rfl, Nat.zero_le _, HC.out⟩
      case round =>
        clear HC
        obtain ⟨k, rfl, hk, HC⟩ := hrel
        by_cases hlt2 : k < more.length
        · have hkl : (k : Int) < (more.length : Int) := by omega
          have hk0 : (0 : Int) ≤ (k : Int) := by omega
          have hB : Below w.heap.size w wr := B6.out.trans (HC.out.below B6.out.size fun _ h => h.elim)
          obtain ⟨ao, c1, e, _, _, hc⟩ := (HMw.out wr hB).form
          injection e with e1 _ e2
          subst e1 e2
          obtain ⟨b, o, rfl, hbl, hbw, hcell⟩ := hc k hlt2
          obtain ⟨x, hx⟩ : ∃ x, x = more[k] := ⟨_, rfl⟩
          have hxm : x ∈ more := hx ▸ List.getElem_mem hlt2
          rw [← hx] at hcell
          obtain ⟨y, hy⟩ := slotV_mem ((ddV_has (l ++ more) [] x).2 (.inr (List.mem_append.2 (.inr hxm))))
          have s2 : slotR P.1 q.2 x = .tuple #[.int .i64 y, .bool true] := by rw [slotR_in h6 (by omega), A2.out, hy]
          have S2 := hideP s2
          have HX : Hid (∀ W, Ch noB w6 W → W.cell? ⟨b, o + k, none⟩ = some (.string x)) := by
            have hB' := hideP hB
            have h := hideP hcell
            intro W hW
            have h1 := (B6.out.trans (hW.below B6.out.size fun _ h => h.elim)).cell (p := ⟨b, o + k, none⟩) hbw
            have h2 := hB'.out.cell (p := ⟨b, o + k, none⟩) hbw
            rw [h1, ← h2]
            exact h.out
          cases hs : slotV (ddV [] l) x with
          | some i1 =>
            have s1 : slotR P.1 r.2 x = .tuple #[.int .i64 i1, .bool true] := by rw [slotR_in h4 (by omega), A1.out, hs]
            have S1 := hideP s1
            have HXZ : Hid (x.size ≤ 140737488351232) := HMS.out x (by rw [hx]; exact List.getElem_mem _)
            clear hx hxm hy s1 s2 hc hB hs
            go_wp2_with fail
            refine (HCs.out _ _ _ _ HC.out (.inl rfl) S1.out HXZ.out).mono ?_
            rintro e w7 ⟨rfl, HP7⟩
            have hcell7 := HX.out w7 HP7.out
            clear hcell
            go_wp2_with fail
            refine (HCs.out _ _ _ _ HP7.out (.inr rfl) S2.out HXZ.out).mono ?_
            rintro e w8 ⟨rfl, HP8⟩
            clear hcell7
            go_wp2_with fail
            exact ⟨⟨k + 1, by go_num, by omega, HP8.out⟩, by simp [intOf]; omega⟩
          | none =>
            have s1 : slotR P.1 r.2 x = .tuple #[.int .i64 0, .bool false] := by rw [slotR_in h4 (by omega), A1.out, hs]
            have S1 := hideP s1
            have hyl : (ddV [] l).length ≤ y := by
              obtain ⟨rr, hrr⟩ := ddV_ext more (ddV [] l)
              rw [ddV_append, hrr] at hy
              exact slotV_behind hs hy
            have hnm : namesV P.1 r.2 = ddV [] l := by unfold namesV; rw [if_neg (by omega)]; exact A1.out
            obtain ⟨d, hd⟩ : ∃ d, d = (ddV [] l).length := ⟨_, rfl⟩
            have hyd : ¬ (y : Int) < (d : Int) := by omega
            have HN : Hid (∀ W, Ch noB w6 W → Calls Try.prog 16 #[.pointer (some ⟨t, 0, none⟩), .int .i64 r.2] W fun e w' => ∃ a c, e = .returned (.slice a d c) ∧ Hid (Ch noB w6 w')) :=
              fun W hW => (snames_c w.heap.size t F6 P.1 r.2 W (T6.out.no hW) G3.out (by omega) (by omega) (by omega)).mono fun e w' ⟨v, h1, h2, h3⟩ => by
                rw [hnm, ← hd] at h2
                obtain ⟨a, c, rfl⟩ := row_shape h2
                exact ⟨a, c, h1, hW.trans h3 fun _ _ h => h⟩
            have HXZ : Hid (x.size ≤ 140737488351232) := HMS.out x (by rw [hx]; exact List.getElem_mem _)
            clear hx hxm hy s1 s2 hc hB hs hnm hd hyl
            go_wp2_with fail
            refine (HCs.out _ _ _ _ HC.out (.inl rfl) S1.out HXZ.out).mono ?_
            rintro e w7 ⟨rfl, HP7⟩
            have hcell7 := HX.out w7 HP7.out
            clear hcell
            go_wp2_with fail
            refine (HCs.out _ _ _ _ HP7.out (.inr rfl) S2.out HXZ.out).mono ?_
            rintro e w8 ⟨rfl, HP8⟩
            clear hcell7
            go_wp2_with fail
            refine (HN.out _ HP8.out).mono ?_
            rintro e w10 ⟨a10, c10, rfl, HP10⟩
            go_wp2_with fail
            exact ⟨⟨k + 1, by go_num, by omega, HP10.out⟩, by simp [intOf]; omega⟩
        · have hkl : ¬ (k : Int) < (more.length : Int) := by omega
          go_wp2_with fail
          go_ret
          exact ⟨rfl, B6.out.trans (HC.out.below B6.out.size fun _ h => h.elim)⟩
end Go.Proofs.Ytldcfglkcifklaa
