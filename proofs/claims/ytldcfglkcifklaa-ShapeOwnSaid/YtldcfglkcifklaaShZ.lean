/- graduslaw15.ShapeSlots, ShapeOwn: the walks. -/
import Derived.Test.YtldcfglkcifklaaShY
namespace Go.Proofs.Ytldcfglkcifklaa
open Go.RowKit

theorem slotV_new {D r : List ByteArray} {x : ByteArray} (h : x ∉ D) : slotV (D ++ [x] ++ r) x = some D.length :=
  slotV_at (by simp) (by simp) fun i _ hi e => by
    rw [List.getElem_append_left (by simp; omega), List.getElem_append_left hi] at e
    exact h (e ▸ List.getElem_mem hi)
theorem ddV_old {l : List ByteArray} {x : ByteArray} (h : x ∈ l) : ddV [] (l ++ [x]) = ddV [] l := by
  rw [ddV_append]
  show (if (slotV (ddV [] l) x).isSome = true then ddV [] l else ddV [] l ++ [x]) = _
  rw [if_pos (slotV_some.2 ((ddV_has l [] x).2 (.inr h)))]
theorem ddV_not {l : List ByteArray} {x : ByteArray} (h : x ∉ l) : x ∉ ddV [] l := fun e => by
  rcases (ddV_has l [] x).1 e with h1 | h1
  · cases h1
  · exact h h1
theorem ddV_new {l : List ByteArray} {x : ByteArray} (h : x ∉ l) : ddV [] (l ++ [x]) = ddV [] l ++ [x] := by
  rw [ddV_append]
  show (if (slotV (ddV [] l) x).isSome = true then ddV [] l else ddV [] l ++ [x]) = _
  rw [if_neg fun e => ddV_not h (slotV_some.1 e)]
theorem mem_take {l : List ByteArray} {j : Nat} {x : ByteArray} : x ∈ l.take j ↔ ∃ i, ∃ _ : i < l.length, i < j ∧ l[i] = x := by
  rw [List.mem_iff_getElem]
  constructor
  · rintro ⟨i, hi, e⟩
    rw [List.length_take] at hi
    exact ⟨i, by omega, by omega, by rw [← e, List.getElem_take]⟩
  · rintro ⟨i, hi, hj, e⟩
    exact ⟨i, by rw [List.length_take]; omega, by rw [List.getElem_take]; exact e⟩

set_option maxRecDepth 100000 in
set_option maxHeartbeats 8000000 in
theorem shapeSlots_c (a : Option Addr) (cap : Nat) (l : List ByteArray) (w : World) (hl : StrV (fun b => b < w.heap.size) w (.slice a l.length cap) l)
    (hln : (l.length : Int) ≤ 9223372036854775807) (hls : ∀ x ∈ l, x.size ≤ 140737488351232) :
    Calls Try.prog 5 #[.slice a l.length cap] w fun e w' => e = .returned (.bool true) ∧ Below w.heap.size w w' := by
  have HL := hideP hl
  have HLS := hideP hls
  clear hl hls
  by_cases hlen : 60 < l.length
  · have hlen3 : (l.length : Int) > 60 := by omega
    go_enter Try.func5, Try.ntmps5
    go_wp2_with fail
    refine (awake_c _).mono ?_
    rintro e w0 ⟨rfl, hb0⟩
    have B0 := hideP hb0
    clear hb0
    go_wp2_with fail
    refine (snew_c _).mono ?_
    rintro e w1 ⟨t, F, rfl, _, hc⟩
    have B1 : Hid (Below w.heap.size w w1) := B0.out.trans (hc.below B0.out.size fun _ h => h.elim)
    clear hc B0
    go_wp2_with fail
    go_ret
    exact ⟨rfl, B1.out⟩
  have hlen' : ¬ (l.length : Int) > 60 := by omega
  go_enter Try.func5, Try.ntmps5
  go_wp2_with fail
  refine (awake_c _).mono ?_
  rintro e w0 ⟨rfl, hb0⟩
  have B0 := hideP hb0
  clear hb0
  go_wp2_with fail
  refine (snew_c _).mono ?_
  rintro e w1 ⟨t, F, rfl, ht, hc⟩
  have B1 : Hid (Below w.heap.size w w1) := B0.out.trans (hc.below B0.out.size fun _ h => h.elim)
  have T1 : Hid (TreeT w.heap.size F w1 t [[]]) := ht.base B0.out.size
  clear hc B0 ht
  have HLw : Hid (∀ W, Below w.heap.size w W → StrV (fun b => b < w.heap.size) W (.slice a l.length cap) l) := fun W h => HL.out.ch (Ch.of (S := noB) h) fun _ _ _ h => h
  obtain ⟨r, hr⟩ : ∃ r, r = ofV l [[]] 0 := ⟨_, rfl⟩
  have C := sof_c w.heap.size t F (fun b => b < w.heap.size) [[]] _ l w1 T1.out good_one (HLw.out w1 B1.out) (fun b h h2 => by have := (T1.out.lt b h2).1; omega) (by show 1 + l.length ≤ _; omega) HLS.out
  have g1 : GoodT r.1 := hr ▸ good_of l good_one
  have l1 : r.1.length ≤ 1 + l.length := hr ▸ of_len l
  have r1 := of_rng l (T := [[]]) (s := 0) (by decide) (Int.le_refl _) (by decide)
  have a1 := of_at l (T := [[]]) (s := 0) (by decide) (Int.le_refl _) (by decide)
  have c1 := chain_of l (T := [[]]) (s := 0) good_one (Int.le_refl _) (by decide) (by decide)
  rw [a1] at c1
  rw [← hr] at C r1 a1 c1
  have c2 : (ddV [] l).length + 1 = r.1.length := c1
  have HC := hideP C
  have G1 := hideP g1
  have A1 : Hid (atV r.1 r.2 = ddV [] l) := a1
  clear C g1 hr a1 c1
  go_wp2_with fail
  refine HC.out.mono ?_
  rintro e w2 ⟨rfl, F2, p1, p2, p3⟩
  have T2 := hideP p1
  have B2 : Hid (Below w.heap.size w w2) := B1.out.trans (p3.below B1.out.size fun b h => (T1.out.lt b h).1)
  clear p1 p2 p3 HC T1 B1
  have HB : Hid (∀ W, Ch noB w2 W → Below w.heap.size w W) := fun W h => B2.out.trans (h.below B2.out.size fun _ h => h.elim)
  have HX : Hid (∀ W j (_ : j < l.length), Ch noB w2 W → ∃ b o, a = some ⟨b, o, none⟩ ∧ W.cell? ⟨b, o + j, none⟩ = some (.string l[j])) := fun W j hj hW => by
    obtain ⟨ao, c1, e, _, _, hc⟩ := (HLw.out W (HB.out W hW)).form
    injection e with e1 _ _
    subst e1
    obtain ⟨b, o, e, _, _, hcell⟩ := hc j hj
    exact ⟨b, o, e, hcell⟩
  have HCs : Hid (∀ W x R, Ch noB w2 W → slotR r.1 r.2 x = R → x.size ≤ 140737488351232 → Calls Try.prog 17 #[.pointer (some ⟨t, 0, none⟩), .int .i64 r.2, .string x] W fun e w' => e = .returned R ∧ Hid (Ch noB w2 w')) :=
    fun W x R hW hR hxz => (sslot_c w.heap.size t F2 r.1 r.2 x W (T2.out.no hW) G1.out (by omega) (by omega) (by omega) hxz).mono fun e w' h => ⟨by rw [← hR]; exact h.1, hW.trans h.2 fun _ _ h => h⟩
  go_wp2_with fail
  go_loopw [7, 8] (fun n i wx => ∃ j m : Nat, i = .int .i64 j ∧ j ≤ l.length ∧ n = .int .i64 m ∧ m ≤ j ∧ Hid (m = (ddV [] (l.take j)).length) ∧ Hid (Ch noB w2 wx)) (fun _ i _ => l.length - (intOf i).toNat)
  case atStart => exact ⟨0, 0, rfl, Nat.zero_le _, rfl, Nat.le_refl _, rfl, Ch.refl _ _⟩
  case round =>
    obtain ⟨j, m, rfl, hj, rfl, hmj, HM, HC⟩ := hrel
    by_cases hlt : j < l.length
    · have hjl : (j : Int) < (l.length : Int) := by omega
      have hj0 : (0 : Int) ≤ (j : Int) := by omega
      obtain ⟨wo, hwo⟩ : ∃ wo, wo = wr := ⟨_, rfl⟩
      rw [← hwo] at HC ⊢
      clear hwo
      go_wp2_with fail
      go_loopw [9, 10] (fun hv k wx => ∃ (i : Nat) (hb : Bool), k = .int .i64 i ∧ i ≤ j ∧ hv = .bool hb ∧ Hid (hb = true ↔ ∃ q, ∃ _ : q < l.length, q < i ∧ l[q] = l[j]) ∧ Hid (Ch noB w2 wx)) (fun _ k _ => j - (intOf k).toNat)
      case atStart =>
        refine ⟨0, false, rfl, Nat.zero_le _, rfl, ?_, HC.out⟩
        constructor
        · intro h; cases h
        · rintro ⟨_, _, h, _⟩; exact absurd h (Nat.not_lt_zero _)
      case round =>
        clear HC
        obtain ⟨i, hb, rfl, hi, rfl, HH, HC⟩ := hrel
        by_cases hij : i < j
        · have hij' : (i : Int) < (j : Int) := by omega
          have hil : (i : Int) < (l.length : Int) := by omega
          have hi0 : (0 : Int) ≤ (i : Int) := by omega
          obtain ⟨b, o, rfl, c1⟩ := HX.out wr i (by omega) HC.out
          obtain ⟨b', o', e, c2⟩ := HX.out wr j hlt HC.out
          injection e with e
          injection e with e1 e2 _
          subst e1 e2
          have hbe := str_dec l[i] l[j]
          obtain ⟨xi, hxi⟩ : ∃ x, x = l[i] := ⟨_, rfl⟩
          obtain ⟨xj, hxj⟩ : ∃ x, x = l[j] := ⟨_, rfl⟩
          rw [← hxi, ← hxj] at hbe
          rw [← hxi] at c1
          rw [← hxj] at c2
          obtain ⟨d, hd⟩ : ∃ d, d = decide (xi = xj) := ⟨_, rfl⟩
          rw [← hd] at hbe
          have HR : Hid ((hb || d) = true ↔ ∃ q, ∃ _ : q < l.length, q < i + 1 ∧ l[q] = l[j]) := by
            rw [Bool.or_eq_true, HH.out, hd, decide_eq_true_iff, hxi, hxj]
            constructor
            · rintro (⟨q, h1, h2, h3⟩ | h)
              · exact ⟨q, h1, by omega, h3⟩
              · exact ⟨i, by omega, by omega, h⟩
            · rintro ⟨q, h1, h2, h3⟩
              by_cases e : q = i
              · subst e; exact .inr h3
              · exact .inl ⟨q, h1, by omega, h3⟩
          clear hxi hxj hd HH
          cases hb with
          | true =>
            go_wp2_with fail
            go_quiet (fail)
            go_wp2_with fail
            exact ⟨⟨i + 1, true, by go_num, by omega, rfl, HR.out, HC.out.drewN _⟩, by simp [intOf]; omega⟩
          | false =>
            go_wp2_with fail
            go_quiet (fail)
            go_wp2_with fail
            exact ⟨⟨i + 1, d, by go_num, by omega, rfl, HR.out, HC.out.drewN _⟩, by simp [intOf]; omega⟩
        · have hij' : ¬ (i : Int) < (j : Int) := by omega
          have hje : i = j := by omega
          subst hje
          have hts : l.take (i + 1) = l.take i ++ [l[i]] := take_snocK l i hlt
          cases hb with
          | true =>
            have hm : l[i] ∈ l.take i := mem_take.2 (HH.out.1 rfl)
            have HM2 : Hid (m = (ddV [] (l.take (i + 1))).length) := by rw [hts, ddV_old hm]; exact HM.out
            clear hts hm HH
            go_wp2_with fail
            exact ⟨⟨i + 1, m, by go_num, by omega, rfl, by omega, HM2.out, HC.out⟩, by simp [intOf]; omega⟩
          | false =>
            have hm : l[i] ∉ l.take i := fun h => by have := HH.out.2 (mem_take.1 h); cases this
            have HM2 : Hid (m + 1 = (ddV [] (l.take (i + 1))).length) := by rw [hts, ddV_new hm, List.length_append, ← HM.out]; rfl
            have s1 : slotR r.1 r.2 l[i] = .tuple #[.int .i64 m, .bool true] := by
              have hl2 : ddV [] l = ddV (ddV [] (l.take i) ++ [l[i]]) (l.drop (i + 1)) := by
                conv => lhs; rw [← List.take_append_drop (i + 1) l]
                rw [ddV_append, hts, ddV_new hm]
              obtain ⟨rr, hrr⟩ := ddV_ext (l.drop (i + 1)) (ddV [] (l.take i) ++ [l[i]])
              rw [slotR_in r1.1 r1.2, A1.out, hl2, hrr, slotV_new (ddV_not hm), ← HM.out]
            have S1 := hideP s1
            obtain ⟨b, o, rfl, hcell⟩ := HX.out wr i hlt HC.out
            obtain ⟨xi, hxi⟩ : ∃ x, x = l[i] := ⟨_, rfl⟩
            rw [← hxi] at hcell S1
            have e3 : ((m : Int) != (m : Int)) = false := by simp
            have HXZ : Hid (xi.size ≤ 140737488351232) := by rw [hxi]; exact HLS.out _ (List.getElem_mem _)
            clear hts hm HH s1 hxi
            go_wp2_with fail
            refine (HCs.out _ _ _ HC.out S1.out HXZ.out).mono ?_
            rintro e w7 ⟨rfl, HP7⟩
            clear hcell
            go_wp2_with fail
            exact ⟨⟨i + 1, m + 1, by go_num, by omega, by go_num, by omega, HM2.out, HP7.out⟩, by simp [intOf]; omega⟩
    · have hjl : ¬ (j : Int) < (l.length : Int) := by omega
      have hm : m = (ddV [] l).length := by rw [HM.out, List.take_of_length_le (by omega)]
      have hnm : namesV r.1 r.2 = ddV [] l := by unfold namesV; rw [if_neg (by omega)]; exact A1.out
      have HN : Hid (∀ W, Ch noB w2 W → Calls Try.prog 16 #[.pointer (some ⟨t, 0, none⟩), .int .i64 r.2] W fun e w' => ∃ a c, e = .returned (.slice a m c) ∧ Hid (Ch noB w2 w')) :=
        fun W hW => (snames_c w.heap.size t F2 r.1 r.2 W (T2.out.no hW) G1.out (by omega) (by omega) (by omega)).mono fun e w' ⟨v, h1, h2, h3⟩ => by
          rw [hnm, ← hm] at h2
          obtain ⟨a, c, rfl⟩ := row_shape h2
          exact ⟨a, c, h1, hW.trans h3 fun _ _ h => h⟩
      have hml : (r.1.length : Int) = (m : Int) + 1 := by omega
      have HLn : Hid (∀ W, Ch noB w2 W → Calls Try.prog 14 #[.pointer (some ⟨t, 0, none⟩)] W fun e w' => e = .returned (.int .i64 ((m : Int) + 1)) ∧ Hid (Ch noB w2 w')) :=
        fun W hW => (slen_c w.heap.size t F2 r.1 W (T2.out.no hW)).mono fun e w' h => ⟨by rw [← hml]; exact h.1, hW.trans h.2 fun _ _ h => h⟩
      have e3 : ((m : Int) == (m : Int)) = true := by simp
      have e4 : ((m : Int) + 1 == (m : Int) + 1) = true := by simp
      clear hm hnm hml
      go_wp2_with fail
      refine (HN.out _ HC.out).mono ?_
      rintro e w7 ⟨a7, c7, rfl, HP7⟩
      go_wp2_with fail
      refine (HLn.out _ HP7.out).mono ?_
      rintro e w8 ⟨rfl, HP8⟩
      go_wp2_with fail
      go_ret
      exact ⟨rfl, HB.out _ HP8.out⟩
end Go.Proofs.Ytldcfglkcifklaa
