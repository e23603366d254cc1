/- graduslaw15.ShapeDoes: the walk. -/
import Derived.Test.YtldcfglkcifklaaShW
namespace Go.Proofs.Ytldcfglkcifklaa
open Go.RowKit

/-- A call, as the law's argument has it. -/
structure OpV where
  s : Int
  x : ByteArray
  many : Bool
  ns : List ByteArray
def OpOk (o : OpV) : Prop := -9223372036854775808 ≤ o.s ∧ o.s ≤ 9223372036854775807 ∧ o.x.size ≤ 140737488351232 ∧ (∀ x ∈ o.ns, x.size ≤ 140737488351232) ∧ (o.ns.length : Int) ≤ 9223372036854775807
/-- Calls that came in. -/
def OpsV (F : Nat → Prop) (w : World) (v : Value) (l : List OpV) : Prop := (l = [] ∧ ∃ a c, v = .slice a 0 c) ∨ ∃ b o c, v = .slice (some ⟨b, o, none⟩) l.length c ∧ F b ∧ b < w.heap.size ∧
  ∀ i (_ : i < l.length), OpOk l[i] ∧ w.cell? ⟨b, o + i * 4, none⟩ = some (.int .i64 l[i].s) ∧ w.cell? ⟨b, o + i * 4 + 1, none⟩ = some (.string l[i].x) ∧ w.cell? ⟨b, o + i * 4 + 2, none⟩ = some (.bool l[i].many) ∧ ∃ u, w.cell? ⟨b, o + i * 4 + 3, none⟩ = some u ∧ StrV F w u l[i].ns
theorem OpsV.at {F : Nat → Prop} {w : World} {a : Option Addr} {n c : Nat} {l : List OpV} (h : OpsV F w (.slice a n c) l) : n = l.length ∧ ∀ i (_ : i < l.length), ∃ b o, a = some ⟨b, o, none⟩ ∧ F b ∧ b < w.heap.size ∧ OpOk l[i] ∧ w.cell? ⟨b, o + i * 4, none⟩ = some (.int .i64 l[i].s) ∧ w.cell? ⟨b, o + i * 4 + 1, none⟩ = some (.string l[i].x) ∧ w.cell? ⟨b, o + i * 4 + 2, none⟩ = some (.bool l[i].many) ∧
    ∃ a' c', w.cell? ⟨b, o + i * 4 + 3, none⟩ = some (.slice a' l[i].ns.length c') ∧ StrV F w (.slice a' l[i].ns.length c') l[i].ns := by
  rcases h with ⟨rfl, a', c', e⟩ | ⟨b, o, c', e, hf, hb, h⟩
  · injection e with _ e _
    exact ⟨e, fun i hi => absurd hi (Nat.not_lt_zero _)⟩
  · injection e with e1 e2 _
    refine ⟨e2, fun i hi => ?_⟩
    obtain ⟨h1, h2, h3, h4, u, h5, h6⟩ := h i hi
    obtain ⟨a', c', rfl, _⟩ := h6.form
    exact ⟨b, o, e1, hf, hb, h1, h2, h3, h4, a', c', h5, h6⟩
/-- Both trees, with the same shapes. -/
def TwoT (w wx : World) (t r m : Nat) : Prop := ∃ T Ft Fr, TreeT w.heap.size Ft wx t T ∧ RefT w.heap.size Fr wx r T ∧ (∀ b, Ft b → ¬ Fr b) ∧ GoodT T ∧ T.length ≤ m ∧ Below w.heap.size w wx
theorem apart_l {F F' G : Nat → Prop} {w : World} (hlt : ∀ b, G b → b < w.heap.size) (hq : ∀ b, F' b → F b ∨ w.heap.size ≤ b) (hd : ∀ b, F b → ¬ G b) : ∀ b, F' b → ¬ G b := fun b h h2 => by
  rcases hq b h with h | h
  · exact hd b h h2
  · have := hlt b h2
    omega
theorem RefT.base {B B' r : Nat} {F : Nat → Prop} {w : World} {T : List (List ByteArray)} (h : RefT B F w r T) (hB : B' ≤ B) : RefT B' F w r T := by
  obtain ⟨v, xs, h1, h2, h3, h4, h5, h6⟩ := h
  refine ⟨v, xs, h1, ⟨h2.1, ?_⟩, h3, h4, h5, fun b hb => ⟨Nat.le_trans hB (h6 b hb).1, (h6 b hb).2⟩⟩
  rcases h2.2 with h | ⟨g, cap, cur, e, hg, r⟩
  · exact .inl h
  · exact .inr ⟨g, cap, cur, e, Nat.le_trans hB hg, r⟩
theorem slotR_form (T : List (List ByteArray)) (s : Int) (x : ByteArray) : ∃ (i : Int) (b : Bool), slotR T s x = .tuple #[.int .i64 i, .bool b] := by
  unfold slotR
  split
  · exact ⟨_, _, rfl⟩
  · split <;> exact ⟨_, _, rfl⟩

theorem TrP.since {R : (Nat → Prop) → World → List (List ByteArray) → Prop} {F : Nat → Prop} {w w1 w2 : World} {T2 : List (List ByteArray)} (hc : Ch noB w w1) (h : TrP R F w1 T2 w2) : TrP R F w T2 w2 :=
  TrP.next (F1 := F) (fun _ h => .inl h) (hc.mono fun _ _ h => h.elim) h
set_option maxRecDepth 100000 in
set_option maxHeartbeats 8000000 in
theorem shapeDoes_c (a : Option Addr) (cap : Nat) (l : List OpV) (x : ByteArray) (w : World) (hl : OpsV (fun b => b < w.heap.size) w (.slice a l.length cap) l) (hxs : x.size ≤ 140737488351232) :
    Calls Try.prog 3 #[.slice a l.length cap, .string x] w fun e w' => e = .returned (.bool true) ∧ Below w.heap.size w w' := by
  have HL := hideP hl.at.2
  clear hl
  by_cases hlen : 100 < l.length
  · have hlen' : (l.length : Int) > 100 := by omega
    go_enter Try.func3, Try.ntmps3
    go_wp2_with fail
    refine (awake_c _).mono ?_
    rintro e w0 ⟨rfl, hb0⟩
    have B0 := hideP hb0
    clear hb0
    go_wp2_with fail
    refine (snew_c _).mono ?_
    rintro e w1 ⟨t, F, rfl, _, hc⟩
    have B1 : Hid (Below w.heap.size w w1) := B0.out.trans (hc.below B0.out.size fun _ h => h.elim)
    clear hc B0
    go_wp2_with fail
    go_ret
    exact ⟨rfl, B1.out⟩
  have hlen' : ¬ (l.length : Int) > 100 := by omega
  go_enter Try.func3, Try.ntmps3
  go_wp2_with fail
  refine (awake_c _).mono ?_
  rintro e w0 ⟨rfl, hb0⟩
  have B0 := hideP hb0
  clear hb0
  go_wp2_with fail
  refine (snew_c _).mono ?_
  rintro e w1 ⟨t, F, rfl, ht, hc⟩
  have B1 : Hid (Below w.heap.size w w1) := B0.out.trans (hc.below B0.out.size fun _ h => h.elim)
  have T1 : Hid (TreeT w.heap.size F w1 t [[]]) := ht.base B0.out.size
  clear hc B0 ht
  go_wp2_with fail
  refine (rnew_c _).mono ?_
  rintro e w2 ⟨r, G, rfl, hr, hc⟩
  have J : Hid (TwoT w w2 t r 1) := ⟨[[]], F, G, T1.out.no hc, hr.base B1.out.size, fun b h h2 => by have h3 := (T1.out.lt b h).2; have h4 := (hr.lt b h2).1; omega, good_one, by decide, B1.out.trans (hc.below B1.out.size fun _ h => h.elim)⟩
  clear hc T1 hr B1
  go_wp2_with fail
  go_loopw [8] (fun i wx => ∃ j : Nat, i = .int .i64 j ∧ j ≤ l.length ∧ Hid (TwoT w wx t r (1 + 50 * j))) (fun i _ => l.length - (intOf i).toNat)
  case atStart => exact ⟨0, rfl, Nat.zero_le _, J.out⟩
  case round =>
    obtain ⟨j, rfl, hj, HJ⟩ := hrel
    clear J
    by_cases hlt : j < l.length
    · have hjl : (j : Int) < (l.length : Int) := by omega
      have hj0 : (0 : Int) ≤ (j : Int) := by omega
      obtain ⟨b, o, rfl, _, hbl, ok, k0, k1, k2, a', c', k3, hs⟩ := HL.out j hlt
      obtain ⟨T, Ft, Fr, j1, j2, j3, j4, j5, j6⟩ := HJ.out
      have d0 := (j6.cell (p := ⟨b, o + j * 4, none⟩) hbl).trans k0
      have d1 := (j6.cell (p := ⟨b, o + j * 4 + 1, none⟩) hbl).trans k1
      have d2 := (j6.cell (p := ⟨b, o + j * 4 + 2, none⟩) hbl).trans k2
      have d3 := (j6.cell (p := ⟨b, o + j * 4 + 3, none⟩) hbl).trans k3
      have HS : Hid (StrV (fun b => b < w.heap.size) wr (.slice a' l[j].ns.length c') l[j].ns) := hs.ch (Ch.of (S := noB) j6) fun _ _ _ h => h
      obtain ⟨⟨os, ox, om, on⟩, ho⟩ : ∃ o : OpV, o = l[j] := ⟨_, rfl⟩
      rw [← ho] at d0 d1 d2 d3 ok HS
      obtain ⟨q1, q2, q3, q4, q5⟩ := ok
      simp only at d0 d1 d2 d3 HS q1 q2 q3 q4 q5
      have J1 := hideP j1
      have J2 := hideP j2
      have J3 := hideP j3
      have J4 := hideP j4
      have J6 := hideP j6
      have Q4 := hideP q4
      clear k0 k1 k2 k3 hs ho j1 j2 j3 j4 j6 q4 HJ
      by_cases hon : 50 < on.length
      · have hon' : (on.length : Int) > 50 := by omega
        go_wp2_with fail
        go_ret
        exact ⟨rfl, J6.out⟩
      have hon' : ¬ (on.length : Int) > 50 := by omega
      cases om with
      | true =>
        go_wp2_with fail
        refine (sof_c w.heap.size t Ft (fun b => b < w.heap.size) T _ on _ J1.out J4.out HS.out (fun b h h2 => by have := (J1.out.lt b h2).1; omega) (by omega) Q4.out).mono ?_
        rintro e w4 ⟨rfl, Ft', p1, p2, p3⟩
        have HS4 : Hid (StrV (fun b => b < w.heap.size) w4 (.slice a' on.length c') on) := HS.out.ch p3 fun b h _ h2 => by have := (J1.out.lt b h2).1; omega
        have R4 : Hid (RefT w.heap.size Fr w4 r T) := J2.out.ch p3 fun b h h2 => J3.out b h2 h
        have D4 : Hid (∀ b, Ft' b → ¬ Fr b) := apart_l (fun b h => (J2.out.lt b h).2) p2 J3.out
        have B4 : Hid (Below w.heap.size w w4) := J6.out.trans (p3.below J6.out.size fun b h => (J1.out.lt b h).1)
        have P1 := hideP p1
        have e0 := (J6.out.trans (p3.below J6.out.size fun b h => (J1.out.lt b h).1)).cell (p := ⟨b, o + j * 4 + 3, none⟩) hbl
        have e3 : w4.cell? ⟨b, o + j * 4 + 3, none⟩ = some (.slice a' on.length c') := e0.trans (((J6.out.cell (p := ⟨b, o + j * 4 + 3, none⟩) hbl).symm).trans d3)
        clear p1 p2 p3 e0 J1 J2 J3 HS d0 d1 d2 d3
        go_wp2_with fail
        refine (rof_c w.heap.size r Fr (fun b => b < w.heap.size) T _ on _ R4.out J4.out HS4.out (fun b h h2 => by have := (R4.out.lt b h2).1; omega) (by omega)).mono ?_
        rintro e w5 ⟨rfl, Fr', p1, p2, p3⟩
        have HJ : Hid (TwoT w w5 t r (1 + 50 * (j + 1))) := ⟨_, Ft', Fr', P1.out.ch p3 D4.out, p1, fun b h h2 => apart_l (F := Fr) (F' := Fr') (G := Ft') (fun b h => (P1.out.lt b h).2) p2 (fun b h h2 => D4.out b h2 h) b h2 h, good_of on J4.out, by have := of_len on (T := T) (s := 0); omega, B4.out.trans (p3.below B4.out.size fun b h => (R4.out.lt b h).1)⟩
        have e1 : ((ofV on T 0).2 != (ofV on T 0).2) = false := by simp
        clear p1 p2 p3 R4 B4 D4 P1 HS4 e3
        go_wp2_with fail
        exact ⟨⟨j + 1, by go_num, by omega, HJ.out⟩, by simp [intOf]; omega⟩
      | false =>
        have HSK : Hid (∀ W, Below w.heap.size w W → W.cell? ⟨b, o + j * 4, none⟩ = some (.int .i64 os) ∧ W.cell? ⟨b, o + j * 4 + 1, none⟩ = some (.string ox)) := fun W h => ⟨(h.cell (p := ⟨b, o + j * 4, none⟩) hbl).trans (((J6.out.cell (p := ⟨b, o + j * 4, none⟩) hbl).symm).trans d0), (h.cell (p := ⟨b, o + j * 4 + 1, none⟩) hbl).trans (((J6.out.cell (p := ⟨b, o + j * 4 + 1, none⟩) hbl).symm).trans d1)⟩
        have HC : Hid (∀ W, Ch noB wr W → Calls Try.prog 12 #[.pointer (some ⟨t, 0, none⟩), .int .i64 os, .string ox] W fun e w' => e = .returned (.tuple #[.int .i64 (addV T os ox).2.1, .int .i64 (addV T os ox).2.2]) ∧ Hid (TrP (fun F w0 T => TreeT w.heap.size F w0 t T) Ft wr (addV T os ox).1 w')) :=
          fun W hW => (sadd_c w.heap.size t Ft T os ox W (J1.out.no hW) J4.out q1 q2 (by omega) q3).mono fun e w' h => ⟨h.1, TrP.since hW h.2⟩
        have HB : Hid (∀ w', Hid (TrP (fun F w0 T => TreeT w.heap.size F w0 t T) Ft wr (addV T os ox).1 w') → Below w.heap.size w w') := fun w' h => by
          obtain ⟨_, _, _, p3⟩ := h.out
          exact J6.out.trans (p3.below J6.out.size fun b h => (J1.out.lt b h).1)
        have s0 := HSK.out wr.drew J6.out.drew
        clear HS
        go_wp2_with fail
        go_region_held (fun W => W.cell? ⟨b, o + j * 4, none⟩ = some (.int .i64 os) ∧ W.cell? ⟨b, o + j * 4 + 1, none⟩ = some (.string ox)) (with_reducible assumption) (first
          | (go_at_call 12; refine (HC.out _ (by first | exact Ch.refl _ _ | exact (Ch.refl _ _).drew | exact (Ch.refl _ _).drewN _)).mono ?_; rintro e w4 ⟨rfl, HP⟩; have s4 := HSK.out _ (HB.out _ HP)))
        all_goals
          go_wp2_with fail
          clear s0 s4
          obtain ⟨Ft', p1, p2, p3⟩ := HP.out
          have R4 : Hid (RefT w.heap.size Fr w4 r T) := J2.out.ch p3 fun b h h2 => J3.out b h2 h
          have D4 : Hid (∀ b, Ft' b → ¬ Fr b) := apart_l (fun b h => (J2.out.lt b h).2) p2 J3.out
          have B4 := hideP (HB.out _ HP)
          have P1 := hideP p1
          clear HC HB p1 p2 p3 HP J1 J2 J3
          have HC : Hid (∀ W, Ch noB w4 W → Calls Try.prog 13 #[.pointer (some ⟨r, 0, none⟩), .int .i64 os, .string ox] W fun e w' => e = .returned (.tuple #[.int .i64 (addV T os ox).2.1, .int .i64 (addV T os ox).2.2]) ∧ Hid (TrP (fun F w0 T => RefT w.heap.size F w0 r T) Fr w4 (addV T os ox).1 w')) :=
            fun W hW => (radd_c w.heap.size r Fr T os ox W (R4.out.no hW) q1 q2 (by omega) (fun l hl => by have := J4.out.len l hl; omega)).mono fun e w' h => ⟨h.1, TrP.since hW h.2⟩
          have HB : Hid (∀ w', Hid (TrP (fun F w0 T => RefT w.heap.size F w0 r T) Fr w4 (addV T os ox).1 w') → Below w.heap.size w w') := fun w' h => by
            obtain ⟨_, _, _, p3⟩ := h.out
            exact B4.out.trans (p3.below B4.out.size fun b h => (R4.out.lt b h).1)
          have s0 := HSK.out w4.drew B4.out.drew
          go_region_held (fun W => W.cell? ⟨b, o + j * 4, none⟩ = some (.int .i64 os) ∧ W.cell? ⟨b, o + j * 4 + 1, none⟩ = some (.string ox)) (with_reducible assumption) (first
            | (go_at_call 13; refine (HC.out _ (by first | exact Ch.refl _ _ | exact (Ch.refl _ _).drew | exact (Ch.refl _ _).drewN _)).mono ?_; rintro e w5 ⟨rfl, HP⟩; have s4 := HSK.out _ (HB.out _ HP)))
          all_goals
            clear s0 s4
            obtain ⟨Fr', p1, p2, p3⟩ := HP.out
            have HJ : Hid (TwoT w w5 t r (1 + 50 * (j + 1))) := ⟨_, Ft', Fr', P1.out.ch p3 D4.out, p1, fun b h h2 => apart_l (F := Fr) (F' := Fr') (G := Ft') (fun b h => (P1.out.lt b h).2) p2 (fun b h h2 => D4.out b h2 h) b h2 h, good_add J4.out, by have := (add_len (T := T) (s := os) (x := ox)).2; omega, HB.out _ HP⟩
            have e1 : ((addV T os ox).2.1 != (addV T os ox).2.1) = false := by simp
            have e2 : ((addV T os ox).2.2 != (addV T os ox).2.2) = false := by simp
            clear p1 p2 p3 R4 B4 D4 P1 HP HB HC
            go_wp2_with fail
            exact ⟨⟨j + 1, by go_num, by omega, HJ.out⟩, by simp [intOf]; omega⟩
    · have hjl : ¬ (j : Int) < (l.length : Int) := by omega
      obtain ⟨T, Ft, Fr, j1, j2, j3, j4, j5, j6⟩ := HJ.out
      obtain ⟨a0, cap0, hc0, hk0⟩ := j2.look
      have J1 := hideP j1
      have J2 := hideP j2
      have J3 := hideP j3
      have J4 := hideP j4
      have J6 := hideP j6
      have HC : Hid (∀ W, Ch noB wr W → Calls Try.prog 14 #[.pointer (some ⟨t, 0, none⟩)] W fun e w' => e = .returned (.int .i64 T.length) ∧ Hid (Ch noB wr w')) :=
        fun W hW => (slen_c w.heap.size t Ft T W (J1.out.no hW)).mono fun e w' h => ⟨h.1, hW.trans h.2 fun _ _ h => h⟩
      have HSK : Hid (∀ W, Ch noB wr W → W.cell? ⟨r, 0, none⟩ = some (.slice a0 T.length cap0)) := by
        have h := hideP hc0
        exact fun W hW => hW.cell h.out fun h => h
      have s0 := HSK.out wr.drew (Ch.refl _ _).drew
      have e1 : ((T.length : Int) != (T.length : Int)) = false := by simp
      clear j1 j2 j3 j4 j6 HJ hc0 hk0
      go_wp2_with fail
      go_region_held (fun W => W.cell? ⟨r, 0, none⟩ = some (.slice a0 T.length cap0)) (with_reducible assumption) (first
        | (go_at_call 14; refine (HC.out _ (by first | exact Ch.refl _ _ | exact (Ch.refl _ _).drew | exact (Ch.refl _ _).drewN _)).mono ?_; rintro e w3 ⟨rfl, HP⟩; have s4 := HSK.out _ HP.out))
      all_goals
        clear s0 HC HSK s4
        have T3 : Hid (TreeT w.heap.size Ft w3 t T) := J1.out.no HP.out
        have R3 : Hid (RefT w.heap.size Fr w3 r T) := J2.out.no HP.out
        have B3 : Hid (Below w.heap.size w w3) := J6.out.trans (HP.out.below J6.out.size fun _ h => h.elim)
        clear J1 J2 J3 J6 HP
        obtain ⟨a0, cap0, hc0, hk0⟩ := R3.out.look
        have HK := hideP hk0
        have HSK : Hid (∀ W, Ch noB w3 W → W.cell? ⟨r, 0, none⟩ = some (.slice a0 T.length cap0)) := by
          have h := hideP hc0
          exact fun W hW => hW.cell h.out fun h => h
        clear hc0 hk0
        go_wp2_with fail
        go_loopw [17] (fun s wx => ∃ k : Nat, s = .int .i64 k ∧ k ≤ T.length ∧ Hid (Ch noB w3 wx)) (fun s _ => T.length - (intOf s).toNat)
        case atStart => exact ⟨0, rfl, Nat.zero_le _, Ch.refl _ _⟩
        case round =>
          obtain ⟨k, rfl, hk, HC⟩ := hrel
          have r0 := HSK.out wr HC.out
          by_cases hkT : k < T.length
          · have hkl : (k : Int) < (T.length : Int) := by omega
            have hk0 : (0 : Int) ≤ (k : Int) := by omega
            obtain ⟨q, ao, c, rfl, hq, hv, _⟩ := HK.out k hkT
            have HSQ : Hid (∀ W, Ch noB w3 W → W.cell? ⟨r, 0, none⟩ = some (.slice (some ⟨q, 0, none⟩) T.length cap0) ∧ W.cell? ⟨q, k, none⟩ = some (.slice ao T[k].length c)) := by
              have h := hideP hq
              exact fun W hW => ⟨HSK.out W hW, hW.cell h.out fun h => h⟩
            have HV := hideP hv
            obtain ⟨n, hn⟩ : ∃ n, n = T[k].length := ⟨_, rfl⟩
            have hnl : n ≤ 1000000 := by have := J4.out.len _ (List.getElem_mem hkT); omega
            have hnm : namesV T k = T[k] := by unfold namesV; rw [if_neg (by omega), atV_nat hkT]
            have HCn : Hid (∀ W, Ch noB w3 W → Calls Try.prog 16 #[.pointer (some ⟨t, 0, none⟩), .int .i64 k] W fun e w' => ∃ v, e = .returned v ∧ Hid (StrV (fun _ => True) w' v T[k]) ∧ Hid (Ch noB w3 w')) :=
              fun W hW => (snames_c w.heap.size t Ft T k W (T3.out.no hW) J4.out (by omega) (by omega) (by omega)).mono fun e w' ⟨v, h1, h2, h3⟩ => ⟨v, h1, by rw [hnm] at h2; exact strV_own h2 fun _ _ => trivial, hW.trans h3 fun _ _ h => h⟩
            have HCt : Hid (∀ W v, Ch noB w3 W → StrV (fun _ => True) W v T[k] → Calls Try.prog 15 #[v, .slice ao n c] W fun e w' => e = .returned (.bool true) ∧ Hid (Ch noB w3 w')) :=
              fun W v hW h => (texts_c (fun _ => True) v _ T[k] T[k] W h (by rw [hn]; exact (HV.out.ch hW fun _ _ _ h => h).mono fun _ _ _ => trivial) (by omega) (by omega)).mono fun e w' ⟨h1, q, h2⟩ => ⟨by rw [h1, decide_eq_true rfl], by rw [h2]; exact hW.drewN q⟩
            obtain ⟨i1, b1, hsl⟩ := slotR_form T k x
            have HCs : Hid (∀ W, Ch noB w3 W → Calls Try.prog 17 #[.pointer (some ⟨t, 0, none⟩), .int .i64 k, .string x] W fun e w' => e = .returned (.tuple #[.int .i64 i1, .bool b1]) ∧ Hid (Ch noB w3 w')) :=
              fun W hW => (sslot_c w.heap.size t Ft T k x W (T3.out.no hW) J4.out (by omega) (by omega) (by omega) hxs).mono fun e w' h => ⟨by rw [← hsl]; exact h.1, hW.trans h.2 fun _ _ h => h⟩
            have HCr : Hid (∀ W, Ch noB w3 W → Calls Try.prog 18 #[.pointer (some ⟨r, 0, none⟩), .int .i64 k, .string x] W fun e w' => e = .returned (.tuple #[.int .i64 i1, .bool b1]) ∧ w' = W) :=
              fun W hW => (rslot_c w.heap.size r Fr T k x W (R3.out.no hW) (by omega) (by omega) (fun l hl => by have := J4.out.len l hl; omega)).mono fun e w' h => ⟨by rw [← hsl]; exact h.1, h.2⟩
            rw [← hn] at HSQ
            have e2 : (i1 != i1) = false := by simp
            have e3 : (b1 != b1) = false := by cases b1 <;> rfl
            have s0 := HSQ.out wr.drew HC.out.drew
            clear hv hn hnm hsl hq
            go_wp2_with fail
            go_region_held (fun W => W.cell? ⟨r, 0, none⟩ = some (.slice (some ⟨q, 0, none⟩) T.length cap0) ∧ W.cell? ⟨q, k, none⟩ = some (.slice ao n c)) (with_reducible assumption) (first
              | (go_at_call 16; refine (HCn.out _ (by first | exact HC.out | exact HC.out.drew | exact HC.out.drewN _)).mono ?_; rintro e w5 ⟨v5, rfl, HV5, HP5⟩; have s4 := HSQ.out _ HP5.out)
              | (go_at_call 15; refine (HCt.out _ _ (by first | exact HP5.out | exact HP5.out.drew | exact HP5.out.drewN _) HV5.out).mono ?_; rintro e w6 ⟨rfl, HP6⟩; have s6 := HSQ.out _ HP6.out))
            all_goals
              clear s0 s4 s6 HV5 HP5
              go_wp2_with fail
              refine (HCs.out _ HP6.out).mono ?_
              rintro e w7 ⟨rfl, HP7⟩
              go_wp2_with fail
              refine (HCr.out _ HP7.out).mono ?_
              rintro e w8 ⟨rfl, rfl⟩
              go_wp2_with fail
              exact ⟨⟨k + 1, by go_num, by omega, HP7.out⟩, by simp [intOf]; omega⟩
          · have hkl : ¬ (k : Int) < (T.length : Int) := by omega
            have HCs : Hid (∀ W, Ch noB w3 W → Calls Try.prog 17 #[.pointer (some ⟨t, 0, none⟩), .int .i64 (T.length : Int), .string x] W fun e w' => e = .returned (.tuple #[.int .i64 0, .bool false]) ∧ Hid (Ch noB w3 w')) := by
              have hsl : slotR T (T.length : Int) x = .tuple #[.int .i64 0, .bool false] := by unfold slotR; rw [if_pos (.inr (Int.le_refl _))]
              exact fun W hW => (sslot_c w.heap.size t Ft T (T.length : Int) x W (T3.out.no hW) J4.out (by omega) (by omega) (by omega) hxs).mono fun e w' h => ⟨by rw [← hsl]; exact h.1, hW.trans h.2 fun _ _ h => h⟩
            have HCn : Hid (∀ W, Ch noB w3 W → Calls Try.prog 16 #[.pointer (some ⟨t, 0, none⟩), .int .i64 (-1)] W fun e w' => ∃ a c, e = .returned (.slice a 0 c) ∧ Hid (Ch noB w3 w')) :=
              fun W hW => (snames_c w.heap.size t Ft T (-1) W (T3.out.no hW) J4.out (by omega) (by omega) (by omega)).mono fun e w' ⟨v, h1, h2, h3⟩ => by
                have hnm : namesV T (-1) = [] := by unfold namesV; rw [if_pos (.inl (by decide))]
                rw [hnm] at h2
                obtain ⟨a, c, rfl⟩ := row_shape h2
                exact ⟨a, c, h1, hW.trans h3 fun _ _ h => h⟩
            go_wp2_with fail
            refine (HCs.out _ HC.out).mono ?_
            rintro e w5 ⟨rfl, HP5⟩
            go_wp2_with fail
            refine (HCn.out _ HP5.out).mono ?_
            rintro e w6 ⟨a6, c6, rfl, HP6⟩
            go_wp2_with fail
            go_ret
            exact ⟨rfl, B3.out.trans (HP6.out.below B3.out.size fun _ h => h.elim)⟩
end Go.Proofs.Ytldcfglkcifklaa
