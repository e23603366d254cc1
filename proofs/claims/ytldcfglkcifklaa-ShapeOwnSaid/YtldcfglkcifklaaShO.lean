/- graduslaw15.ShapeOwn: the walk. -/
import Derived.Test.YtldcfglkcifklaaShZ
namespace Go.Proofs.Ytldcfglkcifklaa
open Go.RowKit

set_option maxRecDepth 100000 in
set_option maxHeartbeats 8000000 in
theorem shapeOwn_c (a : Option Addr) (cap : Nat) (l : List ByteArray) (x : ByteArray) (w : World) (hl : StrV (fun b => b < w.heap.size) w (.slice a l.length cap) l)
    (hln : (l.length : Int) ≤ 9223372036854775807) (hls : ∀ x ∈ l, x.size ≤ 140737488351232) :
    Calls Try.prog 6 #[.slice a l.length cap, .string x] w fun e w' => e = .returned (.bool true) ∧ Below w.heap.size w w' := by
  have HL := hideP hl
  have HLS := hideP hls
  clear hl hls
  by_cases hlen : 30 < l.length
  · have hlen3 : (l.length : Int) > 30 := by omega
    go_enter Try.func6, Try.ntmps6
    go_wp2_with fail
    refine (awake_c _).mono ?_
    rintro e w0 ⟨rfl, hb0⟩
    have B0 := hideP hb0
    clear hb0
    go_wp2_with fail
    refine (snew_c _).mono ?_
    rintro e w1 ⟨t, F, rfl, _, hc⟩
    have B1 : Hid (Below w.heap.size w w1) := B0.out.trans (hc.below B0.out.size fun _ h => h.elim)
    clear hc B0
    go_wp2_with fail
    go_ret
    exact ⟨rfl, B1.out⟩
  have hlen' : ¬ (l.length : Int) > 30 := by omega
  obtain ⟨i0, hi, hz0, hz1, hz2⟩ := info_parts info_str
  go_enter Try.func6, Try.ntmps6
  go_wp2_with fail
  refine (awake_c _).mono ?_
  rintro e w0 ⟨rfl, hb0⟩
  have B0 := hideP hb0
  clear hb0
  go_wp2_with fail
  refine (snew_c _).mono ?_
  rintro e w1 ⟨t, F, rfl, ht, hc⟩
  have B1 : Hid (Below w.heap.size w w1) := B0.out.trans (hc.below B0.out.size fun _ h => h.elim)
  have T1 : Hid (TreeT w.heap.size F w1 t [[]]) := ht.base B0.out.size
  clear hc B0 ht
  have HLw : Hid (∀ W, Below w.heap.size w W → StrV (fun b => b < w.heap.size) W (.slice a l.length cap) l) := fun W h => HL.out.ch (Ch.of (S := noB) h) fun _ _ _ h => h
  obtain ⟨r, hr⟩ : ∃ r, r = ofV l [[]] 0 := ⟨_, rfl⟩
  have C := sof_c w.heap.size t F (fun b => b < w.heap.size) [[]] _ l w1 T1.out good_one (HLw.out w1 B1.out) (fun b h h2 => by have := (T1.out.lt b h2).1; omega) (by show 1 + l.length ≤ _; omega) HLS.out
  have g1 : GoodT r.1 := hr ▸ good_of l good_one
  have l1 : r.1.length ≤ 1 + l.length := hr ▸ of_len l
  have r1 := of_rng l (T := [[]]) (s := 0) (by decide) (Int.le_refl _) (by decide)
  rw [← hr] at C r1
  have HC := hideP C
  have G1 := hideP g1
  clear C g1 hr
  go_wp2_with fail
  refine HC.out.mono ?_
  rintro e w2 ⟨rfl, F2, p1, p2, p3⟩
  have T2 := hideP p1
  have B2 : Hid (Below w.heap.size w w2) := B1.out.trans (p3.below B1.out.size fun b h => (T1.out.lt b h).1)
  clear p1 p2 p3 HC T1 B1
  obtain ⟨ns, hns⟩ : ∃ ns, ns = namesV r.1 r.2 := ⟨_, rfl⟩
  have hnl : ns.length ≤ 100 := by
    rw [hns]
    unfold namesV
    rw [if_neg (by omega)]
    obtain ⟨n, hn⟩ := Int.eq_ofNat_of_zero_le r1.1
    rw [hn, atV_nat (by omega)]
    have := G1.out.len _ (List.getElem_mem (show n < r.1.length by omega))
    omega
  have HN : Hid (∀ W, TreeT w.heap.size F2 W t r.1 → Calls Try.prog 16 #[.pointer (some ⟨t, 0, none⟩), .int .i64 r.2] W fun e w' => ∃ v, e = .returned v ∧ Hid (w'.ownsRow W.heap.size 9 1 v ns.length (ns.map Value.string)) ∧ Hid (Ch noB W w')) :=
    fun W hW => (snames_c w.heap.size t F2 r.1 r.2 W hW G1.out (by omega) (by omega) (by omega)).mono fun e w' ⟨v, h1, h2, h3⟩ => ⟨v, h1, by rw [hns]; exact h2, h3⟩
  clear hns
  go_wp2_with fail
  refine (HN.out w2 T2.out).mono ?_
  rintro e w3 ⟨v3, rfl, HO3, HC3⟩
  obtain ⟨a3, c3, rfl⟩ := row_shape HO3.out
  obtain ⟨ao, c1, e, n1, n2, _⟩ := (strV_own (F := fun _ => True) HO3.out fun _ _ => trivial).form
  injection e with e1 _ e2
  subst e1 e2
  have N1 := hideP n1
  have N2 := hideP n2
  clear n1 n2
  go_wp2_with (at_builtin; refine wpList_append_anyK _ rfl (.const (.slice none 0 0)) (.tmp 35) 28 rfl w3.heap.size 9 i0 _ 1 16 Try.underlying28 hi hz0 hz1 hz2 rfl (by decide) _ 0 [] rfl (World.ownsRow_nil _ _ _ _) a3 ns.length c3 (ns.map Value.string) rfl (by simp) N1.out N2.out (one_strs _) (by unfold maxLen; omega) (by omega) (Nat.le_refl _) ?_)
  intro v4 w4 hown4 hgr4 _
  have hown4' : w4.ownsRow w3.heap.size 9 1 v4 ns.length (ns.map Value.string) := by simpa using hown4
  obtain ⟨a4, c4, rfl⟩ := row_shape hown4'
  have HV4 : Hid (StrV (fun b => w3.heap.size ≤ b) w4 (.slice a4 ns.length c4) ns) := strV_own hown4' fun q hq => (hown4'.lt q hq).1
  have HC4 : Hid (Ch noB w3 w4) := (Ch.refl _ w3).grown hgr4 fun q hq => by cases hq
  have T4 : Hid (TreeT w.heap.size F2 w4 t r.1) := (T2.out.no HC3.out).no HC4.out
  have B4 : Hid (Below w.heap.size w w4) := (B2.out.trans (HC3.out.below B2.out.size fun _ h => h.elim)).trans (HC4.out.below (Nat.le_trans B2.out.size HC3.out.size) fun _ h => h.elim)
  have HG : Hid (∀ j (_ : j < ns.length), ∃ g cur, a3 = some ⟨g, 0, none⟩ ∧ w2.heap.size ≤ g ∧ g < w3.heap.size ∧ w4.heap[g]? = some (.cells cur 9 (0, 0)) ∧ ns.length ≤ cur.size) := by
    intro j hj
    rcases HO3.out.2 with ⟨_, h0⟩ | ⟨g, cap, cur, e, hg, hh, h1, _, h2, _⟩
    · omega
    · injection e with e1 e2 e3
      exact ⟨g, cur, e1, hg, lt_of_block hh, HC4.out.obj hh fun h => h, by rw [h2]; omega⟩
  clear hown4 hown4' hgr4 N1 N2
  go_wp2_with fail
  go_loopw [11] (fun i wx => ∃ j : Nat, i = .int .i64 j ∧ j ≤ ns.length ∧ Hid (Ch (fun b => w2.heap.size ≤ b ∧ b < w3.heap.size) w4 wx ∧ ∀ j (_ : j < ns.length), ∃ g cur, a3 = some ⟨g, 0, none⟩ ∧ w2.heap.size ≤ g ∧ g < w3.heap.size ∧ wx.heap[g]? = some (.cells cur 9 (0, 0)) ∧ ns.length ≤ cur.size)) (fun i _ => ns.length - (intOf i).toNat)
  case atStart => exact ⟨0, rfl, Nat.zero_le _, Ch.refl _ _, HG.out⟩
  case round =>
    clear HG
    obtain ⟨j, rfl, hj, HJ⟩ := hrel
    by_cases hlt : j < ns.length
    · have hjl : (j : Int) < (ns.length : Int) := by omega
      have hj0 : (0 : Int) ≤ (j : Int) := by omega
      obtain ⟨g, cur, rfl, hg1, hg2, hx, hcs⟩ := HJ.out.2 j hlt
      have hc0 : wr.cell? ⟨g, j, none⟩ = some (cur[j]'(by omega)) := by rw [cell_of_row _ _ j _ _ _ hx, Array.getElem?_eq_getElem (by omega)]
      have hf0 : wr.frozen? ⟨g, j, none⟩ = false := by simp [World.frozen?, hx]
      have HX := hideP hx
      clear hx
      go_wp2_with fail
      refine ⟨⟨j + 1, by go_num, by omega, HJ.out.1.set (fun _ => ⟨hg1, hg2⟩) _ _, fun k hk => ⟨g, _, rfl, hg1, hg2, cells_setCell HX.out, by simpa using hcs⟩⟩, by simp [intOf]; omega⟩
    · have hjl : ¬ (j : Int) < (ns.length : Int) := by omega
      have T5 : Hid (TreeT w.heap.size F2 wr t r.1) := T4.out.ch HJ.out.1 fun b h h2 => by have := (T2.out.lt b h).2; omega
      have B5 : Hid (Below w.heap.size w wr) := B4.out.trans (HJ.out.1.below B4.out.size fun b h => by have := B2.out.size; omega)
      have HV5 : Hid (StrV (fun b => w3.heap.size ≤ b) wr (.slice a4 ns.length c4) ns) := HV4.out.ch HJ.out.1 fun b h _ h2 => by omega
      clear HV4 HJ
      go_wp2_with fail
      refine (HN.out wr T5.out).mono ?_
      rintro e w6 ⟨v6, rfl, HO6, HC6⟩
      have HCt : Hid (Calls Try.prog 15 #[v6, .slice a4 ns.length c4] w6 fun e w' => e = .returned (.bool true) ∧ ∃ q, w' = w6.drewN q) :=
        (texts_c (fun _ => True) v6 _ ns ns w6 (strV_own HO6.out fun _ _ => trivial) ((HV5.out.ch HC6.out fun _ _ _ h => h).mono fun _ _ _ => trivial) (by omega) (by omega)).mono fun e w' h => ⟨by rw [h.1, decide_eq_true rfl], h.2⟩
      have B6 : Hid (Below w.heap.size w w6) := B5.out.trans (HC6.out.below B5.out.size fun _ h => h.elim)
      go_wp2_with fail
      refine HCt.out.mono ?_
      rintro e w7 ⟨rfl, q, rfl⟩
      go_wp2_with fail
      go_ret
      exact ⟨rfl, ⟨B6.out.os, B6.out.tape, B6.out.output, B6.out.size, B6.out.block⟩⟩
end Go.Proofs.Ytldcfglkcifklaa
