/- Part of the proof of ParseTypes: the texts that follow, in build order. -/
import Derived.Test.YtfjlkkohccihnabGreatDoorPart10
import Derived.Test.YtfjlkkohccihnabGreatDoorPart25
import Derived.Test.YtfjlkkohccihnabGreatDoorPart24
import Derived.Test.YtfjlkkohccihnabGreatDoorPart4
import Derived.BigQuiet
import Derived.Deep.QuietTactic
import Derived.Deep.RegionHeld
import Derived.Deep.RegionWith
import Derived.RegionTactic
import Derived.Deep.Cut
import Derived.Deep.CutRange

/- gradusref02.blank by a contract: how many bytes are passed over. -/
namespace Go.Proofs.YtfjlkkohccihnabGreatDoor.Lx
open Go.RowKit

/-- n bytes are passed over at the beginning. -/
def BlankAt (l : List UInt8) (n : Nat) : Prop := n ≤ l.length ∧ ∀ p : Nat × Nat, skipV false l p.1 p.2 = (l.drop n, placeV (l.take n) p)

/-- i bytes are passed over so far, within a comment or not. -/
def MidAt (c : Bool) (S : ByteArray) (i : Nat) : Prop := ∀ p : Nat × Nat, skipV false S.data.toList p.1 p.2 = skipV c (S.data.toList.drop i) (placeV (S.data.toList.take i) p).1 (placeV (S.data.toList.take i) p).2

theorem place_at {S : ByteArray} {i : Nat} (hi : i < S.size) (p : Nat × Nat) : placeV (S.data.toList.take (i + 1)) p = stepP (placeV (S.data.toList.take i) p) S[i] := by
  have h : i < S.data.toList.length := by rw [byteArray_len]; exact hi
  rw [List.take_succ_eq_append_getElem h, placeV_append]
  rfl

section
variable {S : ByteArray} {i : Nat}
theorem mid_start : MidAt false S 0 := fun p => by simp [placeV]
theorem mid_remark (h : MidAt false S i) (hi : i < S.size) (hb : S[i].toNat = 35) : MidAt true S i := fun p => by
  have e : S[i] = 35 := UInt8.toNat_inj.1 hb
  rw [h p, byteArray_drop S i hi, e]
  simp [skipV]
theorem mid_on (h : MidAt true S i) (hi : i < S.size) (hb : S[i].toNat ≠ 10) : MidAt true S (i + 1) := fun p => by
  have e : ¬ S[i] = 10 := fun e => hb (by rw [e]; rfl)
  rw [h p, place_at hi, byteArray_drop S i hi, skipV, if_neg e, stepP, if_neg e]
theorem mid_off (h : MidAt true S i) (hi : i < S.size) (hb : S[i].toNat = 10) : MidAt false S i := fun p => by
  have e : S[i] = 10 := UInt8.toNat_inj.1 hb
  rw [h p, byteArray_drop S i hi, e]
  simp [skipV]
theorem mid_out (h : MidAt true S i) (hi : ¬ i < S.size) : MidAt false S i := fun p => by
  rw [h p, List.drop_eq_nil_of_le (by rw [byteArray_len]; omega)]
  simp [skipV]
theorem mid_blank (h : MidAt false S i) (hi : i < S.size) (hb : S[i].toNat = 32 ∨ S[i].toNat = 9 ∨ S[i].toNat = 10 ∨ S[i].toNat = 13) : MidAt false S (i + 1) := fun p => by
  rw [h p, place_at hi, byteArray_drop S i hi, skipV, stepP]
  by_cases e : S[i] = 10
  · rw [if_pos e, if_pos e]
  · have e2 : S[i] = 32 ∨ S[i] = 9 ∨ S[i] = 13 := by
      rcases hb with hb | hb | hb | hb
      · exact .inl (UInt8.toNat_inj.1 hb)
      · exact .inr (.inl (UInt8.toNat_inj.1 hb))
      · exact absurd (UInt8.toNat_inj.1 hb) e
      · exact .inr (.inr (UInt8.toNat_inj.1 hb))
    rw [if_neg e, if_neg e, if_pos e2]
theorem mid_stay (h : MidAt false S i) (hi : i < S.size) (hb : S[i].toNat ≠ 10 ∧ S[i].toNat ≠ 32 ∧ S[i].toNat ≠ 9 ∧ S[i].toNat ≠ 13 ∧ S[i].toNat ≠ 35) : BlankAt S.data.toList i := by
  have f : ∀ n : UInt8, S[i].toNat ≠ n.toNat → ¬ S[i] = n := fun n hn e => hn (by rw [e])
  refine ⟨by rw [byteArray_len]; omega, fun p => ?_⟩
  rw [h p, byteArray_drop S i hi, skipV, if_neg (f 10 hb.1), if_neg, if_neg (f 35 hb.2.2.2.2)]
  rintro (e | e | e)
  · exact f 32 hb.2.1 e
  · exact f 9 hb.2.2.1 e
  · exact f 13 hb.2.2.2.1 e
theorem mid_end (h : MidAt false S i) (hi : ¬ i < S.size) (hle : i ≤ S.size) : BlankAt S.data.toList i := by
  refine ⟨by rw [byteArray_len]; omega, fun p => ?_⟩
  rw [h p, List.drop_eq_nil_of_le (by rw [byteArray_len]; omega)]
  simp [skipV]
end

set_option maxHeartbeats 4000000 in
set_option maxRecDepth 100000 in
theorem blankR_c (S : ByteArray) (hS : S.size ≤ 65536) (w : World) : Calls Tryz.prog 113 #[.string S] w fun e w' => (∃ n : Nat, e = .returned (.int .i64 n) ∧ BlankAt S.data.toList n) ∧ w' = w := by
  go_enter Tryz.func113, Tryz.ntmps113
  go_wp2
  go_loop [3] (fun i => ∃ k : Nat, k ≤ S.size ∧ i = .int .i64 k ∧ Hid (MidAt false S k)) (fun i => S.size - (intOf i).toNat)
  case atStart => exact ⟨0, Nat.zero_le _, rfl, mid_start⟩
  case round =>
    obtain ⟨k, hk, rfl, hm⟩ := hrel
    by_cases hlt : k < S.size
    · have hltI : (k : Int) < (S.size : Int) := by omega
      by_cases b1 : S[k].toNat = 35
      · have p1 : ((S[k].toNat : Int) == 35) = true := by simp; omega
        have hm1 := hideP (mid_remark hm.out hlt b1)
        have HB1 := hideP b1
        clear b1
        go_wp2
        go_loop [3] (fun i => ∃ m : Nat, k ≤ m ∧ m ≤ S.size ∧ i = .int .i64 m ∧ Hid (MidAt true S m)) (fun i => S.size - (intOf i).toNat)
        case atStart => exact ⟨k, Nat.le_refl _, hk, rfl, hm1⟩
        case round =>
          obtain ⟨m, hkm, hmS, rfl, hmm⟩ := hrel
          by_cases hltm : m < S.size
          · have hltmI : (m : Int) < (S.size : Int) := by omega
            by_cases b2 : S[m].toNat = 10
            · have p2 : ((S[m].toNat : Int) != 10) = false := by simp; omega
              have hm2 := hideP (mid_off hmm.out hltm b2)
              have hkm2 : k < m := by
                by_cases e : m = k
                · subst e
                  have := HB1.out
                  omega
                · omega
              clear b2
              go_wp2
              go_round
              case rel => exact ⟨m, hmS, rfl, hm2⟩
              case measure => simp [intOf]; omega
            · have p2 : ((S[m].toNat : Int) != 10) = true := by simp; omega
              have hm2 := hideP (mid_on hmm.out hltm b2)
              clear b2
              go_wp2
              go_round
              case rel => exact ⟨m + 1, by omega, by omega, by go_num, hm2⟩
              case measure => simp [intOf]; omega
          · have hltmI : ¬ (m : Int) < (S.size : Int) := by omega
            have hm2 := hideP (mid_out hmm.out hltm)
            go_wp2
            go_round
            case rel => exact ⟨m, hmS, rfl, hm2⟩
            case measure => simp [intOf]; omega
      have n1 : ((S[k].toNat : Int) == 35) = false := by simp; omega
      by_cases b2 : S[k].toNat = 32 ∨ S[k].toNat = 9 ∨ S[k].toNat = 10 ∨ S[k].toNat = 13
      · have hm2 := hideP (mid_blank hm.out hlt b2)
        have b2' : ((S[k].toNat : Int) != 32) = false ∨ (((S[k].toNat : Int) != 32) = true ∧ ((S[k].toNat : Int) != 9) = false) ∨ (((S[k].toNat : Int) != 32) = true ∧ ((S[k].toNat : Int) != 9) = true ∧ ((S[k].toNat : Int) != 10) = false) ∨
            (((S[k].toNat : Int) != 32) = true ∧ ((S[k].toNat : Int) != 9) = true ∧ ((S[k].toNat : Int) != 10) = true ∧ ((S[k].toNat : Int) != 13) = false) := by simp; omega
        clear b2 b1
        rcases b2' with p1 | ⟨p1, p2⟩ | ⟨p1, p2, p3⟩ | ⟨p1, p2, p3, p4⟩
        all_goals
          go_wp2
          go_round
          case rel => exact ⟨k + 1, by omega, by go_num, hm2⟩
          case measure => simp [intOf]; omega
      · have hst := hideP (mid_stay hm.out hlt ⟨by omega, by omega, by omega, by omega, b1⟩)
        have p1 : ((S[k].toNat : Int) != 32) = true := by simp; omega
        have p2 : ((S[k].toNat : Int) != 9) = true := by simp; omega
        have p3 : ((S[k].toNat : Int) != 10) = true := by simp; omega
        have p4 : ((S[k].toNat : Int) != 13) = true := by simp; omega
        clear b1 b2
        go_wp2
        go_ret
        exact ⟨⟨k, rfl, hst.out⟩, rfl⟩
    · have hst := hideP (mid_end hm.out hlt hk)
      go_wp2
      go_ret
      exact ⟨⟨k, rfl, hst.out⟩, rfl⟩
end Go.Proofs.YtfjlkkohccihnabGreatDoor.Lx

/- gradusref02.Lex by a contract: the same as lex.Lex's. -/
namespace Go.Proofs.YtfjlkkohccihnabGreatDoor.Lx
open Go.RowKit

/-- Ahead of the blanks: 'rest' is left, the tokens acc are there: the text's tokens are R. -/
def LexHd (R : Lx) (rest : List UInt8) (p : Nat × Nat) (acc : List Tok) : Prop := ∃ r q, skipV false rest p.1 p.2 = (r, q) ∧ LexAt R r q.1 q.2 acc

theorem lexHd_start {l : List UInt8} (hl : l.length ≤ 65536) : LexHd (lexV l) l (1, 1) [] :=
  ⟨(skipV false l 1 1).1, (skipV false l 1 1).2, rfl, lexAt_start hl rfl⟩

theorem lexHd_at {R : Lx} {rest : List UInt8} {p : Nat × Nat} {acc : List Tok} {n : Nat} (h : LexHd R rest p acc) (hb : BlankAt rest n) : LexAt R (rest.drop n) (placeV (rest.take n) p).1 (placeV (rest.take n) p).2 acc := by
  obtain ⟨r, q, hs, hat⟩ := h
  rw [hb.2 p] at hs
  injection hs with h1 h2
  rw [h1, h2]
  exact hat

theorem lexHd_tok {R : Lx} {rest t r2 : List UInt8} {li co : Nat} {acc : List Tok} {k : Int} (h : LexAt R rest li co acc) (hr : rest ≠ []) (he : readV rest = .tok k t r2) (hn : acc.length ≠ 8192) : LexHd R r2 (li, co + (rest.length - r2.length)) (acc ++ [⟨k, t, li, co⟩]) :=
  ⟨_, _, rfl, lexAt_tok h hr he hn rfl⟩

theorem extract_end (S : ByteArray) (k : Nat) : (S.extract k S.size).data.toList = S.data.toList.drop k := by
  rw [extract_eq]
  exact List.take_of_length_le (by rw [List.length_drop, byteArray_len]; omega)

theorem extract_endS (S : ByteArray) (k : Nat) : (S.extract k S.size).size = S.size - k := by
  rw [← byteArray_len, extract_end, List.length_drop, byteArray_len]

theorem place_dropS {S : ByteArray} {k m : Nat} (hm : k + m < S.size) (p : Nat × Nat) : placeV ((S.data.toList.drop k).take (m + 1)) p = stepP (placeV ((S.data.toList.drop k).take m) p) S[k + m] := by
  have h : m < (S.data.toList.drop k).length := by rw [List.length_drop, byteArray_len]; omega
  rw [List.take_succ_eq_append_getElem h, placeV_append]
  have e : (S.data.toList.drop k)[m] = S[k + m] := by
    rw [List.getElem_drop]
    rfl
  rw [e]
  rfl

/-- What of the call's own memory stays through a round: the Diag, the tokens so far. -/
structure CoreR (w wr : World) (v : Value) (acc : List Tok) : Prop where
  dg : DiagB wr w.heap.size 0 0 0
  bl : Below w.heap.size w wr
  ow : wr.ownsRow (w.heap.size + 1) 108 4 v acc.length (tokCells acc)
  sz : w.heap.size < wr.heap.size

section
variable {w wr wr' : World} {v : Value} {acc : List Tok}
theorem CoreR.next (h : CoreR w wr v acc) (hb : Below wr.heap.size wr wr') : CoreR w wr' v acc where
  dg := by
    unfold DiagB
    rw [hb.block _ h.sz]
    exact h.dg
  bl := h.bl.trans (hb.mono h.bl.size)
  ow := by
    obtain ⟨h1, h2⟩ := h.ow
    refine ⟨h1, ?_⟩
    rcases h2 with h2 | ⟨g, cap, cur, rfl, hg, hh, r⟩
    · exact .inl h2
    · refine .inr ⟨g, cap, cur, rfl, hg, ?_, r⟩
      rw [hb.block g (lt_of_block hh)]
      exact hh
  sz := Nat.lt_of_lt_of_le h.sz hb.size

theorem CoreR.app (h : CoreR w wr v acc) {ob : Obj} {v' : Value} {w1 : World} {t : Tok} (ho : w1.ownsRow (w.heap.size + 1) 108 4 v' (acc.length + 1) (tokCells acc ++ Tok.cells t)) (hg : (wr.alloc ob).grownBy w1 v.ownBlock) : CoreR w w1 v' (acc ++ [t]) := by
  have hsz := h.sz
  refine ⟨?_, ?_, ?_, ?_⟩
  · unfold DiagB
    rw [hg.block _ (by simp; omega) (fun e => by have := (own_lt h.ow _ e.symm).1; omega), heap_alloc_old _ _ hsz]
    exact h.dg
  · refine (h.bl.alloc h.bl.size _).grown hg (by have := h.bl.size; simp; omega) fun j hj => ?_
    have := (own_lt h.ow _ hj).1
    omega
  · rw [List.length_append, tokCells_snoc]
    exact ho
  · have := hg.size
    simp at this
    omega
end

theorem tok_newN (W : World) (t : Tok) (ty : TypeId) {n : Nat} (hn : W.heap.size = n) : ∀ j u, (Tok.cells t)[j]? = some u → (W.alloc (.cells #[.int .i64 t.kind, .string ⟨t.text.toArray⟩, .int .i64 t.line, .int .i64 t.col] ty)).cell? ((⟨n, 0, none⟩ : Addr).add j) = some u := by
  subst hn
  exact tok_new W t ty

set_option maxHeartbeats 4000000 in
set_option maxRecDepth 100000 in
theorem lexR_long (S : ByteArray) (hS : 65536 < S.size) (hS2 : S.size ≤ 140737488351232) (w : World) :
    Calls Tryz.prog 58 #[.string S] w (LexPost w (.bad 2 1 1)) := by
  go_enter Tryz.func58, Tryz.ntmps58
  go_wp2
  refine bodyPost_ret (results_tmp_cell rfl _ rfl (heap_alloc_last w _) Tryz.underlying30 diag_size) rfl ?_
  exact ⟨(Below.refl _ w).alloc (Nat.le_refl _) _, rfl⟩

set_option maxHeartbeats 8000000 in
set_option maxRecDepth 100000 in
theorem lexR_short (S : ByteArray) (hS : S.size ≤ 65536) (w : World) :
    Calls Tryz.prog 58 #[.string S] w (LexPost w (lexV S.data.toList)) := by
  obtain ⟨R, hR⟩ : ∃ R, R = lexV S.data.toList := ⟨_, rfl⟩
  rw [← hR]
  have hst : Hid (LexHd R (S.data.toList.drop 0) (1, 1) []) := by
    rw [hR, List.drop_zero]
    exact lexHd_start (by rw [byteArray_len]; exact hS)
  clear hR
  obtain ⟨i0, hi, hz0, hz1, hz2⟩ := info_parts info_tok
  have hcore : Hid (CoreR w (w.alloc (.cells #[.int .i64 0, .int .i64 0, .int .i64 0, .int .i64 0] 30)) (.slice none 0 0) []) :=
    ⟨heap_alloc_last w _, bl_alloc w _, World.ownsRow_nil _ _ _ _, by simp⟩
  go_enter Tryz.func58, Tryz.ntmps58
  go_wp2
  go_loopw [4, 5, 6, 7] (fun v a b c wr => ∃ (k li co : Nat) (acc : List Tok), Hid (CoreR w wr v acc) ∧ k ≤ S.size ∧ li ≤ k + 1 ∧ co ≤ k + 1 ∧ acc.length ≤ 8192 ∧ a = .int .i64 li ∧ b = .int .i64 co ∧ c = .int .i64 k ∧ Hid (LexHd R (S.data.toList.drop k) (li, co) acc)) (fun _ _ _ c _ => S.size - (intOf c).toNat)
  case atStart => exact ⟨0, 1, 1, [], hcore, Nat.zero_le _, by omega, by omega, by simp, rfl, rfl, rfl, hst⟩
  case round =>
    clear hcore hst
    obtain ⟨k, li, co, acc, hco, hk, hli, hcol, hal, rfl, rfl, rfl, hhd⟩ := hrel
    obtain ⟨a, cap, rfl⟩ := owns_shape hco.out.ow
    have hbc := blankR_c (S.extract k S.size) (by rw [extract_endS]; omega)
    rw [extract_end] at hbc
    have HBC := hideP hbc
    have kI : (k : Int) ≤ (S.size : Int) := by omega
    clear hbc
    go_wp2_with fail
    refine (HBC.out _).mono ?_
    rintro e w' ⟨⟨n, rfl, hbl⟩, rfl⟩
    have hnl := hbl.1
    rw [List.length_drop, byteArray_len] at hnl
    have HAT := hideP (lexHd_at hhd.out hbl)
    rw [List.drop_drop] at HAT
    clear hbl hhd HBC
    go_wp2
    go_loop [5, 6, 9] (fun a b c => ∃ (m l2 c2 : Nat), m ≤ n ∧ l2 ≤ k + m + 1 ∧ c2 ≤ k + m + 1 ∧ c = .int .i64 ((k + m : Nat) : Int) ∧ a = .int .i64 l2 ∧ b = .int .i64 c2 ∧ Hid (placeV ((S.data.toList.drop k).take m) (li, co) = (l2, c2))) (fun _ _ c => k + n - (intOf c).toNat)
    case atStart => exact ⟨0, li, co, Nat.zero_le _, by omega, by omega, rfl, rfl, rfl, rfl⟩
    case round =>
      obtain ⟨m, l2, c2, hm, hl2, hc2, rfl, rfl, rfl, hpm⟩ := hrel
      by_cases hmn : m < n
      · have hkm : k + m < S.size := by omega
        have hI : (k : Int) + (m : Int) < (S.size : Int) := by omega
        have hJ : (k : Int) + (m : Int) < (k : Int) + (n : Int) := by omega
        have hstep := place_dropS hkm (li, co)
        rw [hpm.out] at hstep
        unfold stepP at hstep
        simp only at hstep
        by_cases h10 : S[k + m].toNat = 10
        · have e10 : S[k + m] = 10 := UInt8.toNat_inj.1 h10
          rw [if_pos e10] at hstep
          have p10 : ((S[k + m].toNat : Int) == 10) = true := by simp; omega
          have HST := hideP hstep
          clear hstep e10 h10
          go_wp2
          refine ⟨⟨m + 1, l2 + 1, 1, by omega, by omega, by omega, by go_num, by go_num, by go_num, HST.out⟩, by simp [intOf]; omega⟩
        · have e10 : ¬ S[k + m] = 10 := fun e => h10 (by rw [e]; rfl)
          rw [if_neg e10] at hstep
          have p10 : ((S[k + m].toNat : Int) == 10) = false := by simp; omega
          have HST := hideP hstep
          clear hstep e10 h10
          go_wp2
          refine ⟨⟨m + 1, l2, c2 + 1, by omega, by omega, by omega, by go_num, by go_num, by go_num, HST.out⟩, by simp [intOf]; omega⟩
      · have hmn2 : m = n := by omega
        subst hmn2
        rw [hpm.out] at HAT
        have HAT2 : Hid (LexAt R (S.data.toList.drop (k + m)) l2 c2 acc) := HAT.out
        have hJ : ¬ (k : Int) + (m : Int) < (k : Int) + (m : Int) := by omega
        clear hpm HAT
        by_cases hlt : k + m < S.size
        · have hI : ¬ (S.size : Int) ≤ (k : Int) + (m : Int) := by omega
          have hI2 : (k : Int) + (m : Int) ≤ (S.size : Int) := by omega
          have htc := tokenR_c (S.extract (k + m) S.size) (by rw [extract_endS]; omega) (by rw [extract_endS]; omega)
          rw [extract_end] at htc
          have HTC := hideP htc
          have HNE : Hid (S.data.toList.drop (k + m) ≠ []) := by
            rw [byteArray_drop S (k + m) hlt]
            exact List.cons_ne_nil _ _
          clear htc
          go_wp2_with fail
          refine (HTC.out _).mono ?_
          intro e w2 hp
          have HP := hideP hp
          clear hp HTC
          cases hrd : readV (S.data.toList.drop (k + m)) with
          | inl x =>
            have hp := HP.out
            rw [hrd] at hp
            obtain ⟨hb2, hx, rfl⟩ := hp
            have hbad := lexAt_bad HAT2.out HNE.out hrd
            have hcoc := hco.out.next (below_next hb2 (bl_alloc w2 (.cells #[.int .i64 0, .string { data := #[] }, .int .i64 0, .int .i64 0] 108)))
            have hdg := hideP hcoc.dg
            have hbl := hideP hcoc.bl
            have g0 := hcoc.dg.c 0 (by omega)
            have g1 := hcoc.dg.c 1 (by omega)
            have g2 := hcoc.dg.c 2 (by omega)
            have g3 := hcoc.dg.c 3 (by omega)
            simp only [List.getD_cons_zero, List.getD_cons_succ] at g0 g1 g2 g3
            have z0 := hcoc.dg.fz 0
            have z1 := hcoc.dg.fz 1
            have z2 := hcoc.dg.fz 2
            have z3 := hcoc.dg.fz 3
            have x0 : (x == 0) = false := by simpa using hx
            have x1 : (x != 0) = true := by simpa using hx
            subst hbad
            clear hrd HP hb2 hcoc HAT2 HNE hx
            go_wp2
            refine bodyPost_ret (results_tmp_cell rfl _ rfl (hdg.out.set _ _ _) Tryz.underlying30 diag_size) rfl ?_
            exact ⟨below_diag hbl.out _ _ _ _, rfl⟩
          | inr q =>
            obtain ⟨kd, t, rest⟩ := q
            have hp := HP.out
            rw [hrd] at hp
            obtain ⟨hb2, n2, hn0, hn2, hrest, rfl⟩ := hp
            rw [extract_endS] at hn2
            rw [extract_end, List.drop_drop] at hrest
            have HREST := hideP hrest
            have HRD := hideP hrd
            have HB2 := hideP hb2
            clear hrest hrd hb2 HP
            by_cases hmany : acc.length = 8192
            · have hm1 : ((acc.length : Int) == 8192) = true := by simp; omega
              have hbad := lexAt_many HAT2.out HNE.out HRD.out hmany
              have hcoc := hco.out.next (below_next HB2.out (bl_alloc w2 (.cells #[.int .i64 kd, .string ⟨t.toArray⟩, .int .i64 0, .int .i64 0] 108)))
              have hdg := hideP hcoc.dg
              have hbl := hideP hcoc.bl
              have g0 := hcoc.dg.c 0 (by omega)
              have g1 := hcoc.dg.c 1 (by omega)
              have g2 := hcoc.dg.c 2 (by omega)
              have g3 := hcoc.dg.c 3 (by omega)
              simp only [List.getD_cons_zero, List.getD_cons_succ] at g0 g1 g2 g3
              have z0 := hcoc.dg.fz 0
              have z1 := hcoc.dg.fz 1
              have z2 := hcoc.dg.fz 2
              have z3 := hcoc.dg.fz 3
              subst hbad
              clear hcoc HAT2 HNE HRD HREST hmany
              go_wp2
              refine bodyPost_ret (results_tmp_cell rfl _ rfl (hdg.out.set _ _ _) Tryz.underlying30 diag_size) rfl ?_
              exact ⟨below_diag hbl.out _ _ _ _, rfl⟩
            · have hm1 : ((acc.length : Int) == 8192) = false := by simp; omega
              have hcoc := hideP (hco.out.next (below_next HB2.out (bl_alloc w2 (.cells #[.int .i64 kd, .string ⟨t.toArray⟩, .int .i64 l2, .int .i64 c2] 108))))
              go_wp2_with (at_builtin; refine wpList_append_own _ rfl (.tmp 76) (.tmp 78) 97 rfl (w.heap.size + 1) 108 i0 _ 4 40 Tryz.underlying97 hi hz0 hz1 hz2 rfl (by decide) _ _ _ rfl (hcoc.out.ow.alloc _) ⟨_, 0, none⟩ 1 1 (Tok.cells ⟨kd, t, l2, c2⟩) rfl rfl (tok_newN _ ⟨kd, t, l2, c2⟩ 108 (World.size_alloc _ _)) (tok_one _) (by unfold maxLen; omega) (by omega) (by have h1 := hcoc.out.sz; rw [World.size_alloc] at h1; rw [World.size_alloc, World.size_alloc]; omega) ?_)
              intro v' w3 hown' hgrow _
              have hal2 : acc.length + 1 ≤ 8192 := by omega
              have HCO3 := hideP (hcoc.out.app (t := ⟨kd, t, l2, c2⟩) hown' hgrow)
              have hhd := lexHd_tok HAT2.out HNE.out HRD.out hmany
              rw [HREST.out, List.length_drop, List.length_drop, byteArray_len, show S.size - (k + m) - (S.size - (k + m + n2)) = n2 from by omega] at hhd
              have HHD := hideP hhd
              clear hown' hgrow hhd hcoc HAT2 HNE HRD HREST hmany
              go_wp2
              refine ⟨⟨k + m + n2, l2, c2 + n2, acc ++ [⟨kd, t, l2, c2⟩], HCO3, by omega, by omega, by omega, by simp; omega, rfl, by go_num, by go_num, HHD⟩, by simp [intOf]; omega⟩
        · have hnil : S.data.toList.drop (k + m) = [] := List.drop_eq_nil_of_le (by rw [byteArray_len]; omega)
          have hend := HAT2.out
          rw [hnil] at hend
          have HEND := hideP (lexAt_end hend)
          have hI : (S.size : Int) ≤ (k : Int) + (m : Int) := by omega
          clear hnil hend HAT2
          go_wp2_with (at_builtin; refine wpList_append_own _ rfl (.tmp 44) (.tmp 48) 97 rfl (w.heap.size + 1) 108 i0 _ 4 40 Tryz.underlying97 hi hz0 hz1 hz2 rfl (by decide) _ _ _ rfl (hco.out.ow.alloc _) ⟨_, 0, none⟩ 1 1 (Tok.cells ⟨0, [], l2, c2⟩) rfl rfl (tok_new _ ⟨0, [], l2, c2⟩ 108) (tok_one _) (by unfold maxLen; omega) (by omega) (by have := hco.out.sz; simp; omega) ?_)
          intro v' w3 hown' hgrow _
          have hco3 := hco.out.app (t := ⟨0, [], l2, c2⟩) hown' hgrow
          have hdg := hideP hco3.dg
          have hbl := hideP hco3.bl
          obtain ⟨g, cap', rfl⟩ : ∃ g cap', v' = .slice (some ⟨g, 0, none⟩) (acc.length + 1) cap' := by
            rcases hown'.2 with ⟨_, h0⟩ | ⟨g, cap', cur, h1, _⟩
            · omega
            · exact ⟨g, cap', h1⟩
          have hgb := (own_lt hown' g rfl).1
          have how := hideP hco3.ow
          have g0 := hco3.dg.c 0 (by omega)
          have g1 := hco3.dg.c 1 (by omega)
          have g2 := hco3.dg.c 2 (by omega)
          have g3 := hco3.dg.c 3 (by omega)
          simp only [List.getD_cons_zero, List.getD_cons_succ] at g0 g1 g2 g3
          have z0 := hco3.dg.fz 0
          have z1 := hco3.dg.fz 1
          have z2 := hco3.dg.fz 2
          have z3 := hco3.dg.fz 3
          clear hown' hgrow hco3
          go_wp2
          refine bodyPost_ret (results_tmp_cell rfl _ rfl (hdg.out.set _ _ _) Tryz.underlying30 diag_size) rfl ?_
          rw [HEND.out]
          refine ⟨below_diag hbl.out _ _ _ _, g, cap', ?_, ?_⟩
          · simp [diagA]
          · have ho := owns_lower how.out (show w.heap.size ≤ w.heap.size + 1 by omega)
            rw [List.length_append] at ho ⊢
            have hne : ∀ o, (Value.slice (some ⟨g, 0, none⟩) (acc.length + 1) cap').ownBlock ≠ some (⟨w.heap.size, o, none⟩ : Addr).block := fun o e => by
              simp [Value.ownBlock] at e
              omega
            exact ownsRow_setCell_other (ownsRow_setCell_other (ownsRow_setCell_other (ownsRow_setCell_other ho (hne 0) _) (hne 1) _) (hne 2) _) (hne 3) _

theorem lexR_c (S : ByteArray) (hS : S.size ≤ 140737488351232) (w : World) : Calls Tryz.prog 58 #[.string S] w (LexPost w (lexV S.data.toList)) := by
  by_cases h : S.size ≤ 65536
  · exact lexR_short S h w
  · rw [lexV, if_pos (by rw [byteArray_len]; omega)]
    exact lexR_long S (by omega) hS w
end Go.Proofs.YtfjlkkohccihnabGreatDoor.Lx

/- The reference's parser of a whole text: begun. -/
namespace Go.Proofs.YtfjlkkohccihnabGreatDoor
open Go.RowKit

/-- What begun leaves. -/
def BegP (w : World) (R : List Tok ⊕ (Int × Nat × Nat)) (e : Ending) (w' : World) : Prop :=
  Below w.heap.size w w' ∧ match R with
  | .inr (x, li, co) => ∃ pb, e = .returned (.tuple #[.pointer (some ⟨pb, 0, none⟩), diagV li co x])
  | .inl ts => ∃ pb g cap, e = .returned (.tuple #[.pointer (some ⟨pb, 0, none⟩), diagV 0 0 0]) ∧ w.heap.size ≤ pb ∧ RAt w' pb g cap ts 0 (.inl 0)

/-- What lex left, in one form. -/
def LexF (lo : Nat) (w' : World) (ga : Option Addr) (gl li co : Nat) (x : Int) : List Tok ⊕ (Int × Nat × Nat) → Prop
  | .inr p => p = (x, li, co)
  | .inl ts => ∃ g, ga = some ⟨g, 0, none⟩ ∧ gl = ts.length ∧ li = 0 ∧ co = 0 ∧ x = 0 ∧ ToksC w' g ts ∧ g < w'.heap.size ∧ lo ≤ g
theorem lexPost_row {w : World} {R : List Tok ⊕ (Int × Nat × Nat)} {e : Ending} {w' : World} (h : Lx.LexPost w R e w') : Below w.heap.size w w' ∧ ∃ (ga : Option Addr) (gl gc li co : Nat) (x : Int), e = .returned (.tuple #[.slice ga gl gc, diagV li co x]) ∧ LexF w.heap.size w' ga gl li co x R := by
  obtain ⟨hb, hm⟩ := h
  refine ⟨hb, ?_⟩
  cases R with
  | inr p =>
    obtain ⟨x, li, co⟩ := p
    exact ⟨none, 0, 0, li, co, x, hm, rfl⟩
  | inl ts =>
    obtain ⟨g, cap, he, hown⟩ := hm
    have := hown.lt g rfl
    exact ⟨some ⟨g, 0, none⟩, ts.length, cap, 0, 0, 0, he, g, rfl, rfl, rfl, rfl, rfl, toksC_of hown, this.2, this.1⟩

abbrev dgO (li co : Nat) (x : Int) : Obj := .cells #[.int .i64 0, .int .i64 li, .int .i64 co, .int .i64 x] 30

set_option maxRecDepth 100000 in
set_option maxHeartbeats 4000000 in
theorem rbegun_c (S : ByteArray) (hS : S.size ≤ 140737488351232) (w : World) :
    Calls Tryz.prog 24 #[.string S] w (BegP w (lexV S.data.toList)) := by
  have HX := hideP (fun wx => Lx.lexR_c S hS wx)
  obtain ⟨R, hR⟩ : ∃ R, R = lexV S.data.toList := ⟨_, rfl⟩
  rw [← hR] at HX ⊢
  have HR := hideP hR
  clear hR
  go_enter Tryz.func24, Tryz.ntmps24
  go_wp2_with fail
  refine (HX.out _).mono ?_
  intro e w2 hpost
  obtain ⟨hb2, ga, gl, gc, li, co, x, rfl, hm⟩ := lexPost_row hpost
  have HB2 := hideP hb2
  have HM := hideP hm
  have HD0 : Hid (w2.heap[w.heap.size]? = some zDgO) := (hb2.block _ (by simp)).trans (heap_alloc_last _ _)
  clear hpost hb2 hm
  have HB3 : Hid (Below w.heap.size w (w2.alloc (dgO li co x))) := below_next (below_next (bl_alloc _ _) HB2.out) (bl_alloc _ _)
  have HD3 : Hid ((w2.alloc (dgO li co x)).heap[w2.heap.size]? = some (dgO li co x)) := heap_alloc_last _ _
  have HD1 : Hid ((w2.alloc (dgO li co x)).heap[w.heap.size]? = some zDgO) := (Below.heap_alloc _ _ _ (lt_of_block HD0.out)).trans HD0.out
  have HM3 : Hid (LexF (w.heap.size + 1) (w2.alloc (dgO li co x)) ga gl li co x R) := by
    have := HM.out
    cases R with
    | inr p => exact this
    | inl ts =>
      obtain ⟨g, h1, h2, h3, h4, h5, h6, h7, h8⟩ := this
      exact ⟨g, h1, h2, h3, h4, h5, toksC_keep h6 (Below.heap_alloc _ _ _ h7), by rw [World.size_alloc]; omega, by rw [World.size_alloc] at h8; omega⟩
  have hlt0 : w.heap.size < w2.heap.size := lt_of_block HD0.out
  go_wp2_with fail
  obtain ⟨db, hdb⟩ : ∃ db, db = w2.heap.size := ⟨_, rfl⟩
  rw [← hdb] at HD3 hlt0 ⊢
  clear hdb HM HD0 HB2
  generalize w2.alloc (dgO li co x) = W2 at HB3 HD3 HD1 HM3 ⊢
  have hl2 := lt_of_block HD3.out
  have HS0 : Hid (∀ W : World, W.heap[db]? = some (dgO li co x) → W.cell? ⟨db, 0, none⟩ = some (.int .i64 0) ∧ W.cell? ⟨db, 1, none⟩ = some (.int .i64 li) ∧ W.cell? ⟨db, 2, none⟩ = some (.int .i64 co) ∧ W.cell? ⟨db, 3, none⟩ = some (.int .i64 x)) := fun W h => (res_facts h).1
  have hSS := HS0.out W2 HD3.out
  have hl0 := lt_of_block HD1.out
  obtain ⟨⟨r0, r1, r2, r3⟩, ⟨f0, f1, f2, f3⟩, hrl⟩ := res_facts HD1.out
  obtain ⟨s0, s1, s2, s3⟩ := hSS
  go_region
  go_wp2_with fail
  have hbx := set4 HD1.out (.int .i64 0) (.int .i64 li) (.int .i64 co) (.int .i64 x)
  have hsz : ((((W2.setCell ⟨w.heap.size, 0, none⟩ (.int .i64 0)).setCell ⟨w.heap.size, 1, none⟩ (.int .i64 li)).setCell ⟨w.heap.size, 2, none⟩ (.int .i64 co)).setCell ⟨w.heap.size, 3, none⟩ (.int .i64 x)).heap.size = W2.heap.size := size_set4 ..
  refine bodyPost_ret (Lx.results_tmp_cell rfl _ rfl ((Below.heap_alloc _ _ _ (by rw [hsz]; exact hl0)).trans hbx) Tryz.underlying30 (by kernel_rfl)) rfl ?_
  refine ⟨((below_set4 HB3.out (Nat.le_refl _) _ _ _ _).alloc (by rw [hsz]; exact HB3.out.size) _).drew, ?_⟩
  have HM4 := HM3.out
  have HRo := HR.out
  cases R with
  | inr p =>
    obtain rfl : p = (x, li, co) := HM4
    exact ⟨_, rfl⟩
  | inl ts =>
    obtain ⟨g, rfl, rfl, rfl, rfl, rfl, h6, h7, h8⟩ := HM4
    have ok := lex_toks HRo.symm
    have hgn : g ≠ w.heap.size := by omega
    refine ⟨W2.heap.size, g, gc, rfl, by have := HB3.out.size; omega, 0, ?_, ok.pos, (fun b e => Sum.inl.inj e.symm), (fun _ e => nomatch e), h7, ?_⟩
    · have := heap_alloc_last ((((W2.setCell ⟨w.heap.size, 0, none⟩ (.int .i64 0)).setCell ⟨w.heap.size, 1, none⟩ (.int .i64 ((0 : Nat) : Int))).setCell ⟨w.heap.size, 2, none⟩ (.int .i64 ((0 : Nat) : Int))).setCell ⟨w.heap.size, 3, none⟩ (.int .i64 0)) (rpO g ts.length gc 0 0 0 0 0)
      rw [hsz] at this
      exact this
    · exact toksC_keep h6 ((Below.heap_alloc _ _ _ (by rw [hsz]; exact h7)).trans (other_set4 hgn _ _ _ _))
end Go.Proofs.YtfjlkkohccihnabGreatDoor

/- The reference's whole text that is one type: gradusref05.Type. -/
namespace Go.Proofs.YtfjlkkohccihnabGreatDoor
open Go.RowKit

/-- How the reference ends, and what that says. -/
theorem end_done {α : Type} (ts : List Tok) (R : Pr α) : (∃ x b, R = .inl (x, b) ∧ endS ts (stP R) = .inl b ∧ doneA (endA ts R) = .inl x) ∨ ∃ p, endS ts (stP R) = .inr p ∧ doneA (endA ts R) = .inr p := by
  cases R with
  | inr p => exact .inr ⟨p, rfl, rfl⟩
  | inl q =>
    obtain ⟨x, b⟩ := q
    by_cases h : ((tkA ts b).kind == 0) = true
    · refine .inl ⟨x, b, rfl, if_pos h, ?_⟩
      show doneA (if (tkA ts b).kind == 0 then .inl (x, b) else badA ts 7 b) = _
      rw [if_pos h]
      rfl
    · refine .inr ⟨(7, (tkA ts b).line, (tkA ts b).col), if_neg h, ?_⟩
      show doneA (if (tkA ts b).kind == 0 then .inl (x, b) else badA ts 7 b) = _
      rw [if_neg h]
      rfl

set_option maxRecDepth 100000 in
set_option maxHeartbeats 4000000 in
theorem rType_c (S : ByteArray) (hS : S.size ≤ 140737488351232) (w : World) :
    Calls Tryz.prog 13 #[.string S] w (WPost w zTy TyE (typeTextV S.data.toList)) := by
  go_enter Tryz.func13, Tryz.ntmps13
  go_wp2_with fail
  refine (rbegun_c S hS _).mono ?_
  intro e w2 hpost
  obtain ⟨hb2, hm⟩ := hpost
  have HB2 : Hid (Below w.heap.size w w2) := below_next (below_next (bl_alloc _ _) (bl_alloc _ _)) hb2
  have HA0 : Hid (w2.heap[w.heap.size]? = some zTyO) := (hb2.block _ (by rw [World.size_alloc, World.size_alloc]; omega)).trans ((Below.heap_alloc _ _ _ (by rw [World.size_alloc]; omega)).trans (heap_alloc_last w _))
  have HD0 : Hid (w2.heap[w.heap.size + 1]? = some zDgO) := (hb2.block _ (by rw [World.size_alloc, World.size_alloc]; omega)).trans (heap_at1 w _ _)
  have hs2 : w.heap.size + 2 ≤ w2.heap.size := lt_of_block HD0.out
  clear hb2
  rw [World.size_alloc, World.size_alloc] at hm
  cases hl : lexV S.data.toList with
  | inr p =>
    obtain ⟨x, li, co⟩ := p
    rw [hl] at hm
    obtain ⟨pb, rfl⟩ := hm
    have hx0 : (x != 0) = true := by simpa using lex_err hl
    have HE : Hid (typeTextV S.data.toList = .inr (x, li, co)) := by show _ = _; unfold typeTextV; rw [hl]
    have HAw := hideP ((Below.heap_alloc w2 (dgO li co x) _ (lt_of_block HA0.out)).trans HA0.out)
    have HDw := hideP ((Below.heap_alloc w2 (dgO li co x) _ (lt_of_block HD0.out)).trans HD0.out)
    have HGw := hideP (heap_alloc_last w2 (dgO li co x))
    have HBw := hideP (below_next HB2.out (bl_alloc w2 (dgO li co x)))
    clear hl
    go_wp2_with fail
    obtain ⟨db, hdb⟩ : ∃ db, db = w2.heap.size := ⟨_, rfl⟩
    rw [← hdb] at HGw hs2 ⊢
    clear hdb HA0 HD0 HB2
    generalize w2.alloc (dgO li co x) = W2 at HAw HDw HGw HBw ⊢
    obtain ⟨⟨a0, a1, a2, a3⟩, ⟨z0, z1, z2, z3⟩, hla⟩ := res_facts HAw.out
    obtain ⟨⟨d0, d1, d2, d3⟩, ⟨g0, g1, g2, g3⟩, hld⟩ := res_facts HDw.out
    obtain ⟨⟨s0, s1, s2, s3⟩, _, hls⟩ := res_facts HGw.out
    have hne1 : ¬ db = w.heap.size := by omega
    have hne2 : ¬ db = w.heap.size + 1 := by omega
    go_region
    all_goals
      go_wp2_with fail
      have hga := (other_set4 (b := w.heap.size + 1) (i := w.heap.size) (by omega) (.int .i64 0) (.int .i64 li) (.int .i64 co) (.int .i64 x)).trans (set4 HAw.out (.int .i64 0) (.string ⟨#[]⟩) (.slice none 0 0) (.slice none 0 0))
      have hgd := set4 ((other_set4 (b := w.heap.size) (i := w.heap.size + 1) (by omega) (.int .i64 0) (.string ⟨#[]⟩) (.slice none 0 0) (.slice none 0 0)).trans HDw.out) (.int .i64 0) (.int .i64 li) (.int .i64 co) (.int .i64 x)
      refine bodyPost_ret (results_ccd rfl _ rfl hga Tryz.underlying36 ty_size rfl hgd Tryz.underlying30 (by kernel_rfl)) rfl ?_
      rw [HE.out]
      exact ⟨(below_set4 (below_set4 HBw.out (Nat.le_refl _) _ _ _ _) (by omega) _ _ _ _).drew, rfl⟩
  | inl ts =>
    rw [hl] at hm
    obtain ⟨pb, g, cap, rfl, hpb, hat⟩ := hm
    have OK := hideP (lex_toks hl)
    have HE := hideP (typeText_toks hl)
    have HPB := hideP hpb
    have HAT := hideP (hat.alloc (dgO 0 0 0))
    have hpl := hat.ltp
    have HAw := hideP ((Below.heap_alloc w2 (dgO 0 0 0) _ (lt_of_block HA0.out)).trans HA0.out)
    have HDw := hideP ((Below.heap_alloc w2 (dgO 0 0 0) _ (lt_of_block HD0.out)).trans HD0.out)
    have HGw := hideP (heap_alloc_last w2 (dgO 0 0 0))
    have HBw := hideP (below_next HB2.out (bl_alloc w2 (dgO 0 0 0)))
    have hf : ts.length ≤ (ts.length - 1) + 1 := by omega
    have HK := hideP (rkind_c pb g cap ts OK.out (ts.length - 1) hf 101 0 rfl (by omega) (.inl 0) _ HAT.out)
    have hf1 : ts.length - 1 + 1 = ts.length := by have := OK.out.pos; omega
    rw [hf1] at HK
    obtain ⟨RK, hRK⟩ : ∃ RK, RK = kindA ts ts.length 101 0 0 := ⟨_, rfl⟩
    have e0 : liftS (kindA ts ts.length 101 0) (.inl 0) = RK := hRK.symm
    rw [e0] at HK
    rw [← hRK] at HE
    clear hl hat hpb hf hf1 e0 hRK
    go_wp2_with fail
    obtain ⟨db, hdb⟩ : ∃ db, db = w2.heap.size := ⟨_, rfl⟩
    rw [← hdb] at HGw hs2 hpl ⊢
    clear hdb HA0 HD0 HB2
    generalize w2.alloc (dgO 0 0 0) = W2 at HAw HDw HGw HBw HAT HK ⊢
    refine HK.out.mono ?_
    rintro e w3 ⟨hst, hat, k1, nm1, na1, nl1, nc1, ka1, kl1, kc1, rfl, hv⟩
    have hs3 := hst.size
    have hlG := lt_of_block HGw.out
    have HV := hideP (hv.lower (show db + 1 ≤ W2.heap.size from hlG))
    have HST3 := hideP (hst.trans (Stay.of (Nat.lt_of_lt_of_le hpl (Nat.le_trans (Nat.le_of_lt hlG) hs3)) (bl_alloc w3 (tyO k1 nm1 na1 nl1 nc1 ka1 kl1 kc1))))
    have HAT3 := hideP (hat.alloc (tyO k1 nm1 na1 nl1 nc1 ka1 kl1 kc1))
    have HT3 := hideP (heap_alloc_last w3 (tyO k1 nm1 na1 nl1 nc1 ka1 kl1 kc1))
    have HV3 := hideP (HV.out.alloc (tyO k1 nm1 na1 nl1 nc1 ka1 kl1 kc1))
    clear hst hat hv HV HK HAT
    go_wp2_with fail
    obtain ⟨tb, htb⟩ : ∃ tb, tb = w3.heap.size := ⟨_, rfl⟩
    rw [← htb] at HT3 hs3 ⊢
    clear htb
    generalize w3.alloc (tyO k1 nm1 na1 nl1 nc1 ka1 kl1 kc1) = W3 at HST3 HAT3 HT3 HV3 ⊢
    refine (rend_c pb g cap 0 ts (stP RK) W3 HAT3.out).mono ?_
    rintro e w4 ⟨rfl, hst, hat⟩
    have hpB := HPB.out
    have HST4 := hideP (HST3.out.trans hst)
    have HA4 := hideP ((HST4.out.below.block _ (by omega)).trans HAw.out)
    have HD4 := hideP ((HST4.out.below.block _ (by omega)).trans HDw.out)
    have HG4 := hideP ((HST4.out.keep _ (by omega) hlG).trans HGw.out)
    have HT4 := hideP ((hst.keep _ (by omega) (lt_of_block HT3.out)).trans HT3.out)
    have HB4 : Hid (Below w.heap.size w w4) := HBw.out.trans (HST4.out.below.mono (by omega))
    have HV4 := hideP (HV3.out.stay hst (by omega))
    have HBad : Hid (∀ p, endS ts (stP RK) = .inr p → p.1 ≠ 0) := fun p e => by
      obtain ⟨a, ha⟩ := hat
      exact ha.bad p e
    clear hst hat HST3 HAT3 HT3 HV3 HAw HDw HGw HBw
    obtain ⟨⟨a0, a1, a2, a3⟩, ⟨z0, z1, z2, z3⟩, hla⟩ := res_facts HA4.out
    obtain ⟨⟨d0, d1, d2, d3⟩, ⟨g0, g1, g2, g3⟩, hld⟩ := res_facts HD4.out
    obtain ⟨⟨s0, s1, s2, s3⟩, ⟨y0, y1, y2, y3⟩, hls⟩ := res_facts HG4.out
    obtain ⟨⟨t0, t1, t2, t3⟩, ⟨v0, v1, v2, v3⟩, hlt⟩ := res_facts HT4.out
    have hne1 : ¬ db = w.heap.size := by omega
    have hne2 : ¬ db = w.heap.size + 1 := by omega
    have hne3 : ¬ tb = w.heap.size := by omega
    have hne4 : ¬ tb = w.heap.size + 1 := by omega
    have hne5 : ¬ tb = db := by omega
    rcases end_done ts RK with ⟨D, b, hR, he, hd⟩ | ⟨p, he, hd⟩
    · rw [he]
      have HE2 := hideP (HE.out.trans hd)
      have HR := hideP hR
      clear he hd hR
      simp only [lS, cS, eS]
      go_wp2_with fail
      go_region
      all_goals
        go_wp2_with fail
        have hdn : ((((w4.setCell ⟨db, 0, none⟩ (.int .i64 0)).setCell ⟨db, 1, none⟩ (.int .i64 0)).setCell ⟨db, 2, none⟩ (.int .i64 0)).setCell ⟨db, 3, none⟩ (.int .i64 0)).heap.size = w4.heap.size := size_set4 ..
        have hA5 := (other_set4 (w := w4) (b := db) (i := w.heap.size) (by omega) (.int .i64 0) (.int .i64 0) (.int .i64 0) (.int .i64 0)).trans HA4.out
        have hD5 := (other_set4 (w := w4) (b := db) (i := w.heap.size + 1) (by omega) (.int .i64 0) (.int .i64 0) (.int .i64 0) (.int .i64 0)).trans HD4.out
        have hga := (other_set4 (b := w.heap.size + 1) (i := w.heap.size) (by omega) (.int .i64 0) (.int .i64 0) (.int .i64 0) (.int .i64 0)).trans (set4 hA5 (.int .i64 k1) (.string nm1) (.slice na1 nl1 nc1) (.slice ka1 kl1 kc1))
        have hgd := set4 ((other_set4 (b := w.heap.size) (i := w.heap.size + 1) (by omega) (.int .i64 k1) (.string nm1) (.slice na1 nl1 nc1) (.slice ka1 kl1 kc1)).trans hD5) (.int .i64 0) (.int .i64 0) (.int .i64 0) (.int .i64 0)
        refine bodyPost_ret (results_ccd rfl _ rfl hga Tryz.underlying36 ty_size rfl hgd Tryz.underlying30 (by kernel_rfl)) rfl ?_
        rw [HE2.out]
        refine ⟨(below_set4 (below_set4 (below_set4 HB4.out (by omega) _ _ _ _) (Nat.le_refl _) _ _ _ _) (by omega) _ _ _ _).drew, _, rfl, ?_⟩
        exact ((((HV4.out D b HR.out).set4 (b := db) (by omega) _ _ _ _).set4 (b := w.heap.size) (by omega) _ _ _ _).set4 (b := w.heap.size + 1) (by omega) _ _ _ _).drew.lower (by omega)
    · rw [he]
      have HE2 := hideP (HE.out.trans hd)
      obtain ⟨er, li, co⟩ := p
      have hx0 : (er != 0) = true := by simpa using HBad.out _ he
      clear he hd
      simp only [lS, cS, eS]
      go_wp2_with fail
      go_region
      all_goals
        go_wp2_with fail
        have hA5 := (other_set4 (w := w4) (b := db) (i := w.heap.size) (by omega) (.int .i64 0) (.int .i64 li) (.int .i64 co) (.int .i64 er)).trans HA4.out
        have hD5 := (other_set4 (w := w4) (b := db) (i := w.heap.size + 1) (by omega) (.int .i64 0) (.int .i64 li) (.int .i64 co) (.int .i64 er)).trans HD4.out
        have hga := (other_set4 (b := w.heap.size + 1) (i := w.heap.size) (by omega) (.int .i64 0) (.int .i64 li) (.int .i64 co) (.int .i64 er)).trans (set4 hA5 (.int .i64 0) (.string ⟨#[]⟩) (.slice none 0 0) (.slice none 0 0))
        have hgd := set4 ((other_set4 (b := w.heap.size) (i := w.heap.size + 1) (by omega) (.int .i64 0) (.string ⟨#[]⟩) (.slice none 0 0) (.slice none 0 0)).trans hD5) (.int .i64 0) (.int .i64 li) (.int .i64 co) (.int .i64 er)
        refine bodyPost_ret (results_ccd rfl _ rfl hga Tryz.underlying36 ty_size rfl hgd Tryz.underlying30 (by kernel_rfl)) rfl ?_
        rw [HE2.out]
        exact ⟨(below_set4 (below_set4 (below_set4 HB4.out (by omega) _ _ _ _) (Nat.le_refl _) _ _ _ _) (by omega) _ _ _ _).drew, rfl⟩
end Go.Proofs.YtfjlkkohccihnabGreatDoor

/- graduslaw04.texts, kinds: of the same trees they answer true (one and Nodes are still to be done). -/
namespace Go.Proofs.YtfjlkkohccihnabGreatDoor
open Go.RowKit

theorem nameL_cell {w : World} {na : Option Addr} {ns : List (List UInt8)} (h : NamesAt w na ns) {i : Nat} (hi : i < ns.length) : ∃ b o, na = some ⟨b, o, none⟩ ∧ b < w.heap.size ∧ w.cell? ⟨b, o + i, none⟩ = some (.string ⟨ns[i].toArray⟩) := by
  rcases h with rfl | ⟨b, o, e, hb, hc⟩
  · cases hi
  · exact ⟨b, o, e, hb, hc i hi⟩

set_option maxHeartbeats 2000000 in
theorem texts_same (na nb : Option Addr) (ca cb : Nat) (ns : List (List UInt8)) (w : World) (ha : NamesAt w na ns) (hb : NamesAt w nb ns) (hl : ns.length ≤ 140737488351232) :
    Calls Tryz.prog 27 #[.slice na ns.length ca, .slice nb ns.length cb] w fun e w' => e = .returned (.bool true) ∧ ∃ q, w' = w.drewN q := by
  have HA := hideP ha
  have HB := hideP hb
  have e1 : ((ns.length : Int) != (ns.length : Int)) = false := by simp
  clear ha hb
  go_enter Tryz.func27, Tryz.ntmps27
  go_wp2_with fail
  go_loopw [5] (fun i wx => ∃ j q : Nat, i = .int .i64 j ∧ j ≤ ns.length ∧ wx = w.drewN q) (fun i _ => ns.length - (intOf i).toNat)
  case atStart => exact ⟨0, 0, rfl, Nat.zero_le _, rfl⟩
  case round =>
    obtain ⟨j, q, rfl, hj, rfl⟩ := hrel
    by_cases hlt : j < ns.length
    · have hjl : (j : Int) < (ns.length : Int) := by omega
      obtain ⟨b, o, rfl, hbl, hc⟩ := nameL_cell HA.out hlt
      obtain ⟨b', o', rfl, hbl', hc'⟩ := nameL_cell HB.out hlt
      obtain ⟨S1, hS1⟩ : ∃ S1 : ByteArray, S1 = ⟨ns[j].toArray⟩ := ⟨_, rfl⟩
      rw [← hS1] at hc hc'
      have e5 : (S1.toList == S1.toList) = true := by simp
      clear hS1
      go_wp2_with fail
      go_quiet (fail)
      go_wp2_with fail
      exact ⟨⟨j + 1, _, by go_num, by omega, rfl⟩, by simp [intOf]; omega⟩
    · have hjl : ¬ (j : Int) < (ns.length : Int) := by omega
      go_wp2_with fail
      go_ret
      exact ⟨rfl, q, rfl⟩

/-- one answers true of two types with the same tree. -/
def OneAt (n : Nat) : Prop := ∀ (va vb : Value) (D : Ty) (w : World), TyAt w false n va D → TyAt w false n vb D → Calls Tryz.prog 62 #[va, vb] w fun e w' => e = .returned (.bool true) ∧ Below w.heap.size w w'

set_option maxHeartbeats 4000000 in
theorem kinds_same (n : Nat) (ih : OneAt n) (ka kb : Option Addr) (ca cb : Nat) (ks : List Ty) (w : World) (ha : KidsAt w false n ka ks) (hb : KidsAt w false n kb ks) (hl : ks.length ≤ 140737488351232) :
    Calls Tryz.prog 28 #[.slice ka ks.length ca, .slice kb ks.length cb] w fun e w' => e = .returned (.bool true) ∧ Below w.heap.size w w' := by
  have HA := hideP ha
  have HB := hideP hb
  have IH := hideP ih
  have e1 : ((ks.length : Int) != (ks.length : Int)) = false := by simp
  clear ha hb ih
  go_enter Tryz.func28, Tryz.ntmps28
  go_wp2_with fail
  go_loopw [5] (fun i wx => ∃ j : Nat, i = .int .i64 j ∧ j ≤ ks.length ∧ Hid (Below w.heap.size w wx)) (fun i _ => ks.length - (intOf i).toNat)
  case atStart => exact ⟨0, rfl, Nat.zero_le _, Below.refl _ _⟩
  case round =>
    obtain ⟨j, rfl, hj, hbl⟩ := hrel
    by_cases hlt : j < ks.length
    · have hjl : (j : Int) < (ks.length : Int) := by omega
      obtain ⟨b, o, k1, nm1, na1, nl1, nc1, la1, ll1, lc1, rfl, hb1, q0, q1, q2, q3, ht1⟩ := kid_at HA.out hlt
      obtain ⟨b', o', k2, nm2, na2, nl2, nc2, la2, ll2, lc2, rfl, hb2, p0, p1, p2, p3, ht2⟩ := kid_at HB.out hlt
      have HSK : Hid (∀ wx, Below wr.heap.size wr wx → wx.cell? ⟨b, o + j * 4, none⟩ = some (.int .i64 k1) ∧ wx.cell? ⟨b, o + j * 4 + 1, none⟩ = some (.string nm1) ∧ wx.cell? ⟨b, o + j * 4 + 2, none⟩ = some (.slice na1 nl1 nc1) ∧ wx.cell? ⟨b, o + j * 4 + 3, none⟩ = some (.slice la1 ll1 lc1) ∧ wx.cell? ⟨b', o' + j * 4, none⟩ = some (.int .i64 k2) ∧ wx.cell? ⟨b', o' + j * 4 + 1, none⟩ = some (.string nm2) ∧ wx.cell? ⟨b', o' + j * 4 + 2, none⟩ = some (.slice na2 nl2 nc2) ∧ wx.cell? ⟨b', o' + j * 4 + 3, none⟩ = some (.slice la2 ll2 lc2)) := fun wx hwx => by
        have hB := below_next hbl.out hwx
        exact ⟨(hB.cell (p := ⟨b, o + j * 4, none⟩) hb1).trans q0, (hB.cell (p := ⟨b, o + j * 4 + 1, none⟩) hb1).trans q1, (hB.cell (p := ⟨b, o + j * 4 + 2, none⟩) hb1).trans q2, (hB.cell (p := ⟨b, o + j * 4 + 3, none⟩) hb1).trans q3, (hB.cell (p := ⟨b', o' + j * 4, none⟩) hb2).trans p0, (hB.cell (p := ⟨b', o' + j * 4 + 1, none⟩) hb2).trans p1, (hB.cell (p := ⟨b', o' + j * 4 + 2, none⟩) hb2).trans p2, (hB.cell (p := ⟨b', o' + j * 4 + 3, none⟩) hb2).trans p3⟩
      have HC : Hid (∀ wx, Below wr.heap.size wr wx → Calls Tryz.prog 62 #[.agg #[.int .i64 k1, .string nm1, .slice na1 nl1 nc1, .slice la1 ll1 lc1], .agg #[.int .i64 k2, .string nm2, .slice na2 nl2 nc2, .slice la2 ll2 lc2]] wx fun e w' => e = .returned (.bool true) ∧ Below wr.heap.size wr w') := fun wx hwx =>
        (IH.out _ _ ks[j] wx (ty_below ht1 (below_next hbl.out hwx)) (ty_below ht2 (below_next hbl.out hwx))).mono fun e w' ⟨e1, e2⟩ => ⟨e1, below_next hwx e2⟩
      have hS0 := HSK.out wr.drew (Below.refl _ _).drew
      clear q0 q1 q2 q3 p0 p1 p2 p3 ht1 ht2
      go_wp2_with fail
      go_region_held (fun W => W.cell? ⟨b, o + j * 4, none⟩ = some (.int .i64 k1) ∧ W.cell? ⟨b, o + j * 4 + 1, none⟩ = some (.string nm1) ∧ W.cell? ⟨b, o + j * 4 + 2, none⟩ = some (.slice na1 nl1 nc1) ∧ W.cell? ⟨b, o + j * 4 + 3, none⟩ = some (.slice la1 ll1 lc1) ∧ W.cell? ⟨b', o' + j * 4, none⟩ = some (.int .i64 k2) ∧ W.cell? ⟨b', o' + j * 4 + 1, none⟩ = some (.string nm2) ∧ W.cell? ⟨b', o' + j * 4 + 2, none⟩ = some (.slice na2 nl2 nc2) ∧ W.cell? ⟨b', o' + j * 4 + 3, none⟩ = some (.slice la2 ll2 lc2)) (assumption) (first
        | (go_at_call 62; refine (HC.out _ (by first | exact Below.refl _ _ | exact below_drewN (Below.refl _ _) _ | exact (Below.refl _ _).drew)).mono ?_; rintro e w5 ⟨rfl, hb5⟩; have t5 := HSK.out _ hb5; have HB5 := hideP hb5; clear hb5))
      all_goals go_wp2_with fail
      all_goals exact ⟨⟨j + 1, by go_num, by omega, below_next hbl.out HB5.out⟩, by simp [intOf]; omega⟩
    · have hjl : ¬ (j : Int) < (ks.length : Int) := by omega
      go_wp2_with fail
      go_ret
      exact ⟨rfl, hbl.out⟩
set_option maxHeartbeats 4000000 in
theorem one_same : ∀ n, OneAt n
  | 0 => fun _ _ _ _ h => h.elim
  | n + 1 => fun va vb D w h h' => by
    obtain ⟨k, nm, na, nc, ka, kc, ns, ks, rfl, rfl, _, _, _, ⟨_, hnl⟩, ⟨_, hkl⟩, hns, hks⟩ := h
    obtain ⟨k', nm', na', nc', ka', kc', ns', ks', rfl, e, _, _, _, _, _, hns', hks'⟩ := h'
    obtain ⟨rfl, e2, rfl, rfl⟩ := mkT_inj e
    obtain rfl : nm = nm' := by cases nm; cases nm'; simp at e2; rw [e2]
    have hl1 : ns.length ≤ 140737488351232 := hnl
    have hl2 : ks.length ≤ 140737488351232 := hkl
    have hb0 : Below w.heap.size w ((w.alloc (tyO k nm na ns.length nc ka ks.length kc)).alloc (tyO k nm na' ns.length nc' ka' ks.length kc')) := below_next (bl_alloc _ _) (bl_alloc _ _)
    obtain ⟨W, hW⟩ : ∃ W, W = (w.alloc (tyO k nm na ns.length nc ka ks.length kc)).alloc (tyO k nm na' ns.length nc' ka' ks.length kc') := ⟨_, rfl⟩
    have hxa : W.heap[w.heap.size]? = some (tyO k nm na ns.length nc ka ks.length kc) := by rw [hW]; exact (Below.heap_alloc _ _ _ (by simp)).trans (heap_alloc_last w _)
    have hxb : W.heap[w.heap.size + 1]? = some (tyO k nm na' ns.length nc' ka' ks.length kc') := by rw [hW]; exact heap_at1 w _ _
    rw [← hW] at hb0
    have HC1 := hideP (texts_same na na' nc nc' ns W (names_below hns hb0) (names_below hns' hb0) hl1)
    have HC2 : Hid (∀ wx, Below W.heap.size W wx → Calls Tryz.prog 28 #[.slice ka ks.length kc, .slice ka' ks.length kc'] wx fun e w' => e = .returned (.bool true) ∧ Below wx.heap.size wx w') := fun wx hwx => kinds_same n (one_same n) ka ka' kc kc' ks wx (kids_below hks (below_next hb0 hwx)) (kids_below hks' (below_next hb0 hwx)) hl2
    have HXA := hideP hxa
    have HXB := hideP hxb
    have HN1 : Hid (∀ w1, (∃ q, w1 = W.drewN q) → Hid (Below W.heap.size W w1) ∧ Hid (∀ wx, Below w1.heap.size w1 wx → wx.cell? ⟨w.heap.size, 0, none⟩ = some (.int .i64 k) ∧ wx.cell? ⟨w.heap.size, 1, none⟩ = some (.string nm) ∧ wx.cell? ⟨w.heap.size, 3, none⟩ = some (.slice ka ks.length kc) ∧ wx.cell? ⟨w.heap.size + 1, 0, none⟩ = some (.int .i64 k) ∧ wx.cell? ⟨w.heap.size + 1, 1, none⟩ = some (.string nm) ∧ wx.cell? ⟨w.heap.size + 1, 3, none⟩ = some (.slice ka' ks.length kc'))) := by
      rintro w1 ⟨q, rfl⟩
      refine ⟨below_drewN (Below.refl _ _) _, fun wx hwx => ?_⟩
      have hB := below_next (below_drewN (Below.refl W.heap.size W) q) hwx
      have hs : W.heap.size = w.heap.size + 2 := by rw [hW]; simp
      have ha : ∀ o, wx.cell? ⟨w.heap.size, o, none⟩ = W.cell? ⟨w.heap.size, o, none⟩ := fun o => hB.cell (p := ⟨w.heap.size, o, none⟩) (by show w.heap.size < W.heap.size; omega)
      have hb : ∀ o, wx.cell? ⟨w.heap.size + 1, o, none⟩ = W.cell? ⟨w.heap.size + 1, o, none⟩ := fun o => hB.cell (p := ⟨w.heap.size + 1, o, none⟩) (by show w.heap.size + 1 < W.heap.size; omega)
      rw [ha, ha, ha, hb, hb, hb]
      simp [World.cell?, hxa, hxb, tyO]
    have HB0 := hideP hb0
    subst hW
    have e3 : (nm.toList == nm.toList) = true := by simp
    clear hns hns' hks hks' hb0 hxa hxb e e2 hnl hkl
    go_enter Tryz.func62, Tryz.ntmps62
    go_wp2_with fail
    refine HC1.out.mono ?_
    rintro e w1 ⟨rfl, hq⟩
    obtain ⟨HB1, HS1⟩ := HN1.out _ hq
    obtain ⟨a0, a1, a3, b0, b1, b3⟩ := HS1.out w1 (Below.refl _ _)
    clear hq
    go_wp2_with fail
    refine (HC2.out w1 HB1.out).mono ?_
    rintro e w2 ⟨rfl, hb2⟩
    obtain ⟨a0, a1, a3, b0, b1, b3⟩ := HS1.out w2 hb2
    have HB2 := hideP hb2
    clear hb2
    go_wp2_with fail
    go_ret
    exact ⟨rfl, below_next HB0.out (below_next HB1.out HB2.out)⟩
end Go.Proofs.YtfjlkkohccihnabGreatDoor
