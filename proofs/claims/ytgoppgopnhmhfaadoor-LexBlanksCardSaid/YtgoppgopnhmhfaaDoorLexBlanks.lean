/- Blanks and comments between two texts' tokens change none of them, but for their places: graduslaw02.LexBlanks returns true for every two texts; the package's table of words reads as its text lays it. -/
import Derived.Test.YtgoppgopnhmhfaaDoorLaidL
import Derived.Test.YtgoppgopnhmhfaaDoorAgainV
import Derived.Test.YtgoppgopnhmhfaaDoorQuoteR
import Derived.Test.YtgoppgopnhmhfaaDoorTokAt
import Derived.BigQuiet
namespace Go.Proofs.YtgoppgopnhmhfaaDoor
open Go.ChangeShapes Go.WideShapes Go.ChangeAt Go.RowKit
open Go.ChangeMaps (open_string shut_string)

theorem below_drewN {B : Nat} {a w : World} (h : Below B a w) (n : Nat) : Below B a (w.drewN n) := ⟨h.os, h.tape, h.output, h.size, h.block⟩

theorem lexP_toksN {w w' : World} {ts : List Tok} {e : Ending} {n : Nat} (h : LexPost w (.toks ts) e w') (hn : ts.length = n) : ∃ g cap, e = .returned (.tuple #[.slice (some ⟨g, 0, none⟩) n cap, .agg #[.int .i64 0, .int .i64 0, .int .i64 0, .int .i64 0]]) ∧
    w'.ownsRow w.heap.size 35 4 (.slice (some ⟨g, 0, none⟩) n cap) n (tokCells ts) ∧ Below w.heap.size w w' := by
  subst hn
  exact lexP_toks h

/-- What the two lists and the third are to one another. -/
structure Three (xs ys zs : List Tok) (p : Nat) : Prop where
  xl : xs.length = p + 1
  zl : zs.length = p + ys.length
  fst : ∀ i (_ : i < p) (h1 : i < xs.length) (h2 : i < zs.length), zs[i] = xs[i]
  snd : ∀ i (h1 : i < ys.length) (h2 : p + i < zs.length), zs[p + i].kind = ys[i].kind ∧ zs[p + i].text = ys[i].text

theorem three_of {xs ys ys2 ini : List Tok} {L C : Nat} (hx : xs = ini ++ [⟨0, [], L, C⟩]) (hk : ys2.map Tok.kt = ys.map Tok.kt) : Three xs ys (ini ++ ys2) ini.length := by
  have hl : ys2.length = ys.length := by simpa using congrArg List.length hk
  subst hx
  refine ⟨by simp, by simp [hl], ?_, ?_⟩
  · intro i h h1 h2
    rw [List.getElem_append_left h, List.getElem_append_left h]
  · intro i h1 h2
    have h3 : i < ys2.length := by omega
    have e : (ini ++ ys2)[ini.length + i] = ys2[i] := by
      rw [List.getElem_append_right (by omega)]
      simp
    rw [e]
    have h4 := congrArg (·[i]?) hk
    simp only [List.getElem?_map, List.getElem?_eq_getElem h1, List.getElem?_eq_getElem h3, Option.map_some, Option.some.injEq] at h4
    simp only [Tok.kt, Prod.mk.injEq] at h4
    exact h4

set_option maxHeartbeats 8000000 in
set_option maxRecDepth 100000 in
theorem lexBlanks_walk (A B : ByteArray) (w : World) (htab : Words w) (hA : A.size ≤ 140737488351232) (hB : B.size ≤ 140737488351232) :
    Calls Tryd.prog 6 #[.string A, .string B] w fun e w' => e = .returned (.bool true) ∧ Below w.heap.size w w' := by
  have HT := hideP htab
  clear htab
  by_cases hbig : 2000 < A.size
  · go_enter Tryd.func6, Tryd.ntmps6
    go_wp2_with fail
    refine (awake_c _ HT.out).mono ?_
    rintro e w1 ⟨rfl, hB⟩
    have HB := hideP hB
    clear hB
    go_wp2
    go_ret
    exact ⟨rfl, HB.out⟩
  by_cases hbig2 : 2000 < B.size
  · go_enter Tryd.func6, Tryd.ntmps6
    go_wp2_with fail
    refine (awake_c _ HT.out).mono ?_
    rintro e w1 ⟨rfl, hB⟩
    have HB := hideP hB
    clear hB
    go_wp2
    go_ret
    exact ⟨rfl, HB.out⟩
  have hla := lex_c A hA
  have hlb := lex_c B hB
  cases hRA : lexV A.data.toList with
  | inr q =>
    obtain ⟨x, li, co⟩ := q
    have hx : Hid (x ≠ 0) := lexV_bad hRA
    rw [hRA] at hla
    have HLA := hideP hla
    have p1 : (x != 0) = true := by simpa using hx.out
    clear hla hRA hx
    cases hRB : lexV B.data.toList with
    | inr q =>
      obtain ⟨x2, li2, co2⟩ := q
      have hx2 : Hid (x2 ≠ 0) := lexV_bad hRB
      rw [hRB] at hlb
      have HLB := hideP hlb
      have p2 : (x2 != 0) = true := by simpa using hx2.out
      clear hlb hRB hx2
      go_enter Tryd.func6, Tryd.ntmps6
      go_wp2_with fail
      refine (awake_c _ HT.out).mono ?_
      rintro e w1 ⟨rfl, hB⟩
      have HB := hideP hB
      clear hB
      go_wp2_with fail
      refine (HLA.out _ (HT.out.below HB.out)).mono ?_
      intro e w2 hp
      obtain ⟨rfl, hb2⟩ := lexP_bad hp
      have HB2 := hideP (below_next (below_next HB.out hb2) (bl_alloc w2 (dgO li co x)))
      have d0 := dg_cell w2 li co x
      unfold dgO at HB2 d0
      clear hp hb2
      go_wp2_with fail
      refine (HLB.out _ (HT.out.below HB2.out)).mono ?_
      intro e w3 hp
      obtain ⟨rfl, hb3⟩ := lexP_bad hp
      have X := below_next hb3 (bl_alloc w3 (dgO li2 co2 x2))
      have HB3 := hideP (below_next HB2.out X)
      have d1 := (X.cell (p := ⟨w2.heap.size, 3, none⟩) (by simp)).trans d0
      have d2 := dg_cell w3 li2 co2 x2
      unfold dgO at HB3 d1 d2
      clear hp hb3 X d0
      go_wp2
      go_ret
      exact ⟨rfl, HB3.out⟩
    | inl ys =>
      obtain ⟨_, h0, _⟩ := chain_of_lex hRB
      have hyl : 0 < ys.length := by
        obtain ⟨hch, _, _⟩ := chain_of_lex hRB
        have := chain_len hch
        omega
      rw [hRB] at hlb
      have HLB := hideP hlb
      have p2 : ((ys.length : Int) == 0) = false := by rw [beq_eq_false_iff_ne]; omega
      clear hlb hRB h0
      go_enter Tryd.func6, Tryd.ntmps6
      go_wp2_with fail
      refine (awake_c _ HT.out).mono ?_
      rintro e w1 ⟨rfl, hB⟩
      have HB := hideP hB
      clear hB
      go_wp2_with fail
      refine (HLA.out _ (HT.out.below HB.out)).mono ?_
      intro e w2 hp
      obtain ⟨rfl, hb2⟩ := lexP_bad hp
      have HB2 := hideP (below_next (below_next HB.out hb2) (bl_alloc w2 (dgO li co x)))
      have d0 := dg_cell w2 li co x
      unfold dgO at HB2 d0
      clear hp hb2
      go_wp2_with fail
      refine (HLB.out _ (HT.out.below HB2.out)).mono ?_
      intro e w3 hp
      obtain ⟨g, cap, rfl, _, hb3⟩ := lexP_toks hp
      have X := below_next hb3 (bl_alloc w3 (dgO 0 0 0))
      have HB3 := hideP (below_next HB2.out X)
      have d1 := (X.cell (p := ⟨w2.heap.size, 3, none⟩) (by simp)).trans d0
      have d2 := dg_cell w3 0 0 0
      unfold dgO at HB3 d1 d2
      clear hp hb3 X d0
      go_wp2
      go_ret
      exact ⟨rfl, HB3.out⟩
  | inl xs =>
    have hxl : 0 < xs.length := by
      obtain ⟨hch, _, _⟩ := chain_of_lex hRA
      have := chain_len hch
      omega
    rw [hRA] at hla
    have HLA := hideP hla
    clear hla
    cases hRB : lexV B.data.toList with
    | inr q =>
      obtain ⟨x2, li2, co2⟩ := q
      have hx2 : Hid (x2 ≠ 0) := lexV_bad hRB
      rw [hRB] at hlb
      have HLB := hideP hlb
      have p1 : ((xs.length : Int) == 0) = false := by rw [beq_eq_false_iff_ne]; omega
      have p2 : (x2 != 0) = true := by simpa using hx2.out
      clear hlb hRB hx2 hRA
      go_enter Tryd.func6, Tryd.ntmps6
      go_wp2_with fail
      refine (awake_c _ HT.out).mono ?_
      rintro e w1 ⟨rfl, hB⟩
      have HB := hideP hB
      clear hB
      go_wp2_with fail
      refine (HLA.out _ (HT.out.below HB.out)).mono ?_
      intro e w2 hp
      obtain ⟨g, cap, rfl, _, hb2⟩ := lexP_toks hp
      have HB2 := hideP (below_next (below_next HB.out hb2) (bl_alloc w2 (dgO 0 0 0)))
      have d0 := dg_cell w2 0 0 0
      unfold dgO at HB2 d0
      clear hp hb2
      go_wp2_with fail
      refine (HLB.out _ (HT.out.below HB2.out)).mono ?_
      intro e w3 hp
      obtain ⟨rfl, hb3⟩ := lexP_bad hp
      have X := below_next hb3 (bl_alloc w3 (dgO li2 co2 x2))
      have HB3 := hideP (below_next HB2.out X)
      have d1 := (X.cell (p := ⟨w2.heap.size, 3, none⟩) (by simp)).trans d0
      have d2 := dg_cell w3 li2 co2 x2
      unfold dgO at HB3 d1 d2
      clear hp hb3 X d0
      go_wp2
      go_ret
      exact ⟨rfl, HB3.out⟩
    | inl ys =>
      have hyl : 0 < ys.length ∧ ys.length ≤ 2001 := by
        obtain ⟨hch, _, _⟩ := chain_of_lex hRB
        have := chain_len hch
        rw [byteArray_len] at this
        omega
      have hxl2 : xs.length ≤ 2001 := by
        obtain ⟨hch, _, _⟩ := chain_of_lex hRA
        have := chain_len hch
        rw [byteArray_len] at this
        omega
      obtain ⟨ini, L, C, ys2, hxs, hk, hz⟩ := lex_blanks hRA hRB (by rw [byteArray_len]; omega) (by rw [byteArray_len]; omega)
      have h3 := three_of hxs hk
      rw [hRB] at hlb
      have HLB := hideP hlb
      have hlz := lex_c (A ++ { data := #[10, 32, 35, 32, 97, 32, 114, 101, 109, 97, 114, 107, 32, 10, 9, 13, 32] } ++ B) (by rw [str_addS, str_addS]; show A.size + 17 + B.size ≤ _; omega)
      rw [str_add, str_add, show (ByteArray.mk #[10, 32, 35, 32, 97, 32, 114, 101, 109, 97, 114, 107, 32, 10, 9, 13, 32]).data.toList = sepV from rfl, hz] at hlz
      have HLZ := hideP hlz
      obtain ⟨p, hp⟩ : ∃ p, p = ini.length := ⟨_, rfl⟩
      obtain ⟨zs, hzs⟩ : ∃ zs, zs = ini ++ ys2 := ⟨_, rfl⟩
      rw [← hp, ← hzs] at h3
      rw [← hzs] at HLZ
      have H3 := hideP h3
      have hpl : p ≤ 2000 := by have := h3.xl; omega
      obtain ⟨q, hq⟩ : ∃ q, q = ys.length := ⟨_, rfl⟩
      have HQ := hideP hq
      rw [← hq] at hyl
      clear hlb hRB hRA hlz hz hk hxs hp hzs h3 hxl hxl2 hq
      obtain ⟨hq0, hq1⟩ := hyl
      go_enter Tryd.func6, Tryd.ntmps6
      go_wp2_with fail
      refine (awake_c _ HT.out).mono ?_
      rintro e w1 ⟨rfl, hB⟩
      have HB := hideP hB
      clear hB
      go_wp2_with fail
      refine (HLA.out _ (HT.out.below HB.out)).mono ?_
      intro e w2 hp
      obtain ⟨gx, capx, rfl, hox, hb2⟩ := lexP_toksN hp H3.out.xl
      have hgx := tok_lt hox (by have := H3.out.xl; omega)
      have HTX := hideP ((toksAt hox).below (bl_alloc w2 (dgO 0 0 0)) hgx)
      have HB2 := hideP (below_next (below_next HB.out hb2) (bl_alloc w2 (dgO 0 0 0)))
      have d0 := dg_cell w2 0 0 0
      unfold dgO at HB2 d0 HTX
      clear hp hb2 hox
      go_wp2_with fail
      refine (HLB.out _ (HT.out.below HB2.out)).mono ?_
      intro e w3 hp
      obtain ⟨gy, capy, rfl, hoy, hb3⟩ := lexP_toksN hp HQ.out.symm
      have hgy := tok_lt hoy (by have := HQ.out; omega)
      have X := below_next hb3 (bl_alloc w3 (dgO 0 0 0))
      have HTX3 := hideP (HTX.out.below X (by simp; omega))
      have HTY3 := hideP ((toksAt hoy).below (bl_alloc w3 (dgO 0 0 0)) hgy)
      have HB3 := hideP (below_next HB2.out X)
      have d1 := (X.cell (p := ⟨w2.heap.size, 3, none⟩) (by simp)).trans d0
      have d2 := dg_cell w3 0 0 0
      have hgx3 : gx < (w3.alloc (dgO 0 0 0)).heap.size := by have := X.size; simp at this ⊢; omega
      have hgy3 : gy < (w3.alloc (dgO 0 0 0)).heap.size := by simp; omega
      unfold dgO at HB3 d1 d2 HTX3 HTY3 hgx3 hgy3
      have y1 : ((p : Int) + 1 == 0) = false := by rw [beq_eq_false_iff_ne]; omega
      have y2 : ((q : Int) == 0) = false := by rw [beq_eq_false_iff_ne]; omega
      clear hp hb3 X d0 HTX hoy hgx hgy
      go_wp2_with fail
      refine (HLZ.out _ (HT.out.below HB3.out)).mono ?_
      intro e w4 hp
      obtain ⟨gz, capz, rfl, hoz, hb4⟩ := lexP_toksN hp (H3.out.zl.trans (by rw [← HQ.out]))
      have hgz := tok_lt hoz (by have := H3.out.zl; have := HQ.out; omega)
      have X := below_next hb4 (bl_alloc w4 (dgO 0 0 0))
      have HTX4 := hideP (HTX3.out.below X hgx3)
      have HTY4 := hideP (HTY3.out.below X hgy3)
      have HTZ4 := hideP ((toksAt hoz).below (bl_alloc w4 (dgO 0 0 0)) hgz)
      have HB4 := hideP (below_next HB3.out X)
      have d3 := dg_cell w4 0 0 0
      have hgx4 : gx < (w4.alloc (dgO 0 0 0)).heap.size := Nat.lt_of_lt_of_le hgx3 X.size
      have hgy4 : gy < (w4.alloc (dgO 0 0 0)).heap.size := Nat.lt_of_lt_of_le hgy3 X.size
      have hgz4 : gz < (w4.alloc (dgO 0 0 0)).heap.size := by simp; omega
      have e1 : (((p + q : Nat) : Int) != ((p + 1 : Nat) : Int) + (q : Int) - 1) = false := by simp; omega
      unfold dgO at HB4 d3 HTX4 HTY4 HTZ4 hgx4 hgy4 hgz4
      clear hp hb4 X HTX3 HTY3 hoz hgx3 hgy3 hgz
      go_wp2
      generalize (w4.alloc (.cells #[.int .i64 0, .int .i64 0, .int .i64 0, .int .i64 0] 26)) = w5 at HB4 HTX4 HTY4 HTZ4 hgx4 hgy4 hgz4 d3 ⊢
      clear d1 d2 d3
      go_loopw [12] (fun i wr => ∃ (j n : Nat), j ≤ p ∧ i = .int .i64 j ∧ wr = w5.drewN n) (fun i _ => p - (intOf i).toNat)
      case atStart => exact ⟨0, 0, Nat.zero_le _, rfl, rfl⟩
      case round =>
        obtain ⟨j, n, hj, rfl, rfl⟩ := hrel
        by_cases hlt : j < p
        · have h1 : j < xs.length := by have := H3.out.xl; omega
          have h2 : j < zs.length := by have := H3.out.zl; omega
          obtain ⟨a0, a1, a2, a3⟩ := HTX4.out j h1
          obtain ⟨b0, b1, b2, b3⟩ := HTZ4.out j h2
          rw [H3.out.fst j hlt h1 h2] at b0 b1 b2 b3
          obtain ⟨kd, hkd⟩ : ∃ kd, kd = xs[j].kind := ⟨_, rfl⟩
          obtain ⟨U, hU⟩ : ∃ U : ByteArray, U = ⟨xs[j].text.toArray⟩ := ⟨_, rfl⟩
          obtain ⟨L2, hL2⟩ : ∃ L2, L2 = xs[j].line := ⟨_, rfl⟩
          obtain ⟨C2, hC2⟩ : ∃ C2, C2 = xs[j].col := ⟨_, rfl⟩
          rw [← hkd] at a0 b0
          rw [← hU] at a1 b1
          rw [← hL2] at a2 b2
          rw [← hC2] at a3 b3
          have i1 : (j : Int) < ((p + q : Nat) : Int) := by omega
          have i2 : (j : Int) < ((p + 1 : Nat) : Int) := by omega
          have x2 : (U.toList == U.toList) = true := by simp
          clear hkd hU hL2 hC2 h1 h2
          go_wp2
          go_quiet (fail)
          go_wp2
          go_roundw
          case rel => exact ⟨j + 1, _, by omega, by go_num, rfl⟩
          case measure => simp [intOf]; omega
        · go_wp2
          generalize hw6 : World.drewN w5 n = w6
          have HB6 : Hid (Below w.heap.size w w6) := by rw [← hw6]; exact below_drewN HB4.out n
          have HTY6 : Hid (ToksAt w6 gy ys) := by rw [← hw6]; exact HTY4.out
          have HTZ6 : Hid (ToksAt w6 gz zs) := by rw [← hw6]; exact HTZ4.out
          have hgy6 : gy < w6.heap.size := by rw [← hw6]; exact hgy4
          have hgz6 : gz < w6.heap.size := by rw [← hw6]; exact hgz4
          clear hw6 HB4 HTX4 HTY4 HTZ4
          go_loopw [13] (fun i wr => ∃ j, j ≤ q ∧ i = .int .i64 j ∧ Hid (Below w6.heap.size w6 wr)) (fun i _ => q - (intOf i).toNat)
          case atStart => exact ⟨0, Nat.zero_le _, rfl, Below.refl _ _⟩
          case round =>
            obtain ⟨m, hm, rfl, hbr⟩ := hrel
            by_cases hltm : m < q
            · have h1 : m < ys.length := by have := HQ.out; omega
              have h2 : p + m < zs.length := by have := H3.out.zl; omega
              obtain ⟨a0, a1, a2, a3⟩ := (HTY6.out.below hbr.out hgy6) m h1
              obtain ⟨b0, b1, b2, b3⟩ := (HTZ6.out.below hbr.out hgz6) (p + m) h2
              obtain ⟨k1, k2⟩ := H3.out.snd m h1 h2
              rw [k1] at b0
              rw [k2] at b1
              obtain ⟨kd, hkd⟩ : ∃ kd, kd = ys[m].kind := ⟨_, rfl⟩
              obtain ⟨U, hU⟩ : ∃ U : ByteArray, U = ⟨ys[m].text.toArray⟩ := ⟨_, rfl⟩
              obtain ⟨L2, hL2⟩ : ∃ L2, L2 = zs[p + m].line := ⟨_, rfl⟩
              obtain ⟨C2, hC2⟩ : ∃ C2, C2 = zs[p + m].col := ⟨_, rfl⟩
              rw [← hkd] at a0 b0
              rw [← hU] at a1 b1
              rw [← hL2] at b2
              rw [← hC2] at b3
              have hgyr : gy < wr.heap.size := Nat.lt_of_lt_of_le hgy6 hbr.out.size
              have i1 : (m : Int) < (q : Int) := by omega
              have x1 : (kd != kd) = false := by simp
              have x2 : (U.toList == U.toList) = true := by simp
              clear hkd hU hL2 hC2 h1 h2 k1 k2 a2 a3
              go_wp2
              go_quiet (fail)
              go_wp2
              go_roundw
              case rel => exact ⟨m + 1, by omega, by go_num, below_drewN (hbr.out.alloc hbr.out.size _) _⟩
              case measure => simp [intOf]; omega
            · have HF := hideP (below_next HB6.out hbr.out)
              go_wp2
              go_ret
              exact ⟨rfl, HF.out⟩

set_option maxRecDepth 100000 in
theorem lexBlanks_lifted (os : Os) (started : os.Started) (H : Type) (enc : TypeId × Value → H) :
    ReturnsInHanded {} Tryd.checked os 6 .any (fun w args => (Rows.lexBlanksSpec.pre enc Tryd.prog Tryd.f6 [] false w args ∧ laidMetH Tryd.prog laidL w) ∧ sizedMet enc Tryd.prog Tryd.f6 (OpenSpec.ofChange Rows.lexBlanksSpec) false w args)
      (Rows.lexBlanksSpec.post enc Tryd.prog Tryd.f6 false true false false) := by
  refine returnsInHanded_of_change_and (C := Tryd.checked) (X := fun w _ => laidMetH Tryd.prog laidL w) (fun _ _ _ hh h => h.of_heap hh) own started (by kernel_rfl) Tryd.func6
    (ChangeSpec.witness_shaped (enc := enc) (C := Tryd.checked) (os := os) (X := fun w _ => laidMetH Tryd.prog laidL w) false (World.doorLaid Tryd.prog 24 os) #[.string ByteArray.empty, .string ByteArray.empty] 8 rfl (World.shaped_of_RefB (by kernel_rfl) (by kernel_rfl)) (by kernel_rfl) (by kernel_rfl) (by kernel_rfl) (door_met os _)) ?_
  intro W base args ds gs before hval0 hW _ hsz0 hL _
  have htab := tab_of_laid hL
  have hval : ∀ (j : Nat) t v, Tryd.f6.params[j]? = some t → args[j]? = some v → Value.okWide Tryd.prog W .any base t v := hval0
  have hW' := hW
  obtain ⟨p, q, hA0, hV, rfl, hfz, hnd⟩ := hW
  have hA : DataW.TrodAll enc Tryd.prog W 0 (fun _ => true) true Tryd.f6.params.toList args.toList ds p := hA0
  have hsz : (DataW.weightsEach Tryd.prog (Tryd.f6.params.toList ++ Rows.lexBlanksSpec.plain.varTypes Tryd.prog) (ds ++ gs)).all (· ≤ reachBytes) = true := hsz0
  rw [Tryd.params6] at hA hval hsz
  obtain ⟨v0, vs0, d0, ds0, p0, q0, hargs, rfl, rfl, h0, r0⟩ := trodAll_cons hA
  obtain ⟨v1, vs1, d1, ds1, p1, q1, rfl, rfl, rfl, h1, r1⟩ := trodAll_cons r0
  obtain ⟨rfl, rfl, rfl⟩ := trodAll_nil r1
  obtain rfl : args = #[v0, v1] := by cases args; simp_all
  obtain ⟨rfl, rfl⟩ := trodVars_none hV
  obtain ⟨a0, rfl, rfl, rfl, w0⟩ := open_string Tryd.underlying9 (hval 0 9 v0 rfl rfl) h0
  have s0 : a0.size ≤ 140737488351232 := string_reach (sized_string hsz (j := 0) (t := 9) rfl rfl)
  obtain ⟨a1, rfl, rfl, rfl, w1⟩ := open_string Tryd.underlying9 (hval 1 9 v1 rfl rfl) h1
  have s1 : a1.size ≤ 140737488351232 := string_reach (sized_string hsz (j := 1) (t := 9) rfl rfl)
  clear hA0 hval0
  refine (lexBlanks_walk a0 a1 W htab s0 s1).mono fun e W' ⟨he, bel⟩ => ?_
  subst he
  exact ⟨_, rfl, _, _, _, [], _, [], hW', trodAll_mk1 (shut_bool Tryd.underlying4 _), (trodAll_cons_mk (shut_string Tryd.underlying9 w0) (trodAll_cons_mk (shut_string Tryd.underlying9 w1) trodAll_mk0)), rfl, bel.frame _, fun h => by cases h⟩

theorem lexBlanks_over : Rows.LexBlanksSaid :=
  OpenClaim.holds_of_wide 6 Tryd.f6 rfl rfl rfl rfl rfl rfl rfl ⟨rfl, rfl, rfl, rfl, rfl⟩ rfl rfl rfl rfl rfl (by kernel_rfl) Tryd.func6 (by kernel_rfl)
    (of_decide_eq_true (by kernel_rfl)) (by unfold Func.isWrapper; rw [if_neg (of_decide_eq_false (by kernel_rfl))]; exact ⟨rfl, rfl⟩)
    (fun os started H enc _ => lexBlanks_lifted os started H enc)

theorem lexBlanks_card : Rows.LexBlanksCardSaid :=
  Claim7.holds_tied_plain_at .later [] [.data] true Rows.lexBlanksCard.stood.harness false
    lexBlanks_over (fun _ h => by cases h) (by kernel_rfl) (fun _ h => by cases h) lexBlanks_row_tie rfl ⟨rfl, rfl⟩ (by kernel_rfl) (by kernel_rfl)
    (fun f fn hf hfn => by
      obtain rfl : f = 6 := Option.some.inj ((show Tryd.prog.funcNamed Rows.lexBlanksRow.func = some 6 by kernel_rfl).symm.trans hf) |>.symm
      obtain rfl : fn = Tryd.f6 := (Option.some.inj (Tryd.func6.symm.trans hfn)).symm
      exact ⟨by kernel_rfl, fun j t ht => by
        rw [Tryd.params6] at ht
        have hm : t ∈ [9, 9] := by simpa using Array.mem_of_getElem? ht
        have hall : ([9, 9].all fun u => !Tryd.prog.wantsStandIn u) = true := by kernel_rfl
        exact (show Tryd.prog.wantsStandIn t = false by simpa using List.all_eq_true.1 hall t hm)⟩)
    (by kernel_rfl)
end Go.Proofs.YtgoppgopnhmhfaaDoor
