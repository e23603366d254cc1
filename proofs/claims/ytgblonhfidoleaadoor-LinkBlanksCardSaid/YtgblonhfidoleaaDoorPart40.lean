/- Part. -/
import Derived.Test.YtgblonhfidoleaaDoorPart39
set_option maxRecDepth 100000
set_option maxHeartbeats 4000000
/- lex.Name and lex.Words, each by a contract. -/
namespace Go.Proofs.YtgblonhfidoleaaDoor.Lx
open Go.Proofs.Tryd
open Go.RowKit
theorem nameV_empty {S : ByteArray} (h : S.size = 0) : nameV S.data.toList = false := by
  have : S.data.toList = [] := List.eq_nil_of_length_eq_zero (by rw [byteArray_len]; exact h)
  rw [this]
  rfl
theorem nameV_cons {S : ByteArray} (h : 0 < S.size) : nameV S.data.toList = (decide (S.size <= 32) && isLet S[0] && S.data.toList.all inNm && !wordsV.contains S.data.toList) := by
  have e := byteArray_drop S 0 h
  rw [List.drop_zero] at e
  have hl := byteArray_len S
  rw [e] at hl
  conv => lhs; rw [e]
  rw [nameV, hl, <- e]
theorem row_all (S : ByteArray) (p : UInt8 -> Bool) : (rowV S 0 p = S.size) ↔ S.data.toList.all p = true := by
  unfold rowV
  rw [List.drop_zero, <- byteArray_len, Nat.zero_add]
  generalize S.data.toList = l
  induction l with
  | nil => simp
  | cons b r ih =>
    by_cases h : p b = true
    · rw [List.takeWhile_cons_of_pos h]
      simp [h, <- ih]
    · rw [List.takeWhile_cons_of_neg h]
      simp [h]
theorem name_c (S : ByteArray) (hS : S.size <= 140737488351232) (w : World) (hw : Words w) : Calls prog 21 #[.string S] w fun e w' => e = .returned (.bool (nameV S.data.toList)) /\ w' = w := by
  by_cases hz : S.size = 0
  · have he : S.toList.isEmpty = true := by rw [toList_isEmpty]; simp [hz]
    rw [nameV_empty hz]
    clear hw
    go_enter func21, ntmps21
    go_wp2
    go_ret
    exact ⟨rfl, rfl⟩
  have h0 : 0 < S.size := by omega
  have he : S.toList.isEmpty = false := by rw [toList_isEmpty]; simp [hz]
  rw [nameV_cons h0]
  by_cases hl : 32 < S.size
  · have hd : decide (S.size <= 32) = false := by simp; omega
    rw [hd]
    clear hd hw
    go_enter func21, ntmps21
    go_wp2
    go_ret
    exact ⟨rfl, rfl⟩
  have hd : decide (S.size <= 32) = true := by simp; omega
  rw [hd]
  clear hd hz
  have hst := startsName_c S[0]
  cases hb : isLet S[0]
  · rw [hb] at hst
    have HST := hideP hst
    clear hst hb hw
    simp only [Bool.and_false, Bool.false_and]
    go_enter func21, ntmps21
    go_wp2_with fail
    refine (HST.out _).mono ?_
    rintro e w' ⟨rfl, rfl⟩
    go_wp2
    go_ret
    exact ⟨rfl, rfl⟩
  rw [hb] at hst
  have HST := hideP hst
  have hrow := rowEnd_name S hS 0 (by omega)
  have hall := row_all S inNm
  have hwd := fun w h => isWord_c S w h
  have HW := hideP hw
  obtain ⟨r, hr⟩ : ∃ r, r = rowV S 0 inNm := ⟨_, rfl⟩
  rw [<- hr] at hrow hall
  have HROW := hideP hrow
  have hrle : r <= S.size := by rw [hr]; exact rowV_le S 0 inNm (by omega)
  clear hst hb hrow hr hw
  cases ha : S.data.toList.all inNm
  · have hne : ((r : Int) == (S.size : Int)) = false := by
      have : r ≠ S.size := fun e => by rw [hall.1 e] at ha; cases ha
      simp
      omega
    clear hall ha hwd
    simp only [Bool.and_false, Bool.false_and]
    go_enter func21, ntmps21
    go_wp2_with fail
    refine (HST.out _).mono ?_
    rintro e w' ⟨rfl, rfl⟩
    go_wp2_with fail
    refine (HROW.out _).mono ?_
    rintro e w' ⟨rfl, rfl⟩
    go_wp2
    go_ret
    exact ⟨rfl, rfl⟩
  · have heq : ((r : Int) == (S.size : Int)) = true := by
      have := hall.2 ha
      simp
      omega
    cases hq : wordsV.contains S.data.toList
    · rw [hq] at hwd
      have HWD := hideP hwd
      clear hall ha hwd hq
      go_enter func21, ntmps21
      go_wp2_with fail
      refine (HST.out _).mono ?_
      rintro e w' ⟨rfl, rfl⟩
      go_wp2_with fail
      refine (HROW.out _).mono ?_
      rintro e w' ⟨rfl, rfl⟩
      go_wp2_with fail
      refine (HWD.out _ HW.out).mono ?_
      rintro e w' ⟨rfl, rfl⟩
      go_wp2
      go_ret
      exact ⟨rfl, rfl⟩
    · rw [hq] at hwd
      have HWD := hideP hwd
      clear hall ha hwd hq
      go_enter func21, ntmps21
      go_wp2_with fail
      refine (HST.out _).mono ?_
      rintro e w' ⟨rfl, rfl⟩
      go_wp2_with fail
      refine (HROW.out _).mono ?_
      rintro e w' ⟨rfl, rfl⟩
      go_wp2_with fail
      refine (HWD.out _ HW.out).mono ?_
      rintro e w' ⟨rfl, rfl⟩
      go_wp2
      go_ret
      exact ⟨rfl, rfl⟩
/-- The tokens of a list that Lex made, cell by cell. -/
theorem tokCells_at (ts : List Tok) (i : Nat) (hi : i < ts.length) (o : Nat) (ho : o < 4) : (tokCells ts)[4 * i + o]? = (Tok.cells ts[i])[o]? := by
  induction ts generalizing i with
  | nil => simp at hi
  | cons t r ih =>
    show (Tok.cells t ++ tokCells r)[4 * i + o]? = _
    cases i with
    | zero =>
      rw [List.getElem?_append_left (by simp [Tok.cells]; omega)]
      simp
    | succ i =>
      rw [List.getElem?_append_right (by simp [Tok.cells]; omega)]
      have := ih i (by simpa using hi)
      rw [show 4 * (i + 1) + o - (Tok.cells t).length = 4 * i + o from by simp [Tok.cells]; omega, this]
      simp
theorem tok_at {w : World} {B e g cap n : Nat} {ts : List Tok} (h : w.ownsRow B e 4 (.slice (some ⟨g, 0, none⟩) n cap) n (tokCells ts)) (i : Nat) (hi : i < ts.length) :
    w.cell? ⟨g, 4 * i, none⟩ = some (.int .i64 ts[i].kind) /\ w.cell? ⟨g, 4 * i + 1, none⟩ = some (.string ⟨ts[i].text.toArray⟩) /\ w.cell? ⟨g, 4 * i + 2, none⟩ = some (.int .i64 ts[i].line) /\ w.cell? ⟨g, 4 * i + 3, none⟩ = some (.int .i64 ts[i].col) := by
  have hc : ∀ o u, o < 4 -> (Tok.cells ts[i])[o]? = some u -> w.cell? ⟨g, 4 * i + o, none⟩ = some u := by
    intro o u ho hu
    have := h.cells (g := g) rfl (4 * i + o) u (by rw [tokCells_at ts i hi o ho]; exact hu)
    have hadd : (⟨g, 0, none⟩ : Addr).add (4 * i + o) = ⟨g, 0 + (4 * i + o), none⟩ := by unfold Addr.add; split <;> simp_all
    rw [hadd, Nat.zero_add] at this
    exact this
  exact ⟨hc 0 _ (by omega) rfl, hc 1 _ (by omega) rfl, hc 2 _ (by omega) rfl, hc 3 _ (by omega) rfl⟩
theorem tok_lt {w : World} {B e g cap n : Nat} {ts : List Tok} (h : w.ownsRow B e 4 (.slice (some ⟨g, 0, none⟩) n cap) n (tokCells ts)) (hn : 0 < ts.length) : g < w.heap.size :=
  World.block_lt_of_cell? w _ (tok_at h 0 hn).1
end Go.Proofs.YtgblonhfidoleaaDoor.Lx
/- One module is read. -/
namespace Go.Proofs.YtgblonhfidoleaaDoor
open Go.Proofs.Tryd
open Go.RowKit Go.Maps
theorem words_low {B : Nat} {w w' : World} (h : Lx.Words w) (hb : Below B w w') (hB : 0 < B) : Lx.Words w' := fun i hi => (hb.cell (p := ⟨0, i, none⟩) hB).trans (h i hi)
abbrev srcO (S X : ByteArray) : Obj := .cells #[.string S, .string X] 39
theorem info_mod : (prog.info? 45).map (fun i => (i.zero, i.size, i.bytes)) = some (some (.agg #[.slice none 0 0, .slice none 0 0]), 2, 48) := by kernel_rfl
theorem info_mp : (prog.info? 55).map (fun i => (i.zero, i.size, i.bytes)) = some (some (.map none), 1, 8) := by kernel_rfl
/-- What stays while modules are read. -/
structure Kp (nb kb lo : Nat) (w w' : World) : Prop where
  below : Below nb w w'
  mid : ∀ b, kb < b -> b < lo -> w'.heap[b]? = w.heap[b]?
section
variable {nb kb lo B : Nat} {w w1 w2 : World} {S : Nat -> Prop}
theorem Kp.refl (nb kb lo : Nat) (w : World) : Kp nb kb lo w w := ⟨Below.refl _ _, fun _ _ _ => rfl⟩
theorem Kp.trans (h : Kp nb kb lo w w1) (k : Kp nb kb lo w1 w2) : Kp nb kb lo w w2 := ⟨h.below.trans k.below, fun b h1 h2 => (k.mid b h1 h2).trans (h.mid b h1 h2)⟩
theorem Kp.drew (h : Kp nb kb lo w w1) : Kp nb kb lo w w1.drew := ⟨h.below.drew, h.mid⟩
theorem Kp.bl (h : Below w.heap.size w w1) (h1 : nb <= w.heap.size) (h2 : lo <= w.heap.size) : Kp nb kb lo w w1 := ⟨h.mono h1, fun b _ hb => h.block b (by omega)⟩
theorem Kp.chg (h : Chg B S w w1) (hB : nb <= B) (hS : ∀ b, S b -> b = kb ∨ b = nb ∨ lo <= b) (hk : nb < kb) (hl : lo <= w.heap.size) : Kp nb kb lo w w1 :=
  ⟨h.below.mono hB, fun b h1 h2 => h.keep b (by omega) fun e => by rcases hS b e with e | e | e <;> omega⟩
end
/-- What reading leaves. -/
def ReadP (lo kb nb : Nat) (w : World) (L : L1) (e : Ending) (w' : World) : Prop := e = .returned (.tuple #[]) /\ (∃ vN vM vF vD xs fb, P1 lo kb nb w' L vN vM vF vD xs fb /\ fb.length = L.mods.length) /\ Kp nb kb lo w w'
theorem p1_cells {lo kb nb : Nat} {W : World} {L : L1} {vN vM vF vD : Value} {xs : List MV} {fb : List Nat} (h : P1 lo kb nb W L vN vM vF vD xs fb) : (W.cell? ⟨kb, 0, none⟩ = some vN /\ W.cell? ⟨kb, 1, none⟩ = some vM /\ W.cell? ⟨kb, 6, none⟩ = some (.map (some nb)) /\ W.cell? ⟨kb, 7, none⟩ = some vF /\ W.cell? ⟨kb, 8, none⟩ = some vD) /\ (W.frozen? ⟨kb, 0, none⟩ = false /\ W.frozen? ⟨kb, 1, none⟩ = false /\ W.frozen? ⟨kb, 7, none⟩ = false) /\ kb < W.heap.size := by
  obtain ⟨⟨p0, p1, p2, p3, p4, p5, p6, p7, p8⟩, hf, hl⟩ := box9 h.box
  exact ⟨⟨p0, p1, p6, p7, p8⟩, ⟨hf 0, hf 1, hf 7⟩, hl⟩
/-- A Diag is told while modules are read. -/
theorem tell1 {lo kb nb : Nat} {W : World} {L : L1} {vN vM vF vD : Value} {xs : List MV} {fb : List Nat} (h : P1 lo kb nb W L vN vM vF vD xs fb) (hf : fb.length = L.mods.length) (d : Dg) (hn : L.ds.length <= 1000) :
    Calls prog 16 #[.pointer (some ⟨kb, 0, none⟩), .int .i64 d.m, .int .i64 d.li, .int .i64 d.co, .int .i64 d.er] W (ReadP lo kb nb W { L with ds := L.ds ++ [d] }) :=
  (tell_c kb lo L.ds.length d _ W _ _ _ _ _ _ _ _ vD h.box h.rD h.lt2 h.lt3 (by omega)).mono fun e w' ⟨h1, vD', h2, h3, h4, h5⟩ => ⟨h1, ⟨vN, vM, vF, vD', xs, fb, h.tell h2 h3 h4 h5, hf⟩, Kp.chg h5 (Nat.le_of_lt h.lt1) (fun b e => e.elim .inl fun e => .inr (.inr (h.rD.lt b e).1)) h.lt1 h.lt3⟩
/-- A row of the linker has grown, and is stored. -/
theorem grown_box {lo kb et k n : Nat} {W w6 : World} {v : Value} {ys : List Value} {cs : Array Value} {T : TypeId} {ob : Obj} (hb : W.heap[kb]? = some (.cells cs T)) (own : W.ownsRow lo et k v n ys) (hk : kb < lo) (hg : (W.alloc ob).grownBy w6 v.ownBlock) : w6.heap[kb]? = some (.cells cs T) :=
  (hg.block kb (by rw [World.size_alloc]; have := lt_of_block hb; omega) (fun e => by have := (own.lt kb e.symm).1; omega)).trans ((Below.heap_alloc _ _ _ (lt_of_block hb)).trans hb)
theorem grown_set {lo kb et k n : Nat} {W w6 : World} {v : Value} {ys : List Value} {cs : Array Value} {T : TypeId} {ob : Obj} (o : Nat) (v' : Value) (hb : W.heap[kb]? = some (.cells cs T)) (own : W.ownsRow lo et k v n ys) (hk : kb < lo) (hl : lo <= W.heap.size) (hg : (W.alloc ob).grownBy w6 v.ownBlock) :
    (w6.setCell ⟨kb, o, none⟩ v').heap[kb]? = some (.cells (cs.setIfInBounds o v') T) /\ Chg kb (fun b => b = kb ∨ v.ownBlock = some b) W (w6.setCell ⟨kb, o, none⟩ v') :=
  ⟨cells_setCell (grown_box hb own hk hg), Chg.set (Chg.grown ((Chg.refl _ _ _).alloc (by omega) _) hg (by rw [World.size_alloc]; omega) fun q e => ⟨by have := (own.lt q e).1; omega, fun _ => .inr e⟩) (Nat.le_refl _) (fun _ => .inl rfl) o v'⟩
theorem moved_of {W : World} {ob : Obj} {v v' : Value} (h : v'.ownBlock = v.ownBlock ∨ v'.ownBlock = some (W.alloc ob).heap.size) : Moved W v v' := h.imp_right fun e => ⟨_, e, by rw [World.size_alloc]; omega⟩
theorem read_c (lo kb nb m : Nat) (S X : ByteArray) (L : L1) (vN vM vF vD : Value) (xs : List MV) (fb : List Nat) (w : World) (hP : P1 lo kb nb w L vN vM vF vD xs fb) (hfb : fb.length = L.mods.length) (hw : Lx.Words w) (hv : 0 < nb)
    (hS : S.size <= 140737488351232) (hX : X.size <= 140737488351232) (hm : m <= 1000) (hn1 : L.ds.length <= 1000) (hn2 : L.num.length <= 1000) (hn3 : L.names.length <= 1000) (hn4 : L.mods.length <= 1000) :
    Calls prog 17 #[.pointer (some ⟨kb, 0, none⟩), .int .i64 m, .agg #[.string S, .string X]] w (ReadP lo kb nb w (lreadV m S.data.toList X.data.toList L)) := by
  have HW := hideP hw
  have HV := hideP hv
  have HF := hideP hfb
  have hSm : S.size <= maxLen := by unfold maxLen; omega
  have HP1 := hideP (hP.alloc (srcO S X))
  have HC1 : Hid (Below w.heap.size w (w.alloc (srcO S X))) := bl_alloc w _
  have hkl := (p1_cells hP).2.2
  have hnl := hP.num.lt
  have hlt1 := hP.lt1
  have hlt2 := hP.lt2
  have hlt3 := hP.lt3
  have HB0 : Hid (∀ W, Below w.heap.size w W -> Kp nb kb lo w W) := fun W h => Kp.bl h (Nat.le_of_lt hnl) hlt3
  obtain ⟨L', hL'⟩ : ∃ L', L' = lreadV m S.data.toList X.data.toList L := ⟨_, rfl⟩
  rw [<- hL']
  have HL := hideP hL'
  clear hw hP hfb hL' hv
  go_enter func17, ntmps17
  go_wp2_with fail
  refine (Lx.name_c S hS _ (HW.out.below HC1.out)).mono ?_
  rintro e w1 ⟨rfl, rfl⟩
  by_cases hnm : nameV S.data.toList = false
  · have HL2 : Hid (L' = { L with ds := L.ds ++ [⟨m, 1, 1, 10⟩] }) := by
      rw [HL.out]
      show lreadV _ _ _ _ = _
      unfold lreadV
      rw [if_pos hnm]
    go_wp2_with fail
    refine (tell1 HP1.out HF.out ⟨m, 1, 1, 10⟩ hn1).mono ?_
    rintro e w2 ⟨rfl, h2, h3⟩
    have H2 := hideP h2
    have H3 := hideP h3
    clear h2 h3
    go_wp2_with fail
    refine bodyPost_ret (results_none rfl _ _ _) rfl ⟨rfl, ?_, (HB0.out _ HC1.out).trans H3.out⟩
    rw [HL2.out]
    exact H2.out
  · have hnm' : nameV S.data.toList = true := by simpa using hnm
    rw [hnm']
    have HL2 : Hid (L' = (match look L.num S.data.toList with
      | some _ => { L with ds := L.ds ++ [⟨m, 1, 1, 8⟩] }
      | none => match moduleTextV X.data.toList with
        | .inr (e, li, co) => { L with num := (S.data.toList, m) :: L.num, ds := L.ds ++ [⟨m, li, co, e⟩] }
        | .inl D => { num := (S.data.toList, m) :: L.num, names := L.names ++ [S.data.toList], mods := L.mods ++ [moOf D], ds := L.ds })) := by
      rw [HL.out]
      show lreadV _ _ _ _ = _
      unfold lreadV
      rw [if_neg (by simp [hnm'])]
      rfl
    clear hnm hnm' HL
    go_wp2_with fail
    have HP2 := hideP HP1.out.drew
    have s0 : (w.alloc (srcO S X)).drew.cell? ⟨w.heap.size, 0, none⟩ = some (.string S) := (box2 (heap_alloc_last w (srcO S X))).1.1
    obtain ⟨⟨p0, p1, p6, p7, p8⟩, _, _⟩ := p1_cells HP2.out
    have hl := num_look HP2.out.num S hSm
    cases hk : look L.num S.data.toList with
    | some j =>
      rw [hk] at HL2 hl
      clear hk
      go_region
      all_goals
        go_wp2_with fail
        refine (tell1 HP2.out HF.out ⟨m, 1, 1, 8⟩ hn1).mono ?_
        rintro e w2 ⟨rfl, h2, h3⟩
        have H2 := hideP h2
        have H3 := hideP h3
        clear h2 h3
        go_wp2_with fail
        refine bodyPost_ret (results_none rfl _ _ _) rfl ⟨rfl, ?_, ((HB0.out _ HC1.out).drew).trans H3.out⟩
        rw [HL2.out]
        exact H2.out
    | none =>
      rw [hk] at HL2 hl
      clear hk
      apply once0 (w.alloc (srcO S X)).drew
      · go_region
        all_goals exact ⟨rfl, rfl⟩
      · go_wp2_with fail
        clear hl p0 p1 p6 p7 p8 s0
        have s0 : (w.alloc (srcO S X)).drew.drew.cell? ⟨w.heap.size, 0, none⟩ = some (.string S) := (box2 (heap_alloc_last w (srcO S X))).1.1
        have HP3 := hideP HP2.out.drew
        obtain ⟨⟨p0, p1, p6, p7, p8⟩, _, _⟩ := p1_cells HP3.out
        obtain ⟨w3, hrun, hnum, hgr⟩ := num_put HP3.out.num (by omega) S hSm m (by omega)
        have HP4 := hideP (HP3.out.put hnum hgr)
        have HG := hideP hgr
        have HZ : Hid (w.heap.size + 1 <= w3.heap.size) := by have := hgr.size; rw [show (w.alloc (srcO S X)).drew.drew.heap.size = w.heap.size + 1 from World.size_alloc _ _] at this; exact this
        have HB3 : Hid (Kp nb kb lo w w3) := ((HB0.out _ HC1.out).drew.drew).trans (Kp.chg (B := nb) (S := fun b => b = nb) ((Chg.refl nb (fun b => b = nb) _).grown hgr (by show nb <= (w.alloc (srcO S X)).heap.size; rw [World.size_alloc]; omega) fun q e => by injection e with e; exact ⟨by omega, fun _ => e.symm⟩) (Nat.le_refl _) (fun b e => .inr (.inl e)) hlt1 (by show lo <= (w.alloc (srcO S X)).heap.size; rw [World.size_alloc]; omega))
        have HX3 : Hid (w3.heap[w.heap.size]? = some (srcO S X)) := (hgr.block w.heap.size (by show w.heap.size < (w.alloc (srcO S X)).heap.size; rw [World.size_alloc]; omega) (by intro e; injection e with e; omega)).trans (heap_alloc_last w (srcO S X))
        clear hnum hgr
        apply once0 w3
        · go_region
          all_goals exact ⟨rfl, rfl⟩
        · clear hrun p0 p1 p6 p7 p8 s0
          obtain ⟨⟨s0, s1⟩, _, hsl⟩ := box2 HX3.out
          go_wp2_with fail
          refine (parseParse_c X hX w3 (words_low HW.out HB3.out.below HV.out)).mono ?_
          intro e w4 hpost
          cases hmt : moduleTextV X.data.toList with
          | inr p =>
            obtain ⟨er, li, co⟩ := p
            rw [hmt] at hpost HL2
            obtain ⟨hb4, rfl⟩ := hpost
            have HP5 := hideP (((HP4.out.below hb4).alloc zMV.obj).alloc (.cells #[.int .i64 0, .int .i64 li, .int .i64 co, .int .i64 er] 37))
            have HB5 : Hid (Kp nb kb lo w ((w4.alloc zMV.obj).alloc (.cells #[.int .i64 0, .int .i64 li, .int .i64 co, .int .i64 er] 37))) := HB3.out.trans (Kp.bl (below_next (below_next hb4 (bl_alloc _ _)) (bl_alloc _ _)) (by have := HZ.out; omega) (by have := HZ.out; omega))
            obtain ⟨⟨e0, e1, e2, e3⟩, _, hel⟩ := res_facts (heap_at1 w4 zMV.obj (.cells #[.int .i64 0, .int .i64 li, .int .i64 co, .int .i64 er] 37))
            have her : (er != 0) = true := by simpa using (module_place hmt).1
            have her' : ¬ er = 0 := (module_place hmt).1
            clear hb4 hmt
            go_wp2_with fail
            refine (tell1 HP5.out HF.out ⟨m, li, co, er⟩ hn1).mono ?_
            rintro e w6 ⟨rfl, h2, h3⟩
            have H2 := hideP h2
            have H3 := hideP h3
            clear h2 h3
            go_wp2_with fail
            refine bodyPost_ret (results_none rfl _ _ _) rfl ⟨rfl, ?_, HB5.out.trans H3.out⟩
            rw [HL2.out]
            exact H2.out
          | inl D =>
            rw [hmt] at hpost HL2
            obtain ⟨hb4, v, rfl, y, rfl, hv⟩ := hpost
            obtain ⟨i0, hi0, ha0, ha1, ha2⟩ := info_parts info_str
            obtain ⟨i1, hi1, hb0, hb1, hb2⟩ := info_parts info_mod
            obtain ⟨i2, hi2, hc0, hc1, hc2⟩ := info_parts info_mp
            have HGood := hideP (module_good hmt)
            obtain ⟨o, ho⟩ : ∃ o, o = moOf D := ⟨_, rfl⟩
            have HMo : Hid (MoV w3.heap.size w4 y o) := by rw [ho]; exact mo_of hv
            have HL3 : Hid (L' = { num := (S.data.toList, m) :: L.num, names := L.names ++ [S.data.toList], mods := L.mods ++ [o], ds := L.ds }) := by rw [ho]; exact HL2.out
            rw [<- ho] at HGood
            clear HL2
            have HP5 := hideP (((HP4.out.below hb4).alloc y.obj).alloc (.cells #[.int .i64 0, .int .i64 0, .int .i64 0, .int .i64 0] 37))
            have hbb := below_next (below_next hb4 (bl_alloc w4 y.obj)) (bl_alloc _ (.cells #[.int .i64 0, .int .i64 0, .int .i64 0, .int .i64 0] 37))
            have HB5 : Hid (Kp nb kb lo w ((w4.alloc y.obj).alloc (.cells #[.int .i64 0, .int .i64 0, .int .i64 0, .int .i64 0] 37))) := HB3.out.trans (Kp.bl hbb (by have := HZ.out; omega) (by have := HZ.out; omega))
            have HX5 : Hid (((w4.alloc y.obj).alloc (.cells #[.int .i64 0, .int .i64 0, .int .i64 0, .int .i64 0] 37)).heap[w.heap.size]? = some (srcO S X)) := (hbb.block _ hsl).trans HX3.out
            have HY5 : Hid (((w4.alloc y.obj).alloc (.cells #[.int .i64 0, .int .i64 0, .int .i64 0, .int .i64 0] 37)).heap[w4.heap.size]? = some y.obj) := (Below.heap_alloc _ _ _ (by rw [World.size_alloc]; omega)).trans (heap_alloc_last w4 _)
            have HM5 : Hid (Made ModS lo (own4 vN vM vF vD) ((w4.alloc y.obj).alloc (.cells #[.int .i64 0, .int .i64 0, .int .i64 0, .int .i64 0] 37)) (mvC y) o) :=
              (Made.new (rep := ModS) (wx := w4) ⟨y, rfl, HMo.out⟩ HP4.out.lt3 (fun q hq => (HP4.out.apart hq).2.1)).chg (Chg.of (B := 0) (S := fun _ => False) (below_next (bl_alloc w4 y.obj) (bl_alloc _ _)) (Nat.zero_le _)) (fun _ e => e.elim) fun q hq => .inl hq
            have hyr : w.heap.size + 1 <= w4.heap.size := by have := HZ.out; have := hb4.size; omega
            have hrows : ∀ q, own4 vN vM vF vD q -> q < w4.heap.size := fun q hq => ((HP4.out.below hb4).apart hq).2.1
            have HRows := hideP hrows
            have hyl : w4.heap.size < ((w4.alloc y.obj).alloc (.cells #[.int .i64 0, .int .i64 0, .int .i64 0, .int .i64 0] 37)).heap.size := by rw [World.size_alloc, World.size_alloc]; omega
            obtain ⟨⟨e0, e1, e2, e3⟩, _, hel⟩ := res_facts (heap_at1 w4 y.obj (.cells #[.int .i64 0, .int .i64 0, .int .i64 0, .int .i64 0] 37))
            clear hb4 hmt hv ho hbb hrows
            go_wp2_with fail
            clear e0 e1 e2 e3 hel s0 s1 hsl
            generalize (w4.alloc y.obj).alloc (.cells #[.int .i64 0, .int .i64 0, .int .i64 0, .int .i64 0] 37) = W5 at HP5 HB5 HX5 HY5 HM5 hyl ⊢
            obtain ⟨yb, hyb⟩ : ∃ yb, yb = w4.heap.size := ⟨_, rfl⟩
            rw [<- hyb] at HY5 HRows hyl hyr ⊢
            clear hyb
            have rN5 : W5.ownsRow lo 9 1 vN L.names.length (L.names.map strV') := HP5.out.rN
            have RN5 := hideP rN5
            obtain ⟨aN, cN, rfl⟩ := row_shape rN5
            clear rN5
            obtain ⟨⟨p0, p1, p6, p7, p8⟩, ⟨f0, f1, f7⟩, hkl5⟩ := p1_cells HP5.out.drew
            obtain ⟨⟨s0, _⟩, _, hsl⟩ := box2 HX5.out
            have s0d : W5.drew.cell? ⟨w.heap.size, 0, none⟩ = some (.string S) := s0
            have p0w : W5.cell? ⟨kb, 0, none⟩ = some (.slice aN L.names.length cN) := p0
            have hkw : kb < W5.heap.size := hkl5
            have hlw : lo <= W5.heap.size := HP5.out.lt3
            clear p1 p6 p7 p8 f1 f7
            apply once3 (fun p n y => Hid (y.ownsRow lo 9 1 (.slice p (L.names.length + 1) n) (L.names.length + 1) (L.names.map strV' ++ [.string S])) /\ Hid ((W5.drew.alloc (.cells #[.string S] 9)).grownBy y (Value.slice aN L.names.length cN).ownBlock) /\ Hid ((Value.slice p (L.names.length + 1) n).ownBlock = (Value.slice aN L.names.length cN).ownBlock ∨ (Value.slice p (L.names.length + 1) n).ownBlock = some (W5.drew.alloc (.cells #[.string S] 9)).heap.size)) (fun p n y => y.setCell ⟨kb, 0, none⟩ (.slice p (L.names.length + 1) n))
            · go_region_law (refine step_append_at rfl (.tmp 61) (.tmp 64) 25 rfl lo 9 i0 _ 1 16 underlying25 hi0 ha0 ha1 ha2 rfl (by decide) _ _ _ (by first | rfl | simp [Act.eval, Act.put]) ((show W5.drew.ownsRow lo 9 1 (.slice aN L.names.length cN) L.names.length (L.names.map strV') from RN5.out).alloc _) ⟨W5.heap.size, 0, none⟩ 1 1 [.string S] (by first | rfl | simp [Act.eval, Act.put]) rfl (cells_newK _ _ _) (by simp [Value.oneCell']) (by unfold maxLen; omega) (by omega) (by show lo <= (W5.alloc _).heap.size; rw [World.size_alloc]; omega) ?_; intro v' w6 hown' hgrow hloc; obtain ⟨aN', cN', rfl⟩ := row_shape hown'; have HO6 := hideP hown'; have HG6 := hideP hgrow; have HL6 := hideP hloc; have HK6 := hideP (grown_box (W := W5.drew) HP5.out.box RN5.out hlt2 hgrow); obtain ⟨⟨b0, _⟩, g0, hk6⟩ := box9 HK6.out; clear hown' hgrow hloc)
              all_goals exact ⟨aN', cN', w6, ⟨HO6.out, HG6.out, HL6.out⟩, rfl, rfl⟩
            · rintro aN' cN' w6 ⟨HO6, HG6, HL6⟩
              go_wp2_with fail
              clear p0 f0 s0 hsl s0d p0w hkw hkl5
              have hgs := grown_set (W := W5.drew) 0 (.slice aN' (L.names.length + 1) cN') HP5.out.box RN5.out hlt2 hlw HG6.out
              have hSe : strV' S.data.toList = .string S := by simp [strV']
              have HP7 := hideP (HP5.out.drew.pushN (s := S.data.toList) (by simpa using hgs.1) (by rw [hSe]; exact ownsRow_setCell_below HO6.out (a := ⟨kb, 0, none⟩) hlt2 _) (moved_of HL6.out) hgs.2)
              have hown7 : ∀ q, own4 (.slice aN' (L.names.length + 1) cN') vM vF vD q -> own4 (.slice aN L.names.length cN) vM vF vD q ∨ W5.heap.size <= q := fun q hq => by
                rcases hq with e | e
                · exact ((moved_of (W := W5.drew) HL6.out).own e).imp_left .inl
                · exact .inl (.inr e)
              have HM7 : Hid (Made ModS lo (own4 (.slice aN' (L.names.length + 1) cN') vM vF vD) (w6.setCell ⟨kb, 0, none⟩ (.slice aN' (L.names.length + 1) cN')) (mvC y) o) :=
                (HM5.out.chg (Chg.refl 0 (fun _ => False) W5).drew (fun _ e => e.elim) fun q hq => .inl hq).chg hgs.2 (fun b e => e.elim (fun e => .inl (by omega)) fun e => .inr (.inl e)) hown7
              have HY7 : Hid ((w6.setCell ⟨kb, 0, none⟩ (.slice aN' (L.names.length + 1) cN')).heap[yb]? = some y.obj) := hgs.2.obj (show W5.drew.heap[yb]? = some y.obj from HY5.out) fun e => e.elim (fun e => by omega) fun e => by have := HRows.out yb (.inl e); omega
              have HB7 : Hid (Kp nb kb lo w (w6.setCell ⟨kb, 0, none⟩ (.slice aN' (L.names.length + 1) cN'))) := HB5.out.drew.trans (Kp.chg hgs.2 (by omega) (fun b e => e.elim .inl fun e => .inr (.inr (RN5.out.lt b e).1)) hlt1 hlw)
              have HR7 : Hid (∀ q, own4 (.slice aN' (L.names.length + 1) cN') vM vF vD q -> q ≠ yb) := fun q hq => by
                rcases hown7 q hq with h | h
                · have := HRows.out q h
                  omega
                · omega
              clear hgs HL6 HO6 HG6 HP5 HB5 HM5 HY5 HX5 RN5 hown7 HRows
              generalize w6.setCell ⟨kb, 0, none⟩ (.slice aN' (L.names.length + 1) cN') = W7 at HP7 HM7 HY7 HB7 ⊢
              have rM7 : W7.ownsRow lo 45 2 vM L.mods.length (xs.flatMap mvC) := HP7.out.rM
              have RM7 := hideP rM7
              obtain ⟨aM, cM, rfl⟩ := row_shape rM7
              clear rM7 hyl hlw
              obtain ⟨⟨p0, p1, p6, p7, p8⟩, ⟨f0, f1, f7⟩, hkl7⟩ := p1_cells HP7.out.drew
              obtain ⟨⟨y0, y1⟩, _, hyl⟩ := box2 HY7.out
              have y0d : W7.drew.cell? ⟨yb, 0, none⟩ = some (.slice y.ia y.il y.ic) := y0
              have y1d : W7.drew.cell? ⟨yb, 1, none⟩ = some (.slice y.da y.dl y.dc) := y1
              have p1w : W7.cell? ⟨kb, 1, none⟩ = some (.slice aM L.mods.length cM) := p1
              have hkw : kb < W7.heap.size := hkl7
              have hlw : lo <= W7.heap.size := HP7.out.lt3
              clear p0 p6 p7 p8 f0 f7
              apply once3 (fun p n z => Hid (z.ownsRow lo 45 2 (.slice p (L.mods.length + 1) n) (L.mods.length + 1) (xs.flatMap mvC ++ [.slice y.ia y.il y.ic, .slice y.da y.dl y.dc])) /\ Hid ((W7.drew.alloc (.cells #[.slice y.ia y.il y.ic, .slice y.da y.dl y.dc] 45)).grownBy z (Value.slice aM L.mods.length cM).ownBlock) /\ Hid ((Value.slice p (L.mods.length + 1) n).ownBlock = (Value.slice aM L.mods.length cM).ownBlock ∨ (Value.slice p (L.mods.length + 1) n).ownBlock = some (W7.drew.alloc (.cells #[.slice y.ia y.il y.ic, .slice y.da y.dl y.dc] 45)).heap.size)) (fun p n z => z.setCell ⟨kb, 1, none⟩ (.slice p (L.mods.length + 1) n))
              · go_region_law (refine step_append_at rfl (.tmp 74) (.tmp 76) 26 rfl lo 45 i1 _ 2 48 underlying26 hi1 hb0 hb1 hb2 rfl (by decide) _ _ _ (by first | rfl | simp [Act.eval, Act.put]) ((show W7.drew.ownsRow lo 45 2 (.slice aM L.mods.length cM) L.mods.length (xs.flatMap mvC) from RM7.out).alloc _) ⟨W7.heap.size, 0, none⟩ 1 1 [.slice y.ia y.il y.ic, .slice y.da y.dl y.dc] (by first | rfl | simp [Act.eval, Act.put]) rfl (cells_newK _ _ _) (by simp [Value.oneCell']) (by unfold maxLen; omega) (by omega) (by show lo <= (W7.alloc _).heap.size; rw [World.size_alloc]; omega) ?_; intro v' w8 hown' hgrow hloc; obtain ⟨aM', cM', rfl⟩ := row_shape hown'; have HO8 := hideP hown'; have HG8 := hideP hgrow; have HL8 := hideP hloc; have HK8 := hideP (grown_box (W := W7.drew) HP7.out.box RM7.out hlt2 hgrow); obtain ⟨⟨_, b1, _⟩, g1, hk8⟩ := box9 HK8.out; clear hown' hgrow hloc)
                all_goals exact ⟨aM', cM', w8, ⟨HO8.out, HG8.out, HL8.out⟩, rfl, rfl⟩
              · rintro aM' cM' w8 ⟨HO8, HG8, HL8⟩
                go_wp2_with fail
                clear p1 f1 y0 y1 hyl y0d y1d p1w hkw hkl7
                have hgs := grown_set (W := W7.drew) 1 (.slice aM' (L.mods.length + 1) cM') HP7.out.box RM7.out hlt2 hlw HG8.out
                have HP9 := hideP (HP7.out.drew.pushM (x := y) (o := o) (by simpa using hgs.1) (ownsRow_setCell_below HO8.out (a := ⟨kb, 1, none⟩) hlt2 _) (moved_of HL8.out) hgs.2 (HM7.out.chg (Chg.refl 0 (fun _ => False) W7).drew (fun _ e => e.elim) fun q hq => .inl hq) HGood.out (Nat.le_of_eq HF.out))
                have HY9 : Hid ((w8.setCell ⟨kb, 1, none⟩ (.slice aM' (L.mods.length + 1) cM')).heap[yb]? = some y.obj) := hgs.2.obj (show W7.drew.heap[yb]? = some y.obj from HY7.out) fun e => e.elim (fun e => by omega) fun e => HR7.out yb (.inr (.inl e)) rfl
                have HB9 : Hid (Kp nb kb lo w (w8.setCell ⟨kb, 1, none⟩ (.slice aM' (L.mods.length + 1) cM'))) := HB7.out.drew.trans (Kp.chg hgs.2 (by omega) (fun b e => e.elim .inl fun e => .inr (.inr (RM7.out.lt b e).1)) hlt1 hlw)
                clear hgs HL8 HO8 HG8 HP7 HB7 HM7 HY7 RM7 HR7
                generalize w8.setCell ⟨kb, 1, none⟩ (.slice aM' (L.mods.length + 1) cM') = W9 at HP9 HY9 HB9 ⊢
                have hlx : xs.length < (xs ++ [y]).length := by simp
                have hlm : xs.length < (L.mods ++ [o]).length := by have : xs.length = L.mods.length := by simpa using HP9.out.xl
                                                                    simp; omega
                have hmo : ModS lo W9.drew (mvC y) o := by
                  have h := (HP9.out.drew.mods xs.length hlx hlm).now modS_k
                  have e1 : (xs ++ [y])[xs.length] = y := by simp
                  have e2 : (L.mods ++ [o])[xs.length]'hlm = o := by
                    have : xs.length = L.mods.length := by simpa using HP9.out.xl
                    simp [this]
                  have h' : ModS lo W9.drew (mvC (xs ++ [y])[xs.length]) ((L.mods ++ [o])[xs.length]'hlm) := h
                  rw [e1, e2] at h'
                  exact h'
                obtain ⟨y', hy', hil, hdl, hb1', hb2', hq1, hq2⟩ := hmo
                have hda : y'.da = y.da := by injection hy' with _ hy'; injection hy' with hy' _; injection hy' with h1 h2 h3; exact h1.symm
                have hdl' : y.dl = o.ds.length := by injection hy' with _ hy'; injection hy' with hy' _; injection hy' with h1 h2 h3; rw [h2]; exact hdl
                have HC : Hid (Calls prog 23 #[.slice y.da y.dl y.dc] W9.drew fun e w' => e = .returned (.map (some W9.heap.size)) /\ Hid (NumAt w' W9.heap.size (firsts o) /\ Below W9.drew.heap.size W9.drew w')) := by
                  rw [hdl']
                  exact (first_c lo y.da y.dc o.ds W9.drew (hda ▸ hq2) hb2' fun d hd => (HGood.out.2 d hd).1).mono fun e w' h => h
                have rF9 : W9.ownsRow lo 55 1 vF fb.length (fb.map fun b => .map (some b)) := HP9.out.rF
                have RF9 := hideP rF9
                obtain ⟨aF, cF, rfl⟩ := row_shape rF9
                clear rF9 hq1 hq2 hy' hil hdl hb1' hb2' hda hdl' hlx hlm hlw
                obtain ⟨⟨p0, p1, p6, p7, p8⟩, ⟨f0, f1, f7⟩, hkl9⟩ := p1_cells HP9.out.drew
                obtain ⟨⟨y0, y1⟩, _, hyl⟩ := box2 HY9.out
                have y1d : W9.drew.cell? ⟨yb, 1, none⟩ = some (.slice y.da y.dl y.dc) := y1
                have p7w : W9.cell? ⟨kb, 7, none⟩ = some (.slice aF fb.length cF) := p7
                have hkw : kb < W9.heap.size := hkl9
                have hlw : lo <= W9.heap.size := HP9.out.lt3
                have hfl : fb.length <= 1000 := by have := HF.out; omega
                clear p0 p1 p6 p8 f0 f1 y0
                go_region_law (first
                    | (go_simp; go_at_call 23; refine HC.out.mono ?_; rintro e w10 ⟨rfl, HX⟩; have HP10 := hideP (HP9.out.drew.below HX.out.2); obtain ⟨⟨_, _, _, t7, _⟩, ⟨_, _, u7⟩, hk10⟩ := p1_cells HP10.out)
                    | (refine step_append_at rfl (.tmp 85) (.tmp 89) 56 rfl lo 55 i2 _ 1 8 underlying56 hi2 hc0 hc1 hc2 rfl (by decide) _ _ _ (by first | rfl | simp [Act.eval, Act.put]) (HP10.out.rF.alloc _) ⟨w10.heap.size, 0, none⟩ 1 1 [.map (some W9.heap.size)] (by first | rfl | simp [Act.eval, Act.put]) rfl (cells_newK _ _ _) (by simp [Value.oneCell']) (by unfold maxLen; omega) (by omega) (by have := HP10.out.lt3; show lo <= (w10.alloc _).heap.size; rw [World.size_alloc]; omega) ?_; intro v' w11 hown' hgrow hloc; obtain ⟨aF', cF', rfl⟩ := row_shape hown'; have HO11 := hideP hown'; have HG11 := hideP hgrow; have HL11 := hideP hloc; have HK11 := hideP (grown_box (W := w10) HP10.out.box HP10.out.rF hlt2 hgrow); obtain ⟨⟨_, _, _, _, _, _, _, b7, _⟩, g7, hk11⟩ := box9 HK11.out; clear hown' hgrow hloc))
                all_goals
                  go_wp2_with fail
                  have hgs := grown_set (W := w10) 7 (.slice aF' (fb.length + 1) cF') HP10.out.box HP10.out.rF hlt2 HP10.out.lt3 HG11.out
                  have hlast : ∀ h2 : fb.length < (L.mods ++ [o]).length, (L.mods ++ [o])[fb.length] = o := fun h2 => by
                    have := HF.out
                    simp [this]
                  have HP12 := hideP (HP10.out.pushF (b := W9.heap.size) (by simpa using hgs.1) (ownsRow_setCell_below HO11.out (a := ⟨kb, 7, none⟩) hlt2 _) (moved_of HL11.out) hgs.2 (fun h2 => by rw [show (L.mods ++ [o])[fb.length] = o from hlast h2]; exact HX.out.1) hlw)
                  refine bodyPost_end (results_none rfl _ _ _) rfl ⟨rfl, ?_, (HB9.out.drew.trans (Kp.bl HX.out.2 (by show nb <= W9.heap.size; omega) hlw)).trans (Kp.chg hgs.2 (by omega) (fun b e => e.elim .inl fun e => .inr (.inr (HP10.out.rF.lt b e).1)) hlt1 HP10.out.lt3)⟩
                  rw [HL3.out]
                  exact ⟨_, _, _, _, _, _, HP12.out, by have := HF.out; simp [this]⟩
end Go.Proofs.YtgblonhfidoleaaDoor
