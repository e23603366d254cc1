/- Part. -/
import Derived.Test.YtgblonhfidoleaaDoorPart32
set_option maxRecDepth 100000
set_option maxHeartbeats 4000000
/- lex.Lex by a contract: the tokens of the text, or what is wrong first. -/
namespace Go.Proofs.YtgblonhfidoleaaDoor.Lx
open Go.Proofs.Tryd
open Go.RowKit
def Tok.cells (t : Tok) : List Value := [.int .i64 t.kind, .string ⟨t.text.toArray⟩, .int .i64 t.line, .int .i64 t.col]
def tokCells (ts : List Tok) : List Value := ts.flatMap Tok.cells
theorem tokCells_snoc (ts : List Tok) (t : Tok) : tokCells (ts ++ [t]) = tokCells ts ++ Tok.cells t := by simp [tokCells]
def diagA (li co e : Int) : Value := .agg #[.int .i64 0, .int .i64 li, .int .i64 co, .int .i64 e]
/-- What a call of Lex leaves. -/
def LexPost (w : World) (R : Lx) (e : Ending) (w' : World) : Prop :=
  Below w.heap.size w w' /\ match R with
  | .inr (x, li, co) => e = .returned (.tuple #[.slice none 0 0, diagA li co x])
  | .inl ts => ∃ g cap, e = .returned (.tuple #[.slice (some ⟨g, 0, none⟩) ts.length cap, diagA 0 0 0]) /\ w'.ownsRow w.heap.size 105 4 (.slice (some ⟨g, 0, none⟩) ts.length cap) ts.length (tokCells ts)
theorem results_tmp_cell {fn : Func} {p u : Tmp} {ty : TypeId} (h : fn.results = #[.tmp u, .cell p ty]) (tmps : Array Value) {P : Program} {w : World} {g : Nat} {t : TypeId} {cs : Array Value} {fr : Nat × Nat} {fs : Array Field}
    (hp : tmps.getD p undef = .pointer (some ⟨g, 0, none⟩)) (hg : w.heap[g]? = some (.cells cs t fr))
    (hu : P.underlying ty = some (.struct fs)) (hi : (P.info? ty).map (·.size) = some cs.size) :
    (results fn tmps).run P w = .ok (.tuple #[tmps.getD u undef, .agg cs]) w := by
  have hp' : tmps[p]?.getD undef = .pointer (some ⟨g, 0, none⟩) := by simpa using hp
  simp [results, h, hp', asAddr, run_loadVar_row w g t ty cs fr _ hg hu rfl hi]
theorem diag_size : (prog.info? 37).map (·.size) = some 4 := by kernel_rfl
theorem info_tok : (prog.info? 105).map (fun i => (i.zero, i.size, i.bytes)) = some (some (.agg #[.int .i64 0, .string { data := #[] }, .int .i64 0, .int .i64 0]), 4, 40) := by kernel_rfl
theorem lex_long (S : ByteArray) (hS : 65536 < S.size) (hS2 : S.size <= 140737488351232) (w : World) :
    Calls prog 33 #[.string S] w (LexPost w (.bad 2 1 1)) := by
  go_enter func33, ntmps33
  go_wp2
  refine bodyPost_ret (results_tmp_cell rfl _ rfl (heap_alloc_last w _) underlying37 diag_size) rfl ?_
  exact ⟨(Below.refl _ w).alloc (Nat.le_refl _) _, rfl⟩
/-- Block b is a Diag. -/
def DiagB (w : World) (b : Nat) (li co e : Int) : Prop := w.heap[b]? = some (.cells #[.int .i64 0, .int .i64 li, .int .i64 co, .int .i64 e] 37 (0, 0))
section
variable {w : World} {b : Nat} {li co e : Int}
theorem DiagB.c (h : DiagB w b li co e) (o : Nat) (ho : o < 4) : w.cell? ⟨b, o, none⟩ = some (([.int .i64 0, .int .i64 li, .int .i64 co, .int .i64 e] : List Value).getD o undef) := by
  unfold DiagB at h
  match o, ho with
  | 0, _ => simp [World.cell?, h]
  | 1, _ => simp [World.cell?, h]
  | 2, _ => simp [World.cell?, h]
  | 3, _ => simp [World.cell?, h]
theorem DiagB.fz (h : DiagB w b li co e) (o : Nat) : w.frozen? ⟨b, o, none⟩ = false := by unfold DiagB at h; simp [World.frozen?, h]
theorem DiagB.set (h : DiagB w b li co e) (li' co' e' : Int) : DiagB ((((w.setCell ⟨b, 0, none⟩ (.int .i64 0)).setCell ⟨b, 1, none⟩ (.int .i64 li')).setCell ⟨b, 2, none⟩ (.int .i64 co')).setCell ⟨b, 3, none⟩ (.int .i64 e')) b li' co' e' :=
  cells_setCell (cells_setCell (cells_setCell (cells_setCell h)))
end
theorem below_diag {a w : World} {b : Nat} (h : Below b a w) (x y z u : Value) : Below b a ((((w.setCell ⟨b, 0, none⟩ x).setCell ⟨b, 1, none⟩ y).setCell ⟨b, 2, none⟩ z).setCell ⟨b, 3, none⟩ u) :=
  (((h.setCell (Nat.le_refl _) _).setCell (Nat.le_refl _) _).setCell (Nat.le_refl _) _).setCell (Nat.le_refl _) _
/-- What of the call's own memory stays through a round: the map of signs, the Diag, the tokens so far. -/
structure Core (w wr : World) (D : DataW Unit) (sb : Nat) (v : Value) (acc : List Tok) : Prop where
  mp : wr.ownsMap prog 128 unitElem (w.heap.size + 1) 8 D
  dg : DiagB wr w.heap.size 0 0 0
  bl : Below w.heap.size w wr
  wd : Words wr
  ow : wr.ownsRow (sb + 1) 105 4 v acc.length (tokCells acc)
  sbl : w.heap.size + 2 <= sb
  sz : sb < wr.heap.size
  w0 : 0 < w.heap.size
theorem own_lt {w : World} {B e z n : Nat} {v : Value} {xs : List Value} (h : w.ownsRow B e z v n xs) : ∀ j, v.ownBlock = some j -> B <= j /\ j < w.heap.size := by
  intro j hj
  rcases h.2 with ⟨h1, h2⟩ | ⟨g, cap, cur, h1, h2, h3, _⟩
  · rw [h1] at hj; cases hj
  · rw [h1] at hj
    simp [Value.ownBlock] at hj
    have := lt_of_block h3
    omega
section
variable {w wr wr' : World} {D : DataW Unit} {sb : Nat} {v : Value} {acc : List Tok}
theorem Core.upd (h : Core w wr D sb v acc) {tb : Nat} (hu : Upd wr wr' sb tb) (ht : sb + 1 <= tb) (hv : v.ownBlock ≠ some tb) : Core w wr' D sb v acc where
  mp := hu.map h.mp (by have := h.sbl; omega) (by have := h.sbl; omega)
  dg := by
    have := h.sbl
    have := h.sz
    unfold DiagB
    rw [hu.block _ (by omega) (by omega) (by omega)]
    exact h.dg
  bl := h.bl.trans (hu.below h.bl.size (by have := h.sbl; omega) (by have := h.sbl; omega))
  wd := hu.words h.wd (by have := h.sbl; have := h.w0; omega) (by have := h.sbl; have := h.w0; omega)
  ow := hu.owns h.ow (fun e => by have := (own_lt h.ow _ e).1; omega) hv
  sbl := h.sbl
  sz := Nat.lt_of_lt_of_le h.sz hu.size
  w0 := h.w0
/-- A block that there is not. -/
theorem Core.none (h : Core w wr D sb v acc) (hg : wr.grownBy wr' none) : Core w wr' D sb v acc :=
  h.upd (tb := wr.heap.size) (Upd.ofNone hg sb _) h.sz (fun e => by have := (own_lt h.ow _ e).2; omega)
theorem Core.skip (h : Core w wr D sb v acc) (hg : wr.grownBy wr' (some sb)) : Core w wr' D sb v acc :=
  h.upd (tb := wr.heap.size) (Upd.ofL hg _) h.sz (fun e => by have := (own_lt h.ow _ e).2; omega)
theorem Core.app (h : Core w wr D sb v acc) {ob : Obj} {v' : Value} {w1 : World} {t : Tok} (ho : w1.ownsRow (sb + 1) 105 4 v' (acc.length + 1) (tokCells acc ++ Tok.cells t)) (hg : (wr.alloc ob).grownBy w1 v.ownBlock) : Core w w1 D sb v' (acc ++ [t]) /\
    ∀ i, i < wr.heap.size -> i <= sb -> w1.heap[i]? = wr.heap[i]? := by
  have hlow : ∀ i, i < wr.heap.size -> i <= sb -> w1.heap[i]? = wr.heap[i]? := fun i hi hle => by
    rw [hg.block i (by simp; omega) (fun e => by have := (own_lt h.ow _ e.symm).1; omega), Below.heap_alloc _ _ _ hi]
  have hsz := h.sz
  have hsbl := h.sbl
  have hw0 := h.w0
  refine ⟨⟨?_, ?_, ?_, ?_, ?_, hsbl, ?_, hw0⟩, hlow⟩
  · obtain ⟨es, clock, hh, r⟩ := h.mp
    exact ⟨es, clock, by rw [hlow _ (lt_of_block hh) (by omega)]; exact hh, r⟩
  · unfold DiagB
    rw [hlow _ (by omega) (by omega)]
    exact h.dg
  · refine (h.bl.alloc h.bl.size _).grown hg (by have := h.bl.size; simp; omega) fun j hj => ?_
    have := (own_lt h.ow _ hj).1
    omega
  · intro i hi
    rw [World.cell?_of_block (w := wr) (hlow 0 (by omega) (by omega))]
    exact h.wd i hi
  · rw [List.length_append, tokCells_snoc]
    exact ho
  · have := hg.size
    simp at this
    omega
end
theorem tok_new (W : World) (t : Tok) (ty : TypeId) : ∀ j u, (Tok.cells t)[j]? = some u -> (W.alloc (.cells #[.int .i64 t.kind, .string ⟨t.text.toArray⟩, .int .i64 t.line, .int .i64 t.col] ty)).cell? ((⟨W.heap.size, 0, none⟩ : Addr).add j) = some u := by
  intro j u hj
  have hadd : (⟨W.heap.size, 0, none⟩ : Addr).add j = ⟨W.heap.size, j, none⟩ := by unfold Addr.add; split <;> simp_all
  rw [hadd, cell_of_row _ _ j _ ty (0, 0) (heap_alloc_last W _)]
  simpa [Tok.cells] using hj
theorem tok_one (t : Tok) : ∀ u ∈ Tok.cells t, u.oneCell' = true := by
  intro u hu
  simp [Tok.cells] at hu
  rcases hu with rfl | rfl | rfl | rfl <;> rfl
theorem owns_lower {w : World} {B B' e z n : Nat} {v : Value} {xs : List Value} (h : w.ownsRow B e z v n xs) (hB : B' <= B) : w.ownsRow B' e z v n xs := by
  obtain ⟨h1, h2⟩ := h
  refine ⟨h1, ?_⟩
  rcases h2 with h2 | ⟨g, cap, cur, rfl, hg, hh, r⟩
  · exact .inl h2
  · exact .inr ⟨g, cap, cur, rfl, by omega, hh, r⟩
theorem lex_short (S : ByteArray) (hS : S.size <= 65536) (w : World) (hw : Words w) :
    Calls prog 33 #[.string S] w (LexPost w (lexV S.data.toList)) := by
  obtain ⟨R, hR⟩ : ∃ R, R = lexV S.data.toList := ⟨_, rfl⟩
  rw [<- hR]
  have HR := hideP hR
  have HW := hideP hw
  clear hR hw
  go_enter func33, ntmps33
  go_wp2_with fail
  refine (twoByteSigns_c _).mono ?_
  rintro e w1 ⟨rfl, D, hown, hD, hb⟩
  have HD := hideP hD
  have hsz := hown.lt
  simp only [World.size_alloc] at hown hsz hb
  have hcore : Hid (Core w (w1.alloc (.cells #[.string S, .int .i64 0, .int .i64 1, .int .i64 0, .map (some (w.heap.size + 1))] 103)) D w1.heap.size (.slice none 0 0) []) := by
    have hb1 : Below w.heap.size w w1 := (((Below.refl _ w).alloc (Nat.le_refl _) _).trans (hb.mono (Nat.le_succ _)))
    refine ⟨hown.alloc _, ?_, hb1.alloc hb1.size _, ?_, World.ownsRow_nil _ _ _ _, by omega, by simp, HW.out.lt⟩
    · unfold DiagB
      rw [Below.heap_alloc _ _ _ (by omega), hb.block w.heap.size (Nat.lt_succ_self _)]
      exact heap_alloc_last w _
    · exact HW.out.below (hb1.alloc hb1.size _)
  clear hD hown hb
  go_wp2_with fail
  refine (skip_c S hS w1.heap.size (w.heap.size + 1) 0 1 0 (by omega) (by omega) (by omega) _ (heap_alloc_last w1 _)).mono ?_
  rintro e w2 ⟨rfl, k0, li0, ls0, hsc, hg, _, hk, hls, hli, hskip⟩
  have hc2 := hideP (hcore.out.skip hg)
  have hat := hideP (lexAt_start (l := S.data.toList) (by rw [byteArray_len]; exact hS) hskip)
  have hs2 := hideP hsc
  have h0l : ([] : List Tok).length <= 8192 := by simp
  rw [<- HR.out] at hat
  clear hcore hg hskip hsc
  obtain ⟨i0, hi, hz0, hz1, hz2⟩ := info_parts info_tok
  obtain ⟨sb, hsb⟩ : ∃ sb, sb = w1.heap.size := ⟨_, rfl⟩
  rw [<- hsb] at hc2 hs2 ⊢
  clear hsb hsz
  go_wp2
  go_loopw [5] (fun v wr => ∃ (k li ls : Nat) (acc : List Tok), Hid (Core w wr D sb v acc) /\ Hid (Scan wr sb S k li ls (w.heap.size + 1)) /\ k <= S.size /\ ls <= k /\ li <= k + 1 /\ acc.length <= 8192 /\ Hid (LexAt R (S.data.toList.drop k) li (k - ls + 1) acc)) (fun _ wr => S.size - atOf wr sb)
  case atStart => exact ⟨k0, li0, ls0, [], hc2, hs2, hk, hls, hli, h0l, hat⟩
  case round =>
    clear hc2 hs2 hat hk hls hli
    obtain ⟨k, li, ls, acc, hco, hsc, hk, hls, hli, hal, hat⟩ := hrel
    obtain ⟨a, cap, rfl⟩ := owns_shape hco.out.ow
    have c1 := hsc.out.c1
    have hat1 := hideP (Scan.at hsc.out)
    by_cases hlt : k < S.size
    · have hne : S.data.toList.drop k ≠ [] := by
        rw [byteArray_drop S k hlt]; simp
      have HNE := hideP hne
      clear hne
      go_wp2_with fail
      refine (here_c S sb (w.heap.size + 1) k li ls (by omega) hls _ hsc.out).mono ?_
      rintro e wa ⟨rfl, hga⟩
      have hcoa := hideP (hco.out.none (hga.trans (World.grownBy_alloc wa (.cells #[.int .i64 0, .string ByteArray.empty, .int .i64 li, .int .i64 ((k - ls + 1 : Nat) : Int)] 105) _)))
      have hsca := hideP (hsc.out.kept (hga.trans (World.grownBy_alloc wa (.cells #[.int .i64 0, .string ByteArray.empty, .int .i64 li, .int .i64 ((k - ls + 1 : Nat) : Int)] 105) _)) (by simp))
      have hszw : sb < wa.heap.size := Nat.lt_of_lt_of_le hco.out.sz hga.size
      have hvn : Hid ((Value.slice a acc.length cap).ownBlock ≠ some wa.heap.size) := fun e => by
        have := (own_lt hco.out.ow _ e).2
        have := hga.size
        omega
      have hsbl := hco.out.sbl
      have hw0 := hco.out.w0
      clear hga c1 hco hsc
      unfold tokA
      go_wp2_with fail
      refine (read_c S hS sb (w.heap.size + 1) k li ls hlt wa.heap.size 0 ByteArray.empty li ((k - ls + 1 : Nat) : Int) (by omega) _ hsca.out (heap_alloc_last wa _) hcoa.out.wd (by omega) (by omega) D hcoa.out.mp HD.out (by omega)).mono ?_
      intro e wc hp
      have HP := hideP hp
      clear hp
      cases hrd : readV (S.data.toList.drop k) with
      | inl x =>
        have hp := HP.out
        rw [hrd] at hp
        obtain ⟨rfl, hx, ⟨kd, tx, htb⟩, hu⟩ := hp
        have hbad := lexAt_bad hat.out HNE.out hrd
        have hcoc := hcoa.out.upd hu (by omega) hvn.out
        have t2 := htb.c2
        have t3 := htb.c3
        have hdg := hideP hcoc.dg
        have hbl := hideP hcoc.bl
        have g0 := hcoc.dg.c 0 (by omega)
        have g1 := hcoc.dg.c 1 (by omega)
        have g2 := hcoc.dg.c 2 (by omega)
        have g3 := hcoc.dg.c 3 (by omega)
        simp only [List.getD_cons_zero, List.getD_cons_succ] at g0 g1 g2 g3
        have z0 := hcoc.dg.fz 0
        have z1 := hcoc.dg.fz 1
        have z2 := hcoc.dg.fz 2
        have z3 := hcoc.dg.fz 3
        have x0 : (x == 0) = false := by simpa using hx
        subst hbad
        clear hrd HP hu hcoc hcoa hsca htb
        go_wp2
        go_region
        all_goals
          go_wp2
          refine bodyPost_ret (results_tmp_cell rfl _ rfl (hdg.out.set _ _ _) underlying37 diag_size) rfl ?_
          exact ⟨(below_diag hbl.out _ _ _ _).drew, rfl⟩
      | inr q =>
        obtain ⟨kd, t, rest⟩ := q
        have hp := HP.out
        rw [hrd] at hp
        obtain ⟨rfl, m, hkm, hmS, hrest, hscc, htb, hu⟩ := hp
        have hcoc := hideP (hcoa.out.upd hu (by omega) hvn.out)
        have hscc := hideP hscc
        have HRD := hideP hrd
        have HREST := hideP hrest
        have t0 := htb.c0
        have t1 := htb.c1
        have t2 := htb.c2
        have t3 := htb.c3
        clear hrd HP hu hcoa hsca htb hrest
        by_cases hmany : acc.length = 8192
        · have hm1 : ((acc.length : Int) == 8192) = true := by simp; omega
          have hbad := lexAt_many hat.out HNE.out HRD.out hmany
          have hdg := hideP hcoc.out.dg
          have hbl := hideP hcoc.out.bl
          have g0 := hcoc.out.dg.c 0 (by omega)
          have g1 := hcoc.out.dg.c 1 (by omega)
          have g2 := hcoc.out.dg.c 2 (by omega)
          have g3 := hcoc.out.dg.c 3 (by omega)
          simp only [List.getD_cons_zero, List.getD_cons_succ] at g0 g1 g2 g3
          have z0 := hcoc.out.dg.fz 0
          have z1 := hcoc.out.dg.fz 1
          have z2 := hcoc.out.dg.fz 2
          have z3 := hcoc.out.dg.fz 3
          subst hbad
          go_wp2
          go_region
          all_goals
            go_wp2
            refine bodyPost_ret (results_tmp_cell rfl _ rfl (hdg.out.set _ _ _) underlying37 diag_size) rfl ?_
            exact ⟨(below_diag hbl.out _ _ _ _).drew, rfl⟩
        · have hm1 : ((acc.length : Int) == 8192) = false := by simp; omega
          go_wp2_with (at_builtin; refine wpList_append_own _ rfl (.tmp 39) (.tmp 41) 90 rfl (sb + 1) 105 i0 _ 4 40 underlying90 hi hz0 hz1 hz2 rfl (by decide) _ _ _ rfl (hcoc.out.ow.alloc _) ⟨_, 0, none⟩ 1 1 (Tok.cells ⟨kd, t, li, k - ls + 1⟩) rfl rfl (tok_new _ ⟨kd, t, li, k - ls + 1⟩ 105) (tok_one _) (by unfold maxLen; omega) (by omega) (by have := hcoc.out.sz; simp; omega) ?_)
          intro v' w3 hown' hgrow _
          obtain ⟨hco3, hlow⟩ := hcoc.out.app hown' hgrow
          have hsc3 : Scan w3 sb S m li ls (w.heap.size + 1) := by
            unfold Scan
            rw [hlow sb hcoc.out.sz (Nat.le_refl _)]
            exact hscc.out
          have HCO3 := hideP hco3
          have HSC3 := hideP hsc3
          clear hown' hgrow hco3 hlow hsc3 t0 t1 t2 t3 hcoc hscc
          go_wp2_with fail
          refine (skip_c S hS sb (w.heap.size + 1) m li ls hmS (by omega) (by omega) _ HSC3.out).mono ?_
          rintro e w4 ⟨rfl, k4, li4, ls4, hs4, hg4, hm4, hk4, hls4, hli4, hskip4⟩
          have HCO4 := hideP (HCO3.out.skip hg4)
          have HAT4 : Hid (LexAt R (S.data.toList.drop k4) li4 (k4 - ls4 + 1) (acc ++ [⟨kd, t, li, k - ls + 1⟩])) := by
            refine lexAt_tok hat.out HNE.out HRD.out hmany ?_
            rw [HREST.out, List.length_drop, List.length_drop, byteArray_len]
            rw [show k - ls + 1 + (S.size - k - (S.size - m)) = m - ls + 1 from by omega]
            exact hskip4
          have HS4 := hideP hs4
          clear hg4 hs4 hskip4
          go_wp2
          refine ⟨⟨k4, li4, ls4, acc ++ [⟨kd, t, li, k - ls + 1⟩], HCO4, HS4, hk4, hls4, hli4, by simp; omega, HAT4⟩, ?_⟩
          have e1 := hat1.out
          have e2 := HS4.out.at
          rw [e1, e2]
          omega
    · have hnil : S.data.toList.drop k = [] := List.drop_eq_nil_of_le (by rw [byteArray_len]; omega)
      have hend := hat.out
      rw [hnil] at hend
      have HEND := hideP (lexAt_end hend)
      clear hnil hend
      go_wp2_with fail
      refine (here_c S sb (w.heap.size + 1) k li ls (by omega) hls _ hsc.out).mono ?_
      rintro e wa ⟨rfl, hga⟩
      have hcoa := hideP (hco.out.none hga)
      clear hga c1 hco hsc
      unfold tokA
      go_wp2_with (at_builtin; refine wpList_append_own _ rfl (.tmp 43) (.tmp 45) 90 rfl (sb + 1) 105 i0 _ 4 40 underlying90 hi hz0 hz1 hz2 rfl (by decide) _ _ _ rfl (hcoa.out.ow.alloc _) ⟨_, 0, none⟩ 1 1 (Tok.cells ⟨0, [], li, k - ls + 1⟩) rfl rfl (tok_new _ ⟨0, [], li, k - ls + 1⟩ 105) (tok_one _) (by unfold maxLen; omega) (by omega) (by have := hcoa.out.sz; simp; omega) ?_)
      intro v' w3 hown' hgrow _
      obtain ⟨hco3, hlow⟩ := hcoa.out.app (t := ⟨0, [], li, k - ls + 1⟩) hown' hgrow
      have hdg := hideP hco3.dg
      have hbl := hideP hco3.bl
      have hsbl := hco3.sbl
      obtain ⟨g, cap', rfl⟩ : ∃ g cap', v' = .slice (some ⟨g, 0, none⟩) (acc.length + 1) cap' := by
        rcases hown'.2 with ⟨_, h0⟩ | ⟨g, cap', cur, h1, _⟩
        · omega
        · exact ⟨g, cap', h1⟩
      have hgb := (own_lt hown' g rfl).1
      have how := hideP hco3.ow
      have g0 := hco3.dg.c 0 (by omega)
      have g1 := hco3.dg.c 1 (by omega)
      have g2 := hco3.dg.c 2 (by omega)
      have g3 := hco3.dg.c 3 (by omega)
      simp only [List.getD_cons_zero, List.getD_cons_succ] at g0 g1 g2 g3
      have z0 := hco3.dg.fz 0
      have z1 := hco3.dg.fz 1
      have z2 := hco3.dg.fz 2
      have z3 := hco3.dg.fz 3
      clear hown' hgrow hco3 hlow hcoa
      go_wp2
      refine bodyPost_ret (results_tmp_cell rfl _ rfl (hdg.out.set _ _ _) underlying37 diag_size) rfl ?_
      rw [HEND.out]
      refine ⟨below_diag hbl.out _ _ _ _, g, cap', ?_, ?_⟩
      · simp [diagA]
      · have ho := owns_lower how.out (show w.heap.size <= sb + 1 by omega)
        rw [List.length_append] at ho ⊢
        have hne : ∀ o, (Value.slice (some ⟨g, 0, none⟩) (acc.length + 1) cap').ownBlock ≠ some (⟨w.heap.size, o, none⟩ : Addr).block := fun o e => by
          simp [Value.ownBlock] at e
          omega
        exact ownsRow_setCell_other (ownsRow_setCell_other (ownsRow_setCell_other (ownsRow_setCell_other ho (hne 0) _) (hne 1) _) (hne 2) _) (hne 3) _
/-- Any text. -/
theorem lex_c (S : ByteArray) (hS : S.size <= 140737488351232) (w : World) (hw : Words w) : Calls prog 33 #[.string S] w (LexPost w (lexV S.data.toList)) := by
  by_cases h : S.size <= 65536
  · exact lex_short S h w hw
  · rw [lexV, if_pos (by rw [byteArray_len]; omega)]
    exact lex_long S (by omega) hS w
end Go.Proofs.YtgblonhfidoleaaDoor.Lx
/- A whole text that is a type. -/
namespace Go.Proofs.YtgblonhfidoleaaDoor
open Go.Proofs.Tryd
open Go.RowKit
/-- What a call leaves that reads a whole text; z: what stands for nothing. -/
def WPost {α : Type} (w : World) (z : Value) (rep : Nat -> World -> Value -> α -> Prop) (R : α ⊕ (Int × Nat × Nat)) (e : Ending) (w' : World) : Prop :=
  Below w.heap.size w w' /\ match R with
  | .inl x => ∃ v, e = .returned (.tuple #[v, diagV 0 0 0]) /\ rep w.heap.size w' v x
  | .inr (er, li, co) => e = .returned (.tuple #[z, diagV li co er])
/-- The tokens that lex made, as the parser finds them. -/
theorem toksC_of {w : World} {B e g cap : Nat} {ts : List Tok} (h : w.ownsRow B e 4 (.slice (some ⟨g, 0, none⟩) ts.length cap) ts.length (Lx.tokCells ts)) : ToksC w g ts := fun i hi => by
  have hc : ∀ j, j < 4 -> w.cell? ⟨g, i * 4 + j, none⟩ = (Lx.Tok.cells (tkA ts i))[j]? := fun j hj => by
    rw [h.cellAt (i * 4 + j) (by omega)]
    have hf : ∀ (ts : List Tok) (i : Nat) (hi : i < ts.length), (Lx.tokCells ts)[i * 4 + j]? = (Lx.Tok.cells ts[i])[j]? := by
      intro ts
      induction ts with
      | nil => intro i hi; cases hi
      | cons t r ih =>
        intro i hi
        cases i with
        | zero =>
          rw [Lx.tokCells, List.flatMap_cons, List.getElem?_append_left (by simp [Lx.Tok.cells]; omega)]
          simp
        | succ i =>
          rw [Lx.tokCells, List.flatMap_cons, List.getElem?_append_right (by simp [Lx.Tok.cells]; omega)]
          have := ih i (by simpa using hi)
          rw [Lx.tokCells] at this
          simp only [List.getElem_cons_succ]
          rw [<- this]
          congr 1
          simp [Lx.Tok.cells]
          omega
    rw [hf ts i hi]
    unfold tkA
    rw [List.getD_eq_getElem?_getD, List.getElem?_eq_getElem hi]
    rfl
  exact ⟨hc 0 (by omega), hc 1 (by omega), hc 2 (by omega), hc 3 (by omega)⟩
theorem ps_far4 {w : World} {pb tb cap a d b : Nat} {ts : List Tok} (h : Ps w pb tb cap ts a d) (h1 : b ≠ pb) (h2 : b ≠ tb) (x0 x1 x2 x3 : Value) : Ps ((((w.setCell ⟨b, 0, none⟩ x0).setCell ⟨b, 1, none⟩ x1).setCell ⟨b, 2, none⟩ x2).setCell ⟨b, 3, none⟩ x3) pb tb cap ts a d :=
  ⟨(other_set4 (fun e => h1 e.symm) _ _ _ _).trans h.blk, h.tlt, toksC_keep h.toks (other_set4 (fun e => h2 e.symm) _ _ _ _), h.lt⟩
theorem TyE.drew {lo : Nat} {w : World} {v : Value} {D : Ty} (h : TyE lo w v D) : TyE lo w.drew v D := h.keep (Nat.le_refl _) fun _ _ _ => rfl
/-- What is read in the end. -/
def doneA {α : Type} (r : Pr α) : α ⊕ (Int × Nat × Nat) := match r with
  | .inl (t, _) => .inl t
  | .inr e => .inr e
theorem typeText_toks {l : List UInt8} {ts : List Tok} (h : lexV l = .inl ts) : typeTextV l = doneA (endA ts (kindA ts ts.length 101 0 0)) := by
  unfold typeTextV doneA
  rw [h]
  simp only
  cases endA ts (kindA ts ts.length 101 0 0) <;> rfl
theorem results_cc {fn : Func} {p q : Tmp} {ty ty' : TypeId} (h : fn.results = #[.cell p ty, .cell q ty']) (tmps : Array Value) {P : Program} {w : World} {g g' : Nat} {t t' : TypeId} {cs cs' : Array Value} {fs fs' : Array Field}
    (hp : tmps.getD p undef = .pointer (some ⟨g, 0, none⟩)) (hg : w.heap[g]? = some (.cells cs t)) (hu : P.underlying ty = some (.struct fs)) (hi : (P.info? ty).map (·.size) = some cs.size)
    (hp' : tmps.getD q undef = .pointer (some ⟨g', 0, none⟩)) (hg' : w.heap[g']? = some (.cells cs' t')) (hu' : P.underlying ty' = some (.struct fs')) (hi' : (P.info? ty').map (·.size) = some cs'.size) :
    (results fn tmps).run P w = .ok (.tuple #[.agg cs, .agg cs']) w := by
  have e1 : tmps[p]?.getD undef = .pointer (some ⟨g, 0, none⟩) := by simpa using hp
  have e2 : tmps[q]?.getD undef = .pointer (some ⟨g', 0, none⟩) := by simpa using hp'
  simp [results, h, e1, e2, asAddr, run_loadVar_row w g t ty cs (0, 0) _ hg hu rfl hi, run_loadVar_row w g' t' ty' cs' (0, 0) _ hg' hu' rfl hi']
theorem results_ccd {fn : Func} {p q : Tmp} {ty ty' : TypeId} (h : fn.results = #[.cell p ty, .cell q ty']) (tmps : Array Value) {P : Program} {w : World} {g g' : Nat} {t t' : TypeId} {cs cs' : Array Value} {fs fs' : Array Field}
    (hp : tmps.getD p undef = .pointer (some ⟨g, 0, none⟩)) (hg : w.heap[g]? = some (.cells cs t)) (hu : P.underlying ty = some (.struct fs)) (hi : (P.info? ty).map (·.size) = some cs.size)
    (hp' : tmps.getD q undef = .pointer (some ⟨g', 0, none⟩)) (hg' : w.heap[g']? = some (.cells cs' t')) (hu' : P.underlying ty' = some (.struct fs')) (hi' : (P.info? ty').map (·.size) = some cs'.size) :
    (results fn tmps).run P w.drew = .ok (.tuple #[.agg cs, .agg cs']) w.drew := results_cc h tmps hp (by rw [heap_drew]; exact hg) hu hi hp' (by rw [heap_drew]; exact hg') hu' hi'
end Go.Proofs.YtgblonhfidoleaaDoor
/- What is deferred, of expressions. -/
namespace Go.Proofs.YtgblonhfidoleaaDoor
open Go.Proofs.Tryd
open Go.RowKit
end Go.Proofs.YtgblonhfidoleaaDoor
/- A whole text that is an expression. -/
namespace Go.Proofs.YtgblonhfidoleaaDoor
open Go.Proofs.Tryd
open Go.RowKit
theorem exprText_toks {l : List UInt8} {ts : List Tok} (h : lexV l = .inl ts) : exprTextV l = doneA (endA ts (deepA ts ts.length 101 false 0 0)) := by
  unfold exprTextV doneA
  rw [h]
  simp only
  cases endA ts (deepA ts ts.length 101 false 0 0) <;> rfl
theorem ps_far8 {w : World} {pb tb cap a d b : Nat} {ts : List Tok} (h : Ps w pb tb cap ts a d) (h1 : b ≠ pb) (h2 : b ≠ tb) (x : NV) : Ps (put8 w b x) pb tb cap ts a d :=
  ⟨(put8_other (x := x) (fun e => h1 e.symm)).trans h.blk, h.tlt, toksC_keep h.toks (put8_other (x := x) (fun e => h2 e.symm)), h.lt⟩
theorem NdV.drew {lo : Nat} {w : World} {x : NV} {D : Ty} (h : NdV lo w x D) : NdV lo w.drew x D := h.keep (Nat.le_refl _) fun _ _ _ => rfl
theorem NdV.set4 {lo b : Nat} {w : World} {x : NV} {D : Ty} (h : NdV lo w x D) (hb : b < lo) (x0 x1 x2 x3 : Value) : NdV lo ((((w.setCell ⟨b, 0, none⟩ x0).setCell ⟨b, 1, none⟩ x1).setCell ⟨b, 2, none⟩ x2).setCell ⟨b, 3, none⟩ x3) x D :=
  (((h.set1 hb 0 _).set1 hb 1 _).set1 hb 2 _).set1 hb 3 _
end Go.Proofs.YtgblonhfidoleaaDoor
/- A list of names. -/
namespace Go.Proofs.YtgblonhfidoleaaDoor
open Go.Proofs.Tryd
open Go.RowKit
def StrsE (lo : Nat) (w : World) (v : Value) (xs : List (List UInt8)) : Prop := ∃ cs, RowsC StrC lo 9 1 none w v cs xs
/-- The method of this name reads a name. -/
structure NamesIt (m : String) : Prop where
  meth : ∀ n pb w, (method (n + 1) 88 (.pointer (some ⟨pb, 0, none⟩)) m).run prog w = .ok (47, .pointer (some ⟨pb, 0, none⟩)) w
theorem listS_c (pb tb cap d : Nat) (ts : List Tok) (sep : List UInt8) (m0 : String) (hm0 : NamesIt m0)
    (f a : Nat) (hf : ts.length <= a + (f + 1)) (w : World) (h : Ps w pb tb cap ts a d) (ok : ToksOk ts) :
    Calls prog 48 #[.pointer (some ⟨pb, 0, none⟩), .string ⟨sep.toArray⟩, .func (.methodOf 88 m0) #[] #[]] w (PPost pb tb cap ts d w StrsE (manyA ts (nameA ts) sep (f + 1) a)) := by
  have H := hideP h
  have OK := hideP ok
  have hen := hm0.meth
  clear h ok hm0
  have HO := hideP (pname_c pb tb cap a d ts w H.out OK.out)
  have HF := hideP hf
  clear hf
  cases ho : nameA ts a with
  | inr x =>
    obtain ⟨er, li, co⟩ := x
    rw [many_bad ho]
    rw [ho] at HO
    clear ho
    go_enter func48, ntmps48
    go_wp2_with fail
    refine HO.out.mono ?_
    rintro e w1 ⟨hst, rfl⟩
    have HST := hideP hst
    clear hst
    go_wp2_with fail
    exact ⟨rfl, HST.out, rfl⟩
  | inl x =>
    obtain ⟨D0, a1⟩ := x
    have HM := hideP (many_start (ts := ts) (sep := sep) (f := f) ho)
    have HU := hideP (name_up ho)
    rw [ho] at HO
    clear ho
    obtain ⟨R, hR⟩ : ∃ R, R = manyA ts (nameA ts) sep (f + 1) a := ⟨_, rfl⟩
    rw [<- hR] at HM ⊢
    clear hR
    obtain ⟨i0, hi, hz0, hz1, hz2⟩ := info_parts info_str
    go_enter func48, ntmps48
    go_wp2_with fail
    refine HO.out.mono ?_
    rintro e w1 ⟨hst, hps, v, rfl, hv⟩
    subst hv
    have HR1 := hideP (rows_one (B := w.heap.size) (et := 9) (k := 1) (rep := StrC) (x := D0) (c := [.string ⟨D0.toArray⟩]) (lo := w.heap.size) rfl (Nat.le_refl _) hst.size rfl)
    have HST := hideP (hst.alloc H.out.ltp (.cells #[.string ⟨D0.toArray⟩] 9))
    have HP := hideP (hps.alloc (.cells #[.string ⟨D0.toArray⟩] 9))
    clear hst hps
    have HL0 : Hid (ts.length <= a1 + (f + 1)) := by have := HF.out; have := HU.out; show _ <= _; omega
    go_wp2_with fail
    go_loopg [7] (ts.length - a1) (fun gk s wr => ∃ (b m : Nat) (cs : List (List Value)) (acc : List (List UInt8)), Hid (RowsC StrC w.heap.size 9 1 none wr s cs acc) /\ Hid (Stay pb w wr) /\ Hid (Ps wr pb tb cap ts b d) /\ Hid (ManyAt ts (nameA ts) sep R acc m b) /\ Hid (ts.length <= b + (m + 1)) /\ Hid (acc.length <= b + 1) /\ ts.length - b <= gk)
    case atStart => exact ⟨a1, f, _, _, HR1, HST, HP, HM, HL0, (show 1 <= a1 + 1 by omega), Nat.le_refl _⟩
    case round =>
      clear HR1 HST HP HM HL0 HU HO
      obtain ⟨b, m, cs, acc, HRw, HSt, HPs, HMa, HLe, HAc, hgk⟩ := hrel
      have HT := hideP (take_c pb tb cap b d ts sep wr HPs.out OK.out)
      cases hs : seesA ts b sep with
      | false =>
        have HE := hideP (many_end HMa.out hs)
        rw [hs, if_neg (by simp)] at HT
        clear hs
        go_wp2_with fail
        refine HT.out.mono ?_
        rintro e w2 ⟨rfl, hst, hps⟩
        have HST := hideP (HSt.out.trans hst)
        have HPS := hideP hps
        have HRW := hideP (HRw.out.stay hst H.out.ltp)
        clear hst hps
        go_wp2_with fail
        go_ret
        rw [HE.out]
        exact ⟨HST.out, HPS.out, _, rfl, _, HRW.out⟩
      | true =>
        have hbl : b + 1 < ts.length := sees_next OK.out.ends HPs.out.lt hs
        obtain ⟨m, rfl⟩ : ∃ q, m = q + 1 := ⟨m - 1, by have := HLe.out; omega⟩
        have HSe := hideP hs
        rw [hs, if_pos rfl] at HT
        clear hs
        go_wp2_with fail
        refine HT.out.mono ?_
        rintro e w2 ⟨rfl, hst, hps⟩
        have HST := hideP (HSt.out.trans hst)
        have HPS := hideP hps
        have HRW := hideP (HRw.out.stay hst H.out.ltp)
        clear hst hps
        have HO := hideP (pname_c pb tb cap (b + 1) d ts w2 HPS.out OK.out)
        cases ho : nameA ts (b + 1) with
        | inr x =>
          obtain ⟨er, li, co⟩ := x
          have HE := hideP (many_fail HMa.out HSe.out ho)
          rw [ho] at HO
          clear ho
          go_wp2_with fail
          refine HO.out.mono ?_
          rintro e w3 ⟨hst, rfl⟩
          have HST3 := hideP (HST.out.trans hst)
          clear hst
          go_wp2_with fail
          rw [HE.out]
          exact ⟨rfl, HST3.out, rfl⟩
        | inl x =>
          obtain ⟨D1, b1⟩ := x
          have HM2 := hideP (many_next HMa.out HSe.out ho)
          have HU2 := hideP (name_up ho)
          rw [ho] at HO
          clear ho
          obtain ⟨av, cv, rfl⟩ := row_shape HRW.out.ow
          go_wp2_with fail
          refine HO.out.mono ?_
          rintro e w3 ⟨hst, hps, v, rfl, hv⟩
          subst hv
          have HST3 := hideP (HST.out.trans hst)
          have HPS3 := hideP hps
          have HS23 := hideP hst
          have HRW3 := hideP (HRW.out.stay hst H.out.ltp)
          clear hst hps
          have hac : acc.length <= 8193 := by have := HAc.out; have := OK.out.len; omega
          go_wp2_with (at_builtin; refine wpList_append_own_at _ rfl (.tmp 17) (.tmp 21) 25 rfl w.heap.size 9 i0 _ 1 16 underlying25 hi hz0 hz1 hz2 rfl (by decide) _ _ _ rfl (HRW3.out.ow.alloc _) ⟨_, 0, none⟩ 1 1 [.string ⟨D1.toArray⟩] rfl rfl (cells_newK _ _ _) (by simp [Value.oneCell']) (by unfold maxLen; omega) (by omega) (by have := HST3.out.size; simp; omega) ?_)
          intro v' w4 hown' hgrow _ hloc
          have HR4 : Hid (RowsC StrC w.heap.size 9 1 none w4 v' (cs ++ [[.string ⟨D1.toArray⟩]]) (acc ++ [D1])) :=
            HRW3.out.put hown' hgrow (hloc.imp_right fun e => ⟨_, e, by simp⟩) ((Stay.refl pb w3).alloc HPS3.out.ltp _) H.out.ltp rfl ((Made.new (rep := StrC) (lo := w2.heap.size) (x := D1) rfl HST.out.size fun q hq => HRW.out.all q hq).stay ((Stay.refl pb w3).alloc HPS3.out.ltp _) H.out.ltp)
          have HST4 : Hid (Stay pb w w4) := (HST3.out.alloc H.out.ltp _).grown hgrow H.out.ltp fun q hq => (HRW3.out.own q hq).1
          have HPS4 : Hid (Ps w4 pb tb cap ts b1 d) := (HPS3.out.alloc _).grown hgrow fun q hq => Nat.lt_of_lt_of_le H.out.ltp (HRW3.out.own q hq).1
          clear hown' hgrow hloc
          go_wp2_with fail
          go_roundg (ts.length - b1)
          case measure => have := HU2.out; have := HPS4.out.lt; omega
          case rel => exact ⟨b1, m, _, _, HR4, HST4, HPS4, HM2, (by have := HLe.out; have := HU2.out; show _ <= _; omega), (by have := HAc.out; have := HU2.out; show (acc ++ [D1]).length <= _; simp; omega), Nat.le_refl _⟩
end Go.Proofs.YtgblonhfidoleaaDoor
