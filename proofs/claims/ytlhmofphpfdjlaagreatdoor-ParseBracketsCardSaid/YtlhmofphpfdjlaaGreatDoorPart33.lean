/- Part. -/
import Derived.Test.YtlhmofphpfdjlaaGreatDoorPart32
set_option maxRecDepth 100000
set_option maxHeartbeats 4000000
/- lex.Lex by a contract: the tokens of the text, or what is wrong first. -/
namespace Go.Proofs.YtlhmofphpfdjlaaGreatDoor.Lx
open Go.Proofs.Tryz
open Go.RowKit
def Tok.cells (t : Tok) : List Value := [.int .i64 t.kind, .string ⟨t.text.toArray⟩, .int .i64 t.line, .int .i64 t.col]
def tokCells (ts : List Tok) : List Value := ts.flatMap Tok.cells
theorem tokCells_snoc (ts : List Tok) (t : Tok) : tokCells (ts ++ [t]) = tokCells ts ++ Tok.cells t := by simp [tokCells]
def diagA (li co e : Int) : Value := .agg #[.int .i64 0, .int .i64 li, .int .i64 co, .int .i64 e]
/-- What a call of Lex leaves. -/
def LexPost (w : World) (R : Lx) (e : Ending) (w' : World) : Prop :=
  Below w.heap.size w w' /\ match R with
  | .inr (x, li, co) => e = .returned (.tuple #[.slice none 0 0, diagA li co x])
  | .inl ts => ∃ g cap, e = .returned (.tuple #[.slice (some ⟨g, 0, none⟩) ts.length cap, diagA 0 0 0]) /\ w'.ownsRow w.heap.size 98 4 (.slice (some ⟨g, 0, none⟩) ts.length cap) ts.length (tokCells ts)
theorem results_tmp_cell {fn : Func} {p u : Tmp} {ty : TypeId} (h : fn.results = #[.tmp u, .cell p ty]) (tmps : Array Value) {P : Program} {w : World} {g : Nat} {t : TypeId} {cs : Array Value} {fr : Nat × Nat} {fs : Array Field}
    (hp : tmps.getD p undef = .pointer (some ⟨g, 0, none⟩)) (hg : w.heap[g]? = some (.cells cs t fr))
    (hu : P.underlying ty = some (.struct fs)) (hi : (P.info? ty).map (·.size) = some cs.size) :
    (results fn tmps).run P w = .ok (.tuple #[tmps.getD u undef, .agg cs]) w := by
  have hp' : tmps[p]?.getD undef = .pointer (some ⟨g, 0, none⟩) := by simpa using hp
  simp [results, h, hp', asAddr, run_loadVar_row w g t ty cs fr _ hg hu rfl hi]
theorem diag_size : (prog.info? 30).map (·.size) = some 4 := by kernel_rfl
theorem info_tok : (prog.info? 98).map (fun i => (i.zero, i.size, i.bytes)) = some (some (.agg #[.int .i64 0, .string { data := #[] }, .int .i64 0, .int .i64 0]), 4, 40) := by kernel_rfl
theorem lex_long (S : ByteArray) (hS : 65536 < S.size) (hS2 : S.size <= 140737488351232) (w : World) :
    Calls prog 22 #[.string S] w (LexPost w (.bad 2 1 1)) := by
  go_enter func22, ntmps22
  go_wp2
  refine bodyPost_ret (results_tmp_cell rfl _ rfl (heap_alloc_last w _) underlying30 diag_size) rfl ?_
  exact ⟨(Below.refl _ w).alloc (Nat.le_refl _) _, rfl⟩
/-- Block b is a Diag. -/
def DiagB (w : World) (b : Nat) (li co e : Int) : Prop := w.heap[b]? = some (.cells #[.int .i64 0, .int .i64 li, .int .i64 co, .int .i64 e] 30 (0, 0))
section
variable {w : World} {b : Nat} {li co e : Int}
theorem DiagB.c (h : DiagB w b li co e) (o : Nat) (ho : o < 4) : w.cell? ⟨b, o, none⟩ = some (([.int .i64 0, .int .i64 li, .int .i64 co, .int .i64 e] : List Value).getD o undef) := by
  unfold DiagB at h
  match o, ho with
  | 0, _ => simp [World.cell?, h]
  | 1, _ => simp [World.cell?, h]
  | 2, _ => simp [World.cell?, h]
  | 3, _ => simp [World.cell?, h]
theorem DiagB.fz (h : DiagB w b li co e) (o : Nat) : w.frozen? ⟨b, o, none⟩ = false := by unfold DiagB at h; simp [World.frozen?, h]
theorem DiagB.set (h : DiagB w b li co e) (li' co' e' : Int) : DiagB ((((w.setCell ⟨b, 0, none⟩ (.int .i64 0)).setCell ⟨b, 1, none⟩ (.int .i64 li')).setCell ⟨b, 2, none⟩ (.int .i64 co')).setCell ⟨b, 3, none⟩ (.int .i64 e')) b li' co' e' :=
  cells_setCell (cells_setCell (cells_setCell (cells_setCell h)))
end
theorem below_diag {a w : World} {b : Nat} (h : Below b a w) (x y z u : Value) : Below b a ((((w.setCell ⟨b, 0, none⟩ x).setCell ⟨b, 1, none⟩ y).setCell ⟨b, 2, none⟩ z).setCell ⟨b, 3, none⟩ u) :=
  (((h.setCell (Nat.le_refl _) _).setCell (Nat.le_refl _) _).setCell (Nat.le_refl _) _).setCell (Nat.le_refl _) _
/-- What of the call's own memory stays through a round: the map of signs, the Diag, the tokens so far. -/
structure Core (w wr : World) (D : DataW Unit) (sb : Nat) (v : Value) (acc : List Tok) : Prop where
  mp : wr.ownsMap prog 136 unitElem (w.heap.size + 1) 8 D
  dg : DiagB wr w.heap.size 0 0 0
  bl : Below w.heap.size w wr
  wd : Words wr
  ow : wr.ownsRow (sb + 1) 98 4 v acc.length (tokCells acc)
  sbl : w.heap.size + 2 <= sb
  sz : sb < wr.heap.size
  w0 : 4 < w.heap.size
theorem own_lt {w : World} {B e z n : Nat} {v : Value} {xs : List Value} (h : w.ownsRow B e z v n xs) : ∀ j, v.ownBlock = some j -> B <= j /\ j < w.heap.size := by
  intro j hj
  rcases h.2 with ⟨h1, h2⟩ | ⟨g, cap, cur, h1, h2, h3, _⟩
  · rw [h1] at hj; cases hj
  · rw [h1] at hj
    simp [Value.ownBlock] at hj
    have := lt_of_block h3
    omega
section
variable {w wr wr' : World} {D : DataW Unit} {sb : Nat} {v : Value} {acc : List Tok}
theorem Core.upd (h : Core w wr D sb v acc) {tb : Nat} (hu : Upd wr wr' sb tb) (ht : sb + 1 <= tb) (hv : v.ownBlock ≠ some tb) : Core w wr' D sb v acc where
  mp := hu.map h.mp (by have := h.sbl; omega) (by have := h.sbl; omega)
  dg := by
    have := h.sbl
    have := h.sz
    unfold DiagB
    rw [hu.block _ (by omega) (by omega) (by omega)]
    exact h.dg
  bl := h.bl.trans (hu.below h.bl.size (by have := h.sbl; omega) (by have := h.sbl; omega))
  wd := hu.words h.wd (by have := h.sbl; have := h.w0; omega) (by have := h.sbl; have := h.w0; omega)
  ow := hu.owns h.ow (fun e => by have := (own_lt h.ow _ e).1; omega) hv
  sbl := h.sbl
  sz := Nat.lt_of_lt_of_le h.sz hu.size
  w0 := h.w0
/-- A block that there is not. -/
theorem Core.none (h : Core w wr D sb v acc) (hg : wr.grownBy wr' none) : Core w wr' D sb v acc :=
  h.upd (tb := wr.heap.size) (Upd.ofNone hg sb _) h.sz (fun e => by have := (own_lt h.ow _ e).2; omega)
theorem Core.skip (h : Core w wr D sb v acc) (hg : wr.grownBy wr' (some sb)) : Core w wr' D sb v acc :=
  h.upd (tb := wr.heap.size) (Upd.ofL hg _) h.sz (fun e => by have := (own_lt h.ow _ e).2; omega)
theorem Core.app (h : Core w wr D sb v acc) {ob : Obj} {v' : Value} {w1 : World} {t : Tok} (ho : w1.ownsRow (sb + 1) 98 4 v' (acc.length + 1) (tokCells acc ++ Tok.cells t)) (hg : (wr.alloc ob).grownBy w1 v.ownBlock) : Core w w1 D sb v' (acc ++ [t]) /\
    ∀ i, i < wr.heap.size -> i <= sb -> w1.heap[i]? = wr.heap[i]? := by
  have hlow : ∀ i, i < wr.heap.size -> i <= sb -> w1.heap[i]? = wr.heap[i]? := fun i hi hle => by
    rw [hg.block i (by simp; omega) (fun e => by have := (own_lt h.ow _ e.symm).1; omega), Below.heap_alloc _ _ _ hi]
  have hsz := h.sz
  have hsbl := h.sbl
  have hw0 := h.w0
  refine ⟨⟨?_, ?_, ?_, ?_, ?_, hsbl, ?_, hw0⟩, hlow⟩
  · obtain ⟨es, clock, hh, r⟩ := h.mp
    exact ⟨es, clock, by rw [hlow _ (lt_of_block hh) (by omega)]; exact hh, r⟩
  · unfold DiagB
    rw [hlow _ (by omega) (by omega)]
    exact h.dg
  · refine (h.bl.alloc h.bl.size _).grown hg (by have := h.bl.size; simp; omega) fun j hj => ?_
    have := (own_lt h.ow _ hj).1
    omega
  · intro i hi
    rw [World.cell?_of_block (w := wr) (hlow 4 (by omega) (by omega))]
    exact h.wd i hi
  · rw [List.length_append, tokCells_snoc]
    exact ho
  · have := hg.size
    simp at this
    omega
end
theorem tok_new (W : World) (t : Tok) (ty : TypeId) : ∀ j u, (Tok.cells t)[j]? = some u -> (W.alloc (.cells #[.int .i64 t.kind, .string ⟨t.text.toArray⟩, .int .i64 t.line, .int .i64 t.col] ty)).cell? ((⟨W.heap.size, 0, none⟩ : Addr).add j) = some u := by
  intro j u hj
  have hadd : (⟨W.heap.size, 0, none⟩ : Addr).add j = ⟨W.heap.size, j, none⟩ := by unfold Addr.add; split <;> simp_all
  rw [hadd, cell_of_row _ _ j _ ty (0, 0) (heap_alloc_last W _)]
  simpa [Tok.cells] using hj
theorem tok_one (t : Tok) : ∀ u ∈ Tok.cells t, u.oneCell' = true := by
  intro u hu
  simp [Tok.cells] at hu
  rcases hu with rfl | rfl | rfl | rfl <;> rfl
theorem owns_lower {w : World} {B B' e z n : Nat} {v : Value} {xs : List Value} (h : w.ownsRow B e z v n xs) (hB : B' <= B) : w.ownsRow B' e z v n xs := by
  obtain ⟨h1, h2⟩ := h
  refine ⟨h1, ?_⟩
  rcases h2 with h2 | ⟨g, cap, cur, rfl, hg, hh, r⟩
  · exact .inl h2
  · exact .inr ⟨g, cap, cur, rfl, by omega, hh, r⟩
theorem lex_short (S : ByteArray) (hS : S.size <= 65536) (w : World) (hw : Words w) :
    Calls prog 22 #[.string S] w (LexPost w (lexV S.data.toList)) := by
  obtain ⟨R, hR⟩ : ∃ R, R = lexV S.data.toList := ⟨_, rfl⟩
  rw [<- hR]
  have HR := hideP hR
  have HW := hideP hw
  clear hR hw
  go_enter func22, ntmps22
  go_wp2_with fail
  refine (twoByteSigns_c _).mono ?_
  rintro e w1 ⟨rfl, D, hown, hD, hb⟩
  have HD := hideP hD
  have hsz := hown.lt
  simp only [World.size_alloc] at hown hsz hb
  have hcore : Hid (Core w (w1.alloc (.cells #[.string S, .int .i64 0, .int .i64 1, .int .i64 0, .map (some (w.heap.size + 1))] 96)) D w1.heap.size (.slice none 0 0) []) := by
    have hb1 : Below w.heap.size w w1 := (((Below.refl _ w).alloc (Nat.le_refl _) _).trans (hb.mono (Nat.le_succ _)))
    refine ⟨hown.alloc _, ?_, hb1.alloc hb1.size _, ?_, World.ownsRow_nil _ _ _ _, by omega, by simp, HW.out.lt⟩
    · unfold DiagB
      rw [Below.heap_alloc _ _ _ (by omega), hb.block w.heap.size (Nat.lt_succ_self _)]
      exact heap_alloc_last w _
    · exact HW.out.below (hb1.alloc hb1.size _)
  clear hD hown hb
  go_wp2_with fail
  refine (skip_c S hS w1.heap.size (w.heap.size + 1) 0 1 0 (by omega) (by omega) (by omega) _ (heap_alloc_last w1 _)).mono ?_
  rintro e w2 ⟨rfl, k0, li0, ls0, hsc, hg, _, hk, hls, hli, hskip⟩
  have hc2 := hideP (hcore.out.skip hg)
  have hat := hideP (lexAt_start (l := S.data.toList) (by rw [byteArray_len]; exact hS) hskip)
  have hs2 := hideP hsc
  have h0l : ([] : List Tok).length <= 8192 := by simp
  rw [<- HR.out] at hat
  clear hcore hg hskip hsc
  obtain ⟨i0, hi, hz0, hz1, hz2⟩ := info_parts info_tok
  obtain ⟨sb, hsb⟩ : ∃ sb, sb = w1.heap.size := ⟨_, rfl⟩
  rw [<- hsb] at hc2 hs2 ⊢
  clear hsb hsz
  go_wp2
  go_loopw [5] (fun v wr => ∃ (k li ls : Nat) (acc : List Tok), Hid (Core w wr D sb v acc) /\ Hid (Scan wr sb S k li ls (w.heap.size + 1)) /\ k <= S.size /\ ls <= k /\ li <= k + 1 /\ acc.length <= 8192 /\ Hid (LexAt R (S.data.toList.drop k) li (k - ls + 1) acc)) (fun _ wr => S.size - atOf wr sb)
  case atStart => exact ⟨k0, li0, ls0, [], hc2, hs2, hk, hls, hli, h0l, hat⟩
  case round =>
    clear hc2 hs2 hat hk hls hli
    obtain ⟨k, li, ls, acc, hco, hsc, hk, hls, hli, hal, hat⟩ := hrel
    obtain ⟨a, cap, rfl⟩ := owns_shape hco.out.ow
    have c1 := hsc.out.c1
    have hat1 := hideP (Scan.at hsc.out)
    by_cases hlt : k < S.size
    · have hne : S.data.toList.drop k ≠ [] := by
        rw [byteArray_drop S k hlt]; simp
      have HNE := hideP hne
      clear hne
      go_wp2_with fail
      refine (here_c S sb (w.heap.size + 1) k li ls (by omega) hls _ hsc.out).mono ?_
      rintro e wa ⟨rfl, hga⟩
      have hcoa := hideP (hco.out.none (hga.trans (World.grownBy_alloc wa (.cells #[.int .i64 0, .string ByteArray.empty, .int .i64 li, .int .i64 ((k - ls + 1 : Nat) : Int)] 98) _)))
      have hsca := hideP (hsc.out.kept (hga.trans (World.grownBy_alloc wa (.cells #[.int .i64 0, .string ByteArray.empty, .int .i64 li, .int .i64 ((k - ls + 1 : Nat) : Int)] 98) _)) (by simp))
      have hszw : sb < wa.heap.size := Nat.lt_of_lt_of_le hco.out.sz hga.size
      have hvn : Hid ((Value.slice a acc.length cap).ownBlock ≠ some wa.heap.size) := fun e => by
        have := (own_lt hco.out.ow _ e).2
        have := hga.size
        omega
      have hsbl := hco.out.sbl
      have hw0 := hco.out.w0
      clear hga c1 hco hsc
      unfold tokA
      go_wp2_with fail
      refine (read_c S hS sb (w.heap.size + 1) k li ls hlt wa.heap.size 0 ByteArray.empty li ((k - ls + 1 : Nat) : Int) (by omega) _ hsca.out (heap_alloc_last wa _) hcoa.out.wd (by omega) (by omega) D hcoa.out.mp HD.out (by omega)).mono ?_
      intro e wc hp
      have HP := hideP hp
      clear hp
      cases hrd : readV (S.data.toList.drop k) with
      | inl x =>
        have hp := HP.out
        rw [hrd] at hp
        obtain ⟨rfl, hx, ⟨kd, tx, htb⟩, hu⟩ := hp
        have hbad := lexAt_bad hat.out HNE.out hrd
        have hcoc := hcoa.out.upd hu (by omega) hvn.out
        have t2 := htb.c2
        have t3 := htb.c3
        have hdg := hideP hcoc.dg
        have hbl := hideP hcoc.bl
        have g0 := hcoc.dg.c 0 (by omega)
        have g1 := hcoc.dg.c 1 (by omega)
        have g2 := hcoc.dg.c 2 (by omega)
        have g3 := hcoc.dg.c 3 (by omega)
        simp only [List.getD_cons_zero, List.getD_cons_succ] at g0 g1 g2 g3
        have z0 := hcoc.dg.fz 0
        have z1 := hcoc.dg.fz 1
        have z2 := hcoc.dg.fz 2
        have z3 := hcoc.dg.fz 3
        have x0 : (x == 0) = false := by simpa using hx
        subst hbad
        clear hrd HP hu hcoc hcoa hsca htb
        go_wp2
        go_region
        all_goals
          go_wp2
          refine bodyPost_ret (results_tmp_cell rfl _ rfl (hdg.out.set _ _ _) underlying30 diag_size) rfl ?_
          exact ⟨(below_diag hbl.out _ _ _ _).drew, rfl⟩
      | inr q =>
        obtain ⟨kd, t, rest⟩ := q
        have hp := HP.out
        rw [hrd] at hp
        obtain ⟨rfl, m, hkm, hmS, hrest, hscc, htb, hu⟩ := hp
        have hcoc := hideP (hcoa.out.upd hu (by omega) hvn.out)
        have hscc := hideP hscc
        have HRD := hideP hrd
        have HREST := hideP hrest
        have t0 := htb.c0
        have t1 := htb.c1
        have t2 := htb.c2
        have t3 := htb.c3
        clear hrd HP hu hcoa hsca htb hrest
        by_cases hmany : acc.length = 8192
        · have hm1 : ((acc.length : Int) == 8192) = true := by simp; omega
          have hbad := lexAt_many hat.out HNE.out HRD.out hmany
          have hdg := hideP hcoc.out.dg
          have hbl := hideP hcoc.out.bl
          have g0 := hcoc.out.dg.c 0 (by omega)
          have g1 := hcoc.out.dg.c 1 (by omega)
          have g2 := hcoc.out.dg.c 2 (by omega)
          have g3 := hcoc.out.dg.c 3 (by omega)
          simp only [List.getD_cons_zero, List.getD_cons_succ] at g0 g1 g2 g3
          have z0 := hcoc.out.dg.fz 0
          have z1 := hcoc.out.dg.fz 1
          have z2 := hcoc.out.dg.fz 2
          have z3 := hcoc.out.dg.fz 3
          subst hbad
          go_wp2
          go_region
          all_goals
            go_wp2
            refine bodyPost_ret (results_tmp_cell rfl _ rfl (hdg.out.set _ _ _) underlying30 diag_size) rfl ?_
            exact ⟨(below_diag hbl.out _ _ _ _).drew, rfl⟩
        · have hm1 : ((acc.length : Int) == 8192) = false := by simp; omega
          go_wp2_with (at_builtin; refine wpList_append_own _ rfl (.tmp 39) (.tmp 41) 66 rfl (sb + 1) 98 i0 _ 4 40 underlying66 hi hz0 hz1 hz2 rfl (by decide) _ _ _ rfl (hcoc.out.ow.alloc _) ⟨_, 0, none⟩ 1 1 (Tok.cells ⟨kd, t, li, k - ls + 1⟩) rfl rfl (tok_new _ ⟨kd, t, li, k - ls + 1⟩ 98) (tok_one _) (by unfold maxLen; omega) (by omega) (by have := hcoc.out.sz; simp; omega) ?_)
          intro v' w3 hown' hgrow _
          obtain ⟨hco3, hlow⟩ := hcoc.out.app hown' hgrow
          have hsc3 : Scan w3 sb S m li ls (w.heap.size + 1) := by
            unfold Scan
            rw [hlow sb hcoc.out.sz (Nat.le_refl _)]
            exact hscc.out
          have HCO3 := hideP hco3
          have HSC3 := hideP hsc3
          clear hown' hgrow hco3 hlow hsc3 t0 t1 t2 t3 hcoc hscc
          go_wp2_with fail
          refine (skip_c S hS sb (w.heap.size + 1) m li ls hmS (by omega) (by omega) _ HSC3.out).mono ?_
          rintro e w4 ⟨rfl, k4, li4, ls4, hs4, hg4, hm4, hk4, hls4, hli4, hskip4⟩
          have HCO4 := hideP (HCO3.out.skip hg4)
          have HAT4 : Hid (LexAt R (S.data.toList.drop k4) li4 (k4 - ls4 + 1) (acc ++ [⟨kd, t, li, k - ls + 1⟩])) := by
            refine lexAt_tok hat.out HNE.out HRD.out hmany ?_
            rw [HREST.out, List.length_drop, List.length_drop, byteArray_len]
            rw [show k - ls + 1 + (S.size - k - (S.size - m)) = m - ls + 1 from by omega]
            exact hskip4
          have HS4 := hideP hs4
          clear hg4 hs4 hskip4
          go_wp2
          refine ⟨⟨k4, li4, ls4, acc ++ [⟨kd, t, li, k - ls + 1⟩], HCO4, HS4, hk4, hls4, hli4, by simp; omega, HAT4⟩, ?_⟩
          have e1 := hat1.out
          have e2 := HS4.out.at
          rw [e1, e2]
          omega
    · have hnil : S.data.toList.drop k = [] := List.drop_eq_nil_of_le (by rw [byteArray_len]; omega)
      have hend := hat.out
      rw [hnil] at hend
      have HEND := hideP (lexAt_end hend)
      clear hnil hend
      go_wp2_with fail
      refine (here_c S sb (w.heap.size + 1) k li ls (by omega) hls _ hsc.out).mono ?_
      rintro e wa ⟨rfl, hga⟩
      have hcoa := hideP (hco.out.none hga)
      clear hga c1 hco hsc
      unfold tokA
      go_wp2_with (at_builtin; refine wpList_append_own _ rfl (.tmp 43) (.tmp 45) 66 rfl (sb + 1) 98 i0 _ 4 40 underlying66 hi hz0 hz1 hz2 rfl (by decide) _ _ _ rfl (hcoa.out.ow.alloc _) ⟨_, 0, none⟩ 1 1 (Tok.cells ⟨0, [], li, k - ls + 1⟩) rfl rfl (tok_new _ ⟨0, [], li, k - ls + 1⟩ 98) (tok_one _) (by unfold maxLen; omega) (by omega) (by have := hcoa.out.sz; simp; omega) ?_)
      intro v' w3 hown' hgrow _
      obtain ⟨hco3, hlow⟩ := hcoa.out.app (t := ⟨0, [], li, k - ls + 1⟩) hown' hgrow
      have hdg := hideP hco3.dg
      have hbl := hideP hco3.bl
      have hsbl := hco3.sbl
      obtain ⟨g, cap', rfl⟩ : ∃ g cap', v' = .slice (some ⟨g, 0, none⟩) (acc.length + 1) cap' := by
        rcases hown'.2 with ⟨_, h0⟩ | ⟨g, cap', cur, h1, _⟩
        · omega
        · exact ⟨g, cap', h1⟩
      have hgb := (own_lt hown' g rfl).1
      have how := hideP hco3.ow
      have g0 := hco3.dg.c 0 (by omega)
      have g1 := hco3.dg.c 1 (by omega)
      have g2 := hco3.dg.c 2 (by omega)
      have g3 := hco3.dg.c 3 (by omega)
      simp only [List.getD_cons_zero, List.getD_cons_succ] at g0 g1 g2 g3
      have z0 := hco3.dg.fz 0
      have z1 := hco3.dg.fz 1
      have z2 := hco3.dg.fz 2
      have z3 := hco3.dg.fz 3
      clear hown' hgrow hco3 hlow hcoa
      go_wp2
      refine bodyPost_ret (results_tmp_cell rfl _ rfl (hdg.out.set _ _ _) underlying30 diag_size) rfl ?_
      rw [HEND.out]
      refine ⟨below_diag hbl.out _ _ _ _, g, cap', ?_, ?_⟩
      · simp [diagA]
      · have ho := owns_lower how.out (show w.heap.size <= sb + 1 by omega)
        rw [List.length_append] at ho ⊢
        have hne : ∀ o, (Value.slice (some ⟨g, 0, none⟩) (acc.length + 1) cap').ownBlock ≠ some (⟨w.heap.size, o, none⟩ : Addr).block := fun o e => by
          simp [Value.ownBlock] at e
          omega
        exact ownsRow_setCell_other (ownsRow_setCell_other (ownsRow_setCell_other (ownsRow_setCell_other ho (hne 0) _) (hne 1) _) (hne 2) _) (hne 3) _
/-- Any text. -/
theorem lex_c (S : ByteArray) (hS : S.size <= 140737488351232) (w : World) (hw : Words w) : Calls prog 22 #[.string S] w (LexPost w (lexV S.data.toList)) := by
  by_cases h : S.size <= 65536
  · exact lex_short S h w hw
  · rw [lexV, if_pos (by rw [byteArray_len]; omega)]
    exact lex_long S (by omega) hS w
end Go.Proofs.YtlhmofphpfdjlaaGreatDoor.Lx
