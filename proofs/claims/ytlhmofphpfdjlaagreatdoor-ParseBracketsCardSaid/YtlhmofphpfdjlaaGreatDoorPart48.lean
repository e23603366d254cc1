/- Part. -/
import Derived.Deep.RegionLaw
import Derived.Test.YtlhmofphpfdjlaaGreatDoorPart47
set_option maxRecDepth 100000
set_option maxHeartbeats 4000000
/- A module by its contract. -/
namespace Go.Proofs.YtlhmofphpfdjlaaGreatDoor
open Go.Proofs.Tryz
open Go.RowKit
attribute [local go_sem ↓] Go.wp_at_zero Go.wp_at_succ
theorem module_c (pb tb cap : Nat) (ts : List Tok) (ok : ToksOk ts) (w : World) (h : Ps w pb tb cap ts 0 0) :
    Calls prog 19 #[.pointer (some ⟨pb, 0, none⟩)] w (PPost pb tb cap ts 0 w ModE (moduleP ts)) := by
  have OK := hideP ok
  have hp := h.ltp
  have X0 : Hid (ModX pb tb cap ts w ((w.alloc zMod).alloc zMod) 0 (.slice none 0 0) (.slice none 0 0)) :=
    ⟨((Stay.refl pb w).alloc hp _).alloc hp _, (h.alloc _).alloc _, hp, (Below.heap_alloc _ _ _ (by simp)).trans (heap_alloc_last w _), heap_at1 w _ _⟩
  obtain ⟨R, hR⟩ : ∃ R : Pr (List Ty × List Ty), R = moduleP ts := ⟨_, rfl⟩
  rw [<- hR]
  have HA0 : Hid (AtI ts R [] ts.length 0) := by rw [hR]; exact atI_start ts
  clear h ok hR
  go_enter func19, ntmps19
  go_wp2_with fail
  obtain ⟨i0, hi, hz0, hz1, hz2⟩ := info_parts info_imp
  obtain ⟨i1, hi', hz0', hz1', hz2'⟩ := info_parts info_dec
  go_loopg [4] (ts.length) (fun gk _ wr => ∃ (b m : Nat) (v : Value) (cs : List (List Value)) (acc : List Ty), Hid (ModX pb tb cap ts w wr b v (.slice none 0 0)) /\ Hid (RowsC ImpC (w.heap.size + 2) 55 4 none wr v cs acc) /\ Hid (AtI ts R acc m b) /\ Hid (ts.length <= b + m) /\ Hid (acc.length <= b) /\ ts.length - b <= gk)
  case atStart => exact ⟨0, ts.length, _, [], [], X0, rows_nil _ _ _ _ _, HA0, (by show _ <= _; omega), Nat.le_refl _, by omega⟩
  case round =>
    clear X0 HA0
    obtain ⟨b, m, v, cs, acc, X, RW, HA, HLe, HAc, hgk⟩ := hrel
    have hbt := X.out.ps.lt
    obtain ⟨m, rfl⟩ : ∃ q, m = q + 1 := ⟨m - 1, by have := HLe.out; omega⟩
    go_wp2_with fail
    refine (is_new pb tb cap b _ 1 ts [[105, 109, 112, 111, 114, 116]] _ _ X.out.ps.rd (by simp) (by simp)).mono ?_
    rintro e w2 ⟨rfl, hb2⟩
    have X2 := hideP (X.out.below hb2)
    have RW2 := hideP (RW.out.stay (Stay.of X.out.ps.ltp hb2) (show pb < w.heap.size + 2 by omega))
    clear hb2
    simp only [List.any_cons, List.any_nil, Bool.or_false]
    cases hs : seesA ts b [105, 109, 112, 111, 114, 116] with
    | false =>
      have HD := hideP (atI_end HA.out hs)
      clear hs
      clear X RW HA HLe hbt
      obtain ⟨wo, hwo⟩ : ∃ wo, wo = w2 := ⟨_, rfl⟩
      rw [<- hwo] at X2 RW2 ⊢
      clear hwo
      obtain ⟨is, his⟩ : ∃ is, is = acc := ⟨_, rfl⟩
      have hil : is.length <= 8193 := by have := HAc.out; have := OK.out.len; have := X2.out.ps.lt; rw [his]; omega
      rw [<- his] at RW2 HD
      clear his
      obtain ⟨ia, ic, rfl⟩ := row_shape RW2.out.ow
      have hb2 := X2.out.ps.lt
      go_wp2_with fail
      go_loopg [16] (ts.length) (fun gk _ wr => ∃ (b m : Nat) (v : Value) (cd : List (List Value)) (acc : List Ty), Hid (ModX pb tb cap ts w wr b (.slice ia is.length ic) v) /\ Hid (RowsC ImpC (w.heap.size + 2) 55 4 v.ownBlock wr (.slice ia is.length ic) cs is) /\ Hid (RowsC DeclC (w.heap.size + 2) 40 15 none wr v cd acc) /\ Hid (AtD ts R is acc m b) /\ Hid (ts.length + 1 <= b + m) /\ Hid (acc.length <= b) /\ ts.length - b <= gk)
      case atStart => exact ⟨b, ts.length + 1, .slice none 0 0, [], [], X2, RW2, rows_nil _ _ _ _ _, HD, (by show _ <= _; omega), Nat.zero_le _, by omega⟩
      case round =>
        clear X2 RW2 HD HAc hb2
        obtain ⟨b, m, v, cd, acc, X, RI, RW, HA, HLe, HAc, hgk⟩ := hrel
        have hbt := X.out.ps.lt
        obtain ⟨m, rfl⟩ : ∃ q, m = q + 1 := ⟨m - 1, by have := HLe.out; omega⟩
        go_wp2_with fail
        refine (is_new pb tb cap b _ 2 ts [[101, 120, 112, 111, 114, 116], [102, 110]] _ _ X.out.ps.rd (by simp) (by simp)).mono ?_
        rintro e w3 ⟨rfl, hb3⟩
        have X2 := hideP (X.out.below hb3)
        have RI2 := hideP (RI.out.stay (Stay.of X.out.ps.ltp hb3) (show pb < w.heap.size + 2 by omega))
        have RW2 := hideP (RW.out.stay (Stay.of X.out.ps.ltp hb3) (show pb < w.heap.size + 2 by omega))
        clear hb3
        simp only [List.any_cons, List.any_nil, Bool.or_false]
        have hac : acc.length <= 8193 := by have := HAc.out; have := OK.out.len; omega
        cases hs : (seesA ts b [101, 120, 112, 111, 114, 116] || seesA ts b [102, 110]) with
        | false =>
          have HD := hideP (atD_end HA.out hs)
          clear hs X RI RW HA HLe
          obtain ⟨da, dc, rfl⟩ := row_shape RW2.out.ow
          obtain ⟨⟨c0, c1⟩, ⟨z0, z1⟩, hcl⟩ := box2 X2.out.box
          obtain ⟨⟨r0, r1⟩, ⟨f0, f1⟩, hrl⟩ := box2 X2.out.res
          go_wp2_with fail
          rw [HD.out]
          have hI := (rows_set (rows_set RI2.out (q := w.heap.size) (by omega) 0 (.slice ia is.length ic)) (q := w.heap.size) (by omega) 1 (.slice da acc.length dc)).form impC_k
          have hD := (rows_set (rows_set RW2.out (q := w.heap.size) (by omega) 0 (.slice ia is.length ic)) (q := w.heap.size) (by omega) 1 (.slice da acc.length dc)).form declC_k
          obtain ⟨ia', ic', e1, _, hI⟩ := hI
          obtain ⟨da', dc', e2, _, hD⟩ := hD
          injection e1 with e1 _ _
          injection e2 with e2 _ _
          subst e1 e2
          refine bodyPost_ret (results_cell_row rfl _ _ w.heap.size 36 _ (0, 0) _ rfl (put2_heap X2.out.res (.slice ia is.length ic) (.slice da acc.length dc)) underlying36 rfl (by kernel_rfl)) rfl ⟨(X2.out.st.own hp (Nat.le_refl _) 0 _).own hp (Nat.le_refl _) 1 _, (X2.out.ps.other hp 0 _).other hp 1 _, _, rfl, ia, ic, da, dc, rfl, hil, hac, ?_, ?_⟩
          · exact rowQ_lower impC_k hI (by omega)
          · exact rowQ_lower declC_k hD (by omega)
        | true =>
          have HSe := hideP hs
          clear hs X RI RW
          go_wp2_with fail
          have X3 := hideP X2.out.drew
          have RI3 : Hid (RowsC ImpC (w.heap.size + 2) 55 4 v.ownBlock w3.drew (.slice ia is.length ic) cs is) := RI2.out.stay (Stay.refl pb w3).drew (show pb < w.heap.size + 2 by omega)
          have RW3 : Hid (RowsC DeclC (w.heap.size + 2) 40 15 none w3.drew v cd acc) := RW2.out.stay (Stay.refl pb w3).drew (show pb < w.heap.size + 2 by omega)
          obtain ⟨⟨c0, c1⟩, ⟨z0, z1⟩, hcl⟩ := box2 X3.out.box
          have HC : Hid (Calls prog 36 #[.pointer (some ⟨pb, 0, none⟩)] w3.drew fun e w9 => (∃ chain, e = .panicked chain /\ PPost pb tb cap ts 0 w ModE R e w9) ∨ ∃ (s : List UInt8) (ex : Bool) (vs : List (List UInt8 × Ty)) (va : Option Addr) (vc : Nat) (pm : List UInt8) (ta : Option Addr) (tc : Nat) (x : NV) (li co : Nat) (D : Ty) (b1 : Nat), e = .returned (.agg #[.string ⟨s.toArray⟩, .bool ex, .slice va vs.length vc, .string ⟨pm.toArray⟩, .slice ta 2 tc, .int .i64 x.k, .string x.tx, .int .i64 x.N, .int .i64 x.li, .int .i64 x.co, .slice x.ta x.tl x.tc, .slice x.na x.nl x.nc, .slice x.ka x.kl x.kc, .int .i64 li, .int .i64 co]) /\ (w9.cell? ⟨w.heap.size + 1, 0, none⟩ = some (.slice ia is.length ic) /\ w9.cell? ⟨w.heap.size + 1, 1, none⟩ = some v) /\ w.heap.size + 1 < w9.heap.size /\
              Hid (AtD ts R is (acc ++ [D]) m b1 /\ b + 1 <= b1 /\ ModX pb tb cap ts w w9 b1 (.slice ia is.length ic) v /\ RowsC DeclC (w.heap.size + 2) 40 15 none w9 v cd acc /\ Made DeclC (w.heap.size + 2) (fun q => v.ownBlock = some q ∨ (none : Option Nat) = some q) w9 [.string ⟨s.toArray⟩, .bool ex, .slice va vs.length vc, .string ⟨pm.toArray⟩, .slice ta 2 tc, .int .i64 x.k, .string x.tx, .int .i64 x.N, .int .i64 x.li, .int .i64 x.co, .slice x.ta x.tl x.tc, .slice x.na x.nl x.nc, .slice x.ka x.kl x.kc, .int .i64 li, .int .i64 co] D /\ RowsC ImpC (w.heap.size + 2) 55 4 v.ownBlock w9 (.slice ia is.length ic) cs is)) := by
            refine (decl_c pb tb cap ts OK.out b _ X3.out.ps).mono ?_
            intro e w9 hpost
            rcases ppost_or hpost with ⟨er, li, co, hr, rfl, hst⟩ | ⟨D, b1, v1, hr, rfl, hst, hps, hv⟩
            · exact .inl ⟨_, rfl, X3.out.st.trans hst, by rw [atD_fail HA.out HSe.out hr]⟩
            obtain ⟨c, rfl, hc⟩ := hv
            have hc' := hc
            obtain ⟨s, ex, vs, va, vc, pm, ta, tc, tys, x, B, li, co, md, rfl, _⟩ := hc
            have XN := X3.out.step hst hps
            have hb := box2 XN.box
            exact .inr ⟨s, ex, vs, va, vc, pm, ta, tc, x, li, co, D, b1, rfl, hb.1, hb.2.2, atD_next HA.out HSe.out hr, decl_up _ _ hr, XN, RW3.out.stay hst (by omega), Made.new (rep := DeclC) hc' X3.out.lt (fun q hq => RW3.out.all q hq), RI3.out.stay hst (by omega)⟩
          go_region_law (first
            | (go_simp; go_at_call 36; refine HC.out.mono ?_; rintro e w9 (⟨ch, rfl, hf⟩ | ⟨s, ex, vs, va, vc, pm, ta, tc, x, li, co, D, b1, rfl, ⟨t0, t1⟩, hl9, HX⟩); exact ⟨rfl, hf⟩)
            | (refine step_append_at rfl (.tmp 22) (.tmp 25) 34 rfl (w.heap.size + 2) 40 i1 _ 15 224 underlying34 hi' hz0' hz1' hz2' rfl (by decide) v _ _ (by first | rfl | simp [Act.eval, Act.put]) (HX.out.2.2.2.1.ow.alloc _) ⟨w9.heap.size, 0, none⟩ 1 1 [.string ⟨s.toArray⟩, .bool ex, .slice va vs.length vc, .string ⟨pm.toArray⟩, .slice ta 2 tc, .int .i64 x.k, .string x.tx, .int .i64 x.N, .int .i64 x.li, .int .i64 x.co, .slice x.ta x.tl x.tc, .slice x.na x.nl x.nc, .slice x.ka x.kl x.kc, .int .i64 li, .int .i64 co] (by first | rfl | simp [Act.eval, Act.put]) rfl (cells_newK _ _ _) (by simp [Value.oneCell']) (by unfold maxLen; omega) (by omega) (by rw [World.size_alloc]; omega) ?_; intro v' w4 hown' hgrow hloc; obtain ⟨av, cv, rfl⟩ := row_shape hown';
                                have HN : Hid (ModX pb tb cap ts w w4 b1 (.slice ia is.length ic) v /\ RowsC DeclC (w.heap.size + 2) 40 15 none w4 (.slice av (acc.length + 1) cv) (cd ++ [[.string ⟨s.toArray⟩, .bool ex, .slice va vs.length vc, .string ⟨pm.toArray⟩, .slice ta 2 tc, .int .i64 x.k, .string x.tx, .int .i64 x.N, .int .i64 x.li, .int .i64 x.co, .slice x.ta x.tl x.tc, .slice x.na x.nl x.nc, .slice x.ka x.kl x.kc, .int .i64 li, .int .i64 co]]) (acc ++ [D]) /\ RowsC ImpC (w.heap.size + 2) 55 4 (Value.slice av (acc.length + 1) cv).ownBlock w4 (.slice ia is.length ic) cs is) := ⟨(HX.out.2.2.1.alloc _).grown hgrow fun q hq => (HX.out.2.2.2.1.own q hq).1, HX.out.2.2.2.1.put hown' hgrow (hloc.imp_right fun e => ⟨_, e, by simp⟩) ((Stay.refl pb w9).alloc HX.out.2.2.1.ps.ltp _) (show pb < w.heap.size + 2 by omega) rfl (HX.out.2.2.2.2.1.stay ((Stay.refl pb w9).alloc HX.out.2.2.1.ps.ltp _) (show pb < w.heap.size + 2 by omega)), (HX.out.2.2.2.2.2.stay ((Stay.refl pb w9).alloc HX.out.2.2.1.ps.ltp _) (show pb < w.heap.size + 2 by omega)).beside hgrow (hloc.imp_right fun e => ⟨_, e, Nat.le_refl _, (hown'.lt _ e).2⟩) (by rw [World.size_alloc]; omega)⟩;
                                obtain ⟨⟨k0, k1⟩, ⟨f0, f1⟩, hk4⟩ := box2 HN.out.1.box; clear hown' hgrow hloc))
          all_goals
            go_wp2_with fail
            go_roundg (ts.length - b1)
            case measure => have := HX.out.2.1; omega
            case rel => exact ⟨b1, m, _, _, _, HN.out.1.set1 _, rows_set HN.out.2.2 (by omega) 1 _, rows_set HN.out.2.1 (by omega) 1 _, HX.out.1, (by have := HLe.out; have := HX.out.2.1; show _ <= _; omega), (by have := HAc.out; have := HX.out.2.1; show (acc ++ [D]).length <= _; simp; omega), Nat.le_refl _⟩
    | true =>
      have hbl : b + 1 < ts.length := sees_next OK.out.ends hbt hs
      have HSe := hideP hs
      have hac : acc.length <= 8193 := by have := HAc.out; have := OK.out.len; omega
      clear hs X RW
      go_wp2_with fail
      have X3 := hideP X2.out.drew
      have RW3 : Hid (RowsC ImpC (w.heap.size + 2) 55 4 none w2.drew v cs acc) := RW2.out.stay (Stay.refl pb w2).drew (show pb < w.heap.size + 2 by omega)
      obtain ⟨⟨c0, c1⟩, ⟨z0, z1⟩, hcl⟩ := box2 X3.out.box
      have HC : Hid (Calls prog 35 #[.pointer (some ⟨pb, 0, none⟩)] w2.drew fun e w9 => (∃ chain, e = .panicked chain /\ PPost pb tb cap ts 0 w ModE R e w9) ∨ ∃ (s : List UInt8) (l : List (List UInt8)) (na : Option Addr) (nc li co : Nat) (D : Ty) (b1 : Nat), e = .returned (.agg #[.string ⟨s.toArray⟩, .slice na l.length nc, .int .i64 li, .int .i64 co]) /\ (w9.cell? ⟨w.heap.size + 1, 0, none⟩ = some v /\ w9.cell? ⟨w.heap.size + 1, 1, none⟩ = some (.slice none 0 0)) /\ w.heap.size + 1 < w9.heap.size /\
          Hid (AtI ts R (acc ++ [D]) m b1 /\ b + 1 <= b1 /\ ModX pb tb cap ts w w9 b1 v (.slice none 0 0) /\ RowsC ImpC (w.heap.size + 2) 55 4 none w9 v cs acc /\ Made ImpC (w.heap.size + 2) (fun q => v.ownBlock = some q ∨ (none : Option Nat) = some q) w9 [.string ⟨s.toArray⟩, .slice na l.length nc, .int .i64 li, .int .i64 co] D)) := by
        refine (imported_c pb tb cap 0 ts OK.out b _ X3.out.ps).mono ?_
        intro e w9 hpost
        rcases ppost_or hpost with ⟨er, li, co, hr, rfl, hst⟩ | ⟨D, b1, v1, hr, rfl, hst, hps, hv⟩
        · exact .inl ⟨_, rfl, X3.out.st.trans hst, by rw [atI_fail HA.out HSe.out hr]⟩
        obtain ⟨c, rfl, hc⟩ := hv
        have hc' := hc
        obtain ⟨s, l, na, nc, li, co, rfl, _⟩ := hc
        have XN := X3.out.step hst hps
        have hb := box2 XN.box
        exact .inr ⟨s, l, na, nc, li, co, D, b1, rfl, hb.1, hb.2.2, atI_next HA.out HSe.out hr, import_up _ _ hr, XN, RW3.out.stay hst (by omega), Made.new (rep := ImpC) hc' X3.out.lt fun q hq => RW3.out.all q hq⟩
      go_region_law (first
        | (go_simp; go_at_call 35; refine HC.out.mono ?_; rintro e w9 (⟨ch, rfl, hf⟩ | ⟨s, l, na, nc, li, co, D, b1, rfl, ⟨t0, t1⟩, hl9, HX⟩); exact ⟨rfl, hf⟩)
        | (refine step_append_at rfl (.tmp 10) (.tmp 13) 33 rfl (w.heap.size + 2) 55 i0 _ 4 56 underlying33 hi hz0 hz1 hz2 rfl (by decide) v _ _ (by first | rfl | simp [Act.eval, Act.put]) (HX.out.2.2.2.1.ow.alloc _) ⟨w9.heap.size, 0, none⟩ 1 1 [.string ⟨s.toArray⟩, .slice na l.length nc, .int .i64 li, .int .i64 co] (by first | rfl | simp [Act.eval, Act.put]) rfl (cells_newK _ _ _) (by simp [Value.oneCell']) (by unfold maxLen; omega) (by omega) (by rw [World.size_alloc]; omega) ?_; intro v' w4 hown' hgrow hloc; obtain ⟨av, cv, rfl⟩ := row_shape hown';
                                have HN : Hid (ModX pb tb cap ts w w4 b1 v (.slice none 0 0) /\ RowsC ImpC (w.heap.size + 2) 55 4 none w4 (.slice av (acc.length + 1) cv) (cs ++ [[.string ⟨s.toArray⟩, .slice na l.length nc, .int .i64 li, .int .i64 co]]) (acc ++ [D])) := ⟨(HX.out.2.2.1.alloc _).grown hgrow fun q hq => (HX.out.2.2.2.1.own q hq).1, HX.out.2.2.2.1.put hown' hgrow (hloc.imp_right fun e => ⟨_, e, by simp⟩) ((Stay.refl pb w9).alloc HX.out.2.2.1.ps.ltp _) (show pb < w.heap.size + 2 by omega) rfl (HX.out.2.2.2.2.stay ((Stay.refl pb w9).alloc HX.out.2.2.1.ps.ltp _) (show pb < w.heap.size + 2 by omega))⟩;
                                obtain ⟨⟨k0, k1⟩, ⟨f0, f1⟩, hk4⟩ := box2 HN.out.1.box; clear hown' hgrow hloc))
      all_goals
        go_wp2_with fail
        go_roundg (ts.length - b1)
        case measure => have := HX.out.2.1; omega
        case rel => exact ⟨b1, m, _, _, _, HN.out.1.set0 _, rows_set HN.out.2 (by omega) 0 _, HX.out.1, (by have := HLe.out; have := HX.out.2.1; show _ <= _; omega), (by have := HAc.out; have := HX.out.2.1; show (acc ++ [D]).length <= _; simp; omega), Nat.le_refl _⟩
end Go.Proofs.YtlhmofphpfdjlaaGreatDoor
/- What is deferred, of modules. -/
namespace Go.Proofs.YtlhmofphpfdjlaaGreatDoor
open Go.Proofs.Tryz
open Go.RowKit
/-- The parts of a module. -/
structure MV where
  ia : Option Addr
  il : Nat
  ic : Nat
  da : Option Addr
  dl : Nat
  dc : Nat
abbrev MV.val (x : MV) : Value := .agg #[.slice x.ia x.il x.ic, .slice x.da x.dl x.dc]
abbrev MV.obj (x : MV) : Obj := .cells #[.slice x.ia x.il x.ic, .slice x.da x.dl x.dc] 36
abbrev zMV : MV := ⟨none, 0, 0, none, 0, 0⟩
abbrev putM (w : World) (b : Nat) (x : MV) : World := (w.setCell ⟨b, 0, none⟩ (.slice x.ia x.il x.ic)).setCell ⟨b, 1, none⟩ (.slice x.da x.dl x.dc)
def MdV (lo : Nat) (w : World) (x : MV) (D : List Ty × List Ty) : Prop := x.il = D.1.length /\ x.dl = D.2.length /\ D.1.length <= 8193 /\ D.2.length <= 8193 /\ RowQ ImpC 4 lo w x.ia D.1 /\ RowQ DeclC 15 lo w x.da D.2
def MdE (lo : Nat) (w : World) (v : Value) (D : List Ty × List Ty) : Prop := ∃ x : MV, v = x.val /\ MdV lo w x D
theorem mdE_of {lo : Nat} {w : World} {v : Value} {D : List Ty × List Ty} (h : ModE lo w v D) : MdE lo w v D := by
  obtain ⟨ia, ic, da, dc, rfl, h1, h2, h3, h4⟩ := h
  exact ⟨⟨ia, D.1.length, ic, da, D.2.length, dc⟩, rfl, rfl, rfl, h1, h2, h3, h4⟩
section
variable {w w' : World} {lo lo' b pb : Nat} {x y : MV} {D : List Ty × List Ty}
theorem putM_heap (h : w.heap[b]? = some y.obj) : (putM w b x).heap[b]? = some x.obj := put2_heap h _ _
theorem putM_size : (putM w b x).heap.size = w.heap.size := by
  unfold putM
  rw [size_set, size_set]
theorem putM_other {i : Nat} (hi : i ≠ b) : (putM w b x).heap[i]? = w.heap[i]? := by
  unfold putM
  rw [Below.heap_setCell _ _ _ _ hi, Below.heap_setCell _ _ _ _ hi]
theorem below_putM {B : Nat} {u : World} (h : Below B u w) (hb : B <= b) (x : MV) : Below B u (putM w b x) := (h.setCell hb _).setCell hb _
theorem boxM (h : w.heap[b]? = some x.obj) : (w.cell? ⟨b, 0, none⟩ = some (.slice x.ia x.il x.ic) /\ w.cell? ⟨b, 1, none⟩ = some (.slice x.da x.dl x.dc)) /\ (w.frozen? ⟨b, 0, none⟩ = false /\ w.frozen? ⟨b, 1, none⟩ = false) /\ b < w.heap.size := box2 h
theorem MdV.keep (h : MdV lo w x D) (hs : w.heap.size <= w'.heap.size) (hk : ∀ b, lo <= b -> b < w.heap.size -> w'.heap[b]? = w.heap[b]?) : MdV lo w' x D :=
  ⟨h.1, h.2.1, h.2.2.1, h.2.2.2.1, rowQ_keep impC_k h.2.2.2.2.1 hs hk, rowQ_keep declC_k h.2.2.2.2.2 hs hk⟩
theorem MdV.lower (h : MdV lo w x D) (hl : lo' <= lo) : MdV lo' w x D :=
  ⟨h.1, h.2.1, h.2.2.1, h.2.2.2.1, rowQ_lower impC_k h.2.2.2.2.1 hl, rowQ_lower declC_k h.2.2.2.2.2 hl⟩
theorem MdV.stay (h : MdV lo w x D) (hs : Stay pb w w') (hp : pb < lo) : MdV lo w' x D := h.keep hs.size fun b hb hl => hs.keep b (by omega) hl
theorem MdV.putM (h : MdV lo w x D) (hb : b < lo) (y : MV) : MdV lo (putM w b y) x D := h.keep (by rw [putM_size]; exact Nat.le_refl _) fun i hi _ => putM_other (by omega)
theorem MdV.set1 (h : MdV lo w x D) (hb : b < lo) (o : Nat) (u : Value) : MdV lo (w.setCell ⟨b, o, none⟩ u) x D :=
  h.keep (by rw [size_set]; exact Nat.le_refl _) fun i hi _ => Below.heap_setCell _ _ _ _ (by show i ≠ b; omega)
end
theorem module_enters (pb : Nat) : Enters 19 pb := fun w => enters_of func19 (by kernel_rfl) (by kernel_rfl) _ w
theorem moduleM_c (pb tb cap : Nat) (ts : List Tok) (ok : ToksOk ts) (w : World) (h : Ps w pb tb cap ts 0 0) :
    Calls prog 19 #[.pointer (some ⟨pb, 0, none⟩)] w (PPost pb tb cap ts 0 w MdE (moduleP ts)) :=
  (module_c pb tb cap ts ok w h).mono fun e w' hp => by
    refine ⟨hp.1, ?_⟩
    have h2 := hp.2
    revert h2
    cases moduleP ts with
    | inr p => exact id
    | inl p =>
      rintro ⟨h1, v, h2, h3⟩
      exact ⟨h1, v, h2, mdE_of h3⟩
theorem catchM_idle (p q : Addr) (w : World) :
    CallsD prog 33 #[.pointer (some p), .pointer (some q)] .returning w fun e u' w' => e = .returned (.tuple #[]) /\ u' = .returning /\ w' = w := by
  have hn := nil_nil
  refine callsD_of_wpS func33 rfl fun c₀ cs hu => ?_
  apply wpS_seq
  apply wpS_region
  simp [wpOpsS, go_sem, recoverD, hu, ntmps33, Exit.thenS]
  refine wpS_of_wp ?_
  simp only [Array.replicate, List.replicate, List.setIfInBounds_toArray, List.set_cons_zero, List.set_cons_succ, List.append_toArray, List.cons_append, List.nil_append]
  go_wp2
  cases c₀
  simp_all [bodyPostS, results, results33]
theorem catchM_panic (ab db : Nat) (li co x : Int) (older : List PanicEntry) (w : World) (y : MV) (x0 x1 x2 x3 : Value) (ha : w.heap[ab]? = some y.obj) (hd : w.heap[db]? = some (.cells #[x0, x1, x2, x3] 30)) (hab : ab ≠ db) :
    CallsD prog 33 #[.pointer (some ⟨ab, 0, none⟩), .pointer (some ⟨db, 0, none⟩)] (.panicking ({ v := .iface 30 (diagV li co x), recovered := false } :: older)) w fun e u' w' => e = .returned (.tuple #[]) /\ u' = .panicking ({ v := .iface 30 (diagV li co x), recovered := true } :: older) /\
      (w'.heap[ab]? = some zMV.obj /\ w'.heap[db]? = some (.cells #[.int .i64 0, .int .i64 li, .int .i64 co, .int .i64 x] 30)) /\ Hid (∀ B, B <= ab -> B <= db -> Below B w w') := by
  have hn := nil_neq
  have hta := assert_diag
  obtain ⟨⟨a0, a1⟩, ⟨z0, z1⟩, hla⟩ := boxM ha
  obtain ⟨⟨d0, d1, d2, d3⟩, ⟨g0, g1, g2, g3⟩, hld⟩ := res_facts hd
  have HA := hideP ha
  have HD := hideP hd
  clear ha hd
  have hab' : ¬ db = ab := fun e => hab e.symm
  refine callsD_of_wpS func33 rfl fun c₀ cs hu => ?_
  apply wpS_seq
  apply wpS_region
  simp [wpOpsS, go_sem, recoverD, hu, ntmps33, Exit.thenS]
  refine wpS_of_wp ?_
  simp only [Array.replicate, List.replicate, List.setIfInBounds_toArray, List.set_cons_zero, List.set_cons_succ, List.append_toArray, List.cons_append, List.nil_append]
  go_wp2
  go_region
  all_goals
    go_wp2
    refine ⟨rfl, _, rfl, .tuple #[], results_none rfl _ _ _, rfl, rfl, ⟨?_, ?_⟩, fun B h1 h2 => ?_⟩
    · rw [heap_drew]
      refine (Below.heap_alloc _ _ _ (by simp only [size_set]; exact hla)).trans ?_
      exact (other_set4 hab _ _ _ _).trans (putM_heap (x := zMV) HA.out)
    · rw [heap_drew]
      refine (Below.heap_alloc _ _ _ (by simp only [size_set]; exact hld)).trans ?_
      exact set4 ((putM_other (x := zMV) hab').trans HD.out) _ _ _ _
    · exact ((below_set4 (below_putM (x := zMV) (Below.refl _ w) h1) h2 _ _ _ _).alloc (by simp only [size_set]; omega) _).drew
end Go.Proofs.YtlhmofphpfdjlaaGreatDoor
