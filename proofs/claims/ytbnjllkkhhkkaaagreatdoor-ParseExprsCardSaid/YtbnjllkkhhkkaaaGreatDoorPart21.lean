/- Part. -/
import Derived.Test.YtbnjllkkhhkkaaaGreatDoorPart20
set_option maxRecDepth 100000
set_option maxHeartbeats 4000000
namespace Go.Proofs.YtbnjllkkhhkkaaaGreatDoor.Lx
open Go.Proofs.Tryz
open Go.RowKit
def K4 (l : List UInt8) (n : Nat) : Prop := n ≤ l.length ∧ ∀ p : Nat × Nat, Yy false l p.1 p.2 = (l.drop n, Ta (l.take n) p)
def Uy (c : Bool) (S : ByteArray) (i : Nat) : Prop := ∀ p : Nat × Nat, Yy false S.data.toList p.1 p.2 = Yy c (S.data.toList.drop i) (Ta (S.data.toList.take i) p).1 (Ta (S.data.toList.take i) p).2
theorem Dm {S : ByteArray} {i : Nat} (hi : i < S.size) (p : Nat × Nat) : Ta (S.data.toList.take (i + 1)) p = Ns (Ta (S.data.toList.take i) p) S[i] := by
 have h : i < S.data.toList.length := by rw [Yp]; exact hi
 rw [List.take_succ_eq_append_getElem h, Fl]
 rfl
section
variable {S : ByteArray} {i : Nat}
theorem zdk : Uy false S 0 := fun p => by simp [Ta]
theorem zcg (h : Uy false S i) (hi : i < S.size) (hb : S[i].toNat = 35) : Uy true S i := fun p => by
 have e : S[i] = 35 := UInt8.toNat_inj.1 hb
 rw [h p, Y0 S i hi, e]
 simp [Yy]
theorem mid_on (h : Uy true S i) (hi : i < S.size) (hb : S[i].toNat ≠ 10) : Uy true S (i + 1) := fun p => by
 have e : ¬ S[i] = 10 := fun e => hb (by rw [e]; rfl)
 rw [h p, Dm hi, Y0 S i hi, Yy, if_neg e, Ns, if_neg e]
theorem zdb (h : Uy true S i) (hi : i < S.size) (hb : S[i].toNat = 10) : Uy false S i := fun p => by
 have e : S[i] = 10 := UInt8.toNat_inj.1 hb
 rw [h p, Y0 S i hi, e]
 simp [Yy]
theorem zgu (h : Uy true S i) (hi : ¬ i < S.size) : Uy false S i := fun p => by
 rw [h p, List.drop_eq_nil_of_le (by rw [Yp]; omega)]
 simp [Yy]
theorem R9 (h : Uy false S i) (hi : i < S.size) (hb : S[i].toNat = 32 ∨ S[i].toNat = 9 ∨ S[i].toNat = 10 ∨ S[i].toNat = 13) : Uy false S (i + 1) := fun p => by
 rw [h p, Dm hi, Y0 S i hi, Yy, Ns]
 by_cases e : S[i] = 10
 ·rw [if_pos e, if_pos e]
 ·have e2 : S[i] = 32 ∨ S[i] = 9 ∨ S[i] = 13 := by
   rcases hb with hb | hb | hb | hb
   ·exact .inl (UInt8.toNat_inj.1 hb)
   ·exact .inr (.inl (UInt8.toNat_inj.1 hb))
   ·exact absurd (UInt8.toNat_inj.1 hb) e
   ·exact .inr (.inr (UInt8.toNat_inj.1 hb))
  rw [if_neg e, if_neg e, if_pos e2]
theorem Ig (h : Uy false S i) (hi : i < S.size) (hb : S[i].toNat ≠ 10 ∧ S[i].toNat ≠ 32 ∧ S[i].toNat ≠ 9 ∧ S[i].toNat ≠ 13 ∧ S[i].toNat ≠ 35) : K4 S.data.toList i := by
 have f : ∀ n : UInt8, S[i].toNat ≠ n.toNat → ¬ S[i] = n := fun n hn e => hn (by rw [e])
 refine ⟨by rw [Yp]; omega, fun p => ?_⟩
 rw [h p, Y0 S i hi, Yy, if_neg (f 10 hb.1), if_neg, if_neg (f 35 hb.2.2.2.2)]
 rintro (e | e | e)
 ·exact f 32 hb.2.1 e
 ·exact f 9 hb.2.2.1 e
 ·exact f 13 hb.2.2.2.1 e
theorem zao (h : Uy false S i) (hi : ¬ i < S.size) (hle : i ≤ S.size) : K4 S.data.toList i := by
 refine ⟨by rw [Yp]; omega, fun p => ?_⟩
 rw [h p, List.drop_eq_nil_of_le (by rw [Yp]; omega)]
 simp [Yy]
end
theorem Ea (S : ByteArray) (hS : S.size ≤ 65536) (w : World) : Calls prog 113 #[.string S] w fun e w' => (∃ n : Nat, e = .returned (.int .i64 n) ∧ K4 S.data.toList n) ∧ w' = w := by
 go_enter func113, ntmps113
 go_wp2
 go_loop [3] (fun i => ∃ k : Nat, k ≤ S.size ∧ i = .int .i64 k ∧ xQ (Uy false S k)) (fun i => S.size - (intOf i).toNat)
 case atStart => exact ⟨0, xZ _, rfl, zdk⟩
 case round =>
  obtain ⟨k, hk, rfl, hm⟩ := hrel
  by_cases hlt : k < S.size
  ·have hltI : (k : Int) < (S.size : Int) := by omega
   by_cases b1 : S[k].toNat = 35
   ·have p1 : ((S[k].toNat : Int) == 35) = true := by simp; omega
    have hm1 := Za (zcg hm.o hlt b1)
    have HB1 := Za b1
    clear b1
    go_wp2
    go_loop [3] (fun i => ∃ m : Nat, k ≤ m ∧ m ≤ S.size ∧ i = .int .i64 m ∧ xQ (Uy true S m)) (fun i => S.size - (intOf i).toNat)
    case atStart => exact ⟨k, xR, hk, rfl, hm1⟩
    case round =>
     obtain ⟨m, hkm, hmS, rfl, hmm⟩ := hrel
     by_cases hltm : m < S.size
     ·have hltmI : (m : Int) < (S.size : Int) := by omega
      by_cases b2 : S[m].toNat = 10
      ·have p2 : ((S[m].toNat : Int) != 10) = false := by simp; omega
       have hm2 := Za (zdb hmm.o hltm b2)
       have hkm2 : k < m := by
        by_cases e : m = k
        ·subst e
         have := HB1.o
         omega
        ·omega
       clear b2
       go_wp2
       go_round
       case rel => exact ⟨m, hmS, rfl, hm2⟩
       case measure => simp [intOf]; omega
      ·have p2 : ((S[m].toNat : Int) != 10) = true := by simp; omega
       have hm2 := Za (mid_on hmm.o hltm b2)
       clear b2
       go_wp2
       go_round
       case rel => exact ⟨m + 1, by omega, by omega, by go_num, hm2⟩
       case measure => simp [intOf]; omega
     ·have hltmI : ¬ (m : Int) < (S.size : Int) := by omega
      have hm2 := Za (zgu hmm.o hltm)
      go_wp2
      go_round
      case rel => exact ⟨m, hmS, rfl, hm2⟩
      case measure => simp [intOf]; omega
   have n1 : ((S[k].toNat : Int) == 35) = false := by simp; omega
   by_cases b2 : S[k].toNat = 32 ∨ S[k].toNat = 9 ∨ S[k].toNat = 10 ∨ S[k].toNat = 13
   ·have hm2 := Za (R9 hm.o hlt b2)
    have b2' : ((S[k].toNat : Int) != 32) = false ∨ (((S[k].toNat : Int) != 32) = true ∧ ((S[k].toNat : Int) != 9) = false) ∨ (((S[k].toNat : Int) != 32) = true ∧ ((S[k].toNat : Int) != 9) = true ∧ ((S[k].toNat : Int) != 10) = false) ∨
      (((S[k].toNat : Int) != 32) = true ∧ ((S[k].toNat : Int) != 9) = true ∧ ((S[k].toNat : Int) != 10) = true ∧ ((S[k].toNat : Int) != 13) = false) := by simp; omega
    clear b2 b1
    rcases b2' with p1 | ⟨p1, p2⟩ | ⟨p1, p2, p3⟩ | ⟨p1, p2, p3, p4⟩
    all_goals
     go_wp2
     go_round
     case rel => exact ⟨k + 1, by omega, by go_num, hm2⟩
     case measure => simp [intOf]; omega
   ·have hst := Za (Ig hm.o hlt ⟨by omega, by omega, by omega, by omega, b1⟩)
    have p1 : ((S[k].toNat : Int) != 32) = true := by simp; omega
    have p2 : ((S[k].toNat : Int) != 9) = true := by simp; omega
    have p3 : ((S[k].toNat : Int) != 10) = true := by simp; omega
    have p4 : ((S[k].toNat : Int) != 13) = true := by simp; omega
    clear b1 b2
    go_wp2
    go_ret
    exact ⟨⟨k, rfl, hst.o⟩, rfl⟩
  ·have hst := Za (zao hm.o hlt hk)
   go_wp2
   go_ret
   exact ⟨⟨k, rfl, hst.o⟩, rfl⟩
def Bq (R : Lx) (rest : List UInt8) (p : Nat × Nat) (acc : List Tok) : Prop := ∃ r q, Yy false rest p.1 p.2 = (r, q) ∧ T6 R r q.1 q.2 acc
theorem zcv {l : List UInt8} (hl : l.length ≤ 65536) : Bq (Wb l) l (1, 1) [] :=
 ⟨(Yy false l 1 1).1, (Yy false l 1 1).2, rfl, G6 hl rfl⟩
theorem R8 {R : Lx} {rest : List UInt8} {p : Nat × Nat} {acc : List Tok} {n : Nat} (h : Bq R rest p acc) (hb : K4 rest n) : T6 R (rest.drop n) (Ta (rest.take n) p).1 (Ta (rest.take n) p).2 acc := by
 obtain ⟨r, q, hs, hat⟩ := h
 rw [hb.2 p] at hs
 injection hs with h1 h2
 rw [h1, h2]
 exact hat
theorem Ek {R : Lx} {rest t r2 : List UInt8} {li co : Nat} {acc : List Tok} {k : Int} (h : T6 R rest li co acc) (hr : rest ≠ []) (he : Xc rest = .tok k t r2) (hn : acc.length ≠ 8192) : Bq R r2 (li, co + (rest.length - r2.length)) (acc ++ [⟨k, t, li, co⟩]) :=
 ⟨_, _, rfl, Fr h hr he hn rfl⟩
theorem Kz (S : ByteArray) (k : Nat) : (S.extract k S.size).data.toList = S.data.toList.drop k := by
 rw [P8]
 exact List.take_of_length_le (by rw [List.length_drop, Yp]; omega)
theorem Kt (S : ByteArray) (k : Nat) : (S.extract k S.size).size = S.size - k := by
 rw [← Yp, Kz, List.length_drop, Yp]
theorem Cu {S : ByteArray} {k m : Nat} (hm : k + m < S.size) (p : Nat × Nat) : Ta ((S.data.toList.drop k).take (m + 1)) p = Ns (Ta ((S.data.toList.drop k).take m) p) S[k + m] := by
 have h : m < (S.data.toList.drop k).length := by rw [List.length_drop, Yp]; omega
 rw [List.take_succ_eq_append_getElem h, Fl]
 have e : (S.data.toList.drop k)[m] = S[k + m] := by
  rw [List.getElem_drop]
  rfl
 rw [e]
 rfl
structure P7 (w wr : World) (v : Value) (acc : List Tok) : Prop where
 dg : Uo wr w.heap.size 0 0 0
 bl : Below w.heap.size w wr
 ow : wr.ownsRow (w.heap.size + 1) 108 4 v acc.length (tokCells acc)
 sz : w.heap.size < wr.heap.size
section
variable {w wr wr' : World} {v : Value} {acc : List Tok}
theorem P7.next (h : P7 w wr v acc) (hb : Below wr.heap.size wr wr') : P7 w wr' v acc where
 dg := by
  unfold Uo
  rw [hb.block _ h.sz]
  exact h.dg
 bl := h.bl.trans (hb.mono h.bl.size)
 ow := by
  obtain ⟨h1, h2⟩ := h.ow
  refine ⟨h1, ?_⟩
  rcases h2 with h2 | ⟨g, cap, cur, rfl, hg, hh, r⟩
  ·exact .inl h2
  ·refine .inr ⟨g, cap, cur, rfl, hg, ?_, r⟩
   rw [hb.block g (xB hh)]
   exact hh
 sz := xT h.sz hb.size
theorem P7.app (h : P7 w wr v acc) {ob : Obj} {v' : Value} {w1 : World} {t : Tok} (ho : w1.ownsRow (w.heap.size + 1) 108 4 v' (acc.length + 1) (tokCells acc ++ Tok.cells t)) (hg : (wr.alloc ob).grownBy w1 v.ownBlock) : P7 w w1 v' (acc ++ [t]) := by
 have hsz := h.sz
 refine ⟨?_, ?_, ?_, ?_⟩
 ·unfold Uo
  rw [hg.block _ (by simp; omega) (fun e => by have := (Qt h.ow _ e.symm).1; omega), xA hsz]
  exact h.dg
 ·refine (h.bl.alloc h.bl.size _).grown hg (by have := h.bl.size; simp; omega) fun j hj => ?_
  have := (Qt h.ow _ hj).1
  omega
 ·rw [List.length_append, Fi]
  exact ho
 ·have := hg.size
  simp at this
  omega
end
theorem On (W : World) (t : Tok) (ty : TypeId) {n : Nat} (hn : W.heap.size = n) : ∀ j u, (Tok.cells t)[j]? = some u → (W.alloc (.cells #[.int .i64 t.kind, .string ⟨t.text.toArray⟩, .int .i64 t.line, .int .i64 t.col] ty)).cell? ((⟨n, 0, none⟩ : Addr).add j) = some u := by
 subst hn
 exact K9 W t ty
theorem Cr (S : ByteArray) (hS : 65536 < S.size) (hS2 : S.size ≤ 140737488351232) (w : World) :
  Calls prog 58 #[.string S] w (LexPost w (.bad 2 1 1)) := by
 go_enter func58, ntmps58
 go_wp2
 refine bodyPost_ret (results_tmp_cell rfl _ rfl (xL w _) underlying30 Mi) rfl ?_
 exact ⟨(Below.refl _ w).alloc (xR) _, rfl⟩
theorem Oy (S : ByteArray) (hS : S.size ≤ 65536) (w : World) :
  Calls prog 58 #[.string S] w (LexPost w (Wb S.data.toList)) := by
 obtain ⟨R, hR⟩ := xE (Wb S.data.toList)
 rw [← hR]
 have hst : xQ (Bq R (S.data.toList.drop 0) (1, 1) []) := by
  rw [hR, List.drop_zero]
  exact zcv (by rw [Yp]; exact hS)
 clear hR
 obtain ⟨i0, hi, hz0, hz1, hz2⟩ := info_parts Fb
 have hcore : xQ (P7 w (w.alloc (.cells #[.int .i64 0, .int .i64 0, .int .i64 0, .int .i64 0] 30)) (.slice none 0 0) []) :=
  ⟨xL w _, Zl w _, World.ownsRow_nil _ _ _ _, by simp⟩
 go_enter func58, ntmps58
 go_wp2
 go_loopw [4, 5, 6, 7] (fun v a b c wr => ∃ (k li co : Nat) (acc : List Tok), xQ (P7 w wr v acc) ∧ k ≤ S.size ∧ li ≤ k + 1 ∧ co ≤ k + 1 ∧ acc.length ≤ 8192 ∧ a = .int .i64 li ∧ b = .int .i64 co ∧ c = .int .i64 k ∧ xQ (Bq R (S.data.toList.drop k) (li, co) acc)) (fun _ _ _ c _ => S.size - (intOf c).toNat)
 case atStart => exact ⟨0, 1, 1, [], hcore, xZ _, by omega, by omega, by simp, rfl, rfl, rfl, hst⟩
 case round =>
  clear hcore hst
  obtain ⟨k, li, co, acc, hco, hk, hli, hcol, hal, rfl, rfl, rfl, hhd⟩ := hrel
  obtain ⟨a, cap, rfl⟩ := H9 hco.o.ow
  have hbc := Ea (S.extract k S.size) (by rw [Kt]; omega)
  rw [Kz] at hbc
  have HBC := Za hbc
  have kI : (k : Int) ≤ (S.size : Int) := by omega
  clear hbc
  go_wp2_with fail
  refine (HBC.o _).mono ?_
  rintro e w' ⟨⟨n, rfl, hbl⟩, rfl⟩
  have hnl := hbl.1
  rw [List.length_drop, Yp] at hnl
  have HAT := Za (R8 hhd.o hbl)
  rw [List.drop_drop] at HAT
  clear hbl hhd HBC
  go_wp2
  go_loop [5, 6, 9] (fun a b c => ∃ (m l2 c2 : Nat), m ≤ n ∧ l2 ≤ k + m + 1 ∧ c2 ≤ k + m + 1 ∧ c = .int .i64 ((k + m : Nat) : Int) ∧ a = .int .i64 l2 ∧ b = .int .i64 c2 ∧ xQ (Ta ((S.data.toList.drop k).take m) (li, co) = (l2, c2))) (fun _ _ c => k + n - (intOf c).toNat)
  case atStart => exact ⟨0, li, co, xZ _, by omega, by omega, rfl, rfl, rfl, rfl⟩
  case round =>
   obtain ⟨m, l2, c2, hm, hl2, hc2, rfl, rfl, rfl, hpm⟩ := hrel
   by_cases hmn : m < n
   ·have hkm : k + m < S.size := by omega
    have hI : (k : Int) + (m : Int) < (S.size : Int) := by omega
    have hJ : (k : Int) + (m : Int) < (k : Int) + (n : Int) := by omega
    have zhv := Cu hkm (li, co)
    rw [hpm.o] at zhv
    unfold Ns at zhv
    simp only at zhv
    by_cases h10 : S[k + m].toNat = 10
    ·have e10 : S[k + m] = 10 := UInt8.toNat_inj.1 h10
     rw [if_pos e10] at zhv
     have p10 : ((S[k + m].toNat : Int) == 10) = true := by simp; omega
     have HST := Za zhv
     clear zhv e10 h10
     go_wp2
     refine ⟨⟨m + 1, l2 + 1, 1, by omega, by omega, by omega, by go_num, by go_num, by go_num, HST.o⟩, by simp [intOf]; omega⟩
    ·have e10 : ¬ S[k + m] = 10 := fun e => h10 (by rw [e]; rfl)
     rw [if_neg e10] at zhv
     have p10 : ((S[k + m].toNat : Int) == 10) = false := by simp; omega
     have HST := Za zhv
     clear zhv e10 h10
     go_wp2
     refine ⟨⟨m + 1, l2, c2 + 1, by omega, by omega, by omega, by go_num, by go_num, by go_num, HST.o⟩, by simp [intOf]; omega⟩
   ·have hmn2 : m = n := by omega
    subst hmn2
    rw [hpm.o] at HAT
    have HAT2 : xQ (T6 R (S.data.toList.drop (k + m)) l2 c2 acc) := HAT.o
    have hJ : ¬ (k : Int) + (m : Int) < (k : Int) + (m : Int) := by omega
    clear hpm HAT
    by_cases hlt : k + m < S.size
    ·have hI : ¬ (S.size : Int) ≤ (k : Int) + (m : Int) := by omega
     have hI2 : (k : Int) + (m : Int) ≤ (S.size : Int) := by omega
     have htc := Eo (S.extract (k + m) S.size) (by rw [Kt]; omega) (by rw [Kt]; omega)
     rw [Kz] at htc
     have HTC := Za htc
     have HNE : xQ (S.data.toList.drop (k + m) ≠ []) := by
      rw [Y0 S (k + m) hlt]
      exact List.cons_ne_nil _ _
     clear htc
     go_wp2_with fail
     refine (HTC.o _).mono ?_
     intro e w2 hp
     have HP := Za hp
     clear hp HTC
     cases hrd : Xc (S.data.toList.drop (k + m)) with
     | inl x =>
      have hp := HP.o
      rw [hrd] at hp
      obtain ⟨hb2, hx, rfl⟩ := hp
      have hbad := Gf HAT2.o HNE.o hrd
      have hcoc := hco.o.next (Zn hb2 (Zl w2 (.cells #[.int .i64 0, .string { data := #[] }, .int .i64 0, .int .i64 0] 108)))
      have hdg := Za hcoc.dg
      have hbl := Za hcoc.bl
      have g0 := hcoc.dg.c 0 (by omega)
      have g1 := hcoc.dg.c 1 (by omega)
      have g2 := hcoc.dg.c 2 (by omega)
      have g3 := hcoc.dg.c 3 (by omega)
      simp only [List.getD_cons_zero, List.getD_cons_succ] at g0 g1 g2 g3
      have z0 := hcoc.dg.fz 0
      have z1 := hcoc.dg.fz 1
      have z2 := hcoc.dg.fz 2
      have z3 := hcoc.dg.fz 3
      have x0 : (x == 0) = false := by simpa using hx
      have x1 : (x != 0) = true := by simpa using hx
      subst hbad
      clear hrd HP hb2 hcoc HAT2 HNE hx
      go_wp2
      refine bodyPost_ret (results_tmp_cell rfl _ rfl (hdg.o.set _ _ _) underlying30 Mi) rfl ?_
      exact ⟨Q3 hbl.o _ _ _ _, rfl⟩
     | inr q =>
      obtain ⟨kd, t, rest⟩ := q
      have hp := HP.o
      rw [hrd] at hp
      obtain ⟨hb2, n2, hn0, hn2, zht, rfl⟩ := hp
      rw [Kt] at hn2
      rw [Kz, List.drop_drop] at zht
      have zhy := Za zht
      have HRD := Za hrd
      have HB2 := Za hb2
      clear zht hrd hb2 HP
      by_cases zhz : acc.length = 8192
      ·have hm1 : ((acc.length : Int) == 8192) = true := by simp; omega
       have hbad := F2 HAT2.o HNE.o HRD.o zhz
       have hcoc := hco.o.next (Zn HB2.o (Zl w2 (.cells #[.int .i64 kd, .string ⟨t.toArray⟩, .int .i64 0, .int .i64 0] 108)))
       have hdg := Za hcoc.dg
       have hbl := Za hcoc.bl
       have g0 := hcoc.dg.c 0 (by omega)
       have g1 := hcoc.dg.c 1 (by omega)
       have g2 := hcoc.dg.c 2 (by omega)
       have g3 := hcoc.dg.c 3 (by omega)
       simp only [List.getD_cons_zero, List.getD_cons_succ] at g0 g1 g2 g3
       have z0 := hcoc.dg.fz 0
       have z1 := hcoc.dg.fz 1
       have z2 := hcoc.dg.fz 2
       have z3 := hcoc.dg.fz 3
       subst hbad
       clear hcoc HAT2 HNE HRD zhy zhz
       go_wp2
       refine bodyPost_ret (results_tmp_cell rfl _ rfl (hdg.o.set _ _ _) underlying30 Mi) rfl ?_
       exact ⟨Q3 hbl.o _ _ _ _, rfl⟩
      ·have hm1 : ((acc.length : Int) == 8192) = false := by simp; omega
       have hcoc := Za (hco.o.next (Zn HB2.o (Zl w2 (.cells #[.int .i64 kd, .string ⟨t.toArray⟩, .int .i64 l2, .int .i64 c2] 108))))
       go_wp2_with (at_builtin; refine wpList_append_own _ rfl (.tmp 76) (.tmp 78) 97 rfl (w.heap.size + 1) 108 i0 _ 4 40 underlying97 hi hz0 hz1 hz2 rfl (by decide) _ _ _ rfl (hcoc.o.ow.alloc _) ⟨_, 0, none⟩ 1 1 (Tok.cells ⟨kd, t, l2, c2⟩) rfl rfl (On _ ⟨kd, t, l2, c2⟩ 108 (xS _ _)) (K1 _) (by unfold maxLen; omega) (by omega) (by have h1 := hcoc.o.sz; rw [xS] at h1; rw [xS, xS]; omega) ?_)
       intro v' w3 zho zhn _
       have hal2 : acc.length + 1 ≤ 8192 := by omega
       have HCO3 := Za (hcoc.o.app (t := ⟨kd, t, l2, c2⟩) zho zhn)
       have hhd := Ek HAT2.o HNE.o HRD.o zhz
       rw [zhy.o, List.length_drop, List.length_drop, Yp, show S.size - (k + m) - (S.size - (k + m + n2)) = n2 from by omega] at hhd
       have HHD := Za hhd
       clear zho zhn hhd hcoc HAT2 HNE HRD zhy zhz
       go_wp2
       refine ⟨⟨k + m + n2, l2, c2 + n2, acc ++ [⟨kd, t, l2, c2⟩], HCO3, by omega, by omega, by omega, by simp; omega, rfl, by go_num, by go_num, HHD⟩, by simp [intOf]; omega⟩
    ·have hnil : S.data.toList.drop (k + m) = [] := List.drop_eq_nil_of_le (by rw [Yp]; omega)
     have hend := HAT2.o
     rw [hnil] at hend
     have HEND := Za (Rb hend)
     have hI : (S.size : Int) ≤ (k : Int) + (m : Int) := by omega
     clear hnil hend HAT2
     go_wp2_with (at_builtin; refine wpList_append_own _ rfl (.tmp 44) (.tmp 48) 97 rfl (w.heap.size + 1) 108 i0 _ 4 40 underlying97 hi hz0 hz1 hz2 rfl (by decide) _ _ _ rfl (hco.o.ow.alloc _) ⟨_, 0, none⟩ 1 1 (Tok.cells ⟨0, [], l2, c2⟩) rfl rfl (K9 _ ⟨0, [], l2, c2⟩ 108) (K1 _) (by unfold maxLen; omega) (by omega) (by have := hco.o.sz; simp; omega) ?_)
     intro v' w3 zho zhn _
     have hco3 := hco.o.app (t := ⟨0, [], l2, c2⟩) zho zhn
     have hdg := Za hco3.dg
     have hbl := Za hco3.bl
     obtain ⟨g, cap', rfl⟩ : ∃ g cap', v' = .slice (some ⟨g, 0, none⟩) (acc.length + 1) cap' := by
      rcases zho.2 with ⟨_, h0⟩ | ⟨g, cap', cur, h1, _⟩
      ·omega
      ·exact ⟨g, cap', h1⟩
     have hgb := (Qt zho g rfl).1
     have how := Za hco3.ow
     have g0 := hco3.dg.c 0 (by omega)
     have g1 := hco3.dg.c 1 (by omega)
     have g2 := hco3.dg.c 2 (by omega)
     have g3 := hco3.dg.c 3 (by omega)
     simp only [List.getD_cons_zero, List.getD_cons_succ] at g0 g1 g2 g3
     have z0 := hco3.dg.fz 0
     have z1 := hco3.dg.fz 1
     have z2 := hco3.dg.fz 2
     have z3 := hco3.dg.fz 3
     clear zho zhn hco3
     go_wp2
     refine bodyPost_ret (results_tmp_cell rfl _ rfl (hdg.o.set _ _ _) underlying30 Mi) rfl ?_
     rw [HEND.o]
     refine ⟨Q3 hbl.o _ _ _ _, g, cap', ?_, ?_⟩
     ·simp [diagA]
     ·have ho := F0 how.o (show w.heap.size ≤ w.heap.size + 1 by omega)
      rw [List.length_append] at ho ⊢
      have hne : ∀ o, (Value.slice (some ⟨g, 0, none⟩) (acc.length + 1) cap').ownBlock ≠ some (⟨w.heap.size, o, none⟩ : Addr).block := fun o e => by
       simp [Value.ownBlock] at e
       omega
      exact ownsRow_setCell_other (ownsRow_setCell_other (ownsRow_setCell_other (ownsRow_setCell_other ho (hne 0) _) (hne 1) _) (hne 2) _) (hne 3) _
theorem lexR_c (S : ByteArray) (hS : S.size ≤ 140737488351232) (w : World) : Calls prog 58 #[.string S] w (LexPost w (Wb S.data.toList)) := by
 by_cases h : S.size ≤ 65536
 ·exact Oy S h w
 ·rw [Wb, if_pos (by rw [Yp]; omega)]
  exact Cr S (by omega) hS w
end Go.Proofs.YtbnjllkkhhkkaaaGreatDoor.Lx
namespace Go.Proofs.YtbnjllkkhhkkaaaGreatDoor
open Go.Proofs.Tryz
open Go.RowKit
def BegP (w : World) (R : List Tok ⊕ (Int × Nat × Nat)) (e : Ending) (w' : World) : Prop :=
 Below w.heap.size w w' ∧ match R with
 | .inr (x, li, co) => ∃ pb, e = .returned (.tuple #[.pointer (some ⟨pb, 0, none⟩), Vx li co x])
 | .inl ts => ∃ pb g cap, e = .returned (.tuple #[.pointer (some ⟨pb, 0, none⟩), Vx 0 0 0]) ∧ w.heap.size ≤ pb ∧ Zp w' pb g cap ts 0 (.inl 0)
def LexF (lo : Nat) (w' : World) (ga : Option Addr) (gl li co : Nat) (x : Int) : List Tok ⊕ (Int × Nat × Nat) → Prop
 | .inr p => p = (x, li, co)
 | .inl ts => ∃ g, ga = some ⟨g, 0, none⟩ ∧ gl = ts.length ∧ li = 0 ∧ co = 0 ∧ x = 0 ∧ Q7 w' g ts ∧ g < w'.heap.size ∧ lo ≤ g
theorem Od {w : World} {R : List Tok ⊕ (Int × Nat × Nat)} {e : Ending} {w' : World} (h : Lx.LexPost w R e w') : Below w.heap.size w w' ∧ ∃ (ga : Option Addr) (gl gc li co : Nat) (x : Int), e = .returned (.tuple #[.slice ga gl gc, Vx li co x]) ∧ LexF w.heap.size w' ga gl li co x R := by
 obtain ⟨hb, hm⟩ := h
 refine ⟨hb, ?_⟩
 cases R with
 | inr p =>
  obtain ⟨x, li, co⟩ := p
  exact ⟨none, 0, 0, li, co, x, hm, rfl⟩
 | inl ts =>
  obtain ⟨g, cap, he, hown⟩ := hm
  have := hown.lt g rfl
  exact ⟨some ⟨g, 0, none⟩, ts.length, cap, 0, 0, 0, he, g, rfl, rfl, rfl, rfl, rfl, Kq hown, this.2, this.1⟩
abbrev Xn (li co : Nat) (x : Int) : Obj := .cells #[.int .i64 0, .int .i64 li, .int .i64 co, .int .i64 x] 30
theorem zgl (S : ByteArray) (hS : S.size ≤ 140737488351232) (w : World) :
  Calls prog 24 #[.string S] w (BegP w (Wb S.data.toList)) := by
 have HX := Za (fun wx => Lx.lexR_c S hS wx)
 obtain ⟨R, hR⟩ := xE (Wb S.data.toList)
 rw [← hR] at HX ⊢
 have HR := Za hR
 clear hR
 go_enter func24, ntmps24
 go_wp2_with fail
 refine (HX.o _).mono ?_
 intro e w2 zhm
 obtain ⟨hb2, ga, gl, gc, li, co, x, rfl, hm⟩ := Od zhm
 have HB2 := Za hb2
 have HM := Za hm
 have HD0 : xQ (w2.heap[w.heap.size]? = some Q5) := (hb2.block _ (by simp)).trans (xL _ _)
 clear zhm hb2 hm
 have HB3 : xQ (Below w.heap.size w (w2.alloc (Xn li co x))) := Zn (Zn (Zl _ _) HB2.o) (Zl _ _)
 have HD3 : xQ ((w2.alloc (Xn li co x)).heap[w2.heap.size]? = some (Xn li co x)) := xL _ _
 have HD1 : xQ ((w2.alloc (Xn li co x)).heap[w.heap.size]? = some Q5) := (xA (xB HD0.o)).trans HD0.o
 have HM3 : xQ (LexF (w.heap.size + 1) (w2.alloc (Xn li co x)) ga gl li co x R) := by
  have := HM.o
  cases R with
  | inr p => exact this
  | inl ts =>
   obtain ⟨g, h1, h2, h3, h4, h5, h6, h7, h8⟩ := this
   exact ⟨g, h1, h2, h3, h4, h5, Wj h6 (xA h7), by rw [xS]; omega, by rw [xS] at h8; omega⟩
 have hlt0 : w.heap.size < w2.heap.size := xB HD0.o
 go_wp2_with fail
 obtain ⟨db, hdb⟩ := xE w2.heap.size
 rw [← hdb] at HD3 hlt0 ⊢
 clear hdb HM HD0 HB2
 generalize w2.alloc (Xn li co x) = W2 at HB3 HD3 HD1 HM3 ⊢
 have hl2 := xB HD3.o
 have HS0 : xQ (∀ W : World, W.heap[db]? = some (Xn li co x) → W.cell? ⟨db, 0, none⟩ = some (.int .i64 0) ∧ W.cell? ⟨db, 1, none⟩ = some (.int .i64 li) ∧ W.cell? ⟨db, 2, none⟩ = some (.int .i64 co) ∧ W.cell? ⟨db, 3, none⟩ = some (.int .i64 x)) := fun W h => (Zr h).1
 have hSS := HS0.o W2 HD3.o
 have hl0 := xB HD1.o
 obtain ⟨⟨r0, r1, r2, r3⟩, ⟨f0, f1, f2, f3⟩, hrl⟩ := Zr HD1.o
 obtain ⟨s0, s1, s2, s3⟩ := hSS
 go_region
 go_wp2_with fail
 have hbx := set4 HD1.o (.int .i64 0) (.int .i64 li) (.int .i64 co) (.int .i64 x)
 have hsz : ((((W2.setCell ⟨w.heap.size, 0, none⟩ (.int .i64 0)).setCell ⟨w.heap.size, 1, none⟩ (.int .i64 li)).setCell ⟨w.heap.size, 2, none⟩ (.int .i64 co)).setCell ⟨w.heap.size, 3, none⟩ (.int .i64 x)).heap.size = W2.heap.size := Vj ..
 refine bodyPost_ret (Lx.results_tmp_cell rfl _ rfl ((xA (by rw [hsz]; exact hl0)).trans hbx) underlying30 (by kernel_rfl)) rfl ?_
 refine ⟨((Xd HB3.o (xR) _ _ _ _).alloc (by rw [hsz]; exact HB3.o.size) _).drew, ?_⟩
 have HM4 := HM3.o
 have HRo := HR.o
 cases R with
 | inr p =>
  obtain rfl : p = (x, li, co) := HM4
  exact ⟨_, rfl⟩
 | inl ts =>
  obtain ⟨g, rfl, rfl, rfl, rfl, rfl, h6, h7, h8⟩ := HM4
  have ok := Lk HRo.symm
  have hgn : g ≠ w.heap.size := by omega
  refine ⟨W2.heap.size, g, gc, rfl, by have := HB3.o.size; omega, 0, ?_, ok.pos, (fun b e => Sum.inl.inj e.symm), (fun _ e => nomatch e), h7, ?_⟩
  ·have := xL ((((W2.setCell ⟨w.heap.size, 0, none⟩ (.int .i64 0)).setCell ⟨w.heap.size, 1, none⟩ (.int .i64 ((0 : Nat) : Int))).setCell ⟨w.heap.size, 2, none⟩ (.int .i64 ((0 : Nat) : Int))).setCell ⟨w.heap.size, 3, none⟩ (.int .i64 0)) (rpO g ts.length gc 0 0 0 0 0)
   rw [hsz] at this
   exact this
  ·exact Wj h6 ((xA (by rw [hsz]; exact h7)).trans (Yn hgn _ _ _ _))
theorem E6 {α : Type} (ts : List Tok) (R : Pr α) : (∃ x b, R = .inl (x, b) ∧ Vy ts (Zd R) = .inl b ∧ Uj (Uv ts R) = .inl x) ∨ ∃ p, Vy ts (Zd R) = .inr p ∧ Uj (Uv ts R) = .inr p := by
 cases R with
 | inr p => exact .inr ⟨p, rfl, rfl⟩
 | inl q =>
  obtain ⟨x, b⟩ := q
  by_cases h : ((Zg ts b).kind == 0) = true
  ·refine .inl ⟨x, b, rfl, if_pos h, ?_⟩
   show Uj (if (Zg ts b).kind == 0 then .inl (x, b) else Ys ts 7 b) = _
   rw [if_pos h]
   rfl
  ·refine .inr ⟨(7, (Zg ts b).line, (Zg ts b).col), if_neg h, ?_⟩
   show Uj (if (Zg ts b).kind == 0 then .inl (x, b) else Ys ts 7 b) = _
   rw [if_neg h]
   rfl
end Go.Proofs.YtbnjllkkhhkkaaaGreatDoor
namespace Go.Proofs.YtbnjllkkhhkkaaaGreatDoor
open Go.Proofs.Tryz
open Go.RowKit
attribute [local go_sem ↓] Go.wp_at_zero Go.wp_at_succ
def Yq (lo : Nat) (w : World) (x : NV) (R : Pr Ty) : Prop := ∀ D b, R = .inl (D, b) → Zv lo w x D
section
variable {lo lo' pb b o : Nat} {w w' : World} {x : NV} {R : Pr Ty}
theorem Yq.lower (h : Yq lo w x R) (hl : lo' ≤ lo) : Yq lo' w x R := fun D b e => (h D b e).lower hl
theorem Yq.stay (h : Yq lo w x R) (hs : Zj pb w w') (hp : pb < lo) : Yq lo w' x R := fun D b e => (h D b e).stay hs hp
theorem Yq.below (h : Yq lo w x R) (hb : Below w.heap.size w w') : Yq lo w' x R := fun D b e => (h D b e).below hb
end
def Y4 (pb tb cap : Nat) (ts : List Tok) (d : Nat) (w : World) (R : Pr Ty) (e : Ending) (w' : World) : Prop :=
 Zj pb w w' ∧ Zp w' pb tb cap ts d (Zd R) ∧ ∃ x : NV, e = .returned x.val ∧ Yq w.heap.size w' x R
abbrev Zu (k : Int) (li co : Nat) : NV := ⟨k, ⟨#[]⟩, 0, li, co, none, 0, 0, none, 0, 0, none, 0, 0⟩
theorem Mo (pb tb cap d : Nat) (ts : List Tok) (S : Z3) (k : Int) (w : World) (h : Zp w pb tb cap ts d S) :
  Calls prog 115 #[.pointer (some ⟨pb, 0, none⟩), .int .i64 k] w fun r w' => ∃ li co, r = .returned (Zu k li co).val ∧ (∀ a, S = .inl a → li = Zx ts a ∧ co = Zz ts a) ∧ Zj pb w w' ∧ Zp w' pb tb cap ts d S := by
 obtain ⟨a, h⟩ := h
 have hal : (a : Int) < (ts.length : Int) := by have := h.lt; omega
 have hpl := h.ltp
 have htl := Nat.lt_trans h.tlt h.ltp
 have HL := Za h.live
 have H0 := Za h
 have h1 := (h.alloc Ze.obj).drew
 obtain ⟨⟨c0, c1, c2, c3, c4, c5⟩, f1, f2, f3, f4, f5⟩ := h1.cells
 obtain ⟨q0, q1, q2, q3⟩ := h1.toks a h1.lt
 obtain ⟨t, ht⟩ := xE (Zg ts a)
 rw [← ht] at q0 q1 q2 q3
 have HT := Za ht
 have hSS := And.intro c0 (And.intro c1 (And.intro q2 q3))
 clear ht c0 c1 c2 c3 c4 c5 q0 q1 q2 q3 h h1 f1 f2 f3 f4 f5
 have HS1 : xQ (∀ o, ((w.alloc o).drew).cell? ⟨pb, 0, none⟩ = some (.slice (some ⟨tb, 0, none⟩) ts.length cap) ∧ ((w.alloc o).drew).cell? ⟨pb, 1, none⟩ = some (.int .i64 a) ∧ ((w.alloc o).drew).cell? ⟨tb, a * 4 + 2, none⟩ = some (.int .i64 t.line) ∧ ((w.alloc o).drew).cell? ⟨tb, a * 4 + 3, none⟩ = some (.int .i64 t.col)) := fun o => by
  have h1 := (H0.o.alloc o).drew
  rw [HT.o]
  exact ⟨h1.cells.1.1, h1.cells.1.2.1, (h1.toks a h1.lt).2.2.1, (h1.toks a h1.lt).2.2.2⟩
 go_enter func115, ntmps115
 go_wp2_with fail
 go_region_held (fun W => W.cell? ⟨pb, 0, none⟩ = some (.slice (some ⟨tb, 0, none⟩) ts.length cap) ∧ W.cell? ⟨pb, 1, none⟩ = some (.int .i64 a) ∧ W.cell? ⟨tb, a * 4 + 2, none⟩ = some (.int .i64 t.line) ∧ W.cell? ⟨tb, a * 4 + 3, none⟩ = some (.int .i64 t.col)) (first | with_reducible assumption | with_reducible exact HS1.o _) (fail)
 go_wp2_with fail
 refine bodyPost_ret (results_cell_row rfl _ _ w.heap.size 27 _ (0, 0) _ rfl (xL w _) underlying27 rfl (by kernel_rfl)) rfl ?_
 refine ⟨t.line, t.col, rfl, fun b e => ?_, (Zj.of hpl (Zl w _)).drew, a, (H0.o.alloc _).drew⟩
 rw [HL.o b e, HT.o]
 exact ⟨rfl, rfl⟩
def Gv (lo : Nat) (w' : World) (R : Pr (List Ty)) (e : Ending) : Prop :=
 (e = .returned (.slice none 0 0) ∧ ∀ l b, R = .inl (l, b) → l = []) ∨
 ∃ (g : Nat) (k : Int) (nm : ByteArray) (na : Option Addr) (nl nc : Nat) (ka : Option Addr) (kl kc : Nat) (x : Option Ty), e = .returned (.slice (some ⟨g, 0, none⟩) 1 1) ∧ Z8 Wi lo 36 4 none w' (.slice (some ⟨g, 0, none⟩) 1 1) [[.int .i64 k, .string nm, .slice na nl nc, .slice ka kl kc]] [x] ∧ ∀ l b, R = .inl (l, b) → ∃ t, l = [t] ∧ x = some t
theorem Hm (pb tb cap d : Nat) (ts : List Tok) (ok : Z0 ts) (K : Nat → Pr Ty)
  (hK : ∀ S w, Zp w pb tb cap ts d S → Calls prog 31 #[.pointer (some ⟨pb, 0, none⟩)] w (Vn pb tb cap ts d w (Zf K S)))
  (S : Z3) (w : World) (h : Zp w pb tb cap ts d S) :
  Calls prog 117 #[.pointer (some ⟨pb, 0, none⟩)] w fun e w' => Zj pb w w' ∧ Zp w' pb tb cap ts d (Zd (Zf (Yx ts K) S)) ∧ Gv w.heap.size w' (Zf (Yx ts K) S) e := by
 have HC := Za (Y5 pb tb cap d ts S [58] w h ok)
 have HK := Za hK
 have hpl := h.ltp
 obtain ⟨R, hR⟩ := xE (Zf (Yx ts K) S)
 rw [← hR]
 have HR := Za hR
 clear h ok hK hR
 cases hq : Yd ts S [58] with
 | false =>
  rw [hq, if_neg (by simp)] at HC
  have HS : xQ (Zd R = S ∧ ∀ l b, R = .inl (l, b) → l = []) := by
   show _ ∧ _
   rw [HR.o]
   cases S with
   | inr p => exact ⟨rfl, fun l b e => by cases e⟩
   | inl a =>
    have e0 : Yx ts K a = .inl ([], a) := by unfold Yx; rw [show Zc ts a [58] = false from hq]; rfl
    exact ⟨by show Zd (Yx ts K a) = _; rw [e0]; rfl, fun l b e => by
     have e1 : Yx ts K a = .inl (l, b) := e
     rw [e0] at e1
     injection e1 with e1
     injection e1 with e1 _
     exact e1.symm⟩
  clear hq
  go_enter func117, ntmps117
  go_wp2_with fail
  refine HC.o.mono ?_
  rintro e w1 ⟨rfl, hst, hat⟩
  have HF := Za (And.intro hst hat)
  clear hst hat
  go_wp2_with fail
  go_ret
  rw [HS.o.1]
  exact ⟨HF.o.1, HF.o.2, .inl ⟨rfl, HS.o.2⟩⟩
 | true =>
  rw [hq, if_pos rfl] at HC
  obtain ⟨a, rfl⟩ : ∃ a, S = .inl a := by cases S with
   | inl a => exact ⟨a, rfl⟩
   | inr p => cases hq
  have HRt : xQ (R = (K (a + 1)).go fun t a => .inl ([t], a)) := by
   rw [HR.o]
   show Yx ts K a = _
   unfold Yx
   rw [show Zc ts a [58] = true from hq]
   rfl
  clear hq
  go_enter func117, ntmps117
  go_wp2_with fail
  refine HC.o.mono ?_
  rintro e w1 ⟨rfl, hst, hat⟩
  have HF := Za (And.intro hst hat)
  clear hst hat
  go_wp2_with fail
  refine (HK.o _ _ HF.o.2).mono ?_
  rintro e w2 ⟨hst, hat, k1, nm1, na1, nl1, nc1, ka1, kl1, kc1, rfl, hv⟩
  have HG := Za (And.intro (HF.o.1.trans hst) hat)
  have HV := Za (Bi (hv.lower HF.o.1.size))
  clear hst hat hv
  go_wp2_with fail
  go_ret
  refine ⟨(HG.o.1.alloc hpl _).alloc hpl _, ?_, .inr ⟨w2.heap.size + 1, k1, nm1, na1, nl1, nc1, ka1, kl1, kc1, Wc (K (a + 1)), rfl, ?_, fun l b e => ?_⟩⟩
  ·have := (HG.o.2.alloc (Zq k1 nm1 na1 nl1 nc1 ka1 kl1 kc1)).alloc (Zq k1 nm1 na1 nl1 nc1 ka1 kl1 kc1)
   rw [HRt.o]
   have e0 : Zd ((K (a + 1)).go fun t a => .inl ([t], a)) = Zd (Zf K (Wy (.inl a))) := by
    show _ = Zd (K (a + 1))
    cases K (a + 1) <;> rfl
   rw [e0]
   exact this
  ·have hs2 := HG.o.1.size
   have := Mp (B := w.heap.size) (et := 36) (k := 4) (rep := Wi) (wx := w2.alloc (Zq k1 nm1 na1 nl1 nc1 ka1 kl1 kc1)) (lo := w.heap.size) (c := [.int .i64 k1, .string nm1, .slice na1 nl1 nc1, .slice ka1 kl1 kc1]) (x := Wc (K (a + 1))) (Sd.keep HV.o (by rw [xS]; omega) fun b _ hl => xA hl) (xR) (by rw [xS]; omega) rfl
   rw [xS] at this
   exact this
  ·rw [HRt.o] at e
   cases hk : K (a + 1) with
   | inr p => rw [hk] at e; cases e
   | inl q =>
    obtain ⟨t, c⟩ := q
    rw [hk] at e
    injection e with e
    injection e with e _
    exact ⟨t, e.symm, rfl⟩
def Xk : Nat → List (List UInt8)
 | 0 => [[111, 114]]
 | 1 => [[97, 110, 100]]
 | 3 => [[43, 43]]
 | 4 => [[43], [45], [94]]
 | 5 => [[42], [47], [37], [38], [60, 60], [62, 62]]
 | _ => []
def Tt (ts : List Tok) (L : List (List UInt8)) (sub : Nat → Pr Ty) (R : Pr Ty) (lo nb : Nat) (S : Z3) (wr : World) (y : NV) (i gk : Nat) : Prop :=
 (∃ b m x, S = .inl b ∧ R = Y9 ts L sub (m + 1) x b ∧ ts.length ≤ b + m + 1 ∧ (∀ j (_ : j < L.length), j < i → Zc ts b L[j] = false) ∧ Yi lo nb wr y x ∧ (ts.length - b) * (L.length + 1) + (L.length - i) ≤ gk) ∨
 ∃ e, S = .inr e ∧ R = .inr e ∧ L.length - i ≤ gk
section
variable {ts : List Tok} {L : List (List UInt8)} {sub : Nat → Pr Ty} {R : Pr Ty} {lo nb i gk : Nat} {S : Z3} {wr wr' : World} {y : NV}
theorem Tt.keep (h : Tt ts L sub R lo nb S wr y i gk) (hx : ∀ x, Yi lo nb wr y x → Yi lo nb wr' y x) : Tt ts L sub R lo nb S wr' y i gk := by
 rcases h with ⟨b, m, x, h1, h2, h3, h4, h5, h6⟩ | h
 ·exact .inl ⟨b, m, x, h1, h2, h3, h4, hx x h5, h6⟩
 ·exact .inr h
theorem Tt.next (h : Tt ts L sub R lo nb S wr y i gk) (hi : i < L.length) (hs : Yd ts S L[i] = false) : ∃ g', g' < gk ∧ Tt ts L sub R lo nb S wr y (i + 1) g' := by
 rcases h with ⟨b, m, x, rfl, h2, h3, h4, h5, h6⟩ | ⟨e, rfl, h2, h3⟩
 ·refine ⟨(ts.length - b) * (L.length + 1) + (L.length - (i + 1)), by omega, .inl ⟨b, m, x, rfl, h2, h3, fun j hj hji => ?_, h5, xR⟩⟩
  by_cases e : j = i
  ·subst e; exact hs
  ·exact h4 j hj (by omega)
 ·exact ⟨L.length - (i + 1), by omega, .inr ⟨e, rfl, h2, xR⟩⟩
theorem Tt.done (h : Tt ts L sub R lo nb S wr y i gk) (hi : L.length ≤ i) : Zd R = S ∧ ∀ D b, R = .inl (D, b) → Yi lo nb wr y D := by
 rcases h with ⟨b, m, x, rfl, h2, h3, h4, h5, h6⟩ | ⟨e, rfl, h2, h3⟩
 ·have : R = .inl (x, b) := by
   rw [h2]
   refine Dh ?_
   rw [List.any_eq_false]
   intro t ht
   obtain ⟨j, hj, rfl⟩ := List.mem_iff_getElem.1 ht
   rw [h4 j hj (by omega)]
   simp
  rw [this]
  refine ⟨rfl, fun D c e => ?_⟩
  injection e with e
  injection e with e _
  rw [← e]
  exact h5
 ·rw [h2]
  exact ⟨rfl, fun D b e => by cases e⟩
theorem Tt.seen (h : Tt ts L sub R lo nb S wr y i gk) (hi : i < L.length) (hs : Yd ts S L[i] = true) (hu : ∀ a x b, sub a = .inl (x, b) → a ≤ b) : ∃ b x, S = .inl b ∧ Yi lo nb wr y x ∧ (ts.length - b) * (L.length + 1) ≤ gk ∧
  ((∃ D2 b2, sub (b + 1) = .inl (D2, b2) ∧ b + 1 ≤ b2 ∧ (b2 < ts.length → ∃ m, R = Y9 ts L sub (m + 1) (Zi 14 L[i] 0 (Zx ts b) (Zz ts b) [] [] [x, D2]) b2 ∧ ts.length ≤ b2 + m + 1)) ∨ ∃ e, sub (b + 1) = .inr e ∧ R = .inr e) := by
 rcases h with ⟨b, m, x, rfl, h2, h3, h4, h5, h6⟩ | ⟨e, rfl, h2, h3⟩
 ·have hsb : Zc ts b L[i] = true := hs
  have ht : (Zg ts b).text = L[i] := by
   unfold Zc at hsb
   simp only [Bool.and_eq_true, beq_iff_eq] at hsb
   exact hsb.2
  rw [Aq (List.any_eq_true.2 ⟨L[i], List.getElem_mem hi, hsb⟩), ht] at h2
  refine ⟨b, x, rfl, h5, by omega, ?_⟩
  cases hk : sub (b + 1) with
  | inr e => exact .inr ⟨e, rfl, by rw [h2, hk]; rfl⟩
  | inl q =>
   obtain ⟨D2, b2⟩ := q
   have hb2 := hu _ _ _ hk
   refine .inl ⟨D2, b2, rfl, hb2, fun hl => ?_⟩
   obtain ⟨m, rfl⟩ : ∃ q, m = q + 1 := ⟨m - 1, by omega⟩
   exact ⟨m, by rw [h2, hk]; rfl, by omega⟩
 ·cases hs
end
theorem RX.put8 {pb tb cap d b : Nat} {ts : List Tok} {w0 w : World} {S : Z3} {bx : List (Nat × Obj)} {x : NV} (h : RX pb tb cap ts w0 w d S ((b, x.obj) :: bx)) (hbx : ∀ p ∈ bx, p.1 ≠ b) (y : NV) : RX pb tb cap ts w0 (put8 w b y) d S ((b, y.obj) :: bx) := by
 have hb := (h.has _ (xM)).2
 have hp := h.hp
 have hpb := xT hp hb
 refine ⟨Yr h.st hp hb y, (((((((h.at_.other hpb 0 _).other hpb 1 _).other hpb 2 _).other hpb 3 _).other hpb 4 _).other hpb 5 _).other hpb 6 _).other hpb 7 _, hp, fun p hpx => ?_⟩
 rcases List.mem_cons.1 hpx with rfl | hpx
 ·exact ⟨Yj (h.box (xM)), hb⟩
 ·exact ⟨(Xq (hbx p hpx)).trans (h.box (xW _ hpx)), (h.has p (xW _ hpx)).2⟩
theorem RX.far {pb tb cap d c : Nat} {ts : List Tok} {w0 w : World} {S : Z3} {bx : List (Nat × Obj)} (h : RX pb tb cap ts w0 w d S bx) (hc : w0.heap.size ≤ c) (hbx : ∀ p ∈ bx, p.1 ≠ c) (o : Nat) (u : Value) : RX pb tb cap ts w0 (w.setCell ⟨c, o, none⟩ u) d S bx :=
 ⟨h.st.own h.hp hc o u, h.at_.other (xT h.hp hc) o u, h.hp, fun p hp => ⟨(xH (hbx p hp)).trans (h.box hp), (h.has p hp).2⟩⟩
def Left (pb tb cap : Nat) (ts : List Tok) (w0 : World) (d : Nat) (S : Z3) (rb nb : Nat) (W Wf : World) (x : NV) (n : Nat) : Prop :=
 RX pb tb cap ts w0 Wf d S [(rb, x.obj)] ∧ (∀ c, c ≠ rb → c ≠ nb → c < W.heap.size → Wf.heap[c]? = W.heap[c]?) ∧ W.heap.size + n = Wf.heap.size
section
variable {pb tb cap d rb nb n : Nat} {ts : List Tok} {w0 W Wf : World} {S : Z3} {bx : List (Nat × Obj)} {x : NV}
theorem Mh (h : RX pb tb cap ts w0 W d S bx) (hm : (rb, Ze.obj) ∈ bx) (nb : Nat) (x : NV) : Left pb tb cap ts w0 d S rb nb W (put8 W rb x) x 0 :=
 ⟨RX.put8 (h.perm (bx' := [(rb, Ze.obj)]) (by intro p hp; rw [List.mem_singleton.1 hp]; exact hm)) (by simp) x, fun c h1 _ _ => Xq h1, Wr.symm⟩
theorem Us (h : RX pb tb cap ts w0 W d S bx) (hm : (rb, Ze.obj) ∈ bx) (hn : w0.heap.size ≤ nb) (hr : rb ≠ nb) (o : Nat) (v : Value) (x : NV) : Left pb tb cap ts w0 d S rb nb W (put8 (W.setCell ⟨nb, o, none⟩ v) rb x) x 0 := by
 have h1 := (h.perm (bx' := [(rb, Ze.obj)]) (by intro p hp; rw [List.mem_singleton.1 hp]; exact hm)).far hn (by intro p hp; rw [List.mem_singleton.1 hp]; exact hr) o v
 exact ⟨h1.put8 (by simp) x, fun c h2 h3 _ => (Xq h2).trans (xH h3), by rw [Wr, Zw]; rfl⟩
theorem Kw (h : RX pb tb cap ts w0 W d S bx) (hm : (rb, Ze.obj) ∈ bx) (hn : w0.heap.size ≤ nb) (hr : rb ≠ nb) (o : Nat) (v : Value) (o' : Nat) (v' : Value) (x : NV) : Left pb tb cap ts w0 d S rb nb W (put8 ((W.setCell ⟨nb, o, none⟩ v).setCell ⟨nb, o', none⟩ v') rb x) x 0 := by
 have h1 := ((h.perm (bx' := [(rb, Ze.obj)]) (by intro p hp; rw [List.mem_singleton.1 hp]; exact hm)).far hn (by intro p hp; rw [List.mem_singleton.1 hp]; exact hr) o v).far hn (by intro p hp; rw [List.mem_singleton.1 hp]; exact hr) o' v'
 exact ⟨h1.put8 (by simp) x, fun c h2 h3 _ => (Xq h2).trans ((xH h3).trans (xH h3)), by rw [Wr, Zw, Zw]; rfl⟩
theorem Tp (h : Left pb tb cap ts w0 d S rb nb W Wf x n) (o : Obj) : Left pb tb cap ts w0 d S rb nb W (Wf.alloc o) x (n + 1) :=
 ⟨(h.1.alloc o).drop, fun c h1 h2 h3 => (xA (by have := h.2.2; omega)).trans (h.2.1 c h1 h2 h3), by rw [xS, ← h.2.2]; omega⟩
theorem M8 (h : Left pb tb cap ts w0 d S rb nb W Wf x n) (o : Obj) {k : Nat} (hk : k = W.heap.size + n) : (Wf.alloc o).heap[k]? = some o := by
 rw [hk, h.2.2]
 exact xL _ _
end
theorem Vh {fn : Func} {p : Tmp} {Q : Ending → World → Prop} {a : Act} {W : World} {rb : Nat} {x : NV} (h : fn.results = #[.cell p 27]) (hp : a.tmps.getD p undef = .pointer (some ⟨rb, 0, none⟩)) (hg : W.heap[rb]? = some x.obj) (hd : a.defers = []) (hQ : Q (.returned x.val) W) : bodyPost prog fn Q .ret a W :=
 bodyPost_ret (results_cell_row h _ _ rb 27 _ (0, 0) _ hp hg underlying27 rfl (by kernel_rfl)) hd hQ
abbrev Ve (x y : NV) : Obj := .cells #[.int .i64 x.k, .string x.tx, .int .i64 x.N, .int .i64 x.li, .int .i64 x.co, .slice x.ta x.tl x.tc, .slice x.na x.nl x.nc, .slice x.ka x.kl x.kc, .int .i64 y.k, .string y.tx, .int .i64 y.N, .int .i64 y.li, .int .i64 y.co, .slice y.ta y.tl y.tc, .slice y.na y.nl y.nc, .slice y.ka y.kl y.kc] 27
abbrev Yt (L : List (List UInt8)) : Obj := .cells (L.map fun s => (Value.string ⟨s.toArray⟩)).toArray 9
theorem Lo {w : World} {b i : Nat} {L : List (List UInt8)} (h : w.heap[b]? = some (Yt L)) (hi : i < L.length) : w.cell? ⟨b, i, none⟩ = some (.string ⟨L[i].toArray⟩) := by
 rw [cell_of_row _ _ _ _ _ _ h]
 simp [hi]
abbrev Uw (n : Nat) : Obj := .cells #[.slice (some ⟨n + 1, 0, none⟩) 1 1, .slice (some ⟨n + 1 + 1, 0, none⟩) 1 1, .slice (some ⟨n + 1 + 1 + 1, 0, none⟩) 0 0, .slice (some ⟨n + 1 + 1 + 1 + 1, 0, none⟩) 1 1, .slice (some ⟨n + 1 + 1 + 1 + 1 + 1, 0, none⟩) 3 3, .slice (some ⟨n + 1 + 1 + 1 + 1 + 1 + 1, 0, none⟩) 6 6] 24
theorem Br (pb tb cap d : Nat) (ts : List Tok) (ok : Z0 ts) (k : Nat) (hk : k ≤ 5) (hk2 : k ≠ 2) (sub : Nat → Pr Ty) (hu : ∀ a x b, sub a = .inl (x, b) → a ≤ b) (f : Nat) (hf : ts.length ≤ f + 1)
  (hP : ∀ S w, Zp w pb tb cap ts d S → Calls prog 120 #[.pointer (some ⟨pb, 0, none⟩), .int .i64 (k + 1 : Nat)] w (Y4 pb tb cap ts d w (Zf sub S)))
  (S : Z3) (w : World) (h : Zp w pb tb cap ts d S) :
  Calls prog 120 #[.pointer (some ⟨pb, 0, none⟩), .int .i64 k] w (Y4 pb tb cap ts d w (Zf (fun a => (sub a).go fun x a => Y9 ts (Xk k) sub (f + 1) x a) S)) := by
 have e6 : ((k : Int) == 6) = false := by simp; omega
 have e2 : ((k : Int) == 2) = false := by simp; omega
 have hk1 : (k : Int) + 1 ≤ 9223372036854775807 := by omega
 have HP : xQ (∀ S w, Zp w pb tb cap ts d S → Calls prog 120 #[.pointer (some ⟨pb, 0, none⟩), .int .i64 ((k : Int) + 1)] w (Y4 pb tb cap ts d w (Zf sub S))) := hP
 have HU := Za hu
 have OK := Za ok
 have X0 := Za ((((((((U4 h Ze.obj).alloc (Yt (Xk 0))).alloc (Yt (Xk 1))).alloc (Yt (Xk 2))).alloc (Yt (Xk 3))).alloc (Yt (Xk 4))).alloc (Yt (Xk 5))).alloc (Uw w.heap.size))
 simp only [xS] at X0
 obtain ⟨gb, HX0, hgb1, hgb2, HO⟩ : ∃ gb, xQ (RX pb tb cap ts w ((((((((w.alloc Ze.obj).alloc (Yt (Xk 0))).alloc (Yt (Xk 1))).alloc (Yt (Xk 2))).alloc (Yt (Xk 3))).alloc (Yt (Xk 4))).alloc (Yt (Xk 5))).alloc (Uw w.heap.size)) d S [(w.heap.size, Ze.obj), (w.heap.size + 1 + 1 + 1 + 1 + 1 + 1 + 1, Uw w.heap.size), (gb, Yt (Xk k))]) ∧ w.heap.size + 1 ≤ gb ∧ gb < w.heap.size + 7 ∧ xQ (∀ W : World, W.heap[w.heap.size + 1 + 1 + 1 + 1 + 1 + 1 + 1]? = some (Uw w.heap.size) → W.cell? ⟨w.heap.size + 1 + 1 + 1 + 1 + 1 + 1 + 1, k, none⟩ = some (.slice (some ⟨gb, 0, none⟩) (Xk k).length (Xk k).length)) := by
  have hh : k = 0 ∨ k = 1 ∨ k = 3 ∨ k = 4 ∨ k = 5 := by omega
  rcases hh with rfl | rfl | rfl | rfl | rfl
  ·exact ⟨w.heap.size + 1, X0.o.perm (by simp), by omega, by omega, fun W hW => by rw [cell_of_row _ _ _ _ _ _ hW]; rfl⟩
  ·exact ⟨w.heap.size + 1 + 1, X0.o.perm (by simp), by omega, by omega, fun W hW => by rw [cell_of_row _ _ _ _ _ _ hW]; rfl⟩
  ·exact ⟨w.heap.size + 1 + 1 + 1 + 1, X0.o.perm (by simp), by omega, by omega, fun W hW => by rw [cell_of_row _ _ _ _ _ _ hW]; rfl⟩
  ·exact ⟨w.heap.size + 1 + 1 + 1 + 1 + 1, X0.o.perm (by simp), by omega, by omega, fun W hW => by rw [cell_of_row _ _ _ _ _ _ hW]; rfl⟩
  ·exact ⟨w.heap.size + 1 + 1 + 1 + 1 + 1 + 1, X0.o.perm (by simp), by omega, by omega, fun W hW => by rw [cell_of_row _ _ _ _ _ _ hW]; rfl⟩
 obtain ⟨L, hL⟩ := xE (Xk k)
 obtain ⟨R, hR⟩ := xE (Zf (fun a => (sub a).go fun x a => Y9 ts (Xk k) sub (f + 1) x a) S)
 rw [← hR]
 rw [← hL] at hR HX0 HO
 have HLn : xQ (L.length ≤ 6) := by
  have hh : k = 0 ∨ k = 1 ∨ k = 3 ∨ k = 4 ∨ k = 5 := by omega
  rw [hL]
  rcases hh with rfl | rfl | rfl | rfl | rfl <;> (show (Xk _).length ≤ 6; decide)
 have HRr := Za hR
 have hLl := HLn.o
 clear hP h X0 hR hL hu ok
 go_enter func120, ntmps120
 go_wp2_with fail
 refine (HP.o _ _ HX0.o.at_).mono ?_
 rintro e w1 ⟨hst, hat, x0, rfl, hv⟩
 obtain ⟨R1, hR1⟩ := xE (Zf sub S)
 rw [← hR1] at hat hv
 have X1 := Za ((HX0.o.step hst hat).alloc x0.obj)
 have hs1 := hst.size
 simp only [xS] at hs1 hv
 obtain ⟨nb, hnb⟩ := xE w1.heap.size
 have HI0 : xQ (Tt ts L sub R (w.heap.size + 1) nb (Zd R1) (w1.alloc x0.obj) x0 0 (ts.length * (L.length + 1) + L.length)) := by
  cases S with
  | inr p => exact .inr ⟨p, by rw [hR1]; rfl, HRr.o, by omega⟩
  | inl a =>
   have e1 : R1 = sub a := hR1
   have e2 : R = (sub a).go fun x a => Y9 ts L sub (f + 1) x a := HRr.o
   rw [← e1] at e2
   cases hs : R1 with
   | inr p => exact .inr ⟨p, rfl, by rw [e2, hs]; rfl, by omega⟩
   | inl q =>
    obtain ⟨D, b⟩ := q
    refine .inl ⟨b, f, D, rfl, by rw [e2, hs]; rfl, by omega, (fun j _ hj => absurd hj (Nat.not_lt_zero _)), ?_, ?_⟩
    ·rw [hnb]
     exact L6 ((hv D b hs).lower (by omega)) _
    ·have : (ts.length - b) * (L.length + 1) ≤ ts.length * (L.length + 1) := Nat.mul_le_mul_right _ (Nat.sub_le _ _)
     omega
 rw [← hnb] at X1 hs1
 clear hst hat hv hR1 HRr HX0
 go_wp2_with fail
 rw [← hnb]
 clear hnb
 obtain ⟨ob, hob⟩ := xE (w.heap.size + 1 + 1 + 1 + 1 + 1 + 1 + 1)
 rw [← hob] at X1 HO ⊢
 have hob1 : w.heap.size + 7 = ob := by omega
 rw [hob1] at hgb2
 have hobn : ob < nb := by omega
 have hwob : w.heap.size + 1 ≤ ob := by omega
 clear hob hob1 hs1
 go_loopg [7] (ts.length * (L.length + 1) + L.length) (fun gk v wr => ∃ (S : Z3) (i : Nat) (y : NV), v = .int .i64 i ∧ i ≤ L.length ∧ xQ (RX pb tb cap ts w wr d S [(nb, y.obj), (w.heap.size, Ze.obj), (ob, Uw w.heap.size), (gb, Yt L)]) ∧ xQ (Tt ts L sub R (w.heap.size + 1) nb S wr y i gk))
 case atStart => exact ⟨_, 0, x0, rfl, xZ _, X1, HI0⟩
 case round =>
  clear X1 HI0
  obtain ⟨S', i, y, rfl, hi, X, HI⟩ := hrel
  have c0 := HO.o wr (X.o.box (p := (ob, Uw w.heap.size)) (by simp))
  have hlob := xB (X.o.box (p := (ob, Uw w.heap.size)) (by simp))
  by_cases hlt : i < L.length
  ·have hil : (i : Int) < (L.length : Int) := by omega
   go_wp2_with fail
   refine (Mo pb tb cap d ts S' 14 _ X.o.at_).mono ?_
   rintro e w2 ⟨li, co, rfl, hlc, hst, hat⟩
   have X2 := Za ((X.o.step hst hat).alloc (Zu 14 li co).obj)
   have hnl := xB (X.o.box (p := (nb, y.obj)) (by simp))
   have hp := X.o.hp
   have HF2 : xQ (∀ b, w.heap.size + 1 ≤ b → b < wr.heap.size → (w2.alloc (Zu 14 li co).obj).heap[b]? = wr.heap[b]?) := fun b h1 h2 => (xA (xT h2 hst.size)).trans (hst.keep b (by omega) h2)
   have HbT : xQ (∀ b, S' = .inl b → b < ts.length) := fun b e => by
    obtain ⟨a, ha⟩ := hat
    have := ha.live b e
    have := ha.lt
    omega
   have HLC := Za hlc
   have hs2 := hst.size
   clear hst hat hlc X
   have c1 := HO.o _ (X2.o.box (p := (ob, Uw w.heap.size)) (by simp))
   have c2 := Lo (X2.o.box (p := (gb, Yt L)) (by simp)) hlt
   have hlg := xB (X2.o.box (p := (gb, Yt L)) (by simp))
   have hlo := xB (X2.o.box (p := (ob, Uw w.heap.size)) (by simp))
   have HS2 : xQ (w2.heap.size < (w2.alloc (Zu 14 li co).obj).heap.size) := by show _ < _; rw [xS]; omega
   go_wp2_with fail
   obtain ⟨mb, hmb⟩ := xE w2.heap.size
   rw [← hmb] at X2 hs2 HS2 ⊢
   clear hmb
   generalize w2.alloc (.cells #[.int .i64 14, .string ⟨#[]⟩, .int .i64 0, .int .i64 li, .int .i64 co, .slice none 0 0, .slice none 0 0, .slice none 0 0] 27) = W2 at X2 HF2 c1 c2 hlg hlo HS2 ⊢
   have hnm : nb < mb := by omega
   refine (Y5 pb tb cap d ts S' L[i] W2 X2.o.at_ OK.o).mono ?_
   rintro e w3 ⟨rfl, hst, hat⟩
   have X3 := Za (X2.o.step hst hat)
   have hnl2 := xB (X2.o.box (p := (nb, y.obj)) (by simp))
   have HF3 : xQ (∀ b, w.heap.size + 1 ≤ b → b < wr.heap.size → w3.heap[b]? = wr.heap[b]?) := fun b h1 h2 => (hst.keep b (by omega) (by have := HS2.o; omega)).trans (HF2.o b h1 h2)
   have HS3 : xQ (mb < w3.heap.size) := xT HS2.o hst.size
   clear hst hat X2 HF2 c0 c1 c2 hlg hlo
   cases hs : Yd ts S' L[i] with
   | false =>
    rw [hs, if_neg (by simp)] at X3
    obtain ⟨g', hg', zhs⟩ := (HI.o.keep (wr' := w3) fun x hx => hx.keep hnl (by have := hs2; have := HS3.o; omega) fun b h1 h2 _ => HF3.o b h1 h2).next hlt hs
    have HN := Za zhs
    clear hs zhs
    go_wp2_with fail
    go_roundg g'
    case measure => exact hg'
    case rel => exact ⟨S', i + 1, y, by go_num, by omega, X3.o.perm (by simp), HN⟩
   | true =>
    rw [hs, if_pos rfl] at X3
    obtain ⟨b, x, hSb, hx, hgk, hor⟩ := HI.o.seen hlt hs HU.o
    have HX := Za hx
    have HOr := Za hor
    obtain ⟨hl, hc⟩ := HLC.o b hSb
    have HLc := Za (And.intro hl hc)
    have HSb := Za hSb
    have HGK := Za hgk
    have HC := Za (HP.o _ _ X3.o.at_)
    have e4 : Zf sub (Wy S') = sub (b + 1) := by rw [hSb]; rfl
    rw [e4] at HC
    have hbT := HbT.o b hSb
    clear hs hx hor hl hc hSb hgk e4 HLC HI
    obtain ⟨s, hsL⟩ := xE (L[i])
    have HSL := Za hsL
    have HTX : xQ (∀ W : World, W.heap[gb]? = some (Yt L) → W.cell? ⟨gb, i, none⟩ = some (.string ⟨s.toArray⟩)) := fun W hW => by rw [hsL]; exact Lo hW hlt
    rw [← hsL]
    clear hsL
    go_wp2_with fail
    refine HC.o.mono ?_
    rintro e w4 ⟨hst, hat, z, rfl, hv⟩
    have X4 := Za (X3.o.step hst hat)
    have hnl3 := xB (X3.o.box (p := (nb, y.obj)) (by simp))
    have HF4 : xQ (∀ b, w.heap.size + 1 ≤ b → b < wr.heap.size → w4.heap[b]? = wr.heap[b]?) := fun b h1 h2 => (hst.keep b (by omega) (by have := HS3.o; omega)).trans (HF3.o b h1 h2)
    have HLv : xQ (∀ D2 b2, sub (b + 1) = .inl (D2, b2) → b2 < ts.length) := fun D2 b2 e => by
     obtain ⟨a, ha⟩ := hat
     have := ha.live b2 (by rw [e]; rfl)
     have := ha.lt
     omega
    have HZ4 : xQ (Yq (mb + 1) w4 z (sub (b + 1))) := hv.lower (xB (X3.o.box (p := (mb, (Zu 14 li co).obj)) (by simp)))
    have hm4 := xB (X4.o.box (p := (mb, (Zu 14 li co).obj)) (by simp))
    clear hst hat hv HC X3
    obtain ⟨⟨n0, n1, n2, n3, n4, n5, n6, n7⟩, ⟨f0, f1, f2, f3, f4, f5, f6, f7⟩, hnl4⟩ := Zh (X4.o.box (p := (nb, y.obj)) (by simp))
    obtain ⟨⟨m0, m1, m2, m3, m4, m5, m6, m7⟩, ⟨g0, g1, g2, g3, g4, g5, g6, g7⟩, hml4⟩ := Zh (X4.o.box (p := (mb, (Zu 14 li co).obj)) (by simp))
    have c1 := HO.o w4 (X4.o.box (p := (ob, Uw w.heap.size)) (by simp))
    have c2 := HTX.o w4 (X4.o.box (p := (gb, Yt L)) (by simp))
    have hlg := xB (X4.o.box (p := (gb, Yt L)) (by simp))
    have hlo := xB (X4.o.box (p := (ob, Uw w.heap.size)) (by simp))
    have hne1 : ¬ mb = nb := by omega
    have hne2 : ¬ nb = mb := by omega
    have hne3 : ¬ gb = mb := by omega
    have hne4 : ¬ ob = mb := by omega
    go_wp2_with fail
    obtain ⟨Wf, hWf⟩ := xE ((((((((((((w4.setCell ⟨mb, 1, none⟩ (.string ⟨s.toArray⟩)).setCell ⟨mb, 7, none⟩ (.slice (some ⟨w4.heap.size + 1, 0, none⟩) 2 2)).setCell ⟨nb, 0, none⟩ (.int .i64 14)).setCell ⟨nb, 1, none⟩ (.string ⟨s.toArray⟩)).setCell ⟨nb, 2, none⟩ (.int .i64 0)).setCell ⟨nb, 3, none⟩ (.int .i64 li)).setCell ⟨nb, 4, none⟩ (.int .i64 co)).setCell ⟨nb, 5, none⟩ (.slice none 0 0)).setCell ⟨nb, 6, none⟩ (.slice none 0 0)).setCell ⟨nb, 7, none⟩ (.slice (some ⟨w4.heap.size + 1, 0, none⟩) 2 2)).alloc (.cells #[.int .i64 z.k, .string z.tx, .int .i64 z.N, .int .i64 z.li, .int .i64 z.co, .slice z.ta z.tl z.tc, .slice z.na z.nl z.nc, .slice z.ka z.kl z.kc] 27)).alloc (.cells #[.int .i64 y.k, .string y.tx, .int .i64 y.N, .int .i64 y.li, .int .i64 y.co, .slice y.ta y.tl y.tc, .slice y.na y.nl y.nc, .slice y.ka y.kl y.kc, .int .i64 z.k, .string z.tx, .int .i64 z.N, .int .i64 z.li, .int .i64 z.co, .slice z.ta z.tl z.tc, .slice z.na z.nl z.nc, .slice z.ka z.kl z.kc] 27))
    have hsz0 : (put8 ((w4.setCell ⟨mb, 1, none⟩ (.string ⟨s.toArray⟩)).setCell ⟨mb, 7, none⟩ (.slice (some ⟨w4.heap.size + 1, 0, none⟩) 2 2)) nb ⟨14, ⟨s.toArray⟩, 0, li, co, none, 0, 0, none, 0, 0, some ⟨w4.heap.size + 1, 0, none⟩, 2, 2⟩).heap.size = w4.heap.size := by rw [Wr, Zw, Zw]
    have HXF : xQ (RX pb tb cap ts w Wf d (Zd (sub (b + 1))) [(nb, NV.obj ⟨14, ⟨s.toArray⟩, 0, li, co, none, 0, 0, none, 0, 0, some ⟨w4.heap.size + 1, 0, none⟩, 2, 2⟩), (w.heap.size, Ze.obj), (ob, Uw w.heap.size), (gb, Yt L)]) := by
     have h1 := (X4.o.perm (bx' := [(nb, y.obj), (w.heap.size, Ze.obj), (ob, Uw w.heap.size), (gb, Yt L)]) (by simp))
     have h2 := ((h1.far (c := mb) (by omega) (by simp; omega) 1 (.string ⟨s.toArray⟩)).far (c := mb) (by omega) (by simp; omega) 7 (.slice (some ⟨w4.heap.size + 1, 0, none⟩) 2 2))
     rw [hWf]
     exact (((h2.put8 (by simp; omega) ⟨14, ⟨s.toArray⟩, 0, li, co, none, 0, 0, none, 0, 0, some ⟨w4.heap.size + 1, 0, none⟩, 2, 2⟩).alloc z.obj).drop.alloc (Ve y z)).drop
    have zhp : ∀ c, c ≠ nb → c ≠ mb → c < w4.heap.size → Wf.heap[c]? = w4.heap[c]? := fun c h1 h2 h3 => by
     rw [hWf]
     exact (xA (by rw [xS, hsz0]; omega)).trans ((xA (by rw [hsz0]; exact h3)).trans ((Xq (x := ⟨14, ⟨s.toArray⟩, 0, li, co, none, 0, 0, none, 0, 0, some ⟨w4.heap.size + 1, 0, none⟩, 2, 2⟩) h1).trans ((xH h2).trans (xH h2))))
    have hrow : Wf.heap[w4.heap.size + 1]? = some (Ve y z) := by
     have := Wn (put8 ((w4.setCell ⟨mb, 1, none⟩ (.string ⟨s.toArray⟩)).setCell ⟨mb, 7, none⟩ (.slice (some ⟨w4.heap.size + 1, 0, none⟩) 2 2)) nb ⟨14, ⟨s.toArray⟩, 0, li, co, none, 0, 0, none, 0, 0, some ⟨w4.heap.size + 1, 0, none⟩, 2, 2⟩) z.obj (Ve y z)
     rw [hsz0] at this
     rw [hWf]
     exact this
    have hsF : w4.heap.size + 2 = Wf.heap.size := by rw [hWf, xS, xS]; simp only [Zw]
    have HLF : xQ (∃ g', g' < gk ∧ Tt ts L sub R (w.heap.size + 1) nb (Zd (sub (b + 1))) Wf ⟨14, ⟨s.toArray⟩, 0, li, co, none, 0, 0, none, 0, 0, some ⟨w4.heap.size + 1, 0, none⟩, 2, 2⟩ 0 g') := by
     have hgk := HGK.o
     rcases HOr.o with ⟨D2, b2, h1, h2, h3⟩ | ⟨er, h1, h2⟩
     ·have hb2 := HLv.o D2 b2 h1
      obtain ⟨m, h4, h5⟩ := h3 hb2
      have hmul : (ts.length - b2 + 1) * (L.length + 1) ≤ (ts.length - b) * (L.length + 1) := Nat.mul_le_mul_right _ (by omega)
      rw [Nat.succ_mul] at hmul
      refine ⟨(ts.length - b2) * (L.length + 1) + L.length, by omega, .inl ⟨b2, m, _, by rw [h1]; rfl, h4, by omega, (fun j _ hj => absurd hj (Nat.not_lt_zero _)), fun o => ?_, by omega⟩⟩
      have hy : Yi (w.heap.size + 1) nb Wf y x := HX.o.keep hnl (by omega) fun c h6 h7 h8 => (zhp c h8 (by omega) (by omega)).trans (HF4.o c h6 h7)
      have hz : Yi (w.heap.size + 1) nb Wf z D2 := Lu (lo' := mb + 1) ((HZ4.o D2 b2 h1).keep (by omega) fun c h6 h7 => zhp c (by omega) (by omega) h7) (by omega) (by omega)
      have := To (kb := w4.heap.size + 1) (hy o) (hz o) ((Qd o (by omega)).trans hrow) (by omega) ⟨14, ⟨s.toArray⟩, 0, li, co, none, 0, 0, none, 0, 0, some ⟨w4.heap.size + 1, 0, none⟩, 2, 2⟩ [] [] ⟨rfl, rfl⟩ ⟨rfl, xZ _, 0, .inl rfl⟩ ⟨rfl, xZ _, .inl rfl⟩
      rw [← HSL.o, ← HLc.o.1, ← HLc.o.2]
      exact this
     ·have hmul : 1 * (L.length + 1) ≤ (ts.length - b) * (L.length + 1) := Nat.mul_le_mul_right _ (by omega)
      exact ⟨L.length, by omega, .inr ⟨er, by rw [h1]; rfl, h2, by omega⟩⟩
    rw [← hWf]
    clear hWf hrow zhp hsF hsz0
    obtain ⟨g', hg', hL⟩ := HLF.o
    go_roundg g'
    case measure => exact hg'
    case rel => exact ⟨_, 0, _, rfl, xZ _, HXF, hL⟩
  ·have hil : ¬ (i : Int) < (L.length : Int) := by omega
   obtain ⟨n8, _, hnl⟩ := Zh (X.o.box (p := (nb, y.obj)) (by simp))
   obtain ⟨n0, n1, n2, n3, n4, n5, n6, n7⟩ := n8
   obtain ⟨⟨r0, r1, r2, r3, r4, r5, r6, r7⟩, ⟨f0, f1, f2, f3, f4, f5, f6, f7⟩, hr1⟩ := Zh (X.o.box (p := (w.heap.size, Ze.obj)) (by simp))
   have hne : ¬ nb = w.heap.size := by omega
   have HD := Za (HI.o.done (by omega))
   have hp := X.o.hp
   go_wp2_with fail
   refine bodyPost_ret (results_cell_row rfl _ _ w.heap.size 27 _ (0, 0) _ rfl (Yj (x := y) (X.o.box (p := (w.heap.size, Ze.obj)) (by simp))) underlying27 rfl (by kernel_rfl)) rfl ⟨Yr X.o.st hp (xR) y, ?_, y, rfl, fun D b e => ?_⟩
   ·rw [HD.o.1]
    exact (RX.put8 (X.o.perm (bx' := [(w.heap.size, Ze.obj)]) (by simp)) (by simp) y).at_
   ·exact (((HD.o.2 D b e).now hnl).put8 (xU _) y).lower (Nat.le_succ _)
end Go.Proofs.YtbnjllkkhhkkaaaGreatDoor
