/- Part. -/
import Derived.Test.YtbnjllkkhhkkaaaGreatDoorPart18
set_option maxRecDepth 100000
set_option maxHeartbeats 4000000
namespace Go.Proofs.YtbnjllkkhhkkaaaGreatDoor
open Go.Proofs.Tryz
open Go.RowKit
attribute [local go_sem ↓] Go.wp_at_zero Go.wp_at_succ
def Wi (lo : Nat) (w : World) (c : List Value) (x : Option Ty) : Prop := (∃ (k : Int) (nm : ByteArray) (na : Option Addr) (nl nc : Nat) (ka : Option Addr) (kl kc : Nat), c = [.int .i64 k, .string nm, .slice na nl nc, .slice ka kl kc]) ∧ ∀ t, x = some t → V3 lo w c t
theorem Sd : Qj Wi where
 keep := fun h hs hk => ⟨h.1, fun t e => K3.keep (h.2 t e) hs hk⟩
 lower := fun h hl => ⟨h.1, fun t e => K3.lower (h.2 t e) hl⟩
def Wc {α : Type} : Pr α → Option α
 | .inl (x, _) => some x
 | .inr _ => none
theorem Bi {lo : Nat} {w : World} {k : Int} {nm : ByteArray} {na : Option Addr} {nl nc : Nat} {ka : Option Addr} {kl kc : Nat} {R : Pr Ty} (h : Ud lo w (.agg #[.int .i64 k, .string nm, .slice na nl nc, .slice ka kl kc]) R) : Wi lo w [.int .i64 k, .string nm, .slice na nl nc, .slice ka kl kc] (Wc R) :=
 ⟨⟨k, nm, na, nl, nc, ka, kl, kc, rfl⟩, fun t e => by
  cases R with
  | inr p => cases e
  | inl q =>
   obtain ⟨x, b⟩ := q
   injection e with e
   rw [← e]
   exact h x b rfl⟩
def Mv (ts : List Tok) (one : Nat → Pr Ty) (sep : List UInt8) (Rm : Pr (List Ty)) (S : Z3) (acc : List (Option Ty)) (gk : Nat) : Prop :=
 (∃ b l m, S = .inl b ∧ acc = l.map some ∧ Tk ts one sep Rm l m b ∧ ts.length ≤ b + (m + 1) ∧ l.length ≤ b + 1 ∧ ts.length - b ≤ gk) ∨ ∃ e, S = .inr e ∧ Rm = .inr e ∧ acc.length ≤ 8195
theorem RX.drop {pb tb cap d : Nat} {ts : List Tok} {w0 w : World} {S : Z3} {p : Nat × Obj} {bx : List (Nat × Obj)} (h : RX pb tb cap ts w0 w d S (p :: bx)) : RX pb tb cap ts w0 w d S bx := ⟨h.st, h.at_, h.hp, fun q hq => h.has q (xW _ hq)⟩
theorem Mv.len {ts : List Tok} {one : Nat → Pr Ty} {sep : List UInt8} {Rm : Pr (List Ty)} {S : Z3} {acc : List (Option Ty)} {gk : Nat} (h : Mv ts one sep Rm S acc gk) (hb : ∀ b, S = .inl b → b < 8193) : acc.length ≤ 8195 := by
 rcases h with ⟨b, l, m, e, rfl, _, _, h1, _⟩ | ⟨e, _, _, h⟩
 ·have := hb b e
  rw [List.length_map]
  omega
 ·exact h
theorem Ev (ts : List Tok) (one : Nat → Pr Ty) (sep : List UInt8) (f : Nat) (S : Z3) (hu : ∀ a x b, one a = .inl (x, b) → a ≤ b) (hf : ∀ a, S = .inl a → ts.length ≤ a + (f + 1)) :
  Mv ts one sep (Zf (fun a => Z1 ts one sep (f + 1) a) S) (Zd (Zf one S)) [Wc (Zf one S)] ts.length := by
 cases S with
 | inr p => exact .inr ⟨p, rfl, rfl, by show 1 ≤ 8195; decide⟩
 | inl a =>
  cases h : one a with
  | inr e => exact .inr ⟨e, by show Zd (one a) = _; rw [h]; rfl, by show Z1 ts one sep (f + 1) a = _; exact Ks h, by show 1 ≤ 8195; decide⟩
  | inl q =>
   obtain ⟨x, b⟩ := q
   have := hu a x b h
   have := hf a rfl
   exact .inl ⟨b, [x], f, by show Zd (one a) = _; rw [h]; rfl, by show [Wc (one a)] = _; rw [h]; rfl, Km h, by omega, by show 1 ≤ b + 1; omega, by omega⟩
theorem Ob {ts : List Tok} {one : Nat → Pr Ty} {sep : List UInt8} {Rm : Pr (List Ty)} {S : Z3} {acc : List (Option Ty)} {gk : Nat} (h : Mv ts one sep Rm S acc gk) (hs : Yd ts S sep = true) (hb : ∀ b, S = .inl b → b + 1 < ts.length) (ok : ts.length ≤ 8193) (hu : ∀ a x b, one a = .inl (x, b) → a ≤ b) :
  ∃ b, S = .inl b ∧ (∃ g', g' < gk ∧ Mv ts one sep Rm (Zd (Zf one (Wy S))) (acc ++ [Wc (Zf one (Wy S))]) g') := by
 rcases h with ⟨b, l, m, rfl, rfl, hm, h1, h2, h3⟩ | ⟨e, rfl, _⟩
 ·have hbl := hb b rfl
  obtain ⟨m, rfl⟩ : ∃ q, m = q + 1 := ⟨m - 1, by omega⟩
  refine ⟨b, rfl, ?_⟩
  cases h : one (b + 1) with
  | inr e => exact ⟨0, by omega, .inr ⟨e, by show Zd (one (b + 1)) = _; rw [h]; rfl, Ka hm hs h, by simp; omega⟩⟩
  | inl q =>
   obtain ⟨x, c⟩ := q
   have := hu _ _ _ h
   exact ⟨ts.length - c, by omega, .inl ⟨c, l ++ [x], m, by show Zd (one (b + 1)) = _; rw [h]; rfl, by show _ ++ [Wc (one (b + 1))] = _; rw [h]; simp [Wc], Kv hm hs h, by omega, by simp; omega, xR⟩⟩
 ·cases hs
theorem zaf {ts : List Tok} {one : Nat → Pr Ty} {sep : List UInt8} {Rm : Pr (List Ty)} {S : Z3} {acc : List (Option Ty)} {gk : Nat} (h : Mv ts one sep Rm S acc gk) (hs : Yd ts S sep = false) : (∃ b l, S = .inl b ∧ acc = l.map some ∧ Rm = .inl (l, b)) ∨ ∃ e, S = .inr e ∧ Rm = .inr e := by
 rcases h with ⟨b, l, m, rfl, rfl, hm, _⟩ | ⟨e, rfl, h, _⟩
 ·exact .inl ⟨b, l, rfl, rfl, Kj hm hs⟩
 ·exact .inr ⟨e, rfl, h⟩
theorem B1 {B et : Nat} {o : Option Nat} {wx : World} {v : Value} {cs : List (List Value)} {l : List Ty} (h : Z8 Wi B et 4 o wx v cs (l.map some)) : Z8 V3 B et 4 o wx v cs l := by
 refine ⟨by rw [h.len, List.length_map], h.each, by have := h.ow; rwa [List.length_map] at this, h.apart, h.olt, fun i h1 h2 => ?_⟩
 obtain ⟨wi, lo, m1, m2⟩ := h.made i h1 (by rw [List.length_map]; exact h2)
 exact ⟨wi, lo, m1.2 _ (by rw [List.getElem_map]), m2⟩
theorem ralt_c (pb tb cap d : Nat) (ts : List Tok) (ok : Z0 ts) (one : Nat → Pr Ty) (f : Nat) (hf : ts.length ≤ f + 1) (hu : ∀ a x b, one a = .inl (x, b) → a ≤ b)
  (hP : ∀ S w, Zp w pb tb cap ts d S → Calls prog 123 #[.pointer (some ⟨pb, 0, none⟩)] w (Vn pb tb cap ts d w (Zf one S)))
  (S : Z3) (w : World) (h : Zp w pb tb cap ts d S) :
  Calls prog 66 #[.pointer (some ⟨pb, 0, none⟩)] w (Vn pb tb cap ts d w ((Zf (fun a => Z1 ts one [124] (f + 1) a) S).go fun l a => match l with | [t] => .inl (t, a) | l => .inl (Z6 7 [] [] l, a))) := by
 have H0 := Za (Ev ts one [124] f S hu (fun a _ => by omega))
 obtain ⟨Rm, hRm⟩ := xE (Zf (fun a => Z1 ts one [124] (f + 1) a) S)
 rw [← hRm] at H0 ⊢
 have HP := Za hP
 have HU := Za hu
 have OK := Za ok
 have X0 := Za (U4 h Yl)
 obtain ⟨i0, hi, hz0, hz1, hz2⟩ := info_parts Nh
 clear h hP ok hRm hu
 go_enter func66, ntmps66
 go_wp2_with fail
 refine (HP.o _ _ X0.o.at_).mono ?_
 rintro e w1 ⟨hst, hat, k1, nm1, na1, nl1, nc1, ka1, kl1, kc1, rfl, hv⟩
 have X1 := Za (X0.o.step hst hat)
 have HR1 := Za (Mp (B := w.heap.size + 1) (et := 36) (k := 4) (rep := Wi) (c := [.int .i64 k1, .string nm1, .slice na1 nl1 nc1, .slice ka1 kl1 kc1]) (Bi hv) (by simp) (by have := hst.size; simp at this; omega) rfl)
 have X2 := Za (X1.o.alloc (.cells #[.int .i64 k1, .string nm1, .slice na1 nl1 nc1, .slice ka1 kl1 kc1] 36))
 clear hst hat hv X0 X1
 go_wp2_with fail
 go_loopg [3] (ts.length) (fun gk s wr => ∃ (S : Z3) (cs : List (List Value)) (acc : List (Option Ty)), xQ (RX pb tb cap ts w wr d S [(w.heap.size, Yl)]) ∧ xQ (Z8 Wi (w.heap.size + 1) 36 4 none wr s cs acc) ∧ xQ (Mv ts one [124] Rm S acc gk) ∧ 1 ≤ acc.length)
 case atStart => exact ⟨_, _, _, X2.o.drop, HR1, H0, Nat.le_refl 1⟩
 case round =>
  clear X2 HR1 H0
  obtain ⟨S', cs, acc, X, RW, HA, hac1⟩ := hrel
  have hac : acc.length ≤ 8195 := HA.o.len fun b e => by
   obtain ⟨a, ha⟩ := X.o.at_
   have := ha.live b e
   have := ha.lt
   have := OK.o.len
   omega
  go_wp2_with fail
  refine (Y5 pb tb cap d ts S' [124] _ X.o.at_ OK.o).mono ?_
  rintro e w2 ⟨rfl, hst, hat⟩
  have XT := Za (X.o.step hst hat)
  have RT := Za (RW.o.stay hst (by have := X.o.hp; omega))
  clear hst hat RW
  cases hs : Yd ts S' [124] with
  | false =>
   rw [hs, if_neg (by simp)] at XT
   have HE := Za (zaf HA.o hs)
   clear hs HA X
   obtain ⟨av, cv, rfl, hcv, hform⟩ := RT.o.form Sd
   obtain ⟨g, rfl, hgB, hgc, hel⟩ : ∃ g, av = some ⟨g, 0, none⟩ ∧ w.heap.size + 1 ≤ g ∧ V5 w2 g ∧ ∀ i (hi : i < acc.length), ∃ c : List Value, c.length = 4 ∧ (∀ j, j < 4 → w2.cell? ⟨g, i * 4 + j, none⟩ = c[j]?) ∧ Wi (w.heap.size + 1) w2 c acc[i] := by
    rcases hform with e | h
    ·rw [e] at hac1; exact absurd hac1 (by simp)
    ·exact h
   obtain ⟨c, _, hcj, ⟨k0, nm0, na0, nl0, nc0, ka0, kl0, kc0, rfl⟩, hcq⟩ := hel 0 hac1
   have q0 := hcj 0 (by decide)
   have q1 := hcj 1 (by decide)
   have q2 := hcj 2 (by decide)
   have q3 := hcj 3 (by decide)
   have HCQ := Za hcq
   simp only [Nat.zero_mul, Nat.zero_add] at q0 q1 q2 q3
   have hgl := Ux hgc
   clear hcj hcq hel hform hgc
   have hbx := XT.o.box (p := (w.heap.size, Yl)) (by simp)
   obtain ⟨⟨r0, r1, r2, r3⟩, ⟨f0, f1, f2, f3⟩, hrl⟩ := Zr hbx
   have HBX := Za hbx
   clear hbx
   have hne : ¬ g = w.heap.size := by omega
   have hp := XT.o.hp
   by_cases h1 : acc.length = 1
   ·have HL1 := Za h1
    have h1' : ((acc.length : Int) == 1) = true := by rw [h1]; rfl
    clear h1
    go_wp2_with fail
    have one_of : ∀ l : List Ty, acc = l.map some → ∃ t, l = [t] := fun l e => by
     have := HL1.o
     rw [e, List.length_map] at this
     exact List.length_eq_one_iff.1 this
    refine bodyPost_ret (results_cell_row rfl _ _ w.heap.size 36 _ (0, 0) _ rfl (set4 HBX.o _ _ _ _) underlying36 rfl (by kernel_rfl)) rfl ⟨Xs XT.o.st hp (xR) _ _ _ _, ?_, k0, nm0, na0, nl0, nc0, ka0, kl0, kc0, rfl, ?_⟩
    ·have := XT.o.at_.set4 hp (.int .i64 k0) (.string nm0) (.slice na0 nl0 nc0) (.slice ka0 kl0 kc0)
     rcases HE.o with ⟨b, l, rfl, e2, e3⟩ | ⟨e, rfl, e3⟩
     ·obtain ⟨t, rfl⟩ := one_of l e2
      rw [e3]; exact this
     ·rw [e3]; exact this
    ·intro y cc ey
     rcases HE.o with ⟨b, l, rfl, e2, e3⟩ | ⟨e, rfl, e3⟩
     ·obtain ⟨t, rfl⟩ := one_of l e2
      rw [e3] at ey
      injection ey with ey
      injection ey with ey _
      rw [← ey]
      have hq := HCQ.o t (by simp only [e2, List.map_cons, List.getElem_cons_zero])
      exact Zt.lower (Zt.set4 (show Zt (w.heap.size + 1) w2 _ t from hq) (by omega) _ _ _ _) (by omega)
     ·rw [e3] at ey; cases ey
   ·have h1' : ((acc.length : Int) == 1) = false := by rw [beq_eq_false_iff_ne]; omega
    have HL1 := Za h1
    clear h1
    go_wp2_with fail
    refine bodyPost_ret (results_cell_row rfl _ _ w.heap.size 36 _ (0, 0) _ rfl (set4 HBX.o _ _ _ _) underlying36 rfl (by kernel_rfl)) rfl ⟨Xs XT.o.st hp (xR) _ _ _ _, ?_, 7, ⟨#[]⟩, none, 0, 0, some ⟨g, 0, none⟩, acc.length, cv, rfl, ?_⟩
    ·have := XT.o.at_.set4 hp (.int .i64 7) (.string ⟨#[]⟩) (.slice none 0 0) (.slice (some ⟨g, 0, none⟩) acc.length cv)
     rcases HE.o with ⟨b, l, rfl, e2, e3⟩ | ⟨e, rfl, e3⟩
     ·rw [e3]
      match l, e2 with
      | [], _ => exact this
      | [t], e2 => exact absurd (by rw [e2]; rfl) HL1.o
      | _ :: _ :: _, _ => exact this
     ·rw [e3]; exact this
    ·intro y cc ey
     rcases HE.o with ⟨b, l, rfl, e2, e3⟩ | ⟨e, rfl, e3⟩
     ·have hy : y = Z6 7 [] [] l := by
       rw [e3] at ey
       match l, e2, ey with
       | [], _, ey => injection ey with ey; injection ey with ey _; exact ey.symm
       | [t], e2, _ => exact absurd (by rw [e2]; rfl) HL1.o
       | _ :: _ :: _, _, ey => injection ey with ey; injection ey with ey _; exact ey.symm
      rw [hy]
      have hr := RT.o
      rw [e2] at hr
      obtain ⟨a', cap', m, ea, hcl, hk⟩ := Py (B1 hr)
      rw [List.length_map] at ea
      injection ea with ea _ ec
      subst ea ec
      have hl8 : l.length ≤ 8195 := by rw [e2, List.length_map] at hac; exact hac
      have hk2 := Vv hk (w' := ((((w2.setCell ⟨w.heap.size, 0, none⟩ (.int .i64 7)).setCell ⟨w.heap.size, 1, none⟩ (.string ⟨#[]⟩)).setCell ⟨w.heap.size, 2, none⟩ (.slice none 0 0)).setCell ⟨w.heap.size, 3, none⟩ (.slice (some ⟨g, 0, none⟩) acc.length cv))) (by rw [Vj]; exact xR) fun b hb _ => Yn (by omega) _ _ _ _
      have := Hs (k := 7) (by decide) hk2 hcl (by omega)
      rw [e2, List.length_map]
      rw [e2, List.length_map] at this
      refine Zt.lower this ?_
      omega
     ·rw [e3] at ey; cases ey
  | true =>
   have hnx : ∀ b, S' = .inl b → b + 1 < ts.length := fun b e => by
    obtain ⟨a, ha⟩ := X.o.at_
    have hb := ha.live b e
    subst hb
    rw [e] at hs
    exact Wz OK.o.ends ha.lt hs
   obtain ⟨b, hSb, g', hg', zhs⟩ := Ob HA.o hs hnx OK.o.len HU.o
   have HN := Za zhs
   rw [hs, if_pos rfl] at XT
   clear hs HA X hnx hSb zhs
   obtain ⟨R2, hR2⟩ := xE (Zf one (Wy S'))
   have HC := Za (HP.o _ _ XT.o.at_)
   rw [← hR2] at HN HC
   clear hR2
   obtain ⟨av, cv, rfl⟩ := Vb RT.o.ow
   go_wp2_with fail
   refine HC.o.mono ?_
   rintro e w3 ⟨hst, hat, k2, nm2, na2, nl2, nc2, ka2, kl2, kc2, rfl, hv⟩
   have X3 := Za (((XT.o.step hst hat).alloc (.cells #[.int .i64 k2, .string nm2, .slice na2 nl2 nc2, .slice ka2 kl2 kc2] 36)).drop)
   have HQ := Za (Bi hv)
   have hs3 := hst.size
   have RW3 := Za (RT.o.stay (hst.trans ((Zj.refl pb w3).alloc (xT XT.o.at_.ltp hst.size) (.cells #[.int .i64 k2, .string nm2, .slice na2 nl2 nc2, .slice ka2 kl2 kc2] 36))) (by have := XT.o.hp; omega))
   have HMd := Za ((Xg.new (rep := Wi) (B := w.heap.size + 1) (Bi hv) (xB (XT.o.box (p := (w.heap.size, Yl)) (by simp))) fun q hq => RT.o.all q hq).stay ((Zj.refl pb w3).alloc (xT XT.o.at_.ltp hst.size) (.cells #[.int .i64 k2, .string nm2, .slice na2 nl2 nc2, .slice ka2 kl2 kc2] 36)) (by have := XT.o.hp; omega))
   have hwl : w.heap.size < w3.heap.size := xT (xB (XT.o.box (p := (w.heap.size, Yl)) (by simp))) hst.size
   have HCN : xQ (∀ j u, ([.int .i64 k2, .string nm2, .slice na2 nl2 nc2, .slice ka2 kl2 kc2] : List Value)[j]? = some u → ((w3.alloc (.cells #[.int .i64 k2, .string nm2, .slice na2 nl2 nc2, .slice ka2 kl2 kc2] 36)).alloc (.cells #[.int .i64 k2, .string nm2, .slice na2 nl2 nc2, .slice ka2 kl2 kc2] 36)).cell? ((⟨w3.heap.size + 1, 0, none⟩ : Addr).add j) = some u) := fun j u h => by
    have := Uq (w3.alloc (.cells #[.int .i64 k2, .string nm2, .slice na2 nl2 nc2, .slice ka2 kl2 kc2] 36)) [.int .i64 k2, .string nm2, .slice na2 nl2 nc2, .slice ka2 kl2 kc2] 36 j u h
    rw [xS] at this
    exact this
   clear hst hat hv HC
   go_wp2_with (at_builtin; refine wpList_append_own_at _ rfl (.tmp 15) (.tmp 17) 23 rfl (w.heap.size + 1) 36 i0 _ 4 72 underlying23 hi hz0 hz1 hz2 rfl (by decide) _ _ _ rfl (RW3.o.ow.alloc _) ⟨_, 0, none⟩ 1 1 [.int .i64 k2, .string nm2, .slice na2 nl2 nc2, .slice ka2 kl2 kc2] rfl rfl HCN.o (by simp [Value.oneCell']) (by unfold maxLen; omega) (by omega) (by simp; omega) ?_)
   intro v' w4 zho zhn _ hloc
   have HR4 : xQ (Z8 Wi (w.heap.size + 1) 36 4 none w4 v' (cs ++ [[.int .i64 k2, .string nm2, .slice na2 nl2 nc2, .slice ka2 kl2 kc2]]) (acc ++ [Wc R2])) :=
    RW3.o.put zho zhn (hloc.imp_right fun e => ⟨_, e, by simp⟩) ((Zj.refl pb _).alloc X3.o.at_.ltp _) (by have := X3.o.hp; omega) rfl (HMd.o.stay ((Zj.refl pb _).alloc X3.o.at_.ltp _) (by have := X3.o.hp; omega))
   have HX4 : xQ (RX pb tb cap ts w w4 d (Zd R2) [(w.heap.size, Yl)]) := by
    have hX := (X3.o.alloc (.cells #[.int .i64 k2, .string nm2, .slice na2 nl2 nc2, .slice ka2 kl2 kc2] 36)).drop
    have hlt : ∀ q, (Value.slice av acc.length cv).ownBlock = some q → w.heap.size + 1 ≤ q := fun q hq => (RW3.o.own q hq).1
    refine ⟨hX.st.grown zhn hX.hp fun q hq => by have := hlt q hq; omega, ?_, hX.hp, fun p hp => ?_⟩
    ·obtain ⟨a, ha⟩ := hX.at_
     have hp := hX.hp
     exact ⟨a, (zhn.block _ ha.ltp (fun e => by have := hlt _ e.symm; omega)).trans ha.blk, ha.lt, ha.live, ha.bad, ha.tlt, Wj ha.toks (zhn.block _ (Nat.lt_trans ha.tlt ha.ltp) (fun e => by have := hlt _ e.symm; have := ha.tlt; omega))⟩
    ·rw [List.mem_singleton.1 hp]
     exact ⟨(zhn.block _ (xB (hX.box (p := (w.heap.size, Yl)) (by simp))) (fun e => by have := hlt _ e.symm; omega)).trans (hX.box (p := (w.heap.size, Yl)) (by simp)), xR⟩
   clear zho zhn hloc
   go_wp2_with fail
   go_roundg g'
   case measure => exact hg'
   case rel => exact ⟨_, _, _, HX4, HR4, HN, by simp⟩
def Qs (ts : List Tok) (K : Nat → Pr Ty) (f a : Nat) : Pr Ty :=
 if Zc ts a [40] then (K (a + 1)).go fun t a => (Zb ts a [41]).go fun _ a => .inl (t, a)
 else if Zc ts a [123] then
  if Zc ts (a + 1) [125] then .inl (Z6 5 [] [] [], a + 2)
  else (Z1 ts (Xy ts K) [44] f (a + 1)).go fun l a => (Zb ts a [125]).go fun _ a => .inl (Z6 5 [] (l.map (·.1)) (l.map (·.2)), a)
 else (Zm ts a).go fun s a => .inl (Z6 8 s [] [], a)
theorem zcp {ts : List Tok} {K : Nat → Pr Ty} {f : Nat} {S : Z3} {j : Nat} (hj : j < 5) (h0 : ∀ i : Nat, i < j → Yd ts S (Yb i) = false) (h : Yd ts S (Yb j) = true) : ∃ a, S = .inl a ∧ Zf (Wt ts K f) S = .inl (Z6 j [] [] [], a + 1) := by
 cases S with
 | inr p => cases h
 | inl a =>
  refine ⟨a, rfl, ?_⟩
  show Wt ts K f a = _
  unfold Wt
  have h1 : ∀ i : Nat, i < j → Zc ts a (Yb i) = false := h0
  have h2 : Zc ts a (Yb j) = true := h
  match j, hj with
  | 0, _ => rw [if_pos (show Zc ts a (Yb 0) = true from h2)]; rfl
  | 1, _ => rw [if_neg (by rw [show Yb 0 = Yb ((0 : Nat) : Int) from rfl, h1 0 (by omega)]; simp), if_pos (show Zc ts a (Yb 1) = true from h2)]; rfl
  | 2, _ => rw [if_neg (by rw [show Yb 0 = Yb ((0 : Nat) : Int) from rfl, h1 0 (by omega)]; simp), if_neg (by rw [show Yb 1 = Yb ((1 : Nat) : Int) from rfl, h1 1 (by omega)]; simp), if_pos (show Zc ts a (Yb 2) = true from h2)]; rfl
  | 3, _ => rw [if_neg (by rw [show Yb 0 = Yb ((0 : Nat) : Int) from rfl, h1 0 (by omega)]; simp), if_neg (by rw [show Yb 1 = Yb ((1 : Nat) : Int) from rfl, h1 1 (by omega)]; simp), if_neg (by rw [show Yb 2 = Yb ((2 : Nat) : Int) from rfl, h1 2 (by omega)]; simp), if_pos (show Zc ts a (Yb 3) = true from h2)]; rfl
  | 4, _ => rw [if_neg (by rw [show Yb 0 = Yb ((0 : Nat) : Int) from rfl, h1 0 (by omega)]; simp), if_neg (by rw [show Yb 1 = Yb ((1 : Nat) : Int) from rfl, h1 1 (by omega)]; simp), if_neg (by rw [show Yb 2 = Yb ((2 : Nat) : Int) from rfl, h1 2 (by omega)]; simp), if_neg (by rw [show Yb 3 = Yb ((3 : Nat) : Int) from rfl, h1 3 (by omega)]; simp), if_pos (show Zc ts a (Yb 4) = true from h2)]; rfl
theorem zhh {ts : List Tok} {K : Nat → Pr Ty} {f : Nat} {S : Z3} (h0 : ∀ i : Nat, i < 5 → Yd ts S (Yb i) = false) : Zf (Wt ts K f) S = Zf (Qs ts K f) S := by
 cases S with
 | inr p => rfl
 | inl a =>
  have h1 : ∀ i : Nat, i < 5 → Zc ts a (Yb i) = false := h0
  show Wt ts K f a = Qs ts K f a
  unfold Wt Qs
  rw [if_neg (by rw [show Yb 0 = Yb ((0 : Nat) : Int) from rfl, h1 0 (by omega)]; simp), if_neg (by rw [show Yb 1 = Yb ((1 : Nat) : Int) from rfl, h1 1 (by omega)]; simp), if_neg (by rw [show Yb 2 = Yb ((2 : Nat) : Int) from rfl, h1 2 (by omega)]; simp), if_neg (by rw [show Yb 3 = Yb ((3 : Nat) : Int) from rfl, h1 3 (by omega)]; simp), if_neg (by rw [show Yb 4 = Yb ((4 : Nat) : Int) from rfl, h1 4 (by omega)]; simp)]
abbrev Qf : Obj := .cells #[.string ⟨#[97, 110, 121]⟩, .string ⟨#[110, 117, 108, 108]⟩, .string ⟨#[98, 111, 111, 108]⟩, .string ⟨#[105, 110, 116]⟩, .string ⟨#[115, 116, 114]⟩] 9
theorem E9 {w : World} {b i : Nat} (h : w.heap[b]? = some Qf) (hi : i < 5) : w.cell? ⟨b, i, none⟩ = some (.string ⟨(Yb i).toArray⟩) := by
 rw [cell_of_row _ _ _ _ _ _ h]
 match i, hi with
 | 0, _ | 1, _ | 2, _ | 3, _ | 4, _ => rfl
section
variable {pb tb cap d b c m : Nat} {ts : List Tok} {w0 w w4 : World} {S : Z3} {bx : List (Nat × Obj)} {o : Option Nat} {K : Nat → Pr Ty}
theorem RX.grown (h : RX pb tb cap ts w0 w d S bx) (hg : w.grownBy w4 o) (hB : ∀ q, o = some q → w0.heap.size ≤ q) (hbx : ∀ p ∈ bx, ∀ q, o = some q → q ≠ p.1) : RX pb tb cap ts w0 w4 d S bx := by
 have hp := h.hp
 refine ⟨h.st.grown hg h.hp hB, ?_, h.hp, fun p hpx => ?_⟩
 ·obtain ⟨a, ha⟩ := h.at_
  exact ⟨a, (hg.block _ ha.ltp (fun e => by have := hB _ e.symm; omega)).trans ha.blk, ha.lt, ha.live, ha.bad, ha.tlt, Wj ha.toks (hg.block _ (Nat.lt_trans ha.tlt ha.ltp) (fun e => by have := hB _ e.symm; have := ha.tlt; omega))⟩
 ·exact ⟨(hg.block _ (xB (h.box hpx)) (fun e => hbx p hpx _ e.symm rfl)).trans (h.box hpx), (h.has p hpx).2⟩
theorem RX.perm {bx' : List (Nat × Obj)} (h : RX pb tb cap ts w0 w d S bx) (hs : ∀ p ∈ bx', p ∈ bx) : RX pb tb cap ts w0 w d S bx' := ⟨h.st, h.at_, h.hp, fun p hp => h.has p (hs p hp)⟩
theorem RX.put2 {k : Int} {nm : ByteArray} {na ka na' : Option Addr} {nl nc kl kc nl' nc' : Nat} (h : RX pb tb cap ts w0 w d S ((b, Zq k nm na nl nc ka kl kc) :: bx)) (hbx : ∀ p ∈ bx, p.1 ≠ b) : RX pb tb cap ts w0 (w.setCell ⟨b, 2, none⟩ (.slice na' nl' nc')) d S ((b, Zq k nm na' nl' nc' ka kl kc) :: bx) := by
 have hb := (h.has _ (xM)).2
 have hp := h.hp
 refine ⟨h.st.own hp hb 2 _, h.at_.other (xT hp hb) 2 _, hp, fun p hpx => ?_⟩
 rcases List.mem_cons.1 hpx with rfl | hpx
 ·exact ⟨Z9 (h.box (xM)), hb⟩
 ·exact ⟨(xH (hbx p hpx)).trans (h.box (xW _ hpx)), (h.has p (xW _ hpx)).2⟩
theorem RX.put3 {k : Int} {nm : ByteArray} {na ka ka' : Option Addr} {nl nc kl kc kl' kc' : Nat} (h : RX pb tb cap ts w0 w d S ((b, Zq k nm na nl nc ka kl kc) :: bx)) (hbx : ∀ p ∈ bx, p.1 ≠ b) : RX pb tb cap ts w0 (w.setCell ⟨b, 3, none⟩ (.slice ka' kl' kc')) d S ((b, Zq k nm na nl nc ka' kl' kc') :: bx) := by
 have hb := (h.has _ (xM)).2
 have hp := h.hp
 refine ⟨h.st.own hp hb 3 _, h.at_.other (xT hp hb) 3 _, hp, fun p hpx => ?_⟩
 rcases List.mem_cons.1 hpx with rfl | hpx
 ·exact ⟨Z9 (h.box (xM)), hb⟩
 ·exact ⟨(xH (hbx p hpx)).trans (h.box (xW _ hpx)), (h.has p (xW _ hpx)).2⟩
def Th (ts : List Tok) (K : Nat → Pr Ty) (c : Nat) : Pr Ty := Zf K (Zd (Zf (fun a => Zb ts a [58]) (Zd (Zm ts c))))
theorem Hl : Xy ts K c = (Th ts K c).go fun t b => .inl ((Y1 (Zm ts c), t), b) := by
 unfold Xy Th
 cases Zm ts c with
 | inr e => rfl
 | inl q =>
  obtain ⟨s, b⟩ := q
  show (Zb ts b [58]).go _ = (Zf K (Zd (Zb ts b [58]))).go _
  cases Zb ts b [58] with
  | inr e => rfl
  | inl q => rfl
theorem G2 (hu : ∀ a x b, K a = .inl (x, b) → a ≤ b) {t : Ty} (h : Th ts K c = .inl (t, b)) : c ≤ b := by
 unfold Th at h
 cases h1 : Zm ts c with
 | inr e => rw [h1] at h; cases h
 | inl q =>
  obtain ⟨s, b1⟩ := q
  rw [h1] at h
  have u1 := Pb h1
  replace h : Zf K (Zd (Zb ts b1 [58])) = .inl (t, b) := h
  cases h2 : Zb ts b1 [58] with
  | inr e => rw [h2] at h; cases h
  | inl q =>
   obtain ⟨s2, b2⟩ := q
   rw [h2] at h
   have u2 := Bm h2
   have := hu _ _ _ h
   omega
theorem zbc (ok : Z0 ts) {x : List UInt8 × Ty} (h : Xy ts K c = .inl (x, b)) : x.1.length ≤ 70000 := by
 rw [Hl] at h
 unfold Th at h
 cases h1 : Zm ts c with
 | inr e => rw [h1] at h; cases h
 | inl q =>
  rw [h1] at h
  have hn : q.1.length ≤ 70000 := by
   unfold Zm at h1
   split at h1
   ·injection h1 with h1; rw [← h1]; exact ok.txt c
   ·cases h1
  cases h2 : Zf K (Zd (Zf (fun a => Zb ts a [58]) (Zd (Sum.inl q : Pr (List UInt8))))) with
  | inr e => rw [h2] at h; cases h
  | inl z =>
   rw [h2] at h
   injection h with h
   injection h with h _
   rw [← h]
   exact hn
def Qq (ts : List Tok) (K : Nat → Pr Ty) (Rm : Pr (List (List UInt8 × Ty))) (acc : List (List UInt8 × Ty)) (m c : Nat) : Prop :=
 Rm = (Z1 ts (Xy ts K) [44] m c).go fun l b => .inl (acc ++ l, b)
theorem Gm : Qq ts K (Z1 ts (Xy ts K) [44] m c) [] m c := by
 unfold Qq
 cases Z1 ts (Xy ts K) [44] m c <;> rfl
theorem Fw {Rm : Pr (List (List UInt8 × Ty))} {acc : List (List UInt8 × Ty)} (h : Qq ts K Rm acc (m + 1) c) (hs : Yd ts (Zd (Th ts K c)) [44] = true) : ∃ t b, Th ts K c = .inl (t, b) ∧ Qq ts K Rm (acc ++ [(Y1 (Zm ts c), t)]) m (b + 1) := by
 unfold Qq at h ⊢
 rw [Z1, Hl] at h
 cases hR : Th ts K c with
 | inr e => rw [hR] at hs; cases hs
 | inl q =>
  obtain ⟨t, b⟩ := q
  rw [hR] at hs h
  refine ⟨t, b, rfl, ?_⟩
  rw [h]
  show Pr.go (if Zc ts b [44] then _ else _) _ = _
  rw [if_pos (show Zc ts b [44] = true from hs)]
  cases Z1 ts (Xy ts K) [44] m (b + 1) with
  | inr e => rfl
  | inl q =>
   show Sum.inl (acc ++ (_ :: q.1), q.2) = Sum.inl ((acc ++ [_]) ++ q.1, q.2)
   simp
theorem Fy {Rm : Pr (List (List UInt8 × Ty))} {acc : List (List UInt8 × Ty)} (h : Qq ts K Rm acc (m + 1) c) (hs : Yd ts (Zd (Th ts K c)) [44] = false) : (∃ t b, Th ts K c = .inl (t, b) ∧ Rm = .inl (acc ++ [(Y1 (Zm ts c), t)], b)) ∨ ∃ e, Th ts K c = .inr e ∧ Rm = .inr e := by
 unfold Qq at h
 rw [Z1, Hl] at h
 cases hR : Th ts K c with
 | inr e => rw [hR] at h; exact .inr ⟨e, rfl, h⟩
 | inl q =>
  obtain ⟨t, b⟩ := q
  rw [hR] at hs h
  refine .inl ⟨t, b, rfl, ?_⟩
  rw [h]
  show Pr.go (if Zc ts b [44] then _ else _) _ = _
  rw [if_neg (by rw [show Zc ts b [44] = false from hs]; simp)]
  rfl
end
theorem Uf (w : World) (b o : Nat) (v : Value) : Zj b w (w.setCell ⟨b, o, none⟩ v) := (Zj.refl b w).set o v
theorem Cm (pb tb cap d : Nat) (ts : List Tok) (ok : Z0 ts) (K : Nat → Pr Ty) (f : Nat) (hf : ts.length ≤ f + 1) (hu : ∀ a x b, K a = .inl (x, b) → a ≤ b)
  (hK : ∀ S w, Zp w pb tb cap ts d S → Calls prog 31 #[.pointer (some ⟨pb, 0, none⟩)] w (Vn pb tb cap ts d w (Zf K S)))
  (S : Z3) (w : World) (h : Zp w pb tb cap ts d S) :
  Calls prog 123 #[.pointer (some ⟨pb, 0, none⟩)] w (Vn pb tb cap ts d w (Zf (Wt ts K (f + 1)) S)) := by
 obtain ⟨R, hR⟩ := xE (Zf (Wt ts K (f + 1)) S)
 rw [← hR]
 have HR := Za hR
 have HK := Za hK
 have HU := Za hu
 have OK := Za ok
 have X0 := Za (U4 h Yl)
 have X1 := Za (X0.o.alloc Qf)
 clear h hK ok hR hu X0
 go_enter func123, ntmps123
 go_wp2_with fail
 have hp := X1.o.hp
 have X1' : xQ (RX pb tb cap ts w ((w.alloc Yl).alloc Qf) d S [(w.heap.size + 1, Qf), (w.heap.size, Yl)]) := by
  have := X1.o
  rw [xS] at this
  exact this
 clear X1
 go_loopw [4] (fun i wr => ∃ j : Nat, j ≤ 5 ∧ i = .int .i64 j ∧ xQ (RX pb tb cap ts w wr d S [(w.heap.size + 1, Qf), (w.heap.size, Yl)]) ∧ xQ (∀ i : Nat, i < j → Yd ts S (Yb i) = false)) (fun i _ => 5 - (intOf i).toNat)
 case atStart => exact ⟨0, by omega, rfl, X1', fun i hi => by omega⟩
 case round =>
  clear X1'
  obtain ⟨j, hj, rfl, X, HN⟩ := hrel
  by_cases hj5 : j < 5
  ·have hj5' : (j : Int) < 5 := by omega
   have hbc := E9 (X.o.box (p := (w.heap.size + 1, Qf)) (by simp)) hj5
   obtain ⟨Bj, hBj⟩ : ∃ Bj : ByteArray, Bj = ⟨(Yb (j : Int)).toArray⟩ := ⟨_, rfl⟩
   have HC := Za (Y5 pb tb cap d ts S (Yb (j : Int)) _ X.o.at_ OK.o)
   rw [← hBj] at hbc HC
   clear hBj
   go_wp2_with fail
   refine HC.o.mono ?_
   rintro e w2 ⟨rfl, hst, hat⟩
   have X2 := Za (X.o.step hst hat)
   clear hst hat HC hbc X
   cases hs : Yd ts S (Yb (j : Int)) with
   | true =>
    rw [hs, if_pos rfl] at X2
    obtain ⟨a, rfl, hRa⟩ := zcp (K := K) (f := f + 1) hj5 HN.o hs
    have HRa : xQ (R = .inl (Z6 j [] [] [], a + 1)) := by rw [HR.o]; exact hRa
    clear hs hRa
    obtain ⟨⟨r0, r1, r2, r3⟩, ⟨f0, f1, f2, f3⟩, hrl⟩ := Zr (X2.o.box (p := (w.heap.size, Yl)) (by simp))
    go_wp2_with fail
    refine bodyPost_ret (results_cell_row rfl _ _ w.heap.size 36 _ (0, 0) _ rfl (set4 (X2.o.box (p := (w.heap.size, Yl)) (by simp)) _ _ _ _) underlying36 rfl (by kernel_rfl)) rfl ⟨Xs X2.o.st hp (xR) _ _ _ _, ?_, j, ⟨#[]⟩, none, 0, 0, none, 0, 0, rfl, ?_⟩
    ·rw [HRa.o]
     exact X2.o.at_.set4 hp _ _ _ _
    ·intro y c ey
     rw [HRa.o] at ey
     injection ey with ey
     injection ey with ey _
     rw [← ey]
     exact N6 _ _ _ _ (by match j, hj5 with | 0, _ | 1, _ | 2, _ | 3, _ | 4, _ => rfl) (by decide)
   | false =>
    rw [hs, if_neg (by simp)] at X2
    have HN2 : xQ (∀ i : Nat, i < j + 1 → Yd ts S (Yb i) = false) := fun i hi => by
     by_cases e : i = j
     ·rw [e]; exact hs
     ·exact HN.o i (by omega)
    clear hs
    go_wp2_with fail
    go_roundw
    case rel => exact ⟨j + 1, by omega, by go_num, X2, HN2⟩
    case measure => simp [intOf]; omega
  ·have hj5' : ¬ (j : Int) < 5 := by omega
   have HRr : xQ (R = Zf (Qs ts K (f + 1)) S) := by rw [HR.o]; exact zhh fun i hi => HN.o i (by omega)
   clear HN
   go_wp2_with fail
   refine (Y5 pb tb cap d ts S [40] _ X.o.at_ OK.o).mono ?_
   rintro e w2 ⟨rfl, hst, hat⟩
   have X2 := Za (X.o.step hst hat)
   clear hst hat X
   cases hs : Yd ts S [40] with
   | true =>
    rw [hs, if_pos rfl] at X2
    obtain ⟨a, rfl⟩ : ∃ a, S = .inl a := by cases S with
     | inl a => exact ⟨a, rfl⟩
     | inr p => cases hs
    obtain ⟨R1, hR1⟩ := xE (K (a + 1))
    have HRa : xQ (R = R1.go fun t a => (Zb ts a [41]).go fun _ a => .inl (t, a)) := by
     rw [HRr.o, hR1]
     show Qs ts K (f + 1) a = _
     unfold Qs
     rw [if_pos (show Zc ts a [40] = true from hs)]
    have HC := Za (HK.o _ _ X2.o.at_)
    have e1 : Zf K (Wy (.inl a)) = R1 := hR1.symm
    rw [e1] at HC
    clear hs hR1 e1 HRr HR
    go_wp2_with fail
    refine HC.o.mono ?_
    rintro e w3 ⟨hst, hat, k1, nm1, na1, nl1, nc1, ka1, kl1, kc1, rfl, hv⟩
    have X3 := Za ((X2.o.step hst hat).alloc (Zq k1 nm1 na1 nl1 nc1 ka1 kl1 kc1))
    have hwl : w.heap.size + 1 ≤ w2.heap.size := xB (X2.o.box (p := (w.heap.size, Yl)) (by simp))
    have HV3 := Za ((hv.alloc (Zq k1 nm1 na1 nl1 nc1 ka1 kl1 kc1)).lower hwl)
    have hwl3 : w.heap.size < w3.heap.size := xT hwl hst.size
    clear hst hat hv HC X2
    go_wp2_with fail
    generalize w3.alloc (Zq k1 nm1 na1 nl1 nc1 ka1 kl1 kc1) = W3 at X3 HV3 ⊢
    generalize w3.heap.size = tb2 at X3 hwl3 ⊢
    refine (Xx pb tb cap d ts (Zd R1) [41] _ X3.o.at_ OK.o).mono ?_
    rintro e w4 ⟨rfl, hst, hat⟩
    have X4 := Za (X3.o.step hst hat)
    have HV4 := Za (HV3.o.stay hst (by omega))
    clear hst hat X3 HV3
    obtain ⟨⟨r0, r1, r2, r3⟩, ⟨f0, f1, f2, f3⟩, hrl⟩ := Zr (X4.o.box (p := (w.heap.size, Yl)) (by simp))
    obtain ⟨⟨t0, t1, t2, t3⟩, _, htl⟩ := Zr (X4.o.box (p := (tb2, Zq k1 nm1 na1 nl1 nc1 ka1 kl1 kc1)) (by simp))
    have hne : ¬ tb2 = w.heap.size := by omega
    go_wp2_with fail
    refine bodyPost_ret (results_cell_row rfl _ _ w.heap.size 36 _ (0, 0) _ rfl (set4 (X4.o.box (p := (w.heap.size, Yl)) (by simp)) _ _ _ _) underlying36 rfl (by kernel_rfl)) rfl ⟨Xs X4.o.st hp (xR) _ _ _ _, ?_, k1, nm1, na1, nl1, nc1, ka1, kl1, kc1, rfl, ?_⟩
    ·have := X4.o.at_.set4 hp (.int .i64 k1) (.string nm1) (.slice na1 nl1 nc1) (.slice ka1 kl1 kc1)
     have e2 : Zd R = Zd (Zf (fun a => Zb ts a [41]) (Zd R1)) := by
      rw [HRa.o]
      cases R1 with
      | inr p => rfl
      | inl q =>
       show Zd ((Zb ts q.2 [41]).go _) = Zd (Zb ts q.2 [41])
       cases Zb ts q.2 [41] <;> rfl
     rw [e2]
     exact this
    ·intro y c ey
     rw [HRa.o] at ey
     cases hR1 : R1 with
     | inr p => rw [hR1] at ey; cases ey
     | inl q =>
      rw [hR1] at ey
      replace ey : (Zb ts q.2 [41]).go (fun _ a => .inl (q.1, a)) = .inl (y, c) := ey
      cases hw : Zb ts q.2 [41] with
      | inr p => rw [hw] at ey; cases ey
      | inl z =>
       rw [hw] at ey
       injection ey with ey
       injection ey with ey _
       rw [← ey]
       exact Zt.lower (Zt.set4 (HV4.o q.1 q.2 hR1) (by omega) _ _ _ _) (by omega)
   | false =>
    rw [hs, if_neg (by simp)] at X2
    have HNo := Za hs
    clear hs
    go_wp2_with fail
    refine (Y5 pb tb cap d ts S [123] _ X2.o.at_ OK.o).mono ?_
    rintro e w3 ⟨rfl, hst, hat⟩
    have X3 := Za (X2.o.step hst hat)
    clear hst hat X2
    cases hs : Yd ts S [123] with
    | false =>
     rw [hs, if_neg (by simp)] at X3
     obtain ⟨R1, hR1⟩ := xE (Zf (Zm ts) S)
     have HRa : xQ (R = R1.go fun s a => .inl (Z6 8 s [] [], a)) := by
      rw [HRr.o, hR1]
      cases S with
      | inr p => rfl
      | inl a =>
       show Qs ts K (f + 1) a = _
       unfold Qs
       rw [if_neg (by rw [show Zc ts a [40] = false from HNo.o]; simp), if_neg (by rw [show Zc ts a [123] = false from hs]; simp)]
       rfl
     have HC := Za (Qm pb tb cap d ts S _ X3.o.at_ OK.o)
     rw [← hR1] at HC
     have HTx : xQ (∀ s b, R1 = .inl (s, b) → s.length ≤ 70000) := fun s b e => by
      rw [hR1] at e
      cases S with
      | inr p => cases e
      | inl a =>
       have e' : Zm ts a = .inl (s, b) := e
       unfold Zm at e'
       split at e'
       ·injection e' with e'; injection e' with e' _; rw [← e']; exact OK.o.txt a
       ·cases e'
     clear hs hR1 HRr HR HNo
     go_wp2_with fail
     refine HC.o.mono ?_
     rintro e w4 ⟨rfl, hst, hat⟩
     have X4 := Za (X3.o.step hst hat)
     clear hst hat HC X3
     obtain ⟨⟨r0, r1, r2, r3⟩, ⟨f0, f1, f2, f3⟩, hrl⟩ := Zr (X4.o.box (p := (w.heap.size, Yl)) (by simp))
     go_wp2_with fail
     refine bodyPost_ret (results_cell_row rfl _ _ w.heap.size 36 _ (0, 0) _ rfl (set4 (X4.o.box (p := (w.heap.size, Yl)) (by simp)) _ _ _ _) underlying36 rfl (by kernel_rfl)) rfl ⟨Xs X4.o.st hp (xR) _ _ _ _, ?_, 8, _, none, 0, 0, none, 0, 0, rfl, ?_⟩
     ·have := X4.o.at_.set4 hp (.int .i64 8) (.string ⟨(Y1 R1).toArray⟩) (.slice none 0 0) (.slice none 0 0)
      have e2 : Zd R = Zd R1 := by rw [HRa.o]; cases R1 <;> rfl
      rw [e2]
      exact this
     ·intro y c ey
      rw [HRa.o] at ey
      cases hR1 : R1 with
      | inr p => rw [hR1] at ey; cases ey
      | inl q =>
       rw [hR1] at ey
       injection ey with ey
       injection ey with ey _
       rw [← ey]
       exact N6 _ _ _ _ (by decide) (Nat.le_trans (HTx.o q.1 q.2 hR1) (by decide))
    | true =>
     rw [hs, if_pos rfl] at X3
     obtain ⟨a, rfl⟩ : ∃ a, S = .inl a := by cases S with
      | inl a => exact ⟨a, rfl⟩
      | inr p => cases hs
     have HRa : xQ (R = if Zc ts (a + 1) [125] then .inl (Z6 5 [] [] [], a + 2) else (Z1 ts (Xy ts K) [44] (f + 1) (a + 1)).go fun l a => (Zb ts a [125]).go fun _ a => .inl (Z6 5 [] (l.map (·.1)) (l.map (·.2)), a)) := by
      rw [HRr.o]
      show Qs ts K (f + 1) a = _
      unfold Qs
      rw [if_neg (by rw [show Zc ts a [40] = false from HNo.o]; simp), if_pos (show Zc ts a [123] = true from hs)]
     clear hs HRr HR HNo
     have X4 := Za (X3.o.alloc (Zq 5 ⟨#[]⟩ none 0 0 none 0 0))
     have hwl3 : w.heap.size < w3.heap.size := xB (X3.o.box (p := (w.heap.size, Yl)) (by simp))
     have hwl4 : w.heap.size + 1 < w3.heap.size := xB (X3.o.box (p := (w.heap.size + 1, Qf)) (by simp))
     clear X3
     go_wp2_with fail
     generalize w3.alloc (Zq 5 ⟨#[]⟩ none 0 0 none 0 0) = W4 at X4 ⊢
     generalize w3.heap.size = tb2 at X4 hwl3 hwl4 ⊢
     refine (Y5 pb tb cap d ts (.inl (a + 1)) [125] _ X4.o.at_ OK.o).mono ?_
     rintro e w5 ⟨rfl, hst, hat⟩
     have X5 := Za (X4.o.step hst hat)
     clear hst hat X4
     cases hs : Yd ts (.inl (a + 1)) [125] with
     | true =>
      rw [hs, if_pos rfl] at X5
      have HRb : xQ (R = .inl (Z6 5 [] [] [], a + 2)) := by rw [HRa.o, if_pos (show Zc ts (a + 1) [125] = true from hs)]; exact rfl
      clear hs HRa
      obtain ⟨⟨r0, r1, r2, r3⟩, ⟨f0, f1, f2, f3⟩, hrl⟩ := Zr (X5.o.box (p := (w.heap.size, Yl)) (by simp))
      obtain ⟨⟨t0, t1, t2, t3⟩, _, htl⟩ := Zr (X5.o.box (p := (tb2, Zq 5 ⟨#[]⟩ none 0 0 none 0 0)) (by simp))
      have hne : ¬ tb2 = w.heap.size := by omega
      go_wp2_with fail
      refine bodyPost_ret (results_cell_row rfl _ _ w.heap.size 36 _ (0, 0) _ rfl (set4 (X5.o.box (p := (w.heap.size, Yl)) (by simp)) _ _ _ _) underlying36 rfl (by kernel_rfl)) rfl ⟨Xs X5.o.st hp (xR) _ _ _ _, ?_, 5, ⟨#[]⟩, none, 0, 0, none, 0, 0, rfl, ?_⟩
      ·rw [HRb.o]
       exact X5.o.at_.set4 hp _ _ _ _
      ·intro y c ey
       rw [HRb.o] at ey
       injection ey with ey
       injection ey with ey _
       rw [← ey]
       exact N6 _ _ _ _ (by decide) (by decide)
     | false =>
      rw [hs, if_neg (by simp)] at X5
      have HRb : xQ (R = (Z1 ts (Xy ts K) [44] (f + 1) (a + 1)).go fun l a => (Zb ts a [125]).go fun _ a => .inl (Z6 5 [] (l.map (·.1)) (l.map (·.2)), a)) := by rw [HRa.o, if_neg (by rw [show Zc ts (a + 1) [125] = false from hs]; simp)]; exact rfl
      clear hs HRa
      obtain ⟨Rm, hRm⟩ := xE (Z1 ts (Xy ts K) [44] (f + 1) (a + 1))
      have HRm := Za hRm
      have HF0 : xQ (Qq ts K Rm [] (f + 1) (a + 1)) := by rw [hRm]; exact Gm
      rw [← hRm] at HRb
      clear hRm
      obtain ⟨i0, hi, hz0, hz1, hz2⟩ := info_parts Nh
      obtain ⟨s0, si, sz0, sz1, sz2⟩ := info_parts B5
      go_wp2_with fail
      go_loopg [] (ts.length) (fun gk wr => ∃ (c m : Nat) (acc : List (List UInt8 × Ty)) (na ka : Option Addr) (nc kc : Nat) (cn ck : List (List Value)) (ns : List (List UInt8)) (ks : List (Option Ty)), xQ (ns = acc.map (·.1) ∧ ks = acc.map (fun p => some p.2)) ∧ xQ (RX pb tb cap ts w wr d (.inl c) [(tb2, Zq 5 ⟨#[]⟩ na ns.length nc ka ks.length kc), (w.heap.size + 1, Qf), (w.heap.size, Yl)]) ∧ xQ (Z8 Va (tb2 + 1) 9 1 (Value.slice ka ks.length kc).ownBlock wr (.slice na ns.length nc) cn ns) ∧ xQ (Z8 Wi (tb2 + 1) 36 4 (Value.slice na ns.length nc).ownBlock wr (.slice ka ks.length kc) ck ks) ∧ xQ (Qq ts K Rm acc m c) ∧ xQ (ts.length ≤ c + m) ∧ xQ (acc.length ≤ c) ∧ xQ (ts.length - c ≤ gk))
      case atStart =>
       exact ⟨a + 1, f + 1, [], none, none, 0, 0, [], [], [], [], ⟨rfl, rfl⟩, X5, T0 _ _ _ _ _, T0 _ _ _ _ _, HF0, (by show _ ≤ _; omega), xZ _, (by show _ ≤ _; omega)⟩
      case round =>
       clear X5 HF0
       obtain ⟨c, m, acc, na, ka, nc, kc, cn, ck, ns, ks, HNS, X, HN, HV, HF, HM, HA, HG⟩ := hrel
       have hcl : c < ts.length := by
        obtain ⟨a', ha⟩ := X.o.at_
        have e1 := ha.live c rfl
        have := ha.lt
        omega
       obtain ⟨m, rfl⟩ : ∃ q, m = q + 1 := ⟨m - 1, by have := HM.o; omega⟩
       have hlen : ts.length ≤ 8193 := OK.o.len
       have hnl : ns.length ≤ 8193 := by have := HA.o; rw [HNS.o.1, List.length_map]; omega
       have hkl : ks.length ≤ 8193 := by have := HA.o; rw [HNS.o.2, List.length_map]; omega
       have htb : tb2 < wr.heap.size := xB (X.o.box (p := (tb2, Zq 5 ⟨#[]⟩ na ns.length nc ka ks.length kc)) (by simp))
       have hwtb : pb < tb2 + 1 := by omega
       obtain ⟨nmv, hnmv⟩ := xE (Y1 (Zm ts c))
       obtain ⟨R3, hR3⟩ := xE (Th ts K c)
       have HNm := Za hnmv
       have HR3 := Za hR3
       clear hnmv hR3
       have HC1 : xQ (Calls prog 116 #[.pointer (some ⟨pb, 0, none⟩)] wr fun r w' => r = .returned (.string ⟨nmv.toArray⟩) ∧ Zj pb wr w' ∧ Zp w' pb tb cap ts d (Zd (Zm ts c))) := by
        rw [HNm.o]
        exact Qm pb tb cap d ts (.inl c) wr X.o.at_ OK.o
       go_wp2_with fail
       refine HC1.o.mono ?_
       rintro e w1 ⟨rfl, hst, hat⟩
       have X1 := Za (X.o.step hst hat)
       have HN1 := Za (HN.o.stay hst hwtb)
       have HV1 := Za (HV.o.stay hst hwtb)
       have htb1 : tb2 < w1.heap.size := xT htb hst.size
       clear hst hat X HN HV HC1
       go_wp2_with fail
       refine (Xx pb tb cap d ts _ [58] _ X1.o.at_ OK.o).mono ?_
       rintro e w2 ⟨rfl, hst, hat⟩
       have X2 := Za (X1.o.step hst hat)
       have HN2 := Za (HN1.o.stay hst hwtb)
       have HV2 := Za (HV1.o.stay hst hwtb)
       have htb2 : tb2 < w2.heap.size := xT htb1 hst.size
       clear hst hat X1 HN1 HV1
       have HC3 := Za (HK.o _ _ X2.o.at_)
       rw [show Zf K (Zd (Zf (fun a => Zb ts a [58]) (Zd (Zm ts c)))) = R3 from HR3.o.symm] at HC3
       go_wp2_with fail
       refine HC3.o.mono ?_
       rintro e w3 ⟨hst, hat, k1, nm1, na1, nl1, nc1, ka1, kl1, kc1, rfl, hv⟩
       have hnO : ∀ q, (Value.slice na ns.length nc).ownBlock = some q → tb2 + 1 ≤ q ∧ q < w3.heap.size := fun q hq => (HN2.o.stay hst hwtb).own q hq
       have hkO : ∀ q, (Value.slice ka ks.length kc).ownBlock = some q → tb2 + 1 ≤ q ∧ q < w3.heap.size := fun q hq => (HV2.o.stay hst hwtb).own q hq
       have HNO := Za hnO
       have HKO := Za hkO
       have hst3 := hst.trans ((Zj.refl pb w3).alloc (xT X2.o.at_.ltp hst.size) (Zq k1 nm1 na1 nl1 nc1 ka1 kl1 kc1))
       have X3 := Za ((X2.o.step hst hat).alloc (Zq k1 nm1 na1 nl1 nc1 ka1 kl1 kc1))
       have HN3 := Za (HN2.o.stay hst3 hwtb)
       have HV3 := Za (HV2.o.stay hst3 hwtb)
       have HMd := Za ((Xg.new (rep := Wi) (B := tb2 + 1) (Bi hv) htb2 (G := fun q => (Value.slice ka ks.length kc).ownBlock = some q ∨ (Value.slice na ns.length nc).ownBlock = some q) fun q hq => HV2.o.all q hq).stay ((Zj.refl pb w3).alloc (xT X2.o.at_.ltp hst.size) (Zq k1 nm1 na1 nl1 nc1 ka1 kl1 kc1)) hwtb)
       have htb3 : tb2 < w3.heap.size := xT htb2 hst.size
       clear hst hat hv HC3 X2 HN2 HV2 hnO hkO hst3
       have hwl : w3.heap.size < (w3.alloc (Zq k1 nm1 na1 nl1 nc1 ka1 kl1 kc1)).heap.size := by simp
       obtain ⟨⟨t0, t1, t2, t3⟩, ⟨f0, f1, f2, f3⟩, htl⟩ := Zr (X3.o.box (p := (tb2, Zq 5 ⟨#[]⟩ na ns.length nc ka ks.length kc)) (by simp))
       have HCN : xQ (∀ j u, ([.string ⟨nmv.toArray⟩] : List Value)[j]? = some u → ((w3.alloc (Zq k1 nm1 na1 nl1 nc1 ka1 kl1 kc1)).alloc (.cells #[.string ⟨nmv.toArray⟩] 9)).cell? ((⟨w3.heap.size + 1, 0, none⟩ : Addr).add j) = some u) := fun j u h => by
        have := Uq (w3.alloc (Zq k1 nm1 na1 nl1 nc1 ka1 kl1 kc1)) [.string ⟨nmv.toArray⟩] 9 j u h
        rw [xS] at this
        exact this
       go_wp2_with (at_builtin; refine wpList_append_own_at _ rfl (.tmp 53) (.tmp 55) 24 rfl (tb2 + 1) 9 s0 _ 1 16 underlying24 si sz0 sz1 sz2 rfl (by decide) _ _ _ rfl (HN3.o.ow.alloc _) ⟨_, 0, none⟩ 1 1 [.string ⟨nmv.toArray⟩] rfl rfl HCN.o (by simp [Value.oneCell']) (by unfold maxLen; omega) (by omega) (by simp; omega) ?_)
       intro vn' w4 zho zhn _ hloc
       have hptl : pb < (w3.alloc (Zq k1 nm1 na1 nl1 nc1 ka1 kl1 kc1)).heap.size := X3.o.at_.ltp
       have HN4 := Za (HN3.o.put (x := nmv) (rep := Va) zho zhn (hloc.imp_right fun e => ⟨_, e, by simp⟩) ((Zj.refl pb _).alloc hptl _) hwtb rfl ((Xg.new (rep := Va) (lo := w3.heap.size + 1) (wx := w3.alloc (Zq k1 nm1 na1 nl1 nc1 ka1 kl1 kc1)) rfl (by omega) fun q hq => by have := HN3.o.all q hq; simpa using this).stay ((Zj.refl pb _).alloc hptl _) hwtb))
       have HV4 := Za ((HV3.o.stay ((Zj.refl pb _).alloc hptl (.cells #[.string ⟨nmv.toArray⟩] 9)) hwtb).beside (o' := vn'.ownBlock) zhn (hloc.imp_right fun e => ⟨_, e, by simp, (zho.lt _ e).2⟩) (by simp; omega))
       have HMd4 := Za ((HMd.o.stay ((Zj.refl pb _).alloc hptl (.cells #[.string ⟨nmv.toArray⟩] 9)) hwtb).grown (G' := fun q => (Value.slice ka ks.length kc).ownBlock = some q ∨ vn'.ownBlock = some q) zhn (fun q hq => .inr hq) fun q hq => by
        rcases hq with hq | hq
        ·exact .inl (.inl hq)
        ·rcases hloc with e | e
         ·exact .inl (.inr (e ▸ hq))
         ·rw [e] at hq; injection hq with hq; exact .inr (by rw [← hq]; simp))
       have X4 := Za ((X3.o.alloc (.cells #[.string ⟨nmv.toArray⟩] 9)).drop.grown zhn (fun q hq => by have := HNO.o q hq; omega) fun p hp q hq => by
        have := HNO.o q hq
        simp only [List.mem_cons, List.not_mem_nil, or_false] at hp
        rcases hp with rfl | rfl | rfl | rfl
        ·show q ≠ w3.heap.size; omega
        ·show q ≠ tb2; omega
        ·show q ≠ w.heap.size + 1; omega
        ·show q ≠ w.heap.size; omega)
       obtain ⟨na4, nc4, rfl⟩ := Vb zho
       clear zho zhn hloc HCN t0 t1 t2 t3 f0 f1 f2 f3 htl hwl hptl HN3 HV3 HMd X3 HNO HKO
       generalize w3.heap.size = nb at X4 htb3 ⊢
       obtain ⟨⟨t0, t1, t2, t3⟩, ⟨f0, f1, f2, f3⟩, htl⟩ := Zr (X4.o.box (p := (tb2, Zq 5 ⟨#[]⟩ na ns.length nc ka ks.length kc)) (by simp))
       obtain ⟨⟨b0, b1, b2, b3⟩, _, hbl⟩ := Zr (X4.o.box (p := (nb, Zq k1 nm1 na1 nl1 nc1 ka1 kl1 kc1)) (by simp))
       have hne : ¬ nb = tb2 := by omega
       have hne' : ¬ tb2 = nb := by omega
       have X5 : xQ (RX pb tb cap ts w (w4.setCell ⟨tb2, 2, none⟩ (.slice na4 (ns.length + 1) nc4)) d (Zd R3) [(tb2, Zq 5 ⟨#[]⟩ na4 (ns.length + 1) nc4 ka ks.length kc), (nb, Zq k1 nm1 na1 nl1 nc1 ka1 kl1 kc1), (w.heap.size + 1, Qf), (w.heap.size, Yl)]) := by
        refine RX.put2 (na := na) (nl := ns.length) (nc := nc) (X4.o.perm (fun p hp => ?_)) fun p hp => ?_
        ·simp only [List.mem_cons, List.not_mem_nil, or_false] at hp ⊢
         rcases hp with h | h | h | h
         ·exact .inr (.inl h)
         ·exact .inl h
         ·exact .inr (.inr (.inl h))
         ·exact .inr (.inr (.inr h))
        ·simp only [List.mem_cons, List.not_mem_nil, or_false] at hp
         rcases hp with rfl | rfl | rfl
         ·show nb ≠ tb2; omega
         ·show w.heap.size + 1 ≠ tb2; omega
         ·show w.heap.size ≠ tb2; omega
       have HN5 := Za (HN4.o.stay (Uf w4 tb2 2 (.slice na4 (ns.length + 1) nc4)) (xU _))
       have HV5 := Za (HV4.o.stay (Uf w4 tb2 2 (.slice na4 (ns.length + 1) nc4)) (xU _))
       have HMd5 := Za (HMd4.o.stay (Uf w4 tb2 2 (.slice na4 (ns.length + 1) nc4)) (xU _))
       clear HN4 HV4 HMd4 X4
       have HCN : xQ (∀ j u, ([.int .i64 k1, .string nm1, .slice na1 nl1 nc1, .slice ka1 kl1 kc1] : List Value)[j]? = some u → ((w4.setCell ⟨tb2, 2, none⟩ (.slice na4 (ns.length + 1) nc4)).alloc (.cells #[.int .i64 k1, .string nm1, .slice na1 nl1 nc1, .slice ka1 kl1 kc1] 36)).cell? ((⟨w4.heap.size, 0, none⟩ : Addr).add j) = some u) := fun j u h => by
        have := Uq (w4.setCell ⟨tb2, 2, none⟩ (.slice na4 (ns.length + 1) nc4)) [.int .i64 k1, .string nm1, .slice na1 nl1 nc1, .slice ka1 kl1 kc1] 36 j u h
        rw [Zw] at this
        exact this
       go_wp2_with (at_builtin; refine wpList_append_own_at _ rfl (.tmp 59) (.tmp 61) 23 rfl (tb2 + 1) 36 i0 _ 4 72 underlying23 hi hz0 hz1 hz2 rfl (by decide) _ _ _ rfl (HV5.o.ow.alloc _) ⟨_, 0, none⟩ 1 1 [.int .i64 k1, .string nm1, .slice na1 nl1 nc1, .slice ka1 kl1 kc1] rfl rfl HCN.o (by simp [Value.oneCell']) (by unfold maxLen; omega) (by omega) (by simp; omega) ?_)
       intro vk' w6 zho zhn _ hloc
       have hptl : pb < (w4.setCell ⟨tb2, 2, none⟩ (.slice na4 (ns.length + 1) nc4)).heap.size := X5.o.at_.ltp
       have HV6 := Za (HV5.o.put (x := Wc R3) (rep := Wi) zho zhn (hloc.imp_right fun e => ⟨_, e, by simp⟩) ((Zj.refl pb _).alloc hptl _) hwtb rfl (HMd5.o.stay ((Zj.refl pb _).alloc hptl _) hwtb))
       have HN6 := Za ((HN5.o.stay ((Zj.refl pb _).alloc hptl (.cells #[.int .i64 k1, .string nm1, .slice na1 nl1 nc1, .slice ka1 kl1 kc1] 36)) hwtb).beside (o' := vk'.ownBlock) zhn (hloc.imp_right fun e => ⟨_, e, by simp, (zho.lt _ e).2⟩) (by simp; omega))
       have X6 : xQ (RX pb tb cap ts w w6 d (Zd R3) [(tb2, Zq 5 ⟨#[]⟩ na4 (ns.length + 1) nc4 ka ks.length kc), (w.heap.size + 1, Qf), (w.heap.size, Yl)]) := by
        refine RX.grown (RX.perm (X5.o.alloc (.cells #[.int .i64 k1, .string nm1, .slice na1 nl1 nc1, .slice ka1 kl1 kc1] 36)).drop fun p hp => ?_) zhn (fun q hq => by have := HV5.o.own q hq; omega) fun p hp q hq => ?_
        ·simp only [List.mem_cons, List.not_mem_nil, or_false] at hp ⊢
         rcases hp with h | h | h
         ·exact .inl h
         ·exact .inr (.inr (.inl h))
         ·exact .inr (.inr (.inr h))
        ·have := HV5.o.own q hq
         simp only [List.mem_cons, List.not_mem_nil, or_false] at hp
         rcases hp with rfl | rfl | rfl
         ·show q ≠ tb2; omega
         ·show q ≠ w.heap.size + 1; omega
         ·show q ≠ w.heap.size; omega
       obtain ⟨ka6, kc6, rfl⟩ := Vb zho
       clear zho zhn hloc HCN t0 t1 t2 t3 f0 f1 f2 f3 htl hptl b0 b1 b2 b3 hbl HN5 HV5 HMd5 X5
       obtain ⟨⟨t0, t1, t2, t3⟩, ⟨f0, f1, f2, f3⟩, htl⟩ := Zr (X6.o.box (p := (tb2, Zq 5 ⟨#[]⟩ na4 (ns.length + 1) nc4 ka ks.length kc)) (by simp))
       have X7 : xQ (RX pb tb cap ts w (w6.setCell ⟨tb2, 3, none⟩ (.slice ka6 (ks.length + 1) kc6)) d (Zd R3) [(tb2, Zq 5 ⟨#[]⟩ na4 (ns.length + 1) nc4 ka6 (ks.length + 1) kc6), (w.heap.size + 1, Qf), (w.heap.size, Yl)]) := by
        refine RX.put3 X6.o fun p hp => ?_
        simp only [List.mem_cons, List.not_mem_nil, or_false] at hp
        rcases hp with rfl | rfl
        ·show w.heap.size + 1 ≠ tb2; omega
        ·show w.heap.size ≠ tb2; omega
       have HN7 := Za (HN6.o.stay (Uf w6 tb2 3 (.slice ka6 (ks.length + 1) kc6)) (xU _))
       have HV7 := Za (HV6.o.stay (Uf w6 tb2 3 (.slice ka6 (ks.length + 1) kc6)) (xU _))
       clear HN6 HV6 X6
       go_wp2_with fail
       refine (Y5 pb tb cap d ts (Zd R3) [44] _ X7.o.at_ OK.o).mono ?_
       rintro e w8 ⟨rfl, hst, hat⟩
       have X8 := Za (X7.o.step hst hat)
       have HN8 := Za (HN7.o.stay hst hwtb)
       have HV8 := Za (HV7.o.stay hst hwtb)
       clear hst hat X7 HN7 HV7 t0 t1 t2 t3 f0 f1 f2 f3 htl
       have hl1 : (ns ++ [nmv]).length = ns.length + 1 := by simp
       have hl2 : (ks ++ [Wc R3]).length = ks.length + 1 := by simp
       cases hs : Yd ts (Zd R3) [44] with
       | true =>
        rw [hs, if_pos rfl] at X8
        rw [HR3.o] at hs
        obtain ⟨t, b, hRb, zhs⟩ := Fw HF.o hs
        have HNx := Za zhs
        have hup := G2 HU.o hRb
        have hS : Wy (Zd R3) = .inl (b + 1) := by rw [HR3.o, hRb]; rfl
        have hk3 : Wc R3 = some t := by rw [HR3.o, hRb]; rfl
        rw [hS, ← hl1, ← hl2] at X8
        rw [← hl1, ← hl2] at HN8 HV8
        have HNS2 : xQ (ns ++ [nmv] = (acc ++ [(Y1 (Zm ts c), t)]).map (·.1) ∧ ks ++ [Wc R3] = (acc ++ [(Y1 (Zm ts c), t)]).map (fun p => some p.2)) := ⟨by rw [HNS.o.1, HNm.o]; simp, by rw [HNS.o.2, hk3]; simp⟩
        clear hs hRb zhs hS hk3 hl1 hl2
        go_wp2_with fail
        go_roundg (ts.length - (b + 1))
        case measure => have := HG.o; omega
        case rel => exact ⟨b + 1, m, _, na4, ka6, nc4, kc6, _, _, _, _, HNS2, X8, HN8, HV8, HNx, (by have := HM.o; show _ ≤ _; omega), (by have := HA.o; show _ ≤ _; simp; omega), xR⟩
       | false =>
        rw [hs, if_neg (by simp)] at X8
        rw [HR3.o] at hs
        have HE := Za (Fy HF.o hs)
        clear hs
        go_wp2_with fail
        refine (Xx pb tb cap d ts (Zd R3) [125] _ X8.o.at_ OK.o).mono ?_
        rintro e w9 ⟨rfl, hst, hat⟩
        have X9 := Za (X8.o.step hst hat)
        have HN9 := Za (HN8.o.stay hst hwtb)
        have HV9 := Za (HV8.o.stay hst hwtb)
        clear hst hat X8 HN8 HV8
        obtain ⟨⟨r0, r1, r2, r3⟩, ⟨f0, f1, f2, f3⟩, hrl⟩ := Zr (X9.o.box (p := (w.heap.size, Yl)) (by simp))
        obtain ⟨⟨t0, t1, t2, t3⟩, _, htl⟩ := Zr (X9.o.box (p := (tb2, Zq 5 ⟨#[]⟩ na4 (ns.length + 1) nc4 ka6 (ks.length + 1) kc6)) (by simp))
        have hne2 : ¬ tb2 = w.heap.size := by omega
        have HL1 := Za hl1
        have HL2 := Za hl2
        clear hl1 hl2
        go_wp2_with fail
        refine bodyPost_ret (results_cell_row rfl _ _ w.heap.size 36 _ (0, 0) _ rfl (set4 (X9.o.box (p := (w.heap.size, Yl)) (by simp)) _ _ _ _) underlying36 rfl (by kernel_rfl)) rfl ⟨Xs X9.o.st hp (xR) _ _ _ _, ?_, 5, ⟨#[]⟩, na4, ns.length + 1, nc4, ka6, ks.length + 1, kc6, by simp, ?_⟩
        ·have := X9.o.at_.set4 hp (.int .i64 5) (.string ⟨#[]⟩) (.slice na4 (ns.length + 1) nc4) (.slice ka6 (ks.length + 1) kc6)
         have e2 : Zd R = Zd (Zf (fun a => Zb ts a [125]) (Zd R3)) := by
          rw [HRb.o, HR3.o]
          rcases HE.o with ⟨t, b, e1, e2⟩ | ⟨e, e1, e2⟩
          ·rw [e1, e2]
           show Zd ((Zb ts b [125]).go _) = Zd (Zb ts b [125])
           cases Zb ts b [125] <;> rfl
          ·rw [e1, e2]
           rfl
         rw [e2]
         simpa using this
        ·intro y cc ey
         rw [HRb.o] at ey
         rcases HE.o with ⟨t, b, e1, e2⟩ | ⟨e, e1, e2⟩
         ·rw [e2] at ey
          replace ey : (Zb ts b [125]).go (fun _ a => .inl (Z6 5 [] ((acc ++ [(Y1 (Zm ts c), t)]).map (·.1)) ((acc ++ [(Y1 (Zm ts c), t)]).map (·.2)), a)) = .inl (y, cc) := ey
          cases hw : Zb ts b [125] with
          | inr p => rw [hw] at ey; cases ey
          | inl z =>
           rw [hw] at ey
           injection ey with ey
           injection ey with ey _
           rw [← ey]
           have hk3 : Wc R3 = some t := by rw [HR3.o, e1]; rfl
           have en : ns ++ [nmv] = (acc ++ [(Y1 (Zm ts c), t)]).map (·.1) := by rw [HNS.o.1, HNm.o]; simp
           have ek : ks ++ [Wc R3] = ((acc ++ [(Y1 (Zm ts c), t)]).map (·.2)).map some := by rw [HNS.o.2, hk3]; simp
           have hN := HN9.o
           have hV := HV9.o
           rw [en] at hN
           rw [ek] at hV
           have hll : (acc ++ [(Y1 (Zm ts c), t)]).length ≤ 8193 := by have := HA.o; simp; omega
           obtain ⟨a', c', a2, c2, ev, hE⟩ := A5 (l := acc ++ [(Y1 (Zm ts c), t)]) (lo := tb2 + 1) (w := w9) ⟨_, _, _, _, rfl, hN, B1 hV⟩ hll (Jy (fun a x b h => zbc OK.o h) (f + 1) (HRm.o.symm.trans e2))
           have hln : (acc ++ [(Y1 (Zm ts c), t)]).length = ns.length + 1 := by rw [← HL1.o, en, List.length_map]
           have hlk : (acc ++ [(Y1 (Zm ts c), t)]).length = ks.length + 1 := by rw [← HL2.o, ek, List.length_map, List.length_map]
           injection ev with ev
           injection ev with ev
           injection ev with ev1 ev
           injection ev with ev2 _
           injection ev1 with g1 _ g2
           injection ev2 with g3 _ g4
           subst g1 g2 g3 g4
           have hE2 : Zt (tb2 + 1) w9 (.agg #[.int .i64 5, .string ⟨#[]⟩, .slice na4 (ns.length + 1) nc4, .slice ka6 (ks.length + 1) kc6]) (Z6 5 [] ((acc ++ [(Y1 (Zm ts c), t)]).map (·.1)) ((acc ++ [(Y1 (Zm ts c), t)]).map (·.2))) := by
            have := hE
            rw [show (Value.slice na4 (acc ++ [(Y1 (Zm ts c), t)]).length nc4) = .slice na4 (ns.length + 1) nc4 by rw [hln], show (Value.slice ka6 (acc ++ [(Y1 (Zm ts c), t)]).length kc6) = .slice ka6 (ks.length + 1) kc6 by rw [hlk]] at this
            exact this
           exact Zt.lower (Zt.set4 hE2 (by omega) _ _ _ _) (by omega)
         ·rw [e2] at ey; cases ey
end Go.Proofs.YtbnjllkkhhkkaaaGreatDoor
namespace Go.Proofs.YtbnjllkkhhkkaaaGreatDoor
open Go.Proofs.Tryz
open Go.RowKit
theorem Gy (pb tb cap : Nat) (ts : List Tok) (ok : Z0 ts) (f : Nat) (hf : ts.length ≤ f + 1) : ∀ (n d : Nat), d + n = 101 → d ≤ 100 → ∀ (S : Z3) (w : World), Zp w pb tb cap ts d S →
  Calls prog 31 #[.pointer (some ⟨pb, 0, none⟩)] w (Vn pb tb cap ts d w (Zf (Yk ts (f + 1) n d) S))
 | 0, d, h1, h2, _, _, _ => absurd h1 (by omega)
 | n + 1, d, h1, h2, S, w, h => by
  have hK : d < 100 → ∀ S w, Zp w pb tb cap ts (d + 1) S → Calls prog 31 #[.pointer (some ⟨pb, 0, none⟩)] w (Vn pb tb cap ts (d + 1) w (Zf (Yk ts (f + 1) n (d + 1)) S)) := fun hd S w h => Gy pb tb cap ts ok f hf n (d + 1) (by omega) (by omega) S w h
  have hu : ∀ a x b, Yk ts (f + 1) n (d + 1) a = .inl (x, b) → a ≤ b := fun a x b h => Nq h
  have hA : d < 100 → ∀ S w, Zp w pb tb cap ts (d + 1) S → Calls prog 66 #[.pointer (some ⟨pb, 0, none⟩)] w (Vn pb tb cap ts (d + 1) w (Zf (U7 ts (Yk ts (f + 1) n (d + 1)) (f + 1)) S)) := fun hd S w h => by
   have := ralt_c pb tb cap (d + 1) ts ok (Wt ts (Yk ts (f + 1) n (d + 1)) (f + 1)) f hf (fun a x b h => A7 hu h) (fun S w h => Cm pb tb cap (d + 1) ts ok _ f hf hu (hK hd) S w h) S w h
   cases S with
   | inl a => exact this
   | inr p => exact this
  have := Ij pb tb cap d ts ok _ _ (by omega) hA hK S w h
  cases S with
  | inl a => exact this
  | inr p => exact this
end Go.Proofs.YtbnjllkkhhkkaaaGreatDoor
