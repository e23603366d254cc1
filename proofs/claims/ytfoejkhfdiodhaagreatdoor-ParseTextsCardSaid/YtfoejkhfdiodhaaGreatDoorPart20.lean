/- Part. -/
import Derived.Test.YtfoejkhfdiodhaaGreatDoorPart19
set_option maxRecDepth 100000
set_option maxHeartbeats 4000000
namespace Go.Proofs.YtfoejkhfdiodhaaGreatDoor
open Go.Proofs.Tryz
open Go.RowKit
attribute [local go_sem ↓] Go.wp_at_zero Go.wp_at_succ
def Uq : Nat -> List (List UInt8)
 | 0 => [[111, 114]]
 | 1 => [[97, 110, 100]]
 | 3 => [[43, 43]]
 | 4 => [[43], [45], [94]]
 | 5 => [[42], [47], [37], [38], [60, 60], [62, 62]]
 | _ => []
def K2 (ts : List Tok) (L : List (List UInt8)) (sub : Nat -> Pr Ty) (R : Pr Ty) (lo nb : Nat) (S : Ya) (wr : World) (y : NV) (i gk : Nat) : Prop :=
 (∃ b m x, S = .inl b /\ R = V3 ts L sub (m + 1) x b /\ ts.length <= b + m + 1 /\ (∀ j (_ : j < L.length), j < i -> Zh ts b L[j] = false) /\ Xj lo nb wr y x /\ (ts.length - b) * (L.length + 1) + (L.length - i) <= gk) ∨
 ∃ e, S = .inr e /\ R = .inr e /\ L.length - i <= gk
section
variable {ts : List Tok} {L : List (List UInt8)} {sub : Nat -> Pr Ty} {R : Pr Ty} {lo nb i gk : Nat} {S : Ya} {wr wr' : World} {y : NV}
theorem K2.keep (h : K2 ts L sub R lo nb S wr y i gk) (hx : ∀ x, Xj lo nb wr y x -> Xj lo nb wr' y x) : K2 ts L sub R lo nb S wr' y i gk := by
 rcases h with ⟨b, m, x, h1, h2, h3, h4, h5, h6⟩ | h
 ·exact .inl ⟨b, m, x, h1, h2, h3, h4, hx x h5, h6⟩
 ·exact .inr h
theorem K2.next (h : K2 ts L sub R lo nb S wr y i gk) (hi : i < L.length) (hs : Yw ts S L[i] = false) : ∃ g', g' < gk /\ K2 ts L sub R lo nb S wr y (i + 1) g' := by
 rcases h with ⟨b, m, x, rfl, h2, h3, h4, h5, h6⟩ | ⟨e, rfl, h2, h3⟩
 ·refine ⟨(ts.length - b) * (L.length + 1) + (L.length - (i + 1)), by omega, .inl ⟨b, m, x, rfl, h2, h3, fun j hj hji => ?_, h5, xR⟩⟩
  by_cases e : j = i
  ·subst e; exact hs
  ·exact h4 j hj (by omega)
 ·exact ⟨L.length - (i + 1), by omega, .inr ⟨e, rfl, h2, xR⟩⟩
theorem K2.done (h : K2 ts L sub R lo nb S wr y i gk) (hi : L.length <= i) : Zf R = S /\ ∀ D b, R = .inl (D, b) -> Xj lo nb wr y D := by
 rcases h with ⟨b, m, x, rfl, h2, h3, h4, h5, h6⟩ | ⟨e, rfl, h2, h3⟩
 ·have : R = .inl (x, b) := by
   rw [h2];refine uD ?_;rw [List.any_eq_false];intro t ht;obtain ⟨j, hj, rfl⟩ := List.mem_iff_getElem.1 ht;rw [h4 j hj (by omega)];simp
  rw [this];refine ⟨rfl, fun D c e => ?_⟩;injection e with e;injection e with e _;rw [<- e];exact h5
 ·rw [h2]
  exact ⟨rfl, fun D b e => by cases e⟩
theorem K2.seen (h : K2 ts L sub R lo nb S wr y i gk) (hi : i < L.length) (hs : Yw ts S L[i] = true) (hu : ∀ a x b, sub a = .inl (x, b) -> a <= b) : ∃ b x, S = .inl b /\ Xj lo nb wr y x /\ (ts.length - b) * (L.length + 1) <= gk /\
  ((∃ D2 b2, sub (b + 1) = .inl (D2, b2) /\ b + 1 <= b2 /\ (b2 < ts.length -> ∃ m, R = V3 ts L sub (m + 1) (Zn 14 L[i] 0 (Yg ts b) (Yf ts b) [] [] [x, D2]) b2 /\ ts.length <= b2 + m + 1)) ∨ ∃ e, sub (b + 1) = .inr e /\ R = .inr e) := by
 rcases h with ⟨b, m, x, rfl, h2, h3, h4, h5, h6⟩ | ⟨e, rfl, h2, h3⟩
 ·have Ws : Zh ts b L[i] = true := hs
  have ht : (Zk ts b).text = L[i] := by
   unfold Zh at Ws;simp only [Bool.and_eq_true, beq_iff_eq] at Ws;exact Ws.2
  rw [uE (List.any_eq_true.2 ⟨L[i], List.getElem_mem hi, Ws⟩), ht] at h2;refine ⟨b, x, rfl, h5, by omega, ?_⟩
  cases hk : sub (b + 1) with
  | inr e => exact .inr ⟨e, rfl, by rw [h2, hk]; rfl⟩
  | inl q =>
   obtain ⟨D2, b2⟩ := q;have Z0 := hu _ _ _ hk;refine .inl ⟨D2, b2, rfl, Z0, fun hl => ?_⟩
   obtain ⟨m, rfl⟩ : ∃ q, m = q + 1 := ⟨m - 1, by omega⟩
   exact ⟨m, by rw [h2, hk]; rfl, by omega⟩
 ·cases hs
end
theorem RX.put8 {pb tb cap d b : Nat} {ts : List Tok} {w0 w : World} {S : Ya} {bx : List (Nat × Obj)} {x : NV} (h : RX pb tb cap ts w0 w d S ((b, x.obj) :: bx)) (Uy : ∀ p ∈ bx, p.1 ≠ b) (y : NV) : RX pb tb cap ts w0 (put8 w b y) d S ((b, y.obj) :: bx) := by
 have hb := (h.has _ (xM)).2
 have hp := h.hp
 have hpb := xT hp hb
 refine ⟨Wg h.st hp hb y, (((((((h.at_.other hpb 0 _).other hpb 1 _).other hpb 2 _).other hpb 3 _).other hpb 4 _).other hpb 5 _).other hpb 6 _).other hpb 7 _, hp, fun p Uj => ?_⟩
 rcases List.mem_cons.1 Uj with rfl | Uj
 ·exact ⟨Xn (h.box (xM)), hb⟩
 ·exact ⟨(U0 (Uy p Uj)).trans (h.box (xW _ Uj)), (h.has p (xW _ Uj)).2⟩
theorem RX.far {pb tb cap d c : Nat} {ts : List Tok} {w0 w : World} {S : Ya} {bx : List (Nat × Obj)} (h : RX pb tb cap ts w0 w d S bx) (hc : w0.heap.size <= c) (Uy : ∀ p ∈ bx, p.1 ≠ c) (o : Nat) (u : Value) : RX pb tb cap ts w0 (w.setCell ⟨c, o, none⟩ u) d S bx :=
 ⟨h.st.own h.hp hc o u, h.at_.other (xT h.hp hc) o u, h.hp, fun p hp => ⟨(xH (Uy p hp)).trans (h.box hp), (h.has p hp).2⟩⟩
def Left (pb tb cap : Nat) (ts : List Tok) (w0 : World) (d : Nat) (S : Ya) (rb nb : Nat) (W Wf : World) (x : NV) (n : Nat) : Prop :=
 RX pb tb cap ts w0 Wf d S [(rb, x.obj)] /\ (∀ c, c ≠ rb -> c ≠ nb -> c < W.heap.size -> Wf.heap[c]? = W.heap[c]?) /\ W.heap.size + n = Wf.heap.size
section
variable {pb tb cap d rb nb n : Nat} {ts : List Tok} {w0 W Wf : World} {S : Ya} {bx : List (Nat × Obj)} {x : NV}
theorem Dt (h : RX pb tb cap ts w0 W d S bx) (hm : (rb, Zi.obj) ∈ bx) (nb : Nat) (x : NV) : Left pb tb cap ts w0 d S rb nb W (put8 W rb x) x 0 :=
 ⟨RX.put8 (h.perm (bx' := [(rb, Zi.obj)]) (by intro p hp; rw [List.mem_singleton.1 hp]; exact hm)) (by simp) x, fun c h1 _ _ => U0 h1, Q3.symm⟩
theorem B7 (h : RX pb tb cap ts w0 W d S bx) (hm : (rb, Zi.obj) ∈ bx) (hn : w0.heap.size <= nb) (hr : rb ≠ nb) (o : Nat) (v : Value) (x : NV) : Left pb tb cap ts w0 d S rb nb W (put8 (W.setCell ⟨nb, o, none⟩ v) rb x) x 0 := by
 have h1 := (h.perm (bx' := [(rb, Zi.obj)]) (by intro p hp; rw [List.mem_singleton.1 hp]; exact hm)).far hn (by intro p hp; rw [List.mem_singleton.1 hp]; exact hr) o v
 exact ⟨h1.put8 (by simp) x, fun c h2 h3 _ => (U0 h2).trans (xH h3), by rw [Q3, Ye]; rfl⟩
theorem Im (h : RX pb tb cap ts w0 W d S bx) (hm : (rb, Zi.obj) ∈ bx) (hn : w0.heap.size <= nb) (hr : rb ≠ nb) (o : Nat) (v : Value) (o' : Nat) (v' : Value) (x : NV) : Left pb tb cap ts w0 d S rb nb W (put8 ((W.setCell ⟨nb, o, none⟩ v).setCell ⟨nb, o', none⟩ v') rb x) x 0 := by
 have h1 := ((h.perm (bx' := [(rb, Zi.obj)]) (by intro p hp; rw [List.mem_singleton.1 hp]; exact hm)).far hn (by intro p hp; rw [List.mem_singleton.1 hp]; exact hr) o v).far hn (by intro p hp; rw [List.mem_singleton.1 hp]; exact hr) o' v'
 exact ⟨h1.put8 (by simp) x, fun c h2 h3 _ => (U0 h2).trans ((xH h3).trans (xH h3)), by rw [Q3, Ye, Ye]; rfl⟩
theorem Jl (h : Left pb tb cap ts w0 d S rb nb W Wf x n) (o : Obj) : Left pb tb cap ts w0 d S rb nb W (Wf.alloc o) x (n + 1) :=
 ⟨(h.1.alloc o).drop, fun c h1 h2 h3 => (xA (by have := h.2.2; omega)).trans (h.2.1 c h1 h2 h3), by rw [xS, <- h.2.2]; omega⟩
theorem Ai (h : Left pb tb cap ts w0 d S rb nb W Wf x n) (o : Obj) {k : Nat} (hk : k = W.heap.size + n) : (Wf.alloc o).heap[k]? = some o := by
 rw [hk, h.2.2]
 exact xL _ _
end
theorem Me {fn : Func} {p : Tmp} {Q : Ending -> World -> Prop} {a : Act} {W : World} {rb : Nat} {x : NV} (h : fn.results = #[.cell p 38]) (hp : a.tmps.getD p undef = .pointer (some ⟨rb, 0, none⟩)) (hg : W.heap[rb]? = some x.obj) (hd : a.defers = []) (hQ : Q (.returned x.val) W) : bodyPost prog fn Q .ret a W :=
 bodyPost_ret (results_cell_row h _ _ rb 38 _ (0, 0) _ hp hg underlying38 rfl (by kernel_rfl)) hd hQ
abbrev Mh (x y : NV) : Obj := .cells #[.int .i64 x.k, .string x.tx, .int .i64 x.N, .int .i64 x.li, .int .i64 x.co, .slice x.ta x.tl x.tc, .slice x.na x.nl x.nc, .slice x.ka x.kl x.kc, .int .i64 y.k, .string y.tx, .int .i64 y.N, .int .i64 y.li, .int .i64 y.co, .slice y.ta y.tl y.tc, .slice y.na y.nl y.nc, .slice y.ka y.kl y.kc] 38
abbrev Wj (L : List (List UInt8)) : Obj := .cells (L.map fun s => (Value.string ⟨s.toArray⟩)).toArray 9
theorem Cf {w : World} {b i : Nat} {L : List (List UInt8)} (h : w.heap[b]? = some (Wj L)) (hi : i < L.length) : w.cell? ⟨b, i, none⟩ = some (.string ⟨L[i].toArray⟩) := by
 rw [cell_of_row _ _ _ _ _ _ h]
 simp [hi]
abbrev L4 (n : Nat) : Obj := .cells #[.slice (some ⟨n + 1, 0, none⟩) 1 1, .slice (some ⟨n + 1 + 1, 0, none⟩) 1 1, .slice (some ⟨n + 1 + 1 + 1, 0, none⟩) 0 0, .slice (some ⟨n + 1 + 1 + 1 + 1, 0, none⟩) 1 1, .slice (some ⟨n + 1 + 1 + 1 + 1 + 1, 0, none⟩) 3 3, .slice (some ⟨n + 1 + 1 + 1 + 1 + 1 + 1, 0, none⟩) 6 6] 35
theorem Ca (pb tb cap d : Nat) (ts : List Tok) (ok : Yh ts) (k : Nat) (hk : k <= 5) (Mq : k ≠ 2) (sub : Nat -> Pr Ty) (hu : ∀ a x b, sub a = .inl (x, b) -> a <= b) (f : Nat) (hf : ts.length <= f + 1)
  (hP : ∀ S w, Z2 w pb tb cap ts d S -> Calls prog 122 #[pP pb, .int .i64 (k + 1 : Nat)] w (Vh pb tb cap ts d w (Zj sub S)))
  (S : Ya) (w : World) (h : Z2 w pb tb cap ts d S) :
  Calls prog 122 #[pP pb, .int .i64 k] w (Vh pb tb cap ts d w (Zj (fun a => (sub a).go fun x a => V3 ts (Uq k) sub (f + 1) x a) S)) := by
 have e6 : ((k : Int) == 6) = false := by simp; omega
 have e2 : ((k : Int) == 2) = false := by simp; omega
 have P8 : (k : Int) + 1 <= 9223372036854775807 := by omega
 have HP : xQ (∀ S w, Z2 w pb tb cap ts d S -> Calls prog 122 #[pP pb, .int .i64 ((k : Int) + 1)] w (Vh pb tb cap ts d w (Zj sub S))) := hP
 have HU := Za hu
 have OK := Za ok
 have X0 := Za ((((((((Lc h Zi.obj).alloc (Wj (Uq 0))).alloc (Wj (Uq 1))).alloc (Wj (Uq 2))).alloc (Wj (Uq 3))).alloc (Wj (Uq 4))).alloc (Wj (Uq 5))).alloc (L4 w.heap.size))
 simp only [xS] at X0
 obtain ⟨gb, Mn, hgb1, hgb2, HO⟩ : ∃ gb, xQ (RX pb tb cap ts w ((((((((w.alloc Zi.obj).alloc (Wj (Uq 0))).alloc (Wj (Uq 1))).alloc (Wj (Uq 2))).alloc (Wj (Uq 3))).alloc (Wj (Uq 4))).alloc (Wj (Uq 5))).alloc (L4 w.heap.size)) d S [(w.heap.size, Zi.obj), (w.heap.size + 1 + 1 + 1 + 1 + 1 + 1 + 1, L4 w.heap.size), (gb, Wj (Uq k))]) /\ w.heap.size + 1 <= gb /\ gb < w.heap.size + 7 /\ xQ (∀ W : World, W.heap[w.heap.size + 1 + 1 + 1 + 1 + 1 + 1 + 1]? = some (L4 w.heap.size) -> W.cell? ⟨w.heap.size + 1 + 1 + 1 + 1 + 1 + 1 + 1, k, none⟩ = some (.slice (some ⟨gb, 0, none⟩) (Uq k).length (Uq k).length)) := by
  have hh : k = 0 ∨ k = 1 ∨ k = 3 ∨ k = 4 ∨ k = 5 := by omega
  rcases hh with rfl | rfl | rfl | rfl | rfl
  ·exact ⟨w.heap.size + 1, X0.o.perm (by simp), by omega, by omega, fun W hW => by rw [cell_of_row _ _ _ _ _ _ hW]; rfl⟩
  ·exact ⟨w.heap.size + 1 + 1, X0.o.perm (by simp), by omega, by omega, fun W hW => by rw [cell_of_row _ _ _ _ _ _ hW]; rfl⟩
  ·exact ⟨w.heap.size + 1 + 1 + 1 + 1, X0.o.perm (by simp), by omega, by omega, fun W hW => by rw [cell_of_row _ _ _ _ _ _ hW]; rfl⟩
  ·exact ⟨w.heap.size + 1 + 1 + 1 + 1 + 1, X0.o.perm (by simp), by omega, by omega, fun W hW => by rw [cell_of_row _ _ _ _ _ _ hW]; rfl⟩
  ·exact ⟨w.heap.size + 1 + 1 + 1 + 1 + 1 + 1, X0.o.perm (by simp), by omega, by omega, fun W hW => by rw [cell_of_row _ _ _ _ _ _ hW]; rfl⟩
 obtain ⟨L, hL⟩ := xE (Uq k)
 obtain ⟨R, hR⟩ := xE (Zj (fun a => (sub a).go fun x a => V3 ts (Uq k) sub (f + 1) x a) S)
 rw [<- hR]
 rw [<- hL] at hR Mn HO
 have HLn : xQ (L.length <= 6) := by
  have hh : k = 0 ∨ k = 1 ∨ k = 3 ∨ k = 4 ∨ k = 5 := by omega
  rw [hL]
  rcases hh with rfl | rfl | rfl | rfl | rfl <;> (show (Uq _).length <= 6; decide)
 have Qn := Za hR
 have hLl := HLn.o
 clear hP h X0 hR hL hu ok
 go_enter func122, ntmps122
 go_wp2_with fail
 refine (HP.o _ _ Mn.o.at_).mono ?_
 rintro e w1 ⟨Zb, Zd, x0, rfl, hv⟩
 obtain ⟨R1, Xb⟩ := xE (Zj sub S)
 rw [<- Xb] at Zd hv
 have X1 := Za ((Mn.o.step Zb Zd).alloc x0.obj)
 have Xx := Zb.size
 simp only [xS] at Xx hv
 obtain ⟨nb, Wb⟩ := xE w1.heap.size
 have N5 : xQ (K2 ts L sub R (w.heap.size + 1) nb (Zf R1) (w1.alloc x0.obj) x0 0 (ts.length * (L.length + 1) + L.length)) := by
  cases S with
  | inr p => exact .inr ⟨p, by rw [Xb]; rfl, Qn.o, by omega⟩
  | inl a =>
   have e1 : R1 = sub a := Xb
   have e2 : R = (sub a).go fun x a => V3 ts L sub (f + 1) x a := Qn.o
   rw [<- e1] at e2
   cases hs : R1 with
   | inr p => exact .inr ⟨p, rfl, by rw [e2, hs]; rfl, by omega⟩
   | inl q =>
    obtain ⟨D, b⟩ := q;refine .inl ⟨b, f, D, rfl, by rw [e2, hs]; rfl, by omega, (fun j _ hj => absurd hj (Nat.not_lt_zero _)), ?_, ?_⟩
    ·rw [Wb]
     exact I2 ((hv D b hs).lower (by omega)) _
    ·have : (ts.length - b) * (L.length + 1) <= ts.length * (L.length + 1) := Nat.mul_le_mul_right _ (Nat.sub_le _ _)
     omega
 rw [<- Wb] at X1 Xx
 clear Zb Zd hv Xb Qn Mn
 go_wp2_with fail
 rw [<- Wb]
 clear Wb
 obtain ⟨ob, hob⟩ := xE (w.heap.size + 1 + 1 + 1 + 1 + 1 + 1 + 1)
 rw [<- hob] at X1 HO ⊢
 have hob1 : w.heap.size + 7 = ob := by omega
 rw [hob1] at hgb2
 have hobn : ob < nb := by omega
 have hwob : w.heap.size + 1 <= ob := by omega
 clear hob hob1 Xx
 go_loopg [7] (ts.length * (L.length + 1) + L.length) (fun gk v wr => ∃ (S : Ya) (i : Nat) (y : NV), v = .int .i64 i /\ i <= L.length /\ xQ (RX pb tb cap ts w wr d S [(nb, y.obj), (w.heap.size, Zi.obj), (ob, L4 w.heap.size), (gb, Wj L)]) /\ xQ (K2 ts L sub R (w.heap.size + 1) nb S wr y i gk))
 case atStart => exact ⟨_, 0, x0, rfl, xZ _, X1, N5⟩
 case round =>
  clear X1 N5;obtain ⟨S', i, y, rfl, hi, X, HI⟩ := hrel;have c0 := HO.o wr (X.o.box (p := (ob, L4 w.heap.size)) (by simp));have hlob := xB (X.o.box (p := (ob, L4 w.heap.size)) (by simp));by_cases Zo : i < L.length
  ·have B4 : (i : Int) < (L.length : Int) := by omega
   go_wp2_with fail;refine (Am pb tb cap d ts S' 14 _ X.o.at_).mono ?_;rintro e w2 ⟨li, co, rfl, Nf, Zb, Zd⟩;have X2 := Za ((X.o.step Zb Zd).alloc (Yc 14 li co).obj);have Y0 := xB (X.o.box (p := (nb, y.obj)) (by simp));have hp := X.o.hp
   have HF2 : xQ (∀ b, w.heap.size + 1 <= b -> b < wr.heap.size -> (w2.alloc (Yc 14 li co).obj).heap[b]? = wr.heap[b]?) := fun b h1 h2 => (xA (xT h2 Zb.size)).trans (Zb.keep b (by omega) h2)
   have HbT : xQ (∀ b, S' = .inl b -> b < ts.length) := fun b e => by
    obtain ⟨a, ha⟩ := Zd;have := ha.live b e;have := ha.lt;omega
   have Pz := Za Nf;have Wc := Zb.size;clear Zb Zd Nf X;have c1 := HO.o _ (X2.o.box (p := (ob, L4 w.heap.size)) (by simp));have c2 := Cf (X2.o.box (p := (gb, Wj L)) (by simp)) Zo;have hlg := xB (X2.o.box (p := (gb, Wj L)) (by simp));have Tj := xB (X2.o.box (p := (ob, L4 w.heap.size)) (by simp))
   have P3 : xQ (w2.heap.size < (w2.alloc (Yc 14 li co).obj).heap.size) := by show _ < _; rw [xS]; omega
   go_wp2_with fail;obtain ⟨mb, Nw⟩ := xE w2.heap.size;rw [<- Nw] at X2 Wc P3 ⊢;clear Nw;generalize w2.alloc (.cells #[.int .i64 14, .string ⟨#[]⟩, .int .i64 0, .int .i64 li, .int .i64 co, .slice none 0 0, .slice none 0 0, .slice none 0 0] 38) = W2 at X2 HF2 c1 c2 hlg Tj P3 ⊢
   have hnm : nb < mb := by omega
   refine (Wq pb tb cap d ts S' L[i] W2 X2.o.at_ OK.o).mono ?_;rintro e w3 ⟨rfl, Zb, Zd⟩;have X3 := Za (X2.o.step Zb Zd);have hnl2 := xB (X2.o.box (p := (nb, y.obj)) (by simp))
   have Tw : xQ (∀ b, w.heap.size + 1 <= b -> b < wr.heap.size -> w3.heap[b]? = wr.heap[b]?) := fun b h1 h2 => (Zb.keep b (by omega) (by have := P3.o; omega)).trans (HF2.o b h1 h2)
   have Wt : xQ (mb < w3.heap.size) := xT P3.o Zb.size;clear Zb Zd X2 HF2 c0 c1 c2 hlg Tj
   cases hs : Yw ts S' L[i] with
   | false =>
    rw [hs, if_neg (by simp)] at X3;obtain ⟨g', Pg, Jf⟩ := (HI.o.keep (wr' := w3) fun x hx => hx.keep Y0 (by have := Wc; have := Wt.o; omega) fun b h1 h2 _ => Tw.o b h1 h2).next Zo hs;have HN := Za Jf;clear hs Jf;go_wp2_with fail
    go_roundg g'
    case measure => exact Pg
    case rel => exact ⟨S', i + 1, y, by go_num, by omega, X3.o.perm (by simp), HN⟩
   | true =>
    rw [hs, if_pos rfl] at X3;obtain ⟨b, x, Qg, hx, Ts, hor⟩ := HI.o.seen Zo hs HU.o;have HX := Za hx;have HOr := Za hor;obtain ⟨hl, hc⟩ := Pz.o b Qg;have Xf := Za (And.intro hl hc);have HSb := Za Qg;have HGK := Za Ts;have HC := Za (HP.o _ _ X3.o.at_)
    have e4 : Zj sub (Ph S') = sub (b + 1) := by rw [Qg]; rfl
    rw [e4] at HC;have hbT := HbT.o b Qg;clear hs hx hor hl hc Qg Ts e4 Pz HI;obtain ⟨s, Hk⟩ := xE (L[i]);have HSL := Za Hk
    have HTX : xQ (∀ W : World, W.heap[gb]? = some (Wj L) -> W.cell? ⟨gb, i, none⟩ = some (.string ⟨s.toArray⟩)) := fun W hW => by rw [Hk]; exact Cf hW Zo
    rw [<- Hk];clear Hk;go_wp2_with fail;refine HC.o.mono ?_;rintro e w4 ⟨Zb, Zd, z, rfl, hv⟩;have X4 := Za (X3.o.step Zb Zd);have hnl3 := xB (X3.o.box (p := (nb, y.obj)) (by simp))
    have Ml : xQ (∀ b, w.heap.size + 1 <= b -> b < wr.heap.size -> w4.heap[b]? = wr.heap[b]?) := fun b h1 h2 => (Zb.keep b (by omega) (by have := Wt.o; omega)).trans (Tw.o b h1 h2)
    have HLv : xQ (∀ D2 b2, sub (b + 1) = .inl (D2, b2) -> b2 < ts.length) := fun D2 b2 e => by
     obtain ⟨a, ha⟩ := Zd;have := ha.live b2 (by rw [e]; rfl);have := ha.lt;omega
    have HZ4 : xQ (Xo (mb + 1) w4 z (sub (b + 1))) := hv.lower (xB (X3.o.box (p := (mb, (Yc 14 li co).obj)) (by simp)));have hm4 := xB (X4.o.box (p := (mb, (Yc 14 li co).obj)) (by simp));clear Zb Zd hv HC X3;obtain ⟨⟨n0, n1, n2, n3, n4, n5, n6, n7⟩, ⟨f0, f1, f2, f3, f4, f5, f6, f7⟩, Rg⟩ := Zm (X4.o.box (p := (nb, y.obj)) (by simp));obtain ⟨⟨m0, m1, m2, m3, m4, m5, m6, m7⟩, ⟨g0, g1, g2, g3, g4, g5, g6, g7⟩, Gs⟩ := Zm (X4.o.box (p := (mb, (Yc 14 li co).obj)) (by simp))
    have c1 := HO.o w4 (X4.o.box (p := (ob, L4 w.heap.size)) (by simp));have c2 := HTX.o w4 (X4.o.box (p := (gb, Wj L)) (by simp));have hlg := xB (X4.o.box (p := (gb, Wj L)) (by simp));have Tj := xB (X4.o.box (p := (ob, L4 w.heap.size)) (by simp))
    have Vq : ¬ mb = nb := by omega
    have Wl : ¬ nb = mb := by omega
    have Hi : ¬ gb = mb := by omega
    have Fr : ¬ ob = mb := by omega
    go_wp2_with fail;obtain ⟨Wf, Zs⟩ := xE ((((((((((((w4.setCell ⟨mb, 1, none⟩ (.string ⟨s.toArray⟩)).setCell ⟨mb, 7, none⟩ (.slice (some ⟨w4.heap.size + 1, 0, none⟩) 2 2)).setCell ⟨nb, 0, none⟩ (.int .i64 14)).setCell ⟨nb, 1, none⟩ (.string ⟨s.toArray⟩)).setCell ⟨nb, 2, none⟩ (.int .i64 0)).setCell ⟨nb, 3, none⟩ (.int .i64 li)).setCell ⟨nb, 4, none⟩ (.int .i64 co)).setCell ⟨nb, 5, none⟩ (.slice none 0 0)).setCell ⟨nb, 6, none⟩ (.slice none 0 0)).setCell ⟨nb, 7, none⟩ (.slice (some ⟨w4.heap.size + 1, 0, none⟩) 2 2)).alloc (.cells #[.int .i64 z.k, .string z.tx, .int .i64 z.N, .int .i64 z.li, .int .i64 z.co, .slice z.ta z.tl z.tc, .slice z.na z.nl z.nc, .slice z.ka z.kl z.kc] 38)).alloc (.cells #[.int .i64 y.k, .string y.tx, .int .i64 y.N, .int .i64 y.li, .int .i64 y.co, .slice y.ta y.tl y.tc, .slice y.na y.nl y.nc, .slice y.ka y.kl y.kc, .int .i64 z.k, .string z.tx, .int .i64 z.N, .int .i64 z.li, .int .i64 z.co, .slice z.ta z.tl z.tc, .slice z.na z.nl z.nc, .slice z.ka z.kl z.kc] 38))
    have Uk : (put8 ((w4.setCell ⟨mb, 1, none⟩ (.string ⟨s.toArray⟩)).setCell ⟨mb, 7, none⟩ (.slice (some ⟨w4.heap.size + 1, 0, none⟩) 2 2)) nb ⟨14, ⟨s.toArray⟩, 0, li, co, none, 0, 0, none, 0, 0, some ⟨w4.heap.size + 1, 0, none⟩, 2, 2⟩).heap.size = w4.heap.size := by rw [Q3, Ye, Ye]
    have Zw : xQ (RX pb tb cap ts w Wf d (Zf (sub (b + 1))) [(nb, NV.obj ⟨14, ⟨s.toArray⟩, 0, li, co, none, 0, 0, none, 0, 0, some ⟨w4.heap.size + 1, 0, none⟩, 2, 2⟩), (w.heap.size, Zi.obj), (ob, L4 w.heap.size), (gb, Wj L)]) := by
     have h1 := (X4.o.perm (bx' := [(nb, y.obj), (w.heap.size, Zi.obj), (ob, L4 w.heap.size), (gb, Wj L)]) (by simp))
     have h2 := ((h1.far (c := mb) (by omega) (by simp; omega) 1 (.string ⟨s.toArray⟩)).far (c := mb) (by omega) (by simp; omega) 7 (.slice (some ⟨w4.heap.size + 1, 0, none⟩) 2 2))
     rw [Zs];exact (((h2.put8 (by simp; omega) ⟨14, ⟨s.toArray⟩, 0, li, co, none, 0, 0, none, 0, 0, some ⟨w4.heap.size + 1, 0, none⟩, 2, 2⟩).alloc z.obj).drop.alloc (Mh y z)).drop
    have Y6 : ∀ c, c ≠ nb -> c ≠ mb -> c < w4.heap.size -> Wf.heap[c]? = w4.heap[c]? := fun c h1 h2 h3 => by
     rw [Zs];exact (xA (by rw [xS, Uk]; omega)).trans ((xA (by rw [Uk]; exact h3)).trans ((U0 (x := ⟨14, ⟨s.toArray⟩, 0, li, co, none, 0, 0, none, 0, 0, some ⟨w4.heap.size + 1, 0, none⟩, 2, 2⟩) h1).trans ((xH h2).trans (xH h2))))
    have Yu : Wf.heap[w4.heap.size + 1]? = some (Mh y z) := by
     have := Ti (put8 ((w4.setCell ⟨mb, 1, none⟩ (.string ⟨s.toArray⟩)).setCell ⟨mb, 7, none⟩ (.slice (some ⟨w4.heap.size + 1, 0, none⟩) 2 2)) nb ⟨14, ⟨s.toArray⟩, 0, li, co, none, 0, 0, none, 0, 0, some ⟨w4.heap.size + 1, 0, none⟩, 2, 2⟩) z.obj (Mh y z);rw [Uk] at this;rw [Zs];exact this
    have Ue : w4.heap.size + 2 = Wf.heap.size := by rw [Zs, xS, xS]; simp only [Ye]
    have HLF : xQ (∃ g', g' < gk /\ K2 ts L sub R (w.heap.size + 1) nb (Zf (sub (b + 1))) Wf ⟨14, ⟨s.toArray⟩, 0, li, co, none, 0, 0, none, 0, 0, some ⟨w4.heap.size + 1, 0, none⟩, 2, 2⟩ 0 g') := by
     have Ts := HGK.o;rcases HOr.o with ⟨D2, b2, h1, h2, h3⟩ | ⟨er, h1, h2⟩
     ·have Z0 := HLv.o D2 b2 h1
      obtain ⟨m, h4, h5⟩ := h3 Z0;have hmul : (ts.length - b2 + 1) * (L.length + 1) <= (ts.length - b) * (L.length + 1) := Nat.mul_le_mul_right _ (by omega);rw [Nat.succ_mul] at hmul;refine ⟨(ts.length - b2) * (L.length + 1) + L.length, by omega, .inl ⟨b2, m, _, by rw [h1]; rfl, h4, by omega, (fun j _ hj => absurd hj (Nat.not_lt_zero _)), fun o => ?_, by omega⟩⟩
      have hy : Xj (w.heap.size + 1) nb Wf y x := HX.o.keep Y0 (by omega) fun c h6 h7 h8 => (Y6 c h8 (by omega) (by omega)).trans (Ml.o c h6 h7)
      have hz : Xj (w.heap.size + 1) nb Wf z D2 := I1 (lo' := mb + 1) ((HZ4.o D2 b2 h1).keep (by omega) fun c h6 h7 => Y6 c (by omega) (by omega) h7) (by omega) (by omega);have := Jn (kb := w4.heap.size + 1) (hy o) (hz o) ((Gh o (by omega)).trans Yu) (by omega) ⟨14, ⟨s.toArray⟩, 0, li, co, none, 0, 0, none, 0, 0, some ⟨w4.heap.size + 1, 0, none⟩, 2, 2⟩ [] [] ⟨rfl, rfl⟩ ⟨rfl, xZ _, 0, .inl rfl⟩ ⟨rfl, xZ _, .inl rfl⟩
      rw [<- HSL.o, <- Xf.o.1, <- Xf.o.2];exact this
     ·have hmul : 1 * (L.length + 1) <= (ts.length - b) * (L.length + 1) := Nat.mul_le_mul_right _ (by omega)
      exact ⟨L.length, by omega, .inr ⟨er, by rw [h1]; rfl, h2, by omega⟩⟩
    rw [<- Zs];clear Zs Yu Y6 Ue Uk;obtain ⟨g', Pg, hL⟩ := HLF.o
    go_roundg g'
    case measure => exact Pg
    case rel => exact ⟨_, 0, _, rfl, xZ _, Zw, hL⟩
  ·have B4 : ¬ (i : Int) < (L.length : Int) := by omega
   obtain ⟨n8, _, Y0⟩ := Zm (X.o.box (p := (nb, y.obj)) (by simp));obtain ⟨n0, n1, n2, n3, n4, n5, n6, n7⟩ := n8;obtain ⟨⟨r0, r1, r2, r3, r4, r5, r6, r7⟩, ⟨f0, f1, f2, f3, f4, f5, f6, f7⟩, Yn⟩ := Zm (X.o.box (p := (w.heap.size, Zi.obj)) (by simp))
   have Z3 : ¬ nb = w.heap.size := by omega
   have HD := Za (HI.o.done (by omega));have hp := X.o.hp;go_wp2_with fail;refine r38 rfl rfl (Xn (x := y) (X.o.box (p := (w.heap.size, Zi.obj)) (by simp))) rfl ⟨Wg X.o.st hp (xR) y, ?_, y, rfl, fun D b e => ?_⟩
   ·rw [HD.o.1]
    exact (RX.put8 (X.o.perm (bx' := [(w.heap.size, Zi.obj)]) (by simp)) (by simp) y).at_
   ·exact (((HD.o.2 D b e).now Y0).put8 (xU _) y).lower (Nat.le_succ _)
theorem RX.setB {pb tb cap d b : Nat} {ts : List Tok} {w0 w : World} {S : Ya} {bx : List (Nat × Obj)} {cs : Array Value} {t : TypeId} (h : RX pb tb cap ts w0 w d S ((b, .cells cs t) :: bx)) (Uy : ∀ p ∈ bx, p.1 ≠ b) (o : Nat) (u : Value) : RX pb tb cap ts w0 (w.setCell ⟨b, o, none⟩ u) d S ((b, .cells (cs.setIfInBounds o u) t) :: bx) := by
 have hb := (h.has _ (xM)).2
 have hp := h.hp
 refine ⟨h.st.own hp hb o _, h.at_.other (xT hp hb) o _, hp, fun p Uj => ?_⟩
 rcases List.mem_cons.1 Uj with rfl | Uj
 ·exact ⟨Xe (h.box (xM)), hb⟩
 ·exact ⟨(xH (Uy p Uj)).trans (h.box (xW _ Uj)), (h.has p (xW _ Uj)).2⟩
theorem kids1 {lo g : Nat} {w : World} {k : Int} {nm : ByteArray} {na : Option Addr} {nl nc : Nat} {ka : Option Addr} {kl kc : Nat} {D : Ty} (h : Yb lo w (.agg #[.int .i64 k, .string nm, .slice na nl nc, .slice ka kl kc]) D) (hg : w.heap[g]? = some (Z5 k nm na nl nc ka kl kc)) (hl : lo <= g) : ∃ m, Ut w lo m (some ⟨g, 0, none⟩) [D] := by
 obtain ⟨m, h⟩ := h
 refine ⟨m, .inr ⟨g, 0, rfl, hl, ⟨_, _, hg⟩, fun i hi => ?_⟩⟩
 match i, hi with
 | 0, _ => exact ⟨_, _, _, _, by rw [cell_of_row _ _ _ _ _ _ hg]; rfl, by rw [cell_of_row _ _ _ _ _ _ hg]; rfl, by rw [cell_of_row _ _ _ _ _ _ hg]; rfl, by rw [cell_of_row _ _ _ _ _ _ hg]; rfl, h⟩
def Uh : List (List UInt8) := [[60], [60, 61], [61, 61]]
def Fl (ts : List Tok) (K sub : Nat -> Pr Ty) (x : Ty) (a : Nat) : Pr Ty := match Uh.find? (Zh ts a) with
 | some s => (sub (a + 1)).go fun y b => .inl (Zn 14 s 0 (Yg ts a) (Yf ts a) [] [] [x, y], b)
 | none =>
  if Zh ts a [97, 115] then (K (a + 1)).go fun t b => .inl (Zn 13 [] 0 (Yg ts a) (Yf ts a) [t] [] [x], b)
  else if Zh ts a [105, 115] then match Us.findIdx? (Zh ts (a + 1)) with
   | some i => .inl (Zn 12 [] i (Yg ts a) (Yf ts a) [] [] [x], a + 2)
   | none => Wa ts 7 (a + 1)
  else .inl (x, a)
theorem bR {ts : List Tok} {K sub : Nat -> Pr Ty} {x : Ty} {b i : Nat} (hi : i < Uh.length) (h1 : ∀ j (_ : j < Uh.length), j < i -> Zh ts b Uh[j] = false) (h2 : Zh ts b Uh[i] = true) : Fl ts K sub x b = (sub (b + 1)).go fun y c => .inl (Zn 14 Uh[i] 0 (Yg ts b) (Yf ts b) [] [] [x, y], c) := by
 have : Uh.find? (Zh ts b) = some Uh[i] := by
  rw [List.find?_eq_some_iff_getElem];refine ⟨h2, i, hi, rfl, fun j hj => ?_⟩;rw [h1 j (by omega) hj];rfl
 unfold Fl
 rw [this]
theorem Oz {ts : List Tok} {b : Nat} (h : ∀ j (_ : j < Uh.length), Zh ts b Uh[j] = false) : Uh.find? (Zh ts b) = none := by
 rw [List.find?_eq_none]
 intro t ht
 obtain ⟨j, hj, rfl⟩ := List.mem_iff_getElem.1 ht
 rw [h j hj]
 simp
theorem rcmp_c (pb tb cap d : Nat) (ts : List Tok) (ok : Yh ts) (K sub : Nat -> Pr Ty)
  (hK : ∀ S w, Z2 w pb tb cap ts d S -> Calls prog 77 #[pP pb] w (Pq pb tb cap ts d w (Zj K S)))
  (hP : ∀ S w, Z2 w pb tb cap ts d S -> Calls prog 122 #[pP pb, .int .i64 3] w (Vh pb tb cap ts d w (Zj sub S)))
  (S : Ya) (w : World) (h : Z2 w pb tb cap ts d S) :
  Calls prog 145 #[pP pb] w (Vh pb tb cap ts d w (Zj (K5 ts K sub) S)) := by
 have HK := Za hK
 have HP := Za hP
 have OK := Za ok
 have X0 := Za (Lc h Zi.obj)
 obtain ⟨R, hR⟩ := xE (Zj (K5 ts K sub) S)
 obtain ⟨R1, Xb⟩ := xE (Zj sub S)
 have HR : xQ (R = R1.go (Fl ts K sub)) := by
  rw [hR, Xb]
  cases S <;> rfl
 have V7 := Za (HP.o S _ X0.o.at_)
 rw [<- Xb] at V7
 rw [<- hR]
 clear hR Xb hK hP ok h
 go_enter func145, ntmps145
 go_wp2_with fail
 refine V7.o.mono ?_
 rintro e w1 ⟨Zb, Zd, x0, rfl, hv⟩
 have X1 := Za ((X0.o.step Zb Zd).alloc x0.obj)
 rw [xS] at hv
 have HV := Za hv
 have Xx := Zb.size
 rw [xS] at Xx
 clear Zb Zd hv X0 V7
 go_wp2_with fail
 have HF1 : xQ (∀ c, c < w1.heap.size -> (w1.alloc x0.obj).heap[c]? = w1.heap[c]?) := fun c hc => xA hc
 have Y7 : xQ (w1.heap.size < (w1.alloc x0.obj).heap.size) := by show _ < _; rw [xS]; omega
 obtain ⟨nb, Wb⟩ := xE w1.heap.size
 rw [<- Wb] at X1 Xx HF1 Y7 ⊢
 have P2 := Za Wb
 clear Wb
 generalize w1.alloc (.cells #[.int .i64 x0.k, .string x0.tx, .int .i64 x0.N, .int .i64 x0.li, .int .i64 x0.co, .slice x0.ta x0.tl x0.tc, .slice x0.na x0.nl x0.nc, .slice x0.ka x0.kl x0.kc] 38) = W1 at X1 HF1 Y7 ⊢
 refine (Am pb tb cap d ts (Zf R1) 14 _ X1.o.at_).mono ?_
 rintro e w2 ⟨li, co, rfl, Nf, Zb, Zd⟩
 have hp := X1.o.hp
 have X2 := Za (((X1.o.step Zb Zd).alloc (Yc 14 li co).obj).alloc (Wj Uh))
 rw [xS] at X2
 have Pz := Za Nf
 have Wc := Zb.size
 have HF2 : xQ (∀ c, w.heap.size + 1 <= c -> c < nb -> ((w2.alloc (Yc 14 li co).obj).alloc (Wj Uh)).heap[c]? = w1.heap[c]?) := fun c h1 h2 => (xA (by rw [xS]; have := Y7.o; omega)).trans ((xA (by have := Y7.o; omega)).trans ((Zb.keep c (by omega) (by have := Y7.o; omega)).trans (HF1.o c h2)))
 clear Zb Zd Nf X1 HF1
 go_wp2_with fail
 obtain ⟨mb, Nw⟩ := xE w2.heap.size
 rw [<- Nw] at X2 Wc ⊢
 clear Nw
 obtain ⟨W2, B3⟩ := xE ((w2.alloc (.cells #[.int .i64 14, .string ⟨#[]⟩, .int .i64 0, .int .i64 li, .int .i64 co, .slice none 0 0, .slice none 0 0, .slice none 0 0] 38)).alloc (.cells #[.string ⟨#[60]⟩, .string ⟨#[60, 61]⟩, .string ⟨#[61, 61]⟩] 9))
 rw [<- B3]
 have X2' : xQ (RX pb tb cap ts w W2 d (Zf R1) [(mb + 1, Wj Uh), (mb, (Yc 14 li co).obj), (nb, x0.obj), (w.heap.size, Zi.obj)]) := by rw [B3]; exact X2.o
 have HF2' : xQ (∀ c, w.heap.size + 1 <= c -> c < nb -> W2.heap[c]? = w1.heap[c]?) := by rw [B3]; exact HF2.o
 clear B3 X2 HF2
 have hnm : nb < mb := by have := Y7.o; omega
 go_loopw [6] (fun v wr => ∃ i : Nat, v = .int .i64 i /\ i <= 3 /\ xQ (RX pb tb cap ts w wr d (Zf R1) [(mb + 1, Wj Uh), (mb, (Yc 14 li co).obj), (nb, x0.obj), (w.heap.size, Zi.obj)]) /\ xQ (∀ j (_ : j < Uh.length), j < i -> Yw ts (Zf R1) Uh[j] = false) /\ xQ (∀ c, w.heap.size + 1 <= c -> c < nb -> wr.heap[c]? = w1.heap[c]?)) (fun v _ => 3 - (intOf v).toNat)
 case atStart => exact ⟨0, rfl, by omega, X2', (fun _ _ h => absurd h (Nat.not_lt_zero _)), HF2'⟩
 case round =>
  clear X2' HF2';obtain ⟨i, rfl, hi, X, HN, HF⟩ := hrel;by_cases Zo : i < 3
  ·have B4 : (i : Int) < 3 := by omega
   have Bm : i < Uh.length := Zo;have c1 := Cf (X.o.box (p := (mb + 1, Wj Uh)) (by simp)) Bm;obtain ⟨s, Hk⟩ := xE (Uh[i]);rw [<- Hk] at c1;have HSL := Za Hk;have hlm := xB (X.o.box (p := (mb + 1, Wj Uh)) (by simp));clear Hk;go_wp2_with fail;refine (Wq pb tb cap d ts (Zf R1) s _ X.o.at_ OK.o).mono ?_;rintro e w3 ⟨rfl, Zb, Zd⟩;have X3 := Za (X.o.step Zb Zd)
   have Tw : xQ (∀ c, w.heap.size + 1 <= c -> c < nb -> w3.heap[c]? = w1.heap[c]?) := fun c h1 h2 => (Zb.keep c (by omega) (by omega)).trans (HF.o c h1 h2)
   clear Zb Zd X HF c1
   cases hs : Yw ts (Zf R1) s with
   | false =>
    rw [hs, if_neg (by simp)] at X3
    have Xz : xQ (∀ j (_ : j < Uh.length), j < i + 1 -> Yw ts (Zf R1) Uh[j] = false) := fun j h1 h2 => by
     by_cases e : j = i
     ·subst e; rw [<- HSL.o]; exact hs
     ·exact HN.o j h1 (by omega)
    clear hs HN;go_wp2_with fail;exact ⟨⟨i + 1, by go_num, by omega, X3, Xz, Tw⟩, by simp [intOf]; omega⟩
   | true =>
    rw [hs, if_pos rfl] at X3
    obtain ⟨x, b, Xb⟩ : ∃ x b, R1 = .inl (x, b) := by
     cases R1 with
     | inr p => cases hs
     | inl q => exact ⟨q.1, q.2, rfl⟩
    have Yr : xQ (R = (sub (b + 1)).go fun y c => .inl (Zn 14 s 0 (Yg ts b) (Yf ts b) [] [] [x, y], c)) := by
     rw [HR.o, Xb]
     have hn : ∀ j (_ : j < Uh.length), j < i -> Zh ts b Uh[j] = false := fun j h1 h2 => by
      have := HN.o j h1 h2;rw [Xb] at this;exact this
     have hse : Zh ts b Uh[i] = true := by
      rw [Xb] at hs;rw [<- HSL.o];exact hs
     rw [HSL.o];exact bR Bm hn hse
    obtain ⟨hl, hc⟩ := Pz.o b (by rw [Xb]; rfl);have Xf := Za (And.intro hl hc);have HVx := Za (HV.o x b Xb);have HC := Za (HP.o _ _ X3.o.at_)
    have e4 : Zj sub (Ph (Zf R1)) = sub (b + 1) := by rw [Xb]; rfl
    rw [e4] at HC;clear hs hl hc e4 Pz HN Xb HR HV;go_wp2_with fail;refine HC.o.mono ?_;rintro e w4 ⟨Zb, Zd, z, rfl, hv⟩;have X4 := Za (X3.o.step Zb Zd)
    have Ml : xQ (∀ c, w.heap.size + 1 <= c -> c < nb -> w4.heap[c]? = w1.heap[c]?) := fun c h1 h2 => (Zb.keep c (by omega) (by have := xB (X3.o.box (p := (mb, (Yc 14 li co).obj)) (by simp)); omega)).trans (Tw.o c h1 h2)
    have HZ4 : xQ (Xo (mb + 2) w4 z (sub (b + 1))) := hv.lower (xB (X3.o.box (p := (mb + 1, Wj Uh)) (by simp)));clear Zb Zd hv HC X3 Tw;obtain ⟨⟨n0, n1, n2, n3, n4, n5, n6, n7⟩, _, Rg⟩ := Zm (X4.o.box (p := (nb, x0.obj)) (by simp));obtain ⟨⟨m0, m1, m2, m3, m4, m5, m6, m7⟩, ⟨g0, g1, g2, g3, g4, g5, g6, g7⟩, Gs⟩ := Zm (X4.o.box (p := (mb, (Yc 14 li co).obj)) (by simp));obtain ⟨⟨r0, r1, r2, r3, r4, r5, r6, r7⟩, ⟨f0, f1, f2, f3, f4, f5, f6, f7⟩, hr4⟩ := Zm (X4.o.box (p := (w.heap.size, Zi.obj)) (by simp))
    have c2 := Cf (X4.o.box (p := (mb + 1, Wj Uh)) (by simp)) Bm;rw [<- HSL.o] at c2;have hlg := xB (X4.o.box (p := (mb + 1, Wj Uh)) (by simp))
    have Vq : ¬ mb = nb := by omega
    have Wl : ¬ nb = mb := by omega
    have Hi : ¬ mb + 1 = mb := by omega
    have Gt : ¬ mb = w.heap.size := by omega
    have H4 : ¬ nb = w.heap.size := by omega
    have Dl : ¬ w.heap.size = mb := by omega
    go_wp2_with fail;obtain ⟨Wf, Zs⟩ := xE ((((((((((((w4.setCell ⟨mb, 1, none⟩ (.string ⟨s.toArray⟩)).setCell ⟨mb, 7, none⟩ (.slice (some ⟨w4.heap.size + 1, 0, none⟩) 2 2)).setCell ⟨w.heap.size, 0, none⟩ (.int .i64 14)).setCell ⟨w.heap.size, 1, none⟩ (.string ⟨s.toArray⟩)).setCell ⟨w.heap.size, 2, none⟩ (.int .i64 0)).setCell ⟨w.heap.size, 3, none⟩ (.int .i64 li)).setCell ⟨w.heap.size, 4, none⟩ (.int .i64 co)).setCell ⟨w.heap.size, 5, none⟩ (.slice none 0 0)).setCell ⟨w.heap.size, 6, none⟩ (.slice none 0 0)).setCell ⟨w.heap.size, 7, none⟩ (.slice (some ⟨w4.heap.size + 1, 0, none⟩) 2 2)).alloc (.cells #[.int .i64 z.k, .string z.tx, .int .i64 z.N, .int .i64 z.li, .int .i64 z.co, .slice z.ta z.tl z.tc, .slice z.na z.nl z.nc, .slice z.ka z.kl z.kc] 38)).alloc (.cells #[.int .i64 x0.k, .string x0.tx, .int .i64 x0.N, .int .i64 x0.li, .int .i64 x0.co, .slice x0.ta x0.tl x0.tc, .slice x0.na x0.nl x0.nc, .slice x0.ka x0.kl x0.kc, .int .i64 z.k, .string z.tx, .int .i64 z.N, .int .i64 z.li, .int .i64 z.co, .slice z.ta z.tl z.tc, .slice z.na z.nl z.nc, .slice z.ka z.kl z.kc] 38))
    rw [<- Zs]
    have Uk : (put8 ((w4.setCell ⟨mb, 1, none⟩ (.string ⟨s.toArray⟩)).setCell ⟨mb, 7, none⟩ (.slice (some ⟨w4.heap.size + 1, 0, none⟩) 2 2)) w.heap.size ⟨14, ⟨s.toArray⟩, 0, li, co, none, 0, 0, none, 0, 0, some ⟨w4.heap.size + 1, 0, none⟩, 2, 2⟩).heap.size = w4.heap.size := by rw [Q3, Ye, Ye]
    have Zw : xQ (RX pb tb cap ts w Wf d (Zf (sub (b + 1))) [(w.heap.size, NV.obj ⟨14, ⟨s.toArray⟩, 0, li, co, none, 0, 0, none, 0, 0, some ⟨w4.heap.size + 1, 0, none⟩, 2, 2⟩)]) := by
     have h1 := (X4.o.perm (bx' := [(w.heap.size, Zi.obj)]) (by simp))
     have h2 := ((h1.far (c := mb) (by omega) (by simp; omega) 1 (.string ⟨s.toArray⟩)).far (c := mb) (by omega) (by simp; omega) 7 (.slice (some ⟨w4.heap.size + 1, 0, none⟩) 2 2))
     rw [Zs];exact (((h2.put8 (by simp) ⟨14, ⟨s.toArray⟩, 0, li, co, none, 0, 0, none, 0, 0, some ⟨w4.heap.size + 1, 0, none⟩, 2, 2⟩).alloc z.obj).drop.alloc (Mh x0 z)).drop
    have Y6 : ∀ c, c ≠ w.heap.size -> c ≠ mb -> c < w4.heap.size -> Wf.heap[c]? = w4.heap[c]? := fun c h1 h2 h3 => by
     rw [Zs];exact (xA (by rw [xS, Uk]; omega)).trans ((xA (by rw [Uk]; exact h3)).trans ((U0 (x := ⟨14, ⟨s.toArray⟩, 0, li, co, none, 0, 0, none, 0, 0, some ⟨w4.heap.size + 1, 0, none⟩, 2, 2⟩) h1).trans ((xH h2).trans (xH h2))))
    have Yu : Wf.heap[w4.heap.size + 1]? = some (Mh x0 z) := by
     have := Ti (put8 ((w4.setCell ⟨mb, 1, none⟩ (.string ⟨s.toArray⟩)).setCell ⟨mb, 7, none⟩ (.slice (some ⟨w4.heap.size + 1, 0, none⟩) 2 2)) w.heap.size ⟨14, ⟨s.toArray⟩, 0, li, co, none, 0, 0, none, 0, 0, some ⟨w4.heap.size + 1, 0, none⟩, 2, 2⟩) z.obj (Mh x0 z);rw [Uk] at this;rw [Zs];exact this
    have Ue : w4.heap.size + 2 = Wf.heap.size := by rw [Zs, xS, xS]; simp only [Ye]
    clear Zs;refine r38 rfl rfl (Zw.o.box (p := (w.heap.size, NV.obj ⟨14, ⟨s.toArray⟩, 0, li, co, none, 0, 0, none, 0, 0, some ⟨w4.heap.size + 1, 0, none⟩, 2, 2⟩)) (by simp)) rfl ⟨Zw.o.st, ?_, ⟨14, ⟨s.toArray⟩, 0, li, co, none, 0, 0, none, 0, 0, some ⟨w4.heap.size + 1, 0, none⟩, 2, 2⟩, rfl, fun D c e => ?_⟩
    ·have := Zw.o.at_
     rw [Yr.o]
     cases Ws : sub (b + 1) with
     | inr q => rw [Ws] at this; exact this
     | inl q => rw [Ws] at this; exact this
    ·rw [Yr.o] at e
     cases Ws : sub (b + 1) with
     | inr q => rw [Ws] at e; cases e
     | inl q =>
      obtain ⟨D2, b2⟩ := q;rw [Ws] at e;injection e with e;injection e with e _;rw [<- e]
      have hx : Yi (w.heap.size + 1) Wf x0 x := HVx.o.keep (by have := P2.o; omega) fun c h6 h7 => (Y6 c (by omega) (by have := P2.o; omega) (by have := P2.o; omega)).trans (Ml.o c h6 (by have := P2.o; omega))
      have hz : Yi (w.heap.size + 1) Wf z D2 := ((HZ4.o D2 b2 Ws).keep (by omega) fun c h6 h7 => Y6 c (by omega) (by omega) h7).lower (by omega);have := Jn (kb := w4.heap.size + 1) hx hz Yu (by omega) ⟨14, ⟨s.toArray⟩, 0, li, co, none, 0, 0, none, 0, 0, some ⟨w4.heap.size + 1, 0, none⟩, 2, 2⟩ [] [] ⟨rfl, rfl⟩ ⟨rfl, xZ _, 0, .inl rfl⟩ ⟨rfl, xZ _, .inl rfl⟩;rw [<- Xf.o.1, <- Xf.o.2];exact this.lower (Nat.le_succ _)
  ·have B4 : ¬ (i : Int) < 3 := by omega
   have HNn : xQ (∀ j (_ : j < Uh.length), Yw ts (Zf R1) Uh[j] = false) := fun j h1 => HN.o j h1 (by have : Uh.length = 3 := rfl; omega)
   obtain ⟨⟨n0, n1, n2, n3, n4, n5, n6, n7⟩, _, Rg⟩ := Zm (X.o.box (p := (nb, x0.obj)) (by simp));obtain ⟨⟨m0, m1, m2, m3, m4, m5, m6, m7⟩, ⟨g0, g1, g2, g3, g4, g5, g6, g7⟩, Gs⟩ := Zm (X.o.box (p := (mb, (Yc 14 li co).obj)) (by simp))
   have Wl : ¬ nb = mb := by omega
   clear HN;have hlw := X.o.st.size;have hkbl : nb < wr.heap.size := Rg;go_wp2_with fail;obtain ⟨W5, hW5⟩ := xE ((wr.setCell ⟨mb, 7, none⟩ (.slice (some ⟨wr.heap.size, 0, none⟩) 1 1)).alloc (.cells #[.int .i64 x0.k, .string x0.tx, .int .i64 x0.N, .int .i64 x0.li, .int .i64 x0.co, .slice x0.ta x0.tl x0.tc, .slice x0.na x0.nl x0.nc, .slice x0.ka x0.kl x0.kc] 38));rw [<- hW5];obtain ⟨kb, Wv⟩ := xE wr.heap.size
   have X5 : xQ (RX pb tb cap ts w W5 d (Zf R1) [(mb, NV.obj ⟨14, ⟨#[]⟩, 0, li, co, none, 0, 0, none, 0, 0, some ⟨kb, 0, none⟩, 1, 1⟩), (nb, x0.obj), (w.heap.size, Zi.obj), (kb, x0.obj)]) := by
    have h1 := (X.o.perm (bx' := [(mb, (Yc 14 li co).obj), (nb, x0.obj), (w.heap.size, Zi.obj)]) (by simp)).setB (by simp; omega) 7 (.slice (some ⟨wr.heap.size, 0, none⟩) 1 1);have h2 := h1.alloc x0.obj;rw [Ye] at h2;rw [hW5, Wv];exact h2.perm (by simp)
   have HF5 : xQ (∀ c, w.heap.size + 1 <= c -> c < nb -> W5.heap[c]? = w1.heap[c]?) := fun c h1 h2 => by
    rw [hW5];exact (xA (by rw [Ye]; omega)).trans ((xH (by show c ≠ mb; omega)).trans (HF.o c h1 h2))
   rw [<- Wv]
   have hmk : mb < kb := by omega
   have hnk : nb < kb := by omega
   clear hW5 Wv X HF n0 n1 n2 n3 n4 n5 n6 n7 m0 m1 m2 m3 m4 m5 m6 m7 g0 g1 g2 g3 g4 g5 g6 g7 Rg Gs hlw hkbl;refine (Wq pb tb cap d ts (Zf R1) [97, 115] _ X5.o.at_ OK.o).mono ?_;rintro e w6 ⟨rfl, Zb, Zd⟩;have X6 := Za (X5.o.step Zb Zd)
   have HF6 : xQ (∀ c, w.heap.size + 1 <= c -> c < nb -> w6.heap[c]? = w1.heap[c]?) := fun c h1 h2 => (Zb.keep c (by omega) (by have := xB (X5.o.box (p := (nb, x0.obj)) (by simp)); omega)).trans (HF5.o c h1 h2)
   clear Zb Zd X5 HF5
   cases hs : Yw ts (Zf R1) [97, 115] with
   | true =>
    rw [hs, if_pos rfl] at X6
    obtain ⟨x, b, Xb⟩ : ∃ x b, R1 = .inl (x, b) := by
     cases R1 with
     | inr p => cases hs
     | inl q => exact ⟨q.1, q.2, rfl⟩
    have Yr : xQ (R = (K (b + 1)).go fun t c => .inl (Zn 13 [] 0 (Yg ts b) (Yf ts b) [t] [] [x], c)) := by
     rw [HR.o, Xb];rw [Xb] at hs;show Fl ts K sub x b = _;unfold Fl;rw [Oz fun j h1 => by have := HNn.o j h1; rw [Xb] at this; exact this];exact if_pos hs
    obtain ⟨hl, hc⟩ := Pz.o b (by rw [Xb]; rfl);have Xf := Za (And.intro hl hc);have HVx := Za (HV.o x b Xb)
    have e4 : Zj K (Ph (Zf R1)) = K (b + 1) := by rw [Xb]; rfl
    have HKc : xQ (∀ w, Z2 w pb tb cap ts d (Ph (Zf R1)) -> Calls prog 77 #[pP pb] w (Pq pb tb cap ts d w (K (b + 1)))) := fun w h => by rw [<- e4]; exact HK.o _ w h
    clear hs hl hc e4 Pz HNn Xb HR HV;obtain ⟨⟨m0, m1, m2, m3, m4, m5, m6, m7⟩, ⟨g0, g1, g2, g3, g4, g5, g6, g7⟩, hml6⟩ := Zm (X6.o.box (p := (mb, NV.obj ⟨14, ⟨#[]⟩, 0, li, co, none, 0, 0, none, 0, 0, some ⟨kb, 0, none⟩, 1, 1⟩)) (by simp));have X7 : xQ (RX pb tb cap ts w (w6.setCell ⟨mb, 0, none⟩ (.int .i64 13)) d (Ph (Zf R1)) [(mb, NV.obj ⟨13, ⟨#[]⟩, 0, li, co, none, 0, 0, none, 0, 0, some ⟨kb, 0, none⟩, 1, 1⟩), (nb, x0.obj), (w.heap.size, Zi.obj), (kb, x0.obj)]) := X6.o.setB (by simp; omega) 0 (.int .i64 13)
    go_wp2_with fail;refine (HKc.o _ X7.o.at_).mono ?_;rintro e w8 ⟨Zb, Zd, k1, nm1, na1, nl1, nc1, ka1, kl1, kc1, rfl, hv⟩;have X8 := Za (X7.o.step Zb Zd);have h68 := Zb.size;rw [Ye] at h68
    have HF8 : xQ (∀ c, w.heap.size + 1 <= c -> c < nb -> w8.heap[c]? = w1.heap[c]?) := fun c h1 h2 => (Zb.keep c (by omega) (by rw [Ye]; omega)).trans ((xH (by show c ≠ mb; omega)).trans (HF6.o c h1 h2))
    have Ll : xQ (Bd (kb + 1) w8 (.agg #[.int .i64 k1, .string nm1, .slice na1 nl1 nc1, .slice ka1 kl1 kc1]) (K (b + 1))) := hv.lower (by have := xB (X7.o.box (p := (kb, x0.obj)) (by simp)); exact this);clear Zb Zd hv X6 X7 HF6 m0 m1 m2 m3 m4 m5 m6 m7 g0 g1 g2 g3 g4 g5 g6 g7;obtain ⟨⟨m0, m1, m2, m3, m4, m5, m6, m7⟩, ⟨g0, g1, g2, g3, g4, g5, g6, g7⟩, hml8⟩ := Zm (X8.o.box (p := (mb, NV.obj ⟨13, ⟨#[]⟩, 0, li, co, none, 0, 0, none, 0, 0, some ⟨kb, 0, none⟩, 1, 1⟩)) (by simp))
    obtain ⟨⟨r0, r1, r2, r3, r4, r5, r6, r7⟩, ⟨f0, f1, f2, f3, f4, f5, f6, f7⟩, hr8⟩ := Zm (X8.o.box (p := (w.heap.size, Zi.obj)) (by simp))
    have Gt : ¬ mb = w.heap.size := by omega
    have Dl : ¬ w.heap.size = mb := by omega
    go_wp2_with fail;obtain ⟨Wf, Zs⟩ := xE (((((((((((w8.setCell ⟨mb, 5, none⟩ (.slice (some ⟨w8.heap.size + 1, 0, none⟩) 1 1)).setCell ⟨w.heap.size, 0, none⟩ (.int .i64 13)).setCell ⟨w.heap.size, 1, none⟩ (.string ⟨#[]⟩)).setCell ⟨w.heap.size, 2, none⟩ (.int .i64 0)).setCell ⟨w.heap.size, 3, none⟩ (.int .i64 li)).setCell ⟨w.heap.size, 4, none⟩ (.int .i64 co)).setCell ⟨w.heap.size, 5, none⟩ (.slice (some ⟨w8.heap.size + 1, 0, none⟩) 1 1)).setCell ⟨w.heap.size, 6, none⟩ (.slice none 0 0)).setCell ⟨w.heap.size, 7, none⟩ (.slice (some ⟨kb, 0, none⟩) 1 1)).alloc (.cells #[.int .i64 k1, .string nm1, .slice na1 nl1 nc1, .slice ka1 kl1 kc1] 42)).alloc (.cells #[.int .i64 k1, .string nm1, .slice na1 nl1 nc1, .slice ka1 kl1 kc1] 42))
    rw [<- Zs]
    have Uk : (put8 (w8.setCell ⟨mb, 5, none⟩ (.slice (some ⟨w8.heap.size + 1, 0, none⟩) 1 1)) w.heap.size ⟨13, ⟨#[]⟩, 0, li, co, some ⟨w8.heap.size + 1, 0, none⟩, 1, 1, none, 0, 0, some ⟨kb, 0, none⟩, 1, 1⟩).heap.size = w8.heap.size := by rw [Q3, Ye]
    have Zw : xQ (RX pb tb cap ts w Wf d (Zf (K (b + 1))) [(w.heap.size, NV.obj ⟨13, ⟨#[]⟩, 0, li, co, some ⟨w8.heap.size + 1, 0, none⟩, 1, 1, none, 0, 0, some ⟨kb, 0, none⟩, 1, 1⟩), (kb, x0.obj)]) := by
     have h1 := (X8.o.perm (bx' := [(w.heap.size, Zi.obj), (kb, x0.obj)]) (by simp))
     have h2 := (h1.far (c := mb) (by omega) (by simp; omega) 5 (.slice (some ⟨w8.heap.size + 1, 0, none⟩) 1 1))
     rw [Zs];exact (((h2.put8 (by simp; omega) ⟨13, ⟨#[]⟩, 0, li, co, some ⟨w8.heap.size + 1, 0, none⟩, 1, 1, none, 0, 0, some ⟨kb, 0, none⟩, 1, 1⟩).alloc (Z5 k1 nm1 na1 nl1 nc1 ka1 kl1 kc1)).drop.alloc (Z5 k1 nm1 na1 nl1 nc1 ka1 kl1 kc1)).drop
    have Y6 : ∀ c, c ≠ w.heap.size -> c ≠ mb -> c < w8.heap.size -> Wf.heap[c]? = w8.heap[c]? := fun c h1 h2 h3 => by
     rw [Zs];exact (xA (by rw [xS, Uk]; omega)).trans ((xA (by rw [Uk]; exact h3)).trans ((U0 (x := ⟨13, ⟨#[]⟩, 0, li, co, some ⟨w8.heap.size + 1, 0, none⟩, 1, 1, none, 0, 0, some ⟨kb, 0, none⟩, 1, 1⟩) h1).trans (xH h2)))
    have Yu : Wf.heap[w8.heap.size + 1]? = some (Z5 k1 nm1 na1 nl1 nc1 ka1 kl1 kc1) := by
     have := Ti (put8 (w8.setCell ⟨mb, 5, none⟩ (.slice (some ⟨w8.heap.size + 1, 0, none⟩) 1 1)) w.heap.size ⟨13, ⟨#[]⟩, 0, li, co, some ⟨w8.heap.size + 1, 0, none⟩, 1, 1, none, 0, 0, some ⟨kb, 0, none⟩, 1, 1⟩) (Z5 k1 nm1 na1 nl1 nc1 ka1 kl1 kc1) (Z5 k1 nm1 na1 nl1 nc1 ka1 kl1 kc1);rw [Uk] at this;rw [Zs];exact this
    have Ue : w8.heap.size + 2 = Wf.heap.size := by rw [Zs, xS, xS]; simp only [Ye]
    clear Zs;refine r38 rfl rfl (Zw.o.box (p := (w.heap.size, NV.obj ⟨13, ⟨#[]⟩, 0, li, co, some ⟨w8.heap.size + 1, 0, none⟩, 1, 1, none, 0, 0, some ⟨kb, 0, none⟩, 1, 1⟩)) (by simp)) rfl ⟨Zw.o.st, ?_, ⟨13, ⟨#[]⟩, 0, li, co, some ⟨w8.heap.size + 1, 0, none⟩, 1, 1, none, 0, 0, some ⟨kb, 0, none⟩, 1, 1⟩, rfl, fun D c e => ?_⟩
    ·have := Zw.o.at_
     rw [Yr.o]
     cases Ws : K (b + 1) with
     | inr q => rw [Ws] at this; exact this
     | inl q => rw [Ws] at this; exact this
    ·rw [Yr.o] at e
     cases Ws : K (b + 1) with
     | inr q => rw [Ws] at e; cases e
     | inl q =>
      obtain ⟨t, b2⟩ := q;rw [Ws] at e;injection e with e;injection e with e _;rw [<- e]
      have hx : Yi (w.heap.size + 1) Wf x0 x := HVx.o.keep (by have := P2.o; omega) fun c h6 h7 => (Y6 c (by omega) (by have := P2.o; omega) (by have := P2.o; omega)).trans (HF8.o c h6 (by have := P2.o; omega))
      have ht : Yb (w.heap.size + 1) Wf (.agg #[.int .i64 k1, .string nm1, .slice na1 nl1 nc1, .slice ka1 kl1 kc1]) t := ((Ll.o t b2 Ws).keep (by omega) fun c h6 h7 => Y6 c (by omega) (by omega) h7).lower (by omega);have := Nz (kb := kb) hx (Zw.o.box (p := (kb, x0.obj)) (by simp)) (by omega) ⟨13, ⟨#[]⟩, 0, li, co, some ⟨w8.heap.size + 1, 0, none⟩, 1, 1, none, 0, 0, some ⟨kb, 0, none⟩, 1, 1⟩ [t] [] ⟨rfl, rfl⟩ ⟨rfl, by simp, kids1 ht Yu (by omega)⟩ ⟨rfl, xZ _, .inl rfl⟩
      rw [<- Xf.o.1, <- Xf.o.2];exact this.lower (Nat.le_succ _)
   | false =>
    rw [hs, if_neg (by simp)] at X6;have HAs := Za hs;clear hs;go_wp2_with fail;refine (Wq pb tb cap d ts (Zf R1) [105, 115] _ X6.o.at_ OK.o).mono ?_;rintro e w7 ⟨rfl, Zb, Zd⟩;have X7 := Za (X6.o.step Zb Zd)
    have HF7 : xQ (∀ c, w.heap.size + 1 <= c -> c < nb -> w7.heap[c]? = w1.heap[c]?) := fun c h1 h2 => (Zb.keep c (by omega) (by have := xB (X6.o.box (p := (nb, x0.obj)) (by simp)); omega)).trans (HF6.o c h1 h2)
    clear Zb Zd X6 HF6
    cases hs : Yw ts (Zf R1) [105, 115] with
    | false =>
     rw [hs, if_neg (by simp)] at X7
     have Yr : xQ (R = R1) := by
      rw [HR.o]
      cases Xb : R1 with
      | inr p => rfl
      | inl q =>
       obtain ⟨x, b⟩ := q;show Fl ts K sub x b = _;have h1 := HAs.o;rw [Xb] at hs h1;unfold Fl;rw [Oz fun j h1 => by have := HNn.o j h1; rw [Xb] at this; exact this];have h2 : Zh ts b [97, 115] = false := h1;have h3 : Zh ts b [105, 115] = false := hs;simp [h2, h3]
     clear hs HAs;obtain ⟨⟨n0, n1, n2, n3, n4, n5, n6, n7⟩, _, hnl7⟩ := Zm (X7.o.box (p := (nb, x0.obj)) (by simp));obtain ⟨⟨r0, r1, r2, r3, r4, r5, r6, r7⟩, ⟨f0, f1, f2, f3, f4, f5, f6, f7⟩, hr7⟩ := Zm (X7.o.box (p := (w.heap.size, Zi.obj)) (by simp))
     have H4 : ¬ nb = w.heap.size := by omega
     go_wp2_with fail;have XF := RX.put8 (X7.o.perm (bx' := [(w.heap.size, Zi.obj)]) (by simp)) (by simp) x0;rw [Yr.o];refine r38 rfl rfl (XF.box (p := (w.heap.size, x0.obj)) (by simp)) rfl ⟨XF.st, XF.at_, x0, rfl, fun D c e => ?_⟩;refine Yi.lower (Yi.put8 ((HV.o D c e).keep (by have := P2.o; omega) fun c h6 h7 => HF7.o c h6 (by have := P2.o; omega)) (xU _) x0) (Nat.le_succ _)
    | true =>
     rw [hs, if_pos rfl] at X7
     obtain ⟨x, b, Xb⟩ : ∃ x b, R1 = .inl (x, b) := by
      cases R1 with
      | inr p => cases hs
      | inl q => exact ⟨q.1, q.2, rfl⟩
     have Yr : xQ (R = match Us.findIdx? (Zh ts (b + 1)) with
       | some i => .inl (Zn 12 [] i (Yg ts b) (Yf ts b) [] [] [x], b + 2)
       | none => Wa ts 7 (b + 1)) := by
      rw [HR.o, Xb];have h1 := HAs.o;rw [Xb] at hs h1;show Fl ts K sub x b = _;unfold Fl;rw [Oz fun j h1 => by have := HNn.o j h1; rw [Xb] at this; exact this];have h2 : Zh ts b [97, 115] = false := h1;have h3 : Zh ts b [105, 115] = true := hs;simp only [h2, h3];rfl
     obtain ⟨hl, hc⟩ := Pz.o b (by rw [Xb]; rfl);have Xf := Za (And.intro hl hc);have HVx := Za (HV.o x b Xb)
     have e4 : Ph (Zf R1) = .inl (b + 1) := by rw [Xb]; rfl
     rw [e4] at X7;clear hs hl hc e4 Pz HNn Xb HR HV HAs;obtain ⟨⟨m0, m1, m2, m3, m4, m5, m6, m7⟩, ⟨g0, g1, g2, g3, g4, g5, g6, g7⟩, hml7⟩ := Zm (X7.o.box (p := (mb, NV.obj ⟨14, ⟨#[]⟩, 0, li, co, none, 0, 0, none, 0, 0, some ⟨kb, 0, none⟩, 1, 1⟩)) (by simp));have hk7 := xB (X7.o.box (p := (kb, x0.obj)) (by simp));have hn7 := xB (X7.o.box (p := (nb, x0.obj)) (by simp));go_wp2_with fail;obtain ⟨W8, hW8⟩ := xE ((w7.setCell ⟨mb, 0, none⟩ (.int .i64 12)).alloc (.cells #[.string ⟨#[110, 117, 108, 108]⟩, .string ⟨#[98, 111, 111, 108]⟩, .string ⟨#[105, 110, 116]⟩, .string ⟨#[115, 116, 114]⟩, .string ⟨#[114, 101, 99, 111, 114, 100]⟩, .string ⟨#[102, 117, 110, 99, 116, 105, 111, 110]⟩] 9))
     rw [<- hW8];obtain ⟨gb, hgb⟩ := xE w7.heap.size;rw [<- hgb]
     have X8 : xQ (RX pb tb cap ts w W8 d (.inl (b + 1)) [(mb, NV.obj ⟨12, ⟨#[]⟩, 0, li, co, none, 0, 0, none, 0, 0, some ⟨kb, 0, none⟩, 1, 1⟩), (w.heap.size, Zi.obj), (kb, x0.obj), (gb, Wj Us)]) := by
      have h1 := (X7.o.perm (bx' := [(mb, NV.obj ⟨14, ⟨#[]⟩, 0, li, co, none, 0, 0, none, 0, 0, some ⟨kb, 0, none⟩, 1, 1⟩), (w.heap.size, Zi.obj), (kb, x0.obj)]) (by simp)).setB (by simp; omega) 0 (.int .i64 12);have h2 := h1.alloc (Wj Us);rw [Ye] at h2;rw [hW8, hgb];exact h2.perm (by simp)
     have HF8 : xQ (∀ c, w.heap.size + 1 <= c -> c < nb -> W8.heap[c]? = w1.heap[c]?) := fun c h1 h2 => by
      rw [hW8];exact (xA (by rw [Ye]; omega)).trans ((xH (by show c ≠ mb; omega)).trans (HF7.o c h1 h2))
     have Ts : kb < gb := by omega
     clear hW8 hgb X7 HF7 m0 m1 m2 m3 m4 m5 m6 m7 g0 g1 g2 g3 g4 g5 g6 g7 hml7;obtain ⟨wq, hwq⟩ := xE wr;subst hwq
     go_loopw [10] (fun v wr => ∃ i : Nat, v = .int .i64 i /\ i <= 6 /\ xQ (RX pb tb cap ts w wr d (.inl (b + 1)) [(mb, NV.obj ⟨12, ⟨#[]⟩, 0, li, co, none, 0, 0, none, 0, 0, some ⟨kb, 0, none⟩, 1, 1⟩), (w.heap.size, Zi.obj), (kb, x0.obj), (gb, Wj Us)]) /\ xQ (∀ j (_ : j < Us.length), j < i -> Zh ts (b + 1) Us[j] = false) /\ xQ (∀ c, w.heap.size + 1 <= c -> c < nb -> wr.heap[c]? = w1.heap[c]?)) (fun v _ => 6 - (intOf v).toNat)
     case atStart => exact ⟨0, rfl, by omega, X8, (fun _ _ h => absurd h (Nat.not_lt_zero _)), HF8⟩
     case round =>
      clear X8 HF8;obtain ⟨i2, rfl, hi2, X, HN, HF⟩ := hrel
      have hnw : nb < wr.heap.size := by have := xB (X.o.box (p := (kb, x0.obj)) (by simp)); omega
      by_cases Zo : i2 < 6
      ·have hil2 : (i2 : Int) < 6 := by omega
       have Bm : i2 < Us.length := Zo;have c1 := Cf (X.o.box (p := (gb, Wj Us)) (by simp)) Bm;obtain ⟨s, Hk⟩ := xE (Us[i2]);rw [<- Hk] at c1;have HSL := Za Hk;have hlm := xB (X.o.box (p := (gb, Wj Us)) (by simp));clear Hk;go_wp2_with fail;refine (Wq pb tb cap d ts (.inl (b + 1)) s _ X.o.at_ OK.o).mono ?_;rintro e w9 ⟨rfl, Zb, Zd⟩;have X9 := Za (X.o.step Zb Zd)
       have HF9 : xQ (∀ c, w.heap.size + 1 <= c -> c < nb -> w9.heap[c]? = w1.heap[c]?) := fun c h1 h2 => (Zb.keep c (by omega) (by omega)).trans (HF.o c h1 h2)
       have hs9 := Zb.size;clear Zb Zd X HF c1
       cases hs : Yw ts (.inl (b + 1)) s with
       | false =>
        rw [hs, if_neg (by simp)] at X9
        have Xz : xQ (∀ j (_ : j < Us.length), j < i2 + 1 -> Zh ts (b + 1) Us[j] = false) := fun j h1 h2 => by
         by_cases e : j = i2
         ·subst e; rw [<- HSL.o]; exact hs
         ·exact HN.o j h1 (by omega)
        clear hs HN;go_wp2_with fail;exact ⟨⟨i2 + 1, by go_num, by omega, X9, Xz, HF9⟩, by simp [intOf]; omega⟩
       | true =>
        rw [hs, if_pos rfl] at X9
        have HRi : xQ (R = .inl (Zn 12 [] i2 (Yg ts b) (Yf ts b) [] [] [x], b + 2)) := by
         rw [Yr.o]
         have : Us.findIdx? (Zh ts (b + 1)) = some i2 := by
          rw [List.findIdx?_eq_some_iff_getElem];refine ⟨Bm, by rw [<- HSL.o]; exact hs, fun j hj => ?_⟩;rw [HN.o j (by omega) hj];simp
         rw [this];exact rfl
        clear hs HN Yr;obtain ⟨⟨m0, m1, m2, m3, m4, m5, m6, m7⟩, ⟨g0, g1, g2, g3, g4, g5, g6, g7⟩, hml9⟩ := Zm (X9.o.box (p := (mb, NV.obj ⟨12, ⟨#[]⟩, 0, li, co, none, 0, 0, none, 0, 0, some ⟨kb, 0, none⟩, 1, 1⟩)) (by simp));obtain ⟨⟨r0, r1, r2, r3, r4, r5, r6, r7⟩, ⟨f0, f1, f2, f3, f4, f5, f6, f7⟩, hr9⟩ := Zm (X9.o.box (p := (w.heap.size, Zi.obj)) (by simp))
        have Gt : ¬ mb = w.heap.size := by omega
        have Dl : ¬ w.heap.size = mb := by omega
        go_wp2_with fail;obtain ⟨Wf, Zs⟩ := xE (((((((((w9.setCell ⟨mb, 2, none⟩ (.int .i64 i2)).setCell ⟨w.heap.size, 0, none⟩ (.int .i64 12)).setCell ⟨w.heap.size, 1, none⟩ (.string ⟨#[]⟩)).setCell ⟨w.heap.size, 2, none⟩ (.int .i64 i2)).setCell ⟨w.heap.size, 3, none⟩ (.int .i64 li)).setCell ⟨w.heap.size, 4, none⟩ (.int .i64 co)).setCell ⟨w.heap.size, 5, none⟩ (.slice none 0 0)).setCell ⟨w.heap.size, 6, none⟩ (.slice none 0 0)).setCell ⟨w.heap.size, 7, none⟩ (.slice (some ⟨kb, 0, none⟩) 1 1))
        rw [<- Zs]
        have Zw : xQ (RX pb tb cap ts w Wf d (Ph (.inl (b + 1))) [(w.heap.size, NV.obj ⟨12, ⟨#[]⟩, (i2 : Int), li, co, none, 0, 0, none, 0, 0, some ⟨kb, 0, none⟩, 1, 1⟩), (kb, x0.obj)]) := by
         have h1 := (X9.o.perm (bx' := [(w.heap.size, Zi.obj), (kb, x0.obj)]) (by simp))
         have h2 := (h1.far (c := mb) (by omega) (by simp; omega) 2 (.int .i64 i2))
         rw [Zs];exact h2.put8 (by simp; omega) ⟨12, ⟨#[]⟩, (i2 : Int), li, co, none, 0, 0, none, 0, 0, some ⟨kb, 0, none⟩, 1, 1⟩
        have Y6 : ∀ c, c ≠ w.heap.size -> c ≠ mb -> Wf.heap[c]? = w9.heap[c]? := fun c h1 h2 => by
         rw [Zs];exact (U0 (x := ⟨12, ⟨#[]⟩, (i2 : Int), li, co, none, 0, 0, none, 0, 0, some ⟨kb, 0, none⟩, 1, 1⟩) h1).trans (xH h2)
        have Ue : w9.heap.size = Wf.heap.size := by rw [Zs]; simp only [Ye]
        clear Zs;refine r38 rfl rfl (Zw.o.box (p := (w.heap.size, NV.obj ⟨12, ⟨#[]⟩, (i2 : Int), li, co, none, 0, 0, none, 0, 0, some ⟨kb, 0, none⟩, 1, 1⟩)) (by simp)) rfl ⟨Zw.o.st, ?_, ⟨12, ⟨#[]⟩, (i2 : Int), li, co, none, 0, 0, none, 0, 0, some ⟨kb, 0, none⟩, 1, 1⟩, rfl, fun D c e => ?_⟩
        ·rw [HRi.o]
         exact Zw.o.at_
        ·rw [HRi.o] at e
         injection e with e;injection e with e _
         have hx : Yi (w.heap.size + 1) Wf x0 x := HVx.o.keep (by have := P2.o; omega) fun c h6 h7 => (Y6 c (by omega) (by have := P2.o; omega)).trans (HF9.o c h6 (by have := P2.o; omega))
         have := (Nz (kb := kb) hx (Zw.o.box (p := (kb, x0.obj)) (by simp)) (by omega) ⟨12, ⟨#[]⟩, (i2 : Int), li, co, none, 0, 0, none, 0, 0, some ⟨kb, 0, none⟩, 1, 1⟩ [] [] ⟨rfl, rfl⟩ ⟨rfl, xZ _, 0, .inl rfl⟩ ⟨rfl, xZ _, .inl rfl⟩).lower (Nat.le_succ _);rw [<- e, <- Xf.o.1, <- Xf.o.2];exact this
      ·have hil2 : ¬ (i2 : Int) < 6 := by omega
       have HRi : xQ (R = Wa ts 7 (b + 1)) := by
        rw [Yr.o]
        have : Us.findIdx? (Zh ts (b + 1)) = none := by
         rw [List.findIdx?_eq_none_iff];intro t ht;obtain ⟨j, hj, rfl⟩ := List.mem_iff_getElem.1 ht;exact HN.o j hj (by have : Us.length = 6 := rfl; omega)
        rw [this];exact rfl
       clear HN Yr;go_wp2_with fail;refine (Ry pb tb cap d ts (.inl (b + 1)) 7 (by decide) _ X.o.at_).mono ?_;rintro e w9 ⟨rfl, Zb, Zd⟩;have X9 := Za (X.o.step Zb Zd);clear Zb Zd X HF;obtain ⟨⟨m0, m1, m2, m3, m4, m5, m6, m7⟩, ⟨g0, g1, g2, g3, g4, g5, g6, g7⟩, hml9⟩ := Zm (X9.o.box (p := (mb, NV.obj ⟨12, ⟨#[]⟩, 0, li, co, none, 0, 0, none, 0, 0, some ⟨kb, 0, none⟩, 1, 1⟩)) (by simp));obtain ⟨⟨r0, r1, r2, r3, r4, r5, r6, r7⟩, ⟨f0, f1, f2, f3, f4, f5, f6, f7⟩, hr9⟩ := Zm (X9.o.box (p := (w.heap.size, Zi.obj)) (by simp))
       have Gt : ¬ mb = w.heap.size := by omega
       go_wp2_with fail;have XF := RX.put8 (X9.o.perm (bx' := [(w.heap.size, Zi.obj)]) (by simp)) (by simp) ⟨12, ⟨#[]⟩, 0, li, co, none, 0, 0, none, 0, 0, some ⟨kb, 0, none⟩, 1, 1⟩;refine r38 rfl rfl (XF.box (p := (w.heap.size, NV.obj ⟨12, ⟨#[]⟩, 0, li, co, none, 0, 0, none, 0, 0, some ⟨kb, 0, none⟩, 1, 1⟩)) (by simp)) rfl ⟨XF.st, ?_, ⟨12, ⟨#[]⟩, 0, li, co, none, 0, 0, none, 0, 0, some ⟨kb, 0, none⟩, 1, 1⟩, rfl, fun D c e => ?_⟩
       ·rw [HRi.o]
        exact XF.at_
       ·rw [HRi.o] at e
        cases e
end Go.Proofs.YtfoejkhfdiodhaaGreatDoor
