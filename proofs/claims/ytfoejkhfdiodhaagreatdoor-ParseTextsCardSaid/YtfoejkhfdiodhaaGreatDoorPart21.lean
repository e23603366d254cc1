/- Part. -/
import Derived.Test.YtfoejkhfdiodhaaGreatDoorPart20
set_option maxRecDepth 100000
set_option maxHeartbeats 4000000
namespace Go.Proofs.YtfoejkhfdiodhaaGreatDoor
open Go.Proofs.Tryz
open Go.RowKit
attribute [local go_sem ↓] Go.wp_at_zero Go.wp_at_succ
def HeadP (lo : Nat) (w' : World) (R : Pr (List UInt8 × List Ty)) (e : Ending) : Prop :=
 ∃ (nm : List UInt8) (v : Value) (cs : List (List Value)) (acc : List (Option Ty)), e = .returned (.tuple #[.string ⟨nm.toArray⟩, v]) /\ Ym Uv lo 42 4 none w' v cs acc /\ 1 <= acc.length /\ acc.length <= 2 /\ ∀ h b, R = .inl (h, b) -> nm = h.1 /\ acc = h.2.map some
theorem lU (ts : List Tok) (K : Nat -> Pr Ty) (S : Ya) : ∃ (R1 : Pr Unit) (R2 : Pr (List UInt8)) (R3 : Pr (List Ty)) (R4 : Pr Unit) (R5 : Pr (List Ty)),
  R1 = Zj (fun a => Ze ts a [40]) S /\ R2 = Zj (Zr ts) (Zf R1) /\ R3 = Zj (Ve ts K) (Zf R2) /\ R4 = Zj (fun a => Ze ts a [41]) (Zf R3) /\ R5 = Zj (Ve ts K) (Zf R4) /\
  Zf (Zj (Nb ts K) S) = Zf R5 /\ ∀ h b, Zj (Nb ts K) S = .inl (h, b) -> ∃ b2 x b3 y, R2 = .inl (h.1, b2) /\ R3 = .inl (x, b3) /\ R5 = .inl (y, b) /\ h.2 = (if x.isEmpty then [Yq 0 [] [] []] else x) ++ y := by
 refine ⟨_, _, _, _, _, rfl, rfl, rfl, rfl, rfl, ?_⟩
 cases S with
 | inr p => exact ⟨rfl, fun h b e => by cases e⟩
 | inl a =>
  show Zf (Nb ts K a) = Zf (Zj (Ve ts K) (Zf (Zj _ (Zf (Zj _ (Zf (Zj (Zr ts) (Zf (Ze ts a [40])))))))) ) /\ ∀ h b, Nb ts K a = .inl (h, b) -> _;unfold Nb;show _ /\ ∀ h b, _ -> ∃ b2 x b3 y, Zj (Zr ts) (Zf (Ze ts a [40])) = _ /\ Zj (Ve ts K) (Zf (Zj (Zr ts) (Zf (Ze ts a [40])))) = _ /\ Zj (Ve ts K) (Zf (Zj (fun a => Ze ts a [41]) (Zf (Zj (Ve ts K) (Zf (Zj (Zr ts) (Zf (Ze ts a [40])))))))) = _ /\ _
  cases h1 : Ze ts a [40] with
  | inr p => exact ⟨rfl, fun h b e => by cases e⟩
  | inl q1 =>
   obtain ⟨u1, b1⟩ := q1;show Zf ((Zr ts b1).go _) = Zf (Zj _ (Zf (Zj _ (Zf (Zj _ (Zf (Zr ts b1)))))))  /\ ∀ h b, (Zr ts b1).go _ = .inl (h, b) -> ∃ b2 x b3 y, Zr ts b1 = _ /\ Zj (Ve ts K) (Zf (Zr ts b1)) = _ /\ Zj (Ve ts K) (Zf (Zj (fun a => Ze ts a [41]) (Zf (Zj (Ve ts K) (Zf (Zr ts b1)))))) = _ /\ _
   cases h2 : Zr ts b1 with
   | inr p => exact ⟨rfl, fun h b e => by cases e⟩
   | inl q2 =>
    obtain ⟨s, b2⟩ := q2;show Zf ((Ve ts K b2).go _) = Zf (Zj _ (Zf (Zj _ (Zf (Ve ts K b2)))))  /\ ∀ h b, (Ve ts K b2).go _ = .inl (h, b) -> ∃ b2' x b3 y, (.inl (s, b2) : Pr (List UInt8)) = _ /\ Ve ts K b2 = _ /\ Zj (Ve ts K) (Zf (Zj (fun a => Ze ts a [41]) (Zf (Ve ts K b2)))) = _ /\ _
    cases h3 : Ve ts K b2 with
    | inr p => exact ⟨rfl, fun h b e => by cases e⟩
    | inl q3 =>
     obtain ⟨x, b3⟩ := q3;show Zf ((Ze ts b3 [41]).go _) = Zf (Zj _ (Zf (Ze ts b3 [41])))  /\ ∀ h b, (Ze ts b3 [41]).go _ = .inl (h, b) -> ∃ b2' x' b3' y, (.inl (s, b2) : Pr (List UInt8)) = _ /\ (.inl (x, b3) : Pr (List Ty)) = _ /\ Zj (Ve ts K) (Zf (Ze ts b3 [41])) = _ /\ _
     cases h4 : Ze ts b3 [41] with
     | inr p => exact ⟨rfl, fun h b e => by cases e⟩
     | inl q4 =>
      obtain ⟨u4, b4⟩ := q4;show Zf ((Ve ts K b4).go _) = Zf (Ve ts K b4)  /\ ∀ h b, (Ve ts K b4).go _ = .inl (h, b) -> ∃ b2' x' b3' y, (.inl (s, b2) : Pr (List UInt8)) = _ /\ (.inl (x, b3) : Pr (List Ty)) = _ /\ Ve ts K b4 = _ /\ _
      cases h5 : Ve ts K b4 with
      | inr p => exact ⟨rfl, fun h b e => by cases e⟩
      | inl q5 =>
       obtain ⟨y, b5⟩ := q5;refine ⟨rfl, fun h b e => ?_⟩;have e1 : (Sum.inl ((s, (if x.isEmpty then [Yq 0 [] [] []] else x) ++ y), b5) : Pr (List UInt8 × List Ty)) = .inl (h, b) := e;injection e1 with e1;injection e1 with e1 e2;subst e1 e2;exact ⟨b2, x, b3, y, rfl, rfl, rfl, rfl⟩
theorem pX (w : World) : Uv w.heap.size w [.int .i64 0, .string ⟨#[]⟩, .slice none 0 0, .slice none 0 0] (some (Yq 0 [] [] [])) :=
 ⟨⟨0, ⟨#[]⟩, none, 0, 0, none, 0, 0, rfl⟩, fun t e => by
  injection e with e;rw [<- e]
  exact yH (m := 0) (ks := []) (by decide) (.inl rfl) (by simp) (by simp)⟩
theorem qL {α : Type} {rep : Nat -> World -> List Value -> α -> Prop} {B et k g cap : Nat} {o : Option Nat} {w : World} {c : List Value} {x : α} (h : Ym rep B et k o w (.slice (some ⟨g, 0, none⟩) 1 cap) [c] [x]) {j : Nat} {u : Value} (hj : c[j]? = some u) : w.cell? ((⟨g, 0, none⟩ : Addr).add j) = some u := by
 have hc := h.each c (by simp)
 have hl : j < c.length := by
  rw [List.getElem?_eq_some_iff] at hj;exact hj.1
 have := h.ow.cellAt j (by simp; omega)
 have e : (⟨g, 0, none⟩ : Addr).add j = ⟨g, j, none⟩ := by unfold Addr.add; split <;> simp_all
 rw [e, this]
 simpa using hj
theorem Ym.lowerB {α : Type} {rep : Nat -> World -> List Value -> α -> Prop} {B B' et k : Nat} {o : Option Nat} {w : World} {v : Value} {cs : List (List Value)} {xs : List α} (h : Ym rep B et k o w v cs xs) (hl : B' <= B) : Ym rep B' et k o w v cs xs := by
 refine ⟨h.len, h.each, ?_, h.apart, fun q hq => ⟨Nat.le_trans hl (h.olt q hq).1, (h.olt q hq).2⟩, fun i h1 h2 => ?_⟩
 ·obtain ⟨o1, o2⟩ := h.ow
  refine ⟨o1, ?_⟩;rcases o2 with o2 | ⟨g, cap, cur, e, hg, r⟩
  ·exact .inl o2
  ·exact .inr ⟨g, cap, cur, e, Nat.le_trans hl hg, r⟩
 ·obtain ⟨wi, lo, m1, m2, m3, m4, m5⟩ := h.made i h1 h2
  exact ⟨wi, lo, m1, Nat.le_trans hl m2, m3, m4, m5⟩
theorem Z2.grown {w w4 : World} {pb tb cap d : Nat} {ts : List Tok} {S : Ya} {g : Option Nat} (h : Z2 w pb tb cap ts d S) (hg : w.grownBy w4 g) (hr : ∀ k, g = some k -> pb < k) : Z2 w4 pb tb cap ts d S := by
 obtain ⟨a, ha⟩ := h
 exact ⟨a, (hg.block _ ha.ltp (fun e => by have := hr _ e.symm; omega)).trans ha.blk, ha.lt, ha.live, ha.bad, ha.tlt, Qk ha.toks (hg.block _ (Nat.lt_trans ha.tlt ha.ltp) (fun e => by have := hr _ e.symm; have := ha.tlt; omega))⟩
theorem qJ (pb tb cap d : Nat) (ts : List Tok) (ok : Yh ts) (K : Nat -> Pr Ty)
  (hK : ∀ S w, Z2 w pb tb cap ts d S -> Calls prog 77 #[pP pb] w (Pq pb tb cap ts d w (Zj K S)))
  (S : Ya) (w : World) (h : Z2 w pb tb cap ts d S) :
  Calls prog 36 #[pP pb] w fun e w' => Zl pb w w' /\ Z2 w' pb tb cap ts d (Zf (Zj (Nb ts K) S)) /\ HeadP w.heap.size w' (Zj (Nb ts K) S) e := by
 obtain ⟨R1, R2, R3, R4, R5, h1, h2, h3, h4, h5, Zb, Pv⟩ := lU ts K S
 rw [Zb]
 have HV := Za Pv
 have HK := Za hK
 have OK := Za ok
 have V7 := Za (Ua pb tb cap d ts S [40] w h ok)
 rw [<- h1] at V7
 have Q6 := Za (fun wx hx => L3 pb tb cap d ts (Zf R1) wx hx ok)
 rw [<- h2] at Q6
 have Tt := Za (fun wx hx => yE pb tb cap d ts ok K hK (Zf R2) wx hx)
 rw [<- h3] at Tt
 have N4 := Za (fun wx hx => Ua pb tb cap d ts (Zf R3) [41] wx hx ok)
 rw [<- h4] at N4
 have HC5 := Za (fun wx hx => yE pb tb cap d ts ok K hK (Zf R4) wx hx)
 rw [<- h5] at HC5
 have Xc := h.ltp
 obtain ⟨i0, hi, Wp, Xy, Wr⟩ := info_parts Dp
 clear h1 h2 h3 h4 h5 Zb Pv h hK ok
 go_enter func36, ntmps36
 go_wp2_with fail
 refine V7.o.mono ?_
 rintro e w1 ⟨rfl, Zb, Zd⟩
 have X1 := Za (And.intro Zb Zd)
 clear Zb Zd
 go_wp2_with fail
 refine (Q6.o _ X1.o.2).mono ?_
 rintro e w2 ⟨rfl, Zb, Zd⟩
 have X2 := Za (And.intro (X1.o.1.trans Zb) Zd)
 clear Zb Zd
 go_wp2_with fail
 refine (Tt.o _ X2.o.2).mono ?_
 rintro e w3 ⟨Zb, Zd, hn⟩
 have X3 := Za (And.intro (X2.o.1.trans Zb) Zd)
 have h23 := X2.o.1.size
 clear Zb Zd
 rcases hn with ⟨rfl, hn⟩ | ⟨g, k1, nm1, na1, nl1, nc1, ka1, kl1, kc1, x1, rfl, hg, hn⟩
 ·have HN := Za hn
  clear hn;go_wp2_with fail;refine (N4.o _ X3.o.2).mono ?_;rintro e w4 ⟨rfl, Zb, Zd⟩;have X4 := Za (And.intro (X3.o.1.trans Zb) Zd);clear Zb Zd;go_wp2_with fail;refine (HC5.o _ X4.o.2).mono ?_;rintro e w5 ⟨Zb, Zd, hm⟩;have X5 := Za (And.intro (X4.o.1.trans Zb) Zd);have h45 := Zb.size;have h04 := X4.o.1.size;clear Zb Zd;have RW5 := Za (Aq (B := w.heap.size) (et := 42) (k := 4) (rep := Uv) (wx := w5) (lo := w5.heap.size) (c := [.int .i64 0, .string ⟨#[]⟩, .slice none 0 0, .slice none 0 0]) (x := some (Yq 0 [] [] [])) (pX w5) (by omega) (by omega) rfl)
  rcases hm with ⟨rfl, hm⟩ | ⟨g2, k2, nm2, na2, nl2, nc2, ka2, kl2, kc2, x2, rfl, Wu, hm⟩
  ·have HM := Za hm
   clear hm;go_wp2_with fail
   go_ret2
   refine ⟨X5.o.1.alloc Xc _, X5.o.2.alloc _, Wm R2, _, _, _, rfl, RW5.o, by simp, by simp, fun h b e => ?_⟩;obtain ⟨b2, x, b3, y, e2, e3, e5, e6⟩ := HV.o h b e;obtain rfl := HN.o _ _ e3;obtain rfl := HM.o _ _ e5;rw [e6, e2];exact ⟨rfl, rfl⟩
  ·have HM := Za hm
   have RB := Za (Wu.stay ((Zl.refl pb w5).alloc (by have := X5.o.1.size; omega) (Z5 0 ⟨#[]⟩ none 0 0 none 0 0)) (by omega))
   have Tu : xQ (∀ j u, ([.int .i64 k2, .string nm2, .slice na2 nl2 nc2, .slice ka2 kl2 kc2] : List Value)[j]? = some u -> (w5.alloc (Z5 0 ⟨#[]⟩ none 0 0 none 0 0)).cell? ((⟨g2, 0, none⟩ : Addr).add j) = some u) := fun j u h => qL RB.o h
   have Tz : xQ (Wz Uv w.heap.size (fun q => (Value.slice (some ⟨w5.heap.size, 0, none⟩) 1 1).ownBlock = some q ∨ (none : Option Nat) = some q) (w5.alloc (Z5 0 ⟨#[]⟩ none 0 0 none 0 0)) [.int .i64 k2, .string nm2, .slice na2 nl2 nc2, .slice ka2 kl2 kc2] x2) := by
    obtain ⟨wi, lo, m1, m2, m3, m4, _⟩ := Wu.made 0 (by simp) (by simp);refine ⟨wi, lo, m1, by omega, by rw [xS]; omega, fun b hb hl => (xA (by omega)).trans (m4 b hb hl), fun q hq => ?_⟩;rcases hq with hq | hq
    ·simp [Value.ownBlock] at hq
     exact .inr (by omega)
    ·cases hq
   clear hm Wu
   go_wp2_with (at_builtin; refine wpList_append_own_at _ rfl (.tmp 23) (.tmp 24) 34 rfl (w.heap.size) 42 i0 _ 4 72 underlying34 hi Wp Xy Wr rfl (by decide) _ _ _ rfl RW5.o.ow ⟨_, 0, none⟩ 1 1 [.int .i64 k2, .string nm2, .slice na2 nl2 nc2, .slice ka2 kl2 kc2] rfl rfl Tu.o (by simp [Value.oneCell']) (by unfold maxLen; simp) (by simp) (by simp; omega) ?_)
   intro v' w6 Z1 Zy _ Ys;have Te := Za (RW5.o.put Z1 Zy (Ys.imp_right fun e => ⟨_, e, by simp⟩) (Zl.refl pb _) Xc rfl Tz.o)
   have Zu : xQ (Zl pb w w6) := (X5.o.1.alloc Xc _).grown Zy Xc fun k hk => by simp [Value.ownBlock] at hk; have := X5.o.1.size; omega
   have Jr : xQ (Z2 w6 pb tb cap ts d (Zf R5)) := (X5.o.2.alloc _).grown Zy fun k hk => by simp [Value.ownBlock] at hk; have := X5.o.1.size; omega
   clear Z1 Zy Ys;go_wp2_with fail
   go_ret2
   refine ⟨Zu.o, Jr.o, Wm R2, _, _, _, rfl, Te.o, by simp, by simp, fun h b e => ?_⟩;obtain ⟨b2, x, b3, y, e2, e3, e5, e6⟩ := HV.o h b e;obtain rfl := HN.o _ _ e3;obtain ⟨t, rfl, rfl⟩ := HM.o _ _ e5;rw [e6, e2];exact ⟨rfl, rfl⟩
 ·have HN := Za hn
  have RA3 := Za hg
  have hg3 : g < w3.heap.size /\ w2.heap.size <= g := by
   have := hg.own g rfl;exact ⟨this.2, this.1⟩
  clear hn hg;go_wp2_with fail;refine (N4.o _ X3.o.2).mono ?_;rintro e w4 ⟨rfl, Zb, Zd⟩;have X4 := Za (And.intro (X3.o.1.trans Zb) Zd);have RA4 := Za (RA3.o.stay Zb (by omega));have h34 := Zb.size;clear Zb Zd RA3;go_wp2_with fail;refine (HC5.o _ X4.o.2).mono ?_;rintro e w5 ⟨Zb, Zd, hm⟩;have X5 := Za (And.intro (X4.o.1.trans Zb) Zd);have h45 := Zb.size;have h04 := X4.o.1.size;have RW5 : xQ (Ym Uv w.heap.size 42 4 none w5 (.slice (some ⟨g, 0, none⟩) 1 1) [[.int .i64 k1, .string nm1, .slice na1 nl1 nc1, .slice ka1 kl1 kc1]] [x1]) := (RA4.o.stay Zb (by omega)).lowerB (by omega)
  clear Zb Zd RA4;rcases hm with ⟨rfl, hm⟩ | ⟨g2, k2, nm2, na2, nl2, nc2, ka2, kl2, kc2, x2, rfl, Wu, hm⟩
  ·have HM := Za hm
   clear hm;go_wp2_with fail
   go_ret2
   refine ⟨X5.o.1, X5.o.2, Wm R2, _, _, _, rfl, RW5.o, by simp, by simp, fun h b e => ?_⟩;obtain ⟨b2, x, b3, y, e2, e3, e5, e6⟩ := HV.o h b e;obtain ⟨t, rfl, rfl⟩ := HN.o _ _ e3;obtain rfl := HM.o _ _ e5;rw [e6, e2];exact ⟨rfl, rfl⟩
  ·have HM := Za hm
   have Tu : xQ (∀ j u, ([.int .i64 k2, .string nm2, .slice na2 nl2 nc2, .slice ka2 kl2 kc2] : List Value)[j]? = some u -> w5.cell? ((⟨g2, 0, none⟩ : Addr).add j) = some u) := fun j u h => qL Wu h
   have Tz : xQ (Wz Uv w.heap.size (fun q => (Value.slice (some ⟨g, 0, none⟩) 1 1).ownBlock = some q ∨ (none : Option Nat) = some q) w5 [.int .i64 k2, .string nm2, .slice na2 nl2 nc2, .slice ka2 kl2 kc2] x2) := by
    obtain ⟨wi, lo, m1, m2, m3, m4, _⟩ := Wu.made 0 (by simp) (by simp);refine ⟨wi, lo, m1, by omega, m3, m4, fun q hq => ?_⟩;rcases hq with hq | hq
    ·simp [Value.ownBlock] at hq
     exact .inl (by omega)
    ·cases hq
   clear hm Wu
   go_wp2_with (at_builtin; refine wpList_append_own_at _ rfl (.tmp 23) (.tmp 24) 34 rfl (w.heap.size) 42 i0 _ 4 72 underlying34 hi Wp Xy Wr rfl (by decide) _ _ _ rfl RW5.o.ow ⟨_, 0, none⟩ 1 1 [.int .i64 k2, .string nm2, .slice na2 nl2 nc2, .slice ka2 kl2 kc2] rfl rfl Tu.o (by simp [Value.oneCell']) (by unfold maxLen; simp) (by simp) (by omega) ?_)
   intro v' w6 Z1 Zy _ Ys;have Te := Za (RW5.o.put Z1 Zy (Ys.imp_right fun e => ⟨_, e, xR⟩) (Zl.refl pb _) Xc rfl Tz.o)
   have Zu : xQ (Zl pb w w6) := X5.o.1.grown Zy Xc fun k hk => by simp [Value.ownBlock] at hk; omega
   have Jr : xQ (Z2 w6 pb tb cap ts d (Zf R5)) := X5.o.2.grown Zy fun k hk => by simp [Value.ownBlock] at hk; omega
   clear Z1 Zy Ys;go_wp2_with fail
   go_ret2
   refine ⟨Zu.o, Jr.o, Wm R2, _, _, _, rfl, Te.o, by simp, by simp, fun h b e => ?_⟩;obtain ⟨b2, x, b3, y, e2, e3, e5, e6⟩ := HV.o h b e;obtain ⟨t, rfl, rfl⟩ := HN.o _ _ e3;obtain ⟨t, rfl, rfl⟩ := HM.o _ _ e5;rw [e6, e2];exact ⟨rfl, rfl⟩
def Np {α β : Type} (ts : List Tok) (one : Nat -> Pr α) (g : α -> β) (sep : List UInt8) (Rm : Pr (List α)) (S : Ya) (acc : List β) (gk : Nat) : Prop :=
 (∃ b l m, S = .inl b /\ acc = l.map g /\ Rm = ((Yd ts one sep (m + 1) b).go fun r c => .inl (l ++ r, c)) /\ ts.length <= b + m + 1 /\ l.length <= b /\ ts.length - b <= gk) ∨ ∃ e, S = .inr e /\ Rm = .inr e /\ acc.length <= 8194
section
variable {α β : Type} {ts : List Tok} {one : Nat -> Pr α} {put : Pr α -> β} {g : α -> β} {sep : List UInt8} {Rm : Pr (List α)} {S : Ya} {acc : List β} {gk : Nat}
theorem Np.start (f : Nat) (hf : ts.length <= f + 1) (hR : Rm = Zj (fun a => Yd ts one sep (f + 1) a) S) : Np ts one g sep Rm S [] ts.length := by
 cases S with
 | inr p => exact .inr ⟨p, rfl, hR, by simp⟩
 | inl a =>
  refine .inl ⟨a, [], f, rfl, rfl, ?_, by omega, by simp, by omega⟩;rw [hR];show Yd ts one sep (f + 1) a = _
  cases Yd ts one sep (f + 1) a with
  | inr e => rfl
  | inl q => rfl
theorem Np.len (h : Np ts one g sep Rm S acc gk) (hb : ∀ b, S = .inl b -> b < 8193) : acc.length <= 8194 := by
 rcases h with ⟨b, l, m, e, rfl, _, _, h1, _⟩ | ⟨e, _, _, h⟩
 ·have := hb b e
  rw [List.length_map];omega
 ·exact h
theorem Np.more (h : Np ts one g sep Rm S acc gk) (hp : ∀ x b, put (.inl (x, b)) = g x) (hs : Yw ts (Zf (Zj one S)) sep = true) (hu : ∀ a x b, one a = .inl (x, b) -> a <= b) (hb : ∀ b, Zf (Zj one S) = .inl b -> b + 1 < ts.length) : ∃ g', g' < gk /\ Np ts one g sep Rm (Ph (Zf (Zj one S))) (acc ++ [put (Zj one S)]) g' := by
 rcases h with ⟨b, l, m, rfl, rfl, hr, h3, h4, h5⟩ | ⟨e, rfl, h2, h3⟩
 ·cases ho : one b with
  | inr e =>
   have : Zf (Zj one (.inl b)) = .inr e := by show Zf (one b) = _; rw [ho]; rfl
   rw [this] at hs;cases hs
  | inl q =>
   obtain ⟨x, c⟩ := q;have e1 : Zj one (.inl b) = .inl (x, c) := ho;have hbc := hu _ _ _ ho;rw [e1] at hs hb ⊢;have hc := hb c rfl;have Mr : Zh ts c sep = true := hs;refine ⟨ts.length - (c + 1), by omega, .inl ⟨c + 1, l ++ [x], m - 1, rfl, by simp [hp], ?_, by omega, by simp; omega, xR⟩⟩
   obtain ⟨m, rfl⟩ : ∃ q, m = q + 1 := ⟨m - 1, by omega⟩
   rw [hr, Yd, ho];show ((if Zh ts c sep then _ else _ : Pr (List α)).go _) = _;rw [if_pos Mr, Nat.add_sub_cancel]
   cases Yd ts one sep (m + 1) (c + 1) with
   | inr e => rfl
   | inl q =>
    show (Sum.inl (l ++ (x :: q.1), q.2) : Pr (List α)) = .inl (l ++ [x] ++ q.1, q.2);simp
 ·cases hs
theorem Np.end_ (h : Np ts one g sep Rm S acc gk) (hp : ∀ x b, put (.inl (x, b)) = g x) (hs : Yw ts (Zf (Zj one S)) sep = false) : Zf Rm = Zf (Zj one S) /\ ∀ l b, Rm = .inl (l, b) -> acc ++ [put (Zj one S)] = l.map g := by
 rcases h with ⟨b, l, m, rfl, rfl, hr, h3, h4, h5⟩ | ⟨e, rfl, h2, h3⟩
 ·cases ho : one b with
  | inr e =>
   have e1 : Zj one (.inl b) = .inr e := ho
   have : Rm = .inr e := by rw [hr, Yd, ho]; rfl
   rw [e1, this];exact ⟨rfl, fun l b e => by cases e⟩
  | inl q =>
   obtain ⟨x, c⟩ := q;have e1 : Zj one (.inl b) = .inl (x, c) := ho;rw [e1] at hs ⊢;have Mr : Zh ts c sep = false := hs
   have : Rm = .inl (l ++ [x], c) := by
    rw [hr, Yd, ho];show ((if Zh ts c sep then _ else _ : Pr (List α)).go _) = _;rw [Mr];rfl
   rw [this];refine ⟨rfl, fun l' b' e => ?_⟩;injection e with e;injection e with e _;rw [<- e];simp [hp]
 ·rw [h2]
  exact ⟨rfl, fun l b e => by cases e⟩
end
def TysP (lo : Nat) (w' : World) (R : Pr (List Ty)) (e : Ending) : Prop :=
 ∃ (av : Option Addr) (cv : Nat) (cs : List (List Value)) (acc : List (Option Ty)), e = .returned (.slice av acc.length cv) /\ Ym Uv lo 42 4 none w' (.slice av acc.length cv) cs acc /\ acc.length <= 8195 /\ ∀ l b, R = .inl (l, b) -> acc = l.map some
theorem sF (pb tb cap d : Nat) (ts : List Tok) (ok : Yh ts) (K : Nat -> Pr Ty) (hu : ∀ a x b, K a = .inl (x, b) -> a <= b) (f : Nat) (hf : ts.length <= f + 1)
  (hK : ∀ S w, Z2 w pb tb cap ts d S -> Calls prog 77 #[pP pb] w (Pq pb tb cap ts d w (Zj K S)))
  (S : Ya) (w : World) (h : Z2 w pb tb cap ts d S) :
  Calls prog 174 #[pP pb] w fun e w' => Zl pb w w' /\ Z2 w' pb tb cap ts d (Zf (Zj (fun a => (Yd ts K [44] (f + 1) a).go fun l b => (Ze ts b [93]).go fun _ b => .inl (l, b)) S)) /\ TysP w.heap.size w' (Zj (fun a => (Yd ts K [44] (f + 1) a).go fun l b => (Ze ts b [93]).go fun _ b => .inl (l, b)) S) e := by
 obtain ⟨Rm, Q0⟩ := xE (Zj (fun a => Yd ts K [44] (f + 1) a) S)
 obtain ⟨R, hR⟩ := xE (Zj (fun a => (Yd ts K [44] (f + 1) a).go fun l b => (Ze ts b [93]).go fun _ b => .inl (l, b)) S)
 rw [<- hR]
 have HR : xQ (R = Rm.go fun l b => (Ze ts b [93]).go fun _ b => .inl (l, b)) := by
  rw [hR, Q0]
  cases S <;> rfl
 have N5 : xQ (Np ts K some [44] Rm S [] ts.length) := Np.start f hf Q0
 have HK := Za hK
 have HU := Za hu
 have OK := Za ok
 have Xc := h.ltp
 have Mn : xQ (RX pb tb cap ts w w d S []) := ⟨Zl.refl _ _, h, Xc, by simp⟩
 obtain ⟨i0, hi, Wp, Xy, Wr⟩ := info_parts Dp
 clear h hK hu ok hR Q0
 go_enter func174, ntmps174
 go_wp2_with fail
 go_loopg [3] (ts.length) (fun gk v wr => ∃ (S : Ya) (cs : List (List Value)) (acc : List (Option Ty)), xQ (RX pb tb cap ts w wr d S []) /\ xQ (Ym Uv w.heap.size 42 4 none wr v cs acc) /\ xQ (Np ts K some [44] Rm S acc gk))
 case atStart => exact ⟨S, [], [], Mn, Lb Uv w.heap.size 42 4 w, N5⟩
 case round =>
  clear Mn N5;obtain ⟨S', cs, acc, X, RT, HI⟩ := hrel
  have M9 : acc.length <= 8194 := HI.o.len fun b e => by
   obtain ⟨a, ha⟩ := X.o.at_;have := ha.live b e;have := ha.lt;have := OK.o.len;omega
  obtain ⟨av, cv, rfl⟩ := U9 RT.o.ow;have HC := Za (HK.o _ _ X.o.at_);obtain ⟨R2, Uc⟩ := xE (Zj K S');rw [<- Uc] at HC;have Zz := Za Uc;clear Uc;go_wp2_with fail;refine HC.o.mono ?_;rintro e w3 ⟨Zb, Zd, k2, nm2, na2, nl2, nc2, ka2, kl2, kc2, rfl, hv⟩;have hwr := X.o.st.size;have X3 := Za (((X.o.step Zb Zd).alloc (.cells #[.int .i64 k2, .string nm2, .slice na2 nl2 nc2, .slice ka2 kl2 kc2] 42)).drop)
  have Lz := Zb.size;have RW3 := Za (RT.o.stay (Zb.trans ((Zl.refl pb w3).alloc (xT X.o.at_.ltp Zb.size) (.cells #[.int .i64 k2, .string nm2, .slice na2 nl2 nc2, .slice ka2 kl2 kc2] 42))) Xc);have Tz := Za ((Wz.new (rep := Uv) (B := w.heap.size) (Ee hv) hwr fun q hq => RT.o.all q hq).stay ((Zl.refl pb w3).alloc (xT X.o.at_.ltp Zb.size) (.cells #[.int .i64 k2, .string nm2, .slice na2 nl2 nc2, .slice ka2 kl2 kc2] 42)) Xc)
  have Tu : xQ (∀ j u, ([.int .i64 k2, .string nm2, .slice na2 nl2 nc2, .slice ka2 kl2 kc2] : List Value)[j]? = some u -> ((w3.alloc (.cells #[.int .i64 k2, .string nm2, .slice na2 nl2 nc2, .slice ka2 kl2 kc2] 42)).alloc (.cells #[.int .i64 k2, .string nm2, .slice na2 nl2 nc2, .slice ka2 kl2 kc2] 42)).cell? ((⟨w3.heap.size + 1, 0, none⟩ : Addr).add j) = some u) := fun j u h => by
   have := Pt (w3.alloc (.cells #[.int .i64 k2, .string nm2, .slice na2 nl2 nc2, .slice ka2 kl2 kc2] 42)) [.int .i64 k2, .string nm2, .slice na2 nl2 nc2, .slice ka2 kl2 kc2] 42 j u h;rw [xS] at this;exact this
  clear Zb Zd hv HC X RT
  go_wp2_with (at_builtin; refine wpList_append_own_at _ rfl (.tmp 8) (.tmp 10) 34 rfl (w.heap.size) 42 i0 _ 4 72 underlying34 hi Wp Xy Wr rfl (by decide) _ _ _ rfl (RW3.o.ow.alloc _) ⟨_, 0, none⟩ 1 1 [.int .i64 k2, .string nm2, .slice na2 nl2 nc2, .slice ka2 kl2 kc2] rfl rfl Tu.o (by simp [Value.oneCell']) (by unfold maxLen; omega) (by omega) (by simp; omega) ?_)
  intro v' w4 Z1 Zy _ Ys
  have Xi : xQ (Ym Uv w.heap.size 42 4 none w4 v' (cs ++ [[.int .i64 k2, .string nm2, .slice na2 nl2 nc2, .slice ka2 kl2 kc2]]) (acc ++ [Vf R2])) :=
   RW3.o.put Z1 Zy (Ys.imp_right fun e => ⟨_, e, by simp⟩) ((Zl.refl pb _).alloc X3.o.at_.ltp _) Xc rfl (Tz.o.stay ((Zl.refl pb _).alloc X3.o.at_.ltp _) Xc)
  have Q9 : xQ (RX pb tb cap ts w w4 d (Zf R2) []) := by
   have hX := (X3.o.alloc (.cells #[.int .i64 k2, .string nm2, .slice na2 nl2 nc2, .slice ka2 kl2 kc2] 42)).drop
   have Zo : ∀ q, (Value.slice av acc.length cv).ownBlock = some q -> w.heap.size <= q := fun q hq => (RW3.o.own q hq).1
   exact ⟨hX.st.grown Zy hX.hp fun q hq => Zo q hq, hX.at_.grown Zy fun q hq => by have := Zo q hq; omega, hX.hp, by simp⟩
  clear Z1 Zy Ys RW3 X3 Tz Tu;go_wp2_with fail;refine (Wq pb tb cap d ts (Zf R2) [44] _ Q9.o.at_ OK.o).mono ?_;rintro e w5 ⟨rfl, Zb, Zd⟩;have X5 := Za (Q9.o.step Zb Zd);have R5 := Za (Xi.o.stay Zb Xc)
  have K7 : ∀ b, Zf R2 = .inl b -> b < ts.length := fun b e => by
   obtain ⟨a, ha⟩ := Q9.o.at_;have := ha.live b e;have := ha.lt;omega
  have Yx := Za K7;clear Zb Zd Q9 Xi K7
  cases hs : Yw ts (Zf R2) [44] with
  | true =>
   rw [hs, if_pos rfl] at X5
   obtain ⟨g', Pg, hn⟩ := HI.o.more (put := Vf) (fun _ _ => rfl) (by rw [<- Zz.o]; exact hs) HU.o (fun b e => by
    rw [<- Zz.o] at e;rw [e] at hs
    exact Q4 OK.o.ends (Yx.o b e) hs)
   rw [<- Zz.o] at hn;have HN := Za hn;clear hs hn HI;go_wp2_with fail
   go_roundg g'
   case measure => exact Pg
   case rel => exact ⟨_, _, _, X5, R5, HN⟩
  | false =>
   rw [hs, if_neg (by simp)] at X5;have Nc := HI.o.end_ (put := Vf) (fun _ _ => rfl) (by rw [<- Zz.o]; exact hs);rw [<- Zz.o] at Nc;have Tv := Za Nc;clear hs Nc HI
   have Ki : (acc ++ [Vf R2]).length = acc.length + 1 := by simp
   obtain ⟨av5, cv5, hv5⟩ := U9 R5.o.ow;subst hv5;go_wp2_with fail;refine (Ua pb tb cap d ts (Zf R2) [93] _ X5.o.at_ OK.o).mono ?_;rintro e w6 ⟨rfl, Zb, Zd⟩;have X6 := Za (X5.o.step Zb Zd);have R6 := Za (R5.o.stay Zb Xc);clear Zb Zd X5 R5;go_wp2_with fail;go_ret;refine ⟨X6.o.st, ?_, av5, cv5, _, acc ++ [Vf R2], by rw [Ki]; rfl, R6.o, by omega, fun l b e => ?_⟩
   ·have := X6.o.at_
    rw [HR.o];rw [<- Tv.o.1] at this
    cases hm : Rm with
    | inr q => rw [hm] at this; exact this
    | inl q =>
     rw [hm] at this;have h2 : Z2 w6 pb tb cap ts d (Zf (Ze ts q.2 [93])) := this;show Z2 w6 pb tb cap ts d (Zf ((Ze ts q.2 [93]).go fun _ b => .inl (q.1, b)))
     cases hw : Ze ts q.2 [93] with
     | inr p => rw [hw] at h2; exact h2
     | inl p => rw [hw] at h2; exact h2
   ·rw [HR.o] at e
    cases hm : Rm with
    | inr q => rw [hm] at e; cases e
    | inl q =>
     obtain ⟨l', b'⟩ := q;rw [hm] at e;have e2 : (Ze ts b' [93]).go (fun _ b => (.inl (l', b) : Pr (List Ty))) = .inl (l, b) := e
     cases hw : Ze ts b' [93] with
     | inr p => rw [hw] at e2; cases e2
     | inl p =>
      rw [hw] at e2;injection e2 with e2;injection e2 with e2 _;rw [<- e2];exact Tv.o.2 l' b' hm
end Go.Proofs.YtfoejkhfdiodhaaGreatDoor
namespace Go.Proofs.YtfoejkhfdiodhaaGreatDoor.Lx
open Go.Proofs.Tryz
open Go.RowKit
theorem Du (b : UInt8) (w : World) : Calls prog 114 #[.int .u8 b.toNat] w fun e w' => e = .returned (.bool (V2 b)) /\ w' = w := by
 have Bn : (b.toNat < 65) ∨ (65 <= b.toNat /\ b.toNat <= 90) ∨ (90 < b.toNat /\ b.toNat < 95) ∨ b.toNat = 95 ∨ b.toNat = 96 ∨ (97 <= b.toNat /\ b.toNat <= 122) ∨ 122 < b.toNat := by omega
 unfold V2
 generalize b.toNat = n at Bn ⊢
 rcases Bn with h | ⟨h1, h2⟩ | ⟨h1, h2⟩ | rfl | rfl | ⟨h1, h2⟩ | h
 ·have e : ((n : Int) == 95) = false := by simp; omega
  go_enter func114, ntmps114;go_wp2;go_ret;exact ⟨Mv (by first | rfl | (simp; done) | (simp; omega) | (rw [Bool.eq_iff_iff]; simp; omega)), rfl⟩
 ·go_enter func114, ntmps114
  go_wp2;go_ret;exact ⟨Mv (by first | rfl | (simp; done) | (simp; omega) | (rw [Bool.eq_iff_iff]; simp; omega)), rfl⟩
 ·have e : ((n : Int) == 95) = false := by simp; omega
  go_enter func114, ntmps114;go_wp2;go_ret;exact ⟨Mv (by first | rfl | (simp; done) | (simp; omega) | (rw [Bool.eq_iff_iff]; simp; omega)), rfl⟩
 ·go_enter func114, ntmps114
  go_wp2;go_ret;exact ⟨rfl, rfl⟩
 ·go_enter func114, ntmps114
  go_wp2;go_ret;exact ⟨rfl, rfl⟩
 ·go_enter func114, ntmps114
  go_wp2;go_ret;exact ⟨Mv (by first | rfl | (simp; done) | (simp; omega) | (rw [Bool.eq_iff_iff]; simp; omega)), rfl⟩
 ·have e : ((n : Int) == 95) = false := by simp; omega
  go_enter func114, ntmps114;go_wp2;go_ret;exact ⟨Mv (by first | rfl | (simp; done) | (simp; omega) | (rw [Bool.eq_iff_iff]; simp; omega)), rfl⟩
theorem Dg (b : UInt8) (w : World) : Calls prog 115 #[.int .u8 b.toNat] w fun e w' => e = .returned (.bool (Y9 b)) /\ w' = w := by
 have Bn : (b.toNat < 48) ∨ (48 <= b.toNat /\ b.toNat <= 57) ∨ 57 < b.toNat := by omega
 unfold Y9
 generalize b.toNat = n at Bn ⊢
 rcases Bn with h | ⟨h1, h2⟩ | h
 all_goals
  go_enter func115, ntmps115;go_wp2;go_ret;exact ⟨Mv (by first | rfl | (simp; done) | (simp; omega) | (rw [Bool.eq_iff_iff]; simp; omega)), rfl⟩
theorem zM {S : ByteArray} (h : S.size = 0) : Ho S.data.toList = false := by
 have : S.data.toList = [] := List.eq_nil_of_length_eq_zero (by rw [Xw]; exact h)
 rw [this]
 rfl
theorem zL {S : ByteArray} (h : 0 < S.size) : Ho S.data.toList = (decide (S.size <= 32) && V2 S[0] && S.data.toList.all Y8 && !Tl.contains S.data.toList) := by
 have e := Va S 0 h
 rw [List.drop_zero] at e
 have hl := Xw S
 rw [e] at hl
 conv => lhs; rw [e]
 rw [Ho, hl, <- e]
theorem yG (S : ByteArray) (p : UInt8 -> Bool) : (Y5 S 0 p = S.size) ↔ S.data.toList.all p = true := by
 unfold Y5
 rw [List.drop_zero, <- Xw, Nat.zero_add]
 generalize S.data.toList = l
 induction l with
 | nil => simp
 | cons b r ih =>
  by_cases h : p b = true
  ·rw [List.takeWhile_cons_of_pos h]
   simp [h, <- ih]
  ·rw [List.takeWhile_cons_of_neg h]
   simp [h]
theorem uU (S : ByteArray) (hS : S.size <= 140737488351232) (w : World) (hw : Words w) : Calls prog 128 #[.string S] w fun e w' => e = .returned (.bool (Ho S.data.toList)) /\ w' = w := by
 by_cases hz : S.size = 0
 ·have he : S.toList.isEmpty = true := by rw [Ed]; simp [hz]
  rw [zM hz];clear hw;go_enter func128, ntmps128;go_wp2;go_ret;exact ⟨rfl, rfl⟩
 have h0 : 0 < S.size := by omega
 have he : S.toList.isEmpty = false := by rw [Ed]; simp [hz]
 rw [zL h0]
 by_cases hl : 32 < S.size
 ·have hd : decide (S.size <= 32) = false := by simp; omega
  rw [hd];clear hd hw;go_enter func128, ntmps128;go_wp2;go_ret;exact ⟨rfl, rfl⟩
 have hd : decide (S.size <= 32) = true := by simp; omega
 rw [hd]
 clear hd hz
 have Zb := F1 S[0]
 cases hb : V2 S[0]
 ·rw [hb] at Zb
  have Zu := Za Zb;clear Zb hb hw;simp only [Bool.and_false, Bool.false_and];go_enter func128, ntmps128;go_wp2_with fail;refine (Zu.o _).mono ?_;rintro e w' ⟨rfl, rfl⟩;go_wp2;go_ret;exact ⟨rfl, rfl⟩
 rw [hb] at Zb
 have Zu := Za Zb
 have Yu := Oc S hS 0 (by omega)
 have Ux := yG S Y8
 have L0 := fun w h => Ii S w h
 have HW := Za hw
 obtain ⟨r, hr⟩ := xE (Y5 S 0 Y8)
 rw [<- hr] at Yu Ux
 have Jw := Za Yu
 have hrle : r <= S.size := by rw [hr]; exact G2 S 0 Y8 (by omega)
 clear Zb hb Yu hr hw
 cases ha : S.data.toList.all Y8
 ·have Z3 : ((r : Int) == (S.size : Int)) = false := by
   have : r ≠ S.size := fun e => by rw [Ux.1 e] at ha; cases ha
   simp;omega
  clear Ux ha L0;simp only [Bool.and_false, Bool.false_and];go_enter func128, ntmps128;go_wp2_with fail;refine (Zu.o _).mono ?_;rintro e w' ⟨rfl, rfl⟩;go_wp2_with fail;refine (Jw.o _).mono ?_;rintro e w' ⟨rfl, rfl⟩;go_wp2;go_ret;exact ⟨rfl, rfl⟩
 ·have heq : ((r : Int) == (S.size : Int)) = true := by
   have := Ux.2 ha;simp;omega
  cases hq : Tl.contains S.data.toList
  ·rw [hq] at L0
   have HWD := Za L0;clear Ux ha L0 hq;go_enter func128, ntmps128;go_wp2_with fail;refine (Zu.o _).mono ?_;rintro e w' ⟨rfl, rfl⟩;go_wp2_with fail;refine (Jw.o _).mono ?_;rintro e w' ⟨rfl, rfl⟩;go_wp2_with fail;refine (HWD.o _ HW.o).mono ?_;rintro e w' ⟨rfl, rfl⟩;go_wp2;go_ret;exact ⟨rfl, rfl⟩
  ·rw [hq] at L0
   have HWD := Za L0;clear Ux ha L0 hq;go_enter func128, ntmps128;go_wp2_with fail;refine (Zu.o _).mono ?_;rintro e w' ⟨rfl, rfl⟩;go_wp2_with fail;refine (Jw.o _).mono ?_;rintro e w' ⟨rfl, rfl⟩;go_wp2_with fail;refine (HWD.o _ HW.o).mono ?_;rintro e w' ⟨rfl, rfl⟩;go_wp2;go_ret;exact ⟨rfl, rfl⟩
theorem Zx {w w1 w2 : World} (h : Below w.heap.size w w1) (k : Below w1.heap.size w1 w2) : Below w.heap.size w w2 := h.trans (k.mono h.size)
theorem Zq (w : World) (o : Obj) : Below w.heap.size w (w.alloc o) := (Below.refl _ w).alloc (xR) o
def Um (li co e : Int) : Obj := .cells #[.int .i64 0, .int .i64 li, .int .i64 co, .int .i64 e] 29
theorem eK (w : World) : Calls prog 142 #[] w fun e w' => e = .returned (.slice (some ⟨w.heap.size, 0, none⟩) 25 25) /\ Below w.heap.size w w' /\ ∀ i, i < 25 -> w'.cell? ⟨w.heap.size, i, none⟩ = some (.string (Mi i)) := by
 go_enter func142, ntmps142
 go_wp2
 go_ret
 refine ⟨rfl, Zq w _, ?_⟩
 intro i hi
 rw [cell_of_row _ _ i _ _ (0, 0) (xL w _)]
 match i, hi with
 | 0, _ => rfl
 | 1, _ => rfl
 | 2, _ => rfl
 | 3, _ => rfl
 | 4, _ => rfl
 | 5, _ => rfl
 | 6, _ => rfl
 | 7, _ => rfl
 | 8, _ => rfl
 | 9, _ => rfl
 | 10, _ => rfl
 | 11, _ => rfl
 | 12, _ => rfl
 | 13, _ => rfl
 | 14, _ => rfl
 | 15, _ => rfl
 | 16, _ => rfl
 | 17, _ => rfl
 | 18, _ => rfl
 | 19, _ => rfl
 | 20, _ => rfl
 | 21, _ => rfl
 | 22, _ => rfl
 | 23, _ => rfl
 | 24, _ => rfl
 | n + 25, h => exact absurd h (by omega)
theorem eJ (s : ByteArray) (w : World) : Calls prog 116 #[.string s] w fun e w' => e = .returned (.bool (Tl.contains s.data.toList)) /\ Below w.heap.size w w' := by
 obtain ⟨b, hb⟩ := xE (Tl.contains s.data.toList)
 rw [<- hb]
 have HB := Za hb
 clear hb
 go_enter func116, ntmps116
 go_wp2_with fail
 refine (eK _).mono ?_
 rintro e w1 ⟨rfl, Zt, hc⟩
 have Yl := Za Zt
 have HC := Za hc
 clear Zt hc
 go_wp2
 go_loop [4] (fun i => ∃ k : Nat, k <= 25 /\ i = .int .i64 k /\ xQ (Al s k)) (fun i => 25 - (intOf i).toNat)
 case atStart => exact ⟨0, by omega, rfl, fun i hi => by omega⟩
 case round =>
  obtain ⟨k, hk, rfl, Vb⟩ := hrel;by_cases Zo : k < 25
  ·have hck := HC.o k Zo
   obtain ⟨t, ht⟩ := xE (Mi k);rw [<- ht] at hck;have HT := Za ht;clear ht
   have hkI : (k : Int) < 25 := by omega
   cases hq : (t.toList == s.toList)
   ·have Jg : xQ (Al s (k + 1)) := fun i hi => by
     by_cases hik : i = k
     ·subst hik; rw [<- HT.o]; exact (Ar hq).symm
     ·exact Vb.o i (by omega)
    go_wp2
    go_round
    case rel => exact ⟨k + 1, by omega, by go_num, Jg⟩
    case measure => simp [intOf]; omega
   ·have e : b = true := by
     rw [HB.o];exact (Ay s).2 ⟨k, Zo, (Ge.1 hq).symm.trans HT.o⟩
    subst e;go_wp2;go_ret;exact ⟨rfl, Yl.o⟩
  ·have e : b = false := by
    rw [HB.o, Bool.eq_false_iff];intro h;obtain ⟨i, hi, e⟩ := (Ay s).1 h;exact Vb.o i (by omega) e
   subst e;go_wp2;go_ret;exact ⟨rfl, Yl.o⟩
theorem Io {b : UInt8} (h : Y9 b = true) : V2 b = false := by
 unfold Y9 at h
 unfold V2
 simp at h ⊢
 omega
def Au (i : Nat) : ByteArray := ⟨#[(L5.getD i (0, 0)).1, (L5.getD i (0, 0)).2]⟩
theorem wO {S : ByteArray} (h : 2 <= S.size) : S.extract 0 2 = ⟨#[S[0], S[1]]⟩ := by
 rw [Dh, List.drop_zero]
 have e := Va S 0 (by omega)
 rw [List.drop_zero, Va S 1 (by omega)] at e
 rw [e]
 rfl
theorem uP {S : ByteArray} (h : 2 <= S.size) : S.data.toList = S[0] :: S[1] :: S.data.toList.drop 2 := by
 have e := Va S 0 (by omega)
 rw [List.drop_zero, Va S 1 (by omega)] at e
 exact e
theorem pR (a b : UInt8) : L5.contains (a, b) = true ↔ ∃ i, i < 8 /\ (⟨#[a, b]⟩ : ByteArray) = Au i := by
 rw [List.contains_iff_mem]
 constructor
 ·intro h
  obtain ⟨i, hi, e⟩ := List.mem_iff_getElem.1 h;refine ⟨i, hi, ?_⟩;unfold Au;rw [List.getD_eq_getElem?_getD, List.getElem?_eq_getElem hi, Option.getD_some, e]
 ·rintro ⟨i, hi, e⟩
  unfold Au at e;rw [List.getD_eq_getElem?_getD, List.getElem?_eq_getElem (show i < L5.length from hi), Option.getD_some] at e;simp only [ByteArray.mk.injEq, Array.mk.injEq, List.cons.injEq, and_true] at e
  have : (a, b) = L5[i]'hi := by rw [e.1, e.2]; rfl
  rw [this];exact List.getElem_mem ..
def I4 (S : ByteArray) (k : Nat) : Prop := ∀ i, i < k -> ¬ (2 <= S.size /\ S.extract 0 2 = Au i)
theorem sU {S : ByteArray} {i : Nat} (h : 2 <= S.size) (hi : i < 8) (e : S.extract 0 2 = Au i) : V5 S.data.toList = 2 := by
 rw [wO h] at e
 rw [uP h, V5, if_pos ((pR _ _).2 ⟨i, hi, e⟩)]
theorem sT {S : ByteArray} (h : 0 < S.size) (hn : I4 S 8) : V5 S.data.toList = if Gb.contains S[0] then 1 else 0 := by
 by_cases h2 : 2 <= S.size
 ·rw [uP h2, V5, if_neg]
  rw [pR];rintro ⟨i, hi, e⟩;exact hn i hi ⟨h2, by rw [wO h2]; exact e⟩
 ·have e := Va S 0 h
  rw [List.drop_zero, List.drop_eq_nil_of_le (by rw [Xw]; omega)] at e;rw [e, V5]
def zR (O : ByteArray) (b : UInt8) (k : Nat) : Prop := ∀ i (h : i < O.size), i < k -> b ≠ O[i]
theorem one_no {O : ByteArray} {b : UInt8} (hO : O.data.toList = Gb) (h : zR O b O.size) : Gb.contains b = false := by
 rw [Bool.eq_false_iff]
 intro hc
 rw [List.contains_iff_mem, <- hO] at hc
 obtain ⟨i, hi, e⟩ := List.mem_iff_getElem.1 hc
 have Qs : i < O.size := by rw [<- Xw]; exact hi
 exact h i Qs Qs e.symm
theorem gJ {O : ByteArray} {b : UInt8} {i : Nat} (hO : O.data.toList = Gb) (hi : i < O.size) (e : b = O[i]) : Gb.contains b = true := by
 rw [List.contains_iff_mem, <- hO, e]
 have Qs : i < O.data.toList.length := by rw [Xw]; exact hi
 exact List.getElem_mem Qs
theorem Fi {B : Nat} {a w : World} (h : Below B a w) (n : Nat) : Below B a (w.drewN n) := ⟨h.os, h.tape, h.output, h.size, h.block⟩
theorem rI (w : World) (ty : TypeId) : ∀ i, i < 8 -> (w.alloc (.cells #[.string { data := #[45, 62] }, .string { data := #[61, 62] }, .string { data := #[60, 58] }, .string { data := #[60, 60] }, .string { data := #[60, 61] }, .string { data := #[62, 62] }, .string { data := #[61, 61] }, .string { data := #[43, 43] }] ty)).cell? ⟨w.heap.size, i, none⟩ = some (.string (Au i)) := by
 intro i hi
 rw [cell_of_row _ _ i _ ty (0, 0) (xL w _)]
 match i, hi with
 | 0, _ => rfl
 | 1, _ => rfl
 | 2, _ => rfl
 | 3, _ => rfl
 | 4, _ => rfl
 | 5, _ => rfl
 | 6, _ => rfl
 | 7, _ => rfl
theorem sW (S : ByteArray) (h0 : 0 < S.size) (hS : S.size <= 65536) (w : World) : Calls prog 119 #[.string S] w fun e w' => e = .returned (.int .i64 (V5 S.data.toList)) /\ Below w.heap.size w w' := by
 obtain ⟨r, hr⟩ := xE (V5 S.data.toList)
 rw [<- hr]
 have HR := Za hr
 clear hr
 have U6 := rI w 9
 have Z8 := Zq w (.cells #[.string { data := #[45, 62] }, .string { data := #[61, 62] }, .string { data := #[60, 58] }, .string { data := #[60, 60] }, .string { data := #[60, 61] }, .string { data := #[62, 62] }, .string { data := #[61, 61] }, .string { data := #[43, 43] }] 9)
 have h0I : (0 : Int) < (S.size : Int) := by omega
 obtain ⟨O, hO⟩ : ∃ O : ByteArray, O = { data := #[40, 41, 123, 125, 91, 93, 44, 58, 59, 61, 43, 45, 42, 47, 37, 38, 94, 60, 124, 46] } := ⟨_, rfl⟩
 have hOs : O.size = 20 := by rw [hO]; rfl
 have HOL : xQ (O.data.toList = Gb) := by show _ = _; rw [hO]; rfl
 have HO := Za hO
 have HOS := Za hOs
 clear hO
 go_enter func119, ntmps119
 go_wp2
 generalize hw1 : w.alloc _ = w1 at U6 Z8 ⊢
 have HC := Za U6
 have HB := Za Z8
 clear U6 Z8 hw1
 go_loopw [4] (fun i wr => ∃ k n : Nat, k <= 8 /\ i = .int .i64 k /\ wr = w1.drewN n /\ xQ (I4 S k)) (fun i _ => 8 - (intOf i).toNat)
 case atStart => exact ⟨0, 0, by omega, rfl, rfl, fun i hi => by omega⟩
 case round =>
  obtain ⟨k, n, hk, rfl, rfl, Vb⟩ := hrel;by_cases Zo : k < 8
  ·have hkI : (k : Int) < 8 := by omega
   have c := HC.o k Zo;obtain ⟨U, hU⟩ := xE (Au k);rw [<- hU] at c;have HU := Za hU;clear hU;by_cases h2 : 2 <= S.size
   ·have h2I : (2 : Int) <= (S.size : Int) := by omega
    cases hq : ((S.extract 0 2).toList == U.toList)
    ·have Jg : xQ (I4 S (k + 1)) := fun i hi => by
      by_cases hik : i = k
      ·subst hik; rw [<- HU.o]; exact fun h => Ar hq h.2
      ·exact Vb.o i (by omega)
     go_wp2
     go_quiet (fail)
     go_wp2
     go_roundw
     case rel => exact ⟨k + 1, _, by omega, by go_num, rfl, Jg⟩
     case measure => simp [intOf]; omega
    ·have e : r = 2 := by
      rw [HR.o];exact sU h2 Zo ((Ge.1 hq).trans HU.o)
     subst e;go_wp2
     go_quiet (fail)
     go_wp2;go_ret;exact ⟨rfl, by first | exact Fi HB.o _ | exact Fi (Fi HB.o _) _⟩
   ·have h2I : decide ((2 : Int) <= (S.size : Int)) = false := by simp; omega
    have Jg : xQ (I4 S (k + 1)) := fun i hi h => h2 h.1
    go_wp2
    go_quiet (fail)
    go_wp2
    go_roundw
    case rel => exact ⟨k + 1, _, by omega, by go_num, rfl, Jg⟩
    case measure => simp [intOf]; omega
  ·have Xx := Za (sT h0 (fun i hi => Vb.o i (by omega)))
   go_wp2;rw [<- HO.o]
   go_loopw [6] (fun i wr => ∃ k n : Nat, k <= 20 /\ i = .int .i64 k /\ wr = w1.drewN n /\ xQ (zR O S[0] k)) (fun i _ => 20 - (intOf i).toNat)
   case atStart => exact ⟨0, _, by omega, rfl, rfl, fun i _ hi => by omega⟩
   case round =>
    obtain ⟨j, n2, hj, rfl, rfl, hno2⟩ := hrel;by_cases hltj : j < 20
    ·have hjs : j < O.size := by omega
     have hjI : (j : Int) < (O.size : Int) := by omega
     by_cases hq : S[0].toNat = O[j].toNat
     ·have p : ((S[0].toNat : Int) == (O[j].toNat : Int)) = true := by simp; omega
      have e : r = 1 := by
       rw [HR.o, Xx.o, gJ HOL.o hjs (UInt8.toNat_inj.1 hq)];rfl
      subst e;clear hq;go_wp2
      go_quiet (fail)
      go_wp2;go_ret;exact ⟨rfl, by first | exact Fi HB.o _ | exact Fi (Fi HB.o _) _⟩
     ·have p : ((S[0].toNat : Int) == (O[j].toNat : Int)) = false := by simp; omega
      have Jg : xQ (zR O S[0] (j + 1)) := fun i hi hik => by
       by_cases e : i = j
       ·subst e; exact fun e2 => hq (by rw [e2])
       ·exact hno2.o i hi (by omega)
      clear hq;go_wp2
      go_quiet (fail)
      go_wp2
      go_roundw
      case rel => exact ⟨j + 1, _, by omega, by go_num, rfl, Jg⟩
      case measure => simp [intOf]; omega
    ·have hjI : ¬ (j : Int) < (O.size : Int) := by omega
     have e : r = 0 := by
      rw [HR.o, Xx.o, one_no HOL.o (fun i hi _ => hno2.o i hi (by omega))];rfl
     subst e;go_wp2;go_ret;exact ⟨rfl, by first | exact Fi HB.o _ | exact Fi (Fi HB.o _) _⟩
end Go.Proofs.YtfoejkhfdiodhaaGreatDoor.Lx
namespace Go.Proofs.YtfoejkhfdiodhaaGreatDoor.Lx
open Go.Proofs.Tryz
end Go.Proofs.YtfoejkhfdiodhaaGreatDoor.Lx
namespace Go.Proofs.YtfoejkhfdiodhaaGreatDoor.Lx
open Go.Proofs.Tryz
open Go.RowKit
theorem Cc (T U : ByteArray) : (T ++ U).data.toList = T.data.toList ++ U.data.toList := by simp
theorem Cd (T U : ByteArray) : (T ++ U).size = T.size + U.size := by simp [ByteArray.size_append]
theorem O3 {S : ByteArray} {k : Nat} (hk : k < S.size) : (S.extract k (k + 1)).data.toList = [S[k]] := by
 rw [Dh, Nat.add_sub_cancel_left, Va S k hk]
 rfl
theorem wN {S : ByteArray} {k : Nat} (hk : k < S.size) : (S.extract k (k + 1)).size = 1 := by
 rw [<- Xw, O3 hk]
 rfl
def xJ (S : ByteArray) (o : Option (List UInt8 × List UInt8)) (e : Ending) : Prop :=
 match o with
 | none => e = .returned (.tuple #[.string { data := #[] }, .int .i64 0])
 | some (said, rest) => ∃ m : Nat, 1 < m /\ m <= S.size /\ rest = S.data.toList.drop m /\ e = .returned (.tuple #[.string ⟨said.toArray⟩, .int .i64 m])
theorem fV (S : ByteArray) (hS : S.size <= 65536) (w : World) : Calls prog 118 #[.string S] w fun e w' => xJ S (Ur S 1 []) e /\ w' = w := by
 obtain ⟨o, ho⟩ := xE (Ur S 1 [])
 rw [<- ho]
 have HO := Za ho
 clear ho
 go_enter func118, ntmps118
 go_wp2
 go_loop [4, 5] (fun v i => ∃ (m : Nat) (T : ByteArray), 1 <= m /\ m <= S.size + 1 /\ i = .int .i64 m /\ v = .string T /\ T.size <= m /\ xQ (o = Ur S m T.data.toList)) (fun _ i => S.size + 1 - (intOf i).toNat)
 case atStart => exact ⟨1, _, xR, by omega, rfl, rfl, by decide, HO.o⟩
 case round =>
  obtain ⟨m, T, B6, hmS, rfl, rfl, hT, hrel⟩ := hrel;by_cases Zo : m < S.size
  ·have Dk : (m : Int) < (S.size : Int) := by omega
   by_cases b1 : S[m].toNat = 34
   ·have p1 : ((S[m].toNat : Int) == 34) = true := by simp; omega
    have e := hrel.o.trans (pA Zo b1);subst e;clear b1 hrel HO;go_wp2
    go_ret2
    exact ⟨⟨m + 1, by omega, by omega, rfl, rfl⟩, rfl⟩
   have n1 : ((S[m].toNat : Int) == 34) = false := by simp; omega
   by_cases b2 : S[m].toNat < 32
   ·have p2 : (S[m].toNat : Int) < 32 := by omega
    have e := hrel.o.trans (qX Zo b2);subst e;clear b1 b2 hrel HO;go_wp2
    go_ret2
    exact ⟨rfl, rfl⟩
   have n2 : ¬ (S[m].toNat : Int) < 32 := by omega
   by_cases b3 : S[m].toNat = 92
   ·have p3 : ((S[m].toNat : Int) != 92) = false := by simp; omega
    by_cases Wh : m + 1 < S.size
    ·have hl1I : ¬ (S.size : Int) <= (m : Int) + 1 := by omega
     have hl1J : (m : Int) + 1 < (S.size : Int) := by omega
     have hx1 := Za (O3 Wh);have hx2 := wN Wh
     have l1 : (m : Int) + 1 + 1 <= (S.size : Int) := by omega
     have l2 : (m : Int) + 1 <= (m : Int) + 1 + 1 := by omega
     have some1 := fun x => pB (acc := T.data.toList) (x := x) Zo b3 Wh
     have none1 := qY (acc := T.data.toList) Zo b3 Wh;by_cases c1 : S[m + 1].toNat = 92
     ·have q1 : ((S[m + 1].toNat : Int) == 92) = true := by simp; omega
      have e1 : S[m + 1] = 92 := UInt8.toNat_inj.1 c1
      have E : xQ (o = Ur S (m + 2) (T ++ S.extract (m + 1) (m + 1 + 1)).data.toList) := by
       show _ = _;rw [Cc, hx1.o, e1, hrel.o];exact some1 92 (by rw [e1]; rfl)
      clear c1 e1 b1 b2 b3 some1 none1 hrel HO hx1;go_wp2
      go_round
      case rel => exact ⟨m + 2, _, by omega, by omega, by go_num, rfl, by rw [Cd]; omega, E⟩
      case measure => simp [intOf]; omega
     have r1 : ((S[m + 1].toNat : Int) == 92) = false := by simp; omega
     by_cases c2 : S[m + 1].toNat = 34
     ·have q2 : ((S[m + 1].toNat : Int) == 34) = true := by simp; omega
      have e1 : S[m + 1] = 34 := UInt8.toNat_inj.1 c2
      have E : xQ (o = Ur S (m + 2) (T ++ S.extract (m + 1) (m + 1 + 1)).data.toList) := by
       show _ = _;rw [Cc, hx1.o, e1, hrel.o];exact some1 34 (by rw [e1]; rfl)
      clear c1 c2 e1 b1 b2 b3 some1 none1 hrel HO hx1;go_wp2
      go_round
      case rel => exact ⟨m + 2, _, by omega, by omega, by go_num, rfl, by rw [Cd]; omega, E⟩
      case measure => simp [intOf]; omega
     have r2 : ((S[m + 1].toNat : Int) == 34) = false := by simp; omega
     by_cases c3 : S[m + 1].toNat = 110
     ·have q3 : ((S[m + 1].toNat : Int) == 110) = true := by simp; omega
      have e1 : S[m + 1] = 110 := UInt8.toNat_inj.1 c3
      have E : xQ (o = Ur S (m + 2) (T ++ { data := #[10] }).data.toList) := by
       show _ = _;rw [Cc, hrel.o];exact some1 10 (by rw [e1]; rfl)
      have Xx : (T ++ { data := #[10] } : ByteArray).size <= m + 2 := by rw [Cd]; show T.size + 1 <= m + 2; omega
      clear c1 c2 c3 e1 b1 b2 b3 some1 none1 hrel HO hx1;go_wp2
      go_round
      case rel => exact ⟨m + 2, _, by omega, by omega, by go_num, rfl, Xx, E⟩
      case measure => simp [intOf]; omega
     have r3 : ((S[m + 1].toNat : Int) == 110) = false := by simp; omega
     by_cases c4 : S[m + 1].toNat = 116
     ·have q4 : ((S[m + 1].toNat : Int) == 116) = true := by simp; omega
      have e1 : S[m + 1] = 116 := UInt8.toNat_inj.1 c4
      have E : xQ (o = Ur S (m + 2) (T ++ { data := #[9] }).data.toList) := by
       show _ = _;rw [Cc, hrel.o];exact some1 9 (by rw [e1]; rfl)
      have Xx : (T ++ { data := #[9] } : ByteArray).size <= m + 2 := by rw [Cd]; show T.size + 1 <= m + 2; omega
      clear c1 c2 c3 c4 e1 b1 b2 b3 some1 none1 hrel HO hx1;go_wp2
      go_round
      case rel => exact ⟨m + 2, _, by omega, by omega, by go_num, rfl, Xx, E⟩
      case measure => simp [intOf]; omega
     have r4 : ((S[m + 1].toNat : Int) == 116) = false := by simp; omega
     have f : ∀ n : UInt8, S[m + 1].toNat ≠ n.toNat -> ¬ S[m + 1] = n := fun n hn e => hn (by rw [e])
     have e := hrel.o.trans (none1 (by rw [Kp, if_neg (f 92 c1), if_neg (f 34 c2), if_neg (f 110 c3), if_neg (f 116 c4)]));subst e;clear c1 c2 c3 c4 b1 b2 b3 some1 none1 hrel HO hx1 f;go_wp2
     go_ret2
     exact ⟨rfl, rfl⟩
    ·have hl1I : (S.size : Int) <= (m : Int) + 1 := by omega
     have e := hrel.o.trans (qV Zo b3 Wh);subst e;clear b1 b2 b3 hrel HO;go_wp2
     go_ret2
     exact ⟨rfl, rfl⟩
   have n3 : ((S[m].toNat : Int) != 92) = true := by simp; omega
   have hx1 := Za (O3 Zo);have hx2 := wN Zo
   have l1 : (m : Int) + 1 <= (S.size : Int) := by omega
   have l2 : (m : Int) <= (m : Int) + 1 := by omega
   have E : xQ (o = Ur S (m + 1) (T ++ S.extract m (m + 1)).data.toList) := by
    show _ = _;rw [Cc, hx1.o, hrel.o];exact qZ Zo b1 b2 b3
   clear b1 b2 b3 hrel HO hx1;go_wp2
   go_round
   case rel => exact ⟨m + 1, _, by omega, by omega, by go_num, rfl, by rw [Cd]; omega, E⟩
   case measure => simp [intOf]; omega
  ·have Dk : ¬ (m : Int) < (S.size : Int) := by omega
   have e := hrel.o.trans (qW Zo);subst e;clear hrel HO;go_wp2
   go_ret2
   exact ⟨rfl, rfl⟩
end Go.Proofs.YtfoejkhfdiodhaaGreatDoor.Lx
namespace Go.Proofs.YtfoejkhfdiodhaaGreatDoor.Lx
open Go.Proofs.Tryz
def val : List UInt8 -> Int -> Int
 | [], n => n
 | d :: r, n => val r (n * 10 + ((d.toNat : Int) - 48))
def Mw (d : UInt8) : Prop := 48 <= (d.toNat : Int) /\ (d.toNat : Int) <= 57
theorem mF : ∀ (l : List UInt8) (n : Int), 0 <= n -> (∀ d ∈ l, Mw d) -> n <= val l n
 | [], n, _, _ => Int.le_refl n
 | d :: r, n, hn, hd => by
  have h := hd d (xM ..);unfold Mw at h;have := mF r (n * 10 + ((d.toNat : Int) - 48)) (by omega) (fun x hx => hd x (xW _ hx));rw [val];omega
theorem mE : ∀ (l : List UInt8) (d : UInt8) (n : Int), val (l ++ [d]) n = val l n * 10 + ((d.toNat : Int) - 48)
 | [], _, _ => rfl
 | x :: r, d, n => by
  rw [List.cons_append, val, val, mE r d]
theorem tR : ∀ (l : List UInt8) (n : Int), 0 <= n -> (∀ d ∈ l, Mw d) -> val l n <= 9223372036854775807 -> Mu l n = some (val l n)
 | [], _, _, _, _ => rfl
 | d :: r, n, hn, hd, hv => by
  have h := hd d (xM ..);unfold Mw at h
  have hr : ∀ x ∈ r, Mw x := fun x hx => hd x (xW _ hx)
  rw [val] at hv ⊢;have hg := mF r (n * 10 + ((d.toNat : Int) - 48)) (by omega) hr;rw [Mu, if_neg (by omega), if_neg (by omega)];exact tR r _ (by omega) hr hv
theorem E5 : ∀ (l : List UInt8) (n : Int), 0 <= n -> ((∃ d ∈ l, ¬ Mw d) ∨ (∀ d ∈ l, Mw d) /\ 9223372036854775807 < val l n /\ n <= 9223372036854775807) -> Mu l n = none
 | [], n, _, h => by
  rcases h with ⟨d, hd, _⟩ | ⟨_, h, h2⟩
  ·cases hd
  ·rw [val] at h
   omega
 | d :: r, n, hn, h => by
  rw [Mu];by_cases hd : (d.toNat : Int) < 48 ∨ 57 < (d.toNat : Int)
  ·rw [if_pos hd]
  rw [if_neg hd];by_cases ho : (9223372036854775807 - ((d.toNat : Int) - 48)) / 10 < n
  ·rw [if_pos ho]
  rw [if_neg ho];refine E5 r _ (by omega) ?_;rcases h with ⟨x, hx, Jh⟩ | ⟨ha, hv, hm⟩
  ·rcases List.mem_cons.1 hx with rfl | hx
   ·exact absurd (show Mw x from ⟨by omega, by omega⟩) Jh
   ·exact Or.inl ⟨x, hx, Jh⟩
  ·rw [val] at hv
   exact Or.inr ⟨fun x hx => ha x (xW _ hx), hv, by omega⟩
end Go.Proofs.YtfoejkhfdiodhaaGreatDoor.Lx
namespace Go.Proofs.YtfoejkhfdiodhaaGreatDoor.Lx
open Go.Proofs.Tryz
open Go.RowKit
def Tb (k : Nat) : Int := 10 ^ k - 1
theorem top_19 {k : Nat} (h : k <= 19) : Tb k <= 9999999999999999999 := by
 have : (10 : Nat) ^ k <= 10 ^ 19 := Nat.pow_le_pow_right (by decide) h
 have e : ((10 ^ k : Nat) : Int) = (10 : Int) ^ k := by simp
 unfold Tb
 omega
theorem top_18 {k : Nat} {m : Int} (h : m <= Tb k) (hk : k <= 18) : m <= 999999999999999999 := by
 have : (10 : Nat) ^ k <= 10 ^ 18 := Nat.pow_le_pow_right (by decide) hk
 have e : ((10 ^ k : Nat) : Int) = (10 : Int) ^ k := by simp
 unfold Tb at h
 omega
theorem rD {k : Nat} {m d : Int} (h : m <= Tb k) (hd : d <= 9) : 10 * m + d <= Tb (k + 1) := by
 have e : (10 : Int) ^ (k + 1) = 10 ^ k * 10 := Int.pow_succ 10 k
 unfold Tb at *
 omega
theorem pL (s : ByteArray) (k : Nat) (hk : k < s.size) : s.data.toList.take (k + 1) = s.data.toList.take k ++ [s[k]] := by
 have h : k < s.data.toList.length := by rw [Xw]; exact hk
 rw [List.take_succ_eq_append_getElem h]
 rfl
theorem rV (s : ByteArray) (k : Nat) (hk : k < s.size) : val (s.data.toList.take (k + 1)) 0 = 10 * val (s.data.toList.take k) 0 + ((s[k].toNat : Int) - 48) := by
 rw [pL s k hk, mE]
 omega
theorem zI (s : ByteArray) (k : Nat) (hk : k < s.size) : s[k] ∈ s.data.toList := by
 have h : k < s.data.toList.length := by rw [Xw]; exact hk
 exact List.getElem_mem h
theorem lA (s : ByteArray) (k : Nat) (hk : k < s.size) (h : ∀ d ∈ s.data.toList.take k, Mw d) (hd : Mw s[k]) : ∀ d ∈ s.data.toList.take (k + 1), Mw d := by
 rw [pL s k hk]
 intro d hm
 rcases List.mem_append.1 hm with hm | hm
 ·exact h d hm
 ·rw [List.mem_singleton.1 hm]
  exact hd
theorem mG : ∀ (l : List UInt8) (n : Int), 0 <= n -> (∀ d ∈ l, Mw d) -> n * 10 ^ l.length <= val l n
 | [], n, _, _ => by simp [val]
 | d :: r, n, hn, hd => by
  have h := hd d (xM ..);unfold Mw at h;have ih := mG r (n * 10 + ((d.toNat : Int) - 48)) (by omega) (fun x hx => hd x (xW _ hx));rw [val, List.length_cons, Int.pow_succ];have hp : (0 : Int) < 10 ^ r.length := Int.pow_pos (by decide)
  have : n * (10 ^ r.length * 10) <= (n * 10 + ((d.toNat : Int) - 48)) * 10 ^ r.length := by
   rw [Int.add_mul, Int.mul_comm (10 ^ r.length) 10, <- Int.mul_assoc];have := Int.mul_nonneg (show 0 <= (d.toNat : Int) - 48 by omega) (Int.le_of_lt hp);omega
  omega
theorem fC (s : ByteArray) (h0 : 0 < s.size) (hn : ¬ ((s[0].toNat : Int) = 48 /\ 1 < s.size)) (hl : 19 < s.size) : Pi s.data.toList = none := by
 rw [zX h0 hn]
 refine E5 _ 0 (by omega) ?_
 by_cases ha : ∀ d ∈ s.data.toList, Mw d
 ·refine Or.inr ⟨ha, ?_, by omega⟩
  have e := Va s 0 h0;rw [List.drop_zero] at e;have hd := ha _ (zI s 0 h0);unfold Mw at hd
  have hr : ∀ d ∈ s.data.toList.drop (0 + 1), Mw d := fun d hd => ha d (List.mem_of_mem_drop hd)
  obtain ⟨x, hx⟩ : ∃ x : Int, x = (s[0].toNat : Int) - 48 := ⟨_, rfl⟩
  have hv := mG (s.data.toList.drop (0 + 1)) x (by omega) hr
  have hlen : (s.data.toList.drop (0 + 1)).length = s.size - 1 := by rw [List.length_drop, Xw]
  rw [hlen] at hv;have hp : (10 : Nat) ^ 19 <= 10 ^ (s.size - 1) := Nat.pow_le_pow_right (by decide) (by omega)
  have e2 : ((10 ^ (s.size - 1) : Nat) : Int) = (10 : Int) ^ (s.size - 1) := by simp
  have e3 : val s.data.toList 0 = val (s.data.toList.drop (0 + 1)) x := by
   rw [e, val, hx];simp
  rw [e3]
  have h1 : (1 : Int) <= x := by omega
  have := Int.mul_le_mul_of_nonneg_right h1 (show (0 : Int) <= 10 ^ (s.size - 1) by omega);omega
 ·refine Or.inl ?_
  obtain ⟨d, hd⟩ := Classical.not_forall.1 ha;obtain ⟨h1, h2⟩ := Classical.not_imp.1 hd;exact ⟨d, h1, h2⟩
theorem parseR_c (s : ByteArray) (w : World) (hs : s.size <= 9223372036854775807) : Calls prog 117 #[.string s] w fun e w' => e = .returned (Fz (Pi s.data.toList)) /\ w' = w := by
 by_cases hz : s.size = 0
 ·have Xy : ((s.size : Int) == 0) = true := by simpa using hz
  rw [tS hz];go_enter func117, ntmps117;go_wp2
  go_ret2
  exact ⟨rfl, rfl⟩
 have Xy : ((s.size : Int) == 0) = false := by simpa using hz
 have h0 : 0 < s.size := by omega
 by_cases hn : (s[0].toNat : Int) = 48 /\ 1 < s.size
 ·rw [tT h0 hn.1 hn.2]
  obtain ⟨Kj, hn2⟩ := hn;by_cases hl : 19 < s.size
  all_goals
   go_enter func117, ntmps117;go_wp2
   go_ret2
   exact ⟨rfl, rfl⟩
 by_cases hl : 19 < s.size
 ·rw [fC s h0 hn hl]
  clear hn;go_enter func117, ntmps117;go_wp2
  go_ret2
  exact ⟨rfl, rfl⟩
 have HV := Za (zX h0 hn)
 have hd : ((s[0].toNat : Int) = 48 /\ s.size <= 1) ∨ ¬ (s[0].toNat : Int) = 48 := by omega
 clear hn hz
 rcases hd with ⟨hd, Tr⟩ | hd
 all_goals
  go_enter func117, ntmps117;go_wp2
  go_loop [4, 5] (fun n i => ∃ (k : Nat) (m : Int), k <= s.size /\ i = .int .i64 k /\ n = .int .u64 m /\ 0 <= m /\ m <= Tb k /\ m = val (s.data.toList.take k) 0 /\ ∀ d ∈ s.data.toList.take k, Mw d) (fun _ i => s.size - (intOf i).toNat)
  case atStart => exact ⟨0, 0, xZ _, rfl, rfl, by omega, by decide, rfl, by simp⟩
  case round =>
   obtain ⟨k, m, hk, rfl, rfl, hm0, B6, hv, ha⟩ := hrel;have HT := Za B6;have HM := Za hv;have HA := Za ha;clear B6 hv ha;by_cases Qh : k < s.size
   ·have hm2 : m <= 999999999999999999 := top_18 HT.o (by omega)
    by_cases b1 : (s[k].toNat : Int) < 48
    ·go_wp2
     go_ret2
     rw [HV.o, E5 _ 0 (by omega) (Or.inl ⟨s[k], zI s k Qh, fun h => by unfold Mw at h; omega⟩)];exact ⟨rfl, rfl⟩
    by_cases b2 : 57 < (s[k].toNat : Int)
    ·go_wp2
     go_ret2
     rw [HV.o, E5 _ 0 (by omega) (Or.inl ⟨s[k], zI s k Qh, fun h => by unfold Mw at h; omega⟩)];exact ⟨rfl, rfl⟩
    ·go_wp2
     go_round
     case rel => exact ⟨k + 1, 10 * m + ((s[k].toNat : Int) - 48), by omega, by go_num, rfl, by omega, rD HT.o (by omega), by rw [rV s k Qh, HM.o], lA s k Qh HA.o ⟨by omega, by omega⟩⟩
     case measure => simp [intOf]; omega
   ·have hm2 : m <= 9999999999999999999 := Int.le_trans HT.o (top_19 (by omega))
    have e : s.data.toList.take k = s.data.toList := List.take_of_length_le (by rw [Xw]; omega);rw [e] at HM HA;by_cases ho : 9223372036854775807 < m
    ·go_wp2
     go_ret2
     rw [HV.o, E5 _ 0 (by omega) (Or.inr ⟨HA.o, by rw [<- HM.o]; exact ho, by omega⟩)];exact ⟨rfl, rfl⟩
    ·go_wp2
     go_ret2
     rw [HV.o, tR _ 0 (by omega) HA.o (by rw [<- HM.o]; omega), <- HM.o];exact ⟨rfl, rfl⟩
end Go.Proofs.YtfoejkhfdiodhaaGreatDoor.Lx
