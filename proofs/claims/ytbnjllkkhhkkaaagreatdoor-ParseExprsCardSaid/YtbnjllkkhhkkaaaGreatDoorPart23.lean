/- Part. -/
import Derived.Test.YtbnjllkkhhkkaaaGreatDoorPart22
set_option maxRecDepth 100000
set_option maxHeartbeats 4000000
namespace Go.Proofs.YtbnjllkkhhkkaaaGreatDoor
open Go.Proofs.Tryz
open Go.RowKit
attribute [local go_sem ↓] Go.wp_at_zero Go.wp_at_succ
def T8 {α β : Type} (ts : List Tok) (one : Nat → Pr α) (g : α → β) (sep : List UInt8) (Rm : Pr (List α)) (S : Z3) (acc : List β) (gk : Nat) : Prop :=
 (∃ b l m, S = .inl b ∧ acc = l.map g ∧ Rm = ((Z1 ts one sep (m + 1) b).go fun r c => .inl (l ++ r, c)) ∧ ts.length ≤ b + m + 1 ∧ l.length ≤ b ∧ ts.length - b ≤ gk) ∨ ∃ e, S = .inr e ∧ Rm = .inr e ∧ acc.length ≤ 8194
section
variable {α β : Type} {ts : List Tok} {one : Nat → Pr α} {put : Pr α → β} {g : α → β} {sep : List UInt8} {Rm : Pr (List α)} {S : Z3} {acc : List β} {gk : Nat}
theorem T8.start (f : Nat) (hf : ts.length ≤ f + 1) (hR : Rm = Zf (fun a => Z1 ts one sep (f + 1) a) S) : T8 ts one g sep Rm S [] ts.length := by
 cases S with
 | inr p => exact .inr ⟨p, rfl, hR, by simp⟩
 | inl a =>
  refine .inl ⟨a, [], f, rfl, rfl, ?_, by omega, by simp, by omega⟩
  rw [hR]
  show Z1 ts one sep (f + 1) a = _
  cases Z1 ts one sep (f + 1) a with
  | inr e => rfl
  | inl q => rfl
theorem T8.len (h : T8 ts one g sep Rm S acc gk) (hb : ∀ b, S = .inl b → b < 8193) : acc.length ≤ 8194 := by
 rcases h with ⟨b, l, m, e, rfl, _, _, h1, _⟩ | ⟨e, _, _, h⟩
 ·have := hb b e
  rw [List.length_map]
  omega
 ·exact h
theorem T8.more (h : T8 ts one g sep Rm S acc gk) (hp : ∀ x b, put (.inl (x, b)) = g x) (hs : Yd ts (Zd (Zf one S)) sep = true) (hu : ∀ a x b, one a = .inl (x, b) → a ≤ b) (hb : ∀ b, Zd (Zf one S) = .inl b → b + 1 < ts.length) : ∃ g', g' < gk ∧ T8 ts one g sep Rm (Wy (Zd (Zf one S))) (acc ++ [put (Zf one S)]) g' := by
 rcases h with ⟨b, l, m, rfl, rfl, hr, h3, h4, h5⟩ | ⟨e, rfl, h2, h3⟩
 ·cases ho : one b with
  | inr e =>
   have : Zd (Zf one (.inl b)) = .inr e := by show Zd (one b) = _; rw [ho]; rfl
   rw [this] at hs
   cases hs
  | inl q =>
   obtain ⟨x, c⟩ := q
   have e1 : Zf one (.inl b) = .inl (x, c) := ho
   have hbc := hu _ _ _ ho
   rw [e1] at hs hb ⊢
   have hc := hb c rfl
   have hs' : Zc ts c sep = true := hs
   refine ⟨ts.length - (c + 1), by omega, .inl ⟨c + 1, l ++ [x], m - 1, rfl, by simp [hp], ?_, by omega, by simp; omega, xR⟩⟩
   obtain ⟨m, rfl⟩ : ∃ q, m = q + 1 := ⟨m - 1, by omega⟩
   rw [hr, Z1, ho]
   show ((if Zc ts c sep then _ else _ : Pr (List α)).go _) = _
   rw [if_pos hs', Nat.add_sub_cancel]
   cases Z1 ts one sep (m + 1) (c + 1) with
   | inr e => rfl
   | inl q =>
    show (Sum.inl (l ++ (x :: q.1), q.2) : Pr (List α)) = .inl (l ++ [x] ++ q.1, q.2)
    simp
 ·cases hs
theorem T8.end_ (h : T8 ts one g sep Rm S acc gk) (hp : ∀ x b, put (.inl (x, b)) = g x) (hs : Yd ts (Zd (Zf one S)) sep = false) : Zd Rm = Zd (Zf one S) ∧ ∀ l b, Rm = .inl (l, b) → acc ++ [put (Zf one S)] = l.map g := by
 rcases h with ⟨b, l, m, rfl, rfl, hr, h3, h4, h5⟩ | ⟨e, rfl, h2, h3⟩
 ·cases ho : one b with
  | inr e =>
   have e1 : Zf one (.inl b) = .inr e := ho
   have : Rm = .inr e := by rw [hr, Z1, ho]; rfl
   rw [e1, this]
   exact ⟨rfl, fun l b e => by cases e⟩
  | inl q =>
   obtain ⟨x, c⟩ := q
   have e1 : Zf one (.inl b) = .inl (x, c) := ho
   rw [e1] at hs ⊢
   have hs' : Zc ts c sep = false := hs
   have : Rm = .inl (l ++ [x], c) := by
    rw [hr, Z1, ho]
    show ((if Zc ts c sep then _ else _ : Pr (List α)).go _) = _
    rw [hs']
    rfl
   rw [this]
   refine ⟨rfl, fun l' b' e => ?_⟩
   injection e with e
   injection e with e _
   rw [← e]
   simp [hp]
 ·rw [h2]
  exact ⟨rfl, fun l b e => by cases e⟩
end
def TysP (lo : Nat) (w' : World) (R : Pr (List Ty)) (e : Ending) : Prop :=
 ∃ (av : Option Addr) (cv : Nat) (cs : List (List Value)) (acc : List (Option Ty)), e = .returned (.slice av acc.length cv) ∧ Z8 Wi lo 36 4 none w' (.slice av acc.length cv) cs acc ∧ acc.length ≤ 8195 ∧ ∀ l b, R = .inl (l, b) → acc = l.map some
theorem zbe (pb tb cap d : Nat) (ts : List Tok) (ok : Z0 ts) (K : Nat → Pr Ty) (hu : ∀ a x b, K a = .inl (x, b) → a ≤ b) (f : Nat) (hf : ts.length ≤ f + 1)
  (hK : ∀ S w, Zp w pb tb cap ts d S → Calls prog 31 #[.pointer (some ⟨pb, 0, none⟩)] w (Vn pb tb cap ts d w (Zf K S)))
  (S : Z3) (w : World) (h : Zp w pb tb cap ts d S) :
  Calls prog 215 #[.pointer (some ⟨pb, 0, none⟩)] w fun e w' => Zj pb w w' ∧ Zp w' pb tb cap ts d (Zd (Zf (fun a => (Z1 ts K [44] (f + 1) a).go fun l b => (Zb ts b [93]).go fun _ b => .inl (l, b)) S)) ∧ TysP w.heap.size w' (Zf (fun a => (Z1 ts K [44] (f + 1) a).go fun l b => (Zb ts b [93]).go fun _ b => .inl (l, b)) S) e := by
 obtain ⟨Rm, hRm⟩ := xE (Zf (fun a => Z1 ts K [44] (f + 1) a) S)
 obtain ⟨R, hR⟩ := xE (Zf (fun a => (Z1 ts K [44] (f + 1) a).go fun l b => (Zb ts b [93]).go fun _ b => .inl (l, b)) S)
 rw [← hR]
 have HR : xQ (R = Rm.go fun l b => (Zb ts b [93]).go fun _ b => .inl (l, b)) := by
  rw [hR, hRm]
  cases S <;> rfl
 have HI0 : xQ (T8 ts K some [44] Rm S [] ts.length) := T8.start f hf hRm
 have HK := Za hK
 have HU := Za hu
 have OK := Za ok
 have hpl := h.ltp
 have HX0 : xQ (RX pb tb cap ts w w d S []) := ⟨Zj.refl _ _, h, hpl, by simp⟩
 obtain ⟨i0, hi, hz0, hz1, hz2⟩ := info_parts Nh
 clear h hK hu ok hR hRm
 go_enter func215, ntmps215
 go_wp2_with fail
 go_loopg [3] (ts.length) (fun gk v wr => ∃ (S : Z3) (cs : List (List Value)) (acc : List (Option Ty)), xQ (RX pb tb cap ts w wr d S []) ∧ xQ (Z8 Wi w.heap.size 36 4 none wr v cs acc) ∧ xQ (T8 ts K some [44] Rm S acc gk))
 case atStart => exact ⟨S, [], [], HX0, T0 Wi w.heap.size 36 4 w, HI0⟩
 case round =>
  clear HX0 HI0
  obtain ⟨S', cs, acc, X, RT, HI⟩ := hrel
  have hac : acc.length ≤ 8194 := HI.o.len fun b e => by
   obtain ⟨a, ha⟩ := X.o.at_
   have := ha.live b e
   have := ha.lt
   have := OK.o.len
   omega
  obtain ⟨av, cv, rfl⟩ := Vb RT.o.ow
  have HC := Za (HK.o _ _ X.o.at_)
  obtain ⟨R2, hR2⟩ := xE (Zf K S')
  rw [← hR2] at HC
  have HR2 := Za hR2
  clear hR2
  go_wp2_with fail
  refine HC.o.mono ?_
  rintro e w3 ⟨hst, hat, k2, nm2, na2, nl2, nc2, ka2, kl2, kc2, rfl, hv⟩
  have hwr := X.o.st.size
  have X3 := Za (((X.o.step hst hat).alloc (.cells #[.int .i64 k2, .string nm2, .slice na2 nl2 nc2, .slice ka2 kl2 kc2] 36)).drop)
  have hs3 := hst.size
  have RW3 := Za (RT.o.stay (hst.trans ((Zj.refl pb w3).alloc (xT X.o.at_.ltp hst.size) (.cells #[.int .i64 k2, .string nm2, .slice na2 nl2 nc2, .slice ka2 kl2 kc2] 36))) hpl)
  have HMd := Za ((Xg.new (rep := Wi) (B := w.heap.size) (Bi hv) hwr fun q hq => RT.o.all q hq).stay ((Zj.refl pb w3).alloc (xT X.o.at_.ltp hst.size) (.cells #[.int .i64 k2, .string nm2, .slice na2 nl2 nc2, .slice ka2 kl2 kc2] 36)) hpl)
  have HCN : xQ (∀ j u, ([.int .i64 k2, .string nm2, .slice na2 nl2 nc2, .slice ka2 kl2 kc2] : List Value)[j]? = some u → ((w3.alloc (.cells #[.int .i64 k2, .string nm2, .slice na2 nl2 nc2, .slice ka2 kl2 kc2] 36)).alloc (.cells #[.int .i64 k2, .string nm2, .slice na2 nl2 nc2, .slice ka2 kl2 kc2] 36)).cell? ((⟨w3.heap.size + 1, 0, none⟩ : Addr).add j) = some u) := fun j u h => by
   have := Uq (w3.alloc (.cells #[.int .i64 k2, .string nm2, .slice na2 nl2 nc2, .slice ka2 kl2 kc2] 36)) [.int .i64 k2, .string nm2, .slice na2 nl2 nc2, .slice ka2 kl2 kc2] 36 j u h
   rw [xS] at this
   exact this
  clear hst hat hv HC X RT
  go_wp2_with (at_builtin; refine wpList_append_own_at _ rfl (.tmp 8) (.tmp 10) 23 rfl (w.heap.size) 36 i0 _ 4 72 underlying23 hi hz0 hz1 hz2 rfl (by decide) _ _ _ rfl (RW3.o.ow.alloc _) ⟨_, 0, none⟩ 1 1 [.int .i64 k2, .string nm2, .slice na2 nl2 nc2, .slice ka2 kl2 kc2] rfl rfl HCN.o (by simp [Value.oneCell']) (by unfold maxLen; omega) (by omega) (by simp; omega) ?_)
  intro v' w4 zho zhn _ hloc
  have HR4 : xQ (Z8 Wi w.heap.size 36 4 none w4 v' (cs ++ [[.int .i64 k2, .string nm2, .slice na2 nl2 nc2, .slice ka2 kl2 kc2]]) (acc ++ [Wc R2])) :=
   RW3.o.put zho zhn (hloc.imp_right fun e => ⟨_, e, by simp⟩) ((Zj.refl pb _).alloc X3.o.at_.ltp _) hpl rfl (HMd.o.stay ((Zj.refl pb _).alloc X3.o.at_.ltp _) hpl)
  have HX4 : xQ (RX pb tb cap ts w w4 d (Zd R2) []) := by
   have hX := (X3.o.alloc (.cells #[.int .i64 k2, .string nm2, .slice na2 nl2 nc2, .slice ka2 kl2 kc2] 36)).drop
   have hlt : ∀ q, (Value.slice av acc.length cv).ownBlock = some q → w.heap.size ≤ q := fun q hq => (RW3.o.own q hq).1
   exact ⟨hX.st.grown zhn hX.hp fun q hq => hlt q hq, hX.at_.grown zhn fun q hq => by have := hlt q hq; omega, hX.hp, by simp⟩
  clear zho zhn hloc RW3 X3 HMd HCN
  go_wp2_with fail
  refine (Y5 pb tb cap d ts (Zd R2) [44] _ HX4.o.at_ OK.o).mono ?_
  rintro e w5 ⟨rfl, hst, hat⟩
  have X5 := Za (HX4.o.step hst hat)
  have R5 := Za (HR4.o.stay hst hpl)
  have hS2 : ∀ b, Zd R2 = .inl b → b < ts.length := fun b e => by
   obtain ⟨a, ha⟩ := HX4.o.at_
   have := ha.live b e
   have := ha.lt
   omega
  have HB2 := Za hS2
  clear hst hat HX4 HR4 hS2
  cases hs : Yd ts (Zd R2) [44] with
  | true =>
   rw [hs, if_pos rfl] at X5
   obtain ⟨g', hg', hn⟩ := HI.o.more (put := Wc) (fun _ _ => rfl) (by rw [← HR2.o]; exact hs) HU.o (fun b e => by
    rw [← HR2.o] at e
    rw [e] at hs
    exact Wz OK.o.ends (HB2.o b e) hs)
   rw [← HR2.o] at hn
   have HN := Za hn
   clear hs hn HI
   go_wp2_with fail
   go_roundg g'
   case measure => exact hg'
   case rel => exact ⟨_, _, _, X5, R5, HN⟩
  | false =>
   rw [hs, if_neg (by simp)] at X5
   have hend := HI.o.end_ (put := Wc) (fun _ _ => rfl) (by rw [← HR2.o]; exact hs)
   rw [← HR2.o] at hend
   have HEn := Za hend
   clear hs hend HI
   have hlv : (acc ++ [Wc R2]).length = acc.length + 1 := by simp
   obtain ⟨av5, cv5, hv5⟩ := Vb R5.o.ow
   subst hv5
   go_wp2_with fail
   refine (Xx pb tb cap d ts (Zd R2) [93] _ X5.o.at_ OK.o).mono ?_
   rintro e w6 ⟨rfl, hst, hat⟩
   have X6 := Za (X5.o.step hst hat)
   have R6 := Za (R5.o.stay hst hpl)
   clear hst hat X5 R5
   go_wp2_with fail
   go_ret
   refine ⟨X6.o.st, ?_, av5, cv5, _, acc ++ [Wc R2], by rw [hlv]; rfl, R6.o, by omega, fun l b e => ?_⟩
   ·have := X6.o.at_
    rw [HR.o]
    rw [← HEn.o.1] at this
    cases hm : Rm with
    | inr q => rw [hm] at this; exact this
    | inl q =>
     rw [hm] at this
     have h2 : Zp w6 pb tb cap ts d (Zd (Zb ts q.2 [93])) := this
     show Zp w6 pb tb cap ts d (Zd ((Zb ts q.2 [93]).go fun _ b => .inl (q.1, b)))
     cases hw : Zb ts q.2 [93] with
     | inr p => rw [hw] at h2; exact h2
     | inl p => rw [hw] at h2; exact h2
   ·rw [HR.o] at e
    cases hm : Rm with
    | inr q => rw [hm] at e; cases e
    | inl q =>
     obtain ⟨l', b'⟩ := q
     rw [hm] at e
     have e2 : (Zb ts b' [93]).go (fun _ b => (.inl (l', b) : Pr (List Ty))) = .inl (l, b) := e
     cases hw : Zb ts b' [93] with
     | inr p => rw [hw] at e2; cases e2
     | inl p =>
      rw [hw] at e2
      injection e2 with e2
      injection e2 with e2 _
      rw [← e2]
      exact HEn.o.2 l' b' hm
section
variable (ts : List Tok) (K E : Nat → Pr Ty) (f a : Nat)
def at8 : Pr Ty := (Zm ts a).go fun s b => if Zc ts b [91] then (Z1 ts K [44] f (b + 1)).go fun l b => (Zb ts b [93]).go fun _ b => .inl (Zi 19 s 0 (Zx ts a) (Zz ts a) l [] [], b) else .inl (Zi 4 s 0 (Zx ts a) (Zz ts a) [] [] [], b)
def at7 : Pr Ty := if Zc ts a [123] then Q1 ts E f a else at8 ts K f a
def at6 : Pr Ty := if Zc ts a [40] then (E (a + 1)).go fun x b => (Zb ts b [41]).go fun _ b => .inl (x, b) else at7 ts K E f a
def at5 : Pr Ty := if Zc ts a [112, 114, 105, 110, 116] then (Zb ts (a + 1) [40]).go fun _ b => (E b).go fun x b => (Zb ts b [41]).go fun _ b => .inl (Zi 17 [] 0 (Zx ts a) (Zz ts a) [] [] [x], b) else at6 ts K E f a
def at4 : Pr Ty := if Zc ts a [114, 101, 97, 100] then (Zb ts (a + 1) [40]).go fun _ b => (Zb ts b [41]).go fun _ b => .inl (Zi 18 [] 0 (Zx ts a) (Zz ts a) [] [] [], b) else at5 ts K E f a
def at3 : Pr Ty := if Zc ts a [110, 117, 108, 108] then .inl (Zi 3 [] 0 (Zx ts a) (Zz ts a) [] [] [], a + 1) else at4 ts K E f a
def at2 : Pr Ty := if Zc ts a [102, 97, 108, 115, 101] then .inl (Zi 2 [] 0 (Zx ts a) (Zz ts a) [] [] [], a + 1) else at3 ts K E f a
def at1 : Pr Ty := if Zc ts a [116, 114, 117, 101] then .inl (Zi 2 [] 1 (Zx ts a) (Zz ts a) [] [] [], a + 1) else at2 ts K E f a
end
theorem RX.toNext {pb tb cap d a : Nat} {ts : List Tok} {w0 w : World} {bx : List (Nat × Obj)} (h : RX pb tb cap ts w0 w d (.inl a) bx) (hb : a + 1 < ts.length) : RX pb tb cap ts w0 (w.setCell ⟨pb, 1, none⟩ (.int .i64 ((a : Int) + 1))) d (.inl (a + 1)) bx := by
 obtain ⟨a2, h2⟩ := h.at_
 obtain rfl : a = a2 := h2.live a rfl
 refine ⟨h.st.set 1 _, ⟨a + 1, h2.setAt (b := a + 1) hb⟩, h.hp, fun p hp => ⟨(xH (by show p.1 ≠ pb; have := (h.has p hp).2; have := h.hp; omega)).trans (h.has p hp).1, (h.has p hp).2⟩⟩
theorem zgd (pb tb cap d : Nat) (ts : List Tok) (ok : Z0 ts) (K E : Nat → Pr Ty) (f : Nat) (hf : ts.length ≤ f + 1) (huK : ∀ a x b, K a = .inl (x, b) → a ≤ b)
  (hK : ∀ S w, Zp w pb tb cap ts d S → Calls prog 31 #[.pointer (some ⟨pb, 0, none⟩)] w (Vn pb tb cap ts d w (Zf K S)))
  (hE : ∀ S w, Zp w pb tb cap ts d S → Calls prog 25 #[.pointer (some ⟨pb, 0, none⟩)] w (Y4 pb tb cap ts d w (Zf E S)))
  (a : Nat)
  (hRec : ∀ li co w, li = Zx ts a → co = Zz ts a → Zp w pb tb cap ts d (.inl (a + 1)) → Calls prog 214 #[.pointer (some ⟨pb, 0, none⟩), (Zu 2 li co).val] w (Y4 pb tb cap ts d w (Q1 ts E (f + 1) a)))
  (w : World) (h : Zp w pb tb cap ts d (.inl a)) :
  Calls prog 207 #[.pointer (some ⟨pb, 0, none⟩)] w (Y4 pb tb cap ts d w (Wm ts K E (f + 1) a)) := by
 have OK := Za ok
 have HK := Za hK
 have HE := Za hE
 have HRec := Za hRec
 have X0 := Za (U4 h Ze.obj)
 have hp := h.ltp
 obtain ⟨R, hR⟩ := xE (Wm ts K E (f + 1) a)
 rw [← hR]
 have HR := Za hR
 clear h hR hRec hE
 go_enter func207, ntmps207
 go_wp2_with fail
 refine (Mo pb tb cap d ts (.inl a) 2 _ X0.o.at_).mono ?_
 rintro e w1 ⟨li, co, rfl, hlc, hst, hat⟩
 have X1 := Za ((X0.o.step hst hat).alloc (Zu 2 li co).obj)
 obtain ⟨hl, hc⟩ := hlc a rfl
 have HLc := Za (And.intro hl hc)
 have hs1 := hst.size
 rw [xS] at hs1
 clear hst hat hlc X0 hl hc
 obtain ⟨nb, hnb⟩ := xE w1.heap.size
 rw [← hnb] at X1 hs1
 obtain ⟨a', ha⟩ := X1.o.at_
 obtain rfl : a = a' := ha.live a rfl
 have hal : (a : Int) < (ts.length : Int) := by have := ha.lt; omega
 have haL := ha.lt
 obtain ⟨t, ht⟩ := xE (Zg ts a)
 have HT := Za ht
 have hpl := ha.ltp
 have htl := Nat.lt_trans ha.tlt ha.ltp
 have HS : xQ (∀ W, Below (w1.alloc (Zu 2 li co).obj).heap.size (w1.alloc (Zu 2 li co).obj) W → W.cell? ⟨pb, 0, none⟩ = some (.slice (some ⟨tb, 0, none⟩) ts.length cap) ∧ W.cell? ⟨pb, 1, none⟩ = some (.int .i64 a) ∧ W.cell? ⟨tb, a * 4, none⟩ = some (.int .i64 t.kind) ∧ W.cell? ⟨tb, a * 4 + 1, none⟩ = some (.string ⟨t.text.toArray⟩) ∧ W.cell? ⟨tb, a * 4 + 2, none⟩ = some (.int .i64 t.line) ∧ W.cell? ⟨tb, a * 4 + 3, none⟩ = some (.int .i64 t.col)) := fun W hW => by
  have h1 := ha.below hW
  rw [ht]
  obtain ⟨q0, q1, q2, q3⟩ := h1.toks a h1.lt
  exact ⟨h1.cells.1.1, h1.cells.1.2.1, q0, q1, q2, q3⟩
 have hSS := HS.o (w1.alloc (Zu 2 li co).obj).drew (Below.refl _ _).drew
 have HS1 : xQ (∀ o, _) := fun o => HS.o (((w1.alloc (Zu 2 li co).obj).alloc o).drew) (Zl _ o).drew
 have HNB := Za hnb
 clear ha ht hnb hpl htl
 go_wp2_with fail
 go_region_held (fun W => W.cell? ⟨pb, 0, none⟩ = some (.slice (some ⟨tb, 0, none⟩) ts.length cap) ∧ W.cell? ⟨pb, 1, none⟩ = some (.int .i64 a) ∧ W.cell? ⟨tb, a * 4, none⟩ = some (.int .i64 t.kind) ∧ W.cell? ⟨tb, a * 4 + 1, none⟩ = some (.string ⟨t.text.toArray⟩) ∧ W.cell? ⟨tb, a * 4 + 2, none⟩ = some (.int .i64 t.line) ∧ W.cell? ⟨tb, a * 4 + 3, none⟩ = some (.int .i64 t.col)) (first | with_reducible assumption | with_reducible exact HS1.o _) (fail)
 obtain ⟨W2, hW2⟩ := xE (((w1.alloc (.cells #[.int .i64 2, .string ⟨#[]⟩, .int .i64 0, .int .i64 li, .int .i64 co, .slice none 0 0, .slice none 0 0, .slice none 0 0] 27)).alloc (.cells #[.int .i64 t.kind, .string ⟨t.text.toArray⟩, .int .i64 t.line, .int .i64 t.col] 108)).drew)
 rw [← hW2]
 have X2 : xQ (RX pb tb cap ts w W2 d (.inl a) [(nb + 1, Zk t), (nb, (Zu 2 li co).obj), (w.heap.size, Ze.obj)]) := by
  have h1 := (X1.o.alloc (Zk t)).drew
  rw [xS, ← HNB.o] at h1
  rw [hW2]
  exact h1
 rw [← HNB.o]
 have hwn : w.heap.size < nb := hs1
 clear hW2 HS HS1 hSS X1 HNB
 obtain ⟨⟨t0, t1, t2, t3⟩, _, htl1⟩ := Zr (X2.o.box (p := (nb + 1, Zk t)) (by simp))
 have e0 : W2.cell? ⟨pb, 3, none⟩ = some (.int .i64 0) ∧ W2.cell? ⟨pb, 1, none⟩ = some (.int .i64 a) ∧ W2.frozen? ⟨pb, 1, none⟩ = false := by
  obtain ⟨a2, h2⟩ := X2.o.at_
  obtain rfl : a = a2 := h2.live a rfl
  exact ⟨h2.cells.1.2.2.2.1, h2.cells.1.2.1, h2.cells.2.1⟩
 obtain ⟨e0, e1, e2⟩ := e0
 have hpl2 := X2.o.at_.ltp
 cases hk : (t.kind == 3) with
 | true =>
  have HRt : xQ (R = .inl (Zi 0 [] ((Ww t.text).getD 0) (Zx ts a) (Zz ts a) [] [] [], a + 1)) := by
   rw [HR.o, HT.o]
   rw [HT.o] at hk
   exact if_pos hk
  have hnx : a + 1 < ts.length := OK.o.ends a haL (by rw [← HT.o]; intro h0; rw [h0] at hk; simp at hk)
  have ha9 : a < 8193 := by have := OK.o.len; omega
  have X3 := Za (X2.o.toNext hnx)
  have htx : (⟨t.text.toArray⟩ : ByteArray).size ≤ 9223372036854775807 := by have := OK.o.txt a; rw [← HT.o] at this; show t.text.toArray.size ≤ _; rw [List.size_toArray]; omega
  obtain ⟨⟨n0, n1, n2, n3, n4, n5, n6, n7⟩, ⟨g0, g1, g2, g3, g4, g5, g6, g7⟩, hnl⟩ := Zh (X2.o.box (p := (nb, (Zu 2 li co).obj)) (by simp))
  obtain ⟨⟨r0, r1, r2, r3, r4, r5, r6, r7⟩, ⟨f0, f1, f2, f3, f4, f5, f6, f7⟩, hrl⟩ := Zh (X2.o.box (p := (w.heap.size, Ze.obj)) (by simp))
  have hne1 : ¬ nb = w.heap.size := by omega
  have hne2 : ¬ w.heap.size = nb := by omega
  obtain ⟨v, hv⟩ := xE ((Ww t.text).getD 0)
  have HV := Za hv
  have hpv : Pd (Ww (⟨t.text.toArray⟩ : ByteArray).data.toList) = .tuple #[.int .i64 v, .bool (Ww t.text).isSome] := by rw [hv]; rfl
  have hne3 : ¬ pb = nb := by omega
  have hne4 : ¬ nb = pb := by omega
  have hne5 : ¬ pb = w.heap.size := by omega
  have hne6 : ¬ w.heap.size = pb := by omega
  clear hv
  go_wp2_with fail
  refine (Lx.parseR_c ⟨t.text.toArray⟩ _ htx).mono ?_
  rintro e w4 ⟨rfl, rfl⟩
  rw [hpv]
  clear hpv
  go_wp2_with fail
  obtain ⟨W3, hW3⟩ := xE (W2.setCell ⟨pb, 1, none⟩ (.int .i64 ((a : Int) + 1)))
  rw [← hW3]
  have X3' : xQ (RX pb tb cap ts w W3 d (.inl (a + 1)) [(nb + 1, Zk t), (nb, (Zu 2 li co).obj), (w.heap.size, Ze.obj)]) := by rw [hW3]; exact X3.o
  clear hW3 X2 X3
  obtain ⟨Wf, hWf⟩ := xE ((((((((((W3.setCell ⟨nb, 0, none⟩ (.int .i64 0)).setCell ⟨nb, 2, none⟩ (.int .i64 v)).setCell ⟨w.heap.size, 0, none⟩ (.int .i64 0)).setCell ⟨w.heap.size, 1, none⟩ (.string ⟨#[]⟩)).setCell ⟨w.heap.size, 2, none⟩ (.int .i64 v)).setCell ⟨w.heap.size, 3, none⟩ (.int .i64 li)).setCell ⟨w.heap.size, 4, none⟩ (.int .i64 co)).setCell ⟨w.heap.size, 5, none⟩ (.slice none 0 0)).setCell ⟨w.heap.size, 6, none⟩ (.slice none 0 0)).setCell ⟨w.heap.size, 7, none⟩ (.slice none 0 0))
  rw [← hWf]
  obtain ⟨HXF, zhp, hsF⟩ : Left pb tb cap ts w d (.inl (a + 1)) w.heap.size nb W3 Wf ⟨0, ⟨#[]⟩, v, li, co, none, 0, 0, none, 0, 0, none, 0, 0⟩ 0 := by rw [hWf]; exact Kw (rb := w.heap.size) X3'.o (by simp) (by omega) (by omega) 0 (.int .i64 0) 2 (.int .i64 v) ⟨0, ⟨#[]⟩, v, li, co, none, 0, 0, none, 0, 0, none, 0, 0⟩
  clear hWf
  replace HXF := Za HXF
  refine Vh rfl rfl (HXF.o.box xM) rfl ⟨HXF.o.st, ?_, ⟨0, ⟨#[]⟩, v, li, co, none, 0, 0, none, 0, 0, none, 0, 0⟩, rfl, fun D c e => ?_⟩
  ·rw [HRt.o]; exact HXF.o.at_
  ·rw [HRt.o] at e
   injection e with e
   injection e with e _
   rw [← e, ← HLc.o.1, ← HLc.o.2]
   exact by rw [← HV.o]; exact ⟨1, [], [], [], rfl, ⟨rfl, rfl, rfl⟩, ⟨xZ _, xZ _, xZ _⟩, .inl rfl, .inl rfl, .inl rfl⟩
 | false =>
 cases hk4 : (t.kind == 4) with
 | true =>
  have HRt : xQ (R = .inl (Zi 1 t.text 0 (Zx ts a) (Zz ts a) [] [] [], a + 1)) := by
   rw [HR.o, HT.o]
   rw [HT.o] at hk hk4
   unfold Wm
   rw [if_neg (by rw [hk]; simp), if_pos hk4]
   exact rfl
  have hnx : a + 1 < ts.length := OK.o.ends a haL (by rw [← HT.o]; intro h0; rw [h0] at hk4; simp at hk4)
  have ha9 : a < 8193 := by have := OK.o.len; omega
  have X3 := Za (X2.o.toNext hnx)
  obtain ⟨⟨n0, n1, n2, n3, n4, n5, n6, n7⟩, ⟨g0, g1, g2, g3, g4, g5, g6, g7⟩, hnl⟩ := Zh (X2.o.box (p := (nb, (Zu 2 li co).obj)) (by simp))
  obtain ⟨⟨r0, r1, r2, r3, r4, r5, r6, r7⟩, ⟨f0, f1, f2, f3, f4, f5, f6, f7⟩, hrl⟩ := Zh (X2.o.box (p := (w.heap.size, Ze.obj)) (by simp))
  have hne1 : ¬ nb = w.heap.size := by omega
  have hne2 : ¬ w.heap.size = nb := by omega
  have hne3 : ¬ pb = nb := by omega
  have hne4 : ¬ nb = pb := by omega
  have hne5 : ¬ pb = w.heap.size := by omega
  have hne6 : ¬ w.heap.size = pb := by omega
  have hne7 : ¬ nb + 1 = pb := by omega
  have hne8 : ¬ nb + 1 = nb := by omega
  go_wp2_with fail
  obtain ⟨W3, hW3⟩ := xE (W2.setCell ⟨pb, 1, none⟩ (.int .i64 ((a : Int) + 1)))
  rw [← hW3]
  have X3' : xQ (RX pb tb cap ts w W3 d (.inl (a + 1)) [(nb + 1, Zk t), (nb, (Zu 2 li co).obj), (w.heap.size, Ze.obj)]) := by rw [hW3]; exact X3.o
  clear hW3 X2 X3
  obtain ⟨Wf, hWf⟩ := xE ((((((((((W3.setCell ⟨nb, 0, none⟩ (.int .i64 1)).setCell ⟨nb, 1, none⟩ (.string ⟨t.text.toArray⟩)).setCell ⟨w.heap.size, 0, none⟩ (.int .i64 1)).setCell ⟨w.heap.size, 1, none⟩ (.string ⟨t.text.toArray⟩)).setCell ⟨w.heap.size, 2, none⟩ (.int .i64 0)).setCell ⟨w.heap.size, 3, none⟩ (.int .i64 li)).setCell ⟨w.heap.size, 4, none⟩ (.int .i64 co)).setCell ⟨w.heap.size, 5, none⟩ (.slice none 0 0)).setCell ⟨w.heap.size, 6, none⟩ (.slice none 0 0)).setCell ⟨w.heap.size, 7, none⟩ (.slice none 0 0))
  rw [← hWf]
  obtain ⟨HXF, zhp, hsF⟩ : Left pb tb cap ts w d (.inl (a + 1)) w.heap.size nb W3 Wf ⟨1, ⟨t.text.toArray⟩, 0, li, co, none, 0, 0, none, 0, 0, none, 0, 0⟩ 0 := by rw [hWf]; exact Kw (rb := w.heap.size) X3'.o (by simp) (by omega) (by omega) 0 (.int .i64 1) 1 (.string ⟨t.text.toArray⟩) ⟨1, ⟨t.text.toArray⟩, 0, li, co, none, 0, 0, none, 0, 0, none, 0, 0⟩
  clear hWf
  replace HXF := Za HXF
  refine Vh rfl rfl (HXF.o.box xM) rfl ⟨HXF.o.st, ?_, ⟨1, ⟨t.text.toArray⟩, 0, li, co, none, 0, 0, none, 0, 0, none, 0, 0⟩, rfl, fun D c e => ?_⟩
  ·rw [HRt.o]; exact HXF.o.at_
  ·rw [HRt.o] at e
   injection e with e
   injection e with e _
   rw [← e, ← HLc.o.1, ← HLc.o.2]
   exact ⟨1, [], [], [], rfl, ⟨rfl, rfl, rfl⟩, ⟨xZ _, xZ _, xZ _⟩, .inl rfl, .inl rfl, .inl rfl⟩
 | false =>
 have HR1 : xQ (R = at1 ts K E (f + 1) a) := by
  rw [HR.o]
  rw [HT.o] at hk hk4
  unfold Wm
  rw [if_neg (by rw [hk]; simp), if_neg (by rw [hk4]; simp)]
  rfl
 have hk3 := hk
 go_wp2_with fail
 clear hk hk3 hk4 HR e0 t0 t1 t2 t3
 refine (Y5 pb tb cap d ts (.inl a) [116, 114, 117, 101] _ X2.o.at_ OK.o).mono ?_
 rintro e wt ⟨rfl, hst, hat⟩
 have X := Za (X2.o.step hst hat)
 clear hst hat X2
 cases hs : Yd ts (.inl a) [116, 114, 117, 101] with
 | true =>
  rw [hs, if_pos rfl] at X
  have HRt : xQ (R = .inl (Zi 2 [] 1 (Zx ts a) (Zz ts a) [] [] [], a + 1)) := by
   rw [HR1.o]
   exact if_pos hs
  clear hs HR1
  replace X : xQ (RX pb tb cap ts w wt d (.inl (a + 1)) [(nb, (Zu 2 li co).obj), (w.heap.size, Ze.obj)]) := X.o.perm (by simp)
  obtain ⟨⟨n0, n1, n2, n3, n4, n5, n6, n7⟩, ⟨g0, g1, g2, g3, g4, g5, g6, g7⟩, hnl⟩ := Zh (X.o.box (p := (nb, (Zu 2 li co).obj)) (by simp))
  obtain ⟨⟨r0, r1, r2, r3, r4, r5, r6, r7⟩, ⟨f0, f1, f2, f3, f4, f5, f6, f7⟩, hrl⟩ := Zh (X.o.box (p := (w.heap.size, Ze.obj)) (by simp))
  have hne1 : ¬ nb = w.heap.size := by omega
  have hne2 : ¬ w.heap.size = nb := by omega
  go_wp2_with fail
  obtain ⟨Wf, hWf⟩ := xE (((((((((wt.setCell ⟨nb, 2, none⟩ (.int .i64 1)).setCell ⟨w.heap.size, 0, none⟩ (.int .i64 2)).setCell ⟨w.heap.size, 1, none⟩ (.string ⟨#[]⟩)).setCell ⟨w.heap.size, 2, none⟩ (.int .i64 1)).setCell ⟨w.heap.size, 3, none⟩ (.int .i64 li)).setCell ⟨w.heap.size, 4, none⟩ (.int .i64 co)).setCell ⟨w.heap.size, 5, none⟩ (.slice none 0 0)).setCell ⟨w.heap.size, 6, none⟩ (.slice none 0 0)).setCell ⟨w.heap.size, 7, none⟩ (.slice none 0 0))
  rw [← hWf]
  obtain ⟨HXF, zhp, hsF⟩ : Left pb tb cap ts w d (.inl (a + 1)) w.heap.size nb wt Wf ⟨2, ⟨#[]⟩, 1, li, co, none, 0, 0, none, 0, 0, none, 0, 0⟩ 0 := by rw [hWf]; exact Us (rb := w.heap.size) X.o (by simp) (by omega) (by omega) 2 (.int .i64 1) ⟨2, ⟨#[]⟩, 1, li, co, none, 0, 0, none, 0, 0, none, 0, 0⟩
  clear hWf
  replace HXF := Za HXF
  refine Vh rfl rfl (HXF.o.box xM) rfl ⟨HXF.o.st, ?_, ⟨2, ⟨#[]⟩, 1, li, co, none, 0, 0, none, 0, 0, none, 0, 0⟩, rfl, fun D c e => ?_⟩
  ·rw [HRt.o]; exact HXF.o.at_
  ·rw [HRt.o] at e
   injection e with e
   injection e with e _
   rw [← e, ← HLc.o.1, ← HLc.o.2]
   exact ⟨1, [], [], [], rfl, ⟨rfl, rfl, rfl⟩, ⟨xZ _, xZ _, xZ _⟩, .inl rfl, .inl rfl, .inl rfl⟩
 | false =>
 rw [hs, if_neg (by simp)] at X
 have HR2 : xQ (R = at2 ts K E (f + 1) a) := by
  rw [HR1.o]
  exact if_neg (by rw [show Zc ts a [116, 114, 117, 101] = false from hs]; simp)
 clear hs HR1
 obtain ⟨W10, hW10⟩ := xE wt
 subst hW10
 have X10 := X
 clear X
 go_wp2_with fail
 refine (Y5 pb tb cap d ts (.inl a) [102, 97, 108, 115, 101] _ X10.o.at_ OK.o).mono ?_
 rintro e wt ⟨rfl, hst, hat⟩
 have X := Za (X10.o.step hst hat)
 clear hst hat X10
 cases hs : Yd ts (.inl a) [102, 97, 108, 115, 101] with
 | true =>
  rw [hs, if_pos rfl] at X
  have HRt : xQ (R = .inl (Zi 2 [] 0 (Zx ts a) (Zz ts a) [] [] [], a + 1)) := by
   rw [HR2.o]
   exact if_pos hs
  clear hs HR2
  replace X : xQ (RX pb tb cap ts w wt d (.inl (a + 1)) [(nb, (Zu 2 li co).obj), (w.heap.size, Ze.obj)]) := X.o.perm (by simp)
  obtain ⟨⟨n0, n1, n2, n3, n4, n5, n6, n7⟩, ⟨g0, g1, g2, g3, g4, g5, g6, g7⟩, hnl⟩ := Zh (X.o.box (p := (nb, (Zu 2 li co).obj)) (by simp))
  obtain ⟨⟨r0, r1, r2, r3, r4, r5, r6, r7⟩, ⟨f0, f1, f2, f3, f4, f5, f6, f7⟩, hrl⟩ := Zh (X.o.box (p := (w.heap.size, Ze.obj)) (by simp))
  have hne1 : ¬ nb = w.heap.size := by omega
  have hne2 : ¬ w.heap.size = nb := by omega
  go_wp2_with fail
  obtain ⟨Wf, hWf⟩ := xE ((((((((wt.setCell ⟨w.heap.size, 0, none⟩ (.int .i64 2)).setCell ⟨w.heap.size, 1, none⟩ (.string ⟨#[]⟩)).setCell ⟨w.heap.size, 2, none⟩ (.int .i64 0)).setCell ⟨w.heap.size, 3, none⟩ (.int .i64 li)).setCell ⟨w.heap.size, 4, none⟩ (.int .i64 co)).setCell ⟨w.heap.size, 5, none⟩ (.slice none 0 0)).setCell ⟨w.heap.size, 6, none⟩ (.slice none 0 0)).setCell ⟨w.heap.size, 7, none⟩ (.slice none 0 0))
  rw [← hWf]
  obtain ⟨HXF, zhp, hsF⟩ : Left pb tb cap ts w d (.inl (a + 1)) w.heap.size nb wt Wf ⟨2, ⟨#[]⟩, 0, li, co, none, 0, 0, none, 0, 0, none, 0, 0⟩ 0 := by rw [hWf]; exact Mh (rb := w.heap.size) X.o (by simp) nb ⟨2, ⟨#[]⟩, 0, li, co, none, 0, 0, none, 0, 0, none, 0, 0⟩
  clear hWf
  replace HXF := Za HXF
  refine Vh rfl rfl (HXF.o.box xM) rfl ⟨HXF.o.st, ?_, ⟨2, ⟨#[]⟩, 0, li, co, none, 0, 0, none, 0, 0, none, 0, 0⟩, rfl, fun D c e => ?_⟩
  ·rw [HRt.o]; exact HXF.o.at_
  ·rw [HRt.o] at e
   injection e with e
   injection e with e _
   rw [← e, ← HLc.o.1, ← HLc.o.2]
   exact ⟨1, [], [], [], rfl, ⟨rfl, rfl, rfl⟩, ⟨xZ _, xZ _, xZ _⟩, .inl rfl, .inl rfl, .inl rfl⟩
 | false =>
 rw [hs, if_neg (by simp)] at X
 have HR3 : xQ (R = at3 ts K E (f + 1) a) := by
  rw [HR2.o]
  exact if_neg (by rw [show Zc ts a [102, 97, 108, 115, 101] = false from hs]; simp)
 clear hs HR2
 obtain ⟨W11, hW11⟩ := xE wt
 subst hW11
 have X11 := X
 clear X
 go_wp2_with fail
 refine (Y5 pb tb cap d ts (.inl a) [110, 117, 108, 108] _ X11.o.at_ OK.o).mono ?_
 rintro e wt ⟨rfl, hst, hat⟩
 have X := Za (X11.o.step hst hat)
 clear hst hat X11
 cases hs : Yd ts (.inl a) [110, 117, 108, 108] with
 | true =>
  rw [hs, if_pos rfl] at X
  have HRt : xQ (R = .inl (Zi 3 [] 0 (Zx ts a) (Zz ts a) [] [] [], a + 1)) := by
   rw [HR3.o]
   exact if_pos hs
  clear hs HR3
  replace X : xQ (RX pb tb cap ts w wt d (.inl (a + 1)) [(nb, (Zu 2 li co).obj), (w.heap.size, Ze.obj)]) := X.o.perm (by simp)
  obtain ⟨⟨n0, n1, n2, n3, n4, n5, n6, n7⟩, ⟨g0, g1, g2, g3, g4, g5, g6, g7⟩, hnl⟩ := Zh (X.o.box (p := (nb, (Zu 2 li co).obj)) (by simp))
  obtain ⟨⟨r0, r1, r2, r3, r4, r5, r6, r7⟩, ⟨f0, f1, f2, f3, f4, f5, f6, f7⟩, hrl⟩ := Zh (X.o.box (p := (w.heap.size, Ze.obj)) (by simp))
  have hne1 : ¬ nb = w.heap.size := by omega
  have hne2 : ¬ w.heap.size = nb := by omega
  go_wp2_with fail
  obtain ⟨Wf, hWf⟩ := xE (((((((((wt.setCell ⟨nb, 0, none⟩ (.int .i64 3)).setCell ⟨w.heap.size, 0, none⟩ (.int .i64 3)).setCell ⟨w.heap.size, 1, none⟩ (.string ⟨#[]⟩)).setCell ⟨w.heap.size, 2, none⟩ (.int .i64 0)).setCell ⟨w.heap.size, 3, none⟩ (.int .i64 li)).setCell ⟨w.heap.size, 4, none⟩ (.int .i64 co)).setCell ⟨w.heap.size, 5, none⟩ (.slice none 0 0)).setCell ⟨w.heap.size, 6, none⟩ (.slice none 0 0)).setCell ⟨w.heap.size, 7, none⟩ (.slice none 0 0))
  rw [← hWf]
  obtain ⟨HXF, zhp, hsF⟩ : Left pb tb cap ts w d (.inl (a + 1)) w.heap.size nb wt Wf ⟨3, ⟨#[]⟩, 0, li, co, none, 0, 0, none, 0, 0, none, 0, 0⟩ 0 := by rw [hWf]; exact Us (rb := w.heap.size) X.o (by simp) (by omega) (by omega) 0 (.int .i64 3) ⟨3, ⟨#[]⟩, 0, li, co, none, 0, 0, none, 0, 0, none, 0, 0⟩
  clear hWf
  replace HXF := Za HXF
  refine Vh rfl rfl (HXF.o.box xM) rfl ⟨HXF.o.st, ?_, ⟨3, ⟨#[]⟩, 0, li, co, none, 0, 0, none, 0, 0, none, 0, 0⟩, rfl, fun D c e => ?_⟩
  ·rw [HRt.o]; exact HXF.o.at_
  ·rw [HRt.o] at e
   injection e with e
   injection e with e _
   rw [← e, ← HLc.o.1, ← HLc.o.2]
   exact ⟨1, [], [], [], rfl, ⟨rfl, rfl, rfl⟩, ⟨xZ _, xZ _, xZ _⟩, .inl rfl, .inl rfl, .inl rfl⟩
 | false =>
 rw [hs, if_neg (by simp)] at X
 have HR4 : xQ (R = at4 ts K E (f + 1) a) := by
  rw [HR3.o]
  exact if_neg (by rw [show Zc ts a [110, 117, 108, 108] = false from hs]; simp)
 clear hs HR3
 obtain ⟨W12, hW12⟩ := xE wt
 subst hW12
 have X12 := X
 clear X
 go_wp2_with fail
 refine (Y5 pb tb cap d ts (.inl a) [114, 101, 97, 100] _ X12.o.at_ OK.o).mono ?_
 rintro e wt ⟨rfl, hst, hat⟩
 have X := Za (X12.o.step hst hat)
 clear hst hat X12
 cases hs : Yd ts (.inl a) [114, 101, 97, 100] with
 | true =>
  rw [hs, if_pos rfl] at X
  have HRt : xQ (R = (Zb ts (a + 1) [40]).go fun _ b => (Zb ts b [41]).go fun _ b => .inl (Zi 18 [] 0 (Zx ts a) (Zz ts a) [] [] [], b)) := by
   rw [HR4.o]
   exact if_pos hs
  clear hs HR4
  replace X : xQ (RX pb tb cap ts w wt d (.inl (a + 1)) [(nb, (Zu 2 li co).obj), (w.heap.size, Ze.obj)]) := X.o.perm (by simp)
  go_wp2_with fail
  refine (Xx pb tb cap d ts (.inl (a + 1)) [40] _ X.o.at_ OK.o).mono ?_
  rintro e wu ⟨rfl, hst, hat⟩
  have X4 := Za (X.o.step hst hat)
  clear hst hat X
  go_wp2_with fail
  refine (Xx pb tb cap d ts _ [41] _ X4.o.at_ OK.o).mono ?_
  rintro e wv ⟨rfl, hst, hat⟩
  have X5 := Za (X4.o.step hst hat)
  clear hst hat X4
  have HSt : xQ (Zd R = Zd (Zf (fun a => Zb ts a [41]) (Zd (Zf (fun a => Zb ts a [40]) (.inl (a + 1)))))) := by
   show _ = _
   rw [HRt.o]
   show Zd ((Zb ts (a + 1) [40]).go _) = Zd (Zf _ (Zd (Zb ts (a + 1) [40])))
   cases Zb ts (a + 1) [40] with
   | inr p => rfl
   | inl q =>
    show Zd ((Zb ts q.2 [41]).go _) = Zd (Zb ts q.2 [41])
    cases Zb ts q.2 [41] with
    | inr p => rfl
    | inl q => rfl
  have HVl : xQ (∀ D c, R = .inl (D, c) → D = Zi 18 [] 0 (Zx ts a) (Zz ts a) [] [] []) := fun D c e => by
   rw [HRt.o] at e
   cases h1 : Zb ts (a + 1) [40] with
   | inr p => rw [h1] at e; cases e
   | inl q =>
    rw [h1] at e
    have e2 : (Zb ts q.2 [41]).go (fun _ b => (.inl (Zi 18 [] 0 (Zx ts a) (Zz ts a) [] [] [], b) : Pr Ty)) = .inl (D, c) := e
    cases h2 : Zb ts q.2 [41] with
    | inr p => rw [h2] at e2; cases e2
    | inl q =>
     rw [h2] at e2
     injection e2 with e2
     injection e2 with e2 _
     exact e2.symm
  obtain ⟨S5, hS5⟩ := xE (Zd (Zf (fun a => Zb ts a [41]) (Zd (Zf (fun a => Zb ts a [40]) (.inl (a + 1))))))
  rw [← hS5] at X5 HSt
  clear hS5
  obtain ⟨⟨n0, n1, n2, n3, n4, n5, n6, n7⟩, ⟨g0, g1, g2, g3, g4, g5, g6, g7⟩, hnl⟩ := Zh (X5.o.box (p := (nb, (Zu 2 li co).obj)) (by simp))
  obtain ⟨⟨r0, r1, r2, r3, r4, r5, r6, r7⟩, ⟨f0, f1, f2, f3, f4, f5, f6, f7⟩, hrl⟩ := Zh (X5.o.box (p := (w.heap.size, Ze.obj)) (by simp))
  have hne1 : ¬ nb = w.heap.size := by omega
  have hne2 : ¬ w.heap.size = nb := by omega
  go_wp2_with fail
  obtain ⟨Wf, hWf⟩ := xE (((((((((wv.setCell ⟨nb, 0, none⟩ (.int .i64 18)).setCell ⟨w.heap.size, 0, none⟩ (.int .i64 18)).setCell ⟨w.heap.size, 1, none⟩ (.string ⟨#[]⟩)).setCell ⟨w.heap.size, 2, none⟩ (.int .i64 0)).setCell ⟨w.heap.size, 3, none⟩ (.int .i64 li)).setCell ⟨w.heap.size, 4, none⟩ (.int .i64 co)).setCell ⟨w.heap.size, 5, none⟩ (.slice none 0 0)).setCell ⟨w.heap.size, 6, none⟩ (.slice none 0 0)).setCell ⟨w.heap.size, 7, none⟩ (.slice none 0 0))
  rw [← hWf]
  obtain ⟨HXF, zhp, hsF⟩ : Left pb tb cap ts w d S5 w.heap.size nb wv Wf ⟨18, ⟨#[]⟩, 0, li, co, none, 0, 0, none, 0, 0, none, 0, 0⟩ 0 := by rw [hWf]; exact Us (rb := w.heap.size) X5.o (by simp) (by omega) (by omega) 0 (.int .i64 18) ⟨18, ⟨#[]⟩, 0, li, co, none, 0, 0, none, 0, 0, none, 0, 0⟩
  clear hWf
  replace HXF := Za HXF
  refine Vh rfl rfl (HXF.o.box xM) rfl ⟨HXF.o.st, ?_, ⟨18, ⟨#[]⟩, 0, li, co, none, 0, 0, none, 0, 0, none, 0, 0⟩, rfl, fun D c e => ?_⟩
  ·rw [HSt.o]; exact HXF.o.at_
  ·rw [HVl.o D c e, ← HLc.o.1, ← HLc.o.2]
   exact ⟨1, [], [], [], rfl, ⟨rfl, rfl, rfl⟩, ⟨xZ _, xZ _, xZ _⟩, .inl rfl, .inl rfl, .inl rfl⟩
 | false =>
 rw [hs, if_neg (by simp)] at X
 have HR5 : xQ (R = at5 ts K E (f + 1) a) := by
  rw [HR4.o]
  exact if_neg (by rw [show Zc ts a [114, 101, 97, 100] = false from hs]; simp)
 clear hs HR4
 obtain ⟨W13, hW13⟩ := xE wt
 subst hW13
 have X13 := X
 clear X
 go_wp2_with fail
 refine (Y5 pb tb cap d ts (.inl a) [112, 114, 105, 110, 116] _ X13.o.at_ OK.o).mono ?_
 rintro e wt ⟨rfl, hst, hat⟩
 have X := Za (X13.o.step hst hat)
 clear hst hat X13
 cases hs : Yd ts (.inl a) [112, 114, 105, 110, 116] with
 | true =>
  rw [hs, if_pos rfl] at X
  have HRt : xQ (R = (Zb ts (a + 1) [40]).go fun _ b => (E b).go fun x b => (Zb ts b [41]).go fun _ b => .inl (Zi 17 [] 0 (Zx ts a) (Zz ts a) [] [] [x], b)) := by
   rw [HR5.o]
   exact if_pos hs
  clear hs HR5
  replace X : xQ (RX pb tb cap ts w wt d (.inl (a + 1)) [(nb, (Zu 2 li co).obj), (w.heap.size, Ze.obj)]) := X.o.perm (by simp)
  go_wp2_with fail
  refine (Xx pb tb cap d ts (.inl (a + 1)) [40] _ X.o.at_ OK.o).mono ?_
  rintro e wu ⟨rfl, hst, hat⟩
  have X4 := Za (X.o.step hst hat)
  clear hst hat X
  obtain ⟨S4, hS4⟩ := xE (Zd (Zf (fun a => Zb ts a [40]) (.inl (a + 1))))
  rw [← hS4] at X4
  have HS4 := Za hS4
  clear hS4
  go_wp2_with fail
  refine (HE.o _ _ X4.o.at_).mono ?_
  rintro e wv ⟨hst, hat, z, rfl, hv⟩
  have X5 := Za ((X4.o.step hst hat).alloc z.obj)
  have hnv := xB (X4.o.box (p := (nb, (Zu 2 li co).obj)) (by simp))
  have HZ : xQ (Yq (nb + 1) (wv.alloc z.obj) z (Zf E S4)) := (hv.lower hnv).below (Zl _ _)
  have hs5 := hst.size
  clear hst hat hv X4
  obtain ⟨R4, hR4⟩ := xE (Zf E S4)
  rw [← hR4] at X5 HZ
  have HR4 := Za hR4
  clear hR4
  go_wp2_with fail
  obtain ⟨kb, hkb⟩ := xE wv.heap.size
  rw [← hkb] at X5 hs5 ⊢
  clear hkb
  generalize wv.alloc (.cells #[.int .i64 z.k, .string z.tx, .int .i64 z.N, .int .i64 z.li, .int .i64 z.co, .slice z.ta z.tl z.tc, .slice z.na z.nl z.nc, .slice z.ka z.kl z.kc] 27) = W5 at X5 HZ ⊢
  have hnk : nb < kb := by omega
  refine (Xx pb tb cap d ts (Zd R4) [41] _ X5.o.at_ OK.o).mono ?_
  rintro e wy ⟨rfl, hst, hat⟩
  have X6 := Za (X5.o.step hst hat)
  have HZ6 := Za (HZ.o.stay hst (by omega))
  clear hst hat X5 HZ
  have HSt : xQ (Zd R = Zd (Zf (fun a => Zb ts a [41]) (Zd R4))) := by
   show _ = _
   rw [HRt.o, HR4.o, HS4.o]
   show Zd ((Zb ts (a + 1) [40]).go _) = Zd (Zf _ (Zd (Zf E (Zd (Zb ts (a + 1) [40])))))
   cases Zb ts (a + 1) [40] with
   | inr p => rfl
   | inl q =>
    show Zd ((E q.2).go _) = Zd (Zf _ (Zd (E q.2)))
    cases E q.2 with
    | inr p => rfl
    | inl q =>
     show Zd ((Zb ts q.2 [41]).go _) = Zd (Zb ts q.2 [41])
     cases Zb ts q.2 [41] with
     | inr p => rfl
     | inl q => rfl
  have HVl : xQ (∀ D c, R = .inl (D, c) → ∃ x b, R4 = .inl (x, b) ∧ D = Zi 17 [] 0 (Zx ts a) (Zz ts a) [] [] [x]) := fun D c e => by
   rw [HRt.o] at e
   rw [HR4.o, HS4.o]
   show ∃ x b, Zf E (Zd (Zb ts (a + 1) [40])) = _ ∧ _
   cases h1 : Zb ts (a + 1) [40] with
   | inr p => rw [h1] at e; cases e
   | inl q =>
    rw [h1] at e
    have e2 : (E q.2).go (fun x b => (Zb ts b [41]).go fun _ b => (.inl (Zi 17 [] 0 (Zx ts a) (Zz ts a) [] [] [x], b) : Pr Ty)) = .inl (D, c) := e
    show ∃ x b, E q.2 = _ ∧ _
    cases h2 : E q.2 with
    | inr p => rw [h2] at e2; cases e2
    | inl r =>
     rw [h2] at e2
     have e3 : (Zb ts r.2 [41]).go (fun _ b => (.inl (Zi 17 [] 0 (Zx ts a) (Zz ts a) [] [] [r.1], b) : Pr Ty)) = .inl (D, c) := e2
     cases h3 : Zb ts r.2 [41] with
     | inr p => rw [h3] at e3; cases e3
     | inl q =>
      rw [h3] at e3
      injection e3 with e3
      injection e3 with e3 _
      exact ⟨r.1, r.2, rfl, e3.symm⟩
  obtain ⟨S5, hS5⟩ := xE (Zd (Zf (fun a => Zb ts a [41]) (Zd R4)))
  rw [← hS5] at X6 HSt
  clear hS5
  obtain ⟨⟨z0, z1, z2, z3, z4, z5, z6, z7⟩, _, hkl⟩ := Zh (X6.o.box (p := (kb, z.obj)) (by simp))
  have hne9 : ¬ kb = nb := by omega
  obtain ⟨⟨n0, n1, n2, n3, n4, n5, n6, n7⟩, ⟨g0, g1, g2, g3, g4, g5, g6, g7⟩, hnl⟩ := Zh (X6.o.box (p := (nb, (Zu 2 li co).obj)) (by simp))
  obtain ⟨⟨r0, r1, r2, r3, r4, r5, r6, r7⟩, ⟨f0, f1, f2, f3, f4, f5, f6, f7⟩, hrl⟩ := Zh (X6.o.box (p := (w.heap.size, Ze.obj)) (by simp))
  have hne1 : ¬ nb = w.heap.size := by omega
  have hne2 : ¬ w.heap.size = nb := by omega
  go_wp2_with fail
  obtain ⟨Wf, hWf⟩ := xE (((((((((((wy.setCell ⟨nb, 0, none⟩ (.int .i64 17)).setCell ⟨nb, 7, none⟩ (.slice (some ⟨wy.heap.size, 0, none⟩) 1 1)).setCell ⟨w.heap.size, 0, none⟩ (.int .i64 17)).setCell ⟨w.heap.size, 1, none⟩ (.string ⟨#[]⟩)).setCell ⟨w.heap.size, 2, none⟩ (.int .i64 0)).setCell ⟨w.heap.size, 3, none⟩ (.int .i64 li)).setCell ⟨w.heap.size, 4, none⟩ (.int .i64 co)).setCell ⟨w.heap.size, 5, none⟩ (.slice none 0 0)).setCell ⟨w.heap.size, 6, none⟩ (.slice none 0 0)).setCell ⟨w.heap.size, 7, none⟩ (.slice (some ⟨wy.heap.size, 0, none⟩) 1 1)).alloc (.cells #[.int .i64 z.k, .string z.tx, .int .i64 z.N, .int .i64 z.li, .int .i64 z.co, .slice z.ta z.tl z.tc, .slice z.na z.nl z.nc, .slice z.ka z.kl z.kc] 27))
  rw [← hWf]
  obtain ⟨HXF, zhp, hsF⟩ : Left pb tb cap ts w d S5 w.heap.size nb wy Wf ⟨17, ⟨#[]⟩, 0, li, co, none, 0, 0, none, 0, 0, (some ⟨wy.heap.size, 0, none⟩), 1, 1⟩ 1 := by rw [hWf]; exact Tp (Kw (rb := w.heap.size) X6.o (by simp) (by omega) (by omega) 0 (.int .i64 17) 7 (.slice (some ⟨wy.heap.size, 0, none⟩) 1 1) ⟨17, ⟨#[]⟩, 0, li, co, none, 0, 0, none, 0, 0, (some ⟨wy.heap.size, 0, none⟩), 1, 1⟩) (z.obj)
  have hrow : Wf.heap[wy.heap.size]? = some (z.obj) := by rw [hWf]; exact M8 (Kw (rb := w.heap.size) X6.o (by simp) (by omega) (by omega) 0 (.int .i64 17) 7 (.slice (some ⟨wy.heap.size, 0, none⟩) 1 1) ⟨17, ⟨#[]⟩, 0, li, co, none, 0, 0, none, 0, 0, (some ⟨wy.heap.size, 0, none⟩), 1, 1⟩) (z.obj) rfl
  clear hWf
  replace HXF := Za HXF
  refine Vh rfl rfl (HXF.o.box xM) rfl ⟨HXF.o.st, ?_, ⟨17, ⟨#[]⟩, 0, li, co, none, 0, 0, none, 0, 0, (some ⟨wy.heap.size, 0, none⟩), 1, 1⟩, rfl, fun D c e => ?_⟩
  ·rw [HSt.o]; exact HXF.o.at_
  ·obtain ⟨x, b, h1, h2⟩ := HVl.o D c e
   have hz : Zv (w.heap.size + 1) Wf z x := ((HZ6.o x b h1).keep (by omega) fun c h6 h7 => zhp c (by omega) (by omega) h7).lower (by omega)
   have := (V2 (kb := wy.heap.size) hz hrow (by omega) ⟨17, ⟨#[]⟩, 0, li, co, none, 0, 0, none, 0, 0, (some ⟨wy.heap.size, 0, none⟩), 1, 1⟩ [] [] ⟨rfl, rfl⟩ ⟨rfl, xZ _, 0, .inl rfl⟩ ⟨rfl, xZ _, .inl rfl⟩).lower (Nat.le_succ _)
   rw [h2, ← HLc.o.1, ← HLc.o.2]
   exact this
 | false =>
 rw [hs, if_neg (by simp)] at X
 have HR6 : xQ (R = at6 ts K E (f + 1) a) := by
  rw [HR5.o]
  exact if_neg (by rw [show Zc ts a [112, 114, 105, 110, 116] = false from hs]; simp)
 clear hs HR5
 obtain ⟨W14, hW14⟩ := xE wt
 subst hW14
 have X14 := X
 clear X
 go_wp2_with fail
 refine (Y5 pb tb cap d ts (.inl a) [40] _ X14.o.at_ OK.o).mono ?_
 rintro e wt ⟨rfl, hst, hat⟩
 have X := Za (X14.o.step hst hat)
 clear hst hat X14
 cases hs : Yd ts (.inl a) [40] with
 | true =>
  rw [hs, if_pos rfl] at X
  have HRt : xQ (R = (E (a + 1)).go fun x b => (Zb ts b [41]).go fun _ b => .inl (x, b)) := by
   rw [HR6.o]
   exact if_pos hs
  clear hs HR6
  replace X : xQ (RX pb tb cap ts w wt d (.inl (a + 1)) [(nb, (Zu 2 li co).obj), (w.heap.size, Ze.obj)]) := X.o.perm (by simp)
  go_wp2_with fail
  refine (HE.o _ _ X.o.at_).mono ?_
  rintro e wv ⟨hst, hat, z, rfl, hv⟩
  have X5 := Za ((X.o.step hst hat).alloc z.obj)
  have hnv := xB (X.o.box (p := (nb, (Zu 2 li co).obj)) (by simp))
  have HZ : xQ (Yq (nb + 1) (wv.alloc z.obj) z (E (a + 1))) := (Yq.lower hv hnv).below (Zl _ _)
  have hs5 := hst.size
  clear hst hat hv X
  have e9 : Zf E (.inl (a + 1)) = E (a + 1) := rfl
  rw [e9] at X5
  clear e9
  go_wp2_with fail
  obtain ⟨kb, hkb⟩ := xE wv.heap.size
  rw [← hkb] at X5 hs5 ⊢
  clear hkb
  generalize wv.alloc (.cells #[.int .i64 z.k, .string z.tx, .int .i64 z.N, .int .i64 z.li, .int .i64 z.co, .slice z.ta z.tl z.tc, .slice z.na z.nl z.nc, .slice z.ka z.kl z.kc] 27) = W5 at X5 HZ ⊢
  have hnk : nb < kb := by omega
  refine (Xx pb tb cap d ts (Zd (E (a + 1))) [41] _ X5.o.at_ OK.o).mono ?_
  rintro e wy ⟨rfl, hst, hat⟩
  have X6 := Za (X5.o.step hst hat)
  have HZ6 := Za (HZ.o.stay hst (by omega))
  clear hst hat X5 HZ
  have HSt : xQ (Zd R = Zd (Zf (fun a => Zb ts a [41]) (Zd (E (a + 1))))) := by
   show _ = _
   rw [HRt.o]
   cases E (a + 1) with
   | inr p => rfl
   | inl q =>
    show Zd ((Zb ts q.2 [41]).go _) = Zd (Zb ts q.2 [41])
    cases Zb ts q.2 [41] with
    | inr p => rfl
    | inl q => rfl
  have HVl : xQ (∀ D c, R = .inl (D, c) → ∃ b, E (a + 1) = .inl (D, b)) := fun D c e => by
   rw [HRt.o] at e
   cases h2 : E (a + 1) with
   | inr p => rw [h2] at e; cases e
   | inl r =>
    rw [h2] at e
    have e3 : (Zb ts r.2 [41]).go (fun _ b => (.inl (r.1, b) : Pr Ty)) = .inl (D, c) := e
    cases h3 : Zb ts r.2 [41] with
    | inr p => rw [h3] at e3; cases e3
    | inl q =>
     rw [h3] at e3
     injection e3 with e3
     injection e3 with e3 _
     exact ⟨r.2, by rw [← e3]⟩
  obtain ⟨S5, hS5⟩ := xE (Zd (Zf (fun a => Zb ts a [41]) (Zd (E (a + 1)))))
  rw [← hS5] at X6 HSt
  clear hS5
  obtain ⟨⟨z0, z1, z2, z3, z4, z5, z6, z7⟩, _, hkl⟩ := Zh (X6.o.box (p := (kb, z.obj)) (by simp))
  have hne9 : ¬ kb = w.heap.size := by omega
  obtain ⟨⟨n0, n1, n2, n3, n4, n5, n6, n7⟩, ⟨g0, g1, g2, g3, g4, g5, g6, g7⟩, hnl⟩ := Zh (X6.o.box (p := (nb, (Zu 2 li co).obj)) (by simp))
  obtain ⟨⟨r0, r1, r2, r3, r4, r5, r6, r7⟩, ⟨f0, f1, f2, f3, f4, f5, f6, f7⟩, hrl⟩ := Zh (X6.o.box (p := (w.heap.size, Ze.obj)) (by simp))
  have hne1 : ¬ nb = w.heap.size := by omega
  have hne2 : ¬ w.heap.size = nb := by omega
  go_wp2_with fail
  obtain ⟨Wf, hWf⟩ := xE ((((((((wy.setCell ⟨w.heap.size, 0, none⟩ (.int .i64 z.k)).setCell ⟨w.heap.size, 1, none⟩ (.string z.tx)).setCell ⟨w.heap.size, 2, none⟩ (.int .i64 z.N)).setCell ⟨w.heap.size, 3, none⟩ (.int .i64 z.li)).setCell ⟨w.heap.size, 4, none⟩ (.int .i64 z.co)).setCell ⟨w.heap.size, 5, none⟩ (.slice z.ta z.tl z.tc)).setCell ⟨w.heap.size, 6, none⟩ (.slice z.na z.nl z.nc)).setCell ⟨w.heap.size, 7, none⟩ (.slice z.ka z.kl z.kc))
  rw [← hWf]
  obtain ⟨HXF, zhp, hsF⟩ : Left pb tb cap ts w d S5 w.heap.size nb wy Wf z 0 := by rw [hWf]; exact Mh (rb := w.heap.size) X6.o (by simp) nb z
  clear hWf
  replace HXF := Za HXF
  refine Vh rfl rfl (HXF.o.box xM) rfl ⟨HXF.o.st, ?_, z, rfl, fun D c e => ?_⟩
  ·rw [HSt.o]; exact HXF.o.at_
  ·obtain ⟨b, h1⟩ := HVl.o D c e
   exact ((HZ6.o D b h1).keep (by omega) fun c h6 h7 => zhp c (by omega) (by omega) h7).lower (by omega)
 | false =>
 rw [hs, if_neg (by simp)] at X
 have HR7 : xQ (R = at7 ts K E (f + 1) a) := by
  rw [HR6.o]
  exact if_neg (by rw [show Zc ts a [40] = false from hs]; simp)
 clear hs HR6
 obtain ⟨W15, hW15⟩ := xE wt
 subst hW15
 have X15 := X
 clear X
 go_wp2_with fail
 refine (Y5 pb tb cap d ts (.inl a) [123] _ X15.o.at_ OK.o).mono ?_
 rintro e wt ⟨rfl, hst, hat⟩
 have X := Za (X15.o.step hst hat)
 clear hst hat X15
 cases hs : Yd ts (.inl a) [123] with
 | true =>
  rw [hs, if_pos rfl] at X
  have HRt : xQ (R = Q1 ts E (f + 1) a) := by
   rw [HR7.o]
   exact if_pos hs
  clear hs HR7
  replace X : xQ (RX pb tb cap ts w wt d (.inl (a + 1)) [(nb, (Zu 2 li co).obj), (w.heap.size, Ze.obj)]) := X.o.perm (by simp)
  obtain ⟨⟨n0, n1, n2, n3, n4, n5, n6, n7⟩, ⟨g0, g1, g2, g3, g4, g5, g6, g7⟩, hnl⟩ := Zh (X.o.box (p := (nb, (Zu 2 li co).obj)) (by simp))
  have hne1 : ¬ nb = w.heap.size := by omega
  have hne2 : ¬ w.heap.size = nb := by omega
  have HC := Za (HRec.o li co wt HLc.o.1 HLc.o.2 X.o.at_)
  rw [← HRt.o] at HC
  go_wp2_with fail
  refine HC.o.mono ?_
  rintro e wv ⟨hst, hat, z, rfl, hv⟩
  have X5 := Za (X.o.step hst hat)
  have HZ5 := Za (hv.lower (xB (X.o.box (p := (nb, (Zu 2 li co).obj)) (by simp))))
  clear hst hat hv X n0 n1 n2 n3 n4 n5 n6 n7 g0 g1 g2 g3 g4 g5 g6 g7 hnl HC
  obtain ⟨⟨n0, n1, n2, n3, n4, n5, n6, n7⟩, ⟨g0, g1, g2, g3, g4, g5, g6, g7⟩, hnl⟩ := Zh (X5.o.box (p := (nb, (Zu 2 li co).obj)) (by simp))
  obtain ⟨⟨r0, r1, r2, r3, r4, r5, r6, r7⟩, ⟨f0, f1, f2, f3, f4, f5, f6, f7⟩, hrl⟩ := Zh (X5.o.box (p := (w.heap.size, Ze.obj)) (by simp))
  have zib : ¬ nb = w.heap.size := by omega
  have zic : ¬ w.heap.size = nb := by omega
  go_wp2_with fail
  obtain ⟨Wf, hWf⟩ := xE ((((((((wv.setCell ⟨w.heap.size, 0, none⟩ (.int .i64 z.k)).setCell ⟨w.heap.size, 1, none⟩ (.string z.tx)).setCell ⟨w.heap.size, 2, none⟩ (.int .i64 z.N)).setCell ⟨w.heap.size, 3, none⟩ (.int .i64 z.li)).setCell ⟨w.heap.size, 4, none⟩ (.int .i64 z.co)).setCell ⟨w.heap.size, 5, none⟩ (.slice z.ta z.tl z.tc)).setCell ⟨w.heap.size, 6, none⟩ (.slice z.na z.nl z.nc)).setCell ⟨w.heap.size, 7, none⟩ (.slice z.ka z.kl z.kc))
  rw [← hWf]
  obtain ⟨HXF, zhp, hsF⟩ : Left pb tb cap ts w d (Zd R) w.heap.size nb wv Wf z 0 := by rw [hWf]; exact Mh (rb := w.heap.size) X5.o (by simp) nb z
  clear hWf
  replace HXF := Za HXF
  refine Vh rfl rfl (HXF.o.box xM) rfl ⟨HXF.o.st, ?_, z, rfl, fun D c e => ?_⟩
  ·exact HXF.o.at_
  ·exact ((HZ5.o D c e).keep (by omega) fun c h6 h7 => zhp c (by omega) (by omega) h7).lower (by omega)
 | false =>
 rw [hs, if_neg (by simp)] at X
 have HR8 : xQ (R = at8 ts K (f + 1) a) := by
  rw [HR7.o]
  exact if_neg (by rw [show Zc ts a [123] = false from hs]; simp)
 clear hs HR7
 obtain ⟨W16, hW16⟩ := xE wt
 subst hW16
 have X16 := X
 clear X
 obtain ⟨⟨n0, n1, n2, n3, n4, n5, n6, n7⟩, ⟨g0, g1, g2, g3, g4, g5, g6, g7⟩, hnl⟩ := Zh (X16.o.box (p := (nb, (Zu 2 li co).obj)) (by simp))
 have hne1 : ¬ nb = w.heap.size := by omega
 have hne2 : ¬ w.heap.size = nb := by omega
 have X17 : xQ (RX pb tb cap ts w (W16.setCell ⟨nb, 0, none⟩ (.int .i64 4)) d (.inl a) [(nb, (Zu 4 li co).obj), (w.heap.size, Ze.obj)]) := RX.setB (X16.o.perm (bx' := [(nb, (Zu 2 li co).obj), (w.heap.size, Ze.obj)]) (by simp)) (by simp; omega) 0 (.int .i64 4)
 go_wp2_with fail
 refine (Qm pb tb cap d ts (.inl a) _ X17.o.at_ OK.o).mono ?_
 rintro e wn ⟨rfl, hst, hat⟩
 have X18 := Za (X17.o.step hst hat)
 clear hst hat X17 X16 n0 n1 n2 n3 n4 n5 n6 n7 g0 g1 g2 g3 g4 g5 g6 g7 hnl
 obtain ⟨RN, hRN⟩ := xE (Zm ts a)
 have e9 : Zf (Zm ts) (.inl a) = RN := hRN.symm
 rw [e9] at X18 ⊢
 have HRN := Za hRN
 obtain ⟨s, hs⟩ := xE (Y1 RN)
 rw [← hs]
 have HSn := Za hs
 clear hs e9 hRN
 obtain ⟨⟨n0, n1, n2, n3, n4, n5, n6, n7⟩, ⟨g0, g1, g2, g3, g4, g5, g6, g7⟩, hnl⟩ := Zh (X18.o.box (p := (nb, (Zu 4 li co).obj)) (by simp))
 have X19 : xQ (RX pb tb cap ts w (wn.setCell ⟨nb, 1, none⟩ (.string ⟨s.toArray⟩)) d (Zd RN) [(nb, NV.obj ⟨4, ⟨s.toArray⟩, 0, li, co, none, 0, 0, none, 0, 0, none, 0, 0⟩), (w.heap.size, Ze.obj)]) := X18.o.setB (by simp; omega) 1 (.string ⟨s.toArray⟩)
 go_wp2_with fail
 refine (Y5 pb tb cap d ts (Zd RN) [91] _ X19.o.at_ OK.o).mono ?_
 rintro e wt ⟨rfl, hst, hat⟩
 have X := Za (X19.o.step hst hat)
 clear hst hat X18 X19 n0 n1 n2 n3 n4 n5 n6 n7 g0 g1 g2 g3 g4 g5 g6 g7 hnl
 cases hs : Yd ts (Zd RN) [91] with
 | false =>
  rw [hs, if_neg (by simp)] at X
  have HRt : xQ (R = RN.go fun s b => .inl (Zi 4 s 0 (Zx ts a) (Zz ts a) [] [] [], b)) := by
   rw [HR8.o, HRN.o]
   rw [HRN.o] at hs
   unfold at8
   cases h1 : Zm ts a with
   | inr p => rfl
   | inl q =>
    rw [h1] at hs
    have h2 : Zc ts q.2 [91] = false := hs
    show (if Zc ts q.2 [91] then _ else _) = _
    rw [h2]
    rfl
  clear hs HR8
  obtain ⟨⟨n0, n1, n2, n3, n4, n5, n6, n7⟩, ⟨g0, g1, g2, g3, g4, g5, g6, g7⟩, hnl⟩ := Zh (X.o.box (p := (nb, NV.obj ⟨4, ⟨s.toArray⟩, 0, li, co, none, 0, 0, none, 0, 0, none, 0, 0⟩)) (by simp))
  obtain ⟨⟨r0, r1, r2, r3, r4, r5, r6, r7⟩, ⟨f0, f1, f2, f3, f4, f5, f6, f7⟩, hrl⟩ := Zh (X.o.box (p := (w.heap.size, Ze.obj)) (by simp))
  have zib : ¬ nb = w.heap.size := by omega
  have zic : ¬ w.heap.size = nb := by omega
  go_wp2_with fail
  obtain ⟨Wf, hWf⟩ := xE ((((((((wt.setCell ⟨w.heap.size, 0, none⟩ (.int .i64 4)).setCell ⟨w.heap.size, 1, none⟩ (.string ⟨s.toArray⟩)).setCell ⟨w.heap.size, 2, none⟩ (.int .i64 0)).setCell ⟨w.heap.size, 3, none⟩ (.int .i64 li)).setCell ⟨w.heap.size, 4, none⟩ (.int .i64 co)).setCell ⟨w.heap.size, 5, none⟩ (.slice none 0 0)).setCell ⟨w.heap.size, 6, none⟩ (.slice none 0 0)).setCell ⟨w.heap.size, 7, none⟩ (.slice none 0 0))
  rw [← hWf]
  obtain ⟨HXF, zhp, hsF⟩ : Left pb tb cap ts w d (Zd RN) w.heap.size nb wt Wf ⟨4, ⟨s.toArray⟩, 0, li, co, none, 0, 0, none, 0, 0, none, 0, 0⟩ 0 := by rw [hWf]; exact Mh (rb := w.heap.size) X.o (by simp) nb ⟨4, ⟨s.toArray⟩, 0, li, co, none, 0, 0, none, 0, 0, none, 0, 0⟩
  clear hWf
  replace HXF := Za HXF
  refine Vh rfl rfl (HXF.o.box xM) rfl ⟨HXF.o.st, ?_, ⟨4, ⟨s.toArray⟩, 0, li, co, none, 0, 0, none, 0, 0, none, 0, 0⟩, rfl, fun D c e => ?_⟩
  ·have := HXF.o.at_
   rw [HRt.o]
   cases h1 : RN with
   | inr p => rw [h1] at this; exact this
   | inl q => rw [h1] at this; exact this
  ·rw [HRt.o] at e
   cases h1 : RN with
   | inr p => rw [h1] at e; cases e
   | inl q =>
    rw [h1] at e
    injection e with e
    injection e with e _
    have hq : s = q.1 := by rw [HSn.o, h1]; rfl
    rw [← e, ← hq, ← HLc.o.1, ← HLc.o.2]
    exact ⟨1, [], [], [], rfl, ⟨rfl, rfl, rfl⟩, ⟨xZ _, xZ _, xZ _⟩, .inl rfl, .inl rfl, .inl rfl⟩
 | true =>
  rw [hs, if_pos rfl] at X
  obtain ⟨s', b, hRb⟩ : ∃ s' b, RN = .inl (s', b) := by
   cases RN with
   | inr p => cases hs
   | inl q => exact ⟨q.1, q.2, rfl⟩
  have hsn : s = s' := by rw [HSn.o, hRb]; rfl
  obtain ⟨RT, hRT⟩ := xE ((Z1 ts K [44] (f + 1) (b + 1)).go fun l b => (Zb ts b [93]).go fun _ b => .inl (l, b))
  have HRt : xQ (R = RT.go fun l c => .inl (Zi 19 s 0 (Zx ts a) (Zz ts a) l [] [], c)) := by
   rw [HR8.o, hRT]
   rw [hRb] at hs
   unfold at8
   rw [← HRN.o, hRb, hsn]
   have h2 : Zc ts b [91] = true := hs
   show (if Zc ts b [91] then _ else _) = _
   rw [if_pos h2]
   cases Z1 ts K [44] (f + 1) (b + 1) with
   | inr p => rfl
   | inl q =>
    show (Zb ts q.2 [93]).go _ = ((Zb ts q.2 [93]).go _).go _
    cases Zb ts q.2 [93] with
    | inr p => rfl
    | inl r => rfl
  have e9 : Wy (Zd RN) = .inl (b + 1) := by rw [hRb]; rfl
  rw [e9] at X
  have HTc : xQ (∀ w, Zp w pb tb cap ts d (.inl (b + 1)) → Calls prog 215 #[.pointer (some ⟨pb, 0, none⟩)] w fun e w' => Zj pb w w' ∧ Zp w' pb tb cap ts d (Zd RT) ∧ TysP w.heap.size w' RT e) := fun w h => by
   rw [hRT]
   exact zbe pb tb cap d ts OK.o K huK f hf HK.o (.inl (b + 1)) w h
  clear hs HR8 e9 hRT hsn hRb
  obtain ⟨⟨n0, n1, n2, n3, n4, n5, n6, n7⟩, ⟨g0, g1, g2, g3, g4, g5, g6, g7⟩, hnl⟩ := Zh (X.o.box (p := (nb, NV.obj ⟨4, ⟨s.toArray⟩, 0, li, co, none, 0, 0, none, 0, 0, none, 0, 0⟩)) (by simp))
  have zib : ¬ nb = w.heap.size := by omega
  have zic : ¬ w.heap.size = nb := by omega
  have X20 : xQ (RX pb tb cap ts w (wt.setCell ⟨nb, 0, none⟩ (.int .i64 19)) d (.inl (b + 1)) [(nb, NV.obj ⟨19, ⟨s.toArray⟩, 0, li, co, none, 0, 0, none, 0, 0, none, 0, 0⟩), (w.heap.size, Ze.obj)]) := X.o.setB (by simp; omega) 0 (.int .i64 19)
  go_wp2_with fail
  refine (HTc.o _ X20.o.at_).mono ?_
  rintro e wy ⟨hst, hat, av, cv, cs, acc, rfl, zhx, hal2, hval⟩
  have X21 := Za (X20.o.step hst hat)
  have hnw := xB (X20.o.box (p := (nb, NV.obj ⟨19, ⟨s.toArray⟩, 0, li, co, none, 0, 0, none, 0, 0, none, 0, 0⟩)) (by simp))
  have HRW := Za (zhx.lowerB (B' := nb + 1) hnw)
  have HVal := Za hval
  clear hst hat X X20 zhx hval n0 n1 n2 n3 n4 n5 n6 n7 g0 g1 g2 g3 g4 g5 g6 g7 hnl
  obtain ⟨⟨n0, n1, n2, n3, n4, n5, n6, n7⟩, ⟨g0, g1, g2, g3, g4, g5, g6, g7⟩, hnl⟩ := Zh (X21.o.box (p := (nb, NV.obj ⟨19, ⟨s.toArray⟩, 0, li, co, none, 0, 0, none, 0, 0, none, 0, 0⟩)) (by simp))
  obtain ⟨⟨r0, r1, r2, r3, r4, r5, r6, r7⟩, ⟨f0, f1, f2, f3, f4, f5, f6, f7⟩, hrl⟩ := Zh (X21.o.box (p := (w.heap.size, Ze.obj)) (by simp))
  have hne1c : ¬ nb = w.heap.size := by omega
  have hne2c : ¬ w.heap.size = nb := by omega
  go_wp2_with fail
  obtain ⟨Wf, hWf⟩ := xE (((((((((wy.setCell ⟨nb, 5, none⟩ (.slice av acc.length cv)).setCell ⟨w.heap.size, 0, none⟩ (.int .i64 19)).setCell ⟨w.heap.size, 1, none⟩ (.string ⟨s.toArray⟩)).setCell ⟨w.heap.size, 2, none⟩ (.int .i64 0)).setCell ⟨w.heap.size, 3, none⟩ (.int .i64 li)).setCell ⟨w.heap.size, 4, none⟩ (.int .i64 co)).setCell ⟨w.heap.size, 5, none⟩ (.slice av acc.length cv)).setCell ⟨w.heap.size, 6, none⟩ (.slice none 0 0)).setCell ⟨w.heap.size, 7, none⟩ (.slice none 0 0))
  rw [← hWf]
  obtain ⟨HXF, zhp, hsF⟩ : Left pb tb cap ts w d (Zd RT) w.heap.size nb wy Wf ⟨19, ⟨s.toArray⟩, 0, li, co, av, acc.length, cv, none, 0, 0, none, 0, 0⟩ 0 := by rw [hWf]; exact Us (rb := w.heap.size) X21.o (by simp) (by omega) (by omega) 5 (.slice av acc.length cv) ⟨19, ⟨s.toArray⟩, 0, li, co, av, acc.length, cv, none, 0, 0, none, 0, 0⟩
  clear hWf
  replace HXF := Za HXF
  refine Vh rfl rfl (HXF.o.box xM) rfl ⟨HXF.o.st, ?_, ⟨19, ⟨s.toArray⟩, 0, li, co, av, acc.length, cv, none, 0, 0, none, 0, 0⟩, rfl, fun D c e => ?_⟩
  ·have := HXF.o.at_
   rw [HRt.o]
   cases h1 : RT with
   | inr p => rw [h1] at this; exact this
   | inl q => rw [h1] at this; exact this
  ·rw [HRt.o] at e
   cases h1 : RT with
   | inr p => rw [h1] at e; cases e
   | inl q =>
    obtain ⟨l, b2⟩ := q
    rw [h1] at e
    injection e with e
    injection e with e _
    have hacc := HVal.o l b2 h1
    have hr := HRW.o
    rw [hacc] at hr
    obtain ⟨a2, cap2, m, ea, hcl, hk⟩ := Py (B1 hr)
    rw [List.length_map] at ea
    injection ea with ea _ _
    subst ea
    have hll : acc.length = l.length := by rw [hacc, List.length_map]
    have hk2 : Xw Wf (w.heap.size + 1) m av l := Ba (Vv hk (by omega) fun c h6 h7 => zhp c (by omega) (by omega) h7) (by omega)
    rw [← e, ← HLc.o.1, ← HLc.o.2]
    exact Zv.lower ⟨m + 1, l, [], [], rfl, ⟨hll, rfl, rfl⟩, ⟨by omega, xZ _, xZ _⟩, hk2, .inl rfl, .inl rfl⟩ (Nat.le_succ _)
end Go.Proofs.YtbnjllkkhhkkaaaGreatDoor
