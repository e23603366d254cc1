/- Part. -/
import Derived.Deep.DrawnRows
import Derived.Test.YtbnjllkkhhkkaaaGreatDoorPart4
set_option maxRecDepth 100000
set_option maxHeartbeats 4000000
namespace Go.Proofs.YtbnjllkkhhkkaaaGreatDoor
open Tryz
open Go.RowKit
theorem V8 {g : Nat} {fn : Func} (hf : prog.funcs[g]? = some fn) (hn : (fn.name == "runtime.NumGoroutine") = false) (hb : fn.body.isNone = false) (args : Array Value) (w : World) : (callFunc g args).run prog w = .ok (.enter g args) w := by
 have h1 : fn.name ≠ "runtime.NumGoroutine" := by simpa using hn
 have h2 : fn.body ≠ none := fun e => by rw [e] at hb; cases hb
 simp [callFunc, go_sem, hf, h1, h2]
theorem Jq (pb : Nat) : V1 30 pb := fun w => V8 func30 (by kernel_rfl) (by kernel_rfl) _ w
theorem zec (pb : Nat) : V1 180 pb := fun w => V8 func180 (by kernel_rfl) (by kernel_rfl) _ w
section
variable {lo lo' pb b m f a : Nat} {w w' : World} {v : Value} {D : Ty} {ts : List Tok} {α : Type}
theorem Zt.keep (h : Zt lo w v D) (hs : w.heap.size ≤ w'.heap.size) (hk : ∀ b, lo ≤ b → b < w.heap.size → w'.heap[b]? = w.heap[b]?) : Zt lo w' v D := by
 obtain ⟨m, h⟩ := h
 exact ⟨m, Kr h hs hk⟩
theorem Zt.lower (h : Zt lo w v D) (hl : lo' ≤ lo) : Zt lo' w v D := by
 obtain ⟨m, h⟩ := h
 exact ⟨m, Hb h hl⟩
theorem Zt.stay (h : Zt lo w v D) (hs : Zj pb w w') (hp : pb < lo) : Zt lo w' v D := h.keep hs.size fun b hb hl => hs.keep b (by omega) hl
theorem Zt.set4 (h : Zt lo w v D) (hb : b < lo) (x0 x1 x2 x3 : Value) : Zt lo ((((w.setCell ⟨b, 0, none⟩ x0).setCell ⟨b, 1, none⟩ x1).setCell ⟨b, 2, none⟩ x2).setCell ⟨b, 3, none⟩ x3) v D :=
 h.keep (by rw [Vj]; exact xR) fun i hi _ => Yn (by omega) _ _ _ _
theorem Zt.set1 (h : Zt lo w v D) (hb : b < lo) (o : Nat) (x : Value) : Zt lo (w.setCell ⟨b, o, none⟩ x) v D :=
 h.keep (by rw [Zw]; exact xR) fun i hi _ => xH (by show i ≠ b; omega)
theorem Zt.alloc (h : Zt lo w v D) (o : Obj) : Zt lo (w.alloc o) v D := h.keep (by simp) fun i _ hl => xA hl
theorem N6 (lo : Nat) (w : World) (k : Int) (nm : ByteArray) (hk : (Lit.int .i64 k).wf = true) (hn : nm.size ≤ reachBytes) : Zt lo w (.agg #[.int .i64 k, .string nm, .slice none 0 0, .slice none 0 0]) (Z6 k nm.data.toList [] []) :=
 ⟨1, k, nm, none, 0, none, 0, [], [], rfl, rfl, hk, hn, (fun _ h => nomatch h), ⟨xR, xZ _⟩, ⟨xR, xZ _⟩, .inl rfl, .inl rfl⟩
theorem Nb {one : Nat → Pr α} {sep : List UInt8} : ∀ (f : Nat) {a b : Nat} {l : List α}, Z1 ts one sep f a = .inl (l, b) → l.length ≤ f
 | 0, _, _, _, h => by cases h
 | f + 1, a, b, l, h => by
  rw [Z1] at h
  cases ho : one a with
  | inr e => rw [ho] at h; cases h
  | inl p =>
   obtain ⟨x, c⟩ := p
   rw [ho] at h
   replace h : (if Zc ts c sep then (Z1 ts one sep f (c + 1)).go fun l a => .inl (x :: l, a) else .inl ([x], c)) = .inl (l, b) := h
   by_cases hs : Zc ts c sep = true
   ·rw [if_pos hs] at h
    cases hm : Z1 ts one sep f (c + 1) with
    | inr e => rw [hm] at h; cases h
    | inl p =>
     obtain ⟨l', d⟩ := p
     rw [hm] at h
     injection h with h
     injection h with h
     rw [← h]
     have := Nb f hm
     simp
     omega
   ·rw [if_neg hs] at h
    injection h with h
    injection h with h
    rw [← h]
    simp
theorem Jy {one : Nat → Pr α} {sep : List UInt8} {Q : α → Prop} (hq : ∀ a x b, one a = .inl (x, b) → Q x) : ∀ (f : Nat) {a b : Nat} {l : List α}, Z1 ts one sep f a = .inl (l, b) → ∀ x ∈ l, Q x
 | 0, _, _, _, h => by cases h
 | f + 1, a, b, l, h => by
  rw [Z1] at h
  cases ho : one a with
  | inr e => rw [ho] at h; cases h
  | inl p =>
   obtain ⟨x, c⟩ := p
   rw [ho] at h
   replace h : (if Zc ts c sep then (Z1 ts one sep f (c + 1)).go fun l a => .inl (x :: l, a) else .inl ([x], c)) = .inl (l, b) := h
   by_cases hs : Zc ts c sep = true
   ·rw [if_pos hs] at h
    cases hm : Z1 ts one sep f (c + 1) with
    | inr e => rw [hm] at h; cases h
    | inl p =>
     obtain ⟨l', d⟩ := p
     rw [hm] at h
     injection h with h
     injection h with h
     rw [← h]
     intro y hy
     rcases List.mem_cons.1 hy with rfl | hy
     ·exact hq a _ c ho
     ·exact Jy hq f hm y hy
   ·rw [if_neg hs] at h
    injection h with h
    injection h with h
    rw [← h]
    intro y hy
    rw [List.mem_singleton.1 hy]
    exact hq a _ c ho
theorem G5 {s : List UInt8} {b : Nat} (h : Zm ts a = .inl (s, b)) : s = (Zg ts a).text := by
 unfold Zm at h
 split at h
 ·injection h with h; injection h with h; exact h.symm
 ·cases h
theorem zck (ok : Z0 ts) {K : Nat → Pr α} {x : List UInt8 × α} {b : Nat} (h : Xy ts K a = .inl (x, b)) : x.1.length ≤ 70000 := by
 unfold Xy at h
 cases hn : Zm ts a with
 | inr e => rw [hn] at h; cases h
 | inl p =>
  obtain ⟨s, c⟩ := p
  rw [hn] at h
  replace h : (Zb ts c [58]).go (fun _ a => (K a).go fun t a => .inl ((s, t), a)) = .inl (x, b) := h
  cases hw : Zb ts c [58] with
  | inr e => rw [hw] at h; cases h
  | inl p =>
   obtain ⟨u, c2⟩ := p
   rw [hw] at h
   replace h : (K c2).go (fun t a => .inl ((s, t), a)) = .inl (x, b) := h
   cases hk : K c2 with
   | inr e => rw [hk] at h; cases h
   | inl p =>
    rw [hk] at h
    injection h with h
    injection h with h
    rw [← h]
    show s.length ≤ _
    rw [G5 hn]
    exact ok.txt a
theorem J8 (ok : Z0 ts) {K : Nat → Pr α} {l : List (List UInt8 × α)} (h : Vp ts K f a = .inl (l, b)) : l.length ≤ f ∧ ∀ p ∈ l, p.1.length ≤ 70000 := by
 unfold Vp at h
 split at h
 ·injection h with h
  injection h with h
  rw [← h]
  exact ⟨xZ _, fun _ h => nomatch h⟩
 ·cases hm : Z1 ts (Xy ts K) [44] f a with
  | inr e => rw [hm] at h; cases h
  | inl p =>
   obtain ⟨l', c⟩ := p
   rw [hm] at h
   replace h : (Zb ts c [125]).go (fun _ b => .inl (l', b)) = .inl (l, b) := h
   cases hw : Zb ts c [125] with
   | inr e => rw [hw] at h; cases h
   | inl p =>
    rw [hw] at h
    injection h with h
    injection h with h
    rw [← h]
    exact ⟨Nb f hm, Jy (Q := fun p => p.1.length ≤ 70000) (fun a x b h => zck ok h) f hm⟩
theorem Le {B : Nat} {o : Option Nat} {wx : World} {v : Value} {cs : List (List Value)} {xs : List (List UInt8)} (h : Z8 Va B 9 1 o wx v cs xs) : ∃ (a : Option Addr) (cap : Nat), v = .slice a xs.length cap ∧ xs.length ≤ cap ∧ Uc wx B a xs := by
 obtain ⟨a, cap, e, hcap, hr⟩ := h.form strC_k
 refine ⟨a, cap, e, hcap, ?_⟩
 rcases hr with hr | ⟨g, rfl, hg, hcl, hc⟩
 ·exact .inl hr
 ·refine .inr ⟨g, 0, rfl, hg, Ux hcl, fun i hi => ?_⟩
  obtain ⟨c, _, h2, h3⟩ := hc i hi
  have := h2 0 (by omega)
  rw [h3] at this
  simpa using this
theorem A5 {l : List (List UInt8 × Ty)} {vf : Value} (h : Dw lo w vf l) (hl : l.length ≤ 8193) (hn : ∀ p ∈ l, p.1.length ≤ 70000) : ∃ a c a' c', vf = .tuple #[.slice a l.length c, .slice a' l.length c'] ∧ Zt lo w (.agg #[.int .i64 5, .string ⟨#[]⟩, .slice a l.length c, .slice a' l.length c']) (Z6 5 [] (l.map (·.1)) (l.map (·.2))) := by
 obtain ⟨vn, vv, cn, cv, rfl, h1, h2⟩ := h
 obtain ⟨a, c, rfl, hc, hN⟩ := Le h1
 obtain ⟨a', c', m, rfl, hc', hK⟩ := Py h2
 refine ⟨a, c, a', c', by simp, m + 1, 5, ⟨#[]⟩, a, c, a', c', _, _, by simp, rfl, by decide, by decide, ?_, ⟨hc, ?_⟩, ⟨hc', ?_⟩, hN, hK⟩
 ·intro s hs
  obtain ⟨p, hp, rfl⟩ := List.mem_map.1 hs
  have := hn p hp
  unfold reachBytes
  omega
 ·simp only [List.length_map]; unfold reachBytes; omega
 ·simp only [List.length_map]; unfold reachBytes; omega
end
abbrev Nr : List (List UInt8) := [[97, 110, 121], [110, 117, 108, 108], [98, 111, 111, 108], [105, 110, 116], [115, 116, 114]]
def J6 (ts : List Tok) (K : Nat → Pr Ty) (f a : Nat) : Pr Ty :=
 if Zc ts a [123] then (Vp ts K f (a + 1)).go fun l b => .inl (Z6 5 [] (l.map (·.1)) (l.map (·.2)), b)
 else if Zc ts a [40] then (K (a + 1)).go fun t a => (Zb ts a [41]).go fun _ a => .inl (t, a)
 else (Zm ts a).go fun s a => .inl (Z6 8 s [] [], a)
theorem Tf {ts : List Tok} {a : Nat} {s s' : List UInt8} (h : Zc ts a s = true) (hn : s ≠ s') : Zc ts a s' = false := by
 unfold Zc at h ⊢
 simp only [Bool.and_eq_true, beq_iff_eq] at h
 rw [h.2]
 simp [hn]
theorem zgf (ts : List Tok) (K : Nat → Pr Ty) (f a : Nat) (i : Nat) (hi : Wx (Zg ts a) Nr = i) : Wt ts K f a = .inl (Z6 i [] [] [], a + 1) ∧ i ≤ 4 ∧ ∃ s, Zc ts a s = true := by
 unfold Wx at hi
 split at hi
 ·rename_i hk
  have hk' : ((Zg ts a).kind == 2 || (Zg ts a).kind == 5) = true := by rcases hk with h | h <;> simp [h]
  unfold T3 at hi
  split at hi
  ·rename_i j hj
   obtain ⟨hjl, hjt, _⟩ := List.findIdx?_eq_some_iff_getElem.1 hj
   have hij : j = i := by omega
   subst hij
   have htx : (Zg ts a).text = Nr[j] := (beq_iff_eq.1 hjt).symm
   have hsee : Zc ts a Nr[j] = true := by unfold Zc; rw [hk', htx]; simp
   refine ⟨?_, by simp at hjl; omega, _, hsee⟩
   unfold Wt
   match j, hjl with
   | 0, _ =>
    have hs : Zc ts a [97, 110, 121] = true := hsee
    rw [if_pos (show Zc ts a (Yb 0) = true from hs)]
    rfl
   | 1, _ =>
    have hs : Zc ts a [110, 117, 108, 108] = true := hsee
    rw [if_neg (by rw [Tf hs (show ([110, 117, 108, 108] : List UInt8) ≠ Yb 0 by decide)]; simp), if_pos (show Zc ts a (Yb 1) = true from hs)]
    rfl
   | 2, _ =>
    have hs : Zc ts a [98, 111, 111, 108] = true := hsee
    rw [if_neg (by rw [Tf hs (show ([98, 111, 111, 108] : List UInt8) ≠ Yb 0 by decide)]; simp), if_neg (by rw [Tf hs (show ([98, 111, 111, 108] : List UInt8) ≠ Yb 1 by decide)]; simp), if_pos (show Zc ts a (Yb 2) = true from hs)]
    rfl
   | 3, _ =>
    have hs : Zc ts a [105, 110, 116] = true := hsee
    rw [if_neg (by rw [Tf hs (show ([105, 110, 116] : List UInt8) ≠ Yb 0 by decide)]; simp), if_neg (by rw [Tf hs (show ([105, 110, 116] : List UInt8) ≠ Yb 1 by decide)]; simp), if_neg (by rw [Tf hs (show ([105, 110, 116] : List UInt8) ≠ Yb 2 by decide)]; simp), if_pos (show Zc ts a (Yb 3) = true from hs)]
    rfl
   | 4, _ =>
    have hs : Zc ts a [115, 116, 114] = true := hsee
    rw [if_neg (by rw [Tf hs (show ([115, 116, 114] : List UInt8) ≠ Yb 0 by decide)]; simp), if_neg (by rw [Tf hs (show ([115, 116, 114] : List UInt8) ≠ Yb 1 by decide)]; simp), if_neg (by rw [Tf hs (show ([115, 116, 114] : List UInt8) ≠ Yb 2 by decide)]; simp), if_neg (by rw [Tf hs (show ([115, 116, 114] : List UInt8) ≠ Yb 3 by decide)]; simp), if_pos (show Zc ts a (Yb 4) = true from hs)]
    rfl
  ·omega
 ·omega
def Xv {α : Type} (a : Nat) (r : Pr α) : Prop := ∀ x b, r = .inl (x, b) → a ≤ b
section
variable {α β : Type} {ts : List Tok} {a : Nat}
theorem Z4 {r : Pr α} {k : α → Nat → Pr β} (h : Xv a r) (hk : ∀ x c, a ≤ c → Xv a (k x c)) : Xv a (r.go k) := by
 intro y b hy
 match r, h with
 | .inl (x, c), h => exact hk x c (h x c rfl) y b hy
 | .inr e, _ => cases hy
theorem Pl (e : Int) (c : Nat) : Xv a (Ys ts e c : Pr α) := fun _ _ h => by cases h
theorem Yh {c : Nat} (h : a ≤ c) (x : α) : Xv a (.inl (x, c) : Pr α) := fun _ _ e => by
 injection e with e
 injection e with _ e
 omega
theorem Yz {p : Prop} [Decidable p] {r s : Pr α} (h1 : Xv a r) (h2 : Xv a s) : Xv a (if p then r else s) := by split <;> assumption
theorem Xt {c : Nat} (h : a ≤ c) (s : List UInt8) : Xv a (Zb ts c s) := Yz (Yh (by omega) _) (Pl _ _)
theorem Qo {c : Nat} (h : a ≤ c) : Xv a (Zm ts c) := Yz (Yh (by omega) _) (Pl _ _)
theorem Xz {K : Nat → Pr α} (hK : ∀ a x b, K a = .inl (x, b) → a ≤ b) {c : Nat} (h : a ≤ c) : Xv a (K c) := fun x b e => Nat.le_trans h (hK c x b e)
theorem Nm {one : Nat → Pr α} {sep : List UInt8} (h1 : ∀ a x b, one a = .inl (x, b) → a ≤ b) : ∀ (f : Nat) {c : Nat}, a ≤ c → Xv a (Z1 ts one sep f c)
 | 0, c, _ => Pl _ _
 | f + 1, c, h => Z4 (Xz h1 h) fun x b hb => Yz (Z4 (Nm h1 f (by omega)) fun l b hb => Yh hb _) (Yh hb _)
theorem Rs {K : Nat → Pr α} (hK : ∀ a x b, K a = .inl (x, b) → a ≤ b) {c : Nat} (h : a ≤ c) : Xv a (Xy ts K c) :=
 Z4 (Qo h) fun _ _ h1 => Z4 (Xt h1 _) fun _ _ h2 => Z4 (Xz hK h2) fun _ _ h3 => Yh h3 _
theorem Rq {K : Nat → Pr Ty} (hK : ∀ a x b, K a = .inl (x, b) → a ≤ b) (f : Nat) {c : Nat} (h : a ≤ c) : Xv a (Wt ts K f c) := by
 unfold Wt
 refine Yz (Yh (by omega) _) (Yz (Yh (by omega) _) (Yz (Yh (by omega) _) (Yz (Yh (by omega) _) (Yz (Yh (by omega) _) (Yz ?_ (Yz (Yz (Yh (by omega) _) ?_) ?_))))))
 ·exact Z4 (Xz hK (by omega)) fun _ _ h1 => Z4 (Xt h1 _) fun _ _ h2 => Yh h2 _
 ·exact Z4 (Nm (fun a x b e => Rs hK (xR) x b e) f (by omega)) fun _ _ h1 => Z4 (Xt h1 _) fun _ _ h2 => Yh h2 _
 ·exact Z4 (Qo h) fun _ _ h1 => Yh h1 _
theorem A7 {K : Nat → Pr Ty} (hK : ∀ a x b, K a = .inl (x, b) → a ≤ b) {f : Nat} {x : Ty} {b : Nat} (h : Wt ts K f a = .inl (x, b)) : a ≤ b := Rq hK f (xR) x b h
theorem up_alt {K : Nat → Pr Ty} (hK : ∀ a x b, K a = .inl (x, b) → a ≤ b) (f : Nat) {c : Nat} (h : a ≤ c) : Xv a (U7 ts K f c) := by
 unfold U7
 refine Z4 (Nm (fun a x b e => Rq hK f (xR) x b e) f h) fun l b hb => ?_
 match l with
 | [] => exact Yh hb _
 | [t] => exact Yh hb _
 | _ :: _ :: _ => exact Yh hb _
theorem Gn (ts : List Tok) (f : Nat) : ∀ (n d c : Nat) (x : Ty) (b : Nat), Yk ts f n d c = .inl (x, b) → c ≤ b
 | 0, _, _, _, _, h => by cases h
 | n + 1, d, c, x, b, h => by
  rw [Yk] at h
  have hn := Gn ts f n (d + 1)
  refine Yz (a := c) (Pl (ts := ts) _ _) (Z4 (up_alt hn f (xR)) fun t b hb => Yz (Z4 (Xz hn (by omega)) fun _ _ h2 => Yh h2 _) (Yh hb _)) x b h
theorem Nq {f n d : Nat} {x : Ty} {b : Nat} (h : Yk ts f n d a = .inl (x, b)) : a ≤ b := Gn ts f n d a x b h
theorem zgq {one : Nat → Pr α} {sep : List UInt8} {f c b : Nat} {l : List α} (h : Z1 ts one sep f c = .inl (l, b)) : l ≠ [] := by
 intro e
 subst e
 cases f with
 | zero => cases h
 | succ f =>
  rw [Z1] at h
  cases ho : one c with
  | inr e => rw [ho] at h; cases h
  | inl p =>
   obtain ⟨x, c2⟩ := p
   rw [ho] at h
   replace h : (if Zc ts c2 sep then (Z1 ts one sep f (c2 + 1)).go fun l a => .inl (x :: l, a) else .inl ([x], c2)) = .inl ([], b) := h
   split at h
   ·cases hm : Z1 ts one sep f (c2 + 1) with
    | inr e => rw [hm] at h; cases h
    | inl p => rw [hm] at h; injection h with h; injection h with h; cases h
   ·injection h with h; injection h with h; cases h
end
theorem B7 {ts : List Tok} {a : Nat} {L : List (List UInt8)} (h : Wx (Zg ts a) L < 0) {s : List UInt8} (hs : s ∈ L) : Zc ts a s = false := by
 have h1 := Ho ts a L
 rw [show decide (0 ≤ Wx (Zg ts a) L) = false by simp; omega] at h1
 have := List.any_eq_false.1 h1.symm s hs
 simpa using this
theorem O7 (ts : List Tok) (K : Nat → Pr Ty) (f a : Nat) (h : Wx (Zg ts a) Nr < 0) : Wt ts K f a = J6 ts K f a := by
 unfold Wt J6
 rw [if_neg (by rw [B7 h (s := Yb 0) (by decide)]; simp), if_neg (by rw [B7 h (s := Yb 1) (by decide)]; simp), if_neg (by rw [B7 h (s := Yb 2) (by decide)]; simp), if_neg (by rw [B7 h (s := Yb 3) (by decide)]; simp), if_neg (by rw [B7 h (s := Yb 4) (by decide)]; simp)]
 by_cases h1 : Zc ts a [123] = true
 ·rw [if_neg (by rw [Tf h1 (show ([123] : List UInt8) ≠ [40] by decide)]; simp), if_pos h1, if_pos h1]
  unfold Vp
  by_cases h2 : Zc ts (a + 1) [125] = true
  ·rw [if_pos h2, if_pos h2]
   rfl
  ·rw [if_neg h2, if_neg h2]
   cases Z1 ts (Xy ts K) [44] f (a + 1) with
   | inr e => rfl
   | inl p =>
    obtain ⟨l, b⟩ := p
    show Pr.go (Zb ts b [125]) _ = Pr.go (Pr.go (Zb ts b [125]) _) _
    cases Zb ts b [125] with
    | inr e => rfl
    | inl q => rfl
 ·rw [if_neg h1, if_neg h1]
abbrev Yl : Obj := .cells #[.int .i64 0, .string ⟨#[]⟩, .slice none 0 0, .slice none 0 0] 36
theorem prim_c (pb tb cap d : Nat) (ts : List Tok) (K : Nat → Pr Ty) (hg : Yg pb tb cap d ts Zt 30 K)
  (f a : Nat) (hf : ts.length ≤ a + 1 + (f + 1)) (hf2 : f + 1 ≤ 8193) (w : World) (h : Ps w pb tb cap ts a d) (ok : Z0 ts) :
  Calls prog 180 #[.pointer (some ⟨pb, 0, none⟩)] w (Zs pb tb cap ts d w Zt (Wt ts K (f + 1) a)) := by
 have H := Za h
 have OK := Za ok
 have HG := Za hg
 have HF := Za hf
 clear hf
 have HW := Za (Gp pb tb cap a (w.heap.size + 1) 5 ts Nr (w.alloc Yl) 9 (h.alloc _).rd (by simp) (by simp))
 clear h ok hg
 obtain ⟨kv, hkv⟩ := xE (Wx (Zg ts a) Nr)
 rw [← hkv] at HW
 by_cases h0 : 0 ≤ kv
 ·obtain ⟨i, rfl⟩ : ∃ i : Nat, kv = i := ⟨kv.toNat, by omega⟩
  obtain ⟨e1, e2, s, e3⟩ := zgf ts K (f + 1) a i hkv.symm
  rw [e1]
  have HN := Za (Wz OK.o.ends H.o.lt e3)
  clear hkv e1 e3
  go_enter func180, ntmps180
  go_wp2_with fail
  refine HW.o.mono ?_
  rintro e w1 ⟨rfl, hb1⟩
  have P1 := Za ((H.o.alloc _).below hb1)
  have HB1 := Za (Zn (Zl _ _) hb1)
  have HR := Za ((hb1.block w.heap.size (by simp)).trans (xL w _))
  clear hb1
  go_wp2_with fail
  refine (V7 pb tb cap a d ts _ P1.o HN.o OK.o.len).mono ?_
  rintro e w2 ⟨rfl, hst, hps⟩
  have hr := (hst.keep _ H.o.ltp (xB HR.o)).trans HR.o
  obtain ⟨⟨r0, r1, r2, r3⟩, ⟨f0, f1, f2, f3⟩, hr1⟩ := Zr hr
  have HR2 := Za hr
  have HP := Za hps
  have HST := Za ((Zj.of H.o.ltp HB1.o).trans hst)
  clear hst hps hr
  go_wp2_with fail
  refine bodyPost_ret (results_cell_row rfl _ _ w.heap.size 36 _ (0, 0) _ rfl (set4 HR2.o _ _ _ _) underlying36 rfl (by kernel_rfl)) rfl ⟨Xs HST.o H.o.ltp (xR) _ _ _ _, V6 HP.o H.o.ltp _ _ _ _, _, rfl, ?_⟩
  exact N6 _ _ i ⟨#[]⟩ (by rcases (by omega : i = 0 ∨ i = 1 ∨ i = 2 ∨ i = 3 ∨ i = 4) with rfl | rfl | rfl | rfl | rfl <;> decide) (by decide)
 ·rw [O7 ts K (f + 1) a (by omega)]
  have hneg : kv < 0 := by omega
  clear h0 hkv
  unfold J6
  cases hs : Zc ts a [123] with
  | true =>
   rw [if_pos rfl]
   have HN := Za (Wz OK.o.ends H.o.lt hs)
   have HSe := Za hs
   clear hs
   cases hfi : Vp ts K (f + 1) (a + 1) with
   | inr x =>
    obtain ⟨er, li, co⟩ := x
    have HFi := Za hfi
    clear hfi
    go_enter func180, ntmps180
    go_wp2_with fail
    refine HW.o.mono ?_
    rintro e w1 ⟨rfl, hb1⟩
    have P1 := Za ((H.o.alloc _).below hb1)
    have HB1 := Za (Zn (Zl _ _) hb1)
    have HR := Za ((hb1.block w.heap.size (by simp)).trans (xL w _))
    clear hb1
    go_wp2_with fail
    refine (Xb pb tb cap a d ts [123] w1 P1.o OK.o).mono ?_
    rw [HSe.o, if_pos rfl]
    rintro e w2 ⟨rfl, hst, hps⟩
    have HR2 := Za ((hst.keep _ H.o.ltp (xB HR.o)).trans HR.o)
    have HP := Za hps
    have HST := Za ((Zj.of H.o.ltp HB1.o).trans hst)
    clear hst hps
    go_wp2_with fail
    refine (Sf pb tb cap d ts 30 K HG.o f (a + 1) (by have := HF.o; omega) w2 HP.o OK.o).mono ?_
    rw [HFi.o]
    rintro e w3 ⟨hst, rfl⟩
    have HST3 := Za (HST.o.trans hst)
    clear hst
    go_wp2_with fail
    exact ⟨rfl, HST3.o, rfl⟩
   | inl x =>
    obtain ⟨l, b⟩ := x
    have HFi := Za hfi
    obtain ⟨hl1, hl2⟩ := J8 OK.o hfi
    have HL2 := Za hl2
    clear hfi hl2
    go_enter func180, ntmps180
    go_wp2_with fail
    refine HW.o.mono ?_
    rintro e w1 ⟨rfl, hb1⟩
    have P1 := Za ((H.o.alloc _).below hb1)
    have HB1 := Za (Zn (Zl _ _) hb1)
    have HR := Za ((hb1.block w.heap.size (by simp)).trans (xL w _))
    clear hb1
    go_wp2_with fail
    refine (Xb pb tb cap a d ts [123] w1 P1.o OK.o).mono ?_
    rw [HSe.o, if_pos rfl]
    rintro e w2 ⟨rfl, hst, hps⟩
    have HR2 := Za ((hst.keep _ H.o.ltp (xB HR.o)).trans HR.o)
    have HP := Za hps
    have HST := Za ((Zj.of H.o.ltp HB1.o).trans hst)
    clear hst hps
    go_wp2_with fail
    refine (Sf pb tb cap d ts 30 K HG.o f (a + 1) (by have := HF.o; omega) w2 HP.o OK.o).mono ?_
    rw [HFi.o]
    rintro e w3 ⟨hst, hps, v, rfl, hv⟩
    obtain ⟨fa, fc, fa', fc', rfl, ht⟩ := A5 hv (by omega) HL2.o
    have hr := (hst.keep _ H.o.ltp (xB HR2.o)).trans HR2.o
    obtain ⟨⟨r0, r1, r2, r3⟩, ⟨f0, f1, f2, f3⟩, hr1⟩ := Zr hr
    have HR3 := Za hr
    have HP3 := Za hps
    have HST3 := Za (HST.o.trans hst)
    have HT3 := Za ht
    have HLt := Za (xB HR2.o)
    clear hst hps hr ht hv
    go_wp2_with fail
    refine bodyPost_ret (results_cell_row rfl _ _ w.heap.size 36 _ (0, 0) _ rfl (set4 HR3.o _ _ _ _) underlying36 rfl (by kernel_rfl)) rfl ⟨Xs HST3.o H.o.ltp (xR) _ _ _ _, V6 HP3.o H.o.ltp _ _ _ _, _, rfl, ?_⟩
    exact (HT3.o.set4 HLt.o _ _ _ _).lower (Nat.le_of_lt HLt.o)
  | false =>
   rw [if_neg (by simp)]
   have HSe := Za hs
   clear hs
   cases hs2 : Zc ts a [40] with
   | true =>
    rw [if_pos rfl]
    have HN := Za (Wz OK.o.ends H.o.lt hs2)
    have HSe2 := Za hs2
    clear hs2
    cases hk : K (a + 1) with
    | inr x =>
     obtain ⟨er, li, co⟩ := x
     have HK := Za hk
     clear hk
     go_enter func180, ntmps180
     go_wp2_with fail
     refine HW.o.mono ?_
     rintro e w1 ⟨rfl, hb1⟩
     have P1 := Za ((H.o.alloc _).below hb1)
     have HB1 := Za (Zn (Zl _ _) hb1)
     have HR := Za ((hb1.block w.heap.size (by simp)).trans (xL w _))
     clear hb1
     go_wp2_with fail
     refine (Xb pb tb cap a d ts [123] w1 P1.o OK.o).mono ?_
     rw [HSe.o, if_neg (by simp)]
     rintro e w2 ⟨rfl, hst, hps⟩
     have HR2 := Za ((hst.keep _ H.o.ltp (xB HR.o)).trans HR.o)
     have HP := Za hps
     have HST := Za ((Zj.of H.o.ltp HB1.o).trans hst)
     clear hst hps
     go_wp2_with fail
     refine (Xb pb tb cap a d ts [40] w2 HP.o OK.o).mono ?_
     rw [HSe2.o, if_pos rfl]
     rintro e w3 ⟨rfl, hst, hps⟩
     have HR3 := Za ((hst.keep _ H.o.ltp (xB HR2.o)).trans HR2.o)
     have HP3 := Za hps
     have HST3 := Za (HST.o.trans hst)
     clear hst hps
     go_wp2_with fail
     refine (HG.o.calls (a + 1) w3 HP3.o).mono ?_
     rw [HK.o]
     rintro e w4 ⟨hst, rfl⟩
     have HST4 := Za (HST3.o.trans hst)
     clear hst
     go_wp2_with fail
     exact ⟨rfl, HST4.o, rfl⟩
    | inl x =>
     obtain ⟨D, b⟩ := x
     have HK := Za hk
     clear hk
     show Calls _ _ _ _ (Zs pb tb cap ts d w Zt ((Zb ts b [41]).go fun _ a => .inl (D, a)))
     cases hw : Zb ts b [41] with
     | inr x =>
      obtain ⟨er, li, co⟩ := x
      have HWa := Za hw
      clear hw
      go_enter func180, ntmps180
      go_wp2_with fail
      refine HW.o.mono ?_
      rintro e w1 ⟨rfl, hb1⟩
      have P1 := Za ((H.o.alloc _).below hb1)
      have HB1 := Za (Zn (Zl _ _) hb1)
      have HR := Za ((hb1.block w.heap.size (by simp)).trans (xL w _))
      clear hb1
      go_wp2_with fail
      refine (Xb pb tb cap a d ts [123] w1 P1.o OK.o).mono ?_
      rw [HSe.o, if_neg (by simp)]
      rintro e w2 ⟨rfl, hst, hps⟩
      have HR2 := Za ((hst.keep _ H.o.ltp (xB HR.o)).trans HR.o)
      have HP := Za hps
      have HST := Za ((Zj.of H.o.ltp HB1.o).trans hst)
      clear hst hps
      go_wp2_with fail
      refine (Xb pb tb cap a d ts [40] w2 HP.o OK.o).mono ?_
      rw [HSe2.o, if_pos rfl]
      rintro e w3 ⟨rfl, hst, hps⟩
      have HR3 := Za ((hst.keep _ H.o.ltp (xB HR2.o)).trans HR2.o)
      have HP3 := Za hps
      have HST3 := Za (HST.o.trans hst)
      clear hst hps
      go_wp2_with fail
      refine (HG.o.calls (a + 1) w3 HP3.o).mono ?_
      rw [HK.o]
      rintro e w4 ⟨hst, hps, v, rfl, hv⟩
      obtain ⟨k1, nm1, na1, nl1, nc1, ka1, kl1, kc1, rfl⟩ := hv.cells
      have HST4 := Za (HST3.o.trans hst)
      have HP4 := Za hps
      clear hst hps hv
      go_wp2_with fail
      refine (Y6 pb tb cap b d ts [41] _ (HP4.o.alloc _) OK.o).mono ?_
      rw [HWa.o]
      rintro e w5 ⟨hst, rfl⟩
      have HST5 := Za ((HST4.o.alloc H.o.ltp _).trans hst)
      clear hst
      go_wp2_with fail
      exact ⟨rfl, HST5.o, rfl⟩
     | inl x =>
      obtain ⟨u, b'⟩ := x
      have HWa := Za hw
      clear hw
      go_enter func180, ntmps180
      go_wp2_with fail
      refine HW.o.mono ?_
      rintro e w1 ⟨rfl, hb1⟩
      have P1 := Za ((H.o.alloc _).below hb1)
      have HB1 := Za (Zn (Zl _ _) hb1)
      have HR := Za ((hb1.block w.heap.size (by simp)).trans (xL w _))
      clear hb1
      go_wp2_with fail
      refine (Xb pb tb cap a d ts [123] w1 P1.o OK.o).mono ?_
      rw [HSe.o, if_neg (by simp)]
      rintro e w2 ⟨rfl, hst, hps⟩
      have HR2 := Za ((hst.keep _ H.o.ltp (xB HR.o)).trans HR.o)
      have HP := Za hps
      have HST := Za ((Zj.of H.o.ltp HB1.o).trans hst)
      clear hst hps
      go_wp2_with fail
      refine (Xb pb tb cap a d ts [40] w2 HP.o OK.o).mono ?_
      rw [HSe2.o, if_pos rfl]
      rintro e w3 ⟨rfl, hst, hps⟩
      have HR3 := Za ((hst.keep _ H.o.ltp (xB HR2.o)).trans HR2.o)
      have HP3 := Za hps
      have HST3 := Za (HST.o.trans hst)
      clear hst hps
      go_wp2_with fail
      refine (HG.o.calls (a + 1) w3 HP3.o).mono ?_
      rw [HK.o]
      rintro e w4 ⟨hst, hps, v, rfl, hv⟩
      obtain ⟨k1, nm1, na1, nl1, nc1, ka1, kl1, kc1, rfl⟩ := hv.cells
      have HST4 := Za (HST3.o.trans hst)
      have HP4 := Za hps
      have HR4 := Za ((hst.keep _ H.o.ltp (xB HR3.o)).trans HR3.o)
      have HT4 := Za hv
      have HLt := Za (xT (xB HR3.o) hst.size)
      have HLt3 := Za (xB HR3.o)
      clear hst hps hv
      go_wp2_with fail
      refine (Y6 pb tb cap b d ts [41] _ (HP4.o.alloc _) OK.o).mono ?_
      rw [HWa.o]
      rintro e w5 ⟨hst, hps, v, rfl, _⟩
      have hr := (hst.keep _ H.o.ltp (by have := HLt.o; simp; omega)).trans ((xA HLt.o).trans HR4.o)
      obtain ⟨⟨r0, r1, r2, r3⟩, ⟨f0, f1, f2, f3⟩, hr1⟩ := Zr hr
      obtain ⟨⟨b0, b1, b2, b3⟩, _, hr2⟩ := Zr ((hst.keep w4.heap.size HP4.o.ltp (by simp)).trans (xL w4 _))
      have HR5 := Za hr
      have HP5 := Za hps
      have HST5 := Za ((HST4.o.alloc H.o.ltp _).trans hst)
      have HT5 := Za ((HT4.o.alloc _).stay hst HP3.o.ltp)
      have hne : ¬ w4.heap.size = w.heap.size := by have := HLt.o; omega
      clear hst hps hr
      go_wp2_with fail
      refine bodyPost_ret (results_cell_row rfl _ _ w.heap.size 36 _ (0, 0) _ rfl (set4 HR5.o _ _ _ _) underlying36 rfl (by kernel_rfl)) rfl ⟨Xs HST5.o H.o.ltp (xR) _ _ _ _, V6 HP5.o H.o.ltp _ _ _ _, _, rfl, ?_⟩
      exact (HT5.o.set4 HLt3.o _ _ _ _).lower (Nat.le_of_lt HLt3.o)
   | false =>
    rw [if_neg (by simp)]
    have HSe2 := Za hs2
    clear hs2
    cases hk : Zm ts a with
    | inr x =>
     obtain ⟨er, li, co⟩ := x
     have HK := Za hk
     clear hk
     go_enter func180, ntmps180
     go_wp2_with fail
     refine HW.o.mono ?_
     rintro e w1 ⟨rfl, hb1⟩
     have P1 := Za ((H.o.alloc _).below hb1)
     have HB1 := Za (Zn (Zl _ _) hb1)
     have HR := Za ((hb1.block w.heap.size (by simp)).trans (xL w _))
     clear hb1
     go_wp2_with fail
     refine (Xb pb tb cap a d ts [123] w1 P1.o OK.o).mono ?_
     rw [HSe.o, if_neg (by simp)]
     rintro e w2 ⟨rfl, hst, hps⟩
     have HR2 := Za ((hst.keep _ H.o.ltp (xB HR.o)).trans HR.o)
     have HP := Za hps
     have HST := Za ((Zj.of H.o.ltp HB1.o).trans hst)
     clear hst hps
     go_wp2_with fail
     refine (Xb pb tb cap a d ts [40] w2 HP.o OK.o).mono ?_
     rw [HSe2.o, if_neg (by simp)]
     rintro e w3 ⟨rfl, hst, hps⟩
     have HR3 := Za ((hst.keep _ H.o.ltp (xB HR2.o)).trans HR2.o)
     have HP3 := Za hps
     have HST3 := Za (HST.o.trans hst)
     clear hst hps
     go_wp2_with fail
     refine (Ts pb tb cap a d ts w3 HP3.o OK.o).mono ?_
     rw [HK.o]
     rintro e w4 ⟨hst, rfl⟩
     have HST4 := Za (HST3.o.trans hst)
     clear hst
     go_wp2_with fail
     exact ⟨rfl, HST4.o, rfl⟩
    | inl x =>
     obtain ⟨s, b⟩ := x
     have HK := Za hk
     have HTx := Za (show s.length ≤ 70000 from G5 hk ▸ OK.o.txt a)
     clear hk
     go_enter func180, ntmps180
     go_wp2_with fail
     refine HW.o.mono ?_
     rintro e w1 ⟨rfl, hb1⟩
     have P1 := Za ((H.o.alloc _).below hb1)
     have HB1 := Za (Zn (Zl _ _) hb1)
     have HR := Za ((hb1.block w.heap.size (by simp)).trans (xL w _))
     clear hb1
     go_wp2_with fail
     refine (Xb pb tb cap a d ts [123] w1 P1.o OK.o).mono ?_
     rw [HSe.o, if_neg (by simp)]
     rintro e w2 ⟨rfl, hst, hps⟩
     have HR2 := Za ((hst.keep _ H.o.ltp (xB HR.o)).trans HR.o)
     have HP := Za hps
     have HST := Za ((Zj.of H.o.ltp HB1.o).trans hst)
     clear hst hps
     go_wp2_with fail
     refine (Xb pb tb cap a d ts [40] w2 HP.o OK.o).mono ?_
     rw [HSe2.o, if_neg (by simp)]
     rintro e w3 ⟨rfl, hst, hps⟩
     have HR3 := Za ((hst.keep _ H.o.ltp (xB HR2.o)).trans HR2.o)
     have HP3 := Za hps
     have HST3 := Za (HST.o.trans hst)
     clear hst hps
     go_wp2_with fail
     refine (Ts pb tb cap a d ts w3 HP3.o OK.o).mono ?_
     rw [HK.o]
     rintro e w4 ⟨hst, hps, v, rfl, rfl⟩
     have hr := (hst.keep _ H.o.ltp (xB HR3.o)).trans HR3.o
     obtain ⟨⟨r0, r1, r2, r3⟩, ⟨f0, f1, f2, f3⟩, hr1⟩ := Zr hr
     have HR4 := Za hr
     have HP4 := Za hps
     have HST4 := Za (HST3.o.trans hst)
     clear hst hps hr
     go_wp2_with fail
     refine bodyPost_ret (results_cell_row rfl _ _ w.heap.size 36 _ (0, 0) _ rfl (set4 HR4.o _ _ _ _) underlying36 rfl (by kernel_rfl)) rfl ⟨Xs HST4.o H.o.ltp (xR) _ _ _ _, V6 HP4.o H.o.ltp _ _ _ _, _, rfl, ?_⟩
     exact N6 _ _ 8 ⟨s.toArray⟩ (by decide) (by have := HTx.o; unfold reachBytes; show s.toArray.size ≤ _; simp; omega)
end Go.Proofs.YtbnjllkkhhkkaaaGreatDoor
namespace Go.Proofs.YtbnjllkkhhkkaaaGreatDoor
open Tryz
open Go.RowKit
attribute [local go_sem ↓] Go.wp_at_zero Go.wp_at_succ
section
variable {ts : List Tok} {K : Nat → Pr Ty} {f a b : Nat} {l : List Ty} {D : Ty}
theorem zcn {e : Int × Nat × Nat} (h : Z1 ts (Wt ts K f) [124] f a = .inr e) : U7 ts K f a = .inr e := by unfold U7; rw [h]; rfl
theorem zbm (h : Z1 ts (Wt ts K f) [124] f a = .inl ([D], b)) : U7 ts K f a = .inl (D, b) := by unfold U7; rw [h]; rfl
theorem Ey (h : Z1 ts (Wt ts K f) [124] f a = .inl (l, b)) (hl : l.length ≠ 1) : U7 ts K f a = .inl (Z6 7 [] [] l, b) := by
 unfold U7
 rw [h]
 match l, hl with
 | [], _ => rfl
 | [_], hl => exact absurd rfl hl
 | _ :: _ :: _, _ => rfl
end
theorem alt_c (pb tb cap d : Nat) (ts : List Tok) (K : Nat → Pr Ty) (hg : Yg pb tb cap d ts Zt 30 K)
  (f a : Nat) (hf : f + 1 = ts.length) (w : World) (h : Ps w pb tb cap ts a d) (ok : Z0 ts) :
  Calls prog 121 #[.pointer (some ⟨pb, 0, none⟩)] w (Zs pb tb cap ts d w Zt (U7 ts K (f + 1) a)) := by
 have H := Za h
 have OK := Za ok
 have HRd : xQ (Yg pb tb cap d ts Zt 180 (Wt ts K (f + 1))) := ⟨fun a w h => prim_c pb tb cap d ts K hg f a (by omega) (by have := ok.len; omega) w h ok, zec pb, fun a x b hx => A7 hg.up hx⟩
 have HL := Za (At pb tb cap d ts [124] _ _ HRd.o f a (by omega) (w.alloc Yl) (h.alloc _) ok)
 clear h ok hg
 cases hm : Z1 ts (Wt ts K (f + 1)) [124] (f + 1) a with
 | inr x =>
  obtain ⟨er, li, co⟩ := x
  rw [zcn hm]
  rw [hm] at HL
  clear hm
  go_enter func121, ntmps121
  go_wp2_with fail
  refine HL.o.mono ?_
  rintro e w1 ⟨hst, rfl⟩
  have HST := Za ((Zj.of H.o.ltp (Zl _ _)).trans hst)
  clear hst
  go_wp2_with fail
  exact ⟨rfl, HST.o, rfl⟩
 | inl x =>
  obtain ⟨l, b⟩ := x
  have HLen := Za (Nb _ hm)
  have HNe := Za (zgq hm)
  rw [hm] at HL
  by_cases h1 : l.length = 1
  ·obtain ⟨D, rfl⟩ : ∃ D, l = [D] := List.length_eq_one_iff.1 h1
   rw [zbm hm]
   clear h1 hm
   go_enter func121, ntmps121
   go_wp2_with fail
   refine HL.o.mono ?_
   rintro e w1 ⟨hst, hps, v, rfl, cs, hv⟩
   obtain ⟨av, cv, m, rfl, _, hk⟩ := Py hv
   obtain ⟨kb, ko, k1, nm1, na1, nl1, nc1, ka1, kl1, kc1, rfl, hkb, q0, q1, q2, q3, hT⟩ := zen hk (i := 0) (by simp)
   have HR := Za ((hst.keep _ H.o.ltp (by simp)).trans (xL w _))
   obtain ⟨⟨r0, r1, r2, r3⟩, ⟨f0, f1, f2, f3⟩, hr1⟩ := Zr HR.o
   have HST := Za ((Zj.of H.o.ltp (Zl _ _)).trans hst)
   have HP := Za hps
   have HT : xQ (Zt (w.heap.size + 1) w1 (.agg #[.int .i64 k1, .string nm1, .slice na1 nl1 nc1, .slice ka1 kl1 kc1]) D) := by
    refine ⟨m, ?_⟩
    simpa using hT
   simp only [Nat.zero_mul, Nat.add_zero] at q0 q1 q2 q3
   have hl1 : ([D] : List Ty).length = 1 := rfl
   clear hst hps hv hk hT
   go_wp2_with fail
   refine bodyPost_ret (results_cell_row rfl _ _ w.heap.size 36 _ (0, 0) _ rfl (set4 HR.o _ _ _ _) underlying36 rfl (by kernel_rfl)) rfl ⟨Xs HST.o H.o.ltp (xR) _ _ _ _, V6 HP.o H.o.ltp _ _ _ _, _, rfl, ?_⟩
   exact (HT.o.set4 (xU _) _ _ _ _).lower (Nat.le_succ _)
  ·have hl1 : ((l.length : Int) == 1) = false := by simp; omega
   have HLen2 : xQ (l.length ≤ 8193) := by have := HLen.o; have := OK.o.len; show _ ≤ _; omega
   rw [Ey hm h1]
   clear h1 hm
   go_enter func121, ntmps121
   go_wp2_with fail
   refine HL.o.mono ?_
   rintro e w1 ⟨hst, hps, v, rfl, cs, hv⟩
   obtain ⟨av, cv, m, rfl, hcv, hk⟩ := Py hv
   have HR := Za ((hst.keep _ H.o.ltp (by simp)).trans (xL w _))
   obtain ⟨⟨r0, r1, r2, r3⟩, ⟨f0, f1, f2, f3⟩, hr1⟩ := Zr HR.o
   have HST := Za ((Zj.of H.o.ltp (Zl _ _)).trans hst)
   have HP := Za hps
   have HT : xQ (Zt (w.heap.size + 1) w1 (.agg #[.int .i64 7, .string ⟨#[]⟩, .slice none 0 0, .slice av l.length cv]) (Z6 7 [] [] l)) :=
    ⟨m + 1, 7, ⟨#[]⟩, none, 0, av, cv, [], l, rfl, rfl, by decide, by decide, (fun _ h => nomatch h), ⟨xR, xZ _⟩, ⟨hcv, (by have := HLen2.o; unfold reachBytes; omega)⟩, .inl rfl, by simpa using hk⟩
   clear hst hps hv hk
   go_wp2_with fail
   refine bodyPost_ret (results_cell_row rfl _ _ w.heap.size 36 _ (0, 0) _ rfl (set4 HR.o _ _ _ _) underlying36 rfl (by kernel_rfl)) rfl ⟨Xs HST.o H.o.ltp (xR) _ _ _ _, V6 HP.o H.o.ltp _ _ _ _, _, rfl, ?_⟩
   exact (HT.o.set4 (xU _) _ _ _ _).lower (Nat.le_succ _)
theorem Tb {α β : Type} (x : α) (a : Nat) (f : α → Nat → Pr β) : Pr.go (.inl (x, a)) f = f x a := rfl
theorem Ao {α β : Type} (e : Int × Nat × Nat) (f : α → Nat → Pr β) : Pr.go (.inr e : Pr α) f = .inr e := rfl
abbrev Ti (W : World) (b : Nat) (k : Int) (nm : ByteArray) (na : Option Addr) (nl nc : Nat) (ka : Option Addr) (kl kc : Nat) : Prop :=
 W.cell? ⟨b, 0, none⟩ = some (.int .i64 k) ∧ W.cell? ⟨b, 1, none⟩ = some (.string nm) ∧ W.cell? ⟨b, 2, none⟩ = some (.slice na nl nc) ∧ W.cell? ⟨b, 3, none⟩ = some (.slice ka kl kc)
section
variable {W : World} {b c : Nat} {k : Int} {nm : ByteArray} {na : Option Addr} {nl nc : Nat} {ka : Option Addr} {kl kc : Nat}
theorem Ti.alloc (h : Ti W b k nm na nl nc ka kl kc) (hb : b < W.heap.size) (o : Obj) : Ti (W.alloc o) b k nm na nl nc ka kl kc := by
 have hc : ∀ j, (W.alloc o).cell? ⟨b, j, none⟩ = W.cell? ⟨b, j, none⟩ := fun j => World.cell?_of_block (w := W) (a := ⟨b, j, none⟩) (xA hb)
 exact ⟨(hc 0).trans h.1, (hc 1).trans h.2.1, (hc 2).trans h.2.2.1, (hc 3).trans h.2.2.2⟩
theorem Ti.set4 (h : Ti W b k nm na nl nc ka kl kc) (hb : b ≠ c) (x0 x1 x2 x3 : Value) : Ti ((((W.setCell ⟨c, 0, none⟩ x0).setCell ⟨c, 1, none⟩ x1).setCell ⟨c, 2, none⟩ x2).setCell ⟨c, 3, none⟩ x3) b k nm na nl nc ka kl kc := by
 have hc : ∀ j, ((((W.setCell ⟨c, 0, none⟩ x0).setCell ⟨c, 1, none⟩ x1).setCell ⟨c, 2, none⟩ x2).setCell ⟨c, 3, none⟩ x3).cell? ⟨b, j, none⟩ = W.cell? ⟨b, j, none⟩ := fun j => World.cell?_of_block (w := W) (a := ⟨b, j, none⟩) (Yn hb _ _ _ _)
 exact ⟨(hc 0).trans h.1, (hc 1).trans h.2.1, (hc 2).trans h.2.2.1, (hc 3).trans h.2.2.2⟩
end
def Ak (W : World) (b : Nat) : Prop := (W.cell? ⟨b, 0, none⟩ = some (.int .i64 0) ∧ W.cell? ⟨b, 1, none⟩ = some (.string ⟨#[]⟩) ∧ W.cell? ⟨b, 2, none⟩ = some (.slice none 0 0) ∧ W.cell? ⟨b, 3, none⟩ = some (.slice none 0 0)) ∧
 (W.frozen? ⟨b, 0, none⟩ = false ∧ W.frozen? ⟨b, 1, none⟩ = false ∧ W.frozen? ⟨b, 2, none⟩ = false ∧ W.frozen? ⟨b, 3, none⟩ = false) ∧ b < W.heap.size
theorem zeroT {W : World} {b : Nat} (h : W.heap[b]? = some Yl) : Ak W b := Zr h
theorem Er {lo : Nat} {w : World} {c1 c2 : List Value} {D1 D2 : Ty} (h1 : Zt lo w (.agg c1.toArray) D1) (h2 : Zt lo w (.agg c2.toArray) D2) (hc1 : c1.length = 4) (hc2 : c2.length = 4) (hlo : lo ≤ w.heap.size) :
  Zt lo (w.alloc (.cells (c1 ++ c2).toArray 36)) (.agg #[.int .i64 6, .string ⟨#[]⟩, .slice none 0 0, .slice (some ⟨w.heap.size, 0, none⟩) 2 2]) (Z6 6 [] [] [D1, D2]) := by
 obtain ⟨m1, h1⟩ := h1
 obtain ⟨m2, h2⟩ := h2
 have hk : ∀ {v D m}, Uh w lo m v D → Uh (w.alloc (.cells (c1 ++ c2).toArray 36)) lo m v D := fun h => Kr h (by simp) fun i _ hl => xA hl
 have g1 := hk (Pw h1 (Nat.le_max_left m1 m2))
 have g2 := hk (Pw h2 (Nat.le_max_right m1 m2))
 refine ⟨max m1 m2 + 1, 6, ⟨#[]⟩, none, 0, some ⟨w.heap.size, 0, none⟩, 2, [], [D1, D2], rfl, rfl, by decide, by decide, (fun _ h => nomatch h), ⟨xR, xZ _⟩, ⟨xR, (by show 2 ≤ _; decide)⟩, .inl rfl, .inr ⟨w.heap.size, 0, rfl, hlo, ⟨_, _, xL _ _⟩, fun i hi => ?_⟩⟩
 match c1, hc1, c2, hc2 with
 | [x0, x1, x2, x3], _, [y0, y1, y2, y3], _ =>
  match i, hi with
  | 0, _ => exact ⟨x0, x1, x2, x3, by rw [cell_of_row _ _ _ _ _ _ (xL w _)]; rfl, by rw [cell_of_row _ _ _ _ _ _ (xL w _)]; rfl, by rw [cell_of_row _ _ _ _ _ _ (xL w _)]; rfl, by rw [cell_of_row _ _ _ _ _ _ (xL w _)]; rfl, g1⟩
  | 1, _ => exact ⟨y0, y1, y2, y3, by rw [cell_of_row _ _ _ _ _ _ (xL w _)]; rfl, by rw [cell_of_row _ _ _ _ _ _ (xL w _)]; rfl, by rw [cell_of_row _ _ _ _ _ _ (xL w _)]; rfl, by rw [cell_of_row _ _ _ _ _ _ (xL w _)]; rfl, g2⟩
theorem zel (pb tb cap d n : Nat) (ts : List Tok) (ih : ∀ a w, Ps w pb tb cap ts a (d + 1) → Calls prog 30 #[.pointer (some ⟨pb, 0, none⟩)] w (Zs pb tb cap ts (d + 1) w Zt (Yk ts ts.length n (d + 1) a)))
  (a : Nat) (w : World) (h : Ps w pb tb cap ts a (d + 1)) (ok : Z0 ts) :
  Calls prog 65 #[.pointer (some ⟨pb, 0, none⟩)] w (Zs pb tb cap ts (d + 1) w Zt ((U7 ts (Yk ts ts.length n (d + 1)) ts.length a).go fun t a => if Zc ts a [45, 62] then (Yk ts ts.length n (d + 1) (a + 1)).go fun r a => .inl (Z6 6 [] [] [t, r], a) else .inl (t, a))) := by
 have H := Za h
 have OK := Za ok
 have HI := Za ih
 obtain ⟨f, hf⟩ : ∃ f, f + 1 = ts.length := ⟨ts.length - 1, by have := ok.pos; omega⟩
 have HA := Za (alt_c pb tb cap (d + 1) ts (Yk ts ts.length n (d + 1)) ⟨ih, Jq pb, fun a x b hx => Nq hx⟩ f a hf (w.alloc Yl) (h.alloc _) ok)
 rw [hf] at HA
 obtain ⟨R, hR⟩ := xE (((U7 ts (Yk ts ts.length n (d + 1)) ts.length a).go fun t a => if Zc ts a [45, 62] then (Yk ts ts.length n (d + 1) (a + 1)).go fun r a => .inl (Z6 6 [] [] [t, r], a) else .inl (t, a)))
 rw [← hR]
 have HRr := Za hR
 clear h ok ih hR
 go_enter func65, ntmps65
 go_wp2_with fail
 refine HA.o.mono ?_
 rintro e w1 ⟨hst, zhm⟩
 have HST := Za ((Zj.of H.o.ltp (Zl _ _)).trans hst)
 have HR := Za ((hst.keep _ H.o.ltp (by simp)).trans (xL w _))
 clear hst
 rcases hA : U7 ts (Yk ts ts.length n (d + 1)) ts.length a with ⟨D, b⟩ | ⟨er, li, co⟩
 case inr =>
  rw [hA] at zhm
  have HE : xQ (R = .inr (er, li, co)) := by show _ = _; simp only [HRr.o, hA, Ao]
  subst zhm
  clear hA
  go_wp2_with fail
  exact ⟨rfl, HST.o, by rw [HE.o]⟩
 rw [hA] at zhm
 obtain ⟨hps, v, rfl, hv⟩ := zhm
 obtain ⟨k1, nm1, na1, nl1, nc1, ka1, kl1, kc1, rfl⟩ := hv.cells
 have HRA : xQ (R = if Zc ts b [45, 62] then (Yk ts ts.length n (d + 1) (b + 1)).go fun r a => .inl (Z6 6 [] [] [D, r], a) else .inl (D, b)) := by show _ = _; simp only [HRr.o, hA, Tb]
 have HP := Za hps
 have HT := Za hv
 clear hps hv hA HRr
 go_wp2_with fail
 refine (Xb pb tb cap b (d + 1) ts [45, 62] _ (HP.o.alloc _) OK.o).mono ?_
 rintro e w2 ⟨rfl, hst, hps⟩
 have HR2 := Za ((hst.keep _ H.o.ltp (by have := xB HR.o; simp; omega)).trans ((xA (xB HR.o)).trans HR.o))
 have HST2 := Za ((HST.o.alloc H.o.ltp _).trans hst)
 have HT2 := Za ((HT.o.alloc _).stay hst (by have := H.o.ltp; simp; omega))
 have HBx := Za ((hst.keep w1.heap.size HP.o.ltp (by simp)).trans (xL w1 _))
 clear hst
 cases hs : Zc ts b [45, 62] with
 | false =>
  rw [hs, if_neg (by simp)] at hps
  have HP2 := Za hps
  have HE : xQ (R = .inl (D, b)) := by rw [HRA.o, if_neg (by simp [hs])]; exact rfl
  obtain ⟨⟨r0, r1, r2, r3⟩, ⟨f0, f1, f2, f3⟩, hr1⟩ := Zr HR2.o
  obtain ⟨⟨b0, b1, b2, b3⟩, _, hr2⟩ := Zr HBx.o
  have hne : ¬ w1.heap.size = w.heap.size := by have := xB HR.o; omega
  clear hps hs
  go_wp2_with fail
  rw [HE.o]
  refine bodyPost_ret (results_cell_row rfl _ _ w.heap.size 36 _ (0, 0) _ rfl (set4 HR2.o _ _ _ _) underlying36 rfl (by kernel_rfl)) rfl ⟨Xs HST2.o H.o.ltp (xR) _ _ _ _, V6 HP2.o H.o.ltp _ _ _ _, _, rfl, ?_⟩
  exact (HT2.o.set4 (by simp) _ _ _ _).lower (by simp)
 | true =>
  rw [hs, if_pos rfl] at hps
  have HP2 := Za hps
  have HRB : xQ (R = (Yk ts ts.length n (d + 1) (b + 1)).go fun r a => .inl (Z6 6 [] [] [D, r], a)) := by rw [HRA.o, if_pos hs]; exact rfl
  have HAft : xQ (∀ wa w3, wa.heap = w2.heap → Zj pb wa w3 → Ti w3 w1.heap.size k1 nm1 na1 nl1 nc1 ka1 kl1 kc1 ∧ w3.heap[w.heap.size]? = some Yl ∧ Zt (w.heap.size + 1) w3 (.agg #[.int .i64 k1, .string nm1, .slice na1 nl1 nc1, .slice ka1 kl1 kc1]) D) := by
   intro wa w3 e hs
   have hl := xB HBx.o
   have hl2 := xB HR2.o
   refine ⟨(Zr ((hs.keep w1.heap.size HP.o.ltp (by rw [e]; exact hl)).trans (by rw [e]; exact HBx.o))).1, (hs.keep w.heap.size H.o.ltp (by rw [e]; exact hl2)).trans (by rw [e]; exact HR2.o), ?_⟩
   have ht : Zt (w.heap.size + 1) wa (.agg #[.int .i64 k1, .string nm1, .slice na1 nl1 nc1, .slice ka1 kl1 kc1]) D := (by simpa using HT2.o : Zt (w.heap.size + 1) w2 _ D).keep (by rw [e]; exact xR) fun i _ _ => by rw [e]
   exact ht.stay hs (by have := H.o.ltp; omega)
  have hS0 : Ti w2.drew w1.heap.size k1 nm1 na1 nl1 nc1 ka1 kl1 kc1 := (Zr HBx.o).1
  have HC : xQ (Calls prog 30 #[.pointer (some ⟨pb, 0, none⟩)] w2.drew fun e w3 => (∃ chain, e = .panicked chain ∧ Zs pb tb cap ts (d + 1) w Zt R e w3) ∨
    ∃ D2 b2 k4 nm4 na4 nl4 nc4 ka4 kl4 kc4, e = .returned (.agg #[.int .i64 k4, .string nm4, .slice na4 nl4 nc4, .slice ka4 kl4 kc4]) ∧ Ti w3 w1.heap.size k1 nm1 na1 nl1 nc1 ka1 kl1 kc1 ∧ Ak w3 w.heap.size ∧ xQ (∀ o, Ti (w3.alloc o) w1.heap.size k1 nm1 na1 nl1 nc1 ka1 kl1 kc1) ∧ xQ (∀ o x0 x1 x2 x3, Ti (((((w3.setCell ⟨w.heap.size, 0, none⟩ x0).setCell ⟨w.heap.size, 1, none⟩ x1).setCell ⟨w.heap.size, 2, none⟩ x2).setCell ⟨w.heap.size, 3, none⟩ x3).alloc o) w1.heap.size k1 nm1 na1 nl1 nc1 ka1 kl1 kc1) ∧ xQ (R = .inl (Z6 6 [] [] [D, D2], b2) ∧ Zj pb w w3 ∧ Ps w3 pb tb cap ts b2 (d + 1) ∧
     w3.heap[w.heap.size]? = some Yl ∧ Zt (w.heap.size + 1) w3 (.agg #[.int .i64 k1, .string nm1, .slice na1 nl1 nc1, .slice ka1 kl1 kc1]) D ∧ Zt (w.heap.size + 1) w3 (.agg #[.int .i64 k4, .string nm4, .slice na4 nl4 nc4, .slice ka4 kl4 kc4]) D2)) := by
   refine (HI.o (b + 1) w2.drew HP2.o.drew).mono ?_
   rintro e w3 ⟨hst, zhm⟩
   have hst3 := HST2.o.drew.trans hst
   obtain ⟨g1, g2, g3⟩ := HAft.o w2.drew w3 (Eq.refl w2.heap) hst
   rcases hk : Yk ts ts.length n (d + 1) (b + 1) with ⟨D2, b2⟩ | ⟨er, li, co⟩
   ·rw [hk] at zhm
    obtain ⟨hps, v, rfl, hv⟩ := zhm
    obtain ⟨k4, nm4, na4, nl4, nc4, ka4, kl4, kc4, rfl⟩ := hv.cells
    exact .inr ⟨D2, b2, _, _, _, _, _, _, _, _, rfl, g1, zeroT g2, (fun o => g1.alloc (xT (xB HBx.o) hst.size) o), (fun o x0 x1 x2 x3 => (g1.set4 (by have := xB HR.o; omega) x0 x1 x2 x3).alloc (by rw [Vj]; exact xT (xB HBx.o) hst.size) o), by rw [HRB.o, hk]; rfl, hst3, hps, g2, g3, hv.lower (xB HR2.o)⟩
   ·rw [hk] at zhm
    subst zhm
    exact .inl ⟨_, rfl, hst3, by rw [HRB.o, hk]; rfl⟩
  clear hps hs
  unfold Ti at hS0
  have hne : ¬ w1.heap.size = w.heap.size := by have := xB HR.o; omega
  have hne' : ¬ w.heap.size = w1.heap.size := by have := xB HR.o; omega
  go_wp2_with fail
  go_region_held (fun W => W.cell? ⟨w1.heap.size, 0, none⟩ = some (.int .i64 k1) ∧ W.cell? ⟨w1.heap.size, 1, none⟩ = some (.string nm1) ∧ W.cell? ⟨w1.heap.size, 2, none⟩ = some (.slice na1 nl1 nc1) ∧ W.cell? ⟨w1.heap.size, 3, none⟩ = some (.slice ka1 kl1 kc1)) (first | with_reducible assumption | with_reducible exact HS3.o _ | with_reducible exact HS4.o _ _ _ _ _) (first
   | (go_at_call 30; refine HC.o.mono ?_; rintro e w3 (⟨ch, rfl, hf⟩ | ⟨D2, b2, k4, nm4, na4, nl4, nc4, ka4, kl4, kc4, rfl, t5, t6, HS3, HS4, HX⟩); exact ⟨rfl, hf⟩; unfold Ti at t5; obtain ⟨⟨r0, r1, r2, r3⟩, ⟨f0, f1, f2, f3⟩, hl4⟩ := t6))
  all_goals
   go_wp2_with fail
   obtain ⟨e1, e2, e3, e4, e5, e6⟩ := HX.o
   rw [e1]
   have hlt : w.heap.size < w3.heap.size := xB e4
   refine bodyPost_ret (results_cell_row rfl _ _ w.heap.size 36 _ (0, 0) _ rfl ((xA (by rw [Vj]; exact hlt)).trans (set4 e4 _ _ _ _)) underlying36 rfl (by kernel_rfl)) rfl ⟨(Xs e2 H.o.ltp (xR) _ _ _ _).alloc H.o.ltp _, (V6 e3 H.o.ltp _ _ _ _).alloc _, _, rfl, ?_⟩
   have hf := Er (c1 := [.int .i64 k1, .string nm1, .slice na1 nl1 nc1, .slice ka1 kl1 kc1]) (c2 := [.int .i64 k4, .string nm4, .slice na4 nl4 nc4, .slice ka4 kl4 kc4]) (e5.set4 (b := w.heap.size) (xU _) (.int .i64 6) (.string ⟨#[]⟩) (.slice none 0 0) (.slice (some ⟨w3.heap.size, 0, none⟩) 2 2)) (e6.set4 (xU _) _ _ _ _) rfl rfl (by rw [Vj]; exact hlt)
   rw [Vj] at hf
   exact hf.lower (Nat.le_succ _)
theorem zdx (pb tb cap a d g : Nat) (ts : List Tok) (r : Pr Ty) (hd : d < 100) (hg : ∀ w, Ps w pb tb cap ts a (d + 1) → Calls prog g #[.pointer (some ⟨pb, 0, none⟩)] w (Zs pb tb cap ts (d + 1) w Zt r)) (hen : V1 g pb)
  (w : World) (h : Ps w pb tb cap ts a d) :
  Calls prog 64 #[.pointer (some ⟨pb, 0, none⟩), .func (.func g) #[] #[]] w (Zs pb tb cap ts d w Zt r) := by
 have H := Za h
 have HG := Za hg
 have hp := h.ltp
 obtain ⟨c0, c1, c2⟩ := h.cells
 have z2 := h.fz 2
 have hd1 : ((d : Int) == 100) = false := by simp; omega
 clear h hg
 go_enter func64, ntmps64
 go_wp2_with fail
 rw [show ((d : Int) + 1) = ((d + 1 : Nat) : Int) by omega]
 refine (HG.o _ ((H.o.setDeep (d + 1)).alloc _)).mono ?_
 rintro e w1 ⟨hst, zhm⟩
 have HST : xQ (Zj pb w w1) := (((Zj.refl pb w).set 2 _).alloc hp _).trans hst
 have HR := Za ((hst.keep w.heap.size hp (by simp [World.setCell])).trans (G9 w _ _ _))
 have HLo : xQ (∀ x, Zs pb tb cap ts (d + 1) ((w.setCell ⟨pb, 2, none⟩ (.int .i64 ((d + 1 : Nat) : Int))).alloc Yl) Zt (.inl x) e w1 → Ps w1 pb tb cap ts x.2 (d + 1) ∧ ∃ v, e = .returned v ∧ Zt (w.heap.size + 1) w1 v x.1) := by
  rintro ⟨x, b⟩ ⟨_, h1, v, h2, h3⟩
  refine ⟨h1, v, h2, ?_⟩
  have : ((w.setCell ⟨pb, 2, none⟩ (.int .i64 ((d + 1 : Nat) : Int))).alloc Yl).heap.size = w.heap.size + 1 := by simp [World.setCell]
  rw [this] at h3
  exact h3
 have HPo : xQ (Zs pb tb cap ts (d + 1) ((w.setCell ⟨pb, 2, none⟩ (.int .i64 ((d + 1 : Nat) : Int))).alloc Yl) Zt r e w1) := ⟨hst, zhm⟩
 clear hst zhm
 rcases r with ⟨D, b⟩ | ⟨er, li, co⟩
 case inr =>
  obtain ⟨_, rfl⟩ := HPo.o
  go_wp2_with fail
  exact ⟨rfl, HST.o, rfl⟩
 obtain ⟨hps, v, rfl, hv⟩ := HLo.o _ HPo.o
 obtain ⟨k1, nm1, na1, nl1, nc1, ka1, kl1, kc1, rfl⟩ := hv.cells
 have HP := Za hps
 have HT := Za hv
 clear hps hv HPo HLo c0 c1 c2 z2
 obtain ⟨c0, c1, c2⟩ := HP.o.cells
 have z2 := HP.o.fz 2
 have hp1 := HP.o.ltp
 obtain ⟨⟨r0, r1, r2, r3⟩, ⟨f0, f1, f2, f3⟩, hr1⟩ := Zr HR.o
 have hpw : ¬ pb = w.heap.size := by omega
 have hpw' : ¬ w.heap.size = pb := by omega
 have hne : ¬ w1.heap.size = w.heap.size := by omega
 have hne' : ¬ w1.heap.size = pb := by omega
 go_wp2_with fail
 refine bodyPost_ret (results_cell_row rfl _ _ w.heap.size 36 _ (0, 0) _ rfl ((xA (by rw [Vj, Zw]; exact hr1)).trans (set4 ((xH hpw').trans HR.o) _ _ _ _)) underlying36 rfl (by kernel_rfl)) rfl ⟨(Xs (HST.o.set 2 _) hp (xR) _ _ _ _).alloc hp _, (V6 (HP.o.setDeep d) hp _ _ _ _).alloc _, _, rfl, ?_⟩
 exact (((HT.o.set1 (by omega) _ _).set4 (xU _) _ _ _ _).alloc _).lower (Nat.le_succ _)
theorem Iq (pb tb cap a g : Nat) (ts : List Tok) (w : World) (h : Ps w pb tb cap ts a 100) :
  Calls prog 64 #[.pointer (some ⟨pb, 0, none⟩), .func (.func g) #[] #[]] w (Zs pb tb cap ts 100 w Zt (Ys ts 6 a)) := by
 have H := Za h
 have hp := h.ltp
 obtain ⟨c0, c1, c2⟩ := h.cells
 clear h
 go_enter func64, ntmps64
 go_wp2_with fail
 refine (M6 pb tb cap a 100 ts _ (H.o.alloc _) 6).mono ?_
 rintro e w2 ⟨rfl, hb2⟩
 have HB2 := Za (Zn (Zl _ _) hb2)
 clear hb2
 go_wp2_with fail
 exact ⟨rfl, Zj.of hp HB2.o, rfl⟩
theorem zac (pb : Nat) : V1 65 pb := fun w => V8 func65 (by kernel_rfl) (by kernel_rfl) _ w
theorem Fa (pb tb cap d : Nat) (ts : List Tok) (r : Pr Ty) (w : World) (hw : ∀ w1, Below w.heap.size w w1 → Calls prog 64 #[.pointer (some ⟨pb, 0, none⟩), .func (.func 65) #[] #[]] w1 (Zs pb tb cap ts d w1 Zt r)) (hp : pb < w.heap.size) :
  Calls prog 30 #[.pointer (some ⟨pb, 0, none⟩)] w (Zs pb tb cap ts d w Zt r) := by
 have HW := Za hw
 clear hw
 go_enter func30, ntmps30
 go_wp2_with fail
 refine (HW.o _ (Zl _ _)).mono ?_
 rintro e w1 ⟨hst, zhm⟩
 have HST := Za ((Zj.of hp (Zl _ _)).trans hst)
 have HR := Za ((hst.keep _ hp (by simp)).trans (xL w _))
 clear hst
 rcases r with ⟨D, b⟩ | ⟨er, li, co⟩
 case inr =>
  subst zhm
  go_wp2_with fail
  exact ⟨rfl, HST.o, rfl⟩
 obtain ⟨hps, v, rfl, hv⟩ := zhm
 obtain ⟨k1, nm1, na1, nl1, nc1, ka1, kl1, kc1, rfl⟩ := hv.cells
 have HP := Za hps
 have HT := Za hv
 obtain ⟨⟨r0, r1, r2, r3⟩, ⟨f0, f1, f2, f3⟩, hr1⟩ := Zr HR.o
 clear hps hv
 go_wp2_with fail
 refine bodyPost_ret (results_cell_row rfl _ _ w.heap.size 36 _ (0, 0) _ rfl (set4 HR.o _ _ _ _) underlying36 rfl (by kernel_rfl)) rfl ⟨Xs HST.o hp (xR) _ _ _ _, V6 HP.o hp _ _ _ _, _, rfl, ?_⟩
 exact (HT.o.set4 (by simp) _ _ _ _).lower (by simp)
theorem Hx (pb tb cap : Nat) (ts : List Tok) (ok : Z0 ts) : ∀ (n d a : Nat) (w : World), d + n = 101 → d ≤ 100 → Ps w pb tb cap ts a d →
  Calls prog 30 #[.pointer (some ⟨pb, 0, none⟩)] w (Zs pb tb cap ts d w Zt (Yk ts ts.length n d a))
 | 0, d, _, _, h1, h2, _ => absurd h1 (by omega)
 | n + 1, d, a, w, h1, h2, h => by
  rw [Yk]
  by_cases hd : 100 ≤ d
  ·obtain rfl : d = 100 := by omega
   rw [if_pos hd]
   exact Fa pb tb cap 100 ts _ w (fun w1 hb => Iq pb tb cap a _ ts w1 (h.below hb)) h.ltp
  ·rw [if_neg hd]
   exact Fa pb tb cap d ts _ w (fun w1 hb => zdx pb tb cap a d _ ts _ (by omega) (fun w2 h2 => zel pb tb cap d n ts (fun a w h => Hx pb tb cap ts ok n (d + 1) a w (by omega) (by omega) h) a w2 h2 ok) (zac pb) w1 (h.below hb)) h.ltp
end Go.Proofs.YtbnjllkkhhkkaaaGreatDoor
