/- Part. -/
import Derived.Deep.DrawnRows
import Derived.Test.YtfoejkhfdiodhaaGreatDoorPart4
set_option maxRecDepth 100000
set_option maxHeartbeats 4000000
namespace Go.Proofs.YtfoejkhfdiodhaaGreatDoor
open Go.Proofs.Tryz
open Go.RowKit
theorem Bi {g : Nat} {fn : Func} (hf : prog.funcs[g]? = some fn) (hn : (fn.name == "runtime.NumGoroutine") = false) (hb : fn.body.isNone = false) (args : Array Value) (w : World) : (callFunc g args).run prog w = .ok (.enter g args) w := by
 have h1 : fn.name ≠ "runtime.NumGoroutine" := by simpa using hn
 have h2 : fn.body ≠ none := fun e => by rw [e] at hb; cases hb
 simp [callFunc, go_sem, hf, h1, h2]
theorem zE (pb : Nat) : Mx 21 pb := fun w => Bi func21 (by kernel_rfl) (by kernel_rfl) _ w
theorem fM (pb : Nat) : Mx 127 pb := fun w => Bi func127 (by kernel_rfl) (by kernel_rfl) _ w
section
variable {lo lo' pb b m f a : Nat} {w w' : World} {v : Value} {D : Ty} {ts : List Tok} {α : Type}
theorem Yb.keep (h : Yb lo w v D) (hs : w.heap.size <= w'.heap.size) (hk : ∀ b, lo <= b -> b < w.heap.size -> w'.heap[b]? = w.heap[b]?) : Yb lo w' v D := by
 obtain ⟨m, h⟩ := h
 exact ⟨m, On h hs hk⟩
theorem Yb.lower (h : Yb lo w v D) (hl : lo' <= lo) : Yb lo' w v D := by
 obtain ⟨m, h⟩ := h
 exact ⟨m, yP h hl⟩
theorem Yb.stay (h : Yb lo w v D) (hs : Zl pb w w') (hp : pb < lo) : Yb lo w' v D := h.keep hs.size fun b hb hl => hs.keep b (by omega) hl
theorem Yb.set4 (h : Yb lo w v D) (hb : b < lo) (x0 x1 x2 x3 : Value) : Yb lo ((((w.setCell ⟨b, 0, none⟩ x0).setCell ⟨b, 1, none⟩ x1).setCell ⟨b, 2, none⟩ x2).setCell ⟨b, 3, none⟩ x3) v D :=
 h.keep (by rw [Mg]; exact xR) fun i hi _ => Xs (by omega) _ _ _ _
theorem Yb.set1 (h : Yb lo w v D) (hb : b < lo) (o : Nat) (x : Value) : Yb lo (w.setCell ⟨b, o, none⟩ x) v D :=
 h.keep (by rw [Ye]; exact xR) fun i hi _ => xH (by show i ≠ b; omega)
theorem Yb.alloc (h : Yb lo w v D) (o : Obj) : Yb lo (w.alloc o) v D := h.keep (by simp) fun i _ hl => xA hl
theorem Av (lo : Nat) (w : World) (k : Int) (nm : ByteArray) (hk : (Lit.int .i64 k).wf = true) (hn : nm.size <= reachBytes) : Yb lo w (.agg #[.int .i64 k, .string nm, .slice none 0 0, .slice none 0 0]) (Yq k nm.data.toList [] []) :=
 ⟨1, k, nm, none, 0, none, 0, [], [], rfl, rfl, hk, hn, (fun _ h => nomatch h), ⟨xR, xZ _⟩, ⟨xR, xZ _⟩, .inl rfl, .inl rfl⟩
theorem Fv {one : Nat -> Pr α} {sep : List UInt8} : ∀ (f : Nat) {a b : Nat} {l : List α}, Yd ts one sep f a = .inl (l, b) -> l.length <= f
 | 0, _, _, _, h => by cases h
 | f + 1, a, b, l, h => by
  rw [Yd] at h
  cases ho : one a with
  | inr e => rw [ho] at h; cases h
  | inl p =>
   obtain ⟨x, c⟩ := p;rw [ho] at h;replace h : (if Zh ts c sep then (Yd ts one sep f (c + 1)).go fun l a => .inl (x :: l, a) else .inl ([x], c)) = .inl (l, b) := h;by_cases hs : Zh ts c sep = true
   ·rw [if_pos hs] at h
    cases hm : Yd ts one sep f (c + 1) with
    | inr e => rw [hm] at h; cases h
    | inl p =>
     obtain ⟨l', d⟩ := p;rw [hm] at h;injection h with h;injection h with h;rw [<- h];have := Fv f hm;simp;omega
   ·rw [if_neg hs] at h
    injection h with h;injection h with h;rw [<- h];simp
theorem zH {one : Nat -> Pr α} {sep : List UInt8} {Q : α -> Prop} (hq : ∀ a x b, one a = .inl (x, b) -> Q x) : ∀ (f : Nat) {a b : Nat} {l : List α}, Yd ts one sep f a = .inl (l, b) -> ∀ x ∈ l, Q x
 | 0, _, _, _, h => by cases h
 | f + 1, a, b, l, h => by
  rw [Yd] at h
  cases ho : one a with
  | inr e => rw [ho] at h; cases h
  | inl p =>
   obtain ⟨x, c⟩ := p;rw [ho] at h;replace h : (if Zh ts c sep then (Yd ts one sep f (c + 1)).go fun l a => .inl (x :: l, a) else .inl ([x], c)) = .inl (l, b) := h;by_cases hs : Zh ts c sep = true
   ·rw [if_pos hs] at h
    cases hm : Yd ts one sep f (c + 1) with
    | inr e => rw [hm] at h; cases h
    | inl p =>
     obtain ⟨l', d⟩ := p;rw [hm] at h;injection h with h;injection h with h;rw [<- h];intro y hy;rcases List.mem_cons.1 hy with rfl | hy
     ·exact hq a _ c ho
     ·exact zH hq f hm y hy
   ·rw [if_neg hs] at h
    injection h with h;injection h with h;rw [<- h];intro y hy;rw [List.mem_singleton.1 hy];exact hq a _ c ho
theorem uV {s : List UInt8} {b : Nat} (h : Zr ts a = .inl (s, b)) : s = (Zk ts a).text := by
 unfold Zr at h
 split at h
 ·injection h with h; injection h with h; exact h.symm
 ·cases h
theorem lM (ok : Yh ts) {K : Nat -> Pr α} {x : List UInt8 × α} {b : Nat} (h : Tg ts K a = .inl (x, b)) : x.1.length <= 70000 := by
 unfold Tg at h
 cases hn : Zr ts a with
 | inr e => rw [hn] at h; cases h
 | inl p =>
  obtain ⟨s, c⟩ := p;rw [hn] at h;replace h : (Ze ts c [58]).go (fun _ a => (K a).go fun t a => .inl ((s, t), a)) = .inl (x, b) := h
  cases hw : Ze ts c [58] with
  | inr e => rw [hw] at h; cases h
  | inl p =>
   obtain ⟨u, c2⟩ := p;rw [hw] at h;replace h : (K c2).go (fun t a => .inl ((s, t), a)) = .inl (x, b) := h
   cases hk : K c2 with
   | inr e => rw [hk] at h; cases h
   | inl p =>
    rw [hk] at h;injection h with h;injection h with h;rw [<- h];show s.length <= _;rw [uV hn];exact ok.txt a
theorem O5 (ok : Yh ts) {K : Nat -> Pr α} {l : List (List UInt8 × α)} (h : Mo ts K f a = .inl (l, b)) : l.length <= f /\ ∀ p ∈ l, p.1.length <= 70000 := by
 unfold Mo at h
 split at h
 ·injection h with h
  injection h with h;rw [<- h];exact ⟨xZ _, fun _ h => nomatch h⟩
 ·cases hm : Yd ts (Tg ts K) [44] f a with
  | inr e => rw [hm] at h; cases h
  | inl p =>
   obtain ⟨l', c⟩ := p;rw [hm] at h;replace h : (Ze ts c [125]).go (fun _ b => .inl (l', b)) = .inl (l, b) := h
   cases hw : Ze ts c [125] with
   | inr e => rw [hw] at h; cases h
   | inl p =>
    rw [hw] at h;injection h with h;injection h with h;rw [<- h];exact ⟨Fv f hm, zH (Q := fun p => p.1.length <= 70000) (fun a x b h => lM ok h) f hm⟩
theorem R9 {B : Nat} {o : Option Nat} {wx : World} {v : Value} {cs : List (List Value)} {xs : List (List UInt8)} (h : Ym Qc B 9 1 o wx v cs xs) : ∃ (a : Option Addr) (cap : Nat), v = .slice a xs.length cap /\ xs.length <= cap /\ Ba wx B a xs := by
 obtain ⟨a, cap, e, S7, hr⟩ := h.form strC_k
 refine ⟨a, cap, e, S7, ?_⟩
 rcases hr with hr | ⟨g, rfl, hg, Yz, hc⟩
 ·exact .inl hr
 ·refine .inr ⟨g, 0, rfl, hg, Nr Yz, fun i hi => ?_⟩
  obtain ⟨c, _, h2, h3⟩ := hc i hi;have := h2 0 (by omega);rw [h3] at this
  simpa using this
theorem pT {l : List (List UInt8 × Ty)} {vf : Value} (h : yY lo w vf l) (hl : l.length <= 8193) (hn : ∀ p ∈ l, p.1.length <= 70000) : ∃ a c a' c', vf = .tuple #[.slice a l.length c, .slice a' l.length c'] /\ Yb lo w (.agg #[.int .i64 5, .string ⟨#[]⟩, .slice a l.length c, .slice a' l.length c']) (Yq 5 [] (l.map (·.1)) (l.map (·.2))) := by
 obtain ⟨vn, vv, cn, cv, rfl, h1, h2⟩ := h
 obtain ⟨a, c, rfl, hc, hN⟩ := R9 h1
 obtain ⟨a', c', m, rfl, Hb, hK⟩ := G3 h2
 refine ⟨a, c, a', c', by simp, m + 1, 5, ⟨#[]⟩, a, c, a', c', _, _, by simp, rfl, by decide, by decide, ?_, ⟨hc, ?_⟩, ⟨Hb, ?_⟩, hN, hK⟩
 ·intro s hs
  obtain ⟨p, hp, rfl⟩ := List.mem_map.1 hs;have := hn p hp;unfold reachBytes;omega
 ·simp only [List.length_map]; unfold reachBytes; omega
 ·simp only [List.length_map]; unfold reachBytes; omega
end
abbrev A4 : List (List UInt8) := [[97, 110, 121], [110, 117, 108, 108], [98, 111, 111, 108], [105, 110, 116], [115, 116, 114]]
def zY (ts : List Tok) (K : Nat -> Pr Ty) (f a : Nat) : Pr Ty :=
 if Zh ts a [123] then (Mo ts K f (a + 1)).go fun l b => .inl (Yq 5 [] (l.map (·.1)) (l.map (·.2)), b)
 else if Zh ts a [40] then (K (a + 1)).go fun t a => (Ze ts a [41]).go fun _ a => .inl (t, a)
 else (Zr ts a).go fun s a => .inl (Yq 8 s [] [], a)
theorem Kn {ts : List Tok} {a : Nat} {s s' : List UInt8} (h : Zh ts a s = true) (hn : s ≠ s') : Zh ts a s' = false := by
 unfold Zh at h ⊢
 simp only [Bool.and_eq_true, beq_iff_eq] at h
 rw [h.2]
 simp [hn]
theorem fO (ts : List Tok) (K : Nat -> Pr Ty) (f a : Nat) (i : Nat) (hi : Pm (Zk ts a) A4 = i) : Pj ts K f a = .inl (Yq i [] [] [], a + 1) /\ i <= 4 /\ ∃ s, Zh ts a s = true := by
 unfold Pm at hi
 split at hi
 ·rename_i hk
  have Lt : ((Zk ts a).kind == 2 || (Zk ts a).kind == 5) = true := by rcases hk with h | h <;> simp [h]
  unfold Hn at hi
  split at hi
  ·rename_i j hj
   obtain ⟨Qt, hjt, _⟩ := List.findIdx?_eq_some_iff_getElem.1 hj
   have hij : j = i := by omega
   subst hij;have Jk : (Zk ts a).text = A4[j] := (beq_iff_eq.1 hjt).symm
   have Ji : Zh ts a A4[j] = true := by unfold Zh; rw [Lt, Jk]; simp
   refine ⟨?_, by simp at Qt; omega, _, Ji⟩;unfold Pj
   match j, Qt with
   | 0, _ =>
    have hs : Zh ts a [97, 110, 121] = true := Ji;rw [if_pos (show Zh ts a (Y4 0) = true from hs)];rfl
   | 1, _ =>
    have hs : Zh ts a [110, 117, 108, 108] = true := Ji;rw [if_neg (by rw [Kn hs (show ([110, 117, 108, 108] : List UInt8) ≠ Y4 0 by decide)]; simp), if_pos (show Zh ts a (Y4 1) = true from hs)];rfl
   | 2, _ =>
    have hs : Zh ts a [98, 111, 111, 108] = true := Ji;rw [if_neg (by rw [Kn hs (show ([98, 111, 111, 108] : List UInt8) ≠ Y4 0 by decide)]; simp), if_neg (by rw [Kn hs (show ([98, 111, 111, 108] : List UInt8) ≠ Y4 1 by decide)]; simp), if_pos (show Zh ts a (Y4 2) = true from hs)];rfl
   | 3, _ =>
    have hs : Zh ts a [105, 110, 116] = true := Ji;rw [if_neg (by rw [Kn hs (show ([105, 110, 116] : List UInt8) ≠ Y4 0 by decide)]; simp), if_neg (by rw [Kn hs (show ([105, 110, 116] : List UInt8) ≠ Y4 1 by decide)]; simp), if_neg (by rw [Kn hs (show ([105, 110, 116] : List UInt8) ≠ Y4 2 by decide)]; simp), if_pos (show Zh ts a (Y4 3) = true from hs)];rfl
   | 4, _ =>
    have hs : Zh ts a [115, 116, 114] = true := Ji;rw [if_neg (by rw [Kn hs (show ([115, 116, 114] : List UInt8) ≠ Y4 0 by decide)]; simp), if_neg (by rw [Kn hs (show ([115, 116, 114] : List UInt8) ≠ Y4 1 by decide)]; simp), if_neg (by rw [Kn hs (show ([115, 116, 114] : List UInt8) ≠ Y4 2 by decide)]; simp), if_neg (by rw [Kn hs (show ([115, 116, 114] : List UInt8) ≠ Y4 3 by decide)]; simp), if_pos (show Zh ts a (Y4 4) = true from hs)]
    rfl
  ·omega
 ·omega
def Uw {α : Type} (a : Nat) (r : Pr α) : Prop := ∀ x b, r = .inl (x, b) -> a <= b
section
variable {α β : Type} {ts : List Tok} {a : Nat}
theorem Yp {r : Pr α} {k : α -> Nat -> Pr β} (h : Uw a r) (hk : ∀ x c, a <= c -> Uw a (k x c)) : Uw a (r.go k) := by
 intro y b hy
 match r, h with
 | .inl (x, c), h => exact hk x c (h x c rfl) y b hy
 | .inr e, _ => cases hy
theorem F5 (e : Int) (c : Nat) : Uw a (Wa ts e c : Pr α) := fun _ _ h => by cases h
theorem Xh {c : Nat} (h : a <= c) (x : α) : Uw a (.inl (x, c) : Pr α) := fun _ _ e => by
 injection e with e
 injection e with _ e
 omega
theorem Wx {p : Prop} [Decidable p] {r s : Pr α} (h1 : Uw a r) (h2 : Uw a s) : Uw a (if p then r else s) := by split <;> assumption
theorem Td {c : Nat} (h : a <= c) (s : List UInt8) : Uw a (Ze ts c s) := Wx (Xh (by omega) _) (F5 _ _)
theorem Hs {c : Nat} (h : a <= c) : Uw a (Zr ts c) := Wx (Xh (by omega) _) (F5 _ _)
theorem Tc {K : Nat -> Pr α} (hK : ∀ a x b, K a = .inl (x, b) -> a <= b) {c : Nat} (h : a <= c) : Uw a (K c) := fun x b e => Nat.le_trans h (hK c x b e)
theorem Aw {one : Nat -> Pr α} {sep : List UInt8} (h1 : ∀ a x b, one a = .inl (x, b) -> a <= b) : ∀ (f : Nat) {c : Nat}, a <= c -> Uw a (Yd ts one sep f c)
 | 0, c, _ => F5 _ _
 | f + 1, c, h => Yp (Tc h1 h) fun x b hb => Wx (Yp (Aw h1 f (by omega)) fun l b hb => Xh hb _) (Xh hb _)
theorem mB {K : Nat -> Pr α} (hK : ∀ a x b, K a = .inl (x, b) -> a <= b) {c : Nat} (h : a <= c) : Uw a (Tg ts K c) :=
 Yp (Hs h) fun _ _ h1 => Yp (Td h1 _) fun _ _ h2 => Yp (Tc hK h2) fun _ _ h3 => Xh h3 _
theorem mD {K : Nat -> Pr Ty} (hK : ∀ a x b, K a = .inl (x, b) -> a <= b) (f : Nat) {c : Nat} (h : a <= c) : Uw a (Pj ts K f c) := by
 unfold Pj
 refine Wx (Xh (by omega) _) (Wx (Xh (by omega) _) (Wx (Xh (by omega) _) (Wx (Xh (by omega) _) (Wx (Xh (by omega) _) (Wx ?_ (Wx (Wx (Xh (by omega) _) ?_) ?_))))))
 ·exact Yp (Tc hK (by omega)) fun _ _ h1 => Yp (Td h1 _) fun _ _ h2 => Xh h2 _
 ·exact Yp (Aw (fun a x b e => mB hK (xR) x b e) f (by omega)) fun _ _ h1 => Yp (Td h1 _) fun _ _ h2 => Xh h2 _
 ·exact Yp (Hs h) fun _ _ h1 => Xh h1 _
theorem qA {K : Nat -> Pr Ty} (hK : ∀ a x b, K a = .inl (x, b) -> a <= b) {f : Nat} {x : Ty} {b : Nat} (h : Pj ts K f a = .inl (x, b)) : a <= b := mD hK f (xR) x b h
theorem up_alt {K : Nat -> Pr Ty} (hK : ∀ a x b, K a = .inl (x, b) -> a <= b) (f : Nat) {c : Nat} (h : a <= c) : Uw a (Ke ts K f c) := by
 unfold Ke
 refine Yp (Aw (fun a x b e => mD hK f (xR) x b e) f h) fun l b hb => ?_
 match l with
 | [] => exact Xh hb _
 | [t] => exact Xh hb _
 | _ :: _ :: _ => exact Xh hb _
theorem uA (ts : List Tok) (f : Nat) : ∀ (n d c : Nat) (x : Ty) (b : Nat), Xl ts f n d c = .inl (x, b) -> c <= b
 | 0, _, _, _, _, h => by cases h
 | n + 1, d, c, x, b, h => by
  rw [Xl] at h;have hn := uA ts f n (d + 1);refine Wx (a := c) (F5 (ts := ts) _ _) (Yp (up_alt hn f (xR)) fun t b hb => Wx (Yp (Tc hn (by omega)) fun _ _ h2 => Xh h2 _) (Xh hb _)) x b h
theorem Af {f n d : Nat} {x : Ty} {b : Nat} (h : Xl ts f n d a = .inl (x, b)) : a <= b := uA ts f n d a x b h
theorem jD {one : Nat -> Pr α} {sep : List UInt8} {f c b : Nat} {l : List α} (h : Yd ts one sep f c = .inl (l, b)) : l ≠ [] := by
 intro e
 subst e
 cases f with
 | zero => cases h
 | succ f =>
  rw [Yd] at h
  cases ho : one c with
  | inr e => rw [ho] at h; cases h
  | inl p =>
   obtain ⟨x, c2⟩ := p;rw [ho] at h;replace h : (if Zh ts c2 sep then (Yd ts one sep f (c2 + 1)).go fun l a => .inl (x :: l, a) else .inl ([x], c2)) = .inl ([], b) := h
   split at h
   ·cases hm : Yd ts one sep f (c2 + 1) with
    | inr e => rw [hm] at h; cases h
    | inl p => rw [hm] at h; injection h with h; injection h with h; cases h
   ·injection h with h; injection h with h; cases h
end
theorem Cl {ts : List Tok} {a : Nat} {L : List (List UInt8)} (h : Pm (Zk ts a) L < 0) {s : List UInt8} (hs : s ∈ L) : Zh ts a s = false := by
 have h1 := yS ts a L
 rw [show decide (0 <= Pm (Zk ts a) L) = false by simp; omega] at h1
 have := List.any_eq_false.1 h1.symm s hs
 simpa using this
theorem fN (ts : List Tok) (K : Nat -> Pr Ty) (f a : Nat) (h : Pm (Zk ts a) A4 < 0) : Pj ts K f a = zY ts K f a := by
 unfold Pj zY
 rw [if_neg (by rw [Cl h (s := Y4 0) (by decide)]; simp), if_neg (by rw [Cl h (s := Y4 1) (by decide)]; simp), if_neg (by rw [Cl h (s := Y4 2) (by decide)]; simp), if_neg (by rw [Cl h (s := Y4 3) (by decide)]; simp), if_neg (by rw [Cl h (s := Y4 4) (by decide)]; simp)]
 by_cases h1 : Zh ts a [123] = true
 ·rw [if_neg (by rw [Kn h1 (show ([123] : List UInt8) ≠ [40] by decide)]; simp), if_pos h1, if_pos h1]
  unfold Mo;by_cases h2 : Zh ts (a + 1) [125] = true
  ·rw [if_pos h2, if_pos h2]
   rfl
  ·rw [if_neg h2, if_neg h2]
   cases Yd ts (Tg ts K) [44] f (a + 1) with
   | inr e => rfl
   | inl p =>
    obtain ⟨l, b⟩ := p;show Pr.go (Ze ts b [125]) _ = Pr.go (Pr.go (Ze ts b [125]) _) _
    cases Ze ts b [125] with
    | inr e => rfl
    | inl q => rfl
 ·rw [if_neg h1, if_neg h1]
abbrev Xt : Obj := .cells #[.int .i64 0, .string ⟨#[]⟩, .slice none 0 0, .slice none 0 0] 42
theorem prim_c (pb tb cap d : Nat) (ts : List Tok) (K : Nat -> Pr Ty) (hg : Xg pb tb cap d ts Yb 21 K)
  (f a : Nat) (hf : ts.length <= a + 1 + (f + 1)) (hf2 : f + 1 <= 8193) (w : World) (h : Ps w pb tb cap ts a d) (ok : Yh ts) :
  Calls prog 127 #[pP pb] w (Z7 pb tb cap ts d w Yb (Pj ts K (f + 1) a)) := by
 have H := Za h
 have OK := Za ok
 have HG := Za hg
 have HF := Za hf
 clear hf
 have HW := Za (mJ pb tb cap a (w.heap.size + 1) 5 ts A4 (w.alloc Xt) 9 (h.alloc _).rd (by simp) (by simp))
 clear h ok hg
 obtain ⟨kv, hkv⟩ := xE (Pm (Zk ts a) A4)
 rw [<- hkv] at HW
 by_cases h0 : 0 <= kv
 ·obtain ⟨i, rfl⟩ : ∃ i : Nat, kv = i := ⟨kv.toNat, by omega⟩
  obtain ⟨e1, e2, s, e3⟩ := fO ts K (f + 1) a i hkv.symm;rw [e1];have HN := Za (Q4 OK.o.ends H.o.lt e3);clear hkv e1 e3;go_enter func127, ntmps127;go_wp2_with fail;refine HW.o.mono ?_;rintro e w1 ⟨rfl, Zt⟩;have P1 := Za ((H.o.alloc _).below Zt);have Yl := Za (Zx (Zq _ _) Zt);have HR := Za ((Zt.block w.heap.size (by simp)).trans (xL w _));clear Zt;go_wp2_with fail;refine (Bq pb tb cap a d ts _ P1.o HN.o OK.o.len).mono ?_
  rintro e w2 ⟨rfl, Zb, Zc⟩;have hr := (Zb.keep _ H.o.ltp (xB HR.o)).trans HR.o;obtain ⟨⟨r0, r1, r2, r3⟩, ⟨f0, f1, f2, f3⟩, Yn⟩ := Z6 hr;have Zz := Za hr;have HP := Za Zc;have Zu := Za ((Zl.of H.o.ltp Yl.o).trans Zb);clear Zb Zc hr;go_wp2_with fail;refine r42 rfl rfl (set4 Zz.o _ _ _ _) rfl ⟨Ta Zu.o H.o.ltp (xR) _ _ _ _, Br HP.o H.o.ltp _ _ _ _, _, rfl, ?_⟩;exact Av _ _ i ⟨#[]⟩ (by rcases (by omega : i = 0 ∨ i = 1 ∨ i = 2 ∨ i = 3 ∨ i = 4) with rfl | rfl | rfl | rfl | rfl <;> decide) (by decide)
 ·rw [fN ts K (f + 1) a (by omega)]
  have hneg : kv < 0 := by omega
  clear h0 hkv;unfold zY
  cases hs : Zh ts a [123] with
  | true =>
   rw [if_pos rfl];have HN := Za (Q4 OK.o.ends H.o.lt hs);have Ub := Za hs;clear hs
   cases hfi : Mo ts K (f + 1) (a + 1) with
   | inr x =>
    obtain ⟨er, li, co⟩ := x;have Px := Za hfi;clear hfi;go_enter func127, ntmps127;go_wp2_with fail;refine HW.o.mono ?_;rintro e w1 ⟨rfl, Zt⟩;have P1 := Za ((H.o.alloc _).below Zt);have Yl := Za (Zx (Zq _ _) Zt);have HR := Za ((Zt.block w.heap.size (by simp)).trans (xL w _));clear Zt;go_wp2_with fail;refine (V6 pb tb cap a d ts [123] w1 P1.o OK.o).mono ?_;rw [Ub.o, if_pos rfl];rintro e w2 ⟨rfl, Zb, Zc⟩
    have Zz := Za ((Zb.keep _ H.o.ltp (xB HR.o)).trans HR.o);have HP := Za Zc;have Zu := Za ((Zl.of H.o.ltp Yl.o).trans Zb);clear Zb Zc;go_wp2_with fail;refine (wQ pb tb cap d ts 21 K HG.o f (a + 1) (by have := HF.o; omega) w2 HP.o OK.o).mono ?_;rw [Px.o];rintro e w3 ⟨Zb, rfl⟩;have V8 := Za (Zu.o.trans Zb);clear Zb;go_wp2_with fail;exact ⟨rfl, V8.o, rfl⟩
   | inl x =>
    obtain ⟨l, b⟩ := x;have Px := Za hfi;obtain ⟨Wh, V0⟩ := O5 OK.o hfi;have L9 := Za V0;clear hfi V0;go_enter func127, ntmps127;go_wp2_with fail;refine HW.o.mono ?_;rintro e w1 ⟨rfl, Zt⟩;have P1 := Za ((H.o.alloc _).below Zt);have Yl := Za (Zx (Zq _ _) Zt);have HR := Za ((Zt.block w.heap.size (by simp)).trans (xL w _));clear Zt;go_wp2_with fail;refine (V6 pb tb cap a d ts [123] w1 P1.o OK.o).mono ?_
    rw [Ub.o, if_pos rfl];rintro e w2 ⟨rfl, Zb, Zc⟩;have Zz := Za ((Zb.keep _ H.o.ltp (xB HR.o)).trans HR.o);have HP := Za Zc;have Zu := Za ((Zl.of H.o.ltp Yl.o).trans Zb);clear Zb Zc;go_wp2_with fail;refine (wQ pb tb cap d ts 21 K HG.o f (a + 1) (by have := HF.o; omega) w2 HP.o OK.o).mono ?_;rw [Px.o];rintro e w3 ⟨Zb, Zc, v, rfl, hv⟩;obtain ⟨fa, fc, fa', fc', rfl, ht⟩ := pT hv (by omega) L9.o;have hr := (Zb.keep _ H.o.ltp (xB Zz.o)).trans Zz.o
    obtain ⟨⟨r0, r1, r2, r3⟩, ⟨f0, f1, f2, f3⟩, Yn⟩ := Z6 hr;have Yt := Za hr;have Jt := Za Zc;have V8 := Za (Zu.o.trans Zb);have Kc := Za ht;have HLt := Za (xB Zz.o);clear Zb Zc hr ht hv;go_wp2_with fail;refine r42 rfl rfl (set4 Yt.o _ _ _ _) rfl ⟨Ta V8.o H.o.ltp (xR) _ _ _ _, Br Jt.o H.o.ltp _ _ _ _, _, rfl, ?_⟩;exact (Kc.o.set4 HLt.o _ _ _ _).lower (Nat.le_of_lt HLt.o)
  | false =>
   rw [if_neg (by simp)];have Ub := Za hs;clear hs
   cases Wc : Zh ts a [40] with
   | true =>
    rw [if_pos rfl];have HN := Za (Q4 OK.o.ends H.o.lt Wc);have A1 := Za Wc;clear Wc
    cases hk : K (a + 1) with
    | inr x =>
     obtain ⟨er, li, co⟩ := x;have HK := Za hk;clear hk;go_enter func127, ntmps127;go_wp2_with fail;refine HW.o.mono ?_;rintro e w1 ⟨rfl, Zt⟩;have P1 := Za ((H.o.alloc _).below Zt);have Yl := Za (Zx (Zq _ _) Zt);have HR := Za ((Zt.block w.heap.size (by simp)).trans (xL w _));clear Zt;go_wp2_with fail;refine (V6 pb tb cap a d ts [123] w1 P1.o OK.o).mono ?_;rw [Ub.o, if_neg (by simp)];rintro e w2 ⟨rfl, Zb, Zc⟩
     have Zz := Za ((Zb.keep _ H.o.ltp (xB HR.o)).trans HR.o);have HP := Za Zc;have Zu := Za ((Zl.of H.o.ltp Yl.o).trans Zb);clear Zb Zc;go_wp2_with fail;refine (V6 pb tb cap a d ts [40] w2 HP.o OK.o).mono ?_;rw [A1.o, if_pos rfl];rintro e w3 ⟨rfl, Zb, Zc⟩;have Yt := Za ((Zb.keep _ H.o.ltp (xB Zz.o)).trans Zz.o);have Jt := Za Zc;have V8 := Za (Zu.o.trans Zb);clear Zb Zc;go_wp2_with fail;refine (HG.o.calls (a + 1) w3 Jt.o).mono ?_
     rw [HK.o];rintro e w4 ⟨Zb, rfl⟩;have Qa := Za (V8.o.trans Zb);clear Zb;go_wp2_with fail;exact ⟨rfl, Qa.o, rfl⟩
    | inl x =>
     obtain ⟨D, b⟩ := x;have HK := Za hk;clear hk;show Calls _ _ _ _ (Z7 pb tb cap ts d w Yb ((Ze ts b [41]).go fun _ a => .inl (D, a)))
     cases hw : Ze ts b [41] with
     | inr x =>
      obtain ⟨er, li, co⟩ := x;have N8 := Za hw;clear hw;go_enter func127, ntmps127;go_wp2_with fail;refine HW.o.mono ?_;rintro e w1 ⟨rfl, Zt⟩;have P1 := Za ((H.o.alloc _).below Zt);have Yl := Za (Zx (Zq _ _) Zt);have HR := Za ((Zt.block w.heap.size (by simp)).trans (xL w _));clear Zt;go_wp2_with fail;refine (V6 pb tb cap a d ts [123] w1 P1.o OK.o).mono ?_;rw [Ub.o, if_neg (by simp)];rintro e w2 ⟨rfl, Zb, Zc⟩
      have Zz := Za ((Zb.keep _ H.o.ltp (xB HR.o)).trans HR.o);have HP := Za Zc;have Zu := Za ((Zl.of H.o.ltp Yl.o).trans Zb);clear Zb Zc;go_wp2_with fail;refine (V6 pb tb cap a d ts [40] w2 HP.o OK.o).mono ?_;rw [A1.o, if_pos rfl];rintro e w3 ⟨rfl, Zb, Zc⟩;have Yt := Za ((Zb.keep _ H.o.ltp (xB Zz.o)).trans Zz.o);have Jt := Za Zc;have V8 := Za (Zu.o.trans Zb);clear Zb Zc;go_wp2_with fail;refine (HG.o.calls (a + 1) w3 Jt.o).mono ?_
      rw [HK.o];rintro e w4 ⟨Zb, Zc, v, rfl, hv⟩;obtain ⟨k1, nm1, na1, nl1, nc1, ka1, kl1, kc1, rfl⟩ := hv.cells;have Qa := Za (V8.o.trans Zb);have HP4 := Za Zc;clear Zb Zc hv;go_wp2_with fail;refine (Vw pb tb cap b d ts [41] _ (HP4.o.alloc _) OK.o).mono ?_;rw [N8.o];rintro e w5 ⟨Zb, rfl⟩;have Lj := Za ((Qa.o.alloc H.o.ltp _).trans Zb);clear Zb;go_wp2_with fail;exact ⟨rfl, Lj.o, rfl⟩
     | inl x =>
      obtain ⟨u, b'⟩ := x;have N8 := Za hw;clear hw;go_enter func127, ntmps127;go_wp2_with fail;refine HW.o.mono ?_;rintro e w1 ⟨rfl, Zt⟩;have P1 := Za ((H.o.alloc _).below Zt);have Yl := Za (Zx (Zq _ _) Zt);have HR := Za ((Zt.block w.heap.size (by simp)).trans (xL w _));clear Zt;go_wp2_with fail;refine (V6 pb tb cap a d ts [123] w1 P1.o OK.o).mono ?_;rw [Ub.o, if_neg (by simp)];rintro e w2 ⟨rfl, Zb, Zc⟩
      have Zz := Za ((Zb.keep _ H.o.ltp (xB HR.o)).trans HR.o);have HP := Za Zc;have Zu := Za ((Zl.of H.o.ltp Yl.o).trans Zb);clear Zb Zc;go_wp2_with fail;refine (V6 pb tb cap a d ts [40] w2 HP.o OK.o).mono ?_;rw [A1.o, if_pos rfl];rintro e w3 ⟨rfl, Zb, Zc⟩;have Yt := Za ((Zb.keep _ H.o.ltp (xB Zz.o)).trans Zz.o);have Jt := Za Zc;have V8 := Za (Zu.o.trans Zb);clear Zb Zc;go_wp2_with fail;refine (HG.o.calls (a + 1) w3 Jt.o).mono ?_
      rw [HK.o];rintro e w4 ⟨Zb, Zc, v, rfl, hv⟩;obtain ⟨k1, nm1, na1, nl1, nc1, ka1, kl1, kc1, rfl⟩ := hv.cells;have Qa := Za (V8.o.trans Zb);have HP4 := Za Zc;have Xi := Za ((Zb.keep _ H.o.ltp (xB Yt.o)).trans Yt.o);have HT4 := Za hv;have HLt := Za (xT (xB Yt.o) Zb.size);have HLt3 := Za (xB Yt.o);clear Zb Zc hv;go_wp2_with fail;refine (Vw pb tb cap b d ts [41] _ (HP4.o.alloc _) OK.o).mono ?_;rw [N8.o]
      rintro e w5 ⟨Zb, Zc, v, rfl, _⟩;have hr := (Zb.keep _ H.o.ltp (by have := HLt.o; simp; omega)).trans ((xA HLt.o).trans Xi.o);obtain ⟨⟨r0, r1, r2, r3⟩, ⟨f0, f1, f2, f3⟩, Yn⟩ := Z6 hr;obtain ⟨⟨b0, b1, b2, b3⟩, _, Hj⟩ := Z6 ((Zb.keep w4.heap.size HP4.o.ltp (by simp)).trans (xL w4 _));have Xq := Za hr;have HP5 := Za Zc;have Lj := Za ((Qa.o.alloc H.o.ltp _).trans Zb);have HT5 := Za ((HT4.o.alloc _).stay Zb Jt.o.ltp)
      have Z3 : ¬ w4.heap.size = w.heap.size := by have := HLt.o; omega
      clear Zb Zc hr;go_wp2_with fail;refine r42 rfl rfl (set4 Xq.o _ _ _ _) rfl ⟨Ta Lj.o H.o.ltp (xR) _ _ _ _, Br HP5.o H.o.ltp _ _ _ _, _, rfl, ?_⟩;exact (HT5.o.set4 HLt3.o _ _ _ _).lower (Nat.le_of_lt HLt3.o)
   | false =>
    rw [if_neg (by simp)];have A1 := Za Wc;clear Wc
    cases hk : Zr ts a with
    | inr x =>
     obtain ⟨er, li, co⟩ := x;have HK := Za hk;clear hk;go_enter func127, ntmps127;go_wp2_with fail;refine HW.o.mono ?_;rintro e w1 ⟨rfl, Zt⟩;have P1 := Za ((H.o.alloc _).below Zt);have Yl := Za (Zx (Zq _ _) Zt);have HR := Za ((Zt.block w.heap.size (by simp)).trans (xL w _));clear Zt;go_wp2_with fail;refine (V6 pb tb cap a d ts [123] w1 P1.o OK.o).mono ?_;rw [Ub.o, if_neg (by simp)];rintro e w2 ⟨rfl, Zb, Zc⟩
     have Zz := Za ((Zb.keep _ H.o.ltp (xB HR.o)).trans HR.o);have HP := Za Zc;have Zu := Za ((Zl.of H.o.ltp Yl.o).trans Zb);clear Zb Zc;go_wp2_with fail;refine (V6 pb tb cap a d ts [40] w2 HP.o OK.o).mono ?_;rw [A1.o, if_neg (by simp)];rintro e w3 ⟨rfl, Zb, Zc⟩;have Yt := Za ((Zb.keep _ H.o.ltp (xB Zz.o)).trans Zz.o);have Jt := Za Zc;have V8 := Za (Zu.o.trans Zb);clear Zb Zc;go_wp2_with fail;refine (Jo pb tb cap a d ts w3 Jt.o OK.o).mono ?_
     rw [HK.o];rintro e w4 ⟨Zb, rfl⟩;have Qa := Za (V8.o.trans Zb);clear Zb;go_wp2_with fail;exact ⟨rfl, Qa.o, rfl⟩
    | inl x =>
     obtain ⟨s, b⟩ := x;have HK := Za hk;have Kd := Za (show s.length <= 70000 from uV hk ▸ OK.o.txt a);clear hk;go_enter func127, ntmps127;go_wp2_with fail;refine HW.o.mono ?_;rintro e w1 ⟨rfl, Zt⟩;have P1 := Za ((H.o.alloc _).below Zt);have Yl := Za (Zx (Zq _ _) Zt);have HR := Za ((Zt.block w.heap.size (by simp)).trans (xL w _));clear Zt;go_wp2_with fail;refine (V6 pb tb cap a d ts [123] w1 P1.o OK.o).mono ?_
     rw [Ub.o, if_neg (by simp)];rintro e w2 ⟨rfl, Zb, Zc⟩;have Zz := Za ((Zb.keep _ H.o.ltp (xB HR.o)).trans HR.o);have HP := Za Zc;have Zu := Za ((Zl.of H.o.ltp Yl.o).trans Zb);clear Zb Zc;go_wp2_with fail;refine (V6 pb tb cap a d ts [40] w2 HP.o OK.o).mono ?_;rw [A1.o, if_neg (by simp)];rintro e w3 ⟨rfl, Zb, Zc⟩;have Yt := Za ((Zb.keep _ H.o.ltp (xB Zz.o)).trans Zz.o);have Jt := Za Zc;have V8 := Za (Zu.o.trans Zb)
     clear Zb Zc;go_wp2_with fail;refine (Jo pb tb cap a d ts w3 Jt.o OK.o).mono ?_;rw [HK.o];rintro e w4 ⟨Zb, Zc, v, rfl, rfl⟩;have hr := (Zb.keep _ H.o.ltp (xB Yt.o)).trans Yt.o;obtain ⟨⟨r0, r1, r2, r3⟩, ⟨f0, f1, f2, f3⟩, Yn⟩ := Z6 hr;have Xi := Za hr;have HP4 := Za Zc;have Qa := Za (V8.o.trans Zb);clear Zb Zc hr;go_wp2_with fail;refine r42 rfl rfl (set4 Xi.o _ _ _ _) rfl ⟨Ta Qa.o H.o.ltp (xR) _ _ _ _, Br HP4.o H.o.ltp _ _ _ _, _, rfl, ?_⟩
     exact Av _ _ 8 ⟨s.toArray⟩ (by decide) (by have := Kd.o; unfold reachBytes; show s.toArray.size <= _; simp; omega)
end Go.Proofs.YtfoejkhfdiodhaaGreatDoor
namespace Go.Proofs.YtfoejkhfdiodhaaGreatDoor
open Go.Proofs.Tryz
open Go.RowKit
attribute [local go_sem ↓] Go.wp_at_zero Go.wp_at_succ
section
variable {ts : List Tok} {K : Nat -> Pr Ty} {f a b : Nat} {l : List Ty} {D : Ty}
theorem mX {e : Int × Nat × Nat} (h : Yd ts (Pj ts K f) [124] f a = .inr e) : Ke ts K f a = .inr e := by unfold Ke; rw [h]; rfl
theorem m9 (h : Yd ts (Pj ts K f) [124] f a = .inl ([D], b)) : Ke ts K f a = .inl (D, b) := by unfold Ke; rw [h]; rfl
theorem mZ (h : Yd ts (Pj ts K f) [124] f a = .inl (l, b)) (hl : l.length ≠ 1) : Ke ts K f a = .inl (Yq 7 [] [] l, b) := by
 unfold Ke
 rw [h]
 match l, hl with
 | [], _ => rfl
 | [_], hl => exact absurd rfl hl
 | _ :: _ :: _, _ => rfl
end
theorem alt_c (pb tb cap d : Nat) (ts : List Tok) (K : Nat -> Pr Ty) (hg : Xg pb tb cap d ts Yb 21 K)
  (f a : Nat) (hf : f + 1 = ts.length) (w : World) (h : Ps w pb tb cap ts a d) (ok : Yh ts) :
  Calls prog 85 #[pP pb] w (Z7 pb tb cap ts d w Yb (Ke ts K (f + 1) a)) := by
 have H := Za h
 have OK := Za ok
 have HRd : xQ (Xg pb tb cap d ts Yb 127 (Pj ts K (f + 1))) := ⟨fun a w h => prim_c pb tb cap d ts K hg f a (by omega) (by have := ok.len; omega) w h ok, fM pb, fun a x b hx => qA hg.up hx⟩
 have HL := Za (uO pb tb cap d ts [124] _ _ HRd.o f a (by omega) (w.alloc Xt) (h.alloc _) ok)
 clear h ok hg
 cases hm : Yd ts (Pj ts K (f + 1)) [124] (f + 1) a with
 | inr x =>
  obtain ⟨er, li, co⟩ := x;rw [mX hm];rw [hm] at HL;clear hm;go_enter func85, ntmps85;go_wp2_with fail;refine HL.o.mono ?_;rintro e w1 ⟨Zb, rfl⟩;have Zu := Za ((Zl.of H.o.ltp (Zq _ _)).trans Zb);clear Zb;go_wp2_with fail;exact ⟨rfl, Zu.o, rfl⟩
 | inl x =>
  obtain ⟨l, b⟩ := x;have Sc := Za (Fv _ hm);have HNe := Za (jD hm);rw [hm] at HL;by_cases h1 : l.length = 1
  ·obtain ⟨D, rfl⟩ : ∃ D, l = [D] := List.length_eq_one_iff.1 h1
   rw [m9 hm];clear h1 hm;go_enter func85, ntmps85;go_wp2_with fail;refine HL.o.mono ?_;rintro e w1 ⟨Zb, Zc, v, rfl, cs, hv⟩;obtain ⟨av, cv, m, rfl, _, hk⟩ := G3 hv;obtain ⟨kb, ko, k1, nm1, na1, nl1, nc1, ka1, kl1, kc1, rfl, Wv, q0, q1, q2, q3, hT⟩ := kH hk (i := 0) (by simp);have HR := Za ((Zb.keep _ H.o.ltp (by simp)).trans (xL w _));obtain ⟨⟨r0, r1, r2, r3⟩, ⟨f0, f1, f2, f3⟩, Yn⟩ := Z6 HR.o
   have Zu := Za ((Zl.of H.o.ltp (Zq _ _)).trans Zb);have HP := Za Zc
   have HT : xQ (Yb (w.heap.size + 1) w1 (.agg #[.int .i64 k1, .string nm1, .slice na1 nl1 nc1, .slice ka1 kl1 kc1]) D) := by
    refine ⟨m, ?_⟩
    simpa using hT
   simp only [Nat.zero_mul, Nat.add_zero] at q0 q1 q2 q3;have Wh : ([D] : List Ty).length = 1 := rfl;clear Zb Zc hv hk hT;go_wp2_with fail;refine r42 rfl rfl (set4 HR.o _ _ _ _) rfl ⟨Ta Zu.o H.o.ltp (xR) _ _ _ _, Br HP.o H.o.ltp _ _ _ _, _, rfl, ?_⟩;exact (HT.o.set4 (xU _) _ _ _ _).lower (Nat.le_succ _)
  ·have Wh : ((l.length : Int) == 1) = false := by simp; omega
   have HLen2 : xQ (l.length <= 8193) := by have := Sc.o; have := OK.o.len; show _ <= _; omega
   rw [mZ hm h1];clear h1 hm;go_enter func85, ntmps85;go_wp2_with fail;refine HL.o.mono ?_;rintro e w1 ⟨Zb, Zc, v, rfl, cs, hv⟩;obtain ⟨av, cv, m, rfl, hcv, hk⟩ := G3 hv;have HR := Za ((Zb.keep _ H.o.ltp (by simp)).trans (xL w _));obtain ⟨⟨r0, r1, r2, r3⟩, ⟨f0, f1, f2, f3⟩, Yn⟩ := Z6 HR.o;have Zu := Za ((Zl.of H.o.ltp (Zq _ _)).trans Zb);have HP := Za Zc
   have HT : xQ (Yb (w.heap.size + 1) w1 (.agg #[.int .i64 7, .string ⟨#[]⟩, .slice none 0 0, .slice av l.length cv]) (Yq 7 [] [] l)) :=
    ⟨m + 1, 7, ⟨#[]⟩, none, 0, av, cv, [], l, rfl, rfl, by decide, by decide, (fun _ h => nomatch h), ⟨xR, xZ _⟩, ⟨hcv, (by have := HLen2.o; unfold reachBytes; omega)⟩, .inl rfl, by simpa using hk⟩
   clear Zb Zc hv hk;go_wp2_with fail;refine r42 rfl rfl (set4 HR.o _ _ _ _) rfl ⟨Ta Zu.o H.o.ltp (xR) _ _ _ _, Br HP.o H.o.ltp _ _ _ _, _, rfl, ?_⟩;exact (HT.o.set4 (xU _) _ _ _ _).lower (Nat.le_succ _)
theorem Km {α β : Type} (x : α) (a : Nat) (f : α -> Nat -> Pr β) : Pr.go (.inl (x, a)) f = f x a := rfl
theorem tZ {α β : Type} (e : Int × Nat × Nat) (f : α -> Nat -> Pr β) : Pr.go (.inr e : Pr α) f = .inr e := rfl
abbrev Kr (W : World) (b : Nat) (k : Int) (nm : ByteArray) (na : Option Addr) (nl nc : Nat) (ka : Option Addr) (kl kc : Nat) : Prop :=
 W.cell? ⟨b, 0, none⟩ = some (.int .i64 k) /\ W.cell? ⟨b, 1, none⟩ = some (.string nm) /\ W.cell? ⟨b, 2, none⟩ = some (.slice na nl nc) /\ W.cell? ⟨b, 3, none⟩ = some (.slice ka kl kc)
section
variable {W : World} {b c : Nat} {k : Int} {nm : ByteArray} {na : Option Addr} {nl nc : Nat} {ka : Option Addr} {kl kc : Nat}
theorem Kr.alloc (h : Kr W b k nm na nl nc ka kl kc) (hb : b < W.heap.size) (o : Obj) : Kr (W.alloc o) b k nm na nl nc ka kl kc := by
 have hc : ∀ j, (W.alloc o).cell? ⟨b, j, none⟩ = W.cell? ⟨b, j, none⟩ := fun j => World.cell?_of_block (w := W) (a := ⟨b, j, none⟩) (xA hb)
 exact ⟨(hc 0).trans h.1, (hc 1).trans h.2.1, (hc 2).trans h.2.2.1, (hc 3).trans h.2.2.2⟩
theorem Kr.set4 (h : Kr W b k nm na nl nc ka kl kc) (hb : b ≠ c) (x0 x1 x2 x3 : Value) : Kr ((((W.setCell ⟨c, 0, none⟩ x0).setCell ⟨c, 1, none⟩ x1).setCell ⟨c, 2, none⟩ x2).setCell ⟨c, 3, none⟩ x3) b k nm na nl nc ka kl kc := by
 have hc : ∀ j, ((((W.setCell ⟨c, 0, none⟩ x0).setCell ⟨c, 1, none⟩ x1).setCell ⟨c, 2, none⟩ x2).setCell ⟨c, 3, none⟩ x3).cell? ⟨b, j, none⟩ = W.cell? ⟨b, j, none⟩ := fun j => World.cell?_of_block (w := W) (a := ⟨b, j, none⟩) (Xs hb _ _ _ _)
 exact ⟨(hc 0).trans h.1, (hc 1).trans h.2.1, (hc 2).trans h.2.2.1, (hc 3).trans h.2.2.2⟩
end
def xP (W : World) (b : Nat) : Prop := (W.cell? ⟨b, 0, none⟩ = some (.int .i64 0) /\ W.cell? ⟨b, 1, none⟩ = some (.string ⟨#[]⟩) /\ W.cell? ⟨b, 2, none⟩ = some (.slice none 0 0) /\ W.cell? ⟨b, 3, none⟩ = some (.slice none 0 0)) /\
 (W.frozen? ⟨b, 0, none⟩ = false /\ W.frozen? ⟨b, 1, none⟩ = false /\ W.frozen? ⟨b, 2, none⟩ = false /\ W.frozen? ⟨b, 3, none⟩ = false) /\ b < W.heap.size
theorem zeroT {W : World} {b : Nat} (h : W.heap[b]? = some Xt) : xP W b := Z6 h
theorem rJ {lo : Nat} {w : World} {c1 c2 : List Value} {D1 D2 : Ty} (h1 : Yb lo w (.agg c1.toArray) D1) (h2 : Yb lo w (.agg c2.toArray) D2) (Bk : c1.length = 4) (Ns : c2.length = 4) (Tj : lo <= w.heap.size) :
  Yb lo (w.alloc (.cells (c1 ++ c2).toArray 42)) (.agg #[.int .i64 6, .string ⟨#[]⟩, .slice none 0 0, .slice (some ⟨w.heap.size, 0, none⟩) 2 2]) (Yq 6 [] [] [D1, D2]) := by
 obtain ⟨m1, h1⟩ := h1
 obtain ⟨m2, h2⟩ := h2
 have hk : ∀ {v D m}, Bc w lo m v D -> Bc (w.alloc (.cells (c1 ++ c2).toArray 42)) lo m v D := fun h => On h (by simp) fun i _ hl => xA hl
 have g1 := hk (Gg h1 (Nat.le_max_left m1 m2))
 have g2 := hk (Gg h2 (Nat.le_max_right m1 m2))
 refine ⟨max m1 m2 + 1, 6, ⟨#[]⟩, none, 0, some ⟨w.heap.size, 0, none⟩, 2, [], [D1, D2], rfl, rfl, by decide, by decide, (fun _ h => nomatch h), ⟨xR, xZ _⟩, ⟨xR, (by show 2 <= _; decide)⟩, .inl rfl, .inr ⟨w.heap.size, 0, rfl, Tj, ⟨_, _, xL _ _⟩, fun i hi => ?_⟩⟩
 match c1, Bk, c2, Ns with
 | [x0, x1, x2, x3], _, [y0, y1, y2, y3], _ =>
  match i, hi with
  | 0, _ => exact ⟨x0, x1, x2, x3, by rw [cell_of_row _ _ _ _ _ _ (xL w _)]; rfl, by rw [cell_of_row _ _ _ _ _ _ (xL w _)]; rfl, by rw [cell_of_row _ _ _ _ _ _ (xL w _)]; rfl, by rw [cell_of_row _ _ _ _ _ _ (xL w _)]; rfl, g1⟩
  | 1, _ => exact ⟨y0, y1, y2, y3, by rw [cell_of_row _ _ _ _ _ _ (xL w _)]; rfl, by rw [cell_of_row _ _ _ _ _ _ (xL w _)]; rfl, by rw [cell_of_row _ _ _ _ _ _ (xL w _)]; rfl, by rw [cell_of_row _ _ _ _ _ _ (xL w _)]; rfl, g2⟩
theorem nC (pb tb cap d n : Nat) (ts : List Tok) (ih : ∀ a w, Ps w pb tb cap ts a (d + 1) -> Calls prog 21 #[pP pb] w (Z7 pb tb cap ts (d + 1) w Yb (Xl ts ts.length n (d + 1) a)))
  (a : Nat) (w : World) (h : Ps w pb tb cap ts a (d + 1)) (ok : Yh ts) :
  Calls prog 47 #[pP pb] w (Z7 pb tb cap ts (d + 1) w Yb ((Ke ts (Xl ts ts.length n (d + 1)) ts.length a).go fun t a => if Zh ts a [45, 62] then (Xl ts ts.length n (d + 1) (a + 1)).go fun r a => .inl (Yq 6 [] [] [t, r], a) else .inl (t, a))) := by
 have H := Za h
 have OK := Za ok
 have HI := Za ih
 obtain ⟨f, hf⟩ : ∃ f, f + 1 = ts.length := ⟨ts.length - 1, by have := ok.pos; omega⟩
 have HA := Za (alt_c pb tb cap (d + 1) ts (Xl ts ts.length n (d + 1)) ⟨ih, zE pb, fun a x b hx => Af hx⟩ f a hf (w.alloc Xt) (h.alloc _) ok)
 rw [hf] at HA
 obtain ⟨R, hR⟩ := xE (((Ke ts (Xl ts ts.length n (d + 1)) ts.length a).go fun t a => if Zh ts a [45, 62] then (Xl ts ts.length n (d + 1) (a + 1)).go fun r a => .inl (Yq 6 [] [] [t, r], a) else .inl (t, a)))
 rw [<- hR]
 have Qn := Za hR
 clear h ok ih hR
 go_enter func47, ntmps47
 go_wp2_with fail
 refine HA.o.mono ?_
 rintro e w1 ⟨Zb, Zg⟩
 have Zu := Za ((Zl.of H.o.ltp (Zq _ _)).trans Zb)
 have HR := Za ((Zb.keep _ H.o.ltp (by simp)).trans (xL w _))
 clear Zb
 rcases hA : Ke ts (Xl ts ts.length n (d + 1)) ts.length a with ⟨D, b⟩ | ⟨er, li, co⟩
 case inr =>
  rw [hA] at Zg
  have HE : xQ (R = .inr (er, li, co)) := by show _ = _; simp only [Qn.o, hA, tZ]
  subst Zg;clear hA;go_wp2_with fail;exact ⟨rfl, Zu.o, by rw [HE.o]⟩
 rw [hA] at Zg
 obtain ⟨Zc, v, rfl, hv⟩ := Zg
 obtain ⟨k1, nm1, na1, nl1, nc1, ka1, kl1, kc1, rfl⟩ := hv.cells
 have HRA : xQ (R = if Zh ts b [45, 62] then (Xl ts ts.length n (d + 1) (b + 1)).go fun r a => .inl (Yq 6 [] [] [D, r], a) else .inl (D, b)) := by show _ = _; simp only [Qn.o, hA, Km]
 have HP := Za Zc
 have HT := Za hv
 clear Zc hv hA Qn
 go_wp2_with fail
 refine (V6 pb tb cap b (d + 1) ts [45, 62] _ (HP.o.alloc _) OK.o).mono ?_
 rintro e w2 ⟨rfl, Zb, Zc⟩
 have Zz := Za ((Zb.keep _ H.o.ltp (by have := xB HR.o; simp; omega)).trans ((xA (xB HR.o)).trans HR.o))
 have Gi := Za ((Zu.o.alloc H.o.ltp _).trans Zb)
 have Jz := Za ((HT.o.alloc _).stay Zb (by have := H.o.ltp; simp; omega))
 have HBx := Za ((Zb.keep w1.heap.size HP.o.ltp (by simp)).trans (xL w1 _))
 clear Zb
 cases hs : Zh ts b [45, 62] with
 | false =>
  rw [hs, if_neg (by simp)] at Zc;have HP2 := Za Zc
  have HE : xQ (R = .inl (D, b)) := by rw [HRA.o, if_neg (by simp [hs])]; exact rfl
  obtain ⟨⟨r0, r1, r2, r3⟩, ⟨f0, f1, f2, f3⟩, Yn⟩ := Z6 Zz.o;obtain ⟨⟨b0, b1, b2, b3⟩, _, Hj⟩ := Z6 HBx.o
  have Z3 : ¬ w1.heap.size = w.heap.size := by have := xB HR.o; omega
  clear Zc hs;go_wp2_with fail;rw [HE.o];refine r42 rfl rfl (set4 Zz.o _ _ _ _) rfl ⟨Ta Gi.o H.o.ltp (xR) _ _ _ _, Br HP2.o H.o.ltp _ _ _ _, _, rfl, ?_⟩;exact (Jz.o.set4 (by simp) _ _ _ _).lower (by simp)
 | true =>
  rw [hs, if_pos rfl] at Zc;have HP2 := Za Zc
  have HRB : xQ (R = (Xl ts ts.length n (d + 1) (b + 1)).go fun r a => .inl (Yq 6 [] [] [D, r], a)) := by rw [HRA.o, if_pos hs]; exact rfl
  have HAft : xQ (∀ wa w3, wa.heap = w2.heap -> Zl pb wa w3 -> Kr w3 w1.heap.size k1 nm1 na1 nl1 nc1 ka1 kl1 kc1 /\ w3.heap[w.heap.size]? = some Xt /\ Yb (w.heap.size + 1) w3 (.agg #[.int .i64 k1, .string nm1, .slice na1 nl1 nc1, .slice ka1 kl1 kc1]) D) := by
   intro wa w3 e hs;have hl := xB HBx.o;have V0 := xB Zz.o;refine ⟨(Z6 ((hs.keep w1.heap.size HP.o.ltp (by rw [e]; exact hl)).trans (by rw [e]; exact HBx.o))).1, (hs.keep w.heap.size H.o.ltp (by rw [e]; exact V0)).trans (by rw [e]; exact Zz.o), ?_⟩
   have ht : Yb (w.heap.size + 1) wa (.agg #[.int .i64 k1, .string nm1, .slice na1 nl1 nc1, .slice ka1 kl1 kc1]) D := (by simpa using Jz.o : Yb (w.heap.size + 1) w2 _ D).keep (by rw [e]; exact xR) fun i _ _ => by rw [e]
   exact ht.stay hs (by have := H.o.ltp; omega)
  have Vx : Kr w2.drew w1.heap.size k1 nm1 na1 nl1 nc1 ka1 kl1 kc1 := (Z6 HBx.o).1
  have HC : xQ (Calls prog 21 #[pP pb] w2.drew fun e w3 => (∃ chain, e = .panicked chain /\ Z7 pb tb cap ts (d + 1) w Yb R e w3) ∨
    ∃ D2 b2 k4 nm4 na4 nl4 nc4 ka4 kl4 kc4, e = .returned (.agg #[.int .i64 k4, .string nm4, .slice na4 nl4 nc4, .slice ka4 kl4 kc4]) /\ Kr w3 w1.heap.size k1 nm1 na1 nl1 nc1 ka1 kl1 kc1 /\ xP w3 w.heap.size /\ xQ (∀ o, Kr (w3.alloc o) w1.heap.size k1 nm1 na1 nl1 nc1 ka1 kl1 kc1) /\ xQ (∀ o x0 x1 x2 x3, Kr (((((w3.setCell ⟨w.heap.size, 0, none⟩ x0).setCell ⟨w.heap.size, 1, none⟩ x1).setCell ⟨w.heap.size, 2, none⟩ x2).setCell ⟨w.heap.size, 3, none⟩ x3).alloc o) w1.heap.size k1 nm1 na1 nl1 nc1 ka1 kl1 kc1) /\ xQ (R = .inl (Yq 6 [] [] [D, D2], b2) /\ Zl pb w w3 /\ Ps w3 pb tb cap ts b2 (d + 1) /\
     w3.heap[w.heap.size]? = some Xt /\ Yb (w.heap.size + 1) w3 (.agg #[.int .i64 k1, .string nm1, .slice na1 nl1 nc1, .slice ka1 kl1 kc1]) D /\ Yb (w.heap.size + 1) w3 (.agg #[.int .i64 k4, .string nm4, .slice na4 nl4 nc4, .slice ka4 kl4 kc4]) D2)) := by
   refine (HI.o (b + 1) w2.drew HP2.o.drew).mono ?_;rintro e w3 ⟨Zb, Zg⟩;have Jj := Gi.o.drew.trans Zb;obtain ⟨g1, g2, g3⟩ := HAft.o w2.drew w3 (Eq.refl w2.heap) Zb;rcases hk : Xl ts ts.length n (d + 1) (b + 1) with ⟨D2, b2⟩ | ⟨er, li, co⟩
   ·rw [hk] at Zg
    obtain ⟨Zc, v, rfl, hv⟩ := Zg;obtain ⟨k4, nm4, na4, nl4, nc4, ka4, kl4, kc4, rfl⟩ := hv.cells;exact .inr ⟨D2, b2, _, _, _, _, _, _, _, _, rfl, g1, zeroT g2, (fun o => g1.alloc (xT (xB HBx.o) Zb.size) o), (fun o x0 x1 x2 x3 => (g1.set4 (by have := xB HR.o; omega) x0 x1 x2 x3).alloc (by rw [Mg]; exact xT (xB HBx.o) Zb.size) o), by rw [HRB.o, hk]; rfl, Jj, Zc, g2, g3, hv.lower (xB Zz.o)⟩
   ·rw [hk] at Zg
    subst Zg;exact .inl ⟨_, rfl, Jj, by rw [HRB.o, hk]; rfl⟩
  clear Zc hs;unfold Kr at Vx
  have Z3 : ¬ w1.heap.size = w.heap.size := by have := xB HR.o; omega
  have hne' : ¬ w.heap.size = w1.heap.size := by have := xB HR.o; omega
  go_wp2_with fail
  go_region_held (fun W => W.cell? ⟨w1.heap.size, 0, none⟩ = some (.int .i64 k1) /\ W.cell? ⟨w1.heap.size, 1, none⟩ = some (.string nm1) /\ W.cell? ⟨w1.heap.size, 2, none⟩ = some (.slice na1 nl1 nc1) /\ W.cell? ⟨w1.heap.size, 3, none⟩ = some (.slice ka1 kl1 kc1)) (first | with_reducible assumption | with_reducible exact Wt.o _ | with_reducible exact Xp.o _ _ _ _ _) (first
   | (go_at_call 21; refine HC.o.mono ?_; rintro e w3 (⟨ch, rfl, hf⟩ | ⟨D2, b2, k4, nm4, na4, nl4, nc4, ka4, kl4, kc4, rfl, t5, t6, Wt, Xp, HX⟩); exact ⟨rfl, hf⟩; unfold Kr at t5; obtain ⟨⟨r0, r1, r2, r3⟩, ⟨f0, f1, f2, f3⟩, hl4⟩ := t6))
  all_goals
   go_wp2_with fail;obtain ⟨e1, e2, e3, e4, e5, e6⟩ := HX.o;rw [e1];have Zo : w.heap.size < w3.heap.size := xB e4;refine r42 rfl rfl ((xA (by rw [Mg]; exact Zo)).trans (set4 e4 _ _ _ _)) rfl ⟨(Ta e2 H.o.ltp (xR) _ _ _ _).alloc H.o.ltp _, (Br e3 H.o.ltp _ _ _ _).alloc _, _, rfl, ?_⟩;have hf := rJ (c1 := [.int .i64 k1, .string nm1, .slice na1 nl1 nc1, .slice ka1 kl1 kc1]) (c2 := [.int .i64 k4, .string nm4, .slice na4 nl4 nc4, .slice ka4 kl4 kc4]) (e5.set4 (b := w.heap.size) (xU _) (.int .i64 6) (.string ⟨#[]⟩) (.slice none 0 0) (.slice (some ⟨w3.heap.size, 0, none⟩) 2 2)) (e6.set4 (xU _) _ _ _ _) rfl rfl (by rw [Mg]; exact Zo)
   rw [Mg] at hf;exact hf.lower (Nat.le_succ _)
theorem eH (pb tb cap a d g : Nat) (ts : List Tok) (r : Pr Ty) (hd : d < 100) (hg : ∀ w, Ps w pb tb cap ts a (d + 1) -> Calls prog g #[pP pb] w (Z7 pb tb cap ts (d + 1) w Yb r)) (Vv : Mx g pb)
  (w : World) (h : Ps w pb tb cap ts a d) :
  Calls prog 46 #[pP pb, .func (.func g) #[] #[]] w (Z7 pb tb cap ts d w Yb r) := by
 have H := Za h
 have HG := Za hg
 have hp := h.ltp
 obtain ⟨c0, c1, c2⟩ := h.cells
 have z2 := h.fz 2
 have Tr : ((d : Int) == 100) = false := by simp; omega
 clear h hg
 go_enter func46, ntmps46
 go_wp2_with fail
 rw [show ((d : Int) + 1) = ((d + 1 : Nat) : Int) by omega]
 refine (HG.o _ ((H.o.setDeep (d + 1)).alloc _)).mono ?_
 rintro e w1 ⟨Zb, Zg⟩
 have Zu : xQ (Zl pb w w1) := (((Zl.refl pb w).set 2 _).alloc hp _).trans Zb
 have HR := Za ((Zb.keep w.heap.size hp (by simp [World.setCell])).trans (vL w _ _ _))
 have HLo : xQ (∀ x, Z7 pb tb cap ts (d + 1) ((w.setCell ⟨pb, 2, none⟩ (.int .i64 ((d + 1 : Nat) : Int))).alloc Xt) Yb (.inl x) e w1 -> Ps w1 pb tb cap ts x.2 (d + 1) /\ ∃ v, e = .returned v /\ Yb (w.heap.size + 1) w1 v x.1) := by
  rintro ⟨x, b⟩ ⟨_, h1, v, h2, h3⟩;refine ⟨h1, v, h2, ?_⟩
  have : ((w.setCell ⟨pb, 2, none⟩ (.int .i64 ((d + 1 : Nat) : Int))).alloc Xt).heap.size = w.heap.size + 1 := by simp [World.setCell]
  rw [this] at h3;exact h3
 have K0 : xQ (Z7 pb tb cap ts (d + 1) ((w.setCell ⟨pb, 2, none⟩ (.int .i64 ((d + 1 : Nat) : Int))).alloc Xt) Yb r e w1) := ⟨Zb, Zg⟩
 clear Zb Zg
 rcases r with ⟨D, b⟩ | ⟨er, li, co⟩
 case inr =>
  obtain ⟨_, rfl⟩ := K0.o;go_wp2_with fail;exact ⟨rfl, Zu.o, rfl⟩
 obtain ⟨Zc, v, rfl, hv⟩ := HLo.o _ K0.o
 obtain ⟨k1, nm1, na1, nl1, nc1, ka1, kl1, kc1, rfl⟩ := hv.cells
 have HP := Za Zc
 have HT := Za hv
 clear Zc hv K0 HLo c0 c1 c2 z2
 obtain ⟨c0, c1, c2⟩ := HP.o.cells
 have z2 := HP.o.fz 2
 have Qi := HP.o.ltp
 obtain ⟨⟨r0, r1, r2, r3⟩, ⟨f0, f1, f2, f3⟩, Yn⟩ := Z6 HR.o
 have hpw : ¬ pb = w.heap.size := by omega
 have hpw' : ¬ w.heap.size = pb := by omega
 have Z3 : ¬ w1.heap.size = w.heap.size := by omega
 have hne' : ¬ w1.heap.size = pb := by omega
 go_wp2_with fail
 refine r42 rfl rfl ((xA (by rw [Mg, Ye]; exact Yn)).trans (set4 ((xH hpw').trans HR.o) _ _ _ _)) rfl ⟨(Ta (Zu.o.set 2 _) hp (xR) _ _ _ _).alloc hp _, (Br (HP.o.setDeep d) hp _ _ _ _).alloc _, _, rfl, ?_⟩
 exact (((HT.o.set1 (by omega) _ _).set4 (xU _) _ _ _ _).alloc _).lower (Nat.le_succ _)
theorem eI (pb tb cap a g : Nat) (ts : List Tok) (w : World) (h : Ps w pb tb cap ts a 100) :
  Calls prog 46 #[pP pb, .func (.func g) #[] #[]] w (Z7 pb tb cap ts 100 w Yb (Wa ts 6 a)) := by
 have H := Za h
 have hp := h.ltp
 obtain ⟨c0, c1, c2⟩ := h.cells
 clear h
 go_enter func46, ntmps46
 go_wp2_with fail
 refine (Az pb tb cap a 100 ts _ (H.o.alloc _) 6).mono ?_
 rintro e w2 ⟨rfl, Z0⟩
 have Yx := Za (Zx (Zq _ _) Z0)
 clear Z0
 go_wp2_with fail
 exact ⟨rfl, Zl.of hp Yx.o, rfl⟩
theorem nD (pb : Nat) : Mx 47 pb := fun w => Bi func47 (by kernel_rfl) (by kernel_rfl) _ w
theorem vF (pb tb cap d : Nat) (ts : List Tok) (r : Pr Ty) (w : World) (hw : ∀ w1, Below w.heap.size w w1 -> Calls prog 46 #[pP pb, .func (.func 47) #[] #[]] w1 (Z7 pb tb cap ts d w1 Yb r)) (hp : pb < w.heap.size) :
  Calls prog 21 #[pP pb] w (Z7 pb tb cap ts d w Yb r) := by
 have HW := Za hw
 clear hw
 go_enter func21, ntmps21
 go_wp2_with fail
 refine (HW.o _ (Zq _ _)).mono ?_
 rintro e w1 ⟨Zb, Zg⟩
 have Zu := Za ((Zl.of hp (Zq _ _)).trans Zb)
 have HR := Za ((Zb.keep _ hp (by simp)).trans (xL w _))
 clear Zb
 rcases r with ⟨D, b⟩ | ⟨er, li, co⟩
 case inr =>
  subst Zg;go_wp2_with fail;exact ⟨rfl, Zu.o, rfl⟩
 obtain ⟨Zc, v, rfl, hv⟩ := Zg
 obtain ⟨k1, nm1, na1, nl1, nc1, ka1, kl1, kc1, rfl⟩ := hv.cells
 have HP := Za Zc
 have HT := Za hv
 obtain ⟨⟨r0, r1, r2, r3⟩, ⟨f0, f1, f2, f3⟩, Yn⟩ := Z6 HR.o
 clear Zc hv
 go_wp2_with fail
 refine r42 rfl rfl (set4 HR.o _ _ _ _) rfl ⟨Ta Zu.o hp (xR) _ _ _ _, Br HP.o hp _ _ _ _, _, rfl, ?_⟩
 exact (HT.o.set4 (by simp) _ _ _ _).lower (by simp)
theorem zD (pb tb cap : Nat) (ts : List Tok) (ok : Yh ts) : ∀ (n d a : Nat) (w : World), d + n = 101 -> d <= 100 -> Ps w pb tb cap ts a d ->
  Calls prog 21 #[pP pb] w (Z7 pb tb cap ts d w Yb (Xl ts ts.length n d a))
 | 0, d, _, _, h1, h2, _ => absurd h1 (by omega)
 | n + 1, d, a, w, h1, h2, h => by
  rw [Xl];by_cases hd : 100 <= d
  ·obtain rfl : d = 100 := by omega
   rw [if_pos hd];exact vF pb tb cap 100 ts _ w (fun w1 hb => eI pb tb cap a _ ts w1 (h.below hb)) h.ltp
  ·rw [if_neg hd]
   exact vF pb tb cap d ts _ w (fun w1 hb => eH pb tb cap a d _ ts _ (by omega) (fun w2 h2 => nC pb tb cap d n ts (fun a w h => zD pb tb cap ts ok n (d + 1) a w (by omega) (by omega) h) a w2 h2 ok) (nD pb) w1 (h.below hb)) h.ltp
end Go.Proofs.YtfoejkhfdiodhaaGreatDoor
