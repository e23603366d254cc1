/- Part. -/
import Derived.Test.YtgblonhfidoleaaDoorPart41
set_option maxRecDepth 100000
set_option maxHeartbeats 4000000
/- What was read, as the later turns see it; the second turn's state. -/
namespace Go.Proofs.YtgblonhfidoleaaDoor
open Go.Proofs.Tryd
open Go.RowKit Go.Maps
theorem rowQ_own {α : Type} {rep : Nat -> World -> List Value -> α -> Prop} {k lo et n cap : Nat} {w : World} {a : Option Addr} {cs : List (List Value)} {xs : List α} (ho : w.ownsRow lo et k (.slice a n cap) n cs.flatten) (hn : n = xs.length) (hl : cs.length = xs.length) (he : ∀ c ∈ cs, c.length = k) (hr : ∀ i (h1 : i < cs.length) (h2 : i < xs.length), rep lo w cs[i] xs[i]) : RowQ rep k lo w a xs := by
  have ho' := ho
  rcases ho.2 with ⟨_, e⟩ | ⟨g, cap', cur, e, hg, hh, _⟩
  · exact .inl (List.length_eq_zero_iff.1 (by omega))
  · injection e with e _ _
    subst e
    refine .inr ⟨g, rfl, hg, ⟨cur, et, hh⟩, fun i hi => ?_⟩
    have hi' : i < cs.length := by omega
    refine ⟨cs[i], he _ (List.getElem_mem hi'), fun j hj => ?_, hr i hi' hi⟩
    have hlt : i * k + j < n * k := by
      have h1 : (i + 1) * k <= n * k := Nat.mul_le_mul_right k (by omega)
      rw [Nat.add_mul] at h1
      omega
    rw [ho'.cellAt (i * k + j) hlt, cells_flatK cs he i hi' j hj]
def StrS (_lo : Nat) (_w : World) (c : List Value) (s : Bs) : Prop := c = [strV' s]
def FstS (lo : Nat) (w : World) (c : List Value) (o : Mo) : Prop := ∃ b, c = [.map (some b)] /\ lo <= b /\ NumAt w b (firsts o)
theorem strS_k : RepK StrS where
  keep := fun h _ _ => h
  lower := fun h _ => h
theorem fstS_k : RepK FstS where
  keep := fun h _ hk => by
    obtain ⟨b, e, hl, hn⟩ := h
    exact ⟨b, e, hl, hn.block (hk b hl hn.lt)⟩
  lower := fun h hl => by
    obtain ⟨b, e, h1, hn⟩ := h
    exact ⟨b, e, Nat.le_trans hl h1, hn⟩
/-- The rows of what was read. -/
structure Rw where
  aN : Option Addr
  cN : Nat
  aM : Option Addr
  cM : Nat
  aF : Option Addr
  cF : Nat
structure Vw (lo kb nb : Nat) (w : World) (L : L1) (r : Rw) : Prop where
  num : NumAt w nb L.num
  rN : RowQ StrS 1 lo w r.aN L.names
  rM : RowQ ModS 2 lo w r.aM L.mods
  rF : RowQ FstS 1 lo w r.aF L.mods
  good : ∀ o ∈ L.mods, GoodM o
  vals : ∀ p ∈ L.num, p.2 < L.mods.length
  ml : L.mods.length <= 16
  lt1 : nb < kb
  lt2 : kb < lo
  lt3 : lo <= w.heap.size
section
variable {lo kb nb : Nat} {w w' : World} {L : L1} {r : Rw}
theorem Vw.stay (h : Vw lo kb nb w L r) (hs : Stay kb w w') : Vw lo kb nb w' L r where
  num := h.num.block (hs.below.block nb h.lt1)
  rN := rowQ_keep strS_k h.rN hs.size fun b hb hl => hs.keep b (by have := h.lt2; omega) hl
  rM := rowQ_keep modS_k h.rM hs.size fun b hb hl => hs.keep b (by have := h.lt2; omega) hl
  rF := rowQ_keep fstS_k h.rF hs.size fun b hb hl => hs.keep b (by have := h.lt2; omega) hl
  good := h.good
  vals := h.vals
  ml := h.ml
  lt1 := h.lt1
  lt2 := h.lt2
  lt3 := Nat.le_trans h.lt3 hs.size
theorem look_mem : ∀ {l : Num} {s : Bs} {i : Nat}, look l s = some i -> ∃ p ∈ l, p.2 = i
  | [], _, _, h => by cases h
  | p :: l, s, i, h => by
    unfold look at h
    split at h
    · injection h with h
      exact ⟨p, by simp, h⟩
    · obtain ⟨q, hq, e⟩ := look_mem h
      exact ⟨q, by simp [hq], e⟩
theorem firstV_lt : ∀ (l : List Dec) (i : Nat) (a : Num) (n : Nat), (∀ p ∈ a, p.2 < n) -> i + l.length <= n -> ∀ p ∈ firstV i l a, p.2 < n
  | [], _, _, _, h, _ => h
  | d :: l, i, a, n, h, hn => by
    refine firstV_lt l (i + 1) _ n ?_ (by simp at hn; omega)
    simp at hn
    split
    · exact h
    · intro p hp
      rcases List.mem_cons.1 hp with rfl | hp
      · show i < n
        omega
      · exact h p hp
theorem first_lt {o : Mo} {s : Bs} {j : Nat} (h : look (firsts o) s = some j) : j < o.ds.length := by
  obtain ⟨p, hp, e⟩ := look_mem h
  have := firstV_lt o.ds 0 [] o.ds.length (fun _ h => nomatch h) (by omega) p hp
  omega
theorem Vw.num_lt (h : Vw lo kb nb w L r) {s : Bs} {f : Nat} (hf : look L.num s = some f) : f < L.mods.length := by
  obtain ⟨p, hp, e⟩ := look_mem hf
  have := h.vals p hp
  omega
/-- The cells of a row's i-th element. -/
theorem rowQ_at {α : Type} {rep : Nat -> World -> List Value -> α -> Prop} {k : Nat} {a : Option Addr} {xs : List α} (h : RowQ rep k lo w a xs) {i : Nat} (hi : i < xs.length) : ∃ g, a = some ⟨g, 0, none⟩ /\ lo <= g /\ g < w.heap.size /\ ∃ c : List Value, c.length = k /\ (∀ j, j < k -> w.cell? ⟨g, i * k + j, none⟩ = c[j]?) /\ rep lo w c xs[i] := by
  rcases h with h | ⟨g, e, hg, hc, hr⟩
  · rw [h] at hi; cases hi
  · exact ⟨g, e, hg, clean_lt hc, hr i hi⟩
theorem Vw.mod (h : Vw lo kb nb w L r) {i : Nat} (hi : i < L.mods.length) : ∃ g x, r.aM = some ⟨g, 0, none⟩ /\ lo <= g /\ g < w.heap.size /\ w.cell? ⟨g, i * 2, none⟩ = some (.slice x.ia x.il x.ic) /\ w.cell? ⟨g, i * 2 + 1, none⟩ = some (.slice x.da x.dl x.dc) /\ MoV lo w x L.mods[i] := by
  obtain ⟨g, e, h1, h2, c, _, h4, x, rfl, h5⟩ := rowQ_at h.rM hi
  exact ⟨g, x, e, h1, h2, h4 0 (by omega), h4 1 (by omega), h5⟩
theorem Vw.fst (h : Vw lo kb nb w L r) {i : Nat} (hi : i < L.mods.length) : ∃ g b, r.aF = some ⟨g, 0, none⟩ /\ lo <= g /\ g < w.heap.size /\ w.cell? ⟨g, i, none⟩ = some (.map (some b)) /\ lo <= b /\ NumAt w b (firsts L.mods[i]) := by
  obtain ⟨g, e, h1, h2, c, _, h4, b, rfl, h5, h6⟩ := rowQ_at h.rF hi
  have := h4 0 (by omega)
  rw [Nat.mul_one, Nat.add_zero] at this
  exact ⟨g, b, e, h1, h2, this, h5, h6⟩
end
abbrev vwO (nb : Nat) (L : L1) (r : Rw) (vS : Value) (c3 c4 c5 : Value) (vD : Value) : Obj := lkO (.slice r.aN L.names.length r.cN) (.slice r.aM L.mods.length r.cM) vS c3 c4 c5 (.map (some nb)) (.slice r.aF L.mods.length r.cF) vD
/-- The second turn, while one module's scope is made; w0: where the turn began. -/
structure Q2 (kb nb : Nat) (L : L1) (r : Rw) (vS : Value) (sb mb slo : Nat) (w0 w : World) (vD vE : Value) (s : Sc) : Prop where
  st : Stay kb w0 w
  box : w.heap[kb]? = some (vwO nb L r vS (.string ⟨#[]⟩) (.int .i64 0) (.int .i64 0) vD)
  rD : w.ownsRow w0.heap.size 37 4 vD s.2.length (s.2.flatMap dgC)
  sc : ScAt w sb mb slo vE s.1
  lt1 : kb < w0.heap.size
  lt2 : w0.heap.size <= sb
  lt3 : w0.heap.size <= mb
  lt4 : sb < slo
  lt5 : mb < slo
  lt6 : slo <= w.heap.size
  nil : s.2 = [] -> vD = .slice none 0 0
abbrev S2 (kb sb mb : Nat) (vD vE : Value) (b : Nat) : Prop := b = kb ∨ vD.ownBlock = some b ∨ scS sb mb vE b
structure R2 (kb sb mb : Nat) (w : World) (vD vE : Value) (w' : World) (vD' vE' : Value) : Prop where
  chg : Chg kb (S2 kb sb mb vD vE) w w'
  mD : Moved w vD vD'
  mE : Moved w vE vE'
theorem Moved.refl (w : World) (v : Value) : Moved w v v := .inl rfl
theorem Moved.trans {w w1 : World} {v v1 v2 : Value} (h : Moved w v v1) (k : Moved w1 v1 v2) (hs : w.heap.size <= w1.heap.size) : Moved w v v2 := by
  rcases k with e | ⟨q, e, hq⟩
  · rcases h with e' | ⟨q, e', hq⟩
    · exact .inl (e.trans e')
    · exact .inr ⟨q, e.trans e', hq⟩
  · exact .inr ⟨q, e, by omega⟩
section
variable {kb nb sb mb slo : Nat} {L : L1} {r : Rw} {vS vD vE vD1 vE1 vD2 vE2 : Value} {w0 w w1 w2 : World} {s : Sc}
theorem R2.refl (kb sb mb : Nat) (w : World) (vD vE : Value) : R2 kb sb mb w vD vE w vD vE := ⟨Chg.refl _ _ _, .inl rfl, .inl rfl⟩
theorem R2.trans (h : R2 kb sb mb w vD vE w1 vD1 vE1) (k : R2 kb sb mb w1 vD1 vE1 w2 vD2 vE2) : R2 kb sb mb w vD vE w2 vD2 vE2 where
  chg := h.chg.trans k.chg fun b hb e => by
    rcases e with e | e | e | e | e
    · exact .inl e
    · exact (h.mD.own e).elim (fun e => .inr (.inl e)) fun e => by omega
    · exact .inr (.inr (.inl e))
    · exact .inr (.inr (.inr (.inl e)))
    · exact (h.mE.own e).elim (fun e => .inr (.inr (.inr (.inr e)))) fun e => by omega
  mD := h.mD.trans k.mD h.chg.size
  mE := h.mE.trans k.mE h.chg.size
theorem R2.below (hk : kb <= w.heap.size) (hb : Below w.heap.size w w1) : R2 kb sb mb w vD vE w1 vD vE := ⟨Chg.of hb hk, .inl rfl, .inl rfl⟩
theorem Q2.below (h : Q2 kb nb L r vS sb mb slo w0 w vD vE s) (hb : Below w.heap.size w w1) : Q2 kb nb L r vS sb mb slo w0 w1 vD vE s := by
  have hc : Chg 0 (fun _ => False) w w1 := Chg.of hb (Nat.zero_le _)
  exact ⟨h.st.trans (Stay.of (by have := h.lt1; have := h.st.size; omega) hb), hc.obj h.box id, hc.row h.rD fun _ _ => id, h.sc.chg hc fun _ e => e.elim, h.lt1, h.lt2, h.lt3, h.lt4, h.lt5, Nat.le_trans h.lt6 hb.size, h.nil⟩
theorem Q2.drew (h : Q2 kb nb L r vS sb mb slo w0 w vD vE s) : Q2 kb nb L r vS sb mb slo w0 w.drew vD vE s := h.below (Below.refl _ w).drew
theorem Q2.alloc (h : Q2 kb nb L r vS sb mb slo w0 w vD vE s) (o : Obj) : Q2 kb nb L r vS sb mb slo w0 (w.alloc o) vD vE s := h.below (bl_alloc w o)
/-- Whatever turns from w0 on. -/
theorem stay_chg {S : Nat -> Prop} (h : Stay kb w0 w) (hc : Chg kb S w w1) (hS : ∀ b, S b -> b = kb ∨ w0.heap.size <= b) : Stay kb w0 w1 :=
  ⟨h.below.trans hc.below, fun b hb hl => (hc.keep b (by have := h.size; omega) fun e => by rcases hS b e with e | e <;> omega).trans (h.keep b hb hl)⟩
theorem tell2 (h : Q2 kb nb L r vS sb mb slo w0 w vD vE s) (d : Dg) (hn : s.2.length <= 1000000000000) :
    Calls prog 16 #[.pointer (some ⟨kb, 0, none⟩), .int .i64 d.m, .int .i64 d.li, .int .i64 d.co, .int .i64 d.er] w fun e w' => e = .returned (.tuple #[]) /\ ∃ vD', Q2 kb nb L r vS sb mb slo w0 w' vD' vE (s.1, s.2 ++ [d]) /\ R2 kb sb mb w vD vE w' vD' vE :=
  (tell_c kb w0.heap.size s.2.length d _ w _ _ _ _ _ _ _ _ vD h.box h.rD h.lt1 h.st.size hn).mono fun e w' ⟨h1, vD', h2, h3, h4, h5⟩ => by
    have hr : R2 kb sb mb w vD vE w' vD' vE := ⟨h5.mono fun b _ e => e.elim .inl fun e => .inr (.inl e), h4, .inl rfl⟩
    have hk1 := h.lt1
    have hk2 := h.lt2
    have hk3 := h.lt3
    have hk4 := h.lt4
    have hk5 := h.lt5
    refine ⟨h1, vD', ⟨stay_chg h.st h5 fun b e => e.imp_right fun e => (h.rD.lt b e).1, h2, ?_, h.sc.chg h5 ?_, h.lt1, h.lt2, h.lt3, h.lt4, h.lt5, Nat.le_trans h.lt6 h5.size, fun e => absurd e (by simp)⟩, hr⟩
    · show w'.ownsRow _ _ _ _ (s.2 ++ [d]).length ((s.2 ++ [d]).flatMap dgC)
      rw [List.length_append, List.flatMap_append]
      simpa using h3
    · intro b e e'
      rcases e with e | e
      · rcases e' with e' | e' | e'
        · omega
        · omega
        · have := (h.sc.row.lt b e').1
          omega
      · rcases e' with e' | e' | e'
        · obtain ⟨c, hc⟩ := row_obj h.rD e
          rw [e', h.sc.box] at hc
          injection hc with hc
          injection hc with _ hc
          cases hc
        · obtain ⟨c, hc⟩ := row_obj h.rD e
          obtain ⟨x, ck, hx⟩ := h.sc.set.obj
          rw [e', hx] at hc
          cases hc
        · exact rows_apart h.rD h.sc.row (by decide) b e e'
theorem add2 (h : Q2 kb nb L r vS sb mb slo w0 w vD vE s) (e : En) (he : e.nm.length <= 1000000000000) (hn : s.1.length <= 100000000000) :
    Calls prog 19 #[.pointer (some ⟨sb, 0, none⟩), .agg #[.string ⟨e.nm.toArray⟩, .int .i64 e.m, .int .i64 e.d]] w fun x w' => x = .returned (.bool (!inE s.1 e.nm)) /\ ∃ vE', Q2 kb nb L r vS sb mb slo w0 w' vD vE' (if inE s.1 e.nm then s.1 else s.1 ++ [e], s.2) /\ R2 kb sb mb w vD vE w' vD vE' :=
  (add_c w0.heap.size sb mb slo vE s.1 e w h.sc h.lt2 h.lt3 h.lt4 h.lt5 h.lt6 he hn).mono fun x w' ⟨h1, vE', h2, h3, h4⟩ => by
    have hk1 := h.lt1
    have hk2 := h.lt2
    have hk3 := h.lt3
    have hk4 := h.lt4
    have hk5 := h.lt5
    have hS : ∀ b, scS sb mb vE b -> w0.heap.size <= b := fun b e => by
      rcases e with e | e | e
      · omega
      · omega
      · have := (h.sc.row.lt b e).1
        omega
    have h4' : Chg kb (scS sb mb vE) w w' := h4.lower (by omega)
    refine ⟨h1, vE', ⟨stay_chg h.st h4' fun b e => .inr (hS b e), h4.obj h.box fun e => by have := hS _ e; omega, h4.row h.rD ?_, h2, h.lt1, h.lt2, h.lt3, h.lt4, h.lt5, Nat.le_trans h.lt6 h4.size, h.nil⟩, ⟨h4'.mono fun b _ e => .inr (.inr e), .inl rfl, h3⟩⟩
    intro b e e'
    rcases e' with e' | e' | e'
    · obtain ⟨c, hc⟩ := row_obj h.rD e
      rw [e', h.sc.box] at hc
      injection hc with hc
      injection hc with _ hc
      cases hc
    · obtain ⟨c, hc⟩ := row_obj h.rD e
      obtain ⟨x, ck, hx⟩ := h.sc.set.obj
      rw [e', hx] at hc
      cases hc
    · exact rows_apart h.rD h.sc.row (by decide) b e e'
end
end Go.Proofs.YtgblonhfidoleaaDoor
/- One import is brought into scope. -/
namespace Go.Proofs.YtgblonhfidoleaaDoor
open Go.Proofs.Tryd
open Go.RowKit Go.Maps
abbrev impO' (I : Imp) (na : Option Addr) (nc : Nat) : Obj := .cells #[.string ⟨I.fr.toArray⟩, .slice na I.ns.length nc, .int .i64 I.li, .int .i64 I.co] 68
theorem namesV_snoc (o : Mo) (f m li co : Nat) (n : Bs) : ∀ (l : List Bs) (s : Sc), namesV o f m li co (l ++ [n]) s = nameStep o f m li co n (namesV o f m li co l s)
  | [], _ => rfl
  | _ :: l, _ => namesV_snoc o f m li co n l _
theorem nameStep_len (o : Mo) (f m li co : Nat) (n : Bs) (s : Sc) : (nameStep o f m li co n s).1.length <= s.1.length + 1 /\ (nameStep o f m li co n s).2.length <= s.2.length + 1 := by
  unfold nameStep
  split
  · refine ⟨?_, ?_⟩ <;> simp
  · split
    · refine ⟨?_, ?_⟩ <;> simp
    · split
      · refine ⟨?_, ?_⟩ <;> simp
      · refine ⟨?_, ?_⟩ <;> simp
theorem namesV_len (o : Mo) (f m li co : Nat) : ∀ (l : List Bs) (s : Sc), (namesV o f m li co l s).1.length <= s.1.length + l.length /\ (namesV o f m li co l s).2.length <= s.2.length + l.length
  | [], _ => ⟨Nat.le_refl _, Nat.le_refl _⟩
  | n :: l, s => by
    have h1 := namesV_len o f m li co l (nameStep o f m li co n s)
    have h2 := nameStep_len o f m li co n s
    show (namesV o f m li co l _).1.length <= _ /\ _
    simp only [List.length_cons, namesV]
    omega
/-- What bringing into scope leaves. -/
def ScopeP (kb nb : Nat) (L : L1) (r : Rw) (vS : Value) (sb mb slo : Nat) (w0 w : World) (vD vE : Value) (s : Sc) (e : Ending) (w' : World) : Prop := e = .returned (.tuple #[]) /\ ∃ vD' vE', Q2 kb nb L r vS sb mb slo w0 w' vD' vE' s /\ R2 kb sb mb w vD vE w' vD' vE'
theorem q2_cells {kb nb sb mb slo : Nat} {L : L1} {r : Rw} {vS vD vE : Value} {w0 W : World} {s : Sc} (h : Q2 kb nb L r vS sb mb slo w0 W vD vE s) : (W.cell? ⟨kb, 1, none⟩ = some (.slice r.aM L.mods.length r.cM) /\ W.cell? ⟨kb, 6, none⟩ = some (.map (some nb)) /\ W.cell? ⟨kb, 7, none⟩ = some (.slice r.aF L.mods.length r.cF)) /\ kb < W.heap.size := by
  obtain ⟨⟨p0, p1, p2, p3, p4, p5, p6, p7, p8⟩, hf, hl⟩ := box9 h.box
  exact ⟨⟨p1, p6, p7⟩, hl⟩
theorem q2_new {kb nb sb mb slo b : Nat} {L : L1} {r : Rw} {vS vD vE : Value} {w0 W : World} {s : Sc} (h : Q2 kb nb L r vS sb mb slo w0 W vD vE s) (hb : W.heap.size <= b) : ¬ S2 kb sb mb vD vE b := by
  have h1 := (q2_cells h).2
  have h2 := h.lt4
  have h3 := h.lt5
  have h4 := h.lt6
  rintro (e | e | e | e | e)
  · omega
  · have := (h.rD.lt b e).2
    omega
  · omega
  · omega
  · have := (h.sc.row.lt b e).2
    omega
theorem stay_cell {kb b o : Nat} {w0 W : World} (h : Stay kb w0 W) (hb : kb < b) (hl : b < w0.heap.size) : W.cell? ⟨b, o, none⟩ = w0.cell? ⟨b, o, none⟩ := World.cell?_of_block (h.keep b hb hl)
theorem scopeImport_c (lo kb nb m : Nat) (L : L1) (r : Rw) (vS : Value) (sb mb slo : Nat) (w0 w : World) (vD vE : Value) (s : Sc) (I : Imp) (na : Option Addr) (nc nlo : Nat) (hV : Vw lo kb nb w0 L r) (hQ : Q2 kb nb L r vS sb mb slo w0 w vD vE s) (hI : GoodI I) (hnl : I.ns.length <= 8193) (hnf : NamesF w0 nlo na I.ns) (hnlo : kb < nlo)
    (hn1 : s.1.length <= 10000000000) (hn2 : s.2.length <= 10000000000) :
    Calls prog 18 #[.pointer (some ⟨kb, 0, none⟩), .pointer (some ⟨sb, 0, none⟩), .int .i64 m, .agg #[.string ⟨I.fr.toArray⟩, .slice na I.ns.length nc, .int .i64 I.li, .int .i64 I.co]] w (ScopeP kb nb L r vS sb mb slo w0 w vD vE (impV L.num L.mods m I s)) := by
  have HV := hideP hV
  have HQ1 := hideP (hQ.alloc (impO' I na nc))
  have HI := hideP hI
  have HNF := hideP hnf
  have hkw0 := hQ.lt1
  have HR1 : Hid (R2 kb sb mb w vD vE (w.alloc (impO' I na nc)) vD vE) := R2.below (by have := (q2_cells hQ).2; omega) (bl_alloc w _)
  have hS : (⟨I.fr.toArray⟩ : ByteArray).size <= maxLen := by have := hI.1; simp [ByteArray.size]; unfold maxLen; omega
  have hib : (w.alloc (impO' I na nc)).heap[w.heap.size]? = some (impO' I na nc) := heap_alloc_last _ _
  have HIB := hideP hib
  have hib1 := q2_new hQ (Nat.le_refl _)
  obtain ⟨R, hR⟩ : ∃ R, R = impV L.num L.mods m I s := ⟨_, rfl⟩
  rw [<- hR]
  unfold impV at hR
  have HR := hideP hR
  clear hR hV hQ hI hnf
  go_enter func18, ntmps18
  go_wp2_with fail
  have HQ2 := hideP HQ1.out.drew
  obtain ⟨⟨p1, p6, p7⟩, hkb0⟩ := q2_cells HQ2.out
  obtain ⟨⟨i0, i1, i2, i3⟩, _, hil⟩ := res_facts (show (w.alloc (impO' I na nc)).drew.heap[w.heap.size]? = some (impO' I na nc) from HIB.out)
  have HNum : Hid (∀ W, Stay kb w0 W -> NumAt W nb L.num) := fun W h => (HV.out.stay h).num
  have hl := num_look (HNum.out _ HQ2.out.st) ⟨I.fr.toArray⟩ hS
  rw [show (⟨I.fr.toArray⟩ : ByteArray).data.toList = I.fr by simp] at hl
  cases hk : look L.num I.fr with
  | none =>
    rw [hk] at HR hl
    apply once0 (w.alloc (impO' I na nc)).drew
    · go_region
      all_goals exact ⟨rfl, rfl⟩
    · clear hl hk
      go_wp2_with fail
      refine (tell2 HQ2.out ⟨m, I.li, I.co, 11⟩ (by omega)).mono ?_
      rintro e w2 ⟨rfl, vD', h2, h3⟩
      have H2 := hideP h2
      have H3 := hideP h3
      clear h2 h3
      go_wp2_with fail
      refine bodyPost_ret (results_none rfl _ _ _) rfl ⟨rfl, vD', vE, ?_, (HR1.out.trans (R2.below (by have := (q2_cells HQ1.out).2; omega) (Below.refl _ _).drew)).trans H3.out⟩
      rw [HR.out]
      exact H2.out
  | some f =>
    rw [hk] at HR hl
    have hfl := HV.out.num_lt hk
    apply once0 (w.alloc (impO' I na nc)).drew
    · go_region
      all_goals exact ⟨rfl, rfl⟩
    · clear hl hk
      go_wp2_with fail
      clear p1 p6 p7
      have hmd : L.mods.getD f noMo = L.mods[f] := by rw [List.getD_eq_getElem?_getD, List.getElem?_eq_getElem hfl, Option.getD_some]
      obtain ⟨o, ho⟩ : ∃ o, o = L.mods[f] := ⟨_, rfl⟩
      obtain ⟨gF, fbk, haF, hgF1, hgF2, hcF, hfb1, hnF⟩ := HV.out.fst hfl
      obtain ⟨gM, x, haM, hgM1, hgM2, hcM0, hcM1, hMo⟩ := HV.out.mod hfl
      rw [<- ho] at hnF hMo hmd
      have HR' : Hid (R = namesV o f m I.li I.co I.ns s) := by rw [HR.out, <- hmd]; exact rfl
      have HnF := hideP hnF
      have HMo := hideP hMo
      have hvl := HV.out.lt2
      have hfbl := hnF.lt
      have HCs : Hid (∀ W, Stay kb w0 W -> W.cell? ⟨gF, f, none⟩ = some (.map (some fbk)) /\ W.cell? ⟨gM, f * 2 + 1, none⟩ = some (.slice x.da x.dl x.dc) /\ NumAt W fbk (firsts o)) := fun W h => ⟨(stay_cell h (by omega) hgF2).trans hcF, (stay_cell h (by omega) hgM2).trans hcM1, hnF.block (h.keep fbk (by omega) hfbl)⟩
      have HB1 : Hid (∀ W vD' vE', R2 kb sb mb (w.alloc (impO' I na nc)).drew vD vE W vD' vE' -> W.heap[w.heap.size]? = some (impO' I na nc)) := fun W vD' vE' h => h.chg.obj (show (w.alloc (impO' I na nc)).drew.heap[w.heap.size]? = some (impO' I na nc) from HIB.out) hib1
      have hz : ((I.ns.length : Int) <= 9223372036854775807) := by omega
      have hzm : ((L.mods.length : Int) <= 9223372036854775807) := by have := HV.out.ml; omega
      have hfl' : (f : Int) < (L.mods.length : Int) := by omega
      have HRd : Hid (R2 kb sb mb (w.alloc (impO' I na nc)) vD vE (w.alloc (impO' I na nc)).drew vD vE) := R2.below (by have := (q2_cells HQ1.out).2; omega) (Below.refl _ _).drew
      clear hmd ho hnF hMo hcF hcM0 hcM1 hib1 HR hib HIB
      generalize (w.alloc (impO' I na nc)).drew = W1 at HQ2 HB1 HRd i0 i1 i2 i3 ⊢
      go_loopw [36] (fun i wr => ∃ (k : Nat) (vD' vE' : Value), k <= I.ns.length /\ i = .int .i64 k /\ Hid (Q2 kb nb L r vS sb mb slo w0 wr vD' vE' (namesV o f m I.li I.co (I.ns.take k) s)) /\ Hid (R2 kb sb mb W1 vD vE wr vD' vE')) (fun i _ => I.ns.length - (intOf i).toNat)
      case atStart => exact ⟨0, vD, vE, by omega, rfl, HQ2.out, R2.refl _ _ _ _ _ _⟩
      case round =>
        obtain ⟨k, vD', vE', hk, rfl, HQ, HRr⟩ := hrel
        by_cases hkl : k < I.ns.length
        · have hkl' : (k : Int) < (I.ns.length : Int) := by omega
          rcases HNF.out with he | ⟨b, ob, hna, hb1, hb2, hc⟩
          · rw [he] at hkl; cases hkl
          subst hna
          have n0 : wr.cell? ⟨b, ob + k, none⟩ = some (.string ⟨I.ns[k].toArray⟩) := (stay_cell HQ.out.st (by omega) hb2).trans (hc k hkl)
          have hNl := HI.out.2.1 I.ns[k] (List.getElem_mem hkl)
          have hst := namesV_snoc o f m I.li I.co I.ns[k] (I.ns.take k) s
          rw [List.take_append_getElem hkl] at hst
          obtain ⟨N, hN⟩ : ∃ N, N = I.ns[k] := ⟨_, rfl⟩
          rw [<- hN] at n0 hNl hst
          have HSt := hideP hst
          have hln := namesV_len o f m I.li I.co (I.ns.take k) s
          rw [List.length_take] at hln
          obtain ⟨s', hs'⟩ : ∃ s', s' = namesV o f m I.li I.co (I.ns.take k) s := ⟨_, rfl⟩
          rw [<- hs'] at HQ HSt hln
          have HLn := hideP hln
          obtain ⟨⟨p1, p6, p7⟩, hkl2⟩ := q2_cells HQ.out
          rw [haM] at p1
          rw [haF] at p7
          obtain ⟨cF, cM1, hnum⟩ := HCs.out wr HQ.out.st
          have HNm := hideP hnum
          obtain ⟨⟨i0, i1, i2, i3⟩, _, hil⟩ := res_facts (HB1.out wr vD' vE' HRr.out)
          have hSN : (⟨N.toArray⟩ : ByteArray).size <= maxLen := by simp [ByteArray.size]; unfold maxLen; omega
          clear hc hst hs' hN hln hnum
          cases hlk : look (firsts o) N with
          | none =>
            have HL : Hid (look (firsts o) (⟨N.toArray⟩ : ByteArray).data.toList = none) := by show _ = _; simpa using hlk
            have HSt2 : Hid (namesV o f m I.li I.co (I.ns.take (k + 1)) s = (s'.1, s'.2 ++ [⟨m, I.li, I.co, 12⟩])) := by show _ = _; rw [HSt.out]; unfold nameStep; rw [hlk]
            clear hlk
            go_wp2_with (first
              | (at_lookup; refine wpList_num_look rfl _ _ rfl fbk (firsts o) rfl HNm.out ⟨N.toArray⟩ rfl hSN none HL.out ?_)
              | fail)
            refine (tell2 HQ.out ⟨m, I.li, I.co, 12⟩ (by have := HLn.out.2; omega)).mono ?_
            rintro e w2 ⟨rfl, vD2, h2, h3⟩
            have H2 := hideP h2
            have H3 := hideP h3
            clear h2 h3
            go_wp2_with fail
            go_roundw
            case rel => exact ⟨k + 1, vD2, vE', by omega, by go_num, by rw [HSt2.out]; exact H2.out, HRr.out.trans H3.out⟩
            case measure => simp [intOf]; omega
          | some j =>
            have HL : Hid (look (firsts o) (⟨N.toArray⟩ : ByteArray).data.toList = some j) := by show _ = _; simpa using hlk
            have hjl := first_lt hlk
            obtain ⟨_, hdl, _, hdl2, _, hrd⟩ := HMo.out
            obtain ⟨gd, hda, hgd1, hgd2, c, _, hcd, xd, hxd, _⟩ := rowQ_at hrd hjl
            subst hxd
            have hex : (o.ds.getD j noDec).ex = o.ds[j].ex := by rw [List.getD_eq_getElem?_getD, List.getElem?_eq_getElem hjl, Option.getD_some]
            have d1 : wr.cell? ⟨gd, j * 15 + 1, none⟩ = some (.bool o.ds[j].ex) := (stay_cell HQ.out.st (by omega) hgd2).trans (hcd 1 (by omega))
            rw [hda, hdl] at cM1
            have hjl' : (j : Int) < (o.ds.length : Int) := by omega
            have hdz : ((o.ds.length : Int) <= 9223372036854775807) := by omega
            cases hxe : o.ds[j].ex with
            | false =>
              rw [hxe] at d1 hex
              have HSt2 : Hid (namesV o f m I.li I.co (I.ns.take (k + 1)) s = (s'.1, s'.2 ++ [⟨m, I.li, I.co, 12⟩])) := by show _ = _; rw [HSt.out]; unfold nameStep; rw [hlk]; simp only [hex]; rfl
              clear hlk hcd hrd hxe
              go_wp2_with (first
                | (at_lookup; refine wpList_num_look rfl _ _ rfl fbk (firsts o) rfl HNm.out ⟨N.toArray⟩ rfl hSN (some j) HL.out ?_)
                | fail)
              refine (tell2 HQ.out ⟨m, I.li, I.co, 12⟩ (by have := HLn.out.2; omega)).mono ?_
              rintro e w2 ⟨rfl, vD2, h2, h3⟩
              have H2 := hideP h2
              have H3 := hideP h3
              clear h2 h3
              go_wp2_with fail
              go_roundw
              case rel => exact ⟨k + 1, vD2, vE', by omega, by go_num, by rw [HSt2.out]; exact H2.out, HRr.out.trans H3.out⟩
              case measure => simp [intOf]; omega
            | true =>
              rw [hxe] at d1 hex
              have HSt2 : Hid (namesV o f m I.li I.co (I.ns.take (k + 1)) s = if inE s'.1 N then (s'.1, s'.2 ++ [⟨m, I.li, I.co, 8⟩]) else (s'.1 ++ [⟨N, f, j⟩], s'.2)) := by show _ = _; rw [HSt.out]; unfold nameStep; rw [hlk]; simp only [hex]; rfl
              clear hlk hcd hrd hxe
              go_wp2_with (first
                | (at_lookup; refine wpList_num_look rfl _ _ rfl fbk (firsts o) rfl HNm.out ⟨N.toArray⟩ rfl hSN (some j) HL.out ?_)
                | fail)
              refine (add2 HQ.out ⟨N, f, j⟩ (by show N.length <= _; omega) (by have := HLn.out.1; omega)).mono ?_
              rintro e w2 ⟨rfl, vE2, h2, h3⟩
              cases hin : inE s'.1 N with
              | true =>
                rw [hin] at HSt2
                have H2 : Hid (Q2 kb nb L r vS sb mb slo w0 w2 vD' vE2 s') := by have h := h2; simp only [hin, if_true] at h; exact h
                have H3 := hideP h3
                clear h2 h3 hin p1 p6 p7 cF cM1 d1 n0 i0 i1 i2 i3
                obtain ⟨⟨i0, i1, i2, i3⟩, _, hil⟩ := res_facts (HB1.out w2 vD' vE2 (HRr.out.trans H3.out))
                go_wp2_with fail
                refine (tell2 H2.out ⟨m, I.li, I.co, 8⟩ (by have := HLn.out.2; omega)).mono ?_
                rintro e w3 ⟨rfl, vD2, h4, h5⟩
                have H4 := hideP h4
                have H5 := hideP h5
                clear h4 h5
                go_wp2_with fail
                go_roundw
                case rel => exact ⟨k + 1, vD2, vE2, by omega, by go_num, by rw [HSt2.out]; exact H4.out, (HRr.out.trans H3.out).trans H5.out⟩
                case measure => simp [intOf]; omega
              | false =>
                rw [hin] at HSt2
                have H2 : Hid (Q2 kb nb L r vS sb mb slo w0 w2 vD' vE2 (s'.1 ++ [⟨N, f, j⟩], s'.2)) := by have h := h2; simp only [hin] at h; exact h
                have H3 := hideP h3
                clear h2 h3 hin
                go_wp2_with fail
                go_roundw
                case rel => exact ⟨k + 1, vD', vE2, by omega, by go_num, by rw [HSt2.out]; exact H2.out, HRr.out.trans H3.out⟩
                case measure => simp [intOf]; omega
        · have hkl' : ¬ (k : Int) < (I.ns.length : Int) := by omega
          have e : I.ns.take k = I.ns := List.take_of_length_le (by omega)
          rw [e] at HQ
          go_wp2_with fail
          refine bodyPost_end (results_none rfl _ _ _) rfl ⟨rfl, vD', vE', ?_, (HR1.out.trans HRd.out).trans HRr.out⟩
          rw [HR'.out]
          exact HQ.out
end Go.Proofs.YtgblonhfidoleaaDoor
