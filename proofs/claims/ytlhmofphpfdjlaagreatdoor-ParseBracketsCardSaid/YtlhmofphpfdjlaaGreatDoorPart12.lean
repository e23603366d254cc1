/- Part. -/
import Derived.Maps.AppendAt
import Derived.Deep.LoopGhost
import Derived.Test.YtlhmofphpfdjlaaGreatDoorPart11
set_option maxRecDepth 100000
set_option maxHeartbeats 4000000
/- The reader of tokens: end, goesOn, beginsField. -/
namespace Go.Proofs.YtlhmofphpfdjlaaGreatDoor
open Go.Proofs.Tryz
open Go.RowKit
theorem end_c (pb tb cap a d : Nat) (ts : List Tok) (w : World) (h : Ps w pb tb cap ts a d) :
    Calls prog 24 #[.pointer (some ⟨pb, 0, none⟩)] w (PPost pb tb cap ts d w (fun _ _ v _ => v = .tuple #[]) (if (tkA ts a).kind == 0 then .inl ((), a) else badA ts 7 a : Pr Unit)) := by
  have H := hideP h
  have HK := hideP (peek_c pb tb cap a d ts w h)
  have HV : Hid (∀ wx (hx : Ps wx pb tb cap ts a d), Calls prog 53 #[.pointer (some ⟨pb, 0, none⟩), .int .i64 7] wx fun e w' => e = gaveWith (tkA ts a) 7 /\ Below wx.heap.size wx w') := fun wx hx => wrong_c pb tb cap a d ts wx hx 7
  clear h
  unfold badA
  obtain ⟨t, ht⟩ : ∃ t, t = tkA ts a := ⟨_, rfl⟩
  rw [<- ht] at HK HV ⊢
  clear ht
  obtain ⟨k, x, li, co⟩ := t
  have hf0 := tok_field0
  by_cases hk : k = 0
  · have n1 : (k != 0) = false := by simp [hk]
    rw [if_pos (by simp [hk])]
    clear hk
    go_enter func24, ntmps24
    go_wp2_with fail
    refine HK.out.mono ?_
    rintro e w1 ⟨rfl, hb1⟩
    have HB1 := hideP hb1
    clear hb1
    go_wp2_with fail
    go_end0
    exact ⟨Stay.of H.out.ltp HB1.out, H.out.below HB1.out, _, rfl, rfl⟩
  · have n1 : (k != 0) = true := by simp [hk]
    rw [if_neg (by simp [hk])]
    clear hk
    go_enter func24, ntmps24
    go_wp2_with fail
    refine HK.out.mono ?_
    rintro e w1 ⟨rfl, hb1⟩
    have HB1 := hideP hb1
    clear hb1
    go_wp2_with fail
    refine (HV.out _ (H.out.below HB1.out)).mono ?_
    rintro e w2 ⟨rfl, hb2⟩
    have HB2 := hideP (below_next HB1.out hb2)
    clear hb2
    go_wp2_with fail
    exact ⟨rfl, Stay.of H.out.ltp HB2.out, rfl⟩
/-- The one of two (true: the former), or what is wrong. -/
def goesA (ts : List Tok) (a : Nat) (f s : List UInt8) : Pr Bool := if seesA ts a f then .inl (true, a + 1) else (wantA ts a s).go fun _ b => .inl (false, b)
theorem goesOn_c (pb tb cap a d : Nat) (ts : List Tok) (f s : List UInt8) (w : World) (h : Ps w pb tb cap ts a d) (ok : ToksOk ts) :
    Calls prog 127 #[.pointer (some ⟨pb, 0, none⟩), .string ⟨f.toArray⟩, .string ⟨s.toArray⟩] w (PPost pb tb cap ts d w (fun _ _ v b => v = .bool b) (goesA ts a f s)) := by
  have H := hideP h
  have HT := hideP (take_c pb tb cap a d ts f w h ok)
  have HM := hideP (fun wx (hx : Ps wx pb tb cap ts a d) => must_c pb tb cap a d ts s wx hx ok)
  clear h ok
  unfold goesA
  cases hs : seesA ts a f with
  | true =>
    rw [if_pos rfl]
    rw [hs, if_pos rfl] at HT
    clear hs
    go_enter func127, ntmps127
    go_wp2_with fail
    refine HT.out.mono ?_
    rintro e w1 ⟨rfl, hst, hps⟩
    have HST := hideP hst
    have HP := hideP hps
    clear hst hps
    go_wp2_with fail
    go_ret
    exact ⟨HST.out, HP.out, _, rfl, rfl⟩
  | false =>
    rw [if_neg (by simp)]
    rw [hs, if_neg (by simp)] at HT
    clear hs
    cases hw : wantA ts a s with
    | inl x =>
      obtain ⟨_, b⟩ := x
      rw [hw] at HM
      clear hw
      go_enter func127, ntmps127
      go_wp2_with fail
      refine HT.out.mono ?_
      rintro e w1 ⟨rfl, hst, hps⟩
      have HST := hideP hst
      have HP := hideP hps
      clear hst hps
      go_wp2_with fail
      refine (HM.out _ HP.out).mono ?_
      rintro e w2 ⟨hst, hps, v, rfl, hv⟩
      have HST2 := hideP (HST.out.trans hst)
      have HP2 := hideP hps
      clear hst hps
      go_wp2_with fail
      go_ret
      exact ⟨HST2.out, HP2.out, _, rfl, rfl⟩
    | inr x =>
      obtain ⟨er, li, co⟩ := x
      rw [hw] at HM
      clear hw
      go_enter func127, ntmps127
      go_wp2_with fail
      refine HT.out.mono ?_
      rintro e w1 ⟨rfl, hst, hps⟩
      have HST := hideP hst
      have HP := hideP hps
      clear hst hps
      go_wp2_with fail
      refine (HM.out _ HP.out).mono ?_
      rintro e w2 ⟨hst, rfl⟩
      have HST2 := hideP (HST.out.trans hst)
      clear hst
      go_wp2_with fail
      exact ⟨rfl, HST2.out, rfl⟩
/-- A reader that was just made, at the token behind. -/
theorem rd_new {w1 : World} {pb tb cap a d : Nat} {ts : List Tok} (h : Ps w1 pb tb cap ts a d) (hn : a + 1 < ts.length) :
    RdA ((w1.alloc (.cells #[.slice (some ⟨tb, 0, none⟩) ts.length cap, .int .i64 ((a : Int) + 1)] 70)).drew) w1.heap.size tb cap ts (a + 1) where
  c0 := by show (w1.alloc _).cell? _ = _; rw [cell_of_row _ _ _ _ _ _ (heap_alloc_last w1 _)]; rfl
  c1 := by show (w1.alloc _).cell? _ = _; rw [cell_of_row _ _ _ _ _ _ (heap_alloc_last w1 _)]; rfl
  ltp := by simp
  tlt := by have := h.rd.tlt; simp; omega
  toks := toksC_keep h.toks (Below.heap_alloc _ _ _ h.rd.tlt)
  lt := hn
theorem beginsField_c (pb tb cap a d : Nat) (ts : List Tok) (w : World) (h : Ps w pb tb cap ts a d) (ok : ToksOk ts) :
    Calls prog 151 #[.pointer (some ⟨pb, 0, none⟩)] w fun e w' => e = .returned (.bool ((tkA ts a).kind == 1 && seesA ts (a + 1) [58])) /\ Below w.heap.size w w' := by
  have H := hideP h
  have OK := hideP ok
  have HK := hideP (peek_c pb tb cap a d ts w h)
  have HN : Hid ((tkA ts a).kind = 1 -> a + 1 < ts.length) := fun e => ok.ends a h.lt (by rw [e]; decide)
  clear h ok
  obtain ⟨t, ht⟩ : ∃ t, t = tkA ts a := ⟨_, rfl⟩
  rw [<- ht] at HK HN ⊢
  clear ht
  obtain ⟨k, x, li, co⟩ := t
  have hf0 := tok_field0
  by_cases hk : k = 1
  · have n1 : (k != 1) = false := by simp [hk]
    have e1 : (k == 1) = true := by simp [hk]
    have HN1 := hideP (HN.out hk)
    clear hk
    rw [e1, Bool.true_and]
    go_enter func151, ntmps151
    go_wp2_with fail
    refine HK.out.mono ?_
    rintro e w1 ⟨rfl, hb1⟩
    have P1 := hideP (H.out.below hb1)
    have HB1 := hideP hb1
    obtain ⟨c0, c1, c2⟩ := P1.out.cells
    have hp1 := P1.out.ltp
    have ha : a <= 8193 := by have := OK.out.len; have := H.out.lt; omega
    clear hb1
    go_wp2_with fail
    go_region
    all_goals
      go_wp2_with fail
      refine (is_new w1.heap.size tb cap (a + 1) _ 1 ts [[58]] _ _ (rd_new P1.out HN1.out) (by simp) (by simp)).mono ?_
      rw [any_one]
      rintro e w2 ⟨rfl, hb2⟩
      have HB2 := hideP hb2
      clear hb2
      go_wp2_with fail
      go_ret
      exact ⟨rfl, below_next HB1.out (below_next (bl_alloc _ _).drew HB2.out)⟩
  · have n1 : (k != 1) = true := by simp [hk]
    have e1 : (k == 1) = false := by simp [hk]
    clear hk
    rw [e1, Bool.false_and]
    go_enter func151, ntmps151
    go_wp2_with fail
    refine HK.out.mono ?_
    rintro e w1 ⟨rfl, hb1⟩
    have HB1 := hideP hb1
    clear hb1
    go_wp2_with fail
    go_ret
    exact ⟨rfl, HB1.out⟩
end Go.Proofs.YtlhmofphpfdjlaaGreatDoor
/- Rows that a call fills, one by one, with what it has made on the way. -/
namespace Go.Proofs.YtlhmofphpfdjlaaGreatDoor
open Go.Proofs.Tryz
open Go.RowKit
/-- A reading of what lies from block lo on: it stays while that stays, and lies from any smaller block on. -/
structure RepK {α : Type} (rep : Nat -> World -> List Value -> α -> Prop) : Prop where
  keep : ∀ {lo w w' c x}, rep lo w c x -> w.heap.size <= w'.heap.size -> (∀ b, lo <= b -> b < w.heap.size -> w'.heap[b]? = w.heap[b]?) -> rep lo w' c x
  lower : ∀ {lo lo' w c x}, rep lo w c x -> lo' <= lo -> rep lo' w c x
section
variable {α : Type} {rep : Nat -> World -> List Value -> α -> Prop} {B et k pb : Nat} {w wx wy w4 : World} {v v' : Value} {cs : List (List Value)} {xs : List α} {c : List Value} {x : α} {g : Option Nat} {lo : Nat}
/-- It was made some time since block B, and no block of G lies in it. -/
def Made (rep : Nat -> World -> List Value -> α -> Prop) (B : Nat) (G : Nat -> Prop) (wx : World) (c : List Value) (x : α) : Prop :=
  ∃ wi lo, rep lo wi c x /\ B <= lo /\ wi.heap.size <= wx.heap.size /\ (∀ b, lo <= b -> b < wi.heap.size -> wx.heap[b]? = wi.heap[b]?) /\ ∀ k, G k -> k < lo ∨ wi.heap.size <= k
theorem Made.now {G : Nat -> Prop} (h : Made rep B G wx c x) (hk : RepK rep) : rep B wx c x := by
  obtain ⟨wi, lo, h1, h2, h3, h4, _⟩ := h
  exact hk.lower (hk.keep h1 h3 h4) h2
theorem Made.stay {G : Nat -> Prop} (h : Made rep B G wx c x) (hs : Stay pb wx wy) (hp : pb < B) : Made rep B G wy c x := by
  obtain ⟨wi, lo, h1, h2, h3, h4, h5⟩ := h
  exact ⟨wi, lo, h1, h2, Nat.le_trans h3 hs.size, fun b hb hl => (hs.keep b (by omega) (by omega)).trans (h4 b hb hl), h5⟩
theorem Made.grown {G G' : Nat -> Prop} (h : Made rep B G wx c x) (hg : wx.grownBy w4 g) (hgG : ∀ q, g = some q -> G q) (hl : ∀ q, G' q -> G q ∨ wx.heap.size <= q) : Made rep B G' w4 c x := by
  obtain ⟨wi, lo, h1, h2, h3, h4, h5⟩ := h
  refine ⟨wi, lo, h1, h2, Nat.le_trans h3 hg.size, fun b hb hl => (hg.block b (by omega) ?_).trans (h4 b hb hl), fun k hk => ?_⟩
  · intro e
    rcases h5 b (hgG b e.symm) with h | h <;> omega
  · rcases hl k hk with h | h
    · exact h5 k h
    · exact .inr (by omega)
theorem Made.new {G : Nat -> Prop} (h : rep lo wx c x) (hB : B <= lo) (hg : ∀ k, G k -> k < lo) : Made rep B G wx c x := ⟨wx, lo, h, hB, Nat.le_refl _, fun _ _ _ => rfl, fun k hk => .inl (hg k hk)⟩
/-- The row v holds the xs, each by its cells; o: another row that grows beside it. -/
structure RowsC (rep : Nat -> World -> List Value -> α -> Prop) (B et k : Nat) (o : Option Nat) (wx : World) (v : Value) (cs : List (List Value)) (xs : List α) : Prop where
  len : cs.length = xs.length
  each : ∀ c ∈ cs, c.length = k
  ow : wx.ownsRow B et k v xs.length cs.flatten
  apart : ∀ q, v.ownBlock = some q -> o ≠ some q
  olt : ∀ q, o = some q -> B <= q /\ q < wx.heap.size
  made : ∀ i (h1 : i < cs.length) (h2 : i < xs.length), Made rep B (fun q => v.ownBlock = some q ∨ o = some q) wx cs[i] xs[i]
theorem rows_nil (rep : Nat -> World -> List Value -> α -> Prop) (B et k : Nat) (w : World) : RowsC rep B et k none w (.slice none 0 0) [] [] :=
  ⟨rfl, (fun _ h => nomatch h), World.ownsRow_nil _ _ _ _, (fun _ h => nomatch h), (fun _ h => nomatch h), (fun _ h _ => nomatch h)⟩
variable {o o' : Option Nat}
theorem RowsC.own (h : RowsC rep B et k o wx v cs xs) : ∀ q, v.ownBlock = some q -> B <= q /\ q < wx.heap.size := h.ow.lt
theorem RowsC.all (h : RowsC rep B et k o wx v cs xs) : ∀ q, v.ownBlock = some q ∨ o = some q -> q < wx.heap.size := fun q hq => hq.elim (fun e => (h.own q e).2) fun e => (h.olt q e).2
theorem RowsC.stay (h : RowsC rep B et k o wx v cs xs) (hs : Stay pb wx wy) (hp : pb < B) : RowsC rep B et k o wy v cs xs := by
  refine ⟨h.len, h.each, ?_, h.apart, fun q hq => ⟨(h.olt q hq).1, Nat.lt_of_lt_of_le (h.olt q hq).2 hs.size⟩, fun i h1 h2 => (h.made i h1 h2).stay hs hp⟩
  obtain ⟨o1, o2⟩ := h.ow
  refine ⟨o1, ?_⟩
  rcases o2 with o2 | ⟨g, cap, cur, e, hg, hh, r⟩
  · exact .inl o2
  · exact .inr ⟨g, cap, cur, e, hg, (hs.keep g (by omega) (lt_of_block hh)).trans hh, r⟩
/-- The other row has grown. -/
theorem RowsC.beside (h : RowsC rep B et k o wx v cs xs) (hg : wx.grownBy w4 o) (hl : o' = o ∨ ∃ q, o' = some q /\ wx.heap.size <= q /\ q < w4.heap.size) (hB : B <= wx.heap.size) : RowsC rep B et k o' w4 v cs xs := by
  refine ⟨h.len, h.each, h.ow.kept hg ?_, fun q hq e => ?_, fun q hq => ?_, fun i h1 h2 => (h.made i h1 h2).grown hg (fun q hq => .inr hq) fun q hq => ?_⟩
  · cases hv : v.ownBlock with
    | none => exact .inl rfl
    | some q => exact .inr fun e => h.apart q hv e.symm
  · rcases hl with rfl | ⟨r, rfl, hr, _⟩
    · exact h.apart q hq e
    · injection e with e
      have := (h.own q hq).2
      omega
  · rcases hl with rfl | ⟨r, rfl, hr, hr2⟩
    · exact ⟨(h.olt q hq).1, Nat.lt_of_lt_of_le (h.olt q hq).2 hg.size⟩
    · injection hq with hq
      exact ⟨by omega, by omega⟩
  · rcases hq with hq | hq
    · exact .inl (.inl hq)
    · rcases hl with rfl | ⟨r, rfl, hr, _⟩
      · exact .inl (.inr hq)
      · injection hq with hq
        exact .inr (by omega)
theorem RowsC.put (h : RowsC rep B et k o wx v cs xs) (hw : w4.ownsRow B et k v' (xs.length + 1) (cs.flatten ++ c)) (hg : wy.grownBy w4 v.ownBlock) (hl' : v'.ownBlock = v.ownBlock ∨ ∃ k, v'.ownBlock = some k /\ wy.heap.size <= k)
    (hxy : Stay pb wx wy) (hp : pb < B) (hc : c.length = k) (hm : Made rep B (fun q => v.ownBlock = some q ∨ o = some q) wy c x) : RowsC rep B et k o w4 v' (cs ++ [c]) (xs ++ [x]) := by
  have hG : ∀ q, v'.ownBlock = some q ∨ o = some q -> (v.ownBlock = some q ∨ o = some q) ∨ wy.heap.size <= q := by
    intro q hq
    rcases hq with hq | hq
    · rcases hl' with e | ⟨r, e, hr⟩
      · exact .inl (.inl (e ▸ hq))
      · rw [e] at hq
        injection hq with hq
        exact .inr (by omega)
    · exact .inl (.inr hq)
  refine ⟨by simp [h.len], ?_, ?_, fun q hq e => ?_, fun q hq => ⟨(h.olt q hq).1, ?_⟩, fun i h1 h2 => ?_⟩
  · intro y hy
    rcases List.mem_append.1 hy with hy | hy
    · exact h.each y hy
    · rw [List.mem_singleton.1 hy]
      exact hc
  · rw [List.length_append, List.flatten_append]
    simpa using hw
  · rcases hl' with e' | ⟨r, e', hr⟩
    · exact h.apart q (e' ▸ hq) e
    · rw [e'] at hq
      injection hq with hq
      have := (h.olt q e).2
      have := hxy.size
      omega
  · have := (h.olt q hq).2
    have := hxy.size
    have := hg.size
    omega
  · by_cases hi : i < cs.length
    · rw [List.getElem_append_left hi, List.getElem_append_left (by rw [<- h.len]; exact hi)]
      exact ((h.made i hi (by rw [<- h.len]; exact hi)).stay hxy hp).grown hg (fun q hq => .inl hq) hG
    · have hi' : i = cs.length := by simp at h1; omega
      have e1 : (cs ++ [c])[i] = c := by
        rw [List.getElem_append_right (by omega)]
        simp
      have e2 : (xs ++ [x])[i] = x := by
        rw [List.getElem_append_right (by rw [<- h.len]; omega)]
        simp
      rw [e1, e2]
      exact hm.grown hg (fun q hq => .inl hq) hG
theorem Stay.grown {w : World} (h : Stay pb w wx) (hg : wx.grownBy w4 g) (hp : pb < w.heap.size) (hr : ∀ k, g = some k -> w.heap.size <= k) : Stay pb w w4 where
  below := h.below.grown hg (by have := h.size; omega) fun k hk => by have := hr k hk; omega
  keep := fun b hb hl => (hg.block b (by have := h.size; omega) (fun e => by have := hr b e.symm; omega)).trans (h.keep b hb hl)
theorem Ps.grown {tb cap a d : Nat} {ts : List Tok} (h : Ps wx pb tb cap ts a d) (hg : wx.grownBy w4 g) (hr : ∀ k, g = some k -> pb < k) : Ps w4 pb tb cap ts a d :=
  ⟨(hg.block _ h.ltp (fun e => by have := hr _ e.symm; omega)).trans h.blk, h.tlt, toksC_keep h.toks (hg.block _ (Nat.lt_trans h.tlt h.ltp) (fun e => by have := hr _ e.symm; have := h.tlt; omega)), h.lt⟩
/-- The row that a literal of one makes. -/
theorem rows_one (h : rep lo wx c x) (hB : B <= lo) (hBw : B <= wx.heap.size) (hc : c.length = k) : RowsC rep B et k none (wx.alloc (.cells c.toArray et)) (.slice (some ⟨wx.heap.size, 0, none⟩) 1 1) [c] [x] := by
  refine ⟨rfl, fun y hy => by rw [List.mem_singleton.1 hy]; exact hc, ⟨by simp [hc], .inr ⟨_, 1, c.toArray, rfl, hBw, heap_alloc_last _ _, Nat.le_refl _, by unfold maxLen; omega, by simp [hc], by simp [<- hc]⟩⟩, (fun _ _ h => nomatch h), (fun _ h => nomatch h), fun i h1 h2 => ?_⟩
  have hi : i = 0 := by simp at h1; exact h1
  subst hi
  exact ⟨wx, lo, h, hB, by simp, fun b _ hl => Below.heap_alloc _ _ _ hl, fun q hq => by
    rcases hq with hq | hq
    · simp [Value.ownBlock] at hq
      exact .inr (by omega)
    · cases hq⟩
theorem row_shape {n z : Nat} {ys : List Value} (h : wx.ownsRow B et z v n ys) : ∃ a cap, v = .slice a n cap := by
  rcases h.2 with ⟨h1, h2⟩ | ⟨g, cap, cur, h1, _⟩
  · exact ⟨none, 0, by rw [h1, h2]⟩
  · exact ⟨_, _, h1⟩
/-- The cells of a row that was just made. -/
theorem cells_newK (W : World) (c : List Value) (t : TypeId) : ∀ j u, c[j]? = some u -> (W.alloc (.cells c.toArray t)).cell? ((⟨W.heap.size, 0, none⟩ : Addr).add j) = some u := by
  intro j u hj
  have hadd : (⟨W.heap.size, 0, none⟩ : Addr).add j = ⟨W.heap.size, j, none⟩ := by unfold Addr.add; split <;> simp_all
  rw [hadd, cell_of_row _ _ j _ t (0, 0) (heap_alloc_last W _)]
  simpa using hj
theorem cells_flatK : ∀ (cs : List (List Value)), (∀ c ∈ cs, c.length = k) -> ∀ (i : Nat) (hi : i < cs.length) (j : Nat), j < k -> cs.flatten[i * k + j]? = cs[i][j]?
  | [], _, _, hi, _, _ => by cases hi
  | c :: cs, h, 0, _, j, hj => by
    rw [List.flatten_cons, List.getElem?_append_left (by rw [h c (List.mem_cons_self ..)]; omega)]
    simp
  | c :: cs, h, i + 1, hi, j, hj => by
    have hc := h c (List.mem_cons_self ..)
    have e : (i + 1) * k + j = k + (i * k + j) := by rw [Nat.add_mul, Nat.one_mul]; omega
    rw [List.flatten_cons, List.getElem?_append_right (by rw [hc, e]; omega), hc, e, Nat.add_sub_cancel_left]
    exact cells_flatK cs (fun c hc => h c (List.mem_cons_of_mem _ hc)) i (by simpa using hi) j hj
/-- What a full row says of memory. -/
theorem RowsC.form (h : RowsC rep B et k o wx v cs xs) (hk : RepK rep) : ∃ (a : Option Addr) (cap : Nat), v = .slice a xs.length cap /\ xs.length <= cap /\ (xs = [] ∨ ∃ g, a = some ⟨g, 0, none⟩ /\ B <= g /\ CleanB wx g /\
    ∀ i (hi : i < xs.length), ∃ c : List Value, c.length = k /\ (∀ j, j < k -> wx.cell? ⟨g, i * k + j, none⟩ = c[j]?) /\ rep B wx c xs[i]) := by
  rcases h.ow.2 with ⟨rfl, h0⟩ | ⟨g, cap, cur, rfl, hg, hh, hcap, _, _, hcur⟩
  · exact ⟨none, 0, by rw [h0], by omega, .inl (List.length_eq_zero_iff.1 h0)⟩
  · refine ⟨_, cap, rfl, hcap, .inr ⟨g, rfl, hg, ⟨_, _, hh⟩, fun i hi => ?_⟩⟩
    have hi' : i < cs.length := by rw [h.len]; exact hi
    refine ⟨cs[i], h.each _ (List.getElem_mem hi'), fun j hj => ?_, (h.made i hi' hi).now hk⟩
    have hlt : i * k + j < xs.length * k := by
      have : (i + 1) * k <= xs.length * k := Nat.mul_le_mul_right _ hi
      rw [Nat.add_mul, Nat.one_mul] at this
      omega
    rw [h.ow.cellAt (i * k + j) hlt]
    exact cells_flatK cs h.each i hi' j hj
end
end Go.Proofs.YtlhmofphpfdjlaaGreatDoor
/- The parser of types: a list of types. -/
namespace Go.Proofs.YtlhmofphpfdjlaaGreatDoor
open Go.Proofs.Tryz
open Go.RowKit
/-- A type that was made: it lies from block lo on. -/
def TyE (lo : Nat) (w : World) (v : Value) (D : Ty) : Prop := ∃ m, TyF w lo m v D
def TyC4 (lo : Nat) (w : World) (c : List Value) (D : Ty) : Prop := TyE lo w (.agg c.toArray) D
theorem tyC4_k : RepK TyC4 where
  keep := fun ⟨m, h⟩ hs hk => ⟨m, tyF_keep h hs hk⟩
  lower := fun ⟨m, h⟩ hl => ⟨m, tyF_lower h hl⟩
theorem TyE.cells {lo : Nat} {w : World} {v : Value} {D : Ty} (h : TyE lo w v D) : ∃ (k : Int) (nm : ByteArray) (na : Option Addr) (nl nc : Nat) (ka : Option Addr) (kl kc : Nat), v = .agg #[.int .i64 k, .string nm, .slice na nl nc, .slice ka kl kc] := by
  obtain ⟨m, h⟩ := h
  obtain ⟨k, nm, na, nl, nc, ka, kl, kc, e, _⟩ := tyF_form h
  exact ⟨k, nm, na, nl, nc, ka, kl, kc, e⟩
/-- Types in one row have one depth. -/
theorem common_depth {lo : Nat} {w : World} : ∀ (l : List (Value × Ty)), (∀ p ∈ l, TyE lo w p.1 p.2) -> ∃ m, ∀ p ∈ l, TyF w lo m p.1 p.2
  | [], _ => ⟨0, fun _ h => nomatch h⟩
  | p :: l, h => by
    obtain ⟨m1, h1⟩ := h p (List.mem_cons_self ..)
    obtain ⟨m2, h2⟩ := common_depth l fun q hq => h q (List.mem_cons_of_mem _ hq)
    refine ⟨max m1 m2, fun q hq => ?_⟩
    rcases List.mem_cons.1 hq with rfl | hq
    · exact tyF_mono h1 (Nat.le_max_left _ _)
    · exact tyF_mono (h2 q hq) (Nat.le_max_right _ _)
/-- A full row of types. -/
theorem rows_kids {B et : Nat} {wx : World} {v : Value} {cs : List (List Value)} {xs : List Ty} {o : Option Nat} (h : RowsC TyC4 B et 4 o wx v cs xs) : ∃ (a : Option Addr) (cap m : Nat), v = .slice a xs.length cap /\ xs.length <= cap /\ KidsF wx B m a xs := by
  obtain ⟨a, cap, e, hcap, hr⟩ := h.form tyC4_k
  have hall : ∀ p ∈ (cs.map fun c => (Value.agg c.toArray)).zip xs, TyE B wx p.1 p.2 := by
    intro p hp
    obtain ⟨i, hi, rfl⟩ := List.mem_iff_getElem.1 hp
    simp only [List.getElem_zip, List.getElem_map]
    simp only [List.length_zip, List.length_map] at hi
    exact (h.made i (by omega) (by omega)).now tyC4_k
  obtain ⟨m, hm⟩ := common_depth _ hall
  refine ⟨a, cap, m, e, hcap, ?_⟩
  rcases h.ow.2 with ⟨e2, h0⟩ | ⟨g, cap2, cur, e2, hg, hh, _⟩
  · exact .inl (List.length_eq_zero_iff.1 h0)
  · rw [e] at e2
    injection e2 with e3 e4 e5
    refine .inr ⟨g, 0, e3, hg, ⟨_, _, hh⟩, fun i hi => ?_⟩
    have hi' : i < cs.length := by rw [h.len]; exact hi
    have hc4 := h.each _ (List.getElem_mem hi')
    have hT : TyF wx B m (.agg cs[i].toArray) xs[i] := by
      refine hm (.agg cs[i].toArray, xs[i]) (List.mem_iff_getElem.2 ⟨i, by simp; omega, by simp⟩)
    have hcell : ∀ j, j < 4 -> wx.cell? ⟨g, 0 + i * 4 + j, none⟩ = cs[i][j]? := by
      intro j hj
      have ho := h.ow
      rw [e, e3] at ho
      rw [show 0 + i * 4 + j = i * 4 + j by omega, ho.cellAt (i * 4 + j) (by omega)]
      exact cells_flatK cs h.each i hi' j hj
    match hcs : cs[i], hc4 with
    | [c0, c1, c2, c3], _ =>
      rw [hcs] at hcell hT
      exact ⟨c0, c1, c2, c3, hcell 0 (by omega), hcell 1 (by omega), hcell 2 (by omega), hcell 3 (by omega), hT⟩
/-- The rest of a list, behind what is there. -/
def ManyAt {α : Type} (ts : List Tok) (one : Nat -> Pr α) (sep : List UInt8) (R : Pr (List α)) (acc : List α) (f a : Nat) : Prop :=
  R = if seesA ts a sep then (manyA ts one sep f (a + 1)).go fun l b => .inl (acc ++ l, b) else .inl (acc, a)
theorem many_start {α : Type} {ts : List Tok} {one : Nat -> Pr α} {sep : List UInt8} {f a b : Nat} {x : α} (h : one a = .inl (x, b)) : ManyAt ts one sep (manyA ts one sep (f + 1) a) [x] f b := by
  unfold ManyAt
  rw [manyA, h]
  rfl
theorem many_bad {α : Type} {ts : List Tok} {one : Nat -> Pr α} {sep : List UInt8} {f a : Nat} {e : Int × Nat × Nat} (h : one a = .inr e) : manyA ts one sep (f + 1) a = .inr e := by
  rw [manyA, h]
  rfl
theorem many_next {α : Type} {ts : List Tok} {one : Nat -> Pr α} {sep : List UInt8} {R : Pr (List α)} {acc : List α} {f a b : Nat} {x : α} (h : ManyAt ts one sep R acc (f + 1) a) (hs : seesA ts a sep = true) (ho : one (a + 1) = .inl (x, b)) : ManyAt ts one sep R (acc ++ [x]) f b := by
  unfold ManyAt at h ⊢
  rw [h, if_pos hs, manyA, ho]
  show Pr.go (Pr.go (.inl (x, b)) _) _ = _
  unfold Pr.go
  by_cases hb : seesA ts b sep = true
  · rw [if_pos hb]
    simp only [hb, if_true]
    cases manyA ts one sep f (b + 1) with
    | inl p => simp
    | inr e => rfl
  · simp only [hb]
    simp
theorem many_fail {α : Type} {ts : List Tok} {one : Nat -> Pr α} {sep : List UInt8} {R : Pr (List α)} {acc : List α} {f a : Nat} {e : Int × Nat × Nat} (h : ManyAt ts one sep R acc (f + 1) a) (hs : seesA ts a sep = true) (ho : one (a + 1) = .inr e) : R = .inr e := by
  unfold ManyAt at h
  rw [h, if_pos hs, manyA, ho]
  rfl
theorem many_end {α : Type} {ts : List Tok} {one : Nat -> Pr α} {sep : List UInt8} {R : Pr (List α)} {acc : List α} {f a : Nat} (h : ManyAt ts one sep R acc f a) (hs : seesA ts a sep = false) : R = .inl (acc, a) := by
  unfold ManyAt at h
  rw [h, if_neg (by simp [hs])]
end Go.Proofs.YtlhmofphpfdjlaaGreatDoor
/- A list of types. -/
namespace Go.Proofs.YtlhmofphpfdjlaaGreatDoor
open Go.Proofs.Tryz
open Go.RowKit
/-- How a call by a function's value goes. -/
abbrev Enters (g pb : Nat) : Prop := ∀ w, (callFunc g #[.pointer (some ⟨pb, 0, none⟩)]).run prog w = .ok (.enter g #[.pointer (some ⟨pb, 0, none⟩)]) w
/-- A slice that holds the xs. -/
def TysE (lo : Nat) (w : World) (v : Value) (xs : List Ty) : Prop := ∃ cs, RowsC TyC4 lo 44 4 none w v cs xs
/-- A function that reads one, as it is asked for by the lists. -/
structure Reads {α : Type} (pb tb cap d : Nat) (ts : List Tok) (rep : Nat -> World -> Value -> α -> Prop) (g : Nat) (one : Nat -> Pr α) : Prop where
  calls : ∀ a w, Ps w pb tb cap ts a d -> Calls prog g #[.pointer (some ⟨pb, 0, none⟩)] w (PPost pb tb cap ts d w rep (one a))
  enters : Enters g pb
  up : ∀ a x b, one a = .inl (x, b) -> a <= b
theorem listT_c (pb tb cap d : Nat) (ts : List Tok) (sep : List UInt8) (g : Nat) (one : Nat -> Pr Ty) (hg : Reads pb tb cap d ts TyE g one)
    (f a : Nat) (hf : ts.length <= a + (f + 1)) (w : World) (h : Ps w pb tb cap ts a d) (ok : ToksOk ts) :
    Calls prog 97 #[.pointer (some ⟨pb, 0, none⟩), .string ⟨sep.toArray⟩, .func (.func g) #[] #[]] w (PPost pb tb cap ts d w TysE (manyA ts one sep (f + 1) a)) := by
  have H := hideP h
  have OK := hideP ok
  have HG := hideP hg
  have hen := hg.enters
  clear h ok hg
  have HO := hideP (HG.out.calls a w H.out)
  have HF := hideP hf
  clear hf
  cases ho : one a with
  | inr x =>
    obtain ⟨er, li, co⟩ := x
    rw [many_bad ho]
    rw [ho] at HO
    clear ho
    go_enter func97, ntmps97
    go_wp2_with fail
    refine HO.out.mono ?_
    rintro e w1 ⟨hst, rfl⟩
    have HST := hideP hst
    clear hst
    go_wp2_with fail
    exact ⟨rfl, HST.out, rfl⟩
  | inl x =>
    obtain ⟨D0, a1⟩ := x
    have HM := hideP (many_start (ts := ts) (sep := sep) (f := f) ho)
    have HU := hideP (HG.out.up _ _ _ ho)
    rw [ho] at HO
    clear ho
    obtain ⟨R, hR⟩ : ∃ R, R = manyA ts one sep (f + 1) a := ⟨_, rfl⟩
    rw [<- hR] at HM ⊢
    clear hR
    obtain ⟨i0, hi, hz0, hz1, hz2⟩ := info_parts info_ty
    go_enter func97, ntmps97
    go_wp2_with fail
    refine HO.out.mono ?_
    rintro e w1 ⟨hst, hps, v, rfl, hv⟩
    obtain ⟨k1, nm1, na1, nl1, nc1, ka1, kl1, kc1, rfl⟩ := hv.cells
    have HR1 := hideP (rows_one (B := w.heap.size) (et := 44) (k := 4) (rep := TyC4) (c := [.int .i64 k1, .string nm1, .slice na1 nl1 nc1, .slice ka1 kl1 kc1]) hv (Nat.le_refl _) hst.size rfl)
    have HST := hideP (hst.alloc H.out.ltp (.cells #[.int .i64 k1, .string nm1, .slice na1 nl1 nc1, .slice ka1 kl1 kc1] 44))
    have HP := hideP (hps.alloc (.cells #[.int .i64 k1, .string nm1, .slice na1 nl1 nc1, .slice ka1 kl1 kc1] 44))
    clear hst hps hv
    have HL0 : Hid (ts.length <= a1 + (f + 1)) := by have := HF.out; have := HU.out; show _ <= _; omega
    go_wp2_with fail
    go_loopg [7] (ts.length - a1) (fun gk s wr => ∃ (b m : Nat) (cs : List (List Value)) (acc : List Ty), Hid (RowsC TyC4 w.heap.size 44 4 none wr s cs acc) /\ Hid (Stay pb w wr) /\ Hid (Ps wr pb tb cap ts b d) /\ Hid (ManyAt ts one sep R acc m b) /\ Hid (ts.length <= b + (m + 1)) /\ Hid (acc.length <= b + 1) /\ ts.length - b <= gk)
    case atStart => exact ⟨a1, f, _, _, HR1, HST, HP, HM, HL0, (show 1 <= a1 + 1 by omega), Nat.le_refl _⟩
    case round =>
      clear HR1 HST HP HM HL0 HU HO
      obtain ⟨b, m, cs, acc, HRw, HSt, HPs, HMa, HLe, HAc, hgk⟩ := hrel
      have HT := hideP (take_c pb tb cap b d ts sep wr HPs.out OK.out)
      cases hs : seesA ts b sep with
      | false =>
        have HE := hideP (many_end HMa.out hs)
        rw [hs, if_neg (by simp)] at HT
        clear hs
        go_wp2_with fail
        refine HT.out.mono ?_
        rintro e w2 ⟨rfl, hst, hps⟩
        have HST := hideP (HSt.out.trans hst)
        have HPS := hideP hps
        have HRW := hideP (HRw.out.stay hst H.out.ltp)
        clear hst hps
        go_wp2_with fail
        go_ret
        rw [HE.out]
        exact ⟨HST.out, HPS.out, _, rfl, _, HRW.out⟩
      | true =>
        have hbl : b + 1 < ts.length := sees_next OK.out.ends HPs.out.lt hs
        obtain ⟨m, rfl⟩ : ∃ q, m = q + 1 := ⟨m - 1, by have := HLe.out; omega⟩
        have HSe := hideP hs
        rw [hs, if_pos rfl] at HT
        clear hs
        go_wp2_with fail
        refine HT.out.mono ?_
        rintro e w2 ⟨rfl, hst, hps⟩
        have HST := hideP (HSt.out.trans hst)
        have HPS := hideP hps
        have HRW := hideP (HRw.out.stay hst H.out.ltp)
        clear hst hps
        have HO := hideP (HG.out.calls (b + 1) w2 HPS.out)
        cases ho : one (b + 1) with
        | inr x =>
          obtain ⟨er, li, co⟩ := x
          have HE := hideP (many_fail HMa.out HSe.out ho)
          rw [ho] at HO
          clear ho
          go_wp2_with fail
          refine HO.out.mono ?_
          rintro e w3 ⟨hst, rfl⟩
          have HST3 := hideP (HST.out.trans hst)
          clear hst
          go_wp2_with fail
          rw [HE.out]
          exact ⟨rfl, HST3.out, rfl⟩
        | inl x =>
          obtain ⟨D1, b1⟩ := x
          have HM2 := hideP (many_next HMa.out HSe.out ho)
          have HU2 := hideP (HG.out.up _ _ _ ho)
          rw [ho] at HO
          clear ho
          obtain ⟨av, cv, rfl⟩ := row_shape HRW.out.ow
          go_wp2_with fail
          refine HO.out.mono ?_
          rintro e w3 ⟨hst, hps, v, rfl, hv⟩
          obtain ⟨k1, nm1, na1, nl1, nc1, ka1, kl1, kc1, rfl⟩ := hv.cells
          have HST3 := hideP (HST.out.trans hst)
          have HPS3 := hideP hps
          have HS23 := hideP hst
          have HV := hideP hv
          have HRW3 := hideP (HRW.out.stay hst H.out.ltp)
          clear hst hps hv
          have hac : acc.length <= 8193 := by have := HAc.out; have := OK.out.len; omega
          go_wp2_with (at_builtin; refine wpList_append_own_at _ rfl (.tmp 17) (.tmp 21) 23 rfl w.heap.size 44 i0 _ 4 72 underlying23 hi hz0 hz1 hz2 rfl (by decide) _ _ _ rfl (HRW3.out.ow.alloc _) ⟨_, 0, none⟩ 1 1 [.int .i64 k1, .string nm1, .slice na1 nl1 nc1, .slice ka1 kl1 kc1] rfl rfl (cells_newK _ _ _) (by simp [Value.oneCell']) (by unfold maxLen; omega) (by omega) (by have := HST3.out.size; simp; omega) ?_)
          intro v' w4 hown' hgrow _ hloc
          have HR4 : Hid (RowsC TyC4 w.heap.size 44 4 none w4 v' (cs ++ [[.int .i64 k1, .string nm1, .slice na1 nl1 nc1, .slice ka1 kl1 kc1]]) (acc ++ [D1])) :=
            HRW3.out.put hown' hgrow (hloc.imp_right fun e => ⟨_, e, by simp⟩) ((Stay.refl pb w3).alloc HPS3.out.ltp _) H.out.ltp rfl ((Made.new (rep := TyC4) HV.out HST.out.size fun q hq => HRW.out.all q hq).stay ((Stay.refl pb w3).alloc HPS3.out.ltp _) H.out.ltp)
          have HST4 : Hid (Stay pb w w4) := (HST3.out.alloc H.out.ltp _).grown hgrow H.out.ltp fun q hq => (HRW3.out.own q hq).1
          have HPS4 : Hid (Ps w4 pb tb cap ts b1 d) := (HPS3.out.alloc _).grown hgrow fun q hq => Nat.lt_of_lt_of_le H.out.ltp (HRW3.out.own q hq).1
          clear hown' hgrow hloc
          go_wp2_with fail
          go_roundg (ts.length - b1)
          case measure => have := HU2.out; have := HPS4.out.lt; omega
          case rel => exact ⟨b1, m, _, _, HR4, HST4, HPS4, HM2, (by have := HLe.out; have := HU2.out; show _ <= _; omega), (by have := HAc.out; have := HU2.out; show (acc ++ [D1]).length <= _; simp; omega), Nat.le_refl _⟩
end Go.Proofs.YtlhmofphpfdjlaaGreatDoor
