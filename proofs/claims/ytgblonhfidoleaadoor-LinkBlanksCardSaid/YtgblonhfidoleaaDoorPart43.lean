/- Part. -/
import Derived.Test.YtgblonhfidoleaaDoorPart42
set_option maxRecDepth 100000
set_option maxHeartbeats 4000000
/- The second turn: what is in scope in each module. -/
namespace Go.Proofs.YtgblonhfidoleaaDoor
open Go.Proofs.Tryd
open Go.RowKit Go.Maps
theorem impV_len (num : Num) (mods : List Mo) (m : Nat) (i : Imp) (s : Sc) (h : i.ns.length <= 8193) : (impV num mods m i s).1.length <= s.1.length + 8193 /\ (impV num mods m i s).2.length <= s.2.length + 8193 := by
  unfold impV
  split
  · refine ⟨?_, ?_⟩ <;> simp
  · rename_i f _
    have := namesV_len (mods.getD f noMo) f m i.li i.co i.ns s
    omega
theorem impsV_snoc (num : Num) (mods : List Mo) (m : Nat) (i : Imp) : ∀ (l : List Imp) (s : Sc), impsV num mods m (l ++ [i]) s = impV num mods m i (impsV num mods m l s)
  | [], _ => rfl
  | _ :: l, _ => impsV_snoc num mods m i l _
theorem declsV_snoc (m : Nat) (d : Dec) : ∀ (l : List Dec) (i : Nat) (s : Sc), declsV m i (l ++ [d]) s = declStep m (i + l.length) d (declsV m i l s)
  | [], _, _ => rfl
  | x :: l, i, s => by
    show declsV m (i + 1) (l ++ [d]) _ = _
    rw [declsV_snoc m d l]
    simp only [declsV, List.length_cons]
    rw [show i + 1 + l.length = i + (l.length + 1) by omega]
theorem declStep_len (m i : Nat) (d : Dec) (s : Sc) : (declStep m i d s).1.length <= s.1.length + 1 /\ (declStep m i d s).2.length <= s.2.length + 1 := by
  unfold declStep
  split
  · refine ⟨?_, ?_⟩ <;> simp
  · refine ⟨?_, ?_⟩ <;> simp
theorem scopesV_snoc (num : Num) (mods : List Mo) (o : Mo) : ∀ (l : List Mo) (m : Nat) (ess : List (List En)) (ds : List Dg), scopesV num mods m (l ++ [o]) ess ds = ((scopesV num mods m l ess ds).1 ++ [(scopeV num mods (m + l.length) o (scopesV num mods m l ess ds).2).1], (scopeV num mods (m + l.length) o (scopesV num mods m l ess ds).2).2)
  | [], _, _, _ => rfl
  | x :: l, m, ess, ds => by
    show scopesV num mods (m + 1) (l ++ [o]) _ _ = _
    rw [scopesV_snoc num mods o l]
    simp only [scopesV, List.length_cons]
    rw [show m + 1 + l.length = m + (l.length + 1) by omega]
theorem onceQ3 {P : Program} {c : Code} {Q : Exit -> Act -> World -> Prop} {a : Act} {w : World} (F : Option Addr -> Nat -> World -> Prop) (G : Option Addr -> Nat -> World -> World) {A : Option Addr -> Nat -> World -> Act}
    (h1 : Code.wp P c (Exit.then (fun a' w' => ∃ p n y, F p n y /\ a' = A p n y /\ w' = G p n y) Q) a w) (h2 : ∀ p n y, F p n y -> Q .normal (A p n y) (G p n y)) : Code.wp P c Q a w :=
  Code.wp_mono (fun e a' w' h => by
    cases e with
    | normal => obtain ⟨p, n, y, hf, rfl, rfl⟩ := h; exact h2 p n y hf
    | _ => exact h) h1
theorem onceQ0 {P : Program} {c : Code} {Q : Exit -> Act -> World -> Prop} {a : Act} {w : World} (W : World) {A : Act} (h1 : Code.wp P c (Exit.then (fun a' w' => a' = A /\ w' = W) Q) a w) (h2 : Q .normal A W) : Code.wp P c Q a w :=
  Code.wp_mono (fun e a' w' h => by
    cases e with
    | normal => obtain ⟨rfl, rfl⟩ := h; exact h2
    | _ => exact h) h1
theorem info_es : (prog.info? 41).map (fun i => (i.zero, i.size, i.bytes)) = some (some (.slice none 0 0), 1, 24) := by kernel_rfl
theorem row_base {w : World} {b b' e k n : Nat} {v : Value} {xs : List Value} (h : w.ownsRow b e k v n xs) (hb : b' <= b) : w.ownsRow b' e k v n xs := by
  refine ⟨h.1, ?_⟩
  rcases h.2 with h2 | ⟨g, cap, cur, e, hg, r⟩
  · exact .inl h2
  · exact .inr ⟨g, cap, cur, e, Nat.le_trans hb hg, r⟩
/-- The second turn between two modules. -/
structure Q3 (kb nb : Nat) (L : L1) (r : Rw) (w0 w : World) (vS vD : Value) (vs : List Value) (ess : List (List En)) (ds : List Dg) : Prop where
  st : Stay kb w0 w
  box : w.heap[kb]? = some (vwO nb L r vS (.string ⟨#[]⟩) (.int .i64 0) (.int .i64 0) vD)
  rD : w.ownsRow w0.heap.size 37 4 vD ds.length (ds.flatMap dgC)
  rS : w.ownsRow w0.heap.size 41 1 vS ess.length vs
  rE : ∀ i (h1 : i < vs.length) (h2 : i < ess.length), w.ownsRow w0.heap.size 29 3 vs[i] ess[i].length (ess[i].flatMap enC)
  lt1 : kb < w0.heap.size
  nil : ds = [] -> vD = .slice none 0 0
section
variable {kb nb : Nat} {L : L1} {r : Rw} {w0 w w1 : World} {vS vD vS' : Value} {vs : List Value} {ess : List (List En)} {ds : List Dg}
theorem Q3.vl (h : Q3 kb nb L r w0 w vS vD vs ess ds) : vs.length = ess.length := by have := h.rS.1; omega
theorem Q3.below (h : Q3 kb nb L r w0 w vS vD vs ess ds) (hb : Below w.heap.size w w1) : Q3 kb nb L r w0 w1 vS vD vs ess ds := by
  have hc : Chg 0 (fun _ => False) w w1 := Chg.of hb (Nat.zero_le _)
  exact ⟨h.st.trans (Stay.of (by have := h.lt1; have := h.st.size; omega) hb), hc.obj h.box id, hc.row h.rD fun _ _ => id, hc.row h.rS fun _ _ => id, fun i h1 h2 => hc.row (h.rE i h1 h2) fun _ _ => id, h.lt1, h.nil⟩
/-- A module's scope begins. -/
theorem Q3.open (h : Q3 kb nb L r w0 w vS vD vs ess ds) (y : Obj) : Q2 kb nb L r vS (w.heap.size + 2) (w.heap.size + 1) (w.heap.size + 3) w0 (((w.alloc y).alloc (.map #[] 0)).alloc (.cells #[.slice none 0 0, .map (some (w.heap.size + 1))] 66)) vD (.slice none 0 0) ([], ds) := by
  have hs : (w.alloc y).heap.size = w.heap.size + 1 := World.size_alloc _ _
  have hs2 : ((w.alloc y).alloc (.map #[] 0)).heap.size = w.heap.size + 2 := by rw [World.size_alloc, hs]
  have h3 := h.below (below_next (below_next (bl_alloc w y) (bl_alloc _ (.map #[] 0))) (bl_alloc _ (.cells #[.slice none 0 0, .map (some (w.heap.size + 1))] 66)))
  have hw := h.st.size
  refine ⟨h3.st, h3.box, h3.rD, ⟨?_, World.ownsRow_nil _ _ _ _, ?_⟩, h.lt1, by omega, by omega, by omega, by omega, ?_, h.nil⟩
  · rw [<- hs2]; exact heap_alloc_last _ _
  · have := set_made' (w.alloc y)
    rw [hs] at this
    exact this.block (Below.heap_alloc _ _ _ (by rw [hs2]; omega))
  · rw [World.size_alloc, hs2]; omega
/-- A module's scope is made: what was there stays. -/
theorem Q3.over (h : Q3 kb nb L r w0 w vS vD vs ess ds) {sb mb slo : Nat} {WA w1 : World} {vD' vE' : Value} {s : Sc} (hb : Below w.heap.size w WA) (hsb : w.heap.size <= sb) (hmb : w.heap.size <= mb) (hq : Q2 kb nb L r vS sb mb slo w0 w1 vD' vE' s) (hr : R2 kb sb mb WA vD (.slice none 0 0) w1 vD' vE') : Q3 kb nb L r w0 w1 vS vD' vs ess s.2 := by
  have hA := h.below hb
  have key : ∀ {et k n : Nat} {v : Value} {ys : List Value}, w.ownsRow w0.heap.size et k v n ys -> et ≠ 37 -> w1.ownsRow w0.heap.size et k v n ys := fun {et k n v ys} ho hne => by
    have hoA : WA.ownsRow w0.heap.size et k v n ys := (Chg.of (B := 0) (S := fun _ => False) hb (Nat.zero_le _)).row ho fun _ _ => id
    refine hr.chg.row hoA fun q hv e => ?_
    have hql := ho.lt q hv
    have hk := h.lt1
    rcases e with e | e | e | e | e
    · omega
    · exact rows_apart hoA hA.rD hne q hv e
    · omega
    · omega
    · cases e
  exact ⟨hq.st, hq.box, hq.rD, key h.rS (by decide), fun i h1 h2 => key (h.rE i h1 h2) (by decide), h.lt1, hq.nil⟩
/-- And it is kept. -/
theorem Q3.push (h : Q3 kb nb L r w0 w vS vD vs ess ds) {es : List En} {vE : Value} {w6 : World} {ob : Obj} (hE : w.ownsRow w0.heap.size 29 3 vE es.length (es.flatMap enC)) (ho : w6.ownsRow w0.heap.size 41 1 vS' (ess.length + 1) (vs ++ [vE])) (hg : (w.alloc ob).grownBy w6 vS.ownBlock) : Q3 kb nb L r w0 (w6.setCell ⟨kb, 2, none⟩ vS') vS' vD (vs ++ [vE]) (ess ++ [es]) ds := by
  obtain ⟨h1, h2⟩ := grown_set 2 vS' h.box h.rS h.lt1 (by have := h.st.size; omega) hg
  have key : ∀ {et k n : Nat} {v : Value} {ys : List Value}, w.ownsRow w0.heap.size et k v n ys -> et ≠ 41 -> (w6.setCell ⟨kb, 2, none⟩ vS').ownsRow w0.heap.size et k v n ys := fun {et k n v ys} ho' hne => by
    refine h2.row ho' fun q hv e => ?_
    have hql := ho'.lt q hv
    have hk := h.lt1
    rcases e with e | e
    · omega
    · exact rows_apart ho' h.rS hne q hv e
  refine ⟨stay_chg h.st h2 fun b e => e.imp_right fun e => (h.rS.lt b e).1, by simpa using h1, key h.rD (by decide), ?_, fun i i1 i2 => ?_, h.lt1, h.nil⟩
  · rw [List.length_append]
    exact ownsRow_setCell_below ho (a := ⟨kb, 2, none⟩) h.lt1 _
  · by_cases hi : i < vs.length
    · have hi2 : i < ess.length := by have := h.vl; omega
      simp only [List.getElem_append_left hi, List.getElem_append_left hi2]
      exact key (h.rE i hi hi2) (by decide)
    · have e1 : i = vs.length := by simp at i1; omega
      have e2 : i = ess.length := by have := h.vl; omega
      have e3 : (vs ++ [vE])[i] = vE := by subst e1; simp
      have e4 : (ess ++ [es])[i] = es := by subst e2; simp
      rw [e3, e4]
      exact key hE (by decide)
end
end Go.Proofs.YtgblonhfidoleaaDoor
/- The third turn: who imports whom. -/
namespace Go.Proofs.YtgblonhfidoleaaDoor
open Go.Proofs.Tryd
open Go.RowKit Go.Maps
/-- Block b is n rows of 16 bits. -/
def BitsAt (w : World) (b n : Nat) (f : Nat -> Nat -> Bool) : Prop := ∃ cs : Array Value, w.heap[b]? = some (.cells cs 74) /\ cs.size = n * 16 /\ ∀ i j, i < n -> j < 16 -> cs[i * 16 + j]? = some (.bool (f i j))
section
variable {w w' : World} {b n : Nat} {f g : Nat -> Nat -> Bool}
theorem BitsAt.block (h : BitsAt w b n f) (hb : w'.heap[b]? = w.heap[b]?) : BitsAt w' b n f := by
  obtain ⟨cs, h1, h2, h3⟩ := h
  exact ⟨cs, hb.trans h1, h2, h3⟩
theorem BitsAt.lt (h : BitsAt w b n f) : b < w.heap.size := by
  obtain ⟨cs, h1, h2, h3⟩ := h
  exact lt_of_block h1
theorem BitsAt.congr (h : BitsAt w b n f) (he : ∀ i j, i < n -> j < 16 -> f i j = g i j) : BitsAt w b n g := by
  obtain ⟨cs, h1, h2, h3⟩ := h
  exact ⟨cs, h1, h2, fun i j hi hj => by rw [<- he i j hi hj]; exact h3 i j hi hj⟩
theorem BitsAt.cell (h : BitsAt w b n f) {i j : Nat} (hi : i < n) (hj : j < 16) : w.cell? ⟨b, i * 16 + j, none⟩ = some (.bool (f i j)) /\ w.frozen? ⟨b, i * 16 + j, none⟩ = false := by
  obtain ⟨cs, h1, h2, h3⟩ := h
  have := h3 i j hi hj
  refine ⟨?_, by simp [World.frozen?, h1]⟩
  unfold World.cell?
  rw [h1]
  exact this
theorem BitsAt.put (h : BitsAt w b n f) {k t : Nat} (hk : k < n) (ht : t < 16) (x : Bool) : BitsAt (w.setCell ⟨b, k * 16 + t, none⟩ (.bool x)) b n (fun i j => if i = k /\ j = t then x else f i j) := by
  obtain ⟨cs, h1, h2, h3⟩ := h
  refine ⟨_, cells_setCell h1, by rw [Array.size_setIfInBounds]; exact h2, fun i j hi hj => ?_⟩
  rw [Array.getElem?_setIfInBounds]
  show _ = some (Value.bool (if i = k /\ j = t then x else f i j))
  by_cases e : i = k /\ j = t
  · obtain ⟨rfl, rfl⟩ := e
    rw [if_pos rfl, if_pos (by rw [h2]; omega), if_pos ⟨rfl, rfl⟩]
  · rw [if_neg (by omega), if_neg e]
    exact h3 i j hi hj
theorem madeFalse (n : Nat) {i : Nat} (hi : i < n) : (madeCells (#[.bool false, .bool false, .bool false, .bool false, .bool false, .bool false, .bool false, .bool false, .bool false, .bool false, .bool false, .bool false, .bool false, .bool false, .bool false, .bool false] : Array Value) n)[i]? = some (.bool false) := by
  unfold madeCells
  rw [Array.getElem?_map, Array.getElem?_range, if_pos hi]
  have h : i % 16 < 16 := Nat.mod_lt _ (by omega)
  simp only [Option.map_some, List.size_toArray, List.length_cons, List.length_nil, Nat.reduceAdd]
  generalize i % 16 = j at h
  match j, h with
  | 0, _ | 1, _ | 2, _ | 3, _ | 4, _ | 5, _ | 6, _ | 7, _ | 8, _ | 9, _ | 10, _ | 11, _ | 12, _ | 13, _ | 14, _ | 15, _ => rfl
  | n + 16, h => exact absurd h (by omega)
end
theorem info_rch : (prog.info? 74).map (fun i => (i.zero, i.size, i.bytes)) = some (some (.agg #[.bool false, .bool false, .bool false, .bool false, .bool false, .bool false, .bool false, .bool false, .bool false, .bool false, .bool false, .bool false, .bool false, .bool false, .bool false, .bool false]), 16, 16) := by kernel_rfl
abbrev bits0 (n : Nat) : Obj := .cells (madeCells #[.bool false, .bool false, .bool false, .bool false, .bool false, .bool false, .bool false, .bool false, .bool false, .bool false, .bool false, .bool false, .bool false, .bool false, .bool false, .bool false] (n * 16)) 74
theorem run_bits (n : Nat) (hn : n <= 1000) (w : World) : (Instr.makeSlice 71 (.int .i64 (n : Int)) (.int .i64 (n : Int))).run prog w = .ok (.slice (some ⟨w.heap.size, 0, none⟩) n n) (w.alloc (bits0 n)) := by
  obtain ⟨i0, hi, hz0, hz1, hz2⟩ := info_parts info_rch
  have h := run_make (P := prog) w 71 74 i0 _ underlying71 hi hz0 .i64 .i64 n n (by omega) (Int.le_refl _) (by rw [hz2]; omega) (by omega)
  rw [hz1] at h
  simp only [Int.toNat_natCast] at h
  exact h
theorem bits_made (w : World) (n : Nat) : BitsAt (w.alloc (bits0 n)) w.heap.size n (fun _ _ => false) :=
  ⟨_, heap_alloc_last _ _, size_madeCells _ _, fun i j hi hj => madeFalse _ (by omega)⟩
def dirG (num : Num) (mods : List Mo) (i j : Nat) : Bool := ((directsV num mods).getD i none16).getD j false
def dirF (num : Num) (mods : List Mo) (k : Nat) (row : List Bool) (i j : Nat) : Bool := if i < k then ((directsV num mods).getD i none16).getD j false else if i = k then row.getD j false else false
theorem getD_set (r : List Bool) (t j : Nat) (ht : t < r.length) : (r.set t true).getD j false = if j = t then true else r.getD j false := by
  rw [List.getD_eq_getElem?_getD, List.getD_eq_getElem?_getD, List.getElem?_set]
  by_cases e : j = t
  · subst e
    simp [ht]
  · rw [if_neg (fun h => e h.symm), if_neg e]
theorem none16_get (j : Nat) : none16.getD j false = false := by
  unfold none16
  rw [List.getD_eq_getElem?_getD]
  by_cases h : j < 16
  · rw [List.getElem?_replicate, if_pos h]; rfl
  · rw [List.getElem?_replicate, if_neg h]; rfl
theorem directV_len (num : Num) : ∀ (l : List Imp) (r : List Bool), (directV num l r).length = r.length
  | [], _ => rfl
  | i :: l, r => by
    show (directV num l _).length = _
    rw [directV_len num l, List.length_set]
theorem directV_snoc (num : Num) (i : Imp) : ∀ (l : List Imp) (r : List Bool), directV num (l ++ [i]) r = (directV num l r).set (numOf num i.fr) true
  | [], _ => rfl
  | _ :: l, _ => directV_snoc num i l _
theorem dirF_set (num : Num) (mods : List Mo) (k t : Nat) (row : List Bool) (ht : t < row.length) (i j : Nat) : dirF num mods k (row.set t true) i j = if i = k /\ j = t then true else dirF num mods k row i j := by
  unfold dirF
  by_cases h : i < k
  · rw [if_pos h, if_pos h, if_neg (by omega)]
  · rw [if_neg h, if_neg h]
    by_cases e : i = k
    · rw [if_pos e, if_pos e, getD_set _ _ _ ht]
      simp [e]
    · rw [if_neg e, if_neg e, if_neg (by omega)]
theorem dirs_at (num : Num) (mods : List Mo) {k : Nat} (hk : k < mods.length) : (directsV num mods).getD k none16 = directV num mods[k].is none16 := by
  unfold directsV
  rw [List.getD_eq_getElem?_getD, List.getElem?_map, List.getElem?_eq_getElem hk]
  rfl
theorem dirF_next (num : Num) (mods : List Mo) (k : Nat) (hk : k < mods.length) (i j : Nat) : dirF num mods k (directV num mods[k].is none16) i j = dirF num mods (k + 1) none16 i j := by
  unfold dirF
  by_cases h : i < k
  · rw [if_pos h, if_pos (by omega)]
  · rw [if_neg h]
    by_cases e : i = k
    · subst e
      rw [if_pos rfl, if_pos (by omega), dirs_at num mods hk]
    · rw [if_neg e, if_neg (by omega), none16_get]
      simp
theorem Vw.numOf_lt {lo kb nb : Nat} {w : World} {L : L1} {r : Rw} (h : Vw lo kb nb w L r) (h0 : 0 < L.mods.length) (s : Bs) : numOf L.num s < L.mods.length := by
  unfold numOf
  cases hk : look L.num s with
  | none => exact h0
  | some f => exact h.num_lt hk
theorem direct_c (lo kb nb : Nat) (L : L1) (r : Rw) (w : World) (c2 c3 c4 c5 c8 : Value) (hV : Vw lo kb nb w L r) (hb : w.heap[kb]? = some (vwO nb L r c2 c3 c4 c5 c8)) :
    Calls prog 24 #[.pointer (some ⟨kb, 0, none⟩)] w fun e w' => e = .returned (.slice (some ⟨w.heap.size, 0, none⟩) L.mods.length L.mods.length) /\ BitsAt w' w.heap.size L.mods.length (dirG L.num L.mods) /\ Below w.heap.size w w' := by
  have hml := hV.ml
  have hmk := run_bits L.mods.length (by omega)
  have HV := hideP hV
  have HB := hideP hb
  have hlt1 := hV.lt1
  have hlt2 := hV.lt2
  have hlt3 := hV.lt3
  obtain ⟨⟨_, p1, _⟩, _, hkl0⟩ := box9 hb
  obtain ⟨⟨_, p1', _⟩, _, _⟩ := box9 (show (w.alloc (bits0 L.mods.length)).heap[kb]? = some (vwO nb L r c2 c3 c4 c5 c8) from (Below.heap_alloc _ _ _ hkl0).trans hb)
  have hzm : ((L.mods.length : Int) <= 9223372036854775807) := by omega
  obtain ⟨aM, haM0⟩ : ∃ aM, aM = r.aM := ⟨_, rfl⟩
  rw [<- haM0] at p1 p1'
  have HaM := hideP haM0
  clear haM0 hV hb
  go_enter func24, ntmps24
  go_wp2_with fail
  clear p1 p1' hmk
  go_loopw [21] (fun i wr => ∃ k : Nat, k <= L.mods.length /\ i = .int .i64 k /\ Hid (BitsAt wr w.heap.size L.mods.length (dirF L.num L.mods k none16)) /\ Hid (Below w.heap.size w wr)) (fun i _ => L.mods.length - (intOf i).toNat)
  case atStart =>
    refine ⟨0, by omega, rfl, (bits_made w _).congr fun i j hi hj => ?_, bl_alloc w _⟩
    unfold dirF
    rw [if_neg (by omega), none16_get]
    simp
  case round =>
    obtain ⟨k, hk, rfl, HA, HBl⟩ := hrel
    by_cases hkl : k < L.mods.length
    · have hkl' : (k : Int) < (L.mods.length : Int) := by omega
      obtain ⟨gM, x, haM, hgM1, hgM2, hcM0, hcM1, hMo⟩ := HV.out.mod hkl
      have haM' : aM = some ⟨gM, 0, none⟩ := HaM.out.trans haM
      subst haM'
      obtain ⟨ia, il, ic, da, dl, dc⟩ := x
      obtain ⟨hil, hdl, hb1, hb2, hri, hrd⟩ := hMo
      simp only at hil hdl hri hrd hcM0 hcM1
      have HGd := hideP (HV.out.good _ (List.getElem_mem hkl))
      have q0 : wr.cell? ⟨gM, k * 2, none⟩ = some (.slice ia il ic) := (HBl.out.cell (p := ⟨gM, k * 2, none⟩) hgM2).trans hcM0
      have q1 : wr.cell? ⟨gM, k * 2 + 1, none⟩ = some (.slice da dl dc) := (HBl.out.cell (p := ⟨gM, k * 2 + 1, none⟩) hgM2).trans hcM1
      have HNx := hideP (dirF_next L.num L.mods k hkl)
      obtain ⟨o, ho⟩ : ∃ o, o = L.mods[k] := ⟨_, rfl⟩
      rw [<- ho] at hil hdl hb1 hb2 hri hrd HGd HNx
      subst hil hdl
      have HRi := hideP hri
      have hzi : ((o.is.length : Int) <= 9223372036854775807) := by omega
      have HA2 : Hid (BitsAt (wr.alloc (.cells #[.slice ia o.is.length ic, .slice da o.ds.length dc] 45)) w.heap.size L.mods.length (dirF L.num L.mods k none16)) := HA.out.block (Below.heap_alloc _ _ _ HA.out.lt)
      have HB2 : Hid (Below w.heap.size w (wr.alloc (.cells #[.slice ia o.is.length ic, .slice da o.ds.length dc] 45))) := HBl.out.alloc HBl.out.size _
      clear hri hrd hcM0 hcM1 ho
      go_wp2_with fail
      clear q0 q1
      go_loopw [29] (fun i w2 => ∃ k2 : Nat, k2 <= o.is.length /\ i = .int .i64 k2 /\ Hid (BitsAt w2 w.heap.size L.mods.length (dirF L.num L.mods k (directV L.num (o.is.take k2) none16))) /\ Hid (Below w.heap.size w w2)) (fun i _ => o.is.length - (intOf i).toNat)
      case atStart => exact ⟨0, by omega, rfl, HA2.out, HB2.out⟩
      case round =>
        obtain ⟨k2, hk2, rfl, HAi, HBi⟩ := hrel
        by_cases hk2l : k2 < o.is.length
        · have hk2l' : (k2 : Int) < (o.is.length : Int) := by omega
          obtain ⟨gi, hia, hgi1, hgi2, c, _, hci, na, nc, rfl, hnl, hnf⟩ := rowQ_at HRi.out hk2l
          subst hia
          have HIG := hideP (HGd.out.1 _ (List.getElem_mem hk2l))
          have hsi := directV_snoc L.num o.is[k2] (o.is.take k2) none16
          rw [List.take_append_getElem hk2l] at hsi
          obtain ⟨I, hI⟩ : ∃ I, I = o.is[k2] := ⟨_, rfl⟩
          rw [<- hI] at hci HIG hsi
          have t0 : wr.cell? ⟨gi, k2 * 4, none⟩ = some (.string ⟨I.fr.toArray⟩) := (HBi.out.cell (p := ⟨gi, k2 * 4, none⟩) hgi2).trans (hci 0 (by omega))
          have t1 : wr.cell? ⟨gi, k2 * 4 + 1, none⟩ = some (.slice na I.ns.length nc) := (HBi.out.cell (p := ⟨gi, k2 * 4 + 1, none⟩) hgi2).trans (hci 1 (by omega))
          have t2 : wr.cell? ⟨gi, k2 * 4 + 2, none⟩ = some (.int .i64 I.li) := (HBi.out.cell (p := ⟨gi, k2 * 4 + 2, none⟩) hgi2).trans (hci 2 (by omega))
          have t3 : wr.cell? ⟨gi, k2 * 4 + 3, none⟩ = some (.int .i64 I.co) := (HBi.out.cell (p := ⟨gi, k2 * 4 + 3, none⟩) hgi2).trans (hci 3 (by omega))
          have hS : (⟨I.fr.toArray⟩ : ByteArray).size <= maxLen := by have := HIG.out.1; simp [ByteArray.size]; unfold maxLen; omega
          have htn := HV.out.numOf_lt (by omega) I.fr
          have hlk := num_look1 (HV.out.num.block (w' := (wr.alloc (impO' I na nc)).drew) ((Below.heap_alloc _ _ _ (by have := HBi.out.size; have := HV.out.num.lt; omega)).trans (HBi.out.block nb (by omega)))) ⟨I.fr.toArray⟩ hS
          rw [show (⟨I.fr.toArray⟩ : ByteArray).data.toList = I.fr by simp] at hlk
          obtain ⟨t, ht⟩ : ∃ t, t = numOf L.num I.fr := ⟨_, rfl⟩
          rw [show (look L.num I.fr).getD 0 = t from ht.symm] at hlk
          rw [<- ht] at hsi htn
          obtain ⟨row, hrow⟩ : ∃ row, row = directV L.num (o.is.take k2) none16 := ⟨_, rfl⟩
          have hrl : row.length = 16 := by rw [hrow, directV_len]; rfl
          rw [<- hrow] at HAi hsi
          have HSi := hideP hsi
          have ht16 : t < 16 := by omega
          have HA3 : Hid (BitsAt (wr.alloc (impO' I na nc)).drew w.heap.size L.mods.length (dirF L.num L.mods k row)) := HAi.out.block (Below.heap_alloc _ _ _ HAi.out.lt)
          have hbits := HA3.out.cell hkl ht16
          obtain ⟨hbc, hbf⟩ := hbits
          have hkbl : kb < wr.heap.size := by have := HBi.out.size; omega
          obtain ⟨⟨_, _, _, _, _, _, p6, _⟩, _, _⟩ := box9 (show (wr.alloc (impO' I na nc)).drew.heap[kb]? = some (vwO nb L r c2 c3 c4 c5 c8) from (Below.heap_alloc _ _ _ hkbl).trans ((HBi.out.block kb (by omega)).trans HB.out))
          obtain ⟨⟨i0, _⟩, _, _⟩ := res_facts (show (wr.alloc (impO' I na nc)).drew.heap[wr.heap.size]? = some (impO' I na nc) from heap_alloc_last _ _)
          have htz : (t : Int) < 16 := by omega
          have HBd : Hid (Below w.heap.size w ((wr.alloc (impO' I na nc)).drew.setCell ⟨w.heap.size, k * 16 + t, none⟩ (.bool true))) := ((HBi.out.alloc HBi.out.size _).drew).setCell (p := ⟨w.heap.size, k * 16 + t, none⟩) (Nat.le_refl _) _
          clear hci hnf hsi hI ht hrow
          go_wp2_with fail
          apply onceQ0 ((wr.alloc (impO' I na nc)).drew.setCell ⟨w.heap.size, k * 16 + t, none⟩ (.bool true))
          · go_region
            all_goals exact ⟨rfl, rfl⟩
          · simp only [Exit.inBlock, Exit.then]
            go_wp2_with fail
            go_roundw
            case rel =>
              refine ⟨k2 + 1, by omega, by go_num, ?_, HBd.out⟩
              show BitsAt _ _ _ _
              rw [HSi.out]
              exact (HA3.out.put hkl ht16 true).congr fun i j _ _ => (dirF_set L.num L.mods k t row (by omega) i j).symm
            case measure => simp [intOf]; omega
        · have hk2l' : ¬ (k2 : Int) < (o.is.length : Int) := by omega
          have e : o.is.take k2 = o.is := List.take_of_length_le (by omega)
          rw [e] at HAi
          go_wp2_with fail
          go_roundw
          case rel => exact ⟨k + 1, by omega, by go_num, HAi.out.congr fun i j _ _ => HNx.out i j, HBi.out⟩
          case measure => simp [intOf]; omega
    · have hkl' : ¬ (k : Int) < (L.mods.length : Int) := by omega
      go_wp2_with fail
      go_ret
      refine ⟨rfl, HA.out.congr fun i j hi _ => ?_, HBl.out⟩
      unfold dirF dirG
      rw [if_pos (by omega)]
end Go.Proofs.YtgblonhfidoleaaDoor
/- The third turn: what is reached. -/
namespace Go.Proofs.YtgblonhfidoleaaDoor
open Go.Proofs.Tryd
open Go.RowKit Go.Maps
def unseen (r : List Bool) : Nat := r.count false
def visitK (dir : List (List Bool)) (f at' : Nat) (r : List Bool) (k : Nat) : List Bool := (List.range k).foldl (fun r k => if (dir.getD at' none16).getD k false then visitV dir f k r else r) r
theorem visitK_succ (dir : List (List Bool)) (f at' : Nat) (r : List Bool) (k : Nat) : visitK dir f at' r (k + 1) = if (dir.getD at' none16).getD k false then visitV dir f k (visitK dir f at' r k) else visitK dir f at' r k := by
  unfold visitK
  rw [List.range_succ, List.foldl_append]
  rfl
theorem visitV_succ (dir : List (List Bool)) (f at' : Nat) (r : List Bool) : visitV dir (f + 1) at' r = if r.getD at' false then r else visitK dir f at' (r.set at' true) 16 := rfl
theorem unseen_set {r : List Bool} {i : Nat} (hi : i < r.length) (h : r.getD i false = false) : unseen (r.set i true) + 1 = unseen r := by
  unfold unseen
  rw [List.getD_eq_getElem?_getD, List.getElem?_eq_getElem hi, Option.getD_some] at h
  rw [List.count_set hi, h]
  have : 0 < r.count false := List.count_pos_iff.2 (h ▸ List.getElem_mem hi)
  simp
  omega
theorem visit_both (dir : List (List Bool)) : ∀ (f at' : Nat) (r : List Bool), r.length = 16 -> at' < 16 -> (visitV dir f at' r).length = 16 /\ unseen (visitV dir f at' r) <= unseen r
  | 0, _, r, h, _ => ⟨h, Nat.le_refl _⟩
  | f + 1, at', r, h, ha => by
    rw [visitV_succ]
    by_cases hb : r.getD at' false = true
    · rw [if_pos hb]
      exact ⟨h, Nat.le_refl _⟩
    · rw [if_neg hb]
      have hu := unseen_set (by omega : at' < r.length) (by simpa using hb)
      have key : ∀ k, k <= 16 -> (visitK dir f at' (r.set at' true) k).length = 16 /\ unseen (visitK dir f at' (r.set at' true) k) <= unseen (r.set at' true) := by
        intro k
        induction k with
        | zero => exact fun _ => ⟨by show (r.set at' true).length = 16; rw [List.length_set]; exact h, Nat.le_refl _⟩
        | succ k ih =>
          intro hk
          obtain ⟨h1, h2⟩ := ih (by omega)
          rw [visitK_succ]
          split
          · obtain ⟨h3, h4⟩ := visit_both dir f k _ h1 (by omega)
            exact ⟨h3, by omega⟩
          · exact ⟨h1, h2⟩
      obtain ⟨h1, h2⟩ := key 16 (Nat.le_refl _)
      exact ⟨h1, by omega⟩
theorem visitK_both (dir : List (List Bool)) (f at' : Nat) (r : List Bool) (h : r.length = 16) : ∀ k, k <= 16 -> (visitK dir f at' r k).length = 16 /\ unseen (visitK dir f at' r k) <= unseen r := by
  intro k
  induction k with
  | zero => exact fun _ => ⟨h, Nat.le_refl _⟩
  | succ k ih =>
    intro hk
    obtain ⟨h1, h2⟩ := ih (by omega)
    rw [visitK_succ]
    split
    · obtain ⟨h3, h4⟩ := visit_both dir f k _ h1 (by omega)
      exact ⟨h3, by omega⟩
    · exact ⟨h1, h2⟩
def rowF (base : Nat -> Nat -> Bool) (m : Nat) (r : List Bool) (i j : Nat) : Bool := if i = m then r.getD j false else base i j
theorem rowF_set (base : Nat -> Nat -> Bool) (m t : Nat) (r : List Bool) (ht : t < r.length) (i j : Nat) : rowF base m (r.set t true) i j = if i = m /\ j = t then true else rowF base m r i j := by
  unfold rowF
  by_cases e : i = m
  · rw [if_pos e, if_pos e, getD_set _ _ _ ht]
    simp [e]
  · rw [if_neg e, if_neg e, if_neg (by omega)]
abbrev visitFn (rc mc dc vc : Nat) : Value := .func (.func 25) #[] #[.pointer (some ⟨rc, 0, none⟩), .pointer (some ⟨mc, 0, none⟩), .pointer (some ⟨dc, 0, none⟩), .pointer (some ⟨vc, 0, none⟩)]
/-- What the closure sees. -/
structure Sees (w : World) (rc mc dc vc rb db n m : Nat) (D : Nat -> Nat -> Bool) : Prop where
  c1 : w.cell? ⟨rc, 0, none⟩ = some (.slice (some ⟨rb, 0, none⟩) n n)
  c2 : w.cell? ⟨mc, 0, none⟩ = some (.int .i64 m)
  c3 : w.cell? ⟨dc, 0, none⟩ = some (.slice (some ⟨db, 0, none⟩) n n)
  c4 : w.cell? ⟨vc, 0, none⟩ = some (visitFn rc mc dc vc)
  bd : BitsAt w db n D
  n1 : rc ≠ rb
  n2 : mc ≠ rb
  n3 : dc ≠ rb
  n4 : vc ≠ rb
  n5 : db ≠ rb
theorem Sees.chg {w w' : World} {rc mc dc vc rb db n m B : Nat} {D : Nat -> Nat -> Bool} (h : Sees w rc mc dc vc rb db n m D) (hc : Chg B (fun b => b = rb) w w') : Sees w' rc mc dc vc rb db n m D :=
  ⟨hc.cell h.c1 h.n1, hc.cell h.c2 h.n2, hc.cell h.c3 h.n3, hc.cell h.c4 h.n4, h.bd.block (hc.keep db h.bd.lt h.n5), h.n1, h.n2, h.n3, h.n4, h.n5⟩
theorem run_idx (cs : Array Value) (k : Nat) (hk : k < 16) (v : Value) (hv : cs[k]? = some v) (w : World) : (Instr.index 74 (.agg cs) (.int .i64 (k : Int))).run prog w = .ok v w := by
  have h1 : (0 : Int) <= (k : Int) := by omega
  have hs : (prog.info? 4).map (fun i => i.size) = some 1 := by kernel_rfl
  obtain ⟨i, hi, hi2⟩ := Option.map_eq_some_iff.1 hs
  simp [Instr.index, asIntOf, run_underlying underlying74, part, isAgg, run_underlying underlying4, sizeOf, typeInfo, hi, hi2, h1, hv, Result.andThen]
  intro h
  omega
end Go.Proofs.YtgblonhfidoleaaDoor
