/- Part. -/
import Derived.Test.YtgblonhfidoleaaDoorPart38
set_option maxRecDepth 100000
set_option maxHeartbeats 4000000
/- The linker while it reads modules. -/
namespace Go.Proofs.YtgblonhfidoleaaDoor
open Go.Proofs.Tryd
open Go.RowKit Go.Maps
theorem Chg.lower {B B' : Nat} {S : Nat -> Prop} {w w1 : World} (h : Chg B S w w1) (hB : B' <= B) : Chg B' S w w1 := ⟨h.below.mono hB, h.keep⟩
theorem Made.chg {α : Type} {rep : Nat -> World -> List Value -> α -> Prop} {B B0 : Nat} {G G' S : Nat -> Prop} {wx w4 : World} {c : List Value} {x : α} (h : Made rep B G wx c x) (hc : Chg B0 S wx w4) (hS : ∀ b, S b -> b < B ∨ G b) (hG : ∀ q, G' q -> G q ∨ wx.heap.size <= q) : Made rep B G' w4 c x := by
  obtain ⟨wi, lo, h1, h2, h3, h4, h5⟩ := h
  refine ⟨wi, lo, h1, h2, Nat.le_trans h3 hc.size, fun b hb hl => (hc.keep b (by omega) ?_).trans (h4 b hb hl), fun k hk => ?_⟩
  · intro e
    rcases hS b e with h | h
    · omega
    · rcases h5 b h with h | h <;> omega
  · rcases hG k hk with h | h
    · exact h5 k h
    · exact .inr (by omega)
/-- The rows that grow. -/
def own4 (vN vM vF vD : Value) (q : Nat) : Prop := vN.ownBlock = some q ∨ vM.ownBlock = some q ∨ vF.ownBlock = some q ∨ vD.ownBlock = some q
abbrev mvC (x : MV) : List Value := [.slice x.ia x.il x.ic, .slice x.da x.dl x.dc]
abbrev strV' (s : Bs) : Value := .string ⟨s.toArray⟩
abbrev p1O (nb : Nat) (vN vM vF vD : Value) : Obj := lkO vN vM (.slice none 0 0) (.string ⟨#[]⟩) (.int .i64 0) (.int .i64 0) (.map (some nb)) vF vD
structure P1 (lo kb nb : Nat) (w : World) (L : L1) (vN vM vF vD : Value) (xs : List MV) (fb : List Nat) : Prop where
  box : w.heap[kb]? = some (p1O nb vN vM vF vD)
  num : NumAt w nb L.num
  rN : w.ownsRow lo 9 1 vN L.names.length (L.names.map strV')
  rM : w.ownsRow lo 45 2 vM L.mods.length (xs.flatMap mvC)
  rF : w.ownsRow lo 55 1 vF fb.length (fb.map fun b => .map (some b))
  rD : w.ownsRow lo 37 4 vD L.ds.length (L.ds.flatMap dgC)
  xl : xs.length = L.mods.length
  mods : ∀ i (h1 : i < xs.length) (h2 : i < L.mods.length), Made ModS lo (own4 vN vM vF vD) w (mvC xs[i]) L.mods[i]
  fst : ∀ i (h1 : i < fb.length) (h2 : i < L.mods.length), lo <= fb[i] /\ NumAt w fb[i] (firsts L.mods[i])
  good : ∀ o ∈ L.mods, GoodM o
  nil : L.ds = [] -> vD = .slice none 0 0
  lt1 : nb < kb
  lt2 : kb < lo
  lt3 : lo <= w.heap.size
section
variable {lo kb nb B : Nat} {w w' : World} {L : L1} {vN vM vF vD vN' vM' vF' vD' : Value} {xs : List MV} {fb : List Nat} {S : Nat -> Prop}
theorem P1.apart (h : P1 lo kb nb w L vN vM vF vD xs fb) {q : Nat} (hq : own4 vN vM vF vD q) : lo <= q /\ q < w.heap.size /\ ∃ cur t, w.heap[q]? = some (.cells cur t (0, 0)) := by
  rcases hq with e | e | e | e
  · obtain ⟨c, hc⟩ := row_obj h.rN e
    exact ⟨(h.rN.lt q e).1, (h.rN.lt q e).2, c, _, hc⟩
  · obtain ⟨c, hc⟩ := row_obj h.rM e
    exact ⟨(h.rM.lt q e).1, (h.rM.lt q e).2, c, _, hc⟩
  · obtain ⟨c, hc⟩ := row_obj h.rF e
    exact ⟨(h.rF.lt q e).1, (h.rF.lt q e).2, c, _, hc⟩
  · obtain ⟨c, hc⟩ := row_obj h.rD e
    exact ⟨(h.rD.lt q e).1, (h.rD.lt q e).2, c, _, hc⟩
theorem P1.fst' (h : P1 lo kb nb w L vN vM vF vD xs fb) (hc : Chg B S w w') (hS : ∀ b, S b -> b = kb ∨ b = nb ∨ own4 vN vM vF vD b) : ∀ i (h1 : i < fb.length) (h2 : i < L.mods.length), lo <= fb[i] /\ NumAt w' fb[i] (firsts L.mods[i]) := fun i h1 h2 => by
  obtain ⟨h3, h4⟩ := h.fst i h1 h2
  refine ⟨h3, h4.block (hc.keep _ h4.lt fun e => ?_)⟩
  have := h.lt1
  have := h.lt2
  rcases hS _ e with e | e | e
  · omega
  · omega
  · obtain ⟨_, _, cur, t, h5⟩ := h.apart e
    obtain ⟨es, ck, h6⟩ := h4.obj
    rw [h5] at h6
    cases h6
theorem P1.mods' (h : P1 lo kb nb w L vN vM vF vD xs fb) (hc : Chg B S w w') (hS : ∀ b, S b -> b = kb ∨ b = nb ∨ own4 vN vM vF vD b) {G : Nat -> Prop} (hG : ∀ q, G q -> own4 vN vM vF vD q ∨ w.heap.size <= q) : ∀ i (h1 : i < xs.length) (h2 : i < L.mods.length), Made ModS lo G w' (mvC xs[i]) L.mods[i] := fun i h1 h2 =>
  (h.mods i h1 h2).chg hc (fun b e => by
    have := h.lt1
    have := h.lt2
    rcases hS b e with e | e | e
    · exact .inl (by omega)
    · exact .inl (by omega)
    · exact .inr e) hG
theorem P1.num' (h : P1 lo kb nb w L vN vM vF vD xs fb) (hc : Chg B S w w') (hS : ∀ b, S b -> b = kb ∨ own4 vN vM vF vD b) : NumAt w' nb L.num :=
  h.num.block (hc.keep nb h.num.lt fun e => by
    have := h.lt1
    have := h.lt2
    rcases hS _ e with e | e
    · omega
    · have := (h.apart e).1
      omega)
theorem P1.nokb (h : P1 lo kb nb w L vN vM vF vD xs fb) {q : Nat} (hq : own4 vN vM vF vD q) : q ≠ kb /\ q ≠ nb := by
  have := (h.apart hq).1
  have := h.lt1
  have := h.lt2
  exact ⟨by omega, by omega⟩
/-- What a row's block may be, when it has grown. -/
abbrev Moved (w : World) (v v' : Value) : Prop := v'.ownBlock = v.ownBlock ∨ ∃ q, v'.ownBlock = some q /\ w.heap.size <= q
theorem Moved.own {v v' : Value} (h : Moved w v v') {q : Nat} (hq : v'.ownBlock = some q) : v.ownBlock = some q ∨ w.heap.size <= q := by
  rcases h with e | ⟨r, e, hr⟩
  · exact .inl (by rw [<- e]; exact hq)
  · rw [e] at hq
    injection hq with hq
    exact .inr (by omega)
theorem P1.tell (h : P1 lo kb nb w L vN vM vF vD xs fb) {d : Dg} (hb : w'.heap[kb]? = some (p1O nb vN vM vF vD')) (hr : w'.ownsRow lo 37 4 vD' (L.ds.length + 1) (L.ds.flatMap dgC ++ dgC d)) (hm : Moved w vD vD') (hc : Chg kb (fun b => b = kb ∨ vD.ownBlock = some b) w w') :
    P1 lo kb nb w' { L with ds := L.ds ++ [d] } vN vM vF vD' xs fb := by
  have hS : ∀ b, b = kb ∨ vD.ownBlock = some b -> b = kb ∨ own4 vN vM vF vD b := fun b e => e.imp_right fun e => .inr (.inr (.inr e))
  have hS' : ∀ b, b = kb ∨ vD.ownBlock = some b -> b = kb ∨ b = nb ∨ own4 vN vM vF vD b := fun b e => e.imp_right fun e => .inr (.inr (.inr (.inr e)))
  have ap : ∀ {et k n : Nat} {v : Value} {ys : List Value}, w.ownsRow lo et k v n ys -> et ≠ 37 -> ∀ q, v.ownBlock = some q -> ¬ (q = kb ∨ vD.ownBlock = some q) := fun ho hne q hq e => by
    rcases e with e | e
    · have := (ho.lt q hq).1
      have := h.lt2
      omega
    · exact rows_apart ho h.rD hne q hq e
  exact {
    box := hb
    num := h.num' hc hS
    rN := hc.row h.rN (ap h.rN (by decide))
    rM := hc.row h.rM (ap h.rM (by decide))
    rF := hc.row h.rF (ap h.rF (by decide))
    rD := by
      show w'.ownsRow _ _ _ _ (L.ds ++ [d]).length ((L.ds ++ [d]).flatMap dgC)
      rw [List.length_append, List.flatMap_append]
      simpa using hr
    xl := h.xl
    mods := h.mods' hc hS' fun q hq => by
      rcases hq with e | e | e | e
      · exact .inl (.inl e)
      · exact .inl (.inr (.inl e))
      · exact .inl (.inr (.inr (.inl e)))
      · exact (hm.own e).imp_left fun e => .inr (.inr (.inr e))
    fst := h.fst' hc hS'
    nil := fun e => absurd e (by simp)
    good := h.good
    lt1 := h.lt1
    lt2 := h.lt2
    lt3 := Nat.le_trans h.lt3 hc.size }
theorem P1.put (h : P1 lo kb nb w L vN vM vF vD xs fb) {p : Bs × Nat} (hn : NumAt w' nb (p :: L.num)) (hg : w.grownBy w' (some nb)) : P1 lo kb nb w' { L with num := p :: L.num } vN vM vF vD xs fb := by
  have hc : Chg nb (fun b => b = nb) w w' := (Chg.refl nb _ w).grown hg (Nat.le_of_lt h.num.lt) fun q e => by injection e with e; exact ⟨by omega, fun _ => e.symm⟩
  have hS : ∀ b, b = nb -> b = kb ∨ b = nb ∨ own4 vN vM vF vD b := fun b e => .inr (.inl e)
  have hk : ∀ {q : Nat}, own4 vN vM vF vD q -> ¬ q = nb := fun hq => (h.nokb hq).2
  exact {
    box := hc.obj h.box (by have := h.lt1; omega)
    num := hn
    rN := hc.row h.rN fun q e => hk (.inl e)
    rM := hc.row h.rM fun q e => hk (.inr (.inl e))
    rF := hc.row h.rF fun q e => hk (.inr (.inr (.inl e)))
    rD := hc.row h.rD fun q e => hk (.inr (.inr (.inr e)))
    xl := h.xl
    mods := h.mods' hc hS fun q hq => .inl hq
    fst := h.fst' hc hS
    nil := h.nil
    good := h.good
    lt1 := h.lt1
    lt2 := h.lt2
    lt3 := Nat.le_trans h.lt3 hc.size }
theorem P1.below (h : P1 lo kb nb w L vN vM vF vD xs fb) (hb : Below w.heap.size w w') : P1 lo kb nb w' L vN vM vF vD xs fb := by
  have hc : Chg 0 (fun _ => False) w w' := Chg.of hb (Nat.zero_le _)
  exact {
    box := hc.obj h.box id
    num := h.num.block (hb.block _ h.num.lt)
    rN := hc.row h.rN fun _ _ => id
    rM := hc.row h.rM fun _ _ => id
    rF := hc.row h.rF fun _ _ => id
    rD := hc.row h.rD fun _ _ => id
    xl := h.xl
    mods := h.mods' hc (fun _ e => e.elim) fun q hq => .inl hq
    fst := h.fst' hc (fun _ e => e.elim)
    nil := h.nil
    good := h.good
    lt1 := h.lt1
    lt2 := h.lt2
    lt3 := Nat.le_trans h.lt3 hb.size }
theorem P1.drew (h : P1 lo kb nb w L vN vM vF vD xs fb) : P1 lo kb nb w.drew L vN vM vF vD xs fb := h.below (Below.refl _ w).drew
theorem P1.alloc (h : P1 lo kb nb w L vN vM vF vD xs fb) (o : Obj) : P1 lo kb nb (w.alloc o) L vN vM vF vD xs fb := h.below (bl_alloc w o)
theorem P1.pushN (h : P1 lo kb nb w L vN vM vF vD xs fb) {s : Bs} (hb : w'.heap[kb]? = some (p1O nb vN' vM vF vD)) (hr : w'.ownsRow lo 9 1 vN' (L.names.length + 1) (L.names.map strV' ++ [strV' s])) (hm : Moved w vN vN') (hc : Chg kb (fun b => b = kb ∨ vN.ownBlock = some b) w w') :
    P1 lo kb nb w' { L with names := L.names ++ [s] } vN' vM vF vD xs fb := by
  have hS : ∀ b, b = kb ∨ vN.ownBlock = some b -> b = kb ∨ own4 vN vM vF vD b := fun b e => e.imp_right fun e => .inl e
  have hS' : ∀ b, b = kb ∨ vN.ownBlock = some b -> b = kb ∨ b = nb ∨ own4 vN vM vF vD b := fun b e => e.imp_right fun e => .inr (.inl e)
  have ap : ∀ {et k n : Nat} {v : Value} {ys : List Value}, w.ownsRow lo et k v n ys -> et ≠ 9 -> ∀ q, v.ownBlock = some q -> ¬ (q = kb ∨ vN.ownBlock = some q) := fun ho hne q hq e => by
    rcases e with e | e
    · have := (ho.lt q hq).1
      have := h.lt2
      omega
    · exact rows_apart ho h.rN hne q hq e
  exact {
    box := hb
    num := h.num' hc hS
    rN := by
      show w'.ownsRow _ _ _ _ (L.names ++ [s]).length ((L.names ++ [s]).map strV')
      rw [List.length_append, List.map_append]
      exact hr
    rM := hc.row h.rM (ap h.rM (by decide))
    rF := hc.row h.rF (ap h.rF (by decide))
    rD := hc.row h.rD (ap h.rD (by decide))
    xl := h.xl
    mods := h.mods' hc hS' fun q hq => by
      rcases hq with e | e
      · exact (hm.own e).imp_left .inl
      · exact .inl (.inr e)
    fst := h.fst' hc hS'
    nil := h.nil
    good := h.good
    lt1 := h.lt1
    lt2 := h.lt2
    lt3 := Nat.le_trans h.lt3 hc.size }
theorem P1.pushM (h : P1 lo kb nb w L vN vM vF vD xs fb) {x : MV} {o : Mo} (hb : w'.heap[kb]? = some (p1O nb vN vM' vF vD)) (hr : w'.ownsRow lo 45 2 vM' (L.mods.length + 1) (xs.flatMap mvC ++ mvC x)) (hm : Moved w vM vM') (hc : Chg kb (fun b => b = kb ∨ vM.ownBlock = some b) w w')
    (ho : Made ModS lo (own4 vN vM vF vD) w (mvC x) o) (hg : GoodM o) (hf : fb.length <= L.mods.length) : P1 lo kb nb w' { L with mods := L.mods ++ [o] } vN vM' vF vD (xs ++ [x]) fb := by
  have hS : ∀ b, b = kb ∨ vM.ownBlock = some b -> b = kb ∨ own4 vN vM vF vD b := fun b e => e.imp_right fun e => .inr (.inl e)
  have hS' : ∀ b, b = kb ∨ vM.ownBlock = some b -> b = kb ∨ b = nb ∨ own4 vN vM vF vD b := fun b e => e.imp_right fun e => .inr (.inr (.inl e))
  have hG : ∀ q, own4 vN vM' vF vD q -> own4 vN vM vF vD q ∨ w.heap.size <= q := fun q hq => by
    rcases hq with e | e | e
    · exact .inl (.inl e)
    · exact (hm.own e).imp_left fun e => .inr (.inl e)
    · exact .inl (.inr (.inr e))
  have ap : ∀ {et k n : Nat} {v : Value} {ys : List Value}, w.ownsRow lo et k v n ys -> et ≠ 45 -> ∀ q, v.ownBlock = some q -> ¬ (q = kb ∨ vM.ownBlock = some q) := fun ho hne q hq e => by
    rcases e with e | e
    · have := (ho.lt q hq).1
      have := h.lt2
      omega
    · exact rows_apart ho h.rM hne q hq e
  exact {
    box := hb
    num := h.num' hc hS
    rN := hc.row h.rN (ap h.rN (by decide))
    rM := by
      show w'.ownsRow _ _ _ _ (L.mods ++ [o]).length ((xs ++ [x]).flatMap mvC)
      rw [List.length_append, List.flatMap_append]
      simpa using hr
    rF := hc.row h.rF (ap h.rF (by decide))
    rD := hc.row h.rD (ap h.rD (by decide))
    xl := by simp [h.xl]
    mods := fun i h1 h2 => by
      by_cases hi : i < xs.length
      · have hi2 : i < L.mods.length := by have := h.xl; omega
        have := h.mods' hc hS' hG i hi hi2
        simp only [List.getElem_append_left hi, List.getElem_append_left hi2]
        exact this
      · have e1 : i = xs.length := by simp at h1; omega
        have e2 : i = L.mods.length := by have := h.xl; omega
        have := ho.chg hc (fun b e => by
          rcases hS b e with e | e
          · have := h.lt2
            exact .inl (by omega)
          · exact .inr e) hG
        have e3 : (xs ++ [x])[i] = x := by subst e1; simp
        have e4 : (L.mods ++ [o])[i] = o := by subst e2; simp
        show Made ModS lo _ w' (mvC (xs ++ [x])[i]) (L.mods ++ [o])[i]
        rw [e3, e4]
        exact this
    fst := fun i h1 h2 => by
      have hi2 : i < L.mods.length := by omega
      have := h.fst' hc hS' i h1 hi2
      show _ /\ NumAt w' fb[i] (firsts (L.mods ++ [o])[i])
      rw [List.getElem_append_left hi2]
      exact this
    nil := h.nil
    good := fun y hy => by
      rcases List.mem_append.1 hy with hy | hy
      · exact h.good y hy
      · rw [List.mem_singleton] at hy
        subst hy
        exact hg
    lt1 := h.lt1
    lt2 := h.lt2
    lt3 := Nat.le_trans h.lt3 hc.size }
theorem P1.pushF (h : P1 lo kb nb w L vN vM vF vD xs fb) {b : Nat} (hb : w'.heap[kb]? = some (p1O nb vN vM vF' vD)) (hr : w'.ownsRow lo 55 1 vF' (fb.length + 1) (fb.map (fun b => .map (some b)) ++ [.map (some b)])) (hm : Moved w vF vF') (hc : Chg kb (fun b => b = kb ∨ vF.ownBlock = some b) w w')
    (ho : ∀ h2 : fb.length < L.mods.length, NumAt w b (firsts L.mods[fb.length])) (hlo : lo <= b) : P1 lo kb nb w' L vN vM vF' vD xs (fb ++ [b]) := by
  have hS : ∀ b, b = kb ∨ vF.ownBlock = some b -> b = kb ∨ own4 vN vM vF vD b := fun b e => e.imp_right fun e => .inr (.inr (.inl e))
  have hS' : ∀ b, b = kb ∨ vF.ownBlock = some b -> b = kb ∨ b = nb ∨ own4 vN vM vF vD b := fun b e => e.imp_right fun e => .inr (.inr (.inr (.inl e)))
  have ap : ∀ {et k n : Nat} {v : Value} {ys : List Value}, w.ownsRow lo et k v n ys -> et ≠ 55 -> ∀ q, v.ownBlock = some q -> ¬ (q = kb ∨ vF.ownBlock = some q) := fun ho hne q hq e => by
    rcases e with e | e
    · have := (ho.lt q hq).1
      have := h.lt2
      omega
    · exact rows_apart ho h.rF hne q hq e
  exact {
    box := hb
    num := h.num' hc hS
    rN := hc.row h.rN (ap h.rN (by decide))
    rM := hc.row h.rM (ap h.rM (by decide))
    rF := by
      rw [List.length_append, List.map_append]
      exact hr
    rD := hc.row h.rD (ap h.rD (by decide))
    xl := h.xl
    mods := h.mods' hc hS' fun q hq => by
      rcases hq with e | e | e | e
      · exact .inl (.inl e)
      · exact .inl (.inr (.inl e))
      · exact (hm.own e).imp_left fun e => .inr (.inr (.inl e))
      · exact .inl (.inr (.inr (.inr e)))
    fst := fun i h1 h2 => by
      by_cases hi : i < fb.length
      · have := h.fst' hc hS' i hi h2
        rw [List.getElem_append_left hi]
        exact this
      · have e1 : i = fb.length := by simp at h1; omega
        subst e1
        have e3 : (fb ++ [b])[fb.length] = b := by simp
        rw [e3]
        have hn := ho h2
        refine ⟨hlo, hn.block (hc.keep b hn.lt fun e => ?_)⟩
        rcases hS b e with e | e
        · have := h.lt2
          omega
        · obtain ⟨_, _, cur, t, h5⟩ := h.apart e
          obtain ⟨es, ck, h6⟩ := hn.obj
          rw [h5] at h6
          cases h6
    nil := h.nil
    good := h.good
    lt1 := h.lt1
    lt2 := h.lt2
    lt3 := Nat.le_trans h.lt3 hc.size }
end
end Go.Proofs.YtgblonhfidoleaaDoor
/- A whole text that is a module. -/
namespace Go.Proofs.YtgblonhfidoleaaDoor
open Go.Proofs.Tryd
open Go.RowKit
theorem moduleText_toks {l : List UInt8} {ts : List Tok} (h : lexV l = .inl ts) : moduleTextV l = doneA (endA ts (moduleP ts)) := by
  rw [moduleP_end]
  unfold moduleTextV doneA
  rw [h]
  simp only
  cases endA ts (moduleA ts) <;> rfl
theorem ps_farM {w : World} {pb tb cap a d b : Nat} {ts : List Tok} (h : Ps w pb tb cap ts a d) (h1 : b ≠ pb) (h2 : b ≠ tb) (x : MV) : Ps (putM w b x) pb tb cap ts a d :=
  ⟨(putM_other (x := x) (fun e => h1 e.symm)).trans h.blk, h.tlt, toksC_keep h.toks (putM_other (x := x) (fun e => h2 e.symm)), h.lt⟩
theorem MdV.drew {lo : Nat} {w : World} {x : MV} {D : List Ty × List Ty} (h : MdV lo w x D) : MdV lo w.drew x D := h.keep (Nat.le_refl _) fun _ _ _ => rfl
theorem MdV.set4 {lo b : Nat} {w : World} {x : MV} {D : List Ty × List Ty} (h : MdV lo w x D) (hb : b < lo) (x0 x1 x2 x3 : Value) : MdV lo ((((w.setCell ⟨b, 0, none⟩ x0).setCell ⟨b, 1, none⟩ x1).setCell ⟨b, 2, none⟩ x2).setCell ⟨b, 3, none⟩ x3) x D :=
  (((h.set1 hb 0 _).set1 hb 1 _).set1 hb 2 _).set1 hb 3 _
theorem wholeM_c (S : ByteArray) (hS : S.size <= 140737488351232) (w : World) (hw : Lx.Words w) :
    Calls prog 30 #[.string S, .func (.func 31) #[] #[]] w (WPost w zMV.val MdE (moduleTextV S.data.toList)) := by
  have hmf : ∀ (fn : Fn) (first cap : Array Value) (w : World), (Instr.makeFunc fn first cap).run prog w = .ok (.func fn first cap) w := fun _ _ _ _ => rfl
  have HX := hideP (fun wx (hb : Below w.heap.size w wx) => Lx.lex_c S hS wx (hw.below hb))
  have hen := module_enters
  clear hw
  go_enter_defers func30, ntmps30
  go_wp2_with fail
  refine (HX.out _ (below_next (bl_alloc _ _) (bl_alloc _ _))).mono ?_
  intro e w2 hpost
  obtain ⟨hb2, hm⟩ := hpost
  have HB2 := hideP (below_next (below_next (bl_alloc _ _) (bl_alloc _ _)) hb2)
  have HA := hideP ((hb2.block w.heap.size (by rw [World.size_alloc, World.size_alloc]; omega)).trans ((Below.heap_alloc _ _ _ (by rw [World.size_alloc]; omega)).trans (heap_alloc_last w _)))
  have HD := hideP ((hb2.block (w.heap.size + 1) (by rw [World.size_alloc, World.size_alloc]; omega)).trans (heap_at1 w _ _))
  clear hb2
  obtain ⟨⟨a0, a1⟩, ⟨z0, z1⟩, hla⟩ := boxM (x := zMV) HA.out
  obtain ⟨⟨d0, d1, d2, d3⟩, ⟨g0, g1, g2, g3⟩, hld⟩ := res_facts HD.out
  cases hl : lexV S.data.toList with
  | inr p =>
    obtain ⟨x, li, co⟩ := p
    rw [hl] at hm
    simp only at hm
    subst hm
    have hx0 : (x != 0) = true := by simpa using lex_err hl
    have HE : Hid (moduleTextV S.data.toList = .inr (x, li, co)) := by show _ = _; unfold moduleTextV; rw [hl]
    clear hl
    unfold Lx.diagA
    go_wp2_with fail
    go_region
    all_goals
      go_wp2_with fail
      have hh1 := other_set4 (w := w2) (b := w.heap.size + 1) (i := w.heap.size) (by omega) (.int .i64 0) (.int .i64 li) (.int .i64 co) (.int .i64 x)
      have hga := putM_heap (x := zMV) (y := zMV) (hh1.trans HA.out)
      have hgd := set4 ((putM_other (x := zMV) (b := w.heap.size) (i := w.heap.size + 1) (by omega)).trans (set4 HD.out (.int .i64 0) (.int .i64 li) (.int .i64 co) (.int .i64 x))) (.int .i64 0) (.int .i64 li) (.int .i64 co) (.int .i64 x)
      refine ⟨.tuple #[zMV.val, diagV li co x], results_ccd rfl _ rfl ((other_set4 (b := w.heap.size + 1) (i := w.heap.size) (by omega) (.int .i64 0) (.int .i64 li) (.int .i64 co) (.int .i64 x)).trans hga) underlying45 (by kernel_rfl) rfl hgd underlying37 (by kernel_rfl), ?_⟩
      rw [HE.out]
      exact ⟨(below_set4 (below_putM (below_set4 HB2.out (by omega) _ _ _ _) (Nat.le_refl _) zMV) (by omega) _ _ _ _).drew, rfl⟩
  | inl ts =>
    rw [hl] at hm
    obtain ⟨g, cap, rfl, hown⟩ := hm
    have OK := hideP (lex_toks hl)
    have HE := hideP (moduleText_toks hl)
    have HTc := hideP (toksC_of hown)
    have hgl : g < w2.heap.size /\ w.heap.size + 2 <= g := by
      have := hown.lt g rfl
      rw [World.size_alloc, World.size_alloc] at this
      omega
    obtain ⟨hgl1, hgl2⟩ := hgl
    obtain ⟨Wd, hWd⟩ : ∃ W, W = (((w2.setCell ⟨w.heap.size + 1, 0, none⟩ (.int .i64 0)).setCell ⟨w.heap.size + 1, 1, none⟩ (.int .i64 0)).setCell ⟨w.heap.size + 1, 2, none⟩ (.int .i64 0)).setCell ⟨w.heap.size + 1, 3, none⟩ (.int .i64 0) := ⟨_, rfl⟩
    have hWs : Wd.heap.size = w2.heap.size := by rw [hWd, size_set4]
    have HAd : Hid (Wd.heap[w.heap.size]? = some zMV.obj) := by rw [hWd]; exact (other_set4 (by omega) _ _ _ _).trans HA.out
    have HDd : Hid (Wd.heap[w.heap.size + 1]? = some (.cells #[.int .i64 0, .int .i64 0, .int .i64 0, .int .i64 0] 37)) := by rw [hWd]; exact set4 HD.out _ _ _ _
    have HTd : Hid (ToksC Wd g ts) := toksC_keep HTc.out (by rw [hWd]; exact other_set4 (by omega) _ _ _ _)
    have HBd : Hid (Below w.heap.size w Wd) := by rw [hWd]; exact below_set4 HB2.out (by omega) _ _ _ _
    clear hl hown
    unfold Lx.diagA
    go_wp2_with fail
    rw [<- hWd, <- hWs]
    have P0 : Ps (Wd.alloc (.cells #[.slice (some ⟨g, 0, none⟩) ts.length cap, .int .i64 0, .int .i64 0] 96)) Wd.heap.size g cap ts 0 0 :=
      ⟨heap_alloc_last _ _, by omega, toksC_keep HTd.out (Below.heap_alloc _ _ _ (by omega)), OK.out.pos⟩
    have HP0 := hideP P0
    clear P0
    refine (moduleM_c Wd.heap.size g cap ts OK.out _ HP0.out).mono ?_
    intro e w3 hpost
    have HPo := hideP hpost
    have hst0 := hpost.1
    have HA3 := hideP ((hst0.below.block w.heap.size (by omega)).trans ((Below.heap_alloc _ _ _ (by omega)).trans HAd.out))
    have HD3 := hideP ((hst0.below.block (w.heap.size + 1) (by omega)).trans ((Below.heap_alloc _ _ _ (by omega)).trans HDd.out))
    have HB3 : Hid (Below w.heap.size w w3) := (HBd.out.alloc (by omega) _).trans (hst0.below.mono (by omega))
    have HS3 := hideP hst0.size
    clear hpost hst0 a0 a1 z0 z1 d0 d1 d2 d3 g0 g1 g2 g3
    rcases ppost_or HPo.out with ⟨er, li, co, hr, rfl, hst⟩ | ⟨D, b, v, hr, rfl, hst, hps, x, rfl, hv⟩
    · have HE2 : Hid (moduleTextV S.data.toList = .inr (er, li, co)) := by rw [HE.out, hr]; exact rfl
      clear hr hst
      go_wp2_with fail
      refine leaves_cons (f := 34) (args := #[.pointer (some ⟨w.heap.size, 0, none⟩), .pointer (some ⟨w.heap.size + 1, 0, none⟩)]) (by simp) (by simp [go_sem]) ?_
      refine (catchM_panic w.heap.size (w.heap.size + 1) li co er [] w3 zMV _ _ _ _ HA3.out HD3.out (by omega)).mono ?_
      rintro e u' w4 ⟨rfl, rfl, ⟨h1, h2⟩, h3⟩
      show ∃ v, _
      refine ⟨_, results_cc rfl _ rfl h1 underlying45 (by kernel_rfl) rfl h2 underlying37 (by kernel_rfl), ?_⟩
      rw [HE2.out]
      exact ⟨HB3.out.trans (h3.out _ (Nat.le_refl _) (by omega)), rfl⟩
    · have HV := hideP hv
      have HPs := hideP hps
      have HK := hideP hr
      obtain ⟨⟨a0, a1⟩, ⟨z0, z1⟩, hla3⟩ := boxM (x := zMV) HA3.out
      obtain ⟨⟨d0, d1, d2, d3⟩, ⟨g0, g1, g2, g3⟩, hld3⟩ := res_facts HD3.out
      rw [hWs] at HPs
      obtain ⟨We, hWe⟩ : ∃ W, W = putM w3 w.heap.size x := ⟨_, rfl⟩
      have HPe : Hid (Ps We w2.heap.size g cap ts b 0) := by rw [hWe]; exact ps_farM HPs.out (by omega) (by omega) x
      have HAe : Hid (We.heap[w.heap.size]? = some x.obj) := by rw [hWe]; exact putM_heap (y := zMV) HA3.out
      have HDe : Hid (We.heap[w.heap.size + 1]? = some (.cells #[.int .i64 0, .int .i64 0, .int .i64 0, .int .i64 0] 37)) := by rw [hWe]; exact (putM_other (x := x) (by omega)).trans HD3.out
      have HBe : Hid (Below w.heap.size w We) := by rw [hWe]; exact below_putM HB3.out (Nat.le_refl _) x
      have HVe : Hid (MdV (Wd.heap.size + 1) We x D) := by rw [hWe]; have := HV.out; rw [World.size_alloc] at this; exact this.putM (by omega) x
      have HSe : Hid (We.heap.size = w3.heap.size) := by rw [hWe]; exact putM_size (x := x)
      unfold putM at hWe
      clear hr hst hps hv
      go_wp2_with fail
      rw [<- hWe]
      clear hWe a0 a1 z0 z1 d0 d1 d2 d3 g0 g1 g2 g3
      refine (end_c w2.heap.size g cap b 0 ts _ HPe.out).mono ?_
      intro e w4 hpost
      have hst0 := hpost.1
      have hpe := HPe.out.ltp
      have HA4 := hideP ((hst0.below.block w.heap.size (by omega)).trans HAe.out)
      have HD4 := hideP ((hst0.below.block (w.heap.size + 1) (by omega)).trans HDe.out)
      have HB4 : Hid (Below w.heap.size w w4) := HBe.out.trans (hst0.below.mono (by omega))
      have HV4 : Hid (MdV (w2.heap.size + 1) w4 x D) := by
        have := HVe.out
        rw [hWs] at this
        exact this.stay hst0 (by omega)
      have HPo4 := hideP hpost
      clear hpost hst0
      rcases ppost_or HPo4.out with ⟨er, li, co, hr, rfl, hst⟩ | ⟨u, b', v, hr, rfl, hst, hps, hv⟩
      · have HE2 : Hid (moduleTextV S.data.toList = .inr (er, li, co)) := by
          rw [HE.out, HK.out]
          show doneA (if (tkA ts b).kind == 0 then .inl (D, b) else badA ts 7 b) = _
          by_cases h0 : ((tkA ts b).kind == 0) = true
          · rw [if_pos h0] at hr; cases hr
          · rw [if_neg h0] at hr ⊢
            injection hr with hr
            exact congrArg Sum.inr hr
        clear hr hst
        go_wp2_with fail
        refine leaves_cons (f := 34) (args := #[.pointer (some ⟨w.heap.size, 0, none⟩), .pointer (some ⟨w.heap.size + 1, 0, none⟩)]) (by simp) (by simp [go_sem]) ?_
        refine (catchM_panic w.heap.size (w.heap.size + 1) li co er [] w4 x _ _ _ _ HA4.out HD4.out (by omega)).mono ?_
        rintro e u' w5 ⟨rfl, rfl, ⟨h1, h2⟩, h3⟩
        show ∃ v, _
        refine ⟨_, results_cc rfl _ rfl h1 underlying45 (by kernel_rfl) rfl h2 underlying37 (by kernel_rfl), ?_⟩
        rw [HE2.out]
        exact ⟨HB4.out.trans (h3.out _ (Nat.le_refl _) (by omega)), rfl⟩
      · have HE2 : Hid (moduleTextV S.data.toList = .inl D) := by
          rw [HE.out, HK.out]
          show doneA (if (tkA ts b).kind == 0 then .inl (D, b) else badA ts 7 b) = _
          by_cases h0 : ((tkA ts b).kind == 0) = true
          · rw [if_pos h0]; exact rfl
          · rw [if_neg h0] at hr; cases hr
        obtain ⟨⟨a0, a1⟩, ⟨z0, z1⟩, hla4⟩ := boxM (x := x) HA4.out
        obtain ⟨⟨d0, d1, d2, d3⟩, ⟨g0, g1, g2, g3⟩, hld4⟩ := res_facts HD4.out
        clear hr hst hps hv
        go_wp2_with fail
        go_region
        all_goals
          go_wp2_with fail
          have hga := (other_set4 (b := w.heap.size + 1) (i := w.heap.size) (by omega) (.int .i64 0) (.int .i64 0) (.int .i64 0) (.int .i64 0)).trans (putM_heap (x := x) (y := x) HA4.out)
          have hgd := set4 ((putM_other (x := x) (b := w.heap.size) (i := w.heap.size + 1) (by omega)).trans HD4.out) (.int .i64 0) (.int .i64 0) (.int .i64 0) (.int .i64 0)
          have hT := ((HV4.out.putM (b := w.heap.size) (by omega) x).set4 (b := w.heap.size + 1) (by omega) (.int .i64 0) (.int .i64 0) (.int .i64 0) (.int .i64 0)).lower (lo' := w.heap.size) (by omega)
          have hBf := below_set4 (below_putM HB4.out (Nat.le_refl _) x) (show w.heap.size <= w.heap.size + 1 by omega) (.int .i64 0) (.int .i64 0) (.int .i64 0) (.int .i64 0)
          generalize hWf : (((((putM w4 w.heap.size x).setCell ⟨w.heap.size + 1, 0, none⟩ (.int .i64 0)).setCell ⟨w.heap.size + 1, 1, none⟩ (.int .i64 0)).setCell ⟨w.heap.size + 1, 2, none⟩ (.int .i64 0)).setCell ⟨w.heap.size + 1, 3, none⟩ (.int .i64 0)) = Wf at hga hgd hT hBf
          refine leaves_cons (f := 34) (args := #[.pointer (some ⟨w.heap.size, 0, none⟩), .pointer (some ⟨w.heap.size + 1, 0, none⟩)]) (by simp) (by simp [go_sem]) ?_
          refine (catchM_idle ⟨w.heap.size, 0, none⟩ ⟨w.heap.size + 1, 0, none⟩ _).mono ?_
          rintro e u' w5 ⟨rfl, rfl, rfl⟩
          show ∃ v, _
          refine ⟨_, results_ccd rfl _ rfl hga underlying45 (by kernel_rfl) rfl hgd underlying37 (by kernel_rfl), ?_⟩
          rw [HE2.out]
          exact ⟨hBf.drew, _, rfl, x, rfl, hT.drew⟩
theorem parseParse_c (S : ByteArray) (hS : S.size <= 140737488351232) (w : World) (hw : Lx.Words w) :
    Calls prog 22 #[.string S] w (WPost w zMV.val MdE (moduleTextV S.data.toList)) := by
  have HW := hideP (wholeM_c S hS _ (hw.below (below_next (bl_alloc w zMV.obj) (bl_alloc _ (.cells #[.int .i64 0, .int .i64 0, .int .i64 0, .int .i64 0] 37)))))
  obtain ⟨R, hR⟩ : ∃ R, R = moduleTextV S.data.toList := ⟨_, rfl⟩
  rw [<- hR] at HW ⊢
  clear hw hR
  go_enter func22, ntmps22
  go_wp2_with fail
  refine HW.out.mono ?_
  intro e w2 hpost
  obtain ⟨hb2, hm⟩ := hpost
  have HB2 := hideP (below_next (below_next (bl_alloc _ _) (bl_alloc _ _)) hb2)
  have HA := hideP ((hb2.block w.heap.size (by rw [World.size_alloc, World.size_alloc]; omega)).trans ((Below.heap_alloc _ _ _ (by rw [World.size_alloc]; omega)).trans (heap_alloc_last w _)))
  have HD := hideP ((hb2.block (w.heap.size + 1) (by rw [World.size_alloc, World.size_alloc]; omega)).trans (heap_at1 w _ _))
  clear hb2
  obtain ⟨⟨a0, a1⟩, ⟨z0, z1⟩, hla⟩ := boxM (x := zMV) HA.out
  obtain ⟨⟨d0, d1, d2, d3⟩, ⟨g0, g1, g2, g3⟩, hld⟩ := res_facts HD.out
  rw [World.size_alloc, World.size_alloc] at hm
  rcases R with D | ⟨er, li, co⟩
  · obtain ⟨v, rfl, x, rfl, hv⟩ := hm
    have HV := hideP hv
    clear hv
    go_wp2_with fail
    have hga := (other_set4 (b := w.heap.size + 1) (i := w.heap.size) (by omega) (.int .i64 0) (.int .i64 0) (.int .i64 0) (.int .i64 0)).trans (putM_heap (x := x) (y := zMV) HA.out)
    have hgd := set4 ((putM_other (x := x) (b := w.heap.size) (i := w.heap.size + 1) (by omega)).trans HD.out) (.int .i64 0) (.int .i64 0) (.int .i64 0) (.int .i64 0)
    refine bodyPost_ret (results_cc rfl _ rfl hga underlying45 (by kernel_rfl) rfl hgd underlying37 (by kernel_rfl)) rfl ⟨below_set4 (below_putM HB2.out (Nat.le_refl _) x) (by omega) _ _ _ _, _, rfl, x, rfl, ?_⟩
    exact ((HV.out.putM (b := w.heap.size) (by omega) x).set4 (b := w.heap.size + 1) (by omega) _ _ _ _).lower (by omega)
  · subst hm
    go_wp2_with fail
    have hga := (other_set4 (b := w.heap.size + 1) (i := w.heap.size) (by omega) (.int .i64 0) (.int .i64 li) (.int .i64 co) (.int .i64 er)).trans (putM_heap (x := zMV) (y := zMV) HA.out)
    have hgd := set4 ((putM_other (x := zMV) (b := w.heap.size) (i := w.heap.size + 1) (by omega)).trans HD.out) (.int .i64 0) (.int .i64 li) (.int .i64 co) (.int .i64 er)
    refine bodyPost_ret (results_cc rfl _ rfl hga underlying45 (by kernel_rfl) rfl hgd underlying37 (by kernel_rfl)) rfl ⟨below_set4 (below_putM HB2.out (Nat.le_refl _) zMV) (by omega) _ _ _ _, rfl⟩
end Go.Proofs.YtgblonhfidoleaaDoor
