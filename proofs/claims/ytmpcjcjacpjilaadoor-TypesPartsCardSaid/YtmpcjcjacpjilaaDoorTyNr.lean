/- What the first loop of types.normRecord keeps. -/
import Derived.Test.YtmpcjcjacpjilaaDoorTyNr0
import Derived.Test.YtmpcjcjacpjilaaDoorTyNrV
import Derived.Test.YtmpcjcjacpjilaaDoorTyNu2
namespace Go.Proofs.YtmpcjcjacpjilaaDoor
open Go.RowKit Go.Shelf Go.Lib Go.Sort

structure RInv (w wr : World) (n : Nat) (box : Obj) (ns : List (List UInt8)) (ks : List Ty) (fs : List Fd) : Prop where
  bl : Below w.heap.size w wr
  bx : wr.heap[w.heap.size]? = some box
  rs : wr.heap[w.heap.size + 1]? = some zO
  rm : ∃ cs : Array Value, wr.heap[w.heap.size + 2]? = some (.cells cs 86) ∧ cs.size = 80 ∧ ∀ (i : Nat) (h : i < fs.length) (c : Nat), c < 5 → cs[i * 5 + c]? = (encF fs[i])[c]?
  ty : ∀ (i : Nat) (h : i < fs.length) (h' : i < ns.length) (h'' : i < ks.length), fs[i].1.data.toList = ns[i] ∧ nameV ns[i] = true ∧ ∃ E, fs[i].2.2 = [E] ∧ normT n ks[i] = some E ∧ TyF wr (w.heap.size + 3) n fs[i].2.1.val E

section
variable {w wr wr' : World} {n : Nat} {box : Obj} {ns : List (List UInt8)} {ks : List Ty} {fs : List Fd}

theorem RInv.sz (h : RInv w wr n box ns ks fs) : w.heap.size + 3 ≤ wr.heap.size := by
  obtain ⟨cs, hf, _⟩ := h.rm
  have := lt_of_block hf
  omega

theorem RInv.grow (h : RInv w wr n box ns ks fs) (hb : Below wr.heap.size wr wr') : RInv w wr' n box ns ks fs where
  bl := below_next h.bl hb
  bx := (hb.block _ (lt_of_block h.bx)).trans h.bx
  rs := (hb.block _ (lt_of_block h.rs)).trans h.rs
  rm := by
    obtain ⟨cs, h1, h2, h3⟩ := h.rm
    exact ⟨cs, (hb.block _ (lt_of_block h1)).trans h1, h2, h3⟩
  ty i g g' g'' := by
    obtain ⟨h1, h2, E, h3, h4, h5⟩ := h.ty i g g' g''
    exact ⟨h1, h2, E, h3, h4, tyF_below h5 hb⟩

/-- Five cells at a place. -/
def putR (wr : World) (R j : Nat) (s : ByteArray) (c : Cells) : World :=
  ((((wr.setCell ⟨R, j * 5, none⟩ (.string s)).setCell ⟨R, j * 5 + 1, none⟩ (.int .i64 c.1)).setCell ⟨R, j * 5 + 2, none⟩ (.string c.2.1)).setCell ⟨R, j * 5 + 3, none⟩ (.slice c.2.2.1 c.2.2.2.1 c.2.2.2.2.1)).setCell ⟨R, j * 5 + 4, none⟩ (.slice c.2.2.2.2.2.1 c.2.2.2.2.2.2.1 c.2.2.2.2.2.2.2)

theorem putR_other (wr : World) (R j : Nat) (s : ByteArray) (c : Cells) (i : Nat) (h1 : i ≠ R) : (putR wr R j s c).heap[i]? = wr.heap[i]? := by
  unfold putR
  rw [Below.heap_setCell _ _ _ _ h1, Below.heap_setCell _ _ _ _ h1, Below.heap_setCell _ _ _ _ h1, Below.heap_setCell _ _ _ _ h1, Below.heap_setCell _ _ _ _ h1]

theorem putR_size (wr : World) (R j : Nat) (s : ByteArray) (c : Cells) : (putR wr R j s c).heap.size = wr.heap.size := by
  unfold putR
  simp [World.setCell]

theorem RInv.put (h : RInv w wr n box ns ks fs) {s : ByteArray} {c : Cells} {E : Ty} (hj : fs.length < 16) (h1 : fs.length < ns.length) (h2 : fs.length < ks.length) (hs : s.data.toList = ns[fs.length]) (hn : nameV ns[fs.length] = true) (hE : normT n ks[fs.length] = some E) (hF : TyF wr (w.heap.size + 3) n c.val E) :
    RInv w (putR wr (w.heap.size + 2) fs.length s c) n box ns ks (fs ++ [(s, c, [E])]) := by
  have hsz := h.sz
  have hkeep : ∀ b, w.heap.size + 3 ≤ b → b < wr.heap.size → (putR wr (w.heap.size + 2) fs.length s c).heap[b]? = wr.heap[b]? := fun b hb _ => putR_other _ _ _ _ _ _ (by omega)
  refine ⟨?_, ?_, ?_, ?_, ?_⟩
  · unfold putR
    exact ((((h.bl.setCell (by simp) _).setCell (by simp) _).setCell (by simp) _).setCell (by simp) _).setCell (by simp) _
  · rw [putR_other _ _ _ _ _ _ (by omega)]
    exact h.bx
  · rw [putR_other _ _ _ _ _ _ (by omega)]
    exact h.rs
  · obtain ⟨cs, g1, g2, g3⟩ := h.rm
    refine ⟨_, cells_setCell (cells_setCell (cells_setCell (cells_setCell (cells_setCell g1)))), by simpa using g2, fun i hi e he => ?_⟩
    by_cases hij : i < fs.length
    · rw [List.getElem_append_left hij, ← g3 i hij e he]
      simp only [Array.getElem?_setIfInBounds]
      rw [if_neg (by omega), if_neg (by omega), if_neg (by omega), if_neg (by omega), if_neg (by omega)]
    · have : i = fs.length := by simp at hi; omega
      subst this
      rw [List.getElem_append_right (Nat.le_refl _)]
      have : e = 0 ∨ e = 1 ∨ e = 2 ∨ e = 3 ∨ e = 4 := by omega
      rcases this with rfl | rfl | rfl | rfl | rfl <;> simp [Array.getElem?_setIfInBounds, encF, Cells.list] <;> omega
  · intro i g g' g''
    by_cases hij : i < fs.length
    · obtain ⟨k1, k2, E', k3, k4, k5⟩ := h.ty i hij g' g''
      rw [List.getElem_append_left hij]
      exact ⟨k1, k2, E', k3, k4, tyF_keep k5 (by rw [putR_size]; exact Nat.le_refl _) hkeep⟩
    · have : i = fs.length := by simp at g; omega
      subst this
      rw [List.getElem_append_right (Nat.le_refl _)]
      simp only [Nat.sub_self, List.getElem_cons_zero]
      exact ⟨hs, hn, E, rfl, hE, tyF_keep hF (by rw [putR_size]; exact Nat.le_refl _) hkeep⟩
end

theorem rec_kid {n j : Nat} {nm : List UInt8} {ns : List (List UInt8)} {ks : List Ty} (hj : j < ks.length) (h : normT n ks[j] = none) : normT (n + 1) (mkT 5 nm ns ks) = none := by
  rw [normT_rec]
  cases hm : ks.mapM (normT n) with
  | none => rfl
  | some fs =>
    have h1 := (mapM_mem hm).2
    have := mapM_zip hm (fs[j], ks[j]) (List.mem_iff_getElem.2 ⟨j, by simp; omega, by simp⟩)
    rw [h] at this
    cases this

theorem rec_name {n : Nat} {nm : List UInt8} {ns : List (List UInt8)} {ks : List Ty} {s : List UInt8} (hs : s ∈ ns) (h : nameV s = false) : normT (n + 1) (mkT 5 nm ns ks) = none := by
  rw [normT_rec]
  cases ks.mapM (normT n) with
  | none => rfl
  | some fs => exact record_name hs h

theorem rec_len {n : Nat} {nm : List UInt8} {ns : List (List UInt8)} {ks : List Ty} (h : ns.length ≠ ks.length ∨ 16 < ks.length) : normT (n + 1) (mkT 5 nm ns ks) = none := by
  rw [normT_rec]
  cases hm : ks.mapM (normT n) with
  | none => rfl
  | some fs =>
    have := (mapM_mem hm).2
    show recordV ns fs = none
    unfold recordV
    rw [if_pos (by omega)]

/-- The trees of fields. -/
def pairF (f : Fd) : List UInt8 × Ty := (f.1.data.toList, f.2.2.headD (mkT 0 [] [] []))

theorem rec_fields {n : Nat} {ns : List (List UInt8)} {ks : List Ty} {fs : List Fd} (hl : ns.length = ks.length) (hf : fs.length = ks.length) (h : ∀ (i : Nat) (h : i < fs.length) (h' : i < ns.length) (h'' : i < ks.length), fs[i].1.data.toList = ns[i] ∧ nameV ns[i] = true ∧ ∃ E, fs[i].2.2 = [E] ∧ normT n ks[i] = some E) :
    ∃ es, ks.mapM (normT n) = some es ∧ es.length = ks.length ∧ fs.map pairF = ns.zip es ∧ ∀ s ∈ ns, nameV s = true := by
  refine ⟨fs.map fun f => (pairF f).2, ?_, by simpa using hf, ?_, ?_⟩
  · have : ∀ (ks : List Ty) (gs : List Fd) (_ : gs.length = ks.length) (_ : ∀ (i : Nat) (h1 : i < gs.length) (h2 : i < ks.length), ∃ E, gs[i].2.2 = [E] ∧ normT n ks[i] = some E), ks.mapM (normT n) = some (gs.map fun f => (pairF f).2) := by
      intro ks
      induction ks with
      | nil =>
        intro gs hg _
        have : gs = [] := List.length_eq_zero_iff.1 (by simpa using hg)
        subst this
        rfl
      | cons k ks ih =>
        intro gs hg hh
        match gs, hg, hh with
        | [], hg, _ => simp at hg
        | g :: gs, hg, hh =>
          obtain ⟨E, e1, e2⟩ := hh 0 (by simp) (by simp)
          have e3 := ih gs (by simpa using hg) fun i h1 h2 => by
            have := hh (i + 1) (by simpa using h1) (by simpa using h2)
            simpa using this
          simp only [List.getElem_cons_zero] at e1 e2
          rw [List.mapM_cons, e2, e3]
          simp [pairF, e1]
    exact this ks fs hf fun i h1 h2 => by
      obtain ⟨_, _, E, e1, e2⟩ := h i h1 (by omega) h2
      exact ⟨E, e1, e2⟩
  · refine List.ext_getElem (by simp; omega) fun i g1 g2 => ?_
    have hi : i < fs.length := by simpa using g1
    rw [List.getElem_map, List.getElem_zip, List.getElem_map]
    have := (h i hi (by omega) (by omega)).1
    simp only [pairF, this]
  · intro s hs
    obtain ⟨i, hi, rfl⟩ := List.mem_iff_getElem.1 hs
    exact (h i (by omega) hi (by omega)).2.1

theorem holds_fields {w : World} {R : Nat} {cs : Array Value} {t : TypeId} {fs : List Fd} (hR : w.heap[R]? = some (.cells cs t)) (h : ∀ (i : Nat) (h : i < fs.length) (c : Nat), c < 5 → cs[i * 5 + c]? = (encF fs[i])[c]?) : HoldsK encF 5 w R 0 fs.toArray := by
  intro j hj
  have hj' : j < fs.length * 5 := by simpa using hj
  have hq : j / 5 < fs.length := by omega
  have hr : j % 5 < 5 := by omega
  have he : (encF fs[j / 5]).length = 5 := rfl
  refine ⟨?_, by simp [World.frozen?, hR]⟩
  rw [get_flatK _ _ _ _ (by simpa using hj'), Nat.zero_add, cell_of_row _ _ _ _ _ _ hR]
  have h1 := h (j / 5) hq (j % 5) hr
  rw [show j / 5 * 5 + j % 5 = j by omega] at h1
  rw [h1, List.getElem?_eq_getElem (by omega)]
  have e1 : fs.toArray[j / 5]! = fs[j / 5] := by simp [hq]
  rw [e1]
  simp [he, hr]
end Go.Proofs.YtmpcjcjacpjilaaDoor
