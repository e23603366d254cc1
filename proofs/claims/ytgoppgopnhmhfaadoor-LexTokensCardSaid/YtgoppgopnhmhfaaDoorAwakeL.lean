/- The chapter's examples (graduslaw02.awake): the call returns true; nothing that was there has changed. -/
import Derived.Test.YtgoppgopnhmhfaaDoorName
namespace Go.Proofs.YtgoppgopnhmhfaaDoor
open Go.RowKit

theorem below_next {w w1 w2 : World} (h : Below w.heap.size w w1) (k : Below w1.heap.size w1 w2) : Below w.heap.size w w2 := h.trans (k.mono h.size)

theorem bl_alloc (w : World) (o : Obj) : Below w.heap.size w (w.alloc o) := (Below.refl _ w).alloc (Nat.le_refl _) o

/-- A Diag as a block. -/
def dgO (li co e : Int) : Obj := .cells #[.int .i64 0, .int .i64 li, .int .i64 co, .int .i64 e] 26

theorem dg_cell (w : World) (li co e : Int) : (w.alloc (dgO li co e)).cell? ⟨w.heap.size, 3, none⟩ = some (.int .i64 e) := by
  unfold dgO
  rw [cell_of_row _ _ 3 _ 26 (0, 0) (heap_alloc_last w _)]
  rfl

/-- The Diag that a call of Lex hands back, laid into a variable. -/
theorem lexP_bad {w w' : World} {x : Int} {li co : Nat} {e : Ending} (h : LexPost w (.bad x li co) e w') : e = .returned (.tuple #[.slice none 0 0, .agg #[.int .i64 0, .int .i64 li, .int .i64 co, .int .i64 x]]) ∧ Below w.heap.size w w' := ⟨h.2, h.1⟩

theorem lexP_toks {w w' : World} {ts : List Tok} {e : Ending} (h : LexPost w (.toks ts) e w') : ∃ g cap, e = .returned (.tuple #[.slice (some ⟨g, 0, none⟩) ts.length cap, .agg #[.int .i64 0, .int .i64 0, .int .i64 0, .int .i64 0]]) ∧
    w'.ownsRow w.heap.size 35 4 (.slice (some ⟨g, 0, none⟩) ts.length cap) ts.length (tokCells ts) ∧ Below w.heap.size w w' := by
  obtain ⟨hb, g, cap, he, ho⟩ := h
  exact ⟨g, cap, he, ho, hb⟩

theorem aw1 (w : World) (hw : Words w) : Calls Tryd.prog 10 #[.string { data := #[108, 101, 116, 32, 120, 49, 32, 61, 32, 49, 50, 59] }] w (LexPost w (.toks [⟨2, [108, 101, 116], 1, 1⟩, ⟨1, [120, 49], 1, 5⟩, ⟨5, [61], 1, 8⟩, ⟨3, [49, 50], 1, 10⟩, ⟨5, [59], 1, 12⟩, ⟨0, [], 1, 13⟩])) := by
  have h := lex_c { data := #[108, 101, 116, 32, 120, 49, 32, 61, 32, 49, 50, 59] } (by decide) w hw
  rw [show (ByteArray.mk #[108, 101, 116, 32, 120, 49, 32, 61, 32, 49, 50, 59]).data.toList = [108, 101, 116, 32, 120, 49, 32, 61, 32, 49, 50, 59] from rfl, awakeV1] at h
  exact h

theorem aw2 (w : World) (hw : Words w) : Calls Tryd.prog 10 #[.string { data := #[48, 48, 55] }] w (LexPost w (.bad 3 1 1)) := by
  have h := lex_c { data := #[48, 48, 55] } (by decide) w hw
  rw [show (ByteArray.mk #[48, 48, 55]).data.toList = [48, 48, 55] from rfl, awakeV2] at h
  exact h

theorem aw3 (w : World) (hw : Words w) : Calls Tryd.prog 10 #[.string { data := #[34, 97] }] w (LexPost w (.bad 4 1 1)) := by
  have h := lex_c { data := #[34, 97] } (by decide) w hw
  rw [show (ByteArray.mk #[34, 97]).data.toList = [34, 97] from rfl, awakeV3] at h
  exact h

theorem aw4 (w : World) (hw : Words w) : Calls Tryd.prog 10 #[.string { data := #[63] }] w (LexPost w (.bad 5 1 1)) := by
  have h := lex_c { data := #[63] } (by decide) w hw
  rw [show (ByteArray.mk #[63]).data.toList = [63] from rfl, awakeV4] at h
  exact h

theorem aw5 (w : World) (hw : Words w) : Calls Tryd.prog 15 #[.string { data := #[120, 49] }] w fun e w' => e = .returned (.bool true) ∧ w' = w := by
  have h := name_c { data := #[120, 49] } (by decide) w hw
  rw [show (ByteArray.mk #[120, 49]).data.toList = [120, 49] from rfl, show nameV [120, 49] = true by decide +kernel] at h
  exact h

theorem aw6 (w : World) (hw : Words w) : Calls Tryd.prog 15 #[.string { data := #[108, 101, 116] }] w fun e w' => e = .returned (.bool false) ∧ w' = w := by
  have h := name_c { data := #[108, 101, 116] } (by decide) w hw
  rw [show (ByteArray.mk #[108, 101, 116]).data.toList = [108, 101, 116] from rfl, show nameV [108, 101, 116] = false by decide +kernel] at h
  exact h

set_option maxHeartbeats 4000000 in
set_option maxRecDepth 100000 in
theorem awake_c (w : World) (hw : Words w) : Calls Tryd.prog 9 #[] w fun e w' => e = .returned (.bool true) ∧ Below w.heap.size w w' := by
  have HW := hideP hw
  clear hw
  go_enter Tryd.func9, Tryd.ntmps9
  go_wp2_with fail
  refine (aw1 _ HW.out).mono ?_
  intro e w1 hp
  obtain ⟨g, cap, rfl, ho, hb1⟩ := lexP_toks hp
  have q0 := tok_at ho 1 (by decide)
  have q3 := tok_at ho 3 (by decide)
  have q5 := tok_at ho 5 (by decide)
  have hgl := tok_lt ho (by decide)
  have HB1 := hideP hb1
  have HW1 := hideP (HW.out.below hb1)
  clear hp ho hb1
  simp only [List.getElem_cons_succ, List.getElem_cons_zero, Nat.reduceMul, Nat.reduceAdd, List.length_cons, List.length_nil] at q0 q3 q5 ⊢
  obtain ⟨q00, q01, q02, q03⟩ := q0
  obtain ⟨q30, q31, q32, q33⟩ := q3
  obtain ⟨q50, q51, q52, q53⟩ := q5
  have HW1' := hideP (HW1.out.below (bl_alloc w1 (dgO 0 0 0)))
  go_wp2_with fail
  refine (aw2 _ HW1'.out).mono ?_
  intro e w2 hp
  obtain ⟨rfl, hb2⟩ := lexP_bad hp
  have HB2 := hideP hb2
  have HW2 := hideP ((HW1'.out.below hb2).below (bl_alloc w2 (dgO 1 1 3)))
  clear hp hb2
  go_wp2_with fail
  refine (aw3 _ HW2.out).mono ?_
  intro e w3 hp
  obtain ⟨rfl, hb3⟩ := lexP_bad hp
  have HB3 := hideP hb3
  have HW3 := hideP ((HW2.out.below hb3).below (bl_alloc w3 (dgO 1 1 4)))
  clear hp hb3
  go_wp2_with fail
  refine (aw4 _ HW3.out).mono ?_
  intro e w4 hp
  obtain ⟨rfl, hb4⟩ := lexP_bad hp
  have HB4 := hideP hb4
  have HW4 := hideP ((HW3.out.below hb4).below (bl_alloc w4 (dgO 1 1 5)))
  have X3 := hideP (below_next hb4 (bl_alloc w4 (dgO 1 1 5)))
  have X2 := hideP (below_next (below_next HB3.out (bl_alloc w3 (dgO 1 1 4))) X3.out)
  have X1 := hideP (below_next (below_next HB2.out (bl_alloc w2 (dgO 1 1 3))) X2.out)
  have X0 := hideP (below_next (bl_alloc w1 (dgO 0 0 0)) X1.out)
  have r00 := (X0.out.cell (p := ⟨g, 4, none⟩) hgl).trans q00
  have r01 := (X0.out.cell (p := ⟨g, 5, none⟩) hgl).trans q01
  have r02 := (X0.out.cell (p := ⟨g, 6, none⟩) hgl).trans q02
  have r03 := (X0.out.cell (p := ⟨g, 7, none⟩) hgl).trans q03
  have r30 := (X0.out.cell (p := ⟨g, 12, none⟩) hgl).trans q30
  have r50 := (X0.out.cell (p := ⟨g, 20, none⟩) hgl).trans q50
  have r51 := (X0.out.cell (p := ⟨g, 21, none⟩) hgl).trans q51
  have r52 := (X0.out.cell (p := ⟨g, 22, none⟩) hgl).trans q52
  have r53 := (X0.out.cell (p := ⟨g, 23, none⟩) hgl).trans q53
  have d0 := (X1.out.cell (p := ⟨w1.heap.size, 3, none⟩) (by simp)).trans (dg_cell w1 0 0 0)
  have d1 := (X2.out.cell (p := ⟨w2.heap.size, 3, none⟩) (by simp)).trans (dg_cell w2 1 1 3)
  have d2 := (X3.out.cell (p := ⟨w3.heap.size, 3, none⟩) (by simp)).trans (dg_cell w3 1 1 4)
  have d3 := dg_cell w4 1 1 5
  have HX := hideP (below_next HB1.out X0.out)
  clear q00 q01 q02 q03 q30 q31 q32 q33 q50 q51 q52 q53 hp hb4
  unfold dgO at r00 r01 r02 r03 r30 r50 r51 r52 r53 d0 d1 d2 d3 HX HW4
  go_wp2_with fail
  refine (aw5 _ HW4.out).mono ?_
  rintro e w' ⟨rfl, rfl⟩
  go_wp2_with fail
  refine (aw6 _ HW4.out).mono ?_
  rintro e w' ⟨rfl, rfl⟩
  go_wp2
  go_ret
  exact ⟨rfl, HX.out⟩
end Go.Proofs.YtgoppgopnhmhfaaDoor
