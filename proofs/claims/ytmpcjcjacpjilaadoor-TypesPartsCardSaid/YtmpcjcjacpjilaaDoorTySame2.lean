/- types.Same by a contract. -/
import Derived.Test.YtmpcjcjacpjilaaDoorTySame
namespace Go.Proofs.YtmpcjcjacpjilaaDoor
open Go.RowKit

set_option maxHeartbeats 1000000 in
/-- types.Same, of types whose rows bear no mark. -/
theorem tsame_c (N : Nat) (va vb : Value) (Da Db : Ty) (w : World) (ha : TyAt w true N va Da) (hb : TyAt w true N vb Db) :
    Calls Tryd.prog 15 #[va, vb] w fun e w' => (∃ r, e = .returned (.bool r) ∧ (r = true ↔ Da = Db)) ∧ Below w.heap.size w w' := by
  cases N with
  | zero => exact ha.elim
  | succ N =>
    have ha' := ha
    have hb' := hb
    obtain ⟨k, nm, na, nc, ka, kc, ns, ks, rfl, rfl, _⟩ := ha'
    obtain ⟨k', nm', na', nc', ka', kc', ns', ks', rfl, rfl, _⟩ := hb'
    have hmm := @run_makeMap Tryd.prog
    have HA := hideP ha
    have HB := hideP hb
    clear ha hb
    go_enter Tryd.func15, Tryd.ntmps15
    go_wp2_with fail
    have hs := set_made ((w.alloc (tyO k nm na ns.length nc ka ks.length kc)).alloc (tyO k' nm' na' ns'.length nc' ka' ks'.length kc'))
    rw [show ((w.alloc (tyO k nm na ns.length nc ka ks.length kc)).alloc (tyO k' nm' na' ns'.length nc' ka' ks'.length kc')).heap.size = w.heap.size + 1 + 1 by simp] at hs
    have hb3 : Below w.heap.size w (((w.alloc (tyO k nm na ns.length nc ka ks.length kc)).alloc (tyO k' nm' na' ns'.length nc' ka' ks'.length kc')).alloc (.map #[] 0)) := ((bl_alloc w _).alloc (by simp) _).alloc (by simp; omega) _
    refine (same_c w (N + 1) _ _ _ _ _ _ _ [] HA.out HB.out (Nat.le_refl _) hb3 (by omega) hs (by simp)).mono ?_
    rintro e w1 ⟨r, vs', rfl, hr, _, hg, _⟩
    have HR := hideP hr
    have HB1 := hideP (below_of_grown hb3 hg (by omega))
    clear hr hg hs hb3
    go_wp2_with fail
    go_ret
    exact ⟨⟨r, rfl, HR.out⟩, HB1.out⟩
end Go.Proofs.YtmpcjcjacpjilaaDoor
