/- The program's arena: an object's cells go. -/
import Derived.Test.YtcpmdbdppdnkkaaHcG
namespace Go.Proofs.Ytcpmdbdppdnkkaa
open Go.RowKit

theorem cell_apart {w : World} {b o b' o' : Nat} (u : Value) (h : b ≠ b' ∨ o ≠ o') : (w.setCell ⟨b, o, none⟩ u).cell? ⟨b', o', none⟩ = w.cell? ⟨b', o', none⟩ := by
  by_cases e : b = b'
  · subst e
    have ho : o ≠ o' := h.resolve_left fun h => h rfl
    cases hb : w.heap[b]? with
    | none => simp [World.cell?, World.setCell, Array.getElem?_modify, hb]
    | some ob =>
      cases ob <;> simp [World.cell?, World.setCell, Array.getElem?_modify, hb, ho]
  · exact World.cell?_setCell_far _ _ _ _ e
def usedAt (kb : Nat) (w : World) : Nat := (intOf ((w.cell? ⟨kb, 3, none⟩).getD (.int .i64 0))).toNat
/-- How far the cells of an object have gone. -/
def DropI (B : Nat) (F : Nat → Prop) (w : World) (kb : Nat) (room : Int) (os : List Int) (Q : List Ob) (C : List CellV) (W : World) (C1 : List CellV) (free1 x : Int) (fr1 rest : List Nat) : Prop :=
  Kp C1 free1 Q fr1 rest ∧ Path C1 x rest ∧ (∀ q ∈ allO Q, C1[q]? = C[q]?) ∧ C1.length = C.length ∧ KTr B F w kb room C1 free1 ((rest.length + (allO Q).length : Nat) : Int) os W ∧ W.cell? ⟨kb, 4, none⟩ = w.cell? ⟨kb, 4, none⟩
theorem DropI.step {B kb : Nat} {F : Nat → Prop} {w W : World} {room free1 x : Int} {os : List Int} {Q : List Ob} {C C1 : List CellV} {fr1 rest : List Nat} {p : Nat} (h : DropI B F w kb room os Q C W C1 free1 x fr1 (p :: rest)) {a1 : Option Addr} {m c1 : Nat} (ha : W.cell? ⟨kb, 0, none⟩ = some (.slice a1 m c1)) :
    x = (p : Int) ∧ ∃ q c, a1 = some ⟨q, 0, none⟩ ∧ C1[p]? = some c ∧ DropI B F w kb room os Q C ((((((((W.setCell ⟨q, p * 5, none⟩ (.int .i64 0)).setCell ⟨q, p * 5 + 1, none⟩ (.int .i64 free1)).setCell ⟨q, p * 5 + 2, none⟩ (.bool false)).setCell ⟨q, p * 5 + 3, none⟩ (.bool false)).setCell ⟨q, p * 5 + 4, none⟩ (.bool false))).setCell ⟨kb, 1, none⟩ (.int .i64 (p : Int))).setCell ⟨kb, 3, none⟩ (.int .i64 ((rest.length + (allO Q).length : Nat) : Int))) (C1.set p ⟨0, free1, false, false, false⟩) p c.next (p :: fr1) rest := by
  obtain ⟨h1, h2, h3, h4, ⟨F2, k1, k2, k3⟩, h5⟩ := h
  obtain ⟨e, c, g1, g2⟩ := h1.drop h2
  obtain ⟨q, rfl, _, hqk, _⟩ := KeptT.at k1 g1 ha
  obtain ⟨m1, m2⟩ := g2 ⟨0, free1, false, false, false⟩ rfl rfl
  have hp := (List.getElem?_eq_some_iff.1 g1).1
  obtain ⟨t1, t2⟩ := KR.put5 k1 ha hp ⟨0, free1, false, false, false⟩ rfl
  obtain ⟨s1, s2, _⟩ := t1.setF (p : Int)
  obtain ⟨r1, r2, _⟩ := s1.setU ((rest.length + (allO Q).length : Nat) : Int)
  have hn := h1.nd
  refine ⟨e, q, c, rfl, g1, m1, m2, fun y hy => ?_, by rw [List.length_set]; exact h4, ktr_trans k2 k3 (KTr.put r1 ((t2.trans s2 fun _ _ h => h).trans r2 fun _ _ h => h)), ?_⟩
  · rw [List.getElem?_set_ne fun e => ?_]
    · exact h3 y hy
    · have := (List.perm_middle.nodup_iff).1 hn
      exact (List.nodup_cons.1 this).1 (by rw [e]; exact List.mem_append_right _ (List.mem_append_right _ hy))
  · rw [cell_apart _ (.inr (by decide)), cell_apart _ (.inr (by decide)), cell_apart _ (.inl hqk), cell_apart _ (.inl hqk), cell_apart _ (.inl hqk), cell_apart _ (.inl hqk), cell_apart _ (.inl hqk)]
    exact h5
theorem usedAt_of {kb n : Nat} {w : World} (h : w.cell? ⟨kb, 3, none⟩ = some (.int .i64 (n : Int))) : usedAt kb w = n := by
  unfold usedAt
  rw [h]
  simp [intOf]
theorem KTr.no {B kb : Nat} {F : Nat → Prop} {w w1 w2 : World} {room free used : Int} {C : List CellV} {os : List Int} (h : KTr B F w kb room C free used os w1) (hc : Ch noB w1 w2) : KTr B F w kb room C free used os w2 := by
  obtain ⟨F2, k1, k2, k3⟩ := h
  exact ⟨F2, KR.ch k1 hc fun _ _ h => h, k2, k3.trans hc fun _ _ h => h.elim⟩
theorem DropI.no {B kb : Nat} {F : Nat → Prop} {w W W1 : World} {room free1 x : Int} {os : List Int} {Q : List Ob} {C C1 : List CellV} {fr1 rest : List Nat} (h : DropI B F w kb room os Q C W C1 free1 x fr1 rest) (hc : Ch noB W W1) : DropI B F w kb room os Q C W1 C1 free1 x fr1 rest := by
  obtain ⟨h1, h2, h3, h4, h5, h6⟩ := h
  have hkl : ∃ v, W.cell? ⟨kb, 4, none⟩ = some v := by
    obtain ⟨F2, k1, _⟩ := h5
    obtain ⟨_, _, _, _, ⟨_, _, _, _, x4⟩, _⟩ := KR.look k1
    exact ⟨_, x4⟩
  obtain ⟨v, hv⟩ := hkl
  exact ⟨h1, h2, h3, h4, h5.no hc, by rw [hc.cell hv fun h => h, ← hv]; exact h6⟩
theorem DropI.used {B kb : Nat} {F : Nat → Prop} {w W : World} {room free1 x : Int} {os : List Int} {Q : List Ob} {C C1 : List CellV} {fr1 rest : List Nat} (h : DropI B F w kb room os Q C W C1 free1 x fr1 rest) : usedAt kb W = rest.length + (allO Q).length := by
  obtain ⟨h1, h2, h3, h4, ⟨F2, k1, _⟩, _⟩ := h
  obtain ⟨_, _, _, _, ⟨_, _, _, x3, _⟩, _⟩ := KR.look k1
  exact usedAt_of x3
set_option maxRecDepth 100000 in
set_option maxHeartbeats 4000000 in
/-- One object's cells go. -/
theorem drop_c (B kb : Nat) (F : Nat → Prop) (room free : Int) (u : Nat) (C : List CellV) (os : List Int) (Q : List Ob) (fr : List Nat) (p : Nat) (ps : List Nat) (w : World) (h : KeptT B F w kb room C free u os) (hk : Kp C free Q fr (p :: ps)) (hp : Path C (p : Int) (p :: ps)) (hu : u = (p :: ps).length + (allO Q).length) (hub : u ≤ 2000000000) :
    Calls Try.prog 32 #[.pointer (some ⟨kb, 0, none⟩), .int .i64 (p : Int)] w fun e w' => ∃ (C' : List CellV) (free' : Int) (fr' : List Nat), e = .returned (.tuple #[]) ∧ Kp C' free' Q fr' [] ∧ (∀ q ∈ allO Q, C'[q]? = C[q]?) ∧ C'.length = C.length ∧ KTr B F w kb room C' free' ((allO Q).length : Nat) os w' ∧ w'.cell? ⟨kb, 4, none⟩ = w.cell? ⟨kb, 4, none⟩ := by
  have hul : ps.length + 1 + (allO Q).length ≤ 2000000000 := by rw [hu] at hub; exact hub
  have HI0 : Hid (∃ C1 free1 fr1 rest, DropI B F w kb room os Q C w C1 free1 (p : Int) fr1 rest ∧ rest.length = ps.length + 1) := ⟨C, free, fr, p :: ps, ⟨hk, hp, fun _ _ => rfl, rfl, by rw [← hu]; exact KTr.same h, rfl⟩, rfl⟩
  obtain ⟨A, hA⟩ : ∃ A, A = (allO Q).length := ⟨_, rfl⟩
  obtain ⟨N, hN⟩ : ∃ N, N = ps.length + 1 := ⟨_, rfl⟩
  rw [← hN] at HI0
  rw [← hN, ← hA] at hul
  have HA := hideP hA
  clear h hk hp hA hN hu hub
  go_enter Try.func32, Try.ntmps32
  go_wp2_with fail
  go_loopw [4] (fun i wr => ∃ (x : Int) (k : Nat), i = .int .i64 x ∧ k ≤ N ∧ Hid (∃ C1 free1 fr1 rest, DropI B F w kb room os Q C wr C1 free1 x fr1 rest ∧ rest.length = k)) (fun _ wr => usedAt kb wr)
  case atStart => exact ⟨p, N, rfl, Nat.le_refl _, HI0.out⟩
  case round =>
    clear HI0
    obtain ⟨x, k, rfl, hk, HI⟩ := hrel
    obtain ⟨C1, free1, fr1, rest, hI, hr⟩ := HI.out
    have HI1 := hideP hI
    cases rest with
    | nil =>
      have hx : x = -1 := hI.2.1
      subst hx
      clear hI HI
      go_wp2_with fail
      obtain ⟨h1, _, h3, h4, h5, h6⟩ := HI1.out
      rw [List.length_nil, Nat.zero_add] at h5
      exact bodyPost_end (results_none rfl _ _ _) rfl ⟨C1, free1, fr1, rfl, h1, h3, h4, h5, h6⟩
    | cons p' rest =>
      obtain ⟨F2, k1, k2, k3⟩ := hI.2.2.2.2.1
      obtain ⟨a1, c1, a2, c2, ⟨x0, x1, x2, x3, x4⟩, xf, xl, _⟩ := KR.look k1
      obtain ⟨e, q, c, rfl, g1, HS⟩ := hI.step x0
      subst e
      obtain ⟨q', e, _, hqk, ⟨y0, y1, y2, y3, y4⟩, yf, yl⟩ := KeptT.at k1 g1 x0
      injection e with e
      injection e with e
      subst e
      have hp := (List.getElem?_eq_some_iff.1 g1).1
      rw [hI.2.2.2.1] at hp x0
      have hl : rest.length + 1 = k := hr
      obtain ⟨r, hrr⟩ : ∃ r, r = rest.length := ⟨_, rfl⟩
      rw [← HA.out] at HS x3
      rw [← hrr] at HS hl
      rw [List.length_cons, ← hrr] at x3
      have x3' : wr.cell? ⟨kb, 3, none⟩ = some (.int .i64 ((r : Int) + 1 + (A : Int))) := by rw [x3]; exact congrArg some (congrArg _ (by omega))
      obtain ⟨nx, hnx⟩ : ∃ nx, nx = c.next := ⟨_, rfl⟩
      rw [← hnx] at y1 HS
      have HS2 := hideP HS
      have HRR := hideP hrr
      have HI2 := hideP hI
      have hp0 : (0 : Int) ≤ (p' : Int) := by omega
      have hpl : (p' : Int) < (C.length : Int) := by omega
      have hpz : ¬ (p' : Int) = -1 := by omega
      have f1 := xf 1
      have f3 := xf 3
      have f0 := yf (p' * 5)
      have f5 := yf (p' * 5 + 1)
      have f2 := yf (p' * 5 + 2)
      have f4 := yf (p' * 5 + 3)
      have f6 := yf (p' * 5 + 4)
      clear hI HI HI1 HS hr hrr hnx xf yf x2 x3 x4 k1 k2 k3 g1 hp HA
      go_wp2_with fail
      go_region
      all_goals
        go_wp2_with fail
        rw [show (r : Int) + 1 + (A : Int) - 1 = ((r + A : Nat) : Int) by omega]
        have hd := HS2.out.no ((Ch.refl noB _).drew)
        refine ⟨⟨nx, r, rfl, by omega, _, _, _, _, hd, HRR.out.symm⟩, ?_⟩
        rw [hd.used, HI2.out.used, List.length_cons]
        omega
end Go.Proofs.Ytcpmdbdppdnkkaa
