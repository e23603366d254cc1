/- Part. -/
import Derived.Test.YtgblonhfidoleaaDoorPart43
set_option maxRecDepth 100000
set_option maxHeartbeats 4000000
/- The third turn: the closure that goes from module to module. -/
namespace Go.Proofs.YtgblonhfidoleaaDoor
open Go.Proofs.Tryd
open Go.RowKit Go.Maps
theorem row_get (D : Nat -> Nat -> Bool) (a : Nat) : ∀ k, k < 16 -> ((#[.bool (D a 0), .bool (D a 1), .bool (D a 2), .bool (D a 3), .bool (D a 4), .bool (D a 5), .bool (D a 6), .bool (D a 7), .bool (D a 8), .bool (D a 9), .bool (D a 10), .bool (D a 11), .bool (D a 12), .bool (D a 13), .bool (D a 14), .bool (D a 15)] : Array Value))[k]? = some (.bool (D a k)) := by
  intro k hk
  match k, hk with
  | 0, _ | 1, _ | 2, _ | 3, _ | 4, _ | 5, _ | 6, _ | 7, _ | 8, _ | 9, _ | 10, _ | 11, _ | 12, _ | 13, _ | 14, _ | 15, _ => rfl
  | n + 16, h => exact absurd h (by omega)
theorem visit_c (rc mc dc vc rb db n m : Nat) (D : Nat -> Nat -> Bool) (dir : List (List Bool)) (base : Nat -> Nat -> Bool) (hm : m < n) (hn : n <= 16) (hD : ∀ i j, i < n -> j < 16 -> D i j = (dir.getD i none16).getD j false) (hDn : ∀ i j, i < n -> j < 16 -> D i j = true -> j < n) :
    ∀ (f a : Nat) (r : List Bool) (w : World), a < n -> r.length = 16 -> unseen r < f -> Sees w rc mc dc vc rb db n m D -> BitsAt w rb n (rowF base m r) ->
    Calls prog 25 #[.int .i64 a, .pointer (some ⟨rc, 0, none⟩), .pointer (some ⟨mc, 0, none⟩), .pointer (some ⟨dc, 0, none⟩), .pointer (some ⟨vc, 0, none⟩)] w fun e w' => e = .returned (.tuple #[]) /\ BitsAt w' rb n (rowF base m (visitV dir f a r)) /\ Chg rb (fun b => b = rb) w w'
  | 0, _, _, _, _, _, hu, _, _ => absurd hu (Nat.not_lt_zero _)
  | f + 1, a, r, w, ha, hr, hu, hs, hb => by
    have IH := hideP (fun a' r' w' h1 h2 h3 h4 h5 => visit_c rc mc dc vc rb db n m D dir base hm hn hD hDn f a' r' w' h1 h2 h3 h4 h5)
    have HS := hideP hs
    have HB := hideP hb
    have HD := hideP hD
    have HDn := hideP hDn
    have c1 := hs.c1
    have c2 := hs.c2
    have c3 := hs.c3
    have c4 := hs.c4
    have hm' : (m : Int) < (n : Int) := by omega
    have ha' : (a : Int) < (n : Int) := by omega
    have ha16 : (a : Int) < 16 := by omega
    have hzn : ((n : Int) <= 9223372036854775807) := by omega
    obtain ⟨b1, b2⟩ := hb.cell hm (by omega : a < 16)
    have hrow : rowF base m r m a = r.getD a false := by unfold rowF; rw [if_pos rfl]
    rw [hrow] at b1
    clear hs hb hD hDn hrow
    obtain ⟨R, hR⟩ : ∃ R, R = visitV dir (f + 1) a r := ⟨_, rfl⟩
    rw [<- hR]
    rw [visitV_succ] at hR
    cases hx : r.getD a false with
    | true =>
      rw [hx, if_pos rfl] at hR
      have HR := hideP hR
      rw [hx] at b1
      clear hR hx
      go_enter func25, ntmps25
      go_wp2_with fail
      refine bodyPost_ret (results_none rfl _ _ _) rfl ⟨rfl, ?_, Chg.refl _ _ _⟩
      rw [HR.out]
      exact HB.out
    | false =>
      rw [hx, if_neg (by simp)] at hR
      have HR := hideP hR
      have hus := unseen_set (by omega : a < r.length) hx
      have hrl : (r.set a true).length = 16 := by rw [List.length_set]; exact hr
      rw [hx] at b1
      have HC2 : Hid (Chg rb (fun b => b = rb) w (w.setCell ⟨rb, m * 16 + a, none⟩ (.bool true))) := (Chg.refl rb (fun b => b = rb) w).set (Nat.le_refl _) (fun _ => rfl) _ _
      have HS2 := hideP (HS.out.chg HC2.out)
      have HB2 : Hid (BitsAt (w.setCell ⟨rb, m * 16 + a, none⟩ (.bool true)) rb n (rowF base m (r.set a true))) := (HB.out.put hm (by omega : a < 16) true).congr fun i j _ _ => (rowF_set base m a r (by omega) i j).symm
      have c1' := HS2.out.c1
      have c2' := HS2.out.c2
      have c3' := HS2.out.c3
      have c4' := HS2.out.c4
      have q0 : (w.setCell ⟨rb, m * 16 + a, none⟩ (.bool true)).cell? ⟨db, a * 16, none⟩ = some (.bool (D a 0)) := by have := (HS2.out.bd.cell ha (by omega : 0 < 16)).1; rw [Nat.add_zero] at this; exact this
      have q1 : (w.setCell ⟨rb, m * 16 + a, none⟩ (.bool true)).cell? ⟨db, a * 16 + 1, none⟩ = some (.bool (D a 1)) := (HS2.out.bd.cell ha (by omega : 1 < 16)).1
      have q2 : (w.setCell ⟨rb, m * 16 + a, none⟩ (.bool true)).cell? ⟨db, a * 16 + 2, none⟩ = some (.bool (D a 2)) := (HS2.out.bd.cell ha (by omega : 2 < 16)).1
      have q3 : (w.setCell ⟨rb, m * 16 + a, none⟩ (.bool true)).cell? ⟨db, a * 16 + 3, none⟩ = some (.bool (D a 3)) := (HS2.out.bd.cell ha (by omega : 3 < 16)).1
      have q4 : (w.setCell ⟨rb, m * 16 + a, none⟩ (.bool true)).cell? ⟨db, a * 16 + 4, none⟩ = some (.bool (D a 4)) := (HS2.out.bd.cell ha (by omega : 4 < 16)).1
      have q5 : (w.setCell ⟨rb, m * 16 + a, none⟩ (.bool true)).cell? ⟨db, a * 16 + 5, none⟩ = some (.bool (D a 5)) := (HS2.out.bd.cell ha (by omega : 5 < 16)).1
      have q6 : (w.setCell ⟨rb, m * 16 + a, none⟩ (.bool true)).cell? ⟨db, a * 16 + 6, none⟩ = some (.bool (D a 6)) := (HS2.out.bd.cell ha (by omega : 6 < 16)).1
      have q7 : (w.setCell ⟨rb, m * 16 + a, none⟩ (.bool true)).cell? ⟨db, a * 16 + 7, none⟩ = some (.bool (D a 7)) := (HS2.out.bd.cell ha (by omega : 7 < 16)).1
      have q8 : (w.setCell ⟨rb, m * 16 + a, none⟩ (.bool true)).cell? ⟨db, a * 16 + 8, none⟩ = some (.bool (D a 8)) := (HS2.out.bd.cell ha (by omega : 8 < 16)).1
      have q9 : (w.setCell ⟨rb, m * 16 + a, none⟩ (.bool true)).cell? ⟨db, a * 16 + 9, none⟩ = some (.bool (D a 9)) := (HS2.out.bd.cell ha (by omega : 9 < 16)).1
      have q10 : (w.setCell ⟨rb, m * 16 + a, none⟩ (.bool true)).cell? ⟨db, a * 16 + 10, none⟩ = some (.bool (D a 10)) := (HS2.out.bd.cell ha (by omega : 10 < 16)).1
      have q11 : (w.setCell ⟨rb, m * 16 + a, none⟩ (.bool true)).cell? ⟨db, a * 16 + 11, none⟩ = some (.bool (D a 11)) := (HS2.out.bd.cell ha (by omega : 11 < 16)).1
      have q12 : (w.setCell ⟨rb, m * 16 + a, none⟩ (.bool true)).cell? ⟨db, a * 16 + 12, none⟩ = some (.bool (D a 12)) := (HS2.out.bd.cell ha (by omega : 12 < 16)).1
      have q13 : (w.setCell ⟨rb, m * 16 + a, none⟩ (.bool true)).cell? ⟨db, a * 16 + 13, none⟩ = some (.bool (D a 13)) := (HS2.out.bd.cell ha (by omega : 13 < 16)).1
      have q14 : (w.setCell ⟨rb, m * 16 + a, none⟩ (.bool true)).cell? ⟨db, a * 16 + 14, none⟩ = some (.bool (D a 14)) := (HS2.out.bd.cell ha (by omega : 14 < 16)).1
      have q15 : (w.setCell ⟨rb, m * 16 + a, none⟩ (.bool true)).cell? ⟨db, a * 16 + 15, none⟩ = some (.bool (D a 15)) := (HS2.out.bd.cell ha (by omega : 15 < 16)).1
      have hix := fun k hk W => run_idx #[.bool (D a 0), .bool (D a 1), .bool (D a 2), .bool (D a 3), .bool (D a 4), .bool (D a 5), .bool (D a 6), .bool (D a 7), .bool (D a 8), .bool (D a 9), .bool (D a 10), .bool (D a 11), .bool (D a 12), .bool (D a 13), .bool (D a 14), .bool (D a 15)] k hk _ (row_get D a k hk) W
      have HIX := hideP hix
      obtain ⟨r0, hr0⟩ : ∃ r0, r0 = r.set a true := ⟨_, rfl⟩
      rw [<- hr0] at HR hus hrl HB2
      clear hR hx hix hr0
      go_enter func25, ntmps25
      go_wp2_with fail
      clear c1 c2 c3 c4 c1' c2' c3' c4' b1 b2 q0 q1 q2 q3 q4 q5 q6 q7 q8 q9 q10 q11 q12 q13 q14 q15
      go_loopw [23] (fun i wr => ∃ k : Nat, k <= 16 /\ i = .int .i64 k /\ Hid (BitsAt wr rb n (rowF base m (visitK dir f a r0 k))) /\ Hid (Chg rb (fun b => b = rb) w wr)) (fun i _ => 16 - (intOf i).toNat)
      case atStart => exact ⟨0, by omega, rfl, HB2.out, HC2.out⟩
      case round =>
        obtain ⟨k, hk, rfl, HA, HC⟩ := hrel
        by_cases hkl : k < 16
        · have hkl' : (k : Int) < 16 := by omega
          have hix := HIX.out k hkl
          have c4 := (HS.out.chg HC.out).c4
          have HSn := hideP (visitK_succ dir f a r0 k)
          have hDk := HD.out a k ha hkl
          rw [<- hDk] at HSn
          have hvb := visitK_both dir f a r0 hrl k (by omega)
          have HVb := hideP hvb
          clear hDk hvb
          cases hx : D a k with
          | true =>
            have hkn := HDn.out a k ha hkl hx
            rw [hx, if_pos rfl] at HSn
            rw [hx] at hix
            clear hx
            go_wp2_with fail
            refine (IH.out k _ wr hkn HVb.out.1 (by have := HVb.out.2; omega) (HS.out.chg HC.out) HA.out).mono ?_
            rintro e w2 ⟨rfl, h2, h3⟩
            have H2 := hideP h2
            have H3 := hideP h3
            clear h2 h3
            go_wp2_with fail
            go_roundw
            case rel => exact ⟨k + 1, by omega, by go_num, by rw [HSn.out]; exact H2.out, HC.out.trans H3.out fun b _ e => e⟩
            case measure => simp [intOf]; omega
          | false =>
            rw [hx, if_neg (by simp)] at HSn
            rw [hx] at hix
            clear hx
            go_wp2_with fail
            go_roundw
            case rel => exact ⟨k + 1, by omega, by go_num, by rw [HSn.out]; exact HA.out, HC.out⟩
            case measure => simp [intOf]; omega
        · have hkl' : ¬ (k : Int) < 16 := by omega
          have e : k = 16 := by omega
          subst e
          go_wp2_with fail
          refine bodyPost_end (results_none rfl _ _ _) rfl ⟨rfl, ?_, HC.out⟩
          rw [HR.out]
          exact HA.out
end Go.Proofs.YtgblonhfidoleaaDoor
/- The third turn: what each module reaches. -/
namespace Go.Proofs.YtgblonhfidoleaaDoor
open Go.Proofs.Tryd
open Go.RowKit Go.Maps
theorem directV_true (num : Num) (j : Nat) : ∀ (l : List Imp) (r : List Bool), (directV num l r).getD j false = true -> r.getD j false = true ∨ ∃ i ∈ l, numOf num i.fr = j
  | [], _, h => .inl h
  | i :: l, r, h => by
    rcases directV_true num j l _ h with h | ⟨x, hx, e⟩
    · by_cases e : j = numOf num i.fr
      · exact .inr ⟨i, by simp, e.symm⟩
      · refine .inl ?_
        rw [List.getD_eq_getElem?_getD, List.getElem?_set, if_neg (fun h => e h.symm), <- List.getD_eq_getElem?_getD] at h
        exact h
    · exact .inr ⟨x, by simp [hx], e⟩
theorem dirG_lt {lo kb nb : Nat} {w : World} {L : L1} {r : Rw} (h : Vw lo kb nb w L r) (i j : Nat) (hi : i < L.mods.length) (hx : dirG L.num L.mods i j = true) : j < L.mods.length := by
  unfold dirG at hx
  rw [dirs_at L.num L.mods hi] at hx
  rcases directV_true _ _ _ _ hx with h1 | ⟨x, _, e⟩
  · rw [none16_get] at h1
    cases h1
  · rw [<- e]
    exact h.numOf_lt (by omega) x.fr
def reF (dir : List (List Bool)) (k i j : Nat) : Bool := if i < k then (visitV dir 17 i none16).getD j false else false
def reG (dir : List (List Bool)) (i j : Nat) : Bool := ((reachV dir).getD i none16).getD j false
theorem reF_row (dir : List (List Bool)) (k i j : Nat) : rowF (reF dir k) k none16 i j = reF dir k i j := by
  unfold rowF reF
  by_cases e : i = k
  · rw [if_pos e, none16_get, if_neg (by omega)]
  · rw [if_neg e]
theorem reF_next (dir : List (List Bool)) (k i j : Nat) : rowF (reF dir k) k (visitV dir 17 k none16) i j = reF dir (k + 1) i j := by
  unfold rowF reF
  by_cases e : i = k
  · rw [if_pos e, e, if_pos (by omega)]
  · rw [if_neg e]
    by_cases h : i < k
    · rw [if_pos h, if_pos (by omega)]
    · rw [if_neg h, if_neg (by omega)]
theorem reF_end (dir : List (List Bool)) (n i j : Nat) (hn : dir.length = n) (hi : i < n) : reF dir n i j = reG dir i j := by
  unfold reF reG reachV
  rw [if_pos hi, List.getD_eq_getElem?_getD (l := List.map _ _), List.getElem?_map, List.getElem?_range (by omega)]
  rfl
theorem reach_c (lo kb nb : Nat) (L : L1) (r : Rw) (w : World) (c2 c3 c4 c5 c8 : Value) (hV : Vw lo kb nb w L r) (hb : w.heap[kb]? = some (vwO nb L r c2 c3 c4 c5 c8)) :
    Calls prog 20 #[.pointer (some ⟨kb, 0, none⟩)] w fun e w' => ∃ rb, e = .returned (.slice (some ⟨rb, 0, none⟩) L.mods.length L.mods.length) /\ w.heap.size <= rb /\ BitsAt w' rb L.mods.length (reG (directsV L.num L.mods)) /\ Below w.heap.size w w' := by
  have hml := hV.ml
  have HV := hideP hV
  have HDC := hideP (direct_c lo kb nb L r w c2 c3 c4 c5 c8 hV hb)
  have hmf : ∀ (fn : Fn) (first cap : Array Value) (w : World), (Instr.makeFunc fn first cap).run prog w = .ok (.func fn first cap) w := fun _ _ _ _ => rfl
  have hsf : ∀ (W : World) (a : Addr) (f : Fn) (x y : Array Value) (m : Mode), (store a (.func f x y) m).run prog W = stored prog W a (.func f x y) m := fun W a f x y m => run_store prog W a (.func f x y) m rfl
  have hdl : (directsV L.num L.mods).length = L.mods.length := by unfold directsV; rw [List.length_map]
  have HLt := hideP (fun i j hi (_ : j < 16) hx => dirG_lt hV i j hi hx)
  obtain ⟨n, hn⟩ : ∃ n, n = L.mods.length := ⟨_, rfl⟩
  obtain ⟨D, hD⟩ : ∃ D, D = dirG L.num L.mods := ⟨_, rfl⟩
  obtain ⟨dir, hdir⟩ : ∃ dir, dir = directsV L.num L.mods := ⟨_, rfl⟩
  have HD : Hid (∀ i j, i < n -> j < 16 -> D i j = (dir.getD i none16).getD j false) := fun i j _ _ => by rw [hD, hdir]; rfl
  rw [<- hn] at hml HDC hdl HLt ⊢
  rw [<- hD] at HDC HLt
  rw [<- hdir] at hdl ⊢
  have hmk := run_bits n (by omega)
  have hzn : ((n : Int) <= 9223372036854775807) := by omega
  clear hV hb hn hD hdir
  go_enter func20, ntmps20
  go_wp2_with fail
  refine HDC.out.mono ?_
  rintro e w1 ⟨rfl, h1, h2⟩
  have HB1 := hideP h1
  have HL1 := hideP h2
  have hs1 : w.heap.size < w1.heap.size := h1.lt
  clear h1 h2 HDC
  go_wp2_with fail
  obtain ⟨W, hW⟩ : ∃ W, W = ((w1.alloc (.cells #[.slice (some ⟨w.heap.size, 0, none⟩) n n] 71)).alloc (bits0 n)).alloc (.cells #[.slice (some ⟨w1.heap.size + 1, 0, none⟩) n n] 71) := ⟨_, rfl⟩
  rw [<- hW]
  have e1 : (w1.alloc (.cells #[.slice (some ⟨w.heap.size, 0, none⟩) n n] 71)).heap.size = w1.heap.size + 1 := World.size_alloc _ _
  have e2 : ((w1.alloc (.cells #[.slice (some ⟨w.heap.size, 0, none⟩) n n] 71)).alloc (bits0 n)).heap.size = w1.heap.size + 2 := by rw [World.size_alloc, e1]
  have HBd : Hid (BitsAt W w.heap.size n D) := by rw [hW]; exact HB1.out.block ((Below.heap_alloc _ _ _ (by rw [e2]; omega)).trans ((Below.heap_alloc _ _ _ (by rw [e1]; omega)).trans (Below.heap_alloc _ _ _ hs1)))
  have HBr : Hid (BitsAt W (w1.heap.size + 1) n (fun _ _ => false)) := by
    rw [hW]
    have := bits_made (w1.alloc (.cells #[.slice (some ⟨w.heap.size, 0, none⟩) n n] 71)) n
    rw [e1] at this
    exact this.block (Below.heap_alloc _ _ _ (by rw [e2]; omega))
  have HDo : Hid (W.heap[w1.heap.size]? = some (.cells #[.slice (some ⟨w.heap.size, 0, none⟩) n n] 71)) := by rw [hW]; exact (Below.heap_alloc _ _ _ (by rw [e2]; omega)).trans ((Below.heap_alloc _ _ _ (by rw [e1]; omega)).trans (heap_alloc_last _ _))
  have HRo : Hid (W.heap[w1.heap.size + 2]? = some (.cells #[.slice (some ⟨w1.heap.size + 1, 0, none⟩) n n] 71)) := by rw [hW, <- e2]; exact heap_alloc_last _ _
  have HWs : Hid (W.heap.size = w1.heap.size + 3) := by rw [hW]; show _ = _; rw [World.size_alloc, e2]
  have HWb : Hid (Below w.heap.size w W) := by rw [hW]; exact ((HL1.out.alloc (by omega) _).alloc (by rw [e1]; omega) _).alloc (by rw [e2]; omega) _
  clear hW e1 e2 HB1 HL1 hmk
  obtain ⟨x1, hx1⟩ : ∃ x1, x1 = w1.heap.size := ⟨_, rfl⟩
  rw [<- hx1] at HBr HDo HRo HWs hs1 ⊢
  clear hx1
  have hcell : W.cell? ⟨x1, 0, none⟩ = some (.slice (some ⟨w.heap.size, 0, none⟩) n n) := by have := HDo.out; simp [World.cell?, this]
  go_wp2_with fail
  clear hcell
  go_loopw [14] (fun i wr => ∃ k : Nat, k <= n /\ i = .int .i64 k /\ Hid (BitsAt wr (x1 + 1) n (reF dir k)) /\ Hid (Chg (x1 + 1) (fun b => b = x1 + 1) W wr)) (fun i _ => n - (intOf i).toNat)
  case atStart =>
    refine ⟨0, by omega, rfl, HBr.out.congr fun i j _ _ => ?_, Chg.refl _ _ _⟩
    unfold reF
    rw [if_neg (by omega)]
  case round =>
    obtain ⟨k, hk, rfl, HA, HC⟩ := hrel
    by_cases hkl : k < n
    · have hkl' : (k : Int) < (n : Int) := by omega
      have hws : x1 + 3 <= wr.heap.size := by have := HC.out.size; rw [HWs.out] at this; exact this
      obtain ⟨Wc, hWc⟩ : ∃ Wc, Wc = (wr.alloc (.cells #[.int .i64 k] 3)).alloc (.cells #[visitFn (x1 + 1 + 1) wr.heap.size x1 (wr.heap.size + 1)] 82) := ⟨_, rfl⟩
      have e1 : (wr.alloc (.cells #[.int .i64 k] 3)).heap.size = wr.heap.size + 1 := World.size_alloc _ _
      have hbw : Below wr.heap.size wr Wc := by rw [hWc]; exact below_next (bl_alloc wr _) (bl_alloc _ _)
      have HBw := hideP hbw
      have HSe : Hid (Sees Wc (x1 + 1 + 1) wr.heap.size x1 (wr.heap.size + 1) (x1 + 1) w.heap.size n k D) := by
        have o1 := (hbw.block (x1 + 1 + 1) (by omega)).trans (HC.out.obj HRo.out (by omega))
        have o3 := (hbw.block x1 (by omega)).trans (HC.out.obj HDo.out (by omega))
        have o2 : Wc.heap[wr.heap.size]? = some (.cells #[.int .i64 k] 3) := by rw [hWc]; exact (Below.heap_alloc _ _ _ (by rw [e1]; omega)).trans (heap_alloc_last _ _)
        have o4 : Wc.heap[wr.heap.size + 1]? = some (.cells #[visitFn (x1 + 1 + 1) wr.heap.size x1 (wr.heap.size + 1)] 82) := by rw [hWc, <- e1]; exact heap_alloc_last _ _
        refine ⟨by simp [World.cell?, o1], by simp [World.cell?, o2], by simp [World.cell?, o3], by simp [World.cell?, o4], ?_, by omega, by omega, by omega, by omega, by omega⟩
        exact HBd.out.block ((hbw.block w.heap.size (by omega)).trans (HC.out.keep _ HBd.out.lt (by omega)))
      have HA2 : Hid (BitsAt Wc (x1 + 1) n (rowF (reF dir k) k none16)) := (HA.out.block (hbw.block (x1 + 1) (by omega))).congr fun i j _ _ => (reF_row dir k i j).symm
      clear hbw e1
      go_wp2_with fail
      rw [<- hWc]
      clear hWc
      refine (visit_c (x1 + 1 + 1) wr.heap.size x1 (wr.heap.size + 1) (x1 + 1) w.heap.size n k D dir (reF dir k) hkl hml HD.out HLt.out 17 k none16 Wc hkl rfl (by decide) HSe.out HA2.out).mono ?_
      rintro e w3 ⟨rfl, h2, h3⟩
      have H2 := hideP h2
      have H3 := hideP h3
      clear h2 h3
      go_wp2_with fail
      go_roundw
      case rel =>
        refine ⟨k + 1, by omega, by go_num, H2.out.congr fun i j _ _ => reF_next dir k i j, ?_⟩
        have hcw : Chg (x1 + 1) (fun b => b = x1 + 1) W Wc := HC.out.trans (Chg.of (S := fun b => b = x1 + 1) HBw.out (by omega)) fun _ _ e => e
        exact hcw.trans H3.out fun _ _ e => e
      case measure => simp [intOf]; omega
    · have hkl' : ¬ (k : Int) < (n : Int) := by omega
      have e : k = n := by omega
      subst e
      have hro := HC.out.obj HRo.out (by omega)
      have hcell : wr.cell? ⟨x1 + 2, 0, none⟩ = some (.slice (some ⟨x1 + 1, 0, none⟩) k k) := by simp [World.cell?, hro]
      clear hro
      go_wp2_with fail
      go_ret
      exact ⟨x1 + 1, rfl, by omega, HA.out.congr fun i j hi _ => reF_end dir k i j hdl hi, HWb.out.trans (HC.out.below.mono (by omega))⟩
end Go.Proofs.YtgblonhfidoleaaDoor
