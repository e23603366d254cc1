/- Part of the proof of TreeNormal: the texts that follow, in build order. -/
import Derived.Test.YtmpcjcjacpjilabGreatDoorPart5
import Derived.Test.YtmpcjcjacpjilabGreatDoorPart3

/- tree.everyPart over nodes, tree.isExpression, by contracts. -/
namespace Go.Proofs.YtmpcjcjacpjilabGreatDoor
open Go.RowKit

theorem nlev_height {w0 wr : World} {n : Nat} {v : Value} {Ds : List Ty} {ps : List (Value × List Ty)} {vs : List Value} (h : NLev w0 wr true n v Ds ps vs) (hne : Ds ≠ []) : 1 + hiL n ps = maxL (Ds.map (heightT (n + 1))) := by
  apply Nat.le_antisymm
  · have h1 : hiL n ps ≤ maxL (Ds.map (heightT (n + 1))) - 1 := by
      refine maxL_le fun a ha => ?_
      obtain ⟨p, hp, rfl⟩ := List.mem_map.1 ha
      obtain ⟨D, hD, e⟩ := h.fr p hp
      have := le_maxL (List.mem_map.2 ⟨D, hD, rfl⟩ : heightT (n + 1) D ∈ Ds.map (heightT (n + 1)))
      rw [heightT] at this
      rw [e]
      omega
    obtain ⟨D, rest, e⟩ := List.exists_cons_of_ne_nil hne
    have h2 := le_maxL (List.mem_map.2 ⟨D, by rw [e]; simp, rfl⟩ : heightT (n + 1) D ∈ Ds.map (heightT (n + 1)))
    rw [heightT] at h2
    omega
  · refine maxL_le fun a ha => ?_
    obtain ⟨D, hD, rfl⟩ := List.mem_map.1 ha
    rw [heightT]
    by_cases hk : kidsT D = []
    · rw [hk]
      simp [maxL]
    · obtain ⟨p, hp, e⟩ := h.al rfl D hD hk
      have := le_maxL (List.mem_map.2 ⟨p, hp, rfl⟩ : maxL (p.2.map (heightT n)) ∈ ps.map fun p => maxL (p.2.map (heightT n)))
      rw [e] at this
      unfold hiL
      omega

theorem nhiL_pos {w : World} {u : Bool} {n : Nat} {ps : List (Value × List Ty)} (h : ∀ p ∈ ps, NLst w u n p.1 p.2) (hne : ps ≠ []) : 1 ≤ hiL n ps := by
  obtain ⟨p, rest, rfl⟩ := List.exists_cons_of_ne_nil hne
  obtain ⟨b, o, c, _, hne2, _, hk⟩ := h p (by simp)
  obtain ⟨D, ks, e⟩ := List.exists_cons_of_ne_nil hne2
  have hm : ∃ m, n = m + 1 := by
    rcases hk with hk | ⟨_, _, _, _, hc⟩
    · exact absurd hk hne2
    · obtain ⟨_, _, _, _, _, _, _, ht⟩ := hc 0 (List.length_pos_iff.2 hne2)
      cases n with
      | zero => exact ht.elim
      | succ m => exact ⟨m, rfl⟩
  obtain ⟨m, rfl⟩ := hm
  have h1 := le_maxL (List.mem_map.2 ⟨D, by rw [e]; simp, rfl⟩ : heightT (m + 1) D ∈ p.2.map (heightT (m + 1)))
  have h2 := le_maxL (List.mem_map.2 ⟨p, by simp, rfl⟩ : maxL (p.2.map (heightT (m + 1))) ∈ (p :: rest).map fun p => maxL (p.2.map (heightT (m + 1))))
  rw [heightT] at h1
  unfold hiL
  omega

theorem nflat_ne {w : World} {u : Bool} {n : Nat} {ps : List (Value × List Ty)} (h : ∀ p ∈ ps, NLst w u n p.1 p.2) (hne : ps ≠ []) : (ps.map (·.2)).flatten ≠ [] := by
  obtain ⟨p, rest, rfl⟩ := List.exists_cons_of_ne_nil hne
  obtain ⟨b, o, c, _, hne2, _, hk⟩ := h p (by simp)
  simp [hne2]

/-- A level in memory, as Height keeps it. -/
def NLevel (w : World) (u : Bool) (m : Nat) (v : Value) (ps : List (Value × List Ty)) : Prop :=
  ∃ a c, v = .slice a ps.length c ∧ RowAt w a (ps.map (·.1)) ∧ (∀ p ∈ ps, NLst w u m p.1 p.2) ∧ totL m ps ≤ 1000

theorem nlevel_of_lev {w0 wr : World} {u : Bool} {n : Nat} {v : Value} {Ds : List Ty} {ps : List (Value × List Ty)} {vs : List Value} (h : NLev w0 wr u n v Ds ps vs) (ht : (Ds.map (sizeT (n + 1))).sum ≤ 1000) : NLevel wr u n v ps := by
  obtain ⟨a, c, e, hr, _⟩ := row_of_owns h.ow
  rw [List.length_map] at e
  exact ⟨a, c, e, hr, fun p hp => nlst_below (h.ls p hp) h.bl, Nat.le_trans h.tt ht⟩

/-- The first level: one list of one node. -/
theorem nfirst_level {w : World} {u : Bool} {n : Nat} {k : Nat} {tx : ByteArray} {N : Nat} {ka : Option Addr} {kl kc : Nat} {D : Ty} {B : Nat} (hB : B = w.heap.size) (h : NdAt w n k tx N ka kl kc D) (hs : sizeT n D ≤ 1000) :
    NLevel ((w.alloc (ndO k tx N ka kl kc)).alloc (.cells #[.slice (some ⟨B, 0, none⟩) 1 1] 33)) u n (.slice (some ⟨B + 1, 0, none⟩) 1 1) [(.slice (some ⟨B, 0, none⟩) 1 1, [D])] := by
  subst hB
  have hb := below_next (bl_alloc w (ndO k tx N ka kl kc)) (bl_alloc _ (.cells #[.slice (some ⟨w.heap.size, 0, none⟩) 1 1] 33))
  have h0 : ((w.alloc (ndO k tx N ka kl kc)).alloc (.cells #[.slice (some ⟨w.heap.size, 0, none⟩) 1 1] 33)).heap[w.heap.size]? = some (ndO k tx N ka kl kc) := by
    rw [Below.heap_alloc _ _ _ (by simp)]
    exact heap_alloc_last w _
  have h1 : ((w.alloc (ndO k tx N ka kl kc)).alloc (.cells #[.slice (some ⟨w.heap.size, 0, none⟩) 1 1] 33)).heap[w.heap.size + 1]? = some (.cells #[.slice (some ⟨w.heap.size, 0, none⟩) 1 1] 33) := heap_at1 w _ _
  refine ⟨_, _, rfl, .inr ⟨_, 0, rfl, lt_of_block h1, fun i hi => ?_⟩, fun p hp => ?_, by simpa [totL] using hs⟩
  · obtain rfl : i = 0 := by simp at hi; omega
    rw [cell_of_row _ _ _ _ _ _ h1]
    rfl
  · rw [List.mem_singleton.1 hp]
    refine ⟨_, _, _, rfl, by simp, by simp [reachBytes], .inr ⟨_, _, rfl, ⟨_, _, h0⟩, fun i hi => ?_⟩⟩
    obtain rfl : i = 0 := by simp at hi; omega
    exact ⟨k, tx, N, ka, kl, kc, by simpa using (nd_facts h0).1, nd_below h hb⟩

theorem nnext_zero (u : Bool) (v : Value) (ps : List (Value × List Ty)) (w : World) (h : NLevel w u 0 v ps) : ps = [] := by
  obtain ⟨a, c, _, _, hls, _⟩ := h
  cases ps with
  | nil => rfl
  | cons p ps =>
    obtain ⟨b, o, c, _, hne2, _, hk⟩ := hls p (by simp)
    rcases hk with hk | ⟨_, _, _, _, hc⟩
    · exact absurd hk hne2
    · obtain ⟨_, _, _, _, _, _, _, ht⟩ := hc 0 (List.length_pos_iff.2 hne2)
      exact ht.elim


set_option maxHeartbeats 4000000 in
set_option maxRecDepth 100000 in
theorem everyN_c (n : Nat) (k : Nat) (tx : ByteArray) (N : Nat) (ka : Option Addr) (kl kc : Nat) (D : Ty) (S : Ty → Prop) (fb : Ty → Bool) (w : World) (h : NdAt w (n + 1) k tx N ka kl kc D) (hs : sizeT (n + 1) D ≤ 1000) (hh : heightT (n + 1) D ≤ 25) (hn : S D) (hS : ∀ D, S D → ∀ x ∈ kidsT D, S x) (hfb : ∀ D, S D → fb D = true) (hf : NFit w S fb) :
    Calls Tryz.prog 35 #[ndV k tx N ka kl kc, .int .i64 25, kidsN, fitsN] w fun e w' => e = .returned (.bool true) ∧ Below w.heap.size w w' := by
  have hb1 := below_next (bl_alloc w (ndO k tx N ka kl kc)) (bl_alloc _ (.cells #[fitsN] 41))
  have hlv := nfirst_level (u := true) (B := w.heap.size + 1 + 1) (by simp) (nd_below h hb1) hs
  have hb2 := below_next (below_next hb1 (bl_alloc _ (ndO k tx N ka kl kc))) (bl_alloc _ (.cells #[.slice (some ⟨w.heap.size + 1 + 1, 0, none⟩) 1 1] 33))
  obtain ⟨W, hW⟩ : ∃ W, W = (((w.alloc (ndO k tx N ka kl kc)).alloc (.cells #[fitsN] 41)).alloc (ndO k tx N ka kl kc)).alloc (.cells #[.slice (some ⟨w.heap.size + 1 + 1, 0, none⟩) 1 1] 33) := ⟨_, rfl⟩
  have hxb : W.heap[w.heap.size + 1]? = some (.cells #[fitsN] 41) := by
    rw [hW, Below.heap_alloc _ _ _ (by simp), Below.heap_alloc _ _ _ (by simp)]
    exact heap_at1 w _ _
  rw [← hW] at hlv hb2
  have HLV := hideP hlv
  have HB2 := hideP hb2
  have HXB := hideP hxb
  have HWW := hideP hW
  have HF := hideP hf
  have HSS := hideP hS
  have HFB := hideP hfb
  have HH := hideP hh
  have HN := hideP hn
  have HI : Hid (hiL (n + 1) [(Value.slice (some ⟨w.heap.size + 1 + 1, 0, none⟩) 1 1, [D])] + 0 = heightT (n + 1) D) := by
    show _ = _
    simp [hiL, maxL]
  clear hb1 hlv hb2 hxb hW hf hn h hs hS hfb hh
  go_enter Tryz.func35, Tryz.ntmps35
  go_wp2_with fail
  go_loopw [9, 10] (fun l s wr => ∃ (h m : Nat) (ps : List (Value × List Ty)), s = .int .i64 h ∧ h ≤ 25 ∧ Hid (NLevel wr true m l ps) ∧ Hid (hiL m ps + h = heightT (n + 1) D) ∧ Hid (∀ p ∈ ps, ∀ x ∈ p.2, S x) ∧ Hid (Below W.heap.size W wr)) (fun _ s _ => 26 - (intOf s).toNat)
  case atStart =>
    refine ⟨0, n + 1, _, rfl, by omega, by show NLevel _ _ _ _ _; rw [← HWW.out]; exact HLV.out, HI, ?_, by show Below _ _ _; rw [← HWW.out]; exact Below.refl _ _⟩
    intro p hp x hx
    rw [List.mem_singleton.1 hp] at hx
    rw [List.mem_singleton.1 hx]
    exact HN.out
  case round =>
    obtain ⟨h, m, ps, rfl, h2, hlv, hhi, hnn, hb⟩ := hrel
    have hlv' := hlv.out
    obtain ⟨a, c, rfl, hrow, hls, htot⟩ := hlv'
    have htl : ps.length ≤ 1000 := Nat.le_trans (ntot_len hls) htot
    have HLS := hideP hls
    have HT := hideP htot
    have HR := hideP hrow
    have HBW := hideP (below_next HB2.out hb.out)
    have hxr := (hb.out.block _ (lt_of_block HXB.out)).trans HXB.out
    clear hrow hls htot
    by_cases hz : ps = []
    · subst hz
      clear hlv HLS hxr
      go_wp2_with fail
      go_ret
      exact ⟨rfl, HBW.out⟩
    · have hp : 1 ≤ ps.length := List.length_pos_iff.2 hz
      have hpi : (0 : Int) < (ps.length : Int) := by omega
      by_cases hh : h = 25
      · have h1 := hhi.out
        have h3 := nhiL_pos HLS.out hz
        have := HH.out
        omega
      · have h16 : h < 25 := by omega
        have hhe : ((h : Int) == 25) = false := by rw [beq_eq_false_iff_ne]; omega
        cases m with
        | zero => exact absurd (nnext_zero true _ _ _ hlv.out) hz
        | succ m =>
          have hcx : wr.cell? ⟨w.heap.size + 1, 0, none⟩ = some fitsN := by rw [cell_of_row _ _ _ _ _ _ hxr]; rfl
          have HC1 := hideP (allListsN_c (m + 1) (w.heap.size + 1) S fb a c ps wr hcx (fun n k tx N ka kl kc D wx hwx => HF.out n k tx N ka kl kc D wx (below_next HBW.out hwx)) HR.out HLS.out (by omega) hnn.out)
          have hqa : (ps.all fun q => q.2.all fb) = true := by
            rw [List.all_eq_true]
            intro q hq
            rw [List.all_eq_true]
            exact fun x hx => HFB.out x (hnn.out q hq x hx)
          rw [hqa] at HC1
          clear hqa
          have HNE := hideP (nflat_ne HLS.out hz)
          clear hlv hz hh hxr hcx
          go_wp2_with fail
          refine HC1.out.mono ?_
          rintro e w1 ⟨rfl, hb1⟩
          have hb1' := below_next hb.out hb1
          have hr1 : RowAt w1 a (ps.map (·.1)) := by
            rcases HR.out with h0 | ⟨b, o, e, hbb, hc⟩
            · exact .inl h0
            · exact .inr ⟨b, o, e, Nat.lt_of_lt_of_le hbb hb1.size, fun i hi => (hb1.cell (p := ⟨b, o + i, none⟩) hbb).trans (hc i hi)⟩
          have HC2 := hideP (trNextN_c true m ps a c w1 hr1 (fun q hq => nlst_below (HLS.out q hq) hb1) HT.out)
          have HB1 := hideP hb1'
          clear hb1 hb1' hr1
          go_wp2_with fail
          refine HC2.out.mono ?_
          rintro e w2 ⟨v2, ps2, vs2, rfl, hlev⟩
          have HLV2 := hideP (nlevel_of_lev hlev (by rw [tot_flat]; exact HT.out))
          have HB3 := hideP (below_next HB1.out hlev.bl)
          have HI2 : Hid (hiL m ps2 + (h + 1) = heightT (n + 1) D) := by
            show _ = _
            have h1 := hhi.out
            have h3 := nlev_height hlev HNE.out
            rw [← hiL_flat] at h3
            omega
          have HN2 : Hid (∀ p ∈ ps2, ∀ x ∈ p.2, S x) := by
            intro p hp x hx
            obtain ⟨D', hD', e⟩ := hlev.fr p hp
            rw [e] at hx
            obtain ⟨L, hL, hDL⟩ := List.mem_flatten.1 hD'
            obtain ⟨q, hq, rfl⟩ := List.mem_map.1 hL
            exact HSS.out D' (hnn.out q hq D' hDL) x hx
          clear hlev
          go_wp2_with fail
          exact ⟨⟨h + 1, m, ps2, by go_num, by omega, HLV2, HI2, HN2, HB3⟩, by simp [intOf]; omega⟩


set_option maxHeartbeats 4000000 in
set_option maxRecDepth 100000 in
theorem everyN_no (n : Nat) (k : Nat) (tx : ByteArray) (N : Nat) (ka : Option Addr) (kl kc : Nat) (D : Ty) (S : Ty → Prop) (fb : Ty → Bool) (w : World) (h : NdAt w (n + 1) k tx N ka kl kc D) (hs : sizeT (n + 1) D ≤ 1000) (hn : S D) (hfb : fb D = false) (hf : NFit w S fb) :
    Calls Tryz.prog 35 #[ndV k tx N ka kl kc, .int .i64 25, kidsN, fitsN] w fun e w' => e = .returned (.bool false) ∧ Below w.heap.size w w' := by
  have hb1 := below_next (bl_alloc w (ndO k tx N ka kl kc)) (bl_alloc _ (.cells #[fitsN] 41))
  have hlv := nfirst_level (u := true) (B := w.heap.size + 1 + 1) (by simp) (nd_below h hb1) hs
  have hb2 := below_next (below_next hb1 (bl_alloc _ (ndO k tx N ka kl kc))) (bl_alloc _ (.cells #[.slice (some ⟨w.heap.size + 1 + 1, 0, none⟩) 1 1] 33))
  obtain ⟨W, hW⟩ : ∃ W, W = (((w.alloc (ndO k tx N ka kl kc)).alloc (.cells #[fitsN] 41)).alloc (ndO k tx N ka kl kc)).alloc (.cells #[.slice (some ⟨w.heap.size + 1 + 1, 0, none⟩) 1 1] 33) := ⟨_, rfl⟩
  have hxb : W.heap[w.heap.size + 1]? = some (.cells #[fitsN] 41) := by
    rw [hW, Below.heap_alloc _ _ _ (by simp), Below.heap_alloc _ _ _ (by simp)]
    exact heap_at1 w _ _
  rw [← hW] at hlv hb2
  obtain ⟨a, c, e, hrow, hls, _⟩ := hlv
  have hcx : W.cell? ⟨w.heap.size + 1, 0, none⟩ = some fitsN := by rw [cell_of_row _ _ _ _ _ _ hxb]; rfl
  have hc := allListsN_c (n + 1) (w.heap.size + 1) S fb a c _ W hcx (fun n k tx N ka kl kc D wx hwx => hf n k tx N ka kl kc D wx (below_next hb2 hwx)) hrow hls (by simp) (by
    intro q hq x hx
    rw [List.mem_singleton.1 hq] at hx
    rw [List.mem_singleton.1 hx]
    exact hn)
  rw [← e] at hc
  simp only [List.all_cons, List.all_nil, hfb, Bool.and_true] at hc
  have HC := hideP hc
  have HB2 := hideP hb2
  have HWW := hideP hW
  clear hb1 hrow hls hb2 hxb hf hn h hs hfb hc hcx e
  subst hW
  go_enter Tryz.func35, Tryz.ntmps35
  go_wp2_with fail
  obtain ⟨W, hW⟩ : ∃ W, W = (((w.alloc (ndO k tx N ka kl kc)).alloc (.cells #[fitsN] 41)).alloc (ndO k tx N ka kl kc)).alloc (.cells #[.slice (some ⟨w.heap.size + 1 + 1, 0, none⟩) 1 1] 33) := ⟨_, rfl⟩
  rw [← hW] at HC HB2
  have HW2 := hideP hW
  clear hW
  go_loopw [9, 10] (fun l s wr => l = .slice (some ⟨w.heap.size + 1 + 1 + 1, 0, none⟩) 1 1 ∧ s = .int .i64 0 ∧ wr = W) (fun _ _ _ => 0)
  case atStart => exact ⟨rfl, rfl, HW2.out.symm⟩
  case round =>
    obtain ⟨rfl, rfl, rfl⟩ := hrel
    go_wp2_with fail
    refine HC.out.mono ?_
    rintro e w1 ⟨rfl, hb1⟩
    have HB3 := hideP (below_next HB2.out hb1)
    clear hb1
    go_wp2_with fail
    go_ret
    exact ⟨rfl, HB3.out⟩

theorem isExpr_c (k : Nat) (tx : ByteArray) (N : Nat) (ka : Option Addr) (kl kc : Nat) (r : Bool) (w : World) (h : ∀ wx, Below w.heap.size w wx → Calls Tryz.prog 35 #[ndV k tx N ka kl kc, .int .i64 25, kidsN, fitsN] wx fun e w' => e = .returned (.bool r) ∧ Below wx.heap.size wx w') :
    Calls Tryz.prog 17 #[ndV k tx N ka kl kc] w fun e w' => e = .returned (.bool r) ∧ Below w.heap.size w w' := by
  have hb := bl_alloc w (ndO k tx N ka kl kc)
  have HC := hideP (h _ hb)
  have HB := hideP hb
  clear hb h
  go_enter Tryz.func17, Tryz.ntmps17
  go_wp2_with fail
  refine HC.out.mono ?_
  rintro e w1 ⟨rfl, hb1⟩
  have HB1 := hideP (below_next HB.out hb1)
  clear hb1
  go_wp2_with fail
  go_ret
  exact ⟨rfl, HB1.out⟩
end Go.Proofs.YtmpcjcjacpjilabGreatDoor

/- types.normFunction by a contract. -/
namespace Go.Proofs.YtmpcjcjacpjilabGreatDoor
open Go.RowKit

theorem fun_len {n : Nat} {nm : List UInt8} {ns : List (List UInt8)} {ks : List Ty} (h : ks.length ≠ 2) : normT (n + 1) (mkT 6 nm ns ks) = none := by
  rw [normT_fun]
  cases hm : ks.mapM (normT n) with
  | none => rfl
  | some ms =>
    have := (mapM_mem hm).2
    show funV ms = none
    unfold funV
    rw [if_neg (by omega)]

theorem fun_two {n : Nat} {nm : List UInt8} {ns : List (List UInt8)} {x y : Ty} : normT (n + 1) (mkT 6 nm ns [x, y]) = match normT n x, normT n y with | some a, some b => some (mkT 6 [] [] [a, b]) | _, _ => none := by
  rw [normT_fun]
  cases hx : normT n x <;> cases hy : normT n y <;> simp [List.mapM_cons, hx, hy, funV]

/-- A function's type, made of two. -/
theorem funF {w : World} {lo n B c : Nat} {a b : Cells} {x y : Ty} (hB : lo ≤ B) (hb : w.heap[B]? = some (.cells (a.list ++ b.list).toArray 25)) (h1 : TyF w lo n a.val x) (h2 : TyF w lo n b.val y) (hc : 2 ≤ c) :
    TyF w lo (n + 1) (.agg #[.int .i64 6, .string ⟨#[]⟩, .slice none 0 0, .slice (some ⟨B, 0, none⟩) 2 c]) (mkT 6 [] [] [x, y]) := by
  refine ⟨6, ⟨#[]⟩, none, 0, some ⟨B, 0, none⟩, c, [], [x, y], rfl, rfl, by decide, by decide, by simp, ⟨Nat.le_refl _, by decide⟩, ⟨hc, by simp [reachBytes]⟩, .inl rfl, .inr ⟨B, 0, rfl, hB, ⟨_, _, hb⟩, fun i hi => ?_⟩⟩
  have hi' : i = 0 ∨ i = 1 := by simp at hi; omega
  rcases hi' with rfl | rfl
  · refine ⟨_, _, _, _, ?_, ?_, ?_, ?_, h1⟩ <;> (rw [cell_of_row _ _ _ _ _ _ hb]; rfl)
  · refine ⟨_, _, _, _, ?_, ?_, ?_, ?_, h2⟩ <;> (rw [cell_of_row _ _ _ _ _ _ hb]; rfl)

set_option maxHeartbeats 2000000 in
theorem normFunction_c (n : Nat) (ih : NormAt n) (nm : ByteArray) (na : Option Addr) (nc : Nat) (ka : Option Addr) (kc : Nat) (ns : List (List UInt8)) (ks : List Ty) (w : World) (hkl : ks.length ≤ reachBytes) (hk : KidsAt w false n ka ks) (hw : Words w) :
    Calls Tryz.prog 22 #[.agg #[.int .i64 6, .string nm, .slice na ns.length nc, .slice ka ks.length kc]] w (NormPost w (n + 1) (mkT 6 nm.data.toList ns ks)) := by
  have hkl' : ks.length ≤ 140737488351232 := hkl
  by_cases h2 : ks.length ≠ 2
  · have e2 : ((ks.length : Int) != 2) = true := by simp; omega
    clear hk hw hkl
    go_enter Tryz.func22, Tryz.ntmps22
    go_wp2_with fail
    refine bodyPost_ret (results_cell_tmp rfl _ rfl (heap_at1 _ _ _) Tryz.underlying25 ty_size) rfl ⟨(bl_alloc _ _).alloc (by simp) _, ?_⟩
    rw [fun_len h2]
    rfl
  have hks : ∃ x y, ks = [x, y] := by
    match ks, h2 with
    | [x, y], _ => exact ⟨x, y, rfl⟩
    | [], h => exact absurd h (by simp)
    | [_], h => exact absurd h (by simp)
    | _ :: _ :: _ :: _, h => exact absurd h (by simp)
  obtain ⟨x, y, rfl⟩ := hks
  rcases hk with h0 | hk'
  · cases h0
  have hk : KidsAt w false n ka [x, y] := .inr hk'
  obtain ⟨b, o, k1, n1, na1, nl1, nc1, la1, ll1, lc1, rfl, hbl, q0, q1, q2, q3, ht1⟩ := kid_at hk (i := 0) (by simp)
  obtain ⟨_, _, k2, n2, na2, nl2, nc2, la2, ll2, lc2, e10, _, p0, p1, p2, p3, ht2⟩ := kid_at hk (i := 1) (by simp)
  injection e10 with e10
  injection e10 with e11 e12
  subst e11 e12
  have hb1 : Below w.heap.size w ((w.alloc (tyO 6 nm na ns.length nc (some ⟨b, o, none⟩) 2 kc)).alloc (.cells #[.int .i64 0, .string ⟨#[]⟩, .slice none 0 0, .slice none 0 0] 25)) := (bl_alloc _ _).alloc (by simp) _
  simp only [Nat.zero_mul, Nat.add_zero, Nat.one_mul] at q0 q1 q2 q3 p0 p1 p2 p3
  have HC1 := hideP (ih _ _ _ (ty_below ht1 hb1) (hw.below hb1))
  have HB1 := hideP hb1
  have HT2 := hideP ht2
  have HW := hideP hw
  have HF := hideP (fun_two (n := n) (nm := nm.data.toList) (ns := ns) (x := x) (y := y))
  have HQ : Hid (∀ wx, Below w.heap.size w wx → wx.cell? ⟨b, o + 4, none⟩ = some (.int .i64 k2) ∧ wx.cell? ⟨b, o + 4 + 1, none⟩ = some (.string n2) ∧ wx.cell? ⟨b, o + 4 + 2, none⟩ = some (.slice na2 nl2 nc2) ∧ wx.cell? ⟨b, o + 4 + 3, none⟩ = some (.slice la2 ll2 lc2)) :=
    fun wx hx => ⟨(hx.cell (p := ⟨b, o + 4, none⟩) hbl).trans p0, (hx.cell (p := ⟨b, o + 4 + 1, none⟩) hbl).trans p1, (hx.cell (p := ⟨b, o + 4 + 2, none⟩) hbl).trans p2, (hx.cell (p := ⟨b, o + 4 + 3, none⟩) hbl).trans p3⟩
  clear hk hk' hw hkl ht1 ht2 hb1 h2 p0 p1 p2 p3
  go_enter Tryz.func22, Tryz.ntmps22
  go_wp2_with fail
  refine HC1.out.mono ?_
  intro e w1 hpost
  obtain ⟨hbw, hways⟩ := norm_ways hpost
  have hB1 := below_next HB1.out hbw
  have hres := (hbw.block (w.heap.size + 1) (by simp)).trans (heap_at1 _ _ _)
  have hbox := box_at (w := w) (wr := w1) (B := w.heap.size + 1) (((Below.refl _ _).alloc (by simp) (.cells #[.int .i64 0, .string ⟨#[]⟩, .slice none 0 0, .slice none 0 0] 25)).trans (hbw.mono (by simp))) (by omega)
  obtain ⟨⟨z0, z1, z2, z3⟩, ⟨f0, f1, f2, f3⟩, hlt⟩ := res_facts hres
  have x3 := hbox.2.2.2
  have hlt0 : w.heap.size < w1.heap.size := by omega
  have hbl1 : b < w1.heap.size := by omega
  have HRES := hideP hres
  have HB2 := hideP hB1
  have HBW := hideP hbw
  obtain ⟨p0, p1, p2, p3⟩ := HQ.out w1 hB1
  clear hpost hres hbox hB1 hbw HC1
  rcases hways with ⟨hn, rfl⟩ | ⟨E1, g1, g2, g3, g4, g5, g6, g7, g8, hn, rfl, hF1, _⟩
  · have HN : Hid (normT (n + 1) (mkT 6 nm.data.toList ns [x, y]) = none) := by
      rw [show normT n x = none from hn] at HF
      exact HF
    clear hn HF
    go_wp2_with fail
    exact bodyPost_ret (results_cell_tmp rfl _ rfl (no_answer HN.out HB2.out (by omega) HRES.out _).1 Tryz.underlying25 ty_size) rfl (norm_conv (no_answer HN.out HB2.out (by omega) HRES.out _).2 rfl)
  · have HF1 := hideP hF1
    have HN1 := hideP hn
    have hb3 := HB2.out.alloc HB2.out.size (tyO g1 g2 g3 g4 g5 g6 g7 g8)
    have HC2 := hideP (ih _ _ _ (ty_below HT2.out hb3) (HW.out.below hb3))
    have HB3 := hideP hb3
    clear hF1 hn hb3
    go_wp2_with fail
    refine HC2.out.mono ?_
    intro e w2 hpost
    obtain ⟨hbw, hways⟩ := norm_ways hpost
    have hB4 := below_next HB3.out hbw
    have hres : w2.heap[w.heap.size + 1]? = some (.cells #[.int .i64 0, .string ⟨#[]⟩, .slice none 0 0, .slice none 0 0] 25) := (hbw.block _ (by simp; omega)).trans ((Below.heap_alloc _ _ _ hlt).trans HRES.out)
    have hbox : w2.heap[w1.heap.size]? = some (tyO g1 g2 g3 g4 g5 g6 g7 g8) := (hbw.block _ (by simp)).trans (heap_alloc_last _ _)
    obtain ⟨⟨z0', z1', z2', z3'⟩, ⟨f0', f1', f2', f3'⟩, hlt2⟩ := res_facts hres
    obtain ⟨⟨u0, u1, u2, u3⟩, _, hlt3⟩ := res_facts hbox
    have hlt4 : w.heap.size < w2.heap.size := by omega
    have HRES2 := hideP hres
    have HB4 := hideP hB4
    have HBW2 := hideP hbw
    have HF2 : Hid (TyF w2 (w.heap.size + 2) n (.agg #[.int .i64 g1, .string g2, .slice g3 g4 g5, .slice g6 g7 g8]) E1) := tyF_below (tyF_below (tyF_lower HF1.out (by simp)) (bl_alloc _ _)) hbw
    clear hpost hres hbox hB4 hbw HC2 z0 z1 z2 z3 f0 f1 f2 f3 HRES HB3
    rcases hways with ⟨hn, rfl⟩ | ⟨E2, j1, j2, j3, j4, j5, j6, j7, j8, hn, rfl, hF3, _⟩
    · have HN : Hid (normT (n + 1) (mkT 6 nm.data.toList ns [x, y]) = none) := by
        rw [show normT n y = none from hn, show normT n x = some E1 from HN1.out] at HF
        exact HF
      clear hn HF HN1
      go_wp2_with fail
      exact bodyPost_ret (results_cell_tmp rfl _ rfl (no_answer HN.out HB4.out (by omega) HRES2.out _).1 Tryz.underlying25 ty_size) rfl (norm_conv (no_answer HN.out HB4.out (by omega) HRES2.out _).2 rfl)
    · have HN : Hid (normT (n + 1) (mkT 6 nm.data.toList ns [x, y]) = some (mkT 6 [] [] [E1, E2])) := by
        rw [show normT n y = some E2 from hn, show normT n x = some E1 from HN1.out] at HF
        exact HF
      have HF3 : Hid (TyF w2 (w.heap.size + 2) n (.agg #[.int .i64 j1, .string j2, .slice j3 j4 j5, .slice j6 j7 j8]) E2) := tyF_lower hF3 (by simp; omega)
      clear hn HF HN1 hF3
      go_wp2_with fail
      have hS := size_set4 w2 (w.heap.size + 1) (.int .i64 6) (.string ⟨#[]⟩) (.slice none 0 0) (.slice (some ⟨w2.heap.size + 1, 0, none⟩) 2 2)
      have hkeep : ∀ bb, w.heap.size + 2 ≤ bb → bb < w2.heap.size → (((((((w2.setCell ⟨w.heap.size + 1, 0, none⟩ (.int .i64 6)).setCell ⟨w.heap.size + 1, 1, none⟩ (.string ⟨#[]⟩)).setCell ⟨w.heap.size + 1, 2, none⟩ (.slice none 0 0)).setCell ⟨w.heap.size + 1, 3, none⟩ (.slice (some ⟨w2.heap.size + 1, 0, none⟩) 2 2)).alloc (tyO j1 j2 j3 j4 j5 j6 j7 j8)).alloc
          (.cells #[.int .i64 g1, .string g2, .slice g3 g4 g5, .slice g6 g7 g8, .int .i64 j1, .string j2, .slice j3 j4 j5, .slice j6 j7 j8] 25))).heap[bb]? = w2.heap[bb]? := fun bb h1 h2 => by
        rw [Below.heap_alloc _ _ _ (by simp [hS]; omega), Below.heap_alloc _ _ _ (by rw [hS]; exact h2), other_set4 (by omega)]
      refine bodyPost_ret (results_cell_tmp rfl _ rfl ((Below.heap_alloc _ _ _ (by simp [hS]; omega)).trans ((Below.heap_alloc _ _ _ (by rw [hS]; omega)).trans (set4 HRES2.out _ _ _ _))) Tryz.underlying25 ty_size) rfl ?_
      refine an_answer HN.out (((below_set4 HB4.out (by omega) _ _ _ _).alloc (by rw [hS]; exact HB4.out.size) _).alloc (by simp [hS]; have := HB4.out.size; omega) _) (funF (a := (g1, g2, g3, g4, g5, g6, g7, g8)) (b := (j1, j2, j3, j4, j5, j6, j7, j8)) (by omega) ?_ ?_ ?_ (Nat.le_refl _)) rfl
      · have := heap_at1 ((((w2.setCell ⟨w.heap.size + 1, 0, none⟩ (.int .i64 6)).setCell ⟨w.heap.size + 1, 1, none⟩ (.string ⟨#[]⟩)).setCell ⟨w.heap.size + 1, 2, none⟩ (.slice none 0 0)).setCell ⟨w.heap.size + 1, 3, none⟩ (.slice (some ⟨w2.heap.size + 1, 0, none⟩) 2 2)) (tyO j1 j2 j3 j4 j5 j6 j7 j8) (.cells #[.int .i64 g1, .string g2, .slice g3 g4 g5, .slice g6 g7 g8, .int .i64 j1, .string j2, .slice j3 j4 j5, .slice j6 j7 j8] 25)
        rw [hS] at this
        exact this
      · exact tyF_lower (tyF_keep HF2.out (by simp [hS]; omega) hkeep) (by omega)
      · exact tyF_lower (tyF_keep HF3.out (by simp [hS]; omega) hkeep) (by omega)
end Go.Proofs.YtmpcjcjacpjilabGreatDoor

/- Unions: what the loop of types.normUnion keeps; types.parts of a fresh type. -/
namespace Go.Proofs.YtmpcjcjacpjilabGreatDoor
open Go.RowKit

theorem kidsF_mono {w : World} {lo n m : Nat} {ka : Option Addr} {ks : List Ty} (h : KidsF w lo n ka ks) (hm : n ≤ m) : KidsF w lo m ka ks := by
  rcases h with h | ⟨b, o, e, hl, hcl, hc⟩
  · exact .inl h
  · refine .inr ⟨b, o, e, hl, hcl, fun i hi => ?_⟩
    obtain ⟨c0, c1, c2, c3, e0, e1, e2, e3, ht⟩ := hc i hi
    exact ⟨c0, c1, c2, c3, e0, e1, e2, e3, tyF_mono ht hm⟩

theorem kidsF_below {w w' : World} {lo n : Nat} {ka : Option Addr} {ks : List Ty} (h : KidsF w lo n ka ks) (hb : Below w.heap.size w w') : KidsF w' lo n ka ks := by
  rcases h with h | ⟨b, o, e, hl, hcl, hc⟩
  · exact .inl h
  · have hlt := clean_lt hcl
    refine .inr ⟨b, o, e, hl, clean_below hcl hb, fun i hi => ?_⟩
    obtain ⟨c0, c1, c2, c3, e0, e1, e2, e3, ht⟩ := hc i hi
    exact ⟨c0, c1, c2, c3, (hb.cell (p := ⟨b, o + i * 4, none⟩) hlt).trans e0, (hb.cell (p := ⟨b, o + i * 4 + 1, none⟩) hlt).trans e1, (hb.cell (p := ⟨b, o + i * 4 + 2, none⟩) hlt).trans e2, (hb.cell (p := ⟨b, o + i * 4 + 3, none⟩) hlt).trans e3, tyF_below ht hb⟩

theorem kidsF_keep {w w' : World} {lo n : Nat} {ka : Option Addr} {ks : List Ty} (h : KidsF w lo n ka ks) (hsz : w.heap.size ≤ w'.heap.size) (hk : ∀ b, lo ≤ b → b < w.heap.size → w'.heap[b]? = w.heap[b]?) : KidsF w' lo n ka ks := by
  rcases h with h | ⟨b, o, e, hl, hcl, hc⟩
  · exact .inl h
  · have hlt := clean_lt hcl
    have hcell : ∀ j, w'.cell? ⟨b, j, none⟩ = w.cell? ⟨b, j, none⟩ := fun j => World.cell?_of_block (w := w) (a := ⟨b, j, none⟩) (hk b hl hlt)
    have hcl' : CleanB w' b := by
      obtain ⟨cs, t, hh⟩ := hcl
      exact ⟨cs, t, (hk b hl hlt).trans hh⟩
    refine .inr ⟨b, o, e, hl, hcl', fun i hi => ?_⟩
    obtain ⟨c0, c1, c2, c3, e0, e1, e2, e3, ht⟩ := hc i hi
    exact ⟨c0, c1, c2, c3, (hcell _).trans e0, (hcell _).trans e1, (hcell _).trans e2, (hcell _).trans e3, tyF_keep ht hsz hk⟩

theorem parts_c (lo n : Nat) (k : Int) (nm : ByteArray) (na : Option Addr) (nl nc : Nat) (ka : Option Addr) (kl kc : Nat) (E : Ty) (w : World) (h : TyF w lo n (.agg #[.int .i64 k, .string nm, .slice na nl nc, .slice ka kl kc]) E) (hl : lo ≤ w.heap.size) :
    Calls Tryz.prog 48 #[.agg #[.int .i64 k, .string nm, .slice na nl nc, .slice ka kl kc]] w fun e w' => ∃ a c, e = .returned (.slice a (membersT E).length c) ∧ KidsF w' lo n a (membersT E) ∧ Below w.heap.size w w' ∧ (membersT E).length ≤ reachBytes := by
  cases n with
  | zero => exact h.elim
  | succ n =>
    have hh := h
    obtain ⟨k', nm', na', nc', ka', kc', ns, ks, e, rfl, _, _, _, _, ⟨_, hkl⟩, _, hks⟩ := hh
    injection e with e
    injection e with e
    injection e with e0 e
    injection e with e1 e
    injection e with e2 e
    injection e with e3 _
    injection e0 with _ e0
    injection e3 with e3 e4 e5
    subst e0 e3 e4 e5
    by_cases hk : k = 7
    · subst hk
      have hm : membersT (mkT 7 nm'.data.toList ns ks) = ks := by unfold membersT; rw [kind_mk, if_pos rfl, kids_mk]
      rw [hm]
      refine (parts_union nm na nl nc ka ks.length kc w).mono fun e w' ⟨he, hw⟩ => ?_
      subst hw
      exact ⟨ka, kc, he, kidsF_mono (kidsF_below hks (bl_alloc _ _)) (Nat.le_succ _), bl_alloc _ _, hkl⟩
    · have hm : membersT (mkT k nm'.data.toList ns ks) = [mkT k nm'.data.toList ns ks] := by unfold membersT; rw [kind_mk, if_neg hk]
      rw [hm]
      refine (parts_other k hk nm na nl nc ka ks.length kc w).mono fun e w' ⟨he, hw⟩ => ?_
      subst hw
      have hb := below_next (bl_alloc w (tyO k nm na nl nc ka ks.length kc)) (bl_alloc _ (tyO k nm na nl nc ka ks.length kc))
      have h0 := heap_at1 w (tyO k nm na nl nc ka ks.length kc) (tyO k nm na nl nc ka ks.length kc)
      refine ⟨_, _, he, .inr ⟨_, _, rfl, by omega, ⟨_, _, h0⟩, fun i hi => ?_⟩, hb, by simp [reachBytes]⟩
      obtain rfl : i = 0 := by simp at hi; omega
      refine ⟨_, _, _, _, ?_, ?_, ?_, ?_, tyF_below h hb⟩ <;> (rw [cell_of_row _ _ _ _ _ _ h0]; rfl)

/-- The first one of a kind, with one more behind. -/
theorem first_snoc (L : List Ty) (x : Ty) (k : Int) : firstK (L ++ [x]) k = match firstK L k with | some y => some y | none => if kindT x = k then some x else none := by
  unfold firstK
  rw [List.find?_append]
  cases L.find? fun x => kindT x == k with
  | some y => rfl
  | none => by_cases h : kindT x = k <;> simp [h]

theorem first_prefix {L M : List Ty} {k : Int} {y : Ty} (h : firstK L k = some y) : firstK (L ++ M) k = some y := by
  unfold firstK at h ⊢
  rw [List.find?_append, h]
  rfl

/-- A union is refused where one of its members is any, or is not the first one of its tag. -/
theorem union_no {n : Nat} {nm : List UInt8} {ns : List (List UInt8)} {ks es : List Ty} (hl : es.length ≤ ks.length) (he : ∀ i (h : i < es.length), normT n (ks[i]'(by omega)) = some es[i]) {P M : List Ty} {x : Ty} (hP : es.flatMap membersT = P ++ x :: M)
    (hx : kindT x = 0 ∨ ∃ y, firstK P (kindT x) = some y ∧ y ≠ x) : normT (n + 1) (mkT 7 nm ns ks) = none := by
  rw [normT_uni]
  cases hm : ks.mapM (normT n) with
  | none => rfl
  | some fs =>
    obtain ⟨h1, h2⟩ := mapM_mem hm
    have hz := mapM_zip hm
    have hpre : ∃ R, fs = es ++ R := by
      refine ⟨fs.drop es.length, ?_⟩
      conv => lhs; rw [← List.take_append_drop es.length fs]
      congr 1
      refine List.ext_getElem (by simp; omega) fun i g1 g2 => ?_
      have hi : i < fs.length := by simp at g1; omega
      have hik : i < ks.length := by omega
      have hzi := hz (fs[i], ks[i]) (List.mem_iff_getElem.2 ⟨i, by simp; omega, by simp⟩)
      have := he i g2
      rw [List.getElem_take]
      exact Option.some.inj (hzi.symm.trans this)
    obtain ⟨R, rfl⟩ := hpre
    have hnorm : ∀ y ∈ es ++ R, NormT n y := fun y hy => by
      obtain ⟨z, _, hz⟩ := h1 y hy
      exact norm_normal hz
    have hmem : ∀ z ∈ (es ++ R).flatMap membersT, IsT n z := fun z hz => by
      obtain ⟨y, hy, hzy⟩ := List.mem_flatMap.1 hz
      exact is_norm (members_norm (hnorm y hy) z hzy).1
    have hfl : (es ++ R).flatMap membersT = P ++ x :: (M ++ R.flatMap membersT) := by rw [List.flatMap_append, hP]; simp
    show unionV n (es ++ R) = none
    unfold unionV
    rw [hfl]
    rw [hfl] at hmem
    rcases hx with hx | ⟨y, hy, hne⟩
    · rw [if_pos (List.any_eq_true.2 ⟨x, by simp, by simp [hx]⟩)]
    · split
      · rfl
      · rw [if_neg]
        intro hal
        unfold alikeV at hal
        have h3 := List.all_eq_true.1 hal x (by simp)
        rw [first_prefix hy] at h3
        have hyP := (first_mem hy).1
        exact hne (same_eq (hmem y (by simp [hyP])) (hmem x (by simp)) h3)

/-- .. and is made of the first ones, where there is none such. -/
theorem union_yes {n : Nat} {nm : List UInt8} {ns : List (List UInt8)} {ks es : List Ty} (hl : es.length = ks.length) (he : ∀ i (h : i < es.length), normT n (ks[i]'(by omega)) = some es[i])
    (hg : ∀ x ∈ es.flatMap membersT, kindT x ≠ 0 ∧ firstK (es.flatMap membersT) (kindT x) = some x) : normT (n + 1) (mkT 7 nm ns ks) = madeV (tagsL.filterMap (firstK (es.flatMap membersT))) := by
  have hm : ks.mapM (normT n) = some es := by
    clear hg
    induction ks generalizing es with
    | nil =>
      have : es = [] := List.length_eq_zero_iff.1 (by simpa using hl)
      subst this
      rfl
    | cons k ks ih =>
      match es, hl, he with
      | [], hl, _ => simp at hl
      | e :: es, hl, he =>
        have h0 := he 0 (by simp)
        have := ih (es := es) (by simpa using hl) fun i h => by
          have := he (i + 1) (by simpa using h)
          simpa using this
        simp only [List.getElem_cons_zero] at h0
        rw [List.mapM_cons, h0, this]
        rfl
  rw [normT_uni, hm]
  show unionV n es = _
  unfold unionV
  rw [if_neg, if_pos]
  · unfold alikeV
    refine List.all_eq_true.2 fun x hx => ?_
    rw [(hg x hx).2]
    obtain ⟨y, hy, hxy⟩ := List.mem_flatMap.1 hx
    obtain ⟨z, _, hz⟩ := (mapM_mem hm).1 y hy
    exact same_self (is_norm (members_norm (norm_normal hz) x hxy).1)
  · intro h
    obtain ⟨x, hx, h0⟩ := List.any_eq_true.1 h
    exact (hg x hx).1 (by simpa using h0)
end Go.Proofs.YtmpcjcjacpjilabGreatDoor
