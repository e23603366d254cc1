/- Part. -/
import Derived.Deep.RegionHeld
import Derived.Test.YtlhmofphpfdjlaaGreatDoorPart8
set_option maxRecDepth 100000
set_option maxHeartbeats 4000000
/- tree.everyPart over nodes, tree.isExpression, by contracts. -/
namespace Go.Proofs.YtlhmofphpfdjlaaGreatDoor
open Go.Proofs.Tryz
open Go.RowKit
theorem nlev_height {w0 wr : World} {n : Nat} {v : Value} {Ds : List Ty} {ps : List (Value × List Ty)} {vs : List Value} (h : NLev w0 wr true n v Ds ps vs) (hne : Ds ≠ []) : 1 + hiL n ps = maxL (Ds.map (heightT (n + 1))) := by
  apply Nat.le_antisymm
  · have h1 : hiL n ps <= maxL (Ds.map (heightT (n + 1))) - 1 := by
      refine maxL_le fun a ha => ?_
      obtain ⟨p, hp, rfl⟩ := List.mem_map.1 ha
      obtain ⟨D, hD, e⟩ := h.fr p hp
      have := le_maxL (List.mem_map.2 ⟨D, hD, rfl⟩ : heightT (n + 1) D ∈ Ds.map (heightT (n + 1)))
      rw [heightT] at this
      rw [e]
      omega
    obtain ⟨D, rest, e⟩ := List.exists_cons_of_ne_nil hne
    have h2 := le_maxL (List.mem_map.2 ⟨D, by rw [e]; simp, rfl⟩ : heightT (n + 1) D ∈ Ds.map (heightT (n + 1)))
    rw [heightT] at h2
    omega
  · refine maxL_le fun a ha => ?_
    obtain ⟨D, hD, rfl⟩ := List.mem_map.1 ha
    rw [heightT]
    by_cases hk : kidsT D = []
    · rw [hk]
      simp [maxL]
    · obtain ⟨p, hp, e⟩ := h.al rfl D hD hk
      have := le_maxL (List.mem_map.2 ⟨p, hp, rfl⟩ : maxL (p.2.map (heightT n)) ∈ ps.map fun p => maxL (p.2.map (heightT n)))
      rw [e] at this
      unfold hiL
      omega
theorem nhiL_pos {w : World} {u : Bool} {n : Nat} {ps : List (Value × List Ty)} (h : ∀ p ∈ ps, NLst w u n p.1 p.2) (hne : ps ≠ []) : 1 <= hiL n ps := by
  obtain ⟨p, rest, rfl⟩ := List.exists_cons_of_ne_nil hne
  obtain ⟨b, o, c, _, hne2, _, hk⟩ := h p (by simp)
  obtain ⟨D, ks, e⟩ := List.exists_cons_of_ne_nil hne2
  have hm : ∃ m, n = m + 1 := by
    rcases hk with hk | ⟨_, _, _, _, hc⟩
    · exact absurd hk hne2
    · obtain ⟨_, _, _, _, _, _, _, _, ht⟩ := hc 0 (List.length_pos_iff.2 hne2)
      cases n with
      | zero => exact ht.elim
      | succ m => exact ⟨m, rfl⟩
  obtain ⟨m, rfl⟩ := hm
  have h1 := le_maxL (List.mem_map.2 ⟨D, by rw [e]; simp, rfl⟩ : heightT (m + 1) D ∈ p.2.map (heightT (m + 1)))
  have h2 := le_maxL (List.mem_map.2 ⟨p, by simp, rfl⟩ : maxL (p.2.map (heightT (m + 1))) ∈ (p :: rest).map fun p => maxL (p.2.map (heightT (m + 1))))
  rw [heightT] at h1
  unfold hiL
  omega
theorem nflat_ne {w : World} {u : Bool} {n : Nat} {ps : List (Value × List Ty)} (h : ∀ p ∈ ps, NLst w u n p.1 p.2) (hne : ps ≠ []) : (ps.map (·.2)).flatten ≠ [] := by
  obtain ⟨p, rest, rfl⟩ := List.exists_cons_of_ne_nil hne
  obtain ⟨b, o, c, _, hne2, _, hk⟩ := h p (by simp)
  simp [hne2]
/-- A level in memory, as Height keeps it. -/
def NLevel (w : World) (u : Bool) (m : Nat) (v : Value) (ps : List (Value × List Ty)) : Prop :=
  ∃ a c, v = .slice a ps.length c /\ RowAt w a (ps.map (·.1)) /\ (∀ p ∈ ps, NLst w u m p.1 p.2) /\ totL m ps <= 1000
theorem nlevel_of_lev {w0 wr : World} {u : Bool} {n : Nat} {v : Value} {Ds : List Ty} {ps : List (Value × List Ty)} {vs : List Value} (h : NLev w0 wr u n v Ds ps vs) (ht : (Ds.map (sizeT (n + 1))).sum <= 1000) : NLevel wr u n v ps := by
  obtain ⟨a, c, e, hr, _⟩ := row_of_owns h.ow
  rw [List.length_map] at e
  exact ⟨a, c, e, hr, fun p hp => nlst_below (h.ls p hp) h.bl, Nat.le_trans h.tt ht⟩
/-- The first level: one list of one node. -/
theorem nfirst_level {w : World} {u : Bool} {n : Nat} {k : Nat} {tx : ByteArray} {N : Nat} {pq : PX} {ka : Option Addr} {kl kc : Nat} {D : Ty} {B : Nat} (hB : B = w.heap.size) (h : NdAt w n k tx N pq ka kl kc D) (hs : sizeT n D <= 1000) :
    NLevel ((w.alloc (ndO k tx N pq ka kl kc)).alloc (.cells #[.slice (some ⟨B, 0, none⟩) 1 1] 25)) u n (.slice (some ⟨B + 1, 0, none⟩) 1 1) [(.slice (some ⟨B, 0, none⟩) 1 1, [D])] := by
  subst hB
  have hb := below_next (bl_alloc w (ndO k tx N pq ka kl kc)) (bl_alloc _ (.cells #[.slice (some ⟨w.heap.size, 0, none⟩) 1 1] 25))
  have h0 : ((w.alloc (ndO k tx N pq ka kl kc)).alloc (.cells #[.slice (some ⟨w.heap.size, 0, none⟩) 1 1] 25)).heap[w.heap.size]? = some (ndO k tx N pq ka kl kc) := by
    rw [Below.heap_alloc _ _ _ (by simp)]
    exact heap_alloc_last w _
  have h1 : ((w.alloc (ndO k tx N pq ka kl kc)).alloc (.cells #[.slice (some ⟨w.heap.size, 0, none⟩) 1 1] 25)).heap[w.heap.size + 1]? = some (.cells #[.slice (some ⟨w.heap.size, 0, none⟩) 1 1] 25) := heap_at1 w _ _
  refine ⟨_, _, rfl, .inr ⟨_, 0, rfl, lt_of_block h1, fun i hi => ?_⟩, fun p hp => ?_, by simpa [totL] using hs⟩
  · obtain rfl : i = 0 := by simp at hi; omega
    rw [cell_of_row _ _ _ _ _ _ h1]
    rfl
  · rw [List.mem_singleton.1 hp]
    refine ⟨_, _, _, rfl, by simp, by simp [reachBytes], .inr ⟨_, _, rfl, ⟨_, _, h0⟩, fun i hi => ?_⟩⟩
    obtain rfl : i = 0 := by simp at hi; omega
    exact ⟨k, tx, N, pq, ka, kl, kc, by simpa using (nd_facts h0).1, nd_below h hb⟩
theorem nnext_zero (u : Bool) (v : Value) (ps : List (Value × List Ty)) (w : World) (h : NLevel w u 0 v ps) : ps = [] := by
  obtain ⟨a, c, _, _, hls, _⟩ := h
  cases ps with
  | nil => rfl
  | cons p ps =>
    obtain ⟨b, o, c, _, hne2, _, hk⟩ := hls p (by simp)
    rcases hk with hk | ⟨_, _, _, _, hc⟩
    · exact absurd hk hne2
    · obtain ⟨_, _, _, _, _, _, _, _, ht⟩ := hc 0 (List.length_pos_iff.2 hne2)
      exact ht.elim
theorem everyN_c (n : Nat) (k : Nat) (tx : ByteArray) (N : Nat) (pq : PX) (ka : Option Addr) (kl kc : Nat) (D : Ty) (S : Ty -> Prop) (fb : Ty -> Bool) (w : World) (h : NdAt w (n + 1) k tx N pq ka kl kc D) (hs : sizeT (n + 1) D <= 1000) (hh : heightT (n + 1) D <= 25) (hn : S D) (hS : ∀ D, S D -> ∀ x ∈ kidsT D, S x) (hfb : ∀ D, S D -> fb D = true) (hf : NFit w S fb) :
    Calls prog 37 #[ndV k tx N pq ka kl kc, .int .i64 25, kidsN, fitsN] w fun e w' => e = .returned (.bool true) /\ Below w.heap.size w w' := by
  have hb1 := below_next (bl_alloc w (ndO k tx N pq ka kl kc)) (bl_alloc _ (.cells #[fitsN] 65))
  have hlv := nfirst_level (u := true) (B := w.heap.size + 1 + 1) (by simp) (nd_below h hb1) hs
  have hb2 := below_next (below_next hb1 (bl_alloc _ (ndO k tx N pq ka kl kc))) (bl_alloc _ (.cells #[.slice (some ⟨w.heap.size + 1 + 1, 0, none⟩) 1 1] 25))
  obtain ⟨W, hW⟩ : ∃ W, W = (((w.alloc (ndO k tx N pq ka kl kc)).alloc (.cells #[fitsN] 65)).alloc (ndO k tx N pq ka kl kc)).alloc (.cells #[.slice (some ⟨w.heap.size + 1 + 1, 0, none⟩) 1 1] 25) := ⟨_, rfl⟩
  have hxb : W.heap[w.heap.size + 1]? = some (.cells #[fitsN] 65) := by
    rw [hW, Below.heap_alloc _ _ _ (by simp), Below.heap_alloc _ _ _ (by simp)]
    exact heap_at1 w _ _
  rw [<- hW] at hlv hb2
  have HLV := hideP hlv
  have HB2 := hideP hb2
  have HXB := hideP hxb
  have HWW := hideP hW
  have HF := hideP hf
  have HSS := hideP hS
  have HFB := hideP hfb
  have HH := hideP hh
  have HN := hideP hn
  have HI : Hid (hiL (n + 1) [(Value.slice (some ⟨w.heap.size + 1 + 1, 0, none⟩) 1 1, [D])] + 0 = heightT (n + 1) D) := by
    show _ = _
    simp [hiL, maxL]
  clear hb1 hlv hb2 hxb hW hf hn h hs hS hfb hh
  go_enter func37, ntmps37
  go_wp2_with fail
  go_loopw [9, 10] (fun l s wr => ∃ (h m : Nat) (ps : List (Value × List Ty)), s = .int .i64 h /\ h <= 25 /\ Hid (NLevel wr true m l ps) /\ Hid (hiL m ps + h = heightT (n + 1) D) /\ Hid (∀ p ∈ ps, ∀ x ∈ p.2, S x) /\ Hid (Below W.heap.size W wr)) (fun _ s _ => 26 - (intOf s).toNat)
  case atStart =>
    refine ⟨0, n + 1, _, rfl, by omega, by show NLevel _ _ _ _ _; rw [<- HWW.out]; exact HLV.out, HI, ?_, by show Below _ _ _; rw [<- HWW.out]; exact Below.refl _ _⟩
    intro p hp x hx
    rw [List.mem_singleton.1 hp] at hx
    rw [List.mem_singleton.1 hx]
    exact HN.out
  case round =>
    obtain ⟨h, m, ps, rfl, h2, hlv, hhi, hnn, hb⟩ := hrel
    have hlv' := hlv.out
    obtain ⟨a, c, rfl, hrow, hls, htot⟩ := hlv'
    have htl : ps.length <= 1000 := Nat.le_trans (ntot_len hls) htot
    have HLS := hideP hls
    have HT := hideP htot
    have HR := hideP hrow
    have HBW := hideP (below_next HB2.out hb.out)
    have hxr := (hb.out.block _ (lt_of_block HXB.out)).trans HXB.out
    clear hrow hls htot
    by_cases hz : ps = []
    · subst hz
      clear hlv HLS hxr
      go_wp2_with fail
      go_ret
      exact ⟨rfl, HBW.out⟩
    · have hp : 1 <= ps.length := List.length_pos_iff.2 hz
      have hpi : (0 : Int) < (ps.length : Int) := by omega
      by_cases hh : h = 25
      · have h1 := hhi.out
        have h3 := nhiL_pos HLS.out hz
        have := HH.out
        omega
      · have h16 : h < 25 := by omega
        have hhe : ((h : Int) == 25) = false := by rw [beq_eq_false_iff_ne]; omega
        cases m with
        | zero => exact absurd (nnext_zero true _ _ _ hlv.out) hz
        | succ m =>
          have hcx : wr.cell? ⟨w.heap.size + 1, 0, none⟩ = some fitsN := by rw [cell_of_row _ _ _ _ _ _ hxr]; rfl
          have HC1 := hideP (allListsN_c (m + 1) (w.heap.size + 1) S fb a c ps wr hcx (fun n k tx N pq ka kl kc D wx hwx => HF.out n k tx N pq ka kl kc D wx (below_next HBW.out hwx)) HR.out HLS.out (by omega) hnn.out)
          have hqa : (ps.all fun q => q.2.all fb) = true := by
            rw [List.all_eq_true]
            intro q hq
            rw [List.all_eq_true]
            exact fun x hx => HFB.out x (hnn.out q hq x hx)
          rw [hqa] at HC1
          clear hqa
          have HNE := hideP (nflat_ne HLS.out hz)
          clear hlv hz hh hxr hcx
          go_wp2_with fail
          refine HC1.out.mono ?_
          rintro e w1 ⟨rfl, hb1⟩
          have hb1' := below_next hb.out hb1
          have hr1 : RowAt w1 a (ps.map (·.1)) := by
            rcases HR.out with h0 | ⟨b, o, e, hbb, hc⟩
            · exact .inl h0
            · exact .inr ⟨b, o, e, Nat.lt_of_lt_of_le hbb hb1.size, fun i hi => (hb1.cell (p := ⟨b, o + i, none⟩) hbb).trans (hc i hi)⟩
          have HC2 := hideP (trNextN_c true m ps a c w1 hr1 (fun q hq => nlst_below (HLS.out q hq) hb1) HT.out)
          have HB1 := hideP hb1'
          clear hb1 hb1' hr1
          go_wp2_with fail
          refine HC2.out.mono ?_
          rintro e w2 ⟨v2, ps2, vs2, rfl, hlev⟩
          have HLV2 := hideP (nlevel_of_lev hlev (by rw [tot_flat]; exact HT.out))
          have HB3 := hideP (below_next HB1.out hlev.bl)
          have HI2 : Hid (hiL m ps2 + (h + 1) = heightT (n + 1) D) := by
            show _ = _
            have h1 := hhi.out
            have h3 := nlev_height hlev HNE.out
            rw [<- hiL_flat] at h3
            omega
          have HN2 : Hid (∀ p ∈ ps2, ∀ x ∈ p.2, S x) := by
            intro p hp x hx
            obtain ⟨D', hD', e⟩ := hlev.fr p hp
            rw [e] at hx
            obtain ⟨L, hL, hDL⟩ := List.mem_flatten.1 hD'
            obtain ⟨q, hq, rfl⟩ := List.mem_map.1 hL
            exact HSS.out D' (hnn.out q hq D' hDL) x hx
          clear hlev
          go_wp2_with fail
          exact ⟨⟨h + 1, m, ps2, by go_num, by omega, HLV2, HI2, HN2, HB3⟩, by simp [intOf]; omega⟩
theorem everyN_no (n : Nat) (k : Nat) (tx : ByteArray) (N : Nat) (pq : PX) (ka : Option Addr) (kl kc : Nat) (D : Ty) (S : Ty -> Prop) (fb : Ty -> Bool) (w : World) (h : NdAt w (n + 1) k tx N pq ka kl kc D) (hs : sizeT (n + 1) D <= 1000) (hn : S D) (hfb : fb D = false) (hf : NFit w S fb) :
    Calls prog 37 #[ndV k tx N pq ka kl kc, .int .i64 25, kidsN, fitsN] w fun e w' => e = .returned (.bool false) /\ Below w.heap.size w w' := by
  have hb1 := below_next (bl_alloc w (ndO k tx N pq ka kl kc)) (bl_alloc _ (.cells #[fitsN] 65))
  have hlv := nfirst_level (u := true) (B := w.heap.size + 1 + 1) (by simp) (nd_below h hb1) hs
  have hb2 := below_next (below_next hb1 (bl_alloc _ (ndO k tx N pq ka kl kc))) (bl_alloc _ (.cells #[.slice (some ⟨w.heap.size + 1 + 1, 0, none⟩) 1 1] 25))
  obtain ⟨W, hW⟩ : ∃ W, W = (((w.alloc (ndO k tx N pq ka kl kc)).alloc (.cells #[fitsN] 65)).alloc (ndO k tx N pq ka kl kc)).alloc (.cells #[.slice (some ⟨w.heap.size + 1 + 1, 0, none⟩) 1 1] 25) := ⟨_, rfl⟩
  have hxb : W.heap[w.heap.size + 1]? = some (.cells #[fitsN] 65) := by
    rw [hW, Below.heap_alloc _ _ _ (by simp), Below.heap_alloc _ _ _ (by simp)]
    exact heap_at1 w _ _
  rw [<- hW] at hlv hb2
  obtain ⟨a, c, e, hrow, hls, _⟩ := hlv
  have hcx : W.cell? ⟨w.heap.size + 1, 0, none⟩ = some fitsN := by rw [cell_of_row _ _ _ _ _ _ hxb]; rfl
  have hc := allListsN_c (n + 1) (w.heap.size + 1) S fb a c _ W hcx (fun n k tx N pq ka kl kc D wx hwx => hf n k tx N pq ka kl kc D wx (below_next hb2 hwx)) hrow hls (by simp) (by
    intro q hq x hx
    rw [List.mem_singleton.1 hq] at hx
    rw [List.mem_singleton.1 hx]
    exact hn)
  rw [<- e] at hc
  simp only [List.all_cons, List.all_nil, hfb, Bool.and_true] at hc
  have HC := hideP hc
  have HB2 := hideP hb2
  have HWW := hideP hW
  clear hb1 hrow hls hb2 hxb hf hn h hs hfb hc hcx e
  subst hW
  go_enter func37, ntmps37
  go_wp2_with fail
  obtain ⟨W, hW⟩ : ∃ W, W = (((w.alloc (ndO k tx N pq ka kl kc)).alloc (.cells #[fitsN] 65)).alloc (ndO k tx N pq ka kl kc)).alloc (.cells #[.slice (some ⟨w.heap.size + 1 + 1, 0, none⟩) 1 1] 25) := ⟨_, rfl⟩
  rw [<- hW] at HC HB2
  have HW2 := hideP hW
  clear hW
  go_loopw [9, 10] (fun l s wr => l = .slice (some ⟨w.heap.size + 1 + 1 + 1, 0, none⟩) 1 1 /\ s = .int .i64 0 /\ wr = W) (fun _ _ _ => 0)
  case atStart => exact ⟨rfl, rfl, HW2.out.symm⟩
  case round =>
    obtain ⟨rfl, rfl, rfl⟩ := hrel
    go_wp2_with fail
    refine HC.out.mono ?_
    rintro e w1 ⟨rfl, hb1⟩
    have HB3 := hideP (below_next HB2.out hb1)
    clear hb1
    go_wp2_with fail
    go_ret
    exact ⟨rfl, HB3.out⟩
theorem isExpr_c (k : Nat) (tx : ByteArray) (N : Nat) (pq : PX) (ka : Option Addr) (kl kc : Nat) (r : Bool) (w : World) (h : ∀ wx, Below w.heap.size w wx -> Calls prog 37 #[ndV k tx N pq ka kl kc, .int .i64 25, kidsN, fitsN] wx fun e w' => e = .returned (.bool r) /\ Below wx.heap.size wx w') :
    Calls prog 20 #[ndV k tx N pq ka kl kc] w fun e w' => e = .returned (.bool r) /\ Below w.heap.size w w' := by
  have hb := bl_alloc w (ndO k tx N pq ka kl kc)
  have HC := hideP (h _ hb)
  have HB := hideP hb
  clear hb h
  go_enter func20, ntmps20
  go_wp2_with fail
  refine HC.out.mono ?_
  rintro e w1 ⟨rfl, hb1⟩
  have HB1 := hideP (below_next HB.out hb1)
  clear hb1
  go_wp2_with fail
  go_ret
  exact ⟨rfl, HB1.out⟩
end Go.Proofs.YtlhmofphpfdjlaaGreatDoor
/- tree.exprText by contracts: names, numbers below ten; what a closure over a node needs. -/
namespace Go.Proofs.YtlhmofphpfdjlaaGreatDoor
open Go.Proofs.Tryz
open Go.RowKit
/-- The text of a node, from here on. -/
def ExprIs (w : World) (k : Nat) (tx : ByteArray) (N : Nat) (pq : PX) (ka : Option Addr) (kl kc : Nat) (t : List UInt8) : Prop := ∀ wx, Below w.heap.size w wx -> Calls prog 21 #[ndV k tx N pq ka kl kc] wx fun e w' => (∃ s : ByteArray, e = .returned (.string s) /\ s.data.toList = t /\ s.size <= 1000) /\ Below wx.heap.size wx w'
theorem expr_name (tx : ByteArray) (hs : tx.size <= 1000) (N : Nat) (pq : PX) (ka : Option Addr) (kl kc : Nat) (w : World) : ExprIs w 4 tx N pq ka kl kc tx.data.toList := by
  intro wx _
  go_enter func21, ntmps21
  go_wp2_with fail
  go_ret
  exact ⟨⟨_, rfl, rfl, hs⟩, bl_alloc _ _⟩
/-- A box that holds a node whose i-th Kid is shown so. -/
def KidIs (w : World) (ka : Option Addr) (kl i : Nat) (t : List UInt8) : Prop := i < kl /\ kl <= 1000 /\ ∃ b o k tx N pq la ll lc, ka = some ⟨b, o, none⟩ /\ b < w.heap.size /\ NCells w b (o + i * 8) k tx N pq la ll lc /\ ExprIs w k tx N pq la ll lc t
theorem KidIs.below {w w' : World} {ka : Option Addr} {kl i : Nat} {t : List UInt8} (h : KidIs w ka kl i t) (hb : Below w.heap.size w w') : KidIs w' ka kl i t := by
  obtain ⟨h1, h2, b, o, k, tx, N, pq, la, ll, lc, e, hlt, q, hx⟩ := h
  exact ⟨h1, h2, b, o, k, tx, N, pq, la, ll, lc, e, Nat.lt_of_lt_of_le hlt hb.size, q.below hlt hb, fun wx hwx => hx wx (below_next hb hwx)⟩
theorem kidN_c (T k : Nat) (tx : ByteArray) (N : Nat) (pq : PX) (ka : Option Addr) (kl kc i : Nat) (t : List UInt8) (w : World) (hT : w.heap[T]? = some (ndO k tx N pq ka kl kc)) (h : KidIs w ka kl i t) :
    Calls prog 40 #[.int .i64 i, .pointer (some ⟨T, 0, none⟩)] w fun e w' => (∃ s : ByteArray, e = .returned (.string s) /\ s.data.toList = t /\ s.size <= 1000) /\ Below w.heap.size w w' := by
  obtain ⟨h1, h2, b, o, k', tx', N', pq', la, ll, lc, rfl, hlt, ⟨r0, r1, r2, r3, r4, r5, r6, r7⟩, hx⟩ := h
  obtain ⟨⟨x0, x1, x2, x3, x4, x5, x6, x7⟩, hltx⟩ := nd_facts hT
  simp only [Nat.zero_add] at x0 x1 x2 x3 x4 x5 x6 x7
  have hil : (i : Int) < (kl : Int) := by omega
  have HC := hideP (hx w (Below.refl _ _))
  clear hx hT
  go_enter func40, ntmps40
  go_wp2_with fail
  refine HC.out.mono ?_
  rintro e w' ⟨⟨s, rfl, hs, hz⟩, hb⟩
  have HS := hideP hs
  have HB := hideP hb
  clear hs hb
  go_wp2_with fail
  go_ret
  exact ⟨⟨_, rfl, HS.out, hz⟩, HB.out⟩
end Go.Proofs.YtlhmofphpfdjlaaGreatDoor
/- tree.exprText of an operation of two. -/
namespace Go.Proofs.YtlhmofphpfdjlaaGreatDoor
open Go.Proofs.Tryz
open Go.RowKit
theorem expr_op (tx : ByteArray) (N : Nat) (pq : PX) (ka : Option Addr) (kl kc : Nat) (t u : List UInt8) (w : World) (h0 : KidIs w ka kl 0 t) (h1 : KidIs w ka kl 1 u) (hl : t.length + u.length + tx.size <= 990) : ExprIs w 14 tx N pq ka kl kc (40 :: t ++ 32 :: tx.data.toList ++ 32 :: u ++ [41]) := by
  intro wx hwx
  have hb := bl_alloc wx (ndO 14 tx N pq ka kl kc)
  have hT : (wx.alloc (ndO 14 tx N pq ka kl kc)).heap[wx.heap.size]? = some (ndO 14 tx N pq ka kl kc) := heap_alloc_last _ _
  obtain ⟨W, hW⟩ : ∃ W, W = wx.alloc (ndO 14 tx N pq ka kl kc) := ⟨_, rfl⟩
  rw [<- hW] at hb hT
  have HC0 : Hid (∀ wy, Below W.heap.size W wy -> Calls prog 40 #[.int .i64 0, .pointer (some ⟨wx.heap.size, 0, none⟩)] wy fun e w' => (∃ s : ByteArray, e = .returned (.string s) /\ s.data.toList = t /\ s.size <= 1000) /\ Below W.heap.size W w') := fun wy hwy => (kidN_c wx.heap.size 14 tx N pq ka kl kc 0 t wy ((hwy.block _ (lt_of_block hT)).trans hT) (h0.below (below_next (below_next hwx hb) hwy))).mono fun e w' ⟨e1, e2⟩ => ⟨e1, below_next hwy e2⟩
  have HC1 : Hid (∀ wy, Below W.heap.size W wy -> Calls prog 40 #[.int .i64 1, .pointer (some ⟨wx.heap.size, 0, none⟩)] wy fun e w' => (∃ s : ByteArray, e = .returned (.string s) /\ s.data.toList = u /\ s.size <= 1000) /\ Below W.heap.size W w') := fun wy hwy => (kidN_c wx.heap.size 14 tx N pq ka kl kc 1 u wy ((hwy.block _ (lt_of_block hT)).trans hT) (h1.below (below_next (below_next hwx hb) hwy))).mono fun e w' ⟨e1, e2⟩ => ⟨e1, below_next hwy e2⟩
  have HCELL : Hid (∀ wy, Below W.heap.size W wy -> wy.cell? ⟨wx.heap.size, 1, none⟩ = some (.string tx)) := fun wy hwy => by
    have := (nd_facts ((hwy.block _ (lt_of_block hT)).trans hT)).1.2.1
    simpa using this
  have hS0 := HCELL.out W.drew (Below.refl _ _).drew
  have HB := hideP hb
  have HL := hideP hl
  have htx : tx.size <= 990 := by omega
  subst hW
  clear hb hT h0 h1 hwx hl
  go_enter func21, ntmps21
  go_wp2_with fail
  go_region_held (fun W => W.cell? ⟨wx.heap.size, 1, none⟩ = some (.string tx)) (assumption) (first
    | (go_at_call 40; refine (HC0.out _ (by first | exact Below.refl _ _ | exact below_drewN (Below.refl _ _) _ | exact (Below.refl _ _).drew)).mono ?_; rintro e w1 ⟨⟨s0, rfl, hs0, hz0⟩, hb1⟩; have t0 := HCELL.out _ hb1; have HS0 := hideP hs0; have HB1 := hideP hb1; have v1 : ¬ 9223372036854775807 < 1 + s0.size := (by omega); have v2 : ¬ 9223372036854775807 < 1 + s0.size + 1 := (by omega); have v3 : ¬ 9223372036854775807 < 1 + s0.size + 1 + tx.size := (by omega); have v4 : ¬ 9223372036854775807 < 1 + s0.size + 1 + tx.size + 1 := (by omega); clear hs0 hb1)
    | (go_at_call 40; refine (HC1.out _ (by first | exact HB1.out | exact below_drewN HB1.out _ | exact HB1.out.drew)).mono ?_; rintro e w2 ⟨⟨s1, rfl, hs1, hz1⟩, hb2⟩; have t1 := HCELL.out _ hb2; have HS1 := hideP hs1; have HB2 := hideP hb2; have v5 : ¬ 9223372036854775807 < 1 + s0.size + 1 + tx.size + 1 + s1.size := (by omega); have v6 : ¬ 9223372036854775807 < 1 + s0.size + 1 + tx.size + 1 + s1.size + 1 := (by omega); clear hs1 hb2))
  all_goals go_wp2_with fail
  all_goals go_ret
  all_goals refine ⟨⟨_, rfl, ?_, ?_⟩, below_next HB.out HB2.out⟩
  · rw [<- HS0.out, <- HS1.out]
    simp [ByteArray.data_append]
  · have h1 : s0.size = t.length := by rw [<- HS0.out]; rfl
    have h2 : s1.size = u.length := by rw [<- HS1.out]; rfl
    have := HL.out
    simp [ByteArray.size_append]
    have h3 : (⟨#[40]⟩ : ByteArray).size = 1 := rfl
    have h4 : (⟨#[41]⟩ : ByteArray).size = 1 := rfl
    have h5 : (⟨#[32]⟩ : ByteArray).size = 1 := rfl
    omega
end Go.Proofs.YtlhmofphpfdjlaaGreatDoor
/- Names and operations of two: that they fit, and their texts. -/
namespace Go.Proofs.YtlhmofphpfdjlaaGreatDoor
open Go.Proofs.Tryz
open Go.RowKit
/-- Names, and operations of two of these, at most n deep. -/
def NamesOps : Nat -> Ty -> Prop
  | 0, _ => False
  | n + 1, D => (∃ s, D = mkN 4 s 0 [] /\ nameV s = true /\ s.length <= 100) ∨ ∃ o x y, D = mkN 14 o 0 [x, y] /\ opsV.contains o = true /\ o.length <= 100 /\ NamesOps n x /\ NamesOps n y
def SetN (D : Ty) : Prop := ∃ n, NamesOps n D
theorem mkN_inj {k k' : Nat} {a b : List UInt8} {N N' : Nat} {ks ks' : List Ty} (h : mkN k a N ks = mkN k' b N' ks') : k = k' /\ a = b /\ N = N' /\ ks = ks' := by
  obtain ⟨h1, h2, h3, h4⟩ := mkT_inj h
  have := congrArg List.length h3
  simp at this
  exact ⟨by omega, h2, this, h4⟩
theorem setN_kids (D : Ty) (h : SetN D) : ∀ x ∈ kidsT D, SetN x := by
  intro x hx
  obtain ⟨n, h⟩ := h
  cases n with
  | zero => exact h.elim
  | succ n =>
    rcases h with ⟨s, rfl, _⟩ | ⟨o, y, z, rfl, _, _, hy, hz⟩
    · rw [mkN, kids_mk] at hx; cases hx
    · rw [mkN, kids_mk] at hx
      simp at hx
      rcases hx with rfl | rfl
      · exact ⟨n, hy⟩
      · exact ⟨n, hz⟩
theorem strB_of {tx : ByteArray} {a : List UInt8} (h : tx.data.toList = a) : tx = ⟨a.toArray⟩ := by cases tx; cases h; rfl
theorem nd_parts {w : World} {n k : Nat} {tx : ByteArray} {N : Nat} {pq : PX} {ka : Option Addr} {kl kc : Nat} {k' : Nat} {a : List UInt8} {N' : Nat} {ks : List Ty} (h : NdAt w n k tx N pq ka kl kc (mkN k' a N' ks)) : k = k' /\ tx = ⟨a.toArray⟩ /\ N = N' /\ kl = ks.length := by
  cases n with
  | zero => exact h.elim
  | succ n =>
    obtain ⟨ks', e1, e2, _⟩ := h
    obtain ⟨h1, h2, h3, h4⟩ := mkN_inj e2
    exact ⟨h1.symm, strB_of h2.symm, h3.symm, by rw [e1, h4]⟩
theorem fit_all (w : World) (hf : FormsN w) (hw : Words w) (ho : OpsN w) : NFit w SetN fun _ => true := by
  intro n k tx N pq ka kl kc D wx hwx hS hD
  obtain ⟨m, hS⟩ := hS
  cases m with
  | zero => exact hS.elim
  | succ m =>
    rcases hS with ⟨s, rfl, hs, hl⟩ | ⟨o, y, z, rfl, hs, hl, _, _⟩
    · obtain ⟨rfl, rfl, rfl, rfl⟩ := nd_parts hD
      exact fitsN_one 4 _ 0 pq ka 0 kc true wx (by decide) (hf.below hwx) (by decide) rfl (by decide) (by decide) rfl (by decide) (by decide) fun wy hwy => by
        have := text_name ⟨s.toArray⟩ (by show s.length <= 1000; omega) wy ((hw.below hwx).below hwy)
        rw [show nameV (⟨s.toArray⟩ : ByteArray).data.toList = true from hs] at this
        exact this
    · obtain ⟨rfl, rfl, rfl, rfl⟩ := nd_parts hD
      exact fitsN_one 14 _ 0 pq ka 2 kc true wx (by decide) (hf.below hwx) (by decide) rfl (by decide) (by decide) rfl (by decide) (by decide) fun wy hwy => by
        have := text_op ⟨o.toArray⟩ wy ((ho.below hwx).below hwy)
        rw [show opsV.contains (⟨o.toArray⟩ : ByteArray).data.toList = true from hs] at this
        exact this
/-- What tree.Expr leaves. -/
def TxPost (w : World) (t : List UInt8) (e : Ending) (w' : World) : Prop := (∃ s : ByteArray, e = .returned (.string s) /\ s.data.toList = t) /\ Below w.heap.size w w'
theorem trExpr_c (k : Nat) (tx : ByteArray) (N : Nat) (pq : PX) (ka : Option Addr) (kl kc : Nat) (t : List UInt8) (w : World) (h : ∀ wx, Below w.heap.size w wx -> Calls prog 20 #[ndV k tx N pq ka kl kc] wx fun e w' => e = .returned (.bool true) /\ Below wx.heap.size wx w') (hx : ExprIs w k tx N pq ka kl kc t) :
    Calls prog 10 #[ndV k tx N pq ka kl kc] w (TxPost w t) := by
  have hb := bl_alloc w (ndO k tx N pq ka kl kc)
  have HBX : Hid ((w.alloc (ndO k tx N pq ka kl kc)).heap[w.heap.size]? = some (ndO k tx N pq ka kl kc)) := heap_alloc_last w _
  have HC := hideP (h _ hb)
  have HX := hideP hx
  have HB := hideP hb
  clear hb h hx
  go_enter func10, ntmps10
  go_wp2_with fail
  refine HC.out.mono ?_
  rintro e w1 ⟨rfl, hb1⟩
  have hb2 := below_next HB.out hb1
  obtain ⟨⟨x0, x1, x2, x3, x4, x5, x6, x7⟩, hltx⟩ := nd_facts ((hb1.block _ (lt_of_block HBX.out)).trans HBX.out)
  simp only [Nat.zero_add] at x0 x1 x2 x3 x4 x5 x6 x7
  have HC2 := hideP (HX.out _ hb2)
  have HB2 := hideP hb2
  clear hb1 hb2
  go_wp2_with fail
  refine HC2.out.mono ?_
  rintro e w2 ⟨⟨s, rfl, hs, _⟩, hb3⟩
  have HS := hideP hs
  have HB3 := hideP (below_next HB2.out hb3)
  clear hs hb3
  go_wp2_with fail
  go_ret
  exact ⟨⟨_, rfl, HS.out⟩, HB3.out⟩
/-- All that is asked of memory. -/
structure Base (w : World) : Prop where
  ff : FormsN w
  ww : Words w
  oo : OpsN w
theorem Base.below {w w' : World} (h : Base w) (hb : Below w.heap.size w w') : Base w' := ⟨h.ff.below hb, h.ww.below hb, h.oo.below hb⟩
theorem isN {w : World} (hB : Base w) {n k : Nat} {tx : ByteArray} {N : Nat} {pq : PX} {ka : Option Addr} {kl kc : Nat} {D : Ty} (hD : SetN D) (h : NdAt w (n + 1) k tx N pq ka kl kc D) (hs : sizeT (n + 1) D <= 1000) (hh : heightT (n + 1) D <= 25) : ∀ wx, Below w.heap.size w wx -> Calls prog 20 #[ndV k tx N pq ka kl kc] wx fun e w' => e = .returned (.bool true) /\ Below wx.heap.size wx w' := fun wx hwx =>
  isExpr_c k tx N pq ka kl kc true wx fun wy hwy => everyN_c n k tx N pq ka kl kc D SetN (fun _ => true) wy (nd_below (nd_below h hwx) hwy) hs hh hD setN_kids (fun _ _ => rfl) (fit_all wy ((hB.below hwx).below hwy).ff ((hB.below hwx).below hwy).ww ((hB.below hwx).below hwy).oo)
theorem kid_is {w : World} {n : Nat} {ka : Option Addr} {ks : List Ty} {i : Nat} {t : List UInt8} (h : NKids w n ka ks) (hi : i < ks.length) (hl : ks.length <= 1000) (ht : ∀ k tx N pq la ll lc, NdAt w n k tx N pq la ll lc ks[i] -> ExprIs w k tx N pq la ll lc t) : KidIs w ka ks.length i t := by
  obtain ⟨b, o, k, tx, N, pq, la, ll, lc, e, hlt, q, hd⟩ := nkid_at h hi
  exact ⟨hi, hl, b, o, k, tx, N, pq, la, ll, lc, e, hlt, q, ht k tx N pq la ll lc hd⟩
/-- The text of names and operations. -/
def textN : Nat -> Ty -> List UInt8
  | 0, _ => []
  | n + 1, D => match kidsT D with
    | [x, y] => 40 :: textN n x ++ 32 :: nameT D ++ 32 :: textN n y ++ [41]
    | _ => nameT D
theorem textN_name (n : Nat) (s : List UInt8) : textN (n + 1) (mkN 4 s 0 []) = s := rfl
theorem textN_op (n : Nat) (o : List UInt8) (x y : Ty) : textN (n + 1) (mkN 14 o 0 [x, y]) = 40 :: textN n x ++ 32 :: o ++ 32 :: textN n y ++ [41] := rfl
theorem texts_is {w : World} : ∀ (n m k : Nat) (tx : ByteArray) (N : Nat) (pq : PX) (ka : Option Addr) (kl kc : Nat) (D : Ty), NamesOps m D -> m <= n -> NdAt w n k tx N pq ka kl kc D -> (textN m D).length <= 900 -> ExprIs w k tx N pq ka kl kc (textN m D)
  | 0, m, _, _, _, _, _, _, _, _, hS, hm, _, _ => by
    obtain rfl : m = 0 := by omega
    exact hS.elim
  | n + 1, 0, _, _, _, _, _, _, _, _, hS, _, _, _ => hS.elim
  | n + 1, m + 1, k, tx, N, pq, ka, kl, kc, D, hS, hm, hD, hl => by
    rcases hS with ⟨s, rfl, hs, hl⟩ | ⟨o, y, z, rfl, hs, hlo, hy, hz⟩
    · obtain ⟨rfl, rfl, rfl, rfl⟩ := nd_parts hD
      exact expr_name ⟨s.toArray⟩ (by show s.length <= 1000; omega) 0 pq ka 0 kc w
    · have hp := nd_parts hD
      obtain ⟨rfl, rfl, rfl, rfl⟩ := hp
      obtain ⟨ks', e1, e2, _, _, _, _, _, hr⟩ := hD
      obtain ⟨_, _, _, h4⟩ := mkN_inj e2
      subst h4
      rw [textN_op] at hl ⊢
      simp only [List.length_append, List.length_cons, List.length_nil] at hl
      have h0 := kid_is (i := 0) hr (by simp) (by simp) fun k tx N pq la ll lc h => texts_is n m k tx N pq la ll lc y hy (by omega) h (by omega)
      have h1 := kid_is (i := 1) hr (by simp) (by simp) fun k tx N pq la ll lc h => texts_is n m k tx N pq la ll lc z hz (by omega) h (by omega)
      exact expr_op ⟨o.toArray⟩ 0 pq ka 2 kc (textN m y) (textN m z) w h0 h1 (by show _ + _ + o.length <= _; omega)
/-- tree.Expr of names and operations. -/
theorem names_expr {w : World} (hB : Base w) {n m k : Nat} {tx : ByteArray} {N : Nat} {pq : PX} {ka : Option Addr} {kl kc : Nat} {D : Ty} (hS : NamesOps m D) (hm : m <= n + 1) (h : NdAt w (n + 1) k tx N pq ka kl kc D) (hs : sizeT (n + 1) D <= 1000) (hh : heightT (n + 1) D <= 25) (hl : (textN m D).length <= 900) :
    Calls prog 10 #[ndV k tx N pq ka kl kc] w (TxPost w (textN m D)) :=
  trExpr_c k tx N pq ka kl kc _ w (isN hB ⟨m, hS⟩ h hs hh) (texts_is (n + 1) m k tx N pq ka kl kc D hS hm h hl)
end Go.Proofs.YtlhmofphpfdjlaaGreatDoor
