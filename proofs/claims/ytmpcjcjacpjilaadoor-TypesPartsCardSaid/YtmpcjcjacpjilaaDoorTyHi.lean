/- types.Height by a contract. -/
import Derived.Test.YtmpcjcjacpjilaaDoorTyLev
namespace Go.Proofs.YtmpcjcjacpjilaaDoor
open Go.RowKit

def hiL (n : Nat) (ps : List (Value × List Ty)) : Nat := maxL (ps.map fun p => maxL (p.2.map (heightT n)))

theorem lev_height {w0 wr : World} {n : Nat} {v : Value} {Ds : List Ty} {ps : List (Value × List Ty)} {vs : List Value} (h : Lev w0 wr true n v Ds ps vs) (hne : Ds ≠ []) : 1 + hiL n ps = maxL (Ds.map (heightT (n + 1))) := by
  apply Nat.le_antisymm
  · have h1 : hiL n ps ≤ maxL (Ds.map (heightT (n + 1))) - 1 := by
      refine maxL_le fun a ha => ?_
      obtain ⟨p, hp, rfl⟩ := List.mem_map.1 ha
      obtain ⟨D, hD, e⟩ := h.fr p hp
      have := le_maxL (List.mem_map.2 ⟨D, hD, rfl⟩ : heightT (n + 1) D ∈ Ds.map (heightT (n + 1)))
      rw [heightT] at this
      rw [e]
      omega
    obtain ⟨D, rest, e⟩ := List.exists_cons_of_ne_nil hne
    have h2 := le_maxL (List.mem_map.2 ⟨D, by rw [e]; simp, rfl⟩ : heightT (n + 1) D ∈ Ds.map (heightT (n + 1)))
    rw [heightT] at h2
    omega
  · refine maxL_le fun a ha => ?_
    obtain ⟨D, hD, rfl⟩ := List.mem_map.1 ha
    rw [heightT]
    by_cases hk : kidsT D = []
    · rw [hk]
      simp [maxL]
    · obtain ⟨p, hp, e⟩ := h.al rfl D hD hk
      have := le_maxL (List.mem_map.2 ⟨p, hp, rfl⟩ : maxL (p.2.map (heightT n)) ∈ ps.map fun p => maxL (p.2.map (heightT n)))
      rw [e] at this
      unfold hiL
      omega

theorem hiL_pos {w : World} {u : Bool} {n : Nat} {ps : List (Value × List Ty)} (h : ∀ p ∈ ps, LstAt w u n p.1 p.2) (hne : ps ≠ []) : 1 ≤ hiL n ps := by
  obtain ⟨p, rest, rfl⟩ := List.exists_cons_of_ne_nil hne
  obtain ⟨b, o, c, _, hne2, _, hk⟩ := h p (by simp)
  obtain ⟨D, ks, e⟩ := List.exists_cons_of_ne_nil hne2
  have hm : ∃ m, n = m + 1 := by
    rcases hk with hk | ⟨_, _, _, _, _, _, hc⟩
    · exact absurd hk hne2
    · obtain ⟨_, _, _, _, _, _, _, _, ht⟩ := hc 0 (List.length_pos_iff.2 hne2)
      cases n with
      | zero => exact ht.elim
      | succ m => exact ⟨m, rfl⟩
  obtain ⟨m, rfl⟩ := hm
  have h1 := le_maxL (List.mem_map.2 ⟨D, by rw [e]; simp, rfl⟩ : heightT (m + 1) D ∈ p.2.map (heightT (m + 1)))
  have h2 := le_maxL (List.mem_map.2 ⟨p, by simp, rfl⟩ : maxL (p.2.map (heightT (m + 1))) ∈ (p :: rest).map fun p => maxL (p.2.map (heightT (m + 1))))
  rw [heightT] at h1
  unfold hiL
  omega

theorem hiL_flat (n : Nat) (ps : List (Value × List Ty)) : hiL n ps = maxL ((ps.map (·.2)).flatten.map (heightT n)) := by
  apply Nat.le_antisymm
  · refine maxL_le fun a ha => ?_
    obtain ⟨p, hp, rfl⟩ := List.mem_map.1 ha
    refine maxL_le fun x hx => le_maxL ?_
    obtain ⟨D, hD, rfl⟩ := List.mem_map.1 hx
    exact List.mem_map.2 ⟨D, List.mem_flatten.2 ⟨p.2, List.mem_map.2 ⟨p, hp, rfl⟩, hD⟩, rfl⟩
  · refine maxL_le fun a ha => ?_
    obtain ⟨D, hD, rfl⟩ := List.mem_map.1 ha
    obtain ⟨L, hL, hD⟩ := List.mem_flatten.1 hD
    obtain ⟨p, hp, rfl⟩ := List.mem_map.1 hL
    exact Nat.le_trans (le_maxL (List.mem_map.2 ⟨D, hD, rfl⟩)) (le_maxL (List.mem_map.2 ⟨p, hp, rfl⟩ : maxL (p.2.map (heightT n)) ∈ ps.map fun p => maxL (p.2.map (heightT n))))

theorem tot_flat (n : Nat) (ps : List (Value × List Ty)) : ((ps.map (·.2)).flatten.map (sizeT n)).sum = totL n ps := by
  rw [sum_flat, List.map_map]
  rfl

theorem flat_ne {w : World} {u : Bool} {n : Nat} {ps : List (Value × List Ty)} (h : ∀ p ∈ ps, LstAt w u n p.1 p.2) (hne : ps ≠ []) : (ps.map (·.2)).flatten ≠ [] := by
  obtain ⟨p, rest, rfl⟩ := List.exists_cons_of_ne_nil hne
  obtain ⟨b, o, c, _, hne2, _, hk⟩ := h p (by simp)
  simp [hne2]

/-- A level in memory, as Height keeps it. -/
def LevelAt (w : World) (u : Bool) (m : Nat) (v : Value) (ps : List (Value × List Ty)) : Prop :=
  ∃ a c, v = .slice a ps.length c ∧ RowAt w a (ps.map (·.1)) ∧ (∀ p ∈ ps, LstAt w u m p.1 p.2) ∧ totL m ps ≤ 1000

theorem level_of_lev {w0 wr : World} {u : Bool} {n : Nat} {v : Value} {Ds : List Ty} {ps : List (Value × List Ty)} {vs : List Value} (h : Lev w0 wr u n v Ds ps vs) (ht : (Ds.map (sizeT (n + 1))).sum ≤ 1000) : LevelAt wr u n v ps := by
  obtain ⟨a, c, e, hr, _⟩ := row_of_owns h.ow
  rw [List.length_map] at e
  exact ⟨a, c, e, hr, fun p hp => lst_below (h.ls p hp) h.bl, Nat.le_trans h.tt ht⟩

/-- The first level: one list of one type. -/
theorem first_level {w : World} {u : Bool} {n : Nat} {k : Int} {nm : ByteArray} {na : Option Addr} {nl nc : Nat} {ka : Option Addr} {kl kc : Nat} {D : Ty} {B : Nat} (hB : B = w.heap.size) (h : TyAt w u n (.agg #[.int .i64 k, .string nm, .slice na nl nc, .slice ka kl kc]) D) (hs : sizeT n D ≤ 1000) :
    LevelAt ((w.alloc (tyO k nm na nl nc ka kl kc)).alloc (.cells #[.slice (some ⟨B, 0, none⟩) 1 1] 23)) u n (.slice (some ⟨B + 1, 0, none⟩) 1 1) [(.slice (some ⟨B, 0, none⟩) 1 1, [D])] := by
  subst hB
  have hb := below_next (bl_alloc w (tyO k nm na nl nc ka kl kc)) (bl_alloc _ (.cells #[.slice (some ⟨w.heap.size, 0, none⟩) 1 1] 23))
  have h0 : ((w.alloc (tyO k nm na nl nc ka kl kc)).alloc (.cells #[.slice (some ⟨w.heap.size, 0, none⟩) 1 1] 23)).heap[w.heap.size]? = some (tyO k nm na nl nc ka kl kc) := by
    rw [Below.heap_alloc _ _ _ (by simp)]
    exact heap_alloc_last w _
  have h1 : ((w.alloc (tyO k nm na nl nc ka kl kc)).alloc (.cells #[.slice (some ⟨w.heap.size, 0, none⟩) 1 1] 23)).heap[w.heap.size + 1]? = some (.cells #[.slice (some ⟨w.heap.size, 0, none⟩) 1 1] 23) := by
    have := heap_alloc_last (w.alloc (tyO k nm na nl nc ka kl kc)) (.cells #[.slice (some ⟨w.heap.size, 0, none⟩) 1 1] 23)
    simpa using this
  refine ⟨_, _, rfl, .inr ⟨_, 0, rfl, lt_of_block h1, fun i hi => ?_⟩, fun p hp => ?_, by simpa [totL] using hs⟩
  · obtain rfl : i = 0 := by simp at hi; omega
    rw [cell_of_row _ _ _ _ _ _ h1]
    rfl
  · rw [List.mem_singleton.1 hp]
    refine ⟨_, _, _, rfl, by simp, by simp [reachBytes], .inr ⟨_, _, rfl, lt_of_block h0, by simp [World.frozen?, h0], fun _ => ⟨_, _, h0⟩, fun i hi => ?_⟩⟩
    obtain rfl : i = 0 := by simp at hi; omega
    refine ⟨_, _, _, _, ?_, ?_, ?_, ?_, ty_below h hb⟩ <;> (rw [cell_of_row _ _ _ _ _ _ h0]; rfl)

theorem next_c (u : Bool) (n : Nat) (v : Value) (ps : List (Value × List Ty)) (w : World) (h : LevelAt w u (n + 1) v ps) : Calls Tryd.prog 42 #[v] w (NextPost w u n (ps.map (·.2)).flatten) := by
  obtain ⟨a, c, rfl, hr, hls, ht⟩ := h
  exact nextLevel_c u n ps a c w hr hls ht

theorem next_zero (u : Bool) (v : Value) (ps : List (Value × List Ty)) (w : World) (h : LevelAt w u 0 v ps) : ps = [] := by
  obtain ⟨a, c, _, _, hls, _⟩ := h
  cases ps with
  | nil => rfl
  | cons p ps =>
    obtain ⟨b, o, c, _, hne2, _, hk⟩ := hls p (by simp)
    rcases hk with hk | ⟨_, _, _, _, _, _, hc⟩
    · exact absurd hk hne2
    · obtain ⟨_, _, _, _, _, _, _, _, ht⟩ := hc 0 (List.length_pos_iff.2 hne2)
      exact ht.elim

set_option maxHeartbeats 4000000 in
set_option maxRecDepth 100000 in
theorem height_c (u : Bool) (n : Nat) (v : Value) (D : Ty) (w : World) (h : TyAt w u n v D) (hs : sizeT n D ≤ 1000) :
    Calls Tryd.prog 27 #[v] w fun e w' => (∃ r : Nat, e = .returned (.int .i64 r) ∧ 1 ≤ r ∧ r ≤ 17 ∧ (u = true → r = min (heightT n D) 17)) ∧ Below w.heap.size w w' := by
  cases n with
  | zero => exact h.elim
  | succ n =>
    have hh := h
    obtain ⟨k, nm, na, nc, ka, kc, ns, ks, rfl, rfl, _⟩ := h
    have hb1 := bl_alloc w (tyO k nm na ns.length nc ka ks.length kc)
    have hf := first_level (B := w.heap.size + 1) (by simp) (ty_below hh hb1) hs
    have HN := hideP (next_c u n _ _ _ hf)
    have hsum : (([(Value.slice (some ⟨w.heap.size + 1, 0, none⟩) 1 1, [mkT k nm.data.toList ns ks])].map (·.2)).flatten.map (sizeT (n + 1))).sum ≤ 1000 := by simpa using hs
    have HS := hideP hsum
    have HF := hideP hf
    clear hf hh hb1 hsum
    go_enter Tryd.func27, Tryd.ntmps27
    go_wp2_with fail
    refine HN.out.mono ?_
    rintro e w1 ⟨v, ps, vs, rfl, hlev⟩
    have HL := hideP hlev
    have HLV := hideP (level_of_lev hlev HS.out)
    have HB := hideP (((bl_alloc w (tyO k nm na ns.length nc ka ks.length kc)).trans ((((Below.refl _ _).alloc (by simp) _).alloc (by simp; omega) _).trans (hlev.bl.mono (by simp; omega)))))
    have HI : Hid (u = true → hiL n ps + 1 = heightT (n + 1) (mkT k nm.data.toList ns ks)) := by
      intro hu
      subst hu
      have := lev_height hlev (by simp)
      simp [maxL] at this
      omega
    clear hlev HL HN HF HS
    go_wp2_with fail
    go_loopw [3, 4] (fun s l wr => ∃ (h m : Nat) (ps : List (Value × List Ty)), s = .int .i64 h ∧ 1 ≤ h ∧ h ≤ 17 ∧ Hid (LevelAt wr u m l ps) ∧ Hid (u = true → hiL m ps + h = heightT (n + 1) (mkT k nm.data.toList ns ks)) ∧ Hid (Below w.heap.size w wr)) (fun s _ _ => 17 - (intOf s).toNat)
    case atStart => exact ⟨1, n, ps, rfl, by omega, by omega, HLV, HI, HB⟩
    case round =>
      obtain ⟨h, m, ps, rfl, h1, h2, hlv, hhi, hb⟩ := hrel
      have hlv' := hlv.out
      obtain ⟨a, c, rfl, hrow, hls, htot⟩ := hlv'
      have htl : ps.length ≤ 1000 := Nat.le_trans (tot_len hls) htot
      have HLS := hideP hls
      have HT := hideP htot
      clear hrow hls htot HLV HI HB
      by_cases hz : ps = []
      · subst hz
        clear hlv HLS
        go_wp2_with fail
        go_ret
        refine ⟨⟨h, rfl, h1, h2, fun hu => ?_⟩, hb.out⟩
        have := hhi.out hu
        simp [hiL, maxL] at this
        omega
      · have hp : 1 ≤ ps.length := List.length_pos_iff.2 hz
        have hpi : (0 : Int) < (ps.length : Int) := by omega
        by_cases hh : h = 17
        · subst hh
          have HP := hideP (hiL_pos HLS.out hz)
          clear hlv hz
          go_wp2_with fail
          go_ret
          refine ⟨⟨17, rfl, h1, h2, fun hu => ?_⟩, hb.out⟩
          have := hhi.out hu
          omega
        · have hl : (h : Int) ≤ 16 := by omega
          cases m with
          | zero => exact absurd (next_zero u _ _ _ hlv.out) hz
          | succ m =>
            have HN := hideP (next_c u m _ _ _ hlv.out)
            have HNE := hideP (flat_ne HLS.out hz)
            clear hlv hz
            go_wp2_with fail
            refine HN.out.mono ?_
            rintro e w2 ⟨v2, ps2, vs2, rfl, hlev⟩
            have HLV2 := hideP (level_of_lev hlev (by rw [tot_flat]; exact HT.out))
            have HB2 := hideP (below_next hb.out hlev.bl)
            have HI2 : Hid (u = true → hiL m ps2 + (h + 1) = heightT (n + 1) (mkT k nm.data.toList ns ks)) := by
              intro hu
              have := hhi.out hu
              subst hu
              have h3 := lev_height hlev HNE.out
              rw [← hiL_flat] at h3
              omega
            clear hlev HN HNE hhi hb HLS HT
            go_wp2_with fail
            exact ⟨⟨h + 1, m, ps2, by go_num, by omega, by omega, HLV2, HI2, HB2⟩, by simp [intOf]; omega⟩
end Go.Proofs.YtmpcjcjacpjilaaDoor
