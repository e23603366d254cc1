/- Part of the proof of TreeNormal: the texts that follow, in build order. -/
import Derived.Test.YtmpcjcjacpjilabGreatDoorPart8
import Derived.Maps.AppendAt
import Derived.Test.YtmpcjcjacpjilabGreatDoorPart6
import Derived.Test.YtmpcjcjacpjilabGreatDoorPart3
import Derived.Test.YtmpcjcjacpjilabGreatDoorPart5
import Derived.Test.YtmpcjcjacpjilabGreatDoorPart7
import Derived.Deep.OwnRows
import Derived.Lib.Join

/- What the second loop of types.normRecord keeps: the record under way. -/
namespace Go.Proofs.YtmpcjcjacpjilabGreatDoor
open Go.RowKit

structure R2 (w2 wx : World) (l : List Fd) (a b : Nat) (vN vK : Value) : Prop where
  bl : Below w2.heap.size w2 wx
  hx : wx.heap[w2.heap.size]? = some (.cells #[.int .i64 5, .string ⟨#[]⟩, vN, vK] 25)
  oN : wx.ownsRow (w2.heap.size + 1) 9 1 vN a ((l.take a).map fun f => .string f.1)
  oK : wx.ownsRow (w2.heap.size + 1) 25 4 vK b ((l.take b).flatMap fun f => f.2.1.list)
  ne : vN.ownBlock = none ∨ vN.ownBlock ≠ vK.ownBlock

section
variable {w2 wx wx' : World} {l : List Fd} {a b : Nat} {vN vK : Value}

theorem own_none {w : World} {base t k n : Nat} {v : Value} {xs : List Value} (h : w.ownsRow base t k v n xs) (h0 : v.ownBlock = none) : v = .slice none 0 0 ∧ n = 0 := by
  rcases h.2 with h1 | ⟨g, cap, cur, h1, _⟩
  · exact h1
  · rw [h1] at h0
    cases h0

theorem R2.lt (h : R2 w2 wx l a b vN vK) : w2.heap.size < wx.heap.size := lt_of_block h.hx

theorem R2.grow (h : R2 w2 wx l a b vN vK) (hb : Below wx.heap.size wx wx') : R2 w2 wx' l a b vN vK where
  bl := below_next h.bl hb
  hx := (hb.block _ h.lt).trans h.hx
  oN := h.oN.kept ⟨hb.os, hb.tape, hb.output, hb.size, fun k hk _ => hb.block k hk⟩ (row := none) (by cases vN.ownBlock <;> simp)
  oK := h.oK.kept ⟨hb.os, hb.tape, hb.output, hb.size, fun k hk _ => hb.block k hk⟩ (row := none) (by cases vK.ownBlock <;> simp)
  ne := h.ne

/-- The record's row and any elder one, behind an append. -/
theorem R2.kept (h : R2 w2 wx l a b vN vK) {o : Obj} {w4 : World} {v : Value} {t k n : Nat} {xs : List Value} (hv : wx.ownsRow (w2.heap.size + 1) t k v n xs) (hg : (wx.alloc o).grownBy w4 v.ownBlock) :
    w4.heap[w2.heap.size]? = some (.cells #[.int .i64 5, .string ⟨#[]⟩, vN, vK] 25) ∧ ∀ q, q < wx.heap.size → some q ≠ v.ownBlock → w4.heap[q]? = wx.heap[q]? := by
  have h1 : ∀ q, q < wx.heap.size → some q ≠ v.ownBlock → w4.heap[q]? = wx.heap[q]? := fun q hq hne => (hg.block q (by simp; omega) hne).trans (Below.heap_alloc _ _ _ hq)
  exact ⟨(h1 _ h.lt fun e => by have := (hv.lt _ e.symm).1; omega).trans h.hx, h1⟩

theorem R2.names (h : R2 w2 wx l a b vN vK) {o : Obj} {w4 : World} {v : Value} {s : ByteArray} (ha : a < l.length) (hs : s = l[a].1) (ho : w4.ownsRow (w2.heap.size + 1) 9 1 v (a + 1) (((l.take a).map fun f => .string f.1) ++ [.string s])) (hg : (wx.alloc o).grownBy w4 vN.ownBlock)
    (hloc : v.ownBlock = vN.ownBlock ∨ v.ownBlock = some (wx.alloc o).heap.size) : R2 w2 (w4.setCell ⟨w2.heap.size, 2, none⟩ v) l (a + 1) b v vK := by
  have hlt := h.lt
  obtain ⟨h1, h2⟩ := h.kept h.oN hg
  have hKb : vK.ownBlock = none ∨ vK.ownBlock ≠ vN.ownBlock := by
    rcases h.ne with e | e
    · cases hk : vK.ownBlock with
      | none => exact .inl rfl
      | some q => rw [e]; exact .inr (by simp)
    · exact .inr fun e2 => e e2.symm
  refine ⟨?_, cells_setCell h1, ?_, ?_, ?_⟩
  · refine Below.setCell (p := ⟨w2.heap.size, 2, none⟩) ?_ (Nat.le_refl _) _
    exact (h.bl.alloc (Nat.le_of_lt hlt) o).grown hg (by simp; omega) fun q e => by have := (h.oN.lt _ e).1; omega
  · rw [List.take_succ_eq_append_getElem ha, List.map_append]
    have := ownsRow_setCell_below ho (a := ⟨w2.heap.size, 2, none⟩) (Nat.lt_succ_self _) v
    rw [hs] at this
    exact this
  · refine ownsRow_setCell_below ?_ (a := ⟨w2.heap.size, 2, none⟩) (Nat.lt_succ_self _) v
    exact (h.oK.alloc o).kept hg hKb
  · refine .inr fun e => ?_
    rcases hloc with e1 | e1
    · rw [e1] at e
      rcases h.ne with e2 | e2
      · rw [e2] at e1
        have := own_none ho e1
        omega
      · exact e2 e
    · rw [e1] at e
      have := (h.oK.lt _ e.symm).2
      simp at this
      omega

theorem R2.kids (h : R2 w2 wx l a b vN vK) {o : Obj} {w4 : World} {v : Value} {c : Cells} (hb : b < l.length) (hc : c = l[b].2.1) (ho : w4.ownsRow (w2.heap.size + 1) 25 4 v (b + 1) (((l.take b).flatMap fun f => f.2.1.list) ++ c.list)) (hg : (wx.alloc o).grownBy w4 vK.ownBlock)
    (hloc : v.ownBlock = vK.ownBlock ∨ v.ownBlock = some (wx.alloc o).heap.size) : R2 w2 (w4.setCell ⟨w2.heap.size, 3, none⟩ v) l a (b + 1) vN v := by
  have hlt := h.lt
  obtain ⟨h1, h2⟩ := h.kept h.oK hg
  refine ⟨?_, cells_setCell h1, ?_, ?_, ?_⟩
  · refine Below.setCell (p := ⟨w2.heap.size, 3, none⟩) ?_ (Nat.le_refl _) _
    exact (h.bl.alloc (Nat.le_of_lt hlt) o).grown hg (by simp; omega) fun q e => by have := (h.oK.lt _ e).1; omega
  · refine ownsRow_setCell_below ?_ (a := ⟨w2.heap.size, 3, none⟩) (Nat.lt_succ_self _) v
    exact (h.oN.alloc o).kept hg h.ne
  · rw [List.take_succ_eq_append_getElem hb, List.flatMap_append]
    have := ownsRow_setCell_below ho (a := ⟨w2.heap.size, 3, none⟩) (Nat.lt_succ_self _) v
    rw [hc] at this
    simpa using this
  · rcases h.ne with e | e
    · exact .inl e
    · refine .inr fun e2 => ?_
      rcases hloc with e1 | e1
      · exact e (e2.trans e1)
      · rw [e1] at e2
        have := (h.oN.lt _ e2).2
        simp at this
        omega
end

theorem one_newN (W : World) {N : Nat} (hN : N = W.heap.size) (x : Value) (t : TypeId) : ∀ j u, ([x] : List Value)[j]? = some u → (W.alloc (.cells #[x] t)).cell? ((⟨N, 0, none⟩ : Addr).add j) = some u := by
  subst hN
  intro j u hj
  cases j with
  | zero =>
    have hadd : (⟨W.heap.size, 0, none⟩ : Addr).add 0 = ⟨W.heap.size, 0, none⟩ := by simp [Addr.add]
    rw [hadd, cell_of_row _ _ 0 _ t (0, 0) (heap_alloc_last W _)]
    simpa using hj
  | succ j => simp at hj

/-- The record, made. -/
theorem R2.made {w2 wx : World} {l : List Fd} {vN vK : Value} {lo n : Nat} (h : R2 w2 wx l l.length l.length vN vK) (hlo : lo ≤ w2.heap.size) (h16 : l.length ≤ 16) (hs : ∀ f ∈ l, f.1.size ≤ reachBytes) (hty : ∀ f ∈ l, ∃ E, f.2.2 = [E] ∧ TyF wx lo n f.2.1.val E) :
    ∃ na nc ka kc, vN = .slice na l.length nc ∧ vK = .slice ka l.length kc ∧ TyF wx lo (n + 1) (.agg #[.int .i64 5, .string ⟨#[]⟩, vN, vK]) (recT (l.map pairF)) := by
  have hoN := h.oN
  have hoK := h.oK
  rw [List.take_of_length_le (Nat.le_refl _)] at hoN hoK
  obtain ⟨ka, kc, hk1, hk2, hk3⟩ := kidsF_of_owns (lo := lo) (n := n) (cs := l.map fun f => f.2.1) (ks := l.map fun f => (pairF f).2) (by simpa [List.flatMap_map] using hoK) (by omega) (by simp) (fun i h1 h2 => by
    have hi : i < l.length := by simpa using h1
    obtain ⟨E, e1, e2⟩ := hty (l[i]'hi) (List.getElem_mem hi)
    simp only [List.getElem_map, pairF, e1]
    exact e2)
  have hN : ∃ na nc, vN = .slice na l.length nc ∧ l.length ≤ nc ∧ NamesF wx lo na (l.map fun f => (pairF f).1) := by
    rcases hoN.2 with ⟨h1, h0⟩ | ⟨g, cap, cur, h1, hg, hh, hcap, _⟩
    · exact ⟨none, 0, by rw [h0]; exact h1, by omega, .inl (by rw [List.length_eq_zero_iff.1 h0]; rfl)⟩
    · refine ⟨_, _, h1, hcap, .inr ⟨g, 0, rfl, by omega, lt_of_block hh, fun i hi => ?_⟩⟩
      have hi' : i < l.length := by simpa using hi
      have := hoN.cells (g := g) (by rw [h1]; rfl) i (.string l[i].1) (by simp [hi'])
      have hadd : (⟨g, 0, none⟩ : Addr).add i = ⟨g, 0 + i, none⟩ := by unfold Addr.add; split <;> simp_all
      rw [hadd] at this
      rw [this]
      simp [pairF]
  obtain ⟨na, nc, hn1, hn2, hn3⟩ := hN
  have hk1' : vK = .slice ka l.length kc := by simpa using hk1
  refine ⟨na, nc, ka, kc, hn1, hk1', 5, ⟨#[]⟩, na, nc, ka, kc, l.map fun f => (pairF f).1, l.map fun f => (pairF f).2, ?_, ?_, by decide, by decide, ?_, ⟨by simpa using hn2, by unfold reachBytes; simp; omega⟩, ⟨by simpa using hk2, by unfold reachBytes; simp; omega⟩, hn3, hk3⟩
  · rw [hn1, hk1']
    simp
  · unfold recT
    simp [List.map_map, Function.comp_def]
  · intro s hs'
    obtain ⟨f, hf, rfl⟩ := List.mem_map.1 hs'
    have := hs f hf
    simpa [pairF] using this
end Go.Proofs.YtmpcjcjacpjilabGreatDoor

/- types.normRecord by a contract: the walk. -/
namespace Go.Proofs.YtmpcjcjacpjilabGreatDoor
open Go.RowKit Go.Shelf Go.Lib Go.Sort

theorem heap3 (w : World) (a b c : Obj) : (((w.alloc a).alloc b).alloc c).heap[w.heap.size]? = some a ∧ (((w.alloc a).alloc b).alloc c).heap[w.heap.size + 1]? = some b ∧ (((w.alloc a).alloc b).alloc c).heap[w.heap.size + 2]? = some c := by
  refine ⟨?_, ?_, ?_⟩
  · rw [Below.heap_alloc _ _ _ (by simp; omega), Below.heap_alloc _ _ _ (by simp)]
    exact heap_alloc_last w a
  · rw [Below.heap_alloc _ _ _ (by simp)]
    exact heap_at1 w a b
  · have := heap_alloc_last ((w.alloc a).alloc b) c
    simpa using this

theorem box5 {w : World} {q t : Nat} {a b c d e : Value} (h : w.heap[q]? = some (.cells #[a, b, c, d, e] t)) : w.cell? ⟨q, 0, none⟩ = some a ∧ w.cell? ⟨q, 1, none⟩ = some b ∧ w.cell? ⟨q, 2, none⟩ = some c ∧ w.cell? ⟨q, 3, none⟩ = some d ∧ w.cell? ⟨q, 4, none⟩ = some e ∧ q < w.heap.size := by
  refine ⟨?_, ?_, ?_, ?_, ?_, lt_of_block h⟩ <;> (rw [cell_of_row w q _ _ _ _ h]; rfl)

theorem room_size : (Tryz.zeroCells69).size = 80 := by kernel_rfl

set_option maxHeartbeats 4000000 in
set_option maxRecDepth 100000 in
theorem normRecord_c (n : Nat) (ih : NormAt n) (nm : ByteArray) (na : Option Addr) (nc : Nat) (ka : Option Addr) (kc : Nat) (ns : List (List UInt8)) (ks : List Ty) (w : World) (hnl : ns.length ≤ reachBytes) (hkl : ks.length ≤ reachBytes) (hsl : ∀ s ∈ ns, s.length ≤ reachBytes)
    (hna : NamesAt w na ns) (hk : KidsAt w false n ka ks) (hw : Words w) :
    Calls Tryz.prog 21 #[.agg #[.int .i64 5, .string nm, .slice na ns.length nc, .slice ka ks.length kc]] w (NormPost w (n + 1) (mkT 5 nm.data.toList ns ks)) := by
  have hkl' : ks.length ≤ 140737488351232 := hkl
  have hnl' : ns.length ≤ 140737488351232 := hnl
  have HK := hideP hk
  have HW := hideP hw
  have HNA := hideP hna
  have HSL := hideP hsl
  clear hk hw hna hsl hkl hnl
  by_cases hl : ns.length ≠ ks.length
  · have e1 : ((ns.length : Int) != (ks.length : Int)) = true := by simp; omega
    have HN : Hid (normT (n + 1) (mkT 5 nm.data.toList ns ks) = none) := rec_len (.inl hl)
    clear hl
    go_enter Tryz.func21, Tryz.ntmps21
    go_wp2_with fail
    exact bodyPost_ret (results_cell_tmp rfl _ rfl (heap3 _ _ _ _).2.1 Tryz.underlying25 ty_size) rfl (norm_conv (e' := .returned (.tuple #[zTy, .bool false])) ⟨((bl_alloc w _).alloc (by simp) _).alloc (by simp; omega) _, by rw [HN.out]⟩ rfl)
  have hl : ns.length = ks.length := by omega
  have e1 : ((ns.length : Int) != (ks.length : Int)) = false := by simp; omega
  have HL := hideP hl
  by_cases h16 : 16 < ks.length
  · have e2 : (16 : Int) < (ks.length : Int) := by omega
    have HN : Hid (normT (n + 1) (mkT 5 nm.data.toList ns ks) = none) := rec_len (.inr h16)
    clear hl
    go_enter Tryz.func21, Tryz.ntmps21
    go_wp2_with fail
    exact bodyPost_ret (results_cell_tmp rfl _ rfl (heap3 _ _ _ _).2.1 Tryz.underlying25 ty_size) rfl (norm_conv (e' := .returned (.tuple #[zTy, .bool false])) ⟨((bl_alloc w _).alloc (by simp) _).alloc (by simp; omega) _, by rw [HN.out]⟩ rfl)
  have e2 : ¬ (16 : Int) < (ks.length : Int) := by omega
  have e3 : (ks.length : Int) ≤ 16 := by omega
  clear hl
  go_enter Tryz.func21, Tryz.ntmps21
  go_wp2_with fail
  go_loopw [34] (fun i wr => ∃ (j : Nat) (fs : List Fd), i = .int .i64 j ∧ j ≤ ns.length ∧ Hid (fs.length = j) ∧ Hid (RInv w wr n (tyO 5 nm na ns.length nc ka ks.length kc) ns ks fs)) (fun i _ => ns.length - (intOf i).toNat)
  case atStart =>
    obtain ⟨h0, h1, h2⟩ := heap3 w (tyO 5 nm na ns.length nc ka ks.length kc) zO (.cells Tryz.zeroCells69 69)
    exact ⟨0, [], rfl, Nat.zero_le _, rfl, ⟨((bl_alloc w _).alloc (by simp) _).alloc (by simp; omega) _, h0, h1, ⟨_, h2, room_size, fun i h => absurd h (Nat.not_lt_zero _)⟩, fun i h => absurd h (Nat.not_lt_zero _)⟩⟩
  case round =>
    obtain ⟨j, fs, rfl, hj, hfl, hR⟩ := hrel
    by_cases hlt : j < ns.length
    · have hjl : (j : Int) < (ns.length : Int) := by omega
      have hjk : j < ks.length := by have := HL.out; omega
      have hjl' : (j : Int) < (ks.length : Int) := by omega
      obtain ⟨b, o, k1, n1, na1, nl1, nc1, la1, ll1, lc1, rfl, hbl, q0, q1, q2, q3, ht1⟩ := kid_at HK.out hjk
      have hnj : ∃ nb no, na = some ⟨nb, no, none⟩ ∧ nb < w.heap.size ∧ w.cell? ⟨nb, no + j, none⟩ = some (.string ⟨ns[j].toArray⟩) := by
        rcases HNA.out with h0 | ⟨nb, no, e, hb, hc⟩
        · rw [h0] at hlt; cases hlt
        · exact ⟨nb, no, e, hb, hc j hlt⟩
      obtain ⟨nb, no, rfl, hnb, hns⟩ := hnj
      have r0 := (hR.out.bl.cell (p := ⟨b, o + j * 4, none⟩) hbl).trans q0
      have r1 := (hR.out.bl.cell (p := ⟨b, o + j * 4 + 1, none⟩) hbl).trans q1
      have r2 := (hR.out.bl.cell (p := ⟨b, o + j * 4 + 2, none⟩) hbl).trans q2
      have r3 := (hR.out.bl.cell (p := ⟨b, o + j * 4 + 3, none⟩) hbl).trans q3
      obtain ⟨S, hS⟩ : ∃ S : ByteArray, S = ⟨ns[j].toArray⟩ := ⟨_, rfl⟩
      rw [← hS] at hns
      have rN := (hR.out.bl.cell (p := ⟨nb, no + j, none⟩) hnb).trans hns
      have hSd : S.data.toList = ns[j] := by rw [hS]
      have hSz : S.size ≤ 140737488351232 := by
        have h1 := HSL.out ns[j] (List.getElem_mem hlt)
        have h2 : S.size = ns[j].length := by rw [hS]; rfl
        rw [h2]
        exact h1
      have HSD := hideP hSd
      have HC := hideP (ih _ _ _ (ty_below ht1 hR.out.bl) (HW.out.below hR.out.bl))
      have hbox := res_facts hR.out.bx
      obtain ⟨⟨bx0, bx1, bx2, bx3⟩, _, hlbx⟩ := hbox
      clear q0 q1 q2 q3 ht1 hns hS hSd
      go_wp2_with fail
      refine HC.out.mono ?_
      intro e w1 hpost
      obtain ⟨hbw, hways⟩ := norm_ways hpost
      have HR2 := hideP (hR.out.grow hbw)
      obtain ⟨⟨z0, z1, z2, z3⟩, ⟨f0, f1, f2, f3⟩, hlt1⟩ := res_facts HR2.out.rs
      clear hpost HC
      rcases hways with ⟨hn, rfl⟩ | ⟨E1, g1, g2, g3, g4, g5, g6, g7, g8, hn, rfl, hF1, hk1⟩
      · have HN : Hid (normT (n + 1) (mkT 5 nm.data.toList ns ks) = none) := rec_kid hjk hn
        clear hn
        go_wp2_with fail
        exact bodyPost_ret (results_cell_tmp rfl _ rfl (no_answer HN.out HR2.out.bl (by omega) HR2.out.rs _).1 Tryz.underlying25 ty_size) rfl (norm_conv (no_answer HN.out HR2.out.bl (by omega) HR2.out.rs _).2 rfl)
      · have HN1 := hideP hn
        have HF1 : Hid (TyF w1 (w.heap.size + 3) n (.agg #[.int .i64 g1, .string g2, .slice g3 g4 g5, .slice g6 g7 g8]) E1) := tyF_lower hF1 hR.out.sz
        have hb3 := bl_alloc w1 (tyO g1 g2 g3 g4 g5 g6 g7 g8)
        have HR3 := hideP (HR2.out.grow hb3)
        have HNC := hideP (name_c S hSz _ (HW.out.below HR3.out.bl))
        clear hn hF1 hb3
        cases hnv : nameV S.data.toList
        · rw [hnv] at HNC
          have HN : Hid (normT (n + 1) (mkT 5 nm.data.toList ns ks) = none) := rec_name (s := S.data.toList) (by rw [HSD.out]; exact List.getElem_mem hlt) hnv
          clear hnv
          go_wp2_with fail
          refine HNC.out.mono ?_
          rintro e w2 ⟨rfl, rfl⟩
          go_wp2_with fail
          exact bodyPost_ret (results_cell_tmp rfl _ rfl (no_answer HN.out HR2.out.bl (by omega) HR2.out.rs _).1 Tryz.underlying25 ty_size) rfl (norm_conv (no_answer HN.out HR2.out.bl (by omega) HR2.out.rs _).2 rfl)
        · rw [hnv] at HNC
          have HNV := hideP hnv
          clear hnv
          obtain ⟨cs, hcs, hcs2, _⟩ := HR2.out.rm
          have fM : ∀ i, w1.frozen? ⟨w.heap.size + 1 + 1, i, none⟩ = false := fun i => by simp [World.frozen?, hcs]
          have hM : ∀ i, i < 80 → ∃ v, w1.cell? ⟨w.heap.size + 1 + 1, i, none⟩ = some v := fun i hi => by
            rw [cell_of_row w1 (w.heap.size + 1 + 1) _ _ _ _ hcs]
            exact ⟨_, Array.getElem?_eq_getElem (by omega)⟩
          obtain ⟨v0, m0⟩ := hM (j * 5) (by omega)
          obtain ⟨v1, m1⟩ := hM (j * 5 + 1) (by omega)
          obtain ⟨v2, m2⟩ := hM (j * 5 + 2) (by omega)
          obtain ⟨v3, m3⟩ := hM (j * 5 + 3) (by omega)
          obtain ⟨v4, m4⟩ := hM (j * 5 + 4) (by omega)
          have p0 := fM (j * 5)
          have p1 := fM (j * 5 + 1)
          have p2 := fM (j * 5 + 2)
          have p3 := fM (j * 5 + 3)
          have p4 := fM (j * 5 + 4)
          have hlM : w.heap.size + 1 + 1 < w1.heap.size := lt_of_block hcs
          clear hcs hcs2 fM hM
          go_wp2_with fail
          refine HNC.out.mono ?_
          rintro e w2 ⟨rfl, rfl⟩
          go_wp2_with fail
          refine ⟨⟨j + 1, fs ++ [(S, (g1, g2, g3, g4, g5, g6, g7, g8), [E1])], by go_num, by omega, ?_, ?_⟩, by simp [intOf]; omega⟩
          · show _ = _
            rw [List.length_append, hfl.out]
            rfl
          · have hf := hfl.out
            have := HR2.out.put (s := S) (c := (g1, g2, g3, g4, g5, g6, g7, g8)) (E := E1) (by omega) (by omega) (by omega) (by rw [HSD.out]; congr 1; exact hf.symm) (by have h := HNV.out; rw [HSD.out] at h; rw [← h]; congr 2) (by have h := HN1.out; rw [← h]; congr 2) HF1.out
            rw [hf] at this
            exact this.grow (bl_alloc _ _)
    · have hjl : ¬ (j : Int) < (ns.length : Int) := by omega
      have hjn : j = ks.length := by have := HL.out; omega
      have hf := hfl.out
      obtain ⟨cs, hcs, hcs2, hcs3⟩ := hR.out.rm
      have hH := holds_fields hcs hcs3
      have hfa : fs.toArray.size = ks.length := by simp; omega
      have hsc := sortF_c (w.heap.size + 2) 16 fs.toArray wr hH (lt_of_block hcs) (by omega)
      rw [hfa] at hsc
      have HSC := hideP hsc
      have HFA := hideP hfa
      have HHH := hideP hjn
      clear hcs hcs2 hcs3 hH hsc HK HNA hf hfa hjn
      go_wp2_with fail
      refine HSC.out.mono ?_
      rintro e w2 ⟨rfl, d, hperm, hsort, hH2, hg2, hds⟩
      obtain ⟨l, hl⟩ : ∃ l, l = d.toList := ⟨_, rfl⟩
      have hd : d = l.toArray := by rw [hl]
      subst hd
      have hll : l.length = ks.length := by simpa using hds
      have hszr := hR.out.sz
      have hB2 : Below w.heap.size w w2 := hR.out.bl.grown hg2 hR.out.bl.size fun q e => by injection e with e; omega
      have hrs2 : w2.heap[w.heap.size + 1]? = some zO := (hg2.block _ (by omega) (by simp)).trans hR.out.rs
      have hcell : ∀ (i : Nat) (h : i < l.length) (c : Nat), c < 5 → ∀ u, (encF l[i])[c]? = some u → w2.cell? ⟨w.heap.size + 1 + 1, i * 5 + c, none⟩ = some u := fun i h c hc u hu => by
        have := (hH2.cell (i := i) (c := c) (by simpa using h) hc).1
        rw [Nat.zero_add] at this
        rw [show w.heap.size + 1 + 1 = w.heap.size + 2 by omega, this]
        have e1 : l.toArray[i]! = l[i] := by simp [h]
        rw [e1]
        rw [List.getElem?_eq_some_iff] at hu
        obtain ⟨h5, h6⟩ := hu
        simp [h5, h6]
      have hty : ∀ f ∈ l, ∃ E, f.2.2 = [E] ∧ TyF w2 (w.heap.size + 3) n f.2.1.val E := fun f hf => by
        have hf2 : f ∈ fs := by
          have := (hperm.mem_iff (a := f)).1 (by simpa using hf)
          simpa using this
        obtain ⟨i, hi, rfl⟩ := List.mem_iff_getElem.1 hf2
        have h1 := hfl.out
        have h2 := HL.out
        obtain ⟨_, _, E, h3, _, h5⟩ := hR.out.ty i hi (by omega) (by omega)
        exact ⟨E, h3, tyF_keep h5 hg2.size fun bb g1 g2 => hg2.block bb g2 (fun e => by injection e with e; omega)⟩
      have hls : ∀ f ∈ l, f.1.size ≤ reachBytes := fun f hf => by
        have hf2 : f ∈ fs := by
          have := (hperm.mem_iff (a := f)).1 (by simpa using hf)
          simpa using this
        obtain ⟨i, hi, rfl⟩ := List.mem_iff_getElem.1 hf2
        have h1 := hfl.out
        have h2 := HL.out
        have h3 := (hR.out.ty i hi (by omega) (by omega)).1
        have h4 := HSL.out _ (List.getElem_mem (l := ns) (n := i) (by omega))
        rw [← h3] at h4
        exact h4
      have HLS := hideP hls
      have hrec := rec_fields (n := n) (ns := ns) (ks := ks) (fs := fs) HL.out (by have := hfl.out; have := HHH.out; omega) (fun i h h' h'' => by
        obtain ⟨g1, g2, E, g3, g4, _⟩ := hR.out.ty i h h' h''
        exact ⟨g1, g2, E, g3, g4⟩)
      obtain ⟨es, hes, hesl, hpz, hnv⟩ := hrec
      have hpp : (l.map pairF).Perm (ns.zip es) := by
        rw [← hpz]
        exact (by simpa using hperm : l.Perm fs).map _
      have hss : ∀ i j (_ : i < j) (hj : j < (l.map pairF).length), ltB (l.map pairF)[j].1 ((l.map pairF)[i]'(by omega)).1 = false := fun i j hij hj => by
        have hj' : j < l.length := by simpa using hj
        have := hsort i j hij (by simpa using hj')
        have e1 : l.toArray[i]! = l[i]'(by omega) := by simp [show i < l.length by omega]
        have e2 : l.toArray[j]! = l[j] := by simp [hj']
        rw [e1, e2] at this
        simpa [pairF] using this
      have HNR : Hid (normT (n + 1) (mkT 5 nm.data.toList ns ks) = recordV ns es) := by
        show _ = _
        rw [normT_rec, hes]
      have HCELL := hideP hcell
      have HTY := hideP hty
      have HPP := hideP hpp
      have HSS := hideP hss
      have HB2 := hideP hB2
      have HRS2 := hideP hrs2
      have HNV := hideP hnv
      have hesn : ns.length = es.length := by have := HL.out; omega
      have HES := hideP hesn
      have HLL := hideP hll
      have h16l : l.length ≤ 16 := by omega
      have hsz2 : w.heap.size + 3 ≤ w2.heap.size := Nat.le_trans hszr hg2.size
      obtain ⟨i0, hi, hz0, hz1, hz2⟩ := info_parts info_ty
      obtain ⟨s0, si, sz0, sz1, sz2⟩ := info_parts info_str
      clear HSC HSL hls hl hperm hsort hH2 hg2 hds hcell hty hes hesl hpz hnv hpp hss hB2 hrs2 hesn hll
      go_wp2_with fail
      go_loopw [68] (fun ii wx => ∃ (i : Nat) (vN vK : Value), ii = .int .i64 i ∧ i ≤ ks.length ∧ Hid (R2 w2 wx l i i vN vK) ∧ Hid (∀ a (h : a + 1 < i) (h' : a + 1 < l.length), (l[a]'(by omega)).1.data.toList ≠ l[a + 1].1.data.toList)) (fun ii _ => ks.length - (intOf ii).toNat)
      case atStart => exact ⟨0, .slice none 0 0, .slice none 0 0, rfl, Nat.zero_le _, ⟨bl_alloc _ _, heap_alloc_last _ _, World.ownsRow_nil .., World.ownsRow_nil .., .inl rfl⟩, fun a h => absurd h (by omega)⟩
      case round =>
        obtain ⟨i, vN, vK, rfl, hik, hR2, hdi⟩ := hrel
        have hlx : w2.heap.size < wr.heap.size := hR2.out.lt
        by_cases hlt : i < ks.length
        · have hil : (i : Int) < (ks.length : Int) := by omega
          have hil' : i < l.length := by have := HLL.out; omega
          obtain ⟨f, hf⟩ : ∃ f, f = l[i] := ⟨_, rfl⟩
          obtain ⟨fs1, ⟨y1, y2, y3, y4, y5, y6, y7, y8⟩, ft⟩ := f
          have hlM : w.heap.size + 1 + 1 < w2.heap.size := by omega
          have hcc : ∀ c, c < 5 → ∀ u, (encF (fs1, (y1, y2, y3, y4, y5, y6, y7, y8), ft))[c]? = some u → wr.cell? ⟨w.heap.size + 1 + 1, i * 5 + c, none⟩ = some u := fun c hc u hu => (hR2.out.bl.cell (p := ⟨w.heap.size + 1 + 1, i * 5 + c, none⟩) hlM).trans (HCELL.out i hil' c hc u (by rw [← hf]; exact hu))
          have c0 : wr.cell? ⟨w.heap.size + 1 + 1, i * 5, none⟩ = some (.string fs1) := hcc 0 (by omega) _ rfl
          have c1 : wr.cell? ⟨w.heap.size + 1 + 1, i * 5 + 1, none⟩ = some (.int .i64 y1) := hcc 1 (by omega) _ rfl
          have c2 : wr.cell? ⟨w.heap.size + 1 + 1, i * 5 + 2, none⟩ = some (.string y2) := hcc 2 (by omega) _ rfl
          have c3 : wr.cell? ⟨w.heap.size + 1 + 1, i * 5 + 3, none⟩ = some (.slice y3 y4 y5) := hcc 3 (by omega) _ rfl
          have c4 : wr.cell? ⟨w.heap.size + 1 + 1, i * 5 + 4, none⟩ = some (.slice y6 y7 y8) := hcc 4 (by omega) _ rfl
          have hlM2 : w.heap.size + 1 + 1 < wr.heap.size := by omega
          have HF := hideP hf
          clear hcc hf
          obtain ⟨uu0, uu1, uu2, uu3⟩ := (res_facts hR2.out.hx).1
          obtain ⟨uf0, uf1, uf2, uf3⟩ := (res_facts hR2.out.hx).2.1
          have HX1 := hideP (hR2.out.grow (bl_alloc wr (.cells #[.string fs1, .int .i64 y1, .string y2, .slice y3 y4 y5, .slice y6 y7 y8] 68)))
          cases i with
          | zero =>
            go_wp2_with fail
            go_quiet (fail)
            have HX2 := hideP (HX1.out.grow (below_drewN (Below.refl _ _) nq))
            have HUN : Hid (∀ w4, (((wr.alloc (.cells #[.string fs1, .int .i64 y1, .string y2, .slice y3 y4 y5, .slice y6 y7 y8] 68)).drewN nq).alloc (.cells #[.string fs1] 9)).grownBy w4 vN.ownBlock → w4.heap[w2.heap.size]? = some (.cells #[.int .i64 5, .string ⟨#[]⟩, vN, vK] 25) ∧ w4.heap[wr.heap.size]? = some (.cells #[.string fs1, .int .i64 y1, .string y2, .slice y3 y4 y5, .slice y6 y7 y8] 68)) := fun w4 hg => by
              obtain ⟨h1, h2⟩ := HX2.out.kept HX2.out.oN hg
              exact ⟨h1, (h2 _ (by show wr.heap.size < (wr.alloc _).heap.size; simp) (fun e => by have := (hR2.out.oN.lt _ e.symm).2; omega)).trans (heap_alloc_last wr _)⟩
            go_wp2_with (first
              | (at_builtin; refine wpList_append_own_at _ rfl (.tmp 88) (.tmp 91) 22 rfl (w2.heap.size + 1) 9 s0 _ 1 16 Tryz.underlying22 si sz0 sz1 sz2 rfl (by decide) _ _ _ rfl (HX2.out.oN.alloc _) ⟨_, 0, none⟩ 1 1 [.string fs1] rfl rfl (one_newN _ (by simp [World.drewN]) _ _) (by simp [Value.oneCell']) (by unfold maxLen; omega) (by omega) (by simp [World.drewN]; omega) ?_; intro v' w4 hown' hgrow _ hloc; have HX3 := hideP (HX2.out.names hil' (congrArg Prod.fst HF.out) hown' hgrow hloc); obtain ⟨gN, capN, rfl⟩ := own_form hown'; obtain ⟨k1, k2⟩ := HUN.out w4 hgrow; obtain ⟨⟨_, _, d2, d3⟩, ⟨_, _, e2, e3⟩, hl4⟩ := res_facts k1; obtain ⟨b0, b1, b2, b3, b4, hl5⟩ := box5 k2; clear k1 k2 hown' hgrow hloc)
              | (at_builtin; refine wpList_append_own_at _ rfl (.tmp 95) (.tmp 98) 23 rfl (w2.heap.size + 1) 25 i0 _ 4 72 Tryz.underlying23 hi hz0 hz1 hz2 rfl (by decide) _ _ _ rfl (HX3.out.oK.alloc _) ⟨_, 0, none⟩ 1 1 [.int .i64 y1, .string y2, .slice y3 y4 y5, .slice y6 y7 y8] rfl rfl (cells_newN _ (by simp) _ _ _ _ _) (cells_one (y1, y2, y3, y4, y5, y6, y7, y8)) (by unfold maxLen; omega) (by omega) (by simp; omega) ?_; intro v' w5 hown' hgrow _ hloc; have HX4 := hideP (HX3.out.kids (c := (y1, y2, y3, y4, y5, y6, y7, y8)) hil' (congrArg (fun f => f.2.1) HF.out) hown' hgrow hloc); have k1 := (HX3.out.kept HX3.out.oK hgrow).1; obtain ⟨gK, capK, rfl⟩ := own_form hown'; obtain ⟨⟨_, _, p2, p3⟩, ⟨_, _, q2, q3⟩, hl6⟩ := res_facts k1; clear k1 hown' hgrow hloc))
            refine ⟨⟨0 + 1, _, _, by go_num, by omega, HX4, ?_⟩, by simp [intOf]; omega⟩
            exact fun a h => absurd h (by omega)
          | succ i =>
            obtain ⟨f0, hf0⟩ : ∃ f0, f0 = (l[i]'(by omega)).1 := ⟨_, rfl⟩
            have b0 : wr.cell? ⟨w.heap.size + 1 + 1, i * 5, none⟩ = some (.string f0) := (hR2.out.bl.cell (p := ⟨w.heap.size + 1 + 1, i * 5, none⟩) hlM).trans (HCELL.out i (by omega) 0 (by omega) _ (by rw [hf0]; rfl))
            have e0 : (0 : Int) < ((i + 1 : Nat) : Int) := by omega
            have e1 : (i : Int) < (ks.length : Int) := by omega
            have HF0 := hideP hf0
            clear hf0
            by_cases hsame : f0.data.toList = fs1.data.toList
            · have hsm : f0 = fs1 := by
                cases f0; cases fs1
                simpa [Array.toList_inj] using hsame
              subst hsm
              go_wp2_with fail
              go_quiet (fail)
              have HN : Hid (normT (n + 1) (mkT 5 nm.data.toList ns ks) = none) := by
                show _ = _
                rw [HNR.out]
                refine record_twice HES.out HPP.out (i := i) (by simpa using hil') ?_
                simp only [List.getElem_map, pairF]
                rw [← HF.out, ← HF0.out]
              have HB7 : Hid (Below w.heap.size w ((wr.alloc (.cells #[.string f0, .int .i64 y1, .string y2, .slice y3 y4 y5, .slice y6 y7 y8] 68)).drewN nq)) := below_drewN (below_next (below_next HB2.out hR2.out.bl) (bl_alloc _ _)) nq
              have HRS7 : Hid (((wr.alloc (.cells #[.string f0, .int .i64 y1, .string y2, .slice y3 y4 y5, .slice y6 y7 y8] 68)).drewN nq).heap[w.heap.size + 1]? = some zO) := (Below.heap_alloc _ _ _ (by omega)).trans ((hR2.out.bl.block _ (lt_of_block HRS2.out)).trans HRS2.out)
              obtain ⟨⟨z0, z1, z2, z3⟩, ⟨g0, g1, g2, g3⟩, hlt1⟩ := res_facts ((hR2.out.bl.block _ (lt_of_block HRS2.out)).trans HRS2.out)
              go_wp2_with fail
              exact bodyPost_ret (results_cell_tmp rfl _ rfl (no_answer0 HN.out HB7.out (by omega) HRS7.out).1 Tryz.underlying25 ty_size) rfl (norm_conv (no_answer0 HN.out HB7.out (by omega) HRS7.out).2 rfl)
            · have hse : (f0.toList == fs1.toList) = false := bytes_ne hsame
              go_wp2_with fail
              go_quiet (fail)
              have HX2 := hideP (HX1.out.grow (below_drewN (Below.refl _ _) nq))
              have HUN : Hid (∀ w4, (((wr.alloc (.cells #[.string fs1, .int .i64 y1, .string y2, .slice y3 y4 y5, .slice y6 y7 y8] 68)).drewN nq).alloc (.cells #[.string fs1] 9)).grownBy w4 vN.ownBlock → w4.heap[w2.heap.size]? = some (.cells #[.int .i64 5, .string ⟨#[]⟩, vN, vK] 25) ∧ w4.heap[wr.heap.size]? = some (.cells #[.string fs1, .int .i64 y1, .string y2, .slice y3 y4 y5, .slice y6 y7 y8] 68)) := fun w4 hg => by
                obtain ⟨h1, h2⟩ := HX2.out.kept HX2.out.oN hg
                exact ⟨h1, (h2 _ (by show wr.heap.size < (wr.alloc _).heap.size; simp) (fun e => by have := (hR2.out.oN.lt _ e.symm).2; omega)).trans (heap_alloc_last wr _)⟩
              go_wp2_with (first
                | (at_builtin; refine wpList_append_own_at _ rfl (.tmp 88) (.tmp 91) 22 rfl (w2.heap.size + 1) 9 s0 _ 1 16 Tryz.underlying22 si sz0 sz1 sz2 rfl (by decide) _ _ _ rfl (HX2.out.oN.alloc _) ⟨_, 0, none⟩ 1 1 [.string fs1] rfl rfl (one_newN _ (by simp [World.drewN]) _ _) (by simp [Value.oneCell']) (by unfold maxLen; omega) (by omega) (by simp [World.drewN]; omega) ?_; intro v' w4 hown' hgrow _ hloc; have HX3 := hideP (HX2.out.names hil' (congrArg Prod.fst HF.out) hown' hgrow hloc); obtain ⟨gN, capN, rfl⟩ := own_form hown'; obtain ⟨k1, k2⟩ := HUN.out w4 hgrow; obtain ⟨⟨_, _, d2, d3⟩, ⟨_, _, e2, e3⟩, hl4⟩ := res_facts k1; obtain ⟨b0, b1, b2, b3, b4, hl5⟩ := box5 k2; clear k1 k2 hown' hgrow hloc)
                | (at_builtin; refine wpList_append_own_at _ rfl (.tmp 95) (.tmp 98) 23 rfl (w2.heap.size + 1) 25 i0 _ 4 72 Tryz.underlying23 hi hz0 hz1 hz2 rfl (by decide) _ _ _ rfl (HX3.out.oK.alloc _) ⟨_, 0, none⟩ 1 1 [.int .i64 y1, .string y2, .slice y3 y4 y5, .slice y6 y7 y8] rfl rfl (cells_newN _ (by simp) _ _ _ _ _) (cells_one (y1, y2, y3, y4, y5, y6, y7, y8)) (by unfold maxLen; omega) (by omega) (by simp; omega) ?_; intro v' w5 hown' hgrow _ hloc; have HX4 := hideP (HX3.out.kids (c := (y1, y2, y3, y4, y5, y6, y7, y8)) hil' (congrArg (fun f => f.2.1) HF.out) hown' hgrow hloc); have k1 := (HX3.out.kept HX3.out.oK hgrow).1; obtain ⟨gK, capK, rfl⟩ := own_form hown'; obtain ⟨⟨_, _, p2, p3⟩, ⟨_, _, q2, q3⟩, hl6⟩ := res_facts k1; clear k1 hown' hgrow hloc))
              refine ⟨⟨i + 1 + 1, _, _, by go_num, by omega, HX4, ?_⟩, by simp [intOf]; omega⟩
              intro a h h'
              by_cases ha : a = i
              · subst ha
                rw [← HF.out, ← HF0.out]
                exact hsame
              · exact hdi.out a (by omega) h'
        · have hil : ¬ (i : Int) < (ks.length : Int) := by omega
          have hie : i = l.length := by have := HLL.out; omega
          subst hie
          have HN : Hid (normT (n + 1) (mkT 5 nm.data.toList ns ks) = some (recT (l.map pairF))) := by
            show _ = _
            rw [HNR.out]
            refine record_sorted HES.out (by have := HL.out; omega) HNV.out HPP.out (sorted_strict HSS.out fun i h => ?_)
            simp only [List.length_map] at h
            simp only [List.getElem_map, pairF]
            exact hdi.out i h h
          obtain ⟨na', nc', ka', kc', rfl, rfl, hF⟩ := hR2.out.made hsz2 h16l HLS.out (fun f hf => by
            obtain ⟨E, e1, e2⟩ := HTY.out f hf
            exact ⟨E, e1, tyF_below e2 hR2.out.bl⟩)
          have HF := hideP hF
          have HB7 : Hid (Below w.heap.size w wr) := below_next HB2.out hR2.out.bl
          have HRS7 : Hid (wr.heap[w.heap.size + 1]? = some zO) := (hR2.out.bl.block _ (lt_of_block HRS2.out)).trans HRS2.out
          obtain ⟨⟨z0, z1, z2, z3⟩, ⟨g0, g1, g2, g3⟩, hlt1⟩ := res_facts HRS7.out
          obtain ⟨uu0, uu1, uu2, uu3⟩ := (res_facts hR2.out.hx).1
          clear hF
          go_wp2_with fail
          refine bodyPost_ret (results_cell_tmp rfl _ rfl (set4 HRS7.out _ _ _ _) Tryz.underlying25 ty_size) rfl ?_
          exact an_answer HN.out (below_set4 HB7.out (by omega) _ _ _ _) (tyF_lower (tyF_keep HF.out (by rw [size_set4]; exact Nat.le_refl _) fun bb h1 _ => other_set4 (by omega) _ _ _ _) (by omega)) rfl
end Go.Proofs.YtmpcjcjacpjilabGreatDoor

/- types.norm by a contract. -/
namespace Go.Proofs.YtmpcjcjacpjilabGreatDoor
open Go.RowKit

/-- What norm does with what its three helpers answer. -/
theorem norm_pass {w w0 w1 : World} {n : Nat} {D : Ty} {e : Ending} (hb : Below w.heap.size w w0) (h : NormPost w0 n D e w1) : NormPost w n D e w1 := by
  obtain ⟨h1, h2⟩ := h
  refine ⟨below_next hb h1, ?_⟩
  cases hn : normT n D with
  | none => rw [hn] at h2; exact h2
  | some E =>
    rw [hn] at h2
    obtain ⟨v, e1, e2⟩ := h2
    exact ⟨v, e1, tyF_lower e2 hb.size⟩

set_option maxHeartbeats 4000000 in
set_option maxRecDepth 100000 in
theorem norm_step (n : Nat) (ih : NormAt n) : NormAt (n + 1) := by
  intro v D w h hw
  obtain ⟨k, nm, na, nc, ka, kc, ns, ks, rfl, rfl, h3, h4, h5, ⟨_, h6⟩, ⟨_, h7⟩, h8, h9⟩ := h
  have HW := hideP hw
  have HNA := hideP h8
  have HK := hideP h9
  have HNS := hideP h5
  have HNM := hideP h4
  have HB := hideP (below_next (bl_alloc w (tyO k nm na ns.length nc ka ks.length kc)) (bl_alloc _ zO))
  have IH := hideP ih
  clear hw h8 h9 h5 h4 ih
  by_cases h50 : k = 5
  · subst h50
    have HC : Hid (∀ wx, Below w.heap.size w wx → Calls Tryz.prog 21 #[.agg #[.int .i64 5, .string nm, .slice na ns.length nc, .slice ka ks.length kc]] wx (NormPost wx (n + 1) (mkT 5 nm.data.toList ns ks))) := fun wx hx => normRecord_c n IH.out nm na nc ka kc ns ks wx h6 h7 HNS.out (names_below HNA.out hx) (kids_below HK.out hx) (HW.out.below hx)
    go_enter Tryz.func12, Tryz.ntmps12
    go_wp2_with fail
    refine (HC.out _ HB.out).mono ?_
    intro e w1 hpost
    have HP := hideP (norm_pass HB.out hpost)
    obtain ⟨hb1, hways⟩ := norm_ways HP.out
    have hrs : w1.heap[w.heap.size + 1]? = some zO := (hpost.1.block _ (by simp)).trans (heap_at1 w _ _)
    obtain ⟨⟨z0, z1, z2, z3⟩, ⟨f0, f1, f2, f3⟩, hlt1⟩ := res_facts hrs
    have HRS := hideP hrs
    have HB1 := hideP hb1
    have HPB := hideP hpost
    clear hrs hb1 hpost
    rcases hways with ⟨hn, rfl⟩ | ⟨E1, g1, g2, g3, g4, g5, g6, g7, g8, hn, rfl, hF1, hk1⟩
    · have HN := hideP hn
      clear hn
      go_wp2_with fail
      exact bodyPost_ret (results_cell_tmp rfl _ rfl (no_answer0 HN.out HB1.out (by omega) HRS.out).1 Tryz.underlying25 ty_size) rfl (norm_conv (no_answer0 HN.out HB1.out (by omega) HRS.out).2 rfl)
    · have HN := hideP hn
      have HF := hideP hF1
      have HF2 : Hid (TyF w1 (w.heap.size + 2) (n + 1) (.agg #[.int .i64 g1, .string g2, .slice g3 g4 g5, .slice g6 g7 g8]) E1) := by
        obtain ⟨_, hh⟩ := HPB.out
        rw [HN.out] at hh
        obtain ⟨v, e1, e2⟩ := hh
        injection e1 with e1
        injection e1 with e1
        injection e1 with e1
        injection e1 with e1 _
        rw [e1]
        show TyF _ _ _ _ _
        simpa using e2
      clear hn hF1 hk1
      go_wp2_with fail
      refine bodyPost_ret (results_cell_tmp rfl _ rfl (set4 HRS.out _ _ _ _) Tryz.underlying25 ty_size) rfl ?_
      exact an_answer HN.out (below_set4 HB1.out (by omega) _ _ _ _) (tyF_lower (tyF_keep HF2.out (by rw [size_set4]; exact Nat.le_refl _) fun bb h1 _ => other_set4 (by omega) _ _ _ _) (by omega)) rfl
  by_cases h60 : k = 6
  · subst h60
    have HC : Hid (∀ wx, Below w.heap.size w wx → Calls Tryz.prog 22 #[.agg #[.int .i64 6, .string nm, .slice na ns.length nc, .slice ka ks.length kc]] wx (NormPost wx (n + 1) (mkT 6 nm.data.toList ns ks))) := fun wx hx => normFunction_c n IH.out nm na nc ka kc ns ks wx h7 (kids_below HK.out hx) (HW.out.below hx)
    go_enter Tryz.func12, Tryz.ntmps12
    go_wp2_with fail
    refine (HC.out _ HB.out).mono ?_
    intro e w1 hpost
    have HP := hideP (norm_pass HB.out hpost)
    obtain ⟨hb1, hways⟩ := norm_ways HP.out
    have hrs : w1.heap[w.heap.size + 1]? = some zO := (hpost.1.block _ (by simp)).trans (heap_at1 w _ _)
    obtain ⟨⟨z0, z1, z2, z3⟩, ⟨f0, f1, f2, f3⟩, hlt1⟩ := res_facts hrs
    have HRS := hideP hrs
    have HB1 := hideP hb1
    have HPB := hideP hpost
    clear hrs hb1 hpost
    rcases hways with ⟨hn, rfl⟩ | ⟨E1, g1, g2, g3, g4, g5, g6, g7, g8, hn, rfl, hF1, hk1⟩
    · have HN := hideP hn
      clear hn
      go_wp2_with fail
      exact bodyPost_ret (results_cell_tmp rfl _ rfl (no_answer0 HN.out HB1.out (by omega) HRS.out).1 Tryz.underlying25 ty_size) rfl (norm_conv (no_answer0 HN.out HB1.out (by omega) HRS.out).2 rfl)
    · have HN := hideP hn
      have HF := hideP hF1
      have HF2 : Hid (TyF w1 (w.heap.size + 2) (n + 1) (.agg #[.int .i64 g1, .string g2, .slice g3 g4 g5, .slice g6 g7 g8]) E1) := by
        obtain ⟨_, hh⟩ := HPB.out
        rw [HN.out] at hh
        obtain ⟨v, e1, e2⟩ := hh
        injection e1 with e1
        injection e1 with e1
        injection e1 with e1
        injection e1 with e1 _
        rw [e1]
        show TyF _ _ _ _ _
        simpa using e2
      clear hn hF1 hk1
      go_wp2_with fail
      refine bodyPost_ret (results_cell_tmp rfl _ rfl (set4 HRS.out _ _ _ _) Tryz.underlying25 ty_size) rfl ?_
      exact an_answer HN.out (below_set4 HB1.out (by omega) _ _ _ _) (tyF_lower (tyF_keep HF2.out (by rw [size_set4]; exact Nat.le_refl _) fun bb h1 _ => other_set4 (by omega) _ _ _ _) (by omega)) rfl
  by_cases h70 : k = 7
  · subst h70
    have HC : Hid (∀ wx, Below w.heap.size w wx → Calls Tryz.prog 23 #[.agg #[.int .i64 7, .string nm, .slice na ns.length nc, .slice ka ks.length kc]] wx (NormPost wx (n + 1) (mkT 7 nm.data.toList ns ks))) := fun wx hx => normUnion_c n IH.out nm na nc ka kc ns ks wx h7 (kids_below HK.out hx) (HW.out.below hx)
    go_enter Tryz.func12, Tryz.ntmps12
    go_wp2_with fail
    refine (HC.out _ HB.out).mono ?_
    intro e w1 hpost
    have HP := hideP (norm_pass HB.out hpost)
    obtain ⟨hb1, hways⟩ := norm_ways HP.out
    have hrs : w1.heap[w.heap.size + 1]? = some zO := (hpost.1.block _ (by simp)).trans (heap_at1 w _ _)
    obtain ⟨⟨z0, z1, z2, z3⟩, ⟨f0, f1, f2, f3⟩, hlt1⟩ := res_facts hrs
    have HRS := hideP hrs
    have HB1 := hideP hb1
    have HPB := hideP hpost
    clear hrs hb1 hpost
    rcases hways with ⟨hn, rfl⟩ | ⟨E1, g1, g2, g3, g4, g5, g6, g7, g8, hn, rfl, hF1, hk1⟩
    · have HN := hideP hn
      clear hn
      go_wp2_with fail
      exact bodyPost_ret (results_cell_tmp rfl _ rfl (no_answer0 HN.out HB1.out (by omega) HRS.out).1 Tryz.underlying25 ty_size) rfl (norm_conv (no_answer0 HN.out HB1.out (by omega) HRS.out).2 rfl)
    · have HN := hideP hn
      have HF := hideP hF1
      have HF2 : Hid (TyF w1 (w.heap.size + 2) (n + 1) (.agg #[.int .i64 g1, .string g2, .slice g3 g4 g5, .slice g6 g7 g8]) E1) := by
        obtain ⟨_, hh⟩ := HPB.out
        rw [HN.out] at hh
        obtain ⟨v, e1, e2⟩ := hh
        injection e1 with e1
        injection e1 with e1
        injection e1 with e1
        injection e1 with e1 _
        rw [e1]
        show TyF _ _ _ _ _
        simpa using e2
      clear hn hF1 hk1
      go_wp2_with fail
      refine bodyPost_ret (results_cell_tmp rfl _ rfl (set4 HRS.out _ _ _ _) Tryz.underlying25 ty_size) rfl ?_
      exact an_answer HN.out (below_set4 HB1.out (by omega) _ _ _ _) (tyF_lower (tyF_keep HF2.out (by rw [size_set4]; exact Nat.le_refl _) fun bb h1 _ => other_set4 (by omega) _ _ _ _) (by omega)) rfl
  have HRS : Hid (((w.alloc (tyO k nm na ns.length nc ka ks.length kc)).alloc zO).heap[w.heap.size + 1]? = some zO) := heap_at1 w _ _
  by_cases hbase : 0 ≤ k ∧ k ≤ 4
  · have HN : Hid (normT (n + 1) (mkT k nm.data.toList ns ks) = some (mkT k [] [] [])) := normT_base hbase
    have hk5 : k = 0 ∨ k = 1 ∨ k = 2 ∨ k = 3 ∨ k = 4 := by omega
    clear hbase h50 h60 h70
    rcases hk5 with rfl | rfl | rfl | rfl | rfl
    all_goals
      go_enter Tryz.func12, Tryz.ntmps12
      go_wp2_with fail
      refine bodyPost_ret (results_cell_tmp rfl _ rfl (heap_at1 w _ _) Tryz.underlying25 ty_size) rfl ?_
      exact an_answer HN.out (below_next (bl_alloc w _) (bl_alloc _ _)) ⟨_, ⟨#[]⟩, none, 0, none, 0, [], [], rfl, rfl, by decide, by decide, by simp, ⟨Nat.le_refl _, by simp [reachBytes]⟩, ⟨Nat.le_refl _, by simp [reachBytes]⟩, .inl rfl, .inl rfl⟩ rfl
  · have HN : Hid (normT (n + 1) (mkT k nm.data.toList ns ks) = none) := normT_other (by omega)
    have b0 : (k == 0) = false := by rw [beq_eq_false_iff_ne]; omega
    have b1 : (k == 1) = false := by rw [beq_eq_false_iff_ne]; omega
    have b2 : (k == 2) = false := by rw [beq_eq_false_iff_ne]; omega
    have b3 : (k == 3) = false := by rw [beq_eq_false_iff_ne]; omega
    have b4 : (k == 4) = false := by rw [beq_eq_false_iff_ne]; omega
    have b5 : (k == 5) = false := by rw [beq_eq_false_iff_ne]; omega
    have b6 : (k == 6) = false := by rw [beq_eq_false_iff_ne]; omega
    have b7 : (k == 7) = false := by rw [beq_eq_false_iff_ne]; omega
    go_enter Tryz.func12, Tryz.ntmps12
    go_wp2_with fail
    exact bodyPost_ret (results_cell_tmp rfl _ rfl (heap_at1 w _ _) Tryz.underlying25 ty_size) rfl (norm_conv (e' := .returned (.tuple #[zTy, .bool false])) ⟨below_next (bl_alloc w _) (bl_alloc _ _), by rw [HN.out]⟩ rfl)

theorem norm_c : ∀ n, NormAt n
  | 0 => fun _ _ _ h => h.elim
  | n + 1 => norm_step n (norm_c n)
end Go.Proofs.YtmpcjcjacpjilabGreatDoor

/- types.Norm by a contract. -/
namespace Go.Proofs.YtmpcjcjacpjilabGreatDoor
open Go.RowKit

def NmPost (w : World) (u : Bool) (n : Nat) (D : Ty) (e : Ending) (w' : World) : Prop :=
  Below w.heap.size w w' ∧ ((e = .returned (.tuple #[zTy, .int .i64 9]) ∧ (u = true → ¬ (sizeT n D ≤ 200 ∧ heightT n D ≤ 16 ∧ (normT n D).isSome = true))) ∨
    ∃ (E : Ty) (k : Int) (nm : ByteArray) (na : Option Addr) (nl nc : Nat) (ka : Option Addr) (kl kc : Nat), normT n D = some E ∧ sizeT n D ≤ 200 ∧ e = .returned (.tuple #[.agg #[.int .i64 k, .string nm, .slice na nl nc, .slice ka kl kc], .int .i64 0]) ∧
      TyF w' w.heap.size n (.agg #[.int .i64 k, .string nm, .slice na nl nc, .slice ka kl kc]) E ∧ kindT E = k)

set_option maxHeartbeats 4000000 in
set_option maxRecDepth 100000 in
theorem nm_c (u : Bool) (n : Nat) (v : Value) (D : Ty) (w : World) (h : TyAt w u n v D) (hw : Words w) :
    Calls Tryz.prog 6 #[v] w (NmPost w u n D) := by
  obtain ⟨k, nm, na, nl, nc, ka, kl, kc, rfl⟩ : ∃ (k : Int) (nm : ByteArray) (na : Option Addr) (nl nc : Nat) (ka : Option Addr) (kl kc : Nat), v = .agg #[.int .i64 k, .string nm, .slice na nl nc, .slice ka kl kc] := by
    cases n with
    | zero => exact h.elim
    | succ n =>
      obtain ⟨k, nm, na, nc, ka, kc, ns, ks, rfl, _⟩ := h
      exact ⟨_, _, _, _, _, _, _, _, rfl⟩
  have HT := hideP h
  have HW := hideP hw
  have HB := hideP (below_next (bl_alloc w (tyO k nm na nl nc ka kl kc)) (bl_alloc _ zO))
  have HC1 := hideP (size_c n _ D _ (ty_forget (ty_below h HB.out)))
  clear h hw
  have hbx : ((w.alloc (tyO k nm na nl nc ka kl kc)).alloc zO).heap[w.heap.size]? = some (tyO k nm na nl nc ka kl kc) := (Below.heap_alloc _ _ _ (by simp)).trans (heap_alloc_last w _)
  have hrs : ((w.alloc (tyO k nm na nl nc ka kl kc)).alloc zO).heap[w.heap.size + 1]? = some zO := heap_at1 w _ _
  have HBX := hideP hbx
  have HRS := hideP hrs
  clear hbx hrs
  by_cases hsz : 200 < sizeT n D
  · have e1 : (200 : Int) < ((min (sizeT n D) 201 : Nat) : Int) := by omega
    have HN : Hid (¬ (sizeT n D ≤ 200 ∧ heightT n D ≤ 16 ∧ (normT n D).isSome = true)) := fun h => by have := h.1; omega
    clear hsz
    go_enter Tryz.func6, Tryz.ntmps6
    go_wp2_with fail
    refine HC1.out.mono ?_
    rintro e w1 ⟨rfl, hb1⟩
    have HB1 := hideP (below_next HB.out hb1)
    have HRS1 := hideP ((hb1.block _ (lt_of_block HRS.out)).trans HRS.out)
    obtain ⟨⟨z0, z1, z2, z3⟩, ⟨f0, f1, f2, f3⟩, hlt1⟩ := res_facts HRS1.out
    clear hb1
    go_wp2_with fail
    exact bodyPost_ret (results_cell_tmp rfl _ rfl (set4 HRS1.out _ _ _ _) Tryz.underlying25 ty_size) rfl ⟨below_set4 HB1.out (by omega) _ _ _ _, .inl ⟨rfl, fun _ => HN.out⟩⟩
  · have e1 : ¬ (200 : Int) < ((min (sizeT n D) 201 : Nat) : Int) := by omega
    have HSZ : Hid (sizeT n D ≤ 200) := by show _ ≤ _; omega
    clear hsz
    go_enter Tryz.func6, Tryz.ntmps6
    go_wp2_with fail
    refine HC1.out.mono ?_
    rintro e w1 ⟨rfl, hb1⟩
    have HB1 := hideP (below_next HB.out hb1)
    have HRS1 := hideP ((hb1.block _ (lt_of_block HRS.out)).trans HRS.out)
    have HBX1 := hideP ((hb1.block _ (lt_of_block HBX.out)).trans HBX.out)
    have HC2 := hideP (height_c u n _ D _ (ty_below HT.out HB1.out) (by have := HSZ.out; omega))
    obtain ⟨⟨x0, x1, x2, x3⟩, _, hltx⟩ := res_facts HBX1.out
    clear hb1
    go_wp2_with fail
    refine HC2.out.mono ?_
    rintro e w2 ⟨⟨r, rfl, hr1, hr17, hru⟩, hb2⟩
    have HB2 := hideP (below_next HB1.out hb2)
    have HRS2 := hideP ((hb2.block _ (lt_of_block HRS1.out)).trans HRS1.out)
    have HBX2 := hideP ((hb2.block _ (lt_of_block HBX1.out)).trans HBX1.out)
    have HRU := hideP hru
    have HC3 := hideP (norm_c n _ D w2 (ty_forget (ty_below HT.out HB2.out)) (HW.out.below HB2.out))
    clear hb2 hru x0 x1 x2 x3 hltx
    obtain ⟨⟨x0, x1, x2, x3⟩, _, hltx⟩ := res_facts HBX2.out
    obtain ⟨⟨z0, z1, z2, z3⟩, ⟨f0, f1, f2, f3⟩, hlt1⟩ := res_facts HRS2.out
    by_cases hr : 16 < r
    · have e2 : (16 : Int) < (r : Int) := by omega
      have HN : Hid (u = true → ¬ (sizeT n D ≤ 200 ∧ heightT n D ≤ 16 ∧ (normT n D).isSome = true)) := fun hu h => by have := HRU.out hu; omega
      clear hr
      go_wp2_with fail
      exact bodyPost_ret (results_cell_tmp rfl _ rfl (set4 HRS2.out _ _ _ _) Tryz.underlying25 ty_size) rfl ⟨below_set4 HB2.out (by omega) _ _ _ _, .inl ⟨rfl, HN.out⟩⟩
    · have e2 : ¬ (16 : Int) < (r : Int) := by omega
      clear hr
      clear z0 z1 z2 z3 f0 f1 f2 f3 hlt1
      go_wp2_with fail
      refine HC3.out.mono ?_
      intro e w3 hpost
      obtain ⟨hb3, hways⟩ := norm_ways hpost
      have HB3 := hideP (below_next HB2.out hb3)
      have HRS3 := hideP ((hb3.block _ (lt_of_block HRS2.out)).trans HRS2.out)
      obtain ⟨⟨z0, z1, z2, z3⟩, ⟨f0, f1, f2, f3⟩, hlt1⟩ := res_facts HRS3.out
      have hszw : w.heap.size + 2 ≤ w2.heap.size := by have := lt_of_block HRS2.out; omega
      clear hb3 hpost
      rcases hways with ⟨hn, rfl⟩ | ⟨E1, g1, g2, g3, g4, g5, g6, g7, g8, hn, rfl, hF1, hk1⟩
      · have HN := hideP hn
        clear hn
        go_wp2_with fail
        exact bodyPost_ret (results_cell_tmp rfl _ rfl ((Below.heap_alloc _ _ _ (by rw [size_set4]; exact lt_of_block HRS3.out)).trans (set4 HRS3.out _ _ _ _)) Tryz.underlying25 ty_size) rfl ⟨((below_set4 HB3.out (by omega) _ _ _ _).alloc (by rw [size_set4]; exact HB3.out.size) _), .inl ⟨rfl, fun _ h => by rw [HN.out] at h; cases h.2.2⟩⟩
      · have HN := hideP hn
        have HF := hideP (tyF_lower (lo' := w.heap.size + 2) hF1 hszw)
        have HK1 := hideP hk1
        clear hn hF1 hk1
        go_wp2_with fail
        exact bodyPost_ret (results_cell_tmp rfl _ rfl ((Below.heap_alloc _ _ _ (by rw [size_set4]; exact lt_of_block HRS3.out)).trans (set4 HRS3.out _ _ _ _)) Tryz.underlying25 ty_size) rfl ⟨((below_set4 HB3.out (by omega) _ _ _ _).alloc (by rw [size_set4]; exact HB3.out.size) _), .inr ⟨E1, g1, g2, g3, g4, g5, g6, g7, g8, HN.out, HSZ.out, rfl, tyF_lower (tyF_below (tyF_keep HF.out (by rw [size_set4]; exact Nat.le_refl _) fun bb h1 _ => other_set4 (by omega) _ _ _ _) (bl_alloc _ _)) (by omega), HK1.out⟩⟩
end Go.Proofs.YtmpcjcjacpjilabGreatDoor

/- types.show by a contract: base types, brackets. -/
namespace Go.Proofs.YtmpcjcjacpjilabGreatDoor
open Go.RowKit

def plainB (i : Nat) : ByteArray := ⟨(baseV i).toArray⟩

/-- The table of the base types' names lies there. -/
def Plain (w : World) : Prop := ∀ i, i < 5 → w.cell? ⟨1, i, none⟩ = some (.string (plainB i))

theorem Plain.lt {w : World} (h : Plain w) : 1 < w.heap.size := World.block_lt_of_cell? w _ (h 0 (by decide))
theorem Plain.below {w w' : World} (h : Plain w) (hb : Below w.heap.size w w') : Plain w' := fun i hi => (hb.cell (p := ⟨1, i, none⟩) h.lt).trans (h i hi)

def ShowPost (w : World) (n : Nat) (b : Bool) (D : Ty) (e : Ending) (w' : World) : Prop := ∃ s : ByteArray, e = .returned (.string s) ∧ s.data.toList = showT n b D ∧ Below w.heap.size w w'

def ShowAt (n : Nat) : Prop := ∀ (v : Value) (D : Ty) (w : World), TyAt w false n v D → NormT n D → Plain w → (showT n false D).length ≤ 1000000 → Calls Tryz.prog 16 #[v] w (ShowPost w n false D)

theorem show_other {n : Nat} {D : Ty} (h : kindT D ≠ 6) (b : Bool) : showT n b D = showT n false D := by
  cases n with
  | zero => rfl
  | succ n => rw [showT, showT]; simp [h]

theorem ty_form {w : World} {u : Bool} {n : Nat} {v : Value} {D : Ty} (h : TyAt w u n v D) : ∃ (k : Int) (nm : ByteArray) (na : Option Addr) (nl nc : Nat) (ka : Option Addr) (kl kc : Nat), v = .agg #[.int .i64 k, .string nm, .slice na nl nc, .slice ka kl kc] ∧ kindT D = k := by
  cases n with
  | zero => exact h.elim
  | succ n =>
    obtain ⟨k, nm, na, nc, ka, kc, ns, ks, rfl, rfl, _⟩ := h
    exact ⟨_, _, _, _, _, _, _, _, rfl, rfl⟩

set_option maxHeartbeats 4000000 in
theorem inBrackets_c (n : Nat) (ih : ShowAt n) (v : Value) (D : Ty) (w : World) (h : TyAt w false n v D) (hn : NormT n D) (hp : Plain w) (hl : (showT n true D).length ≤ 1000000) :
    Calls Tryz.prog 34 #[v] w (ShowPost w n true D) := by
  obtain ⟨k, nm, na, nl, nc, ka, kl, kc, rfl, hk⟩ := ty_form h
  have hb := bl_alloc w (tyO k nm na nl nc ka kl kc)
  have hpb := hp.below hb
  have htb := ty_below h hb
  by_cases h6 : k = 6
  · subst h6
    have hs : showT n true D = 40 :: (showT n false D ++ [41]) := by
      cases n with
      | zero => exact h.elim
      | succ n =>
        rcases hn with ⟨k, _, _, rfl⟩ | ⟨ns, ks, rfl, _⟩ | ⟨x, y, rfl, _⟩ | ⟨ks, rfl, _⟩
        · rw [kind_mk] at hk; omega
        · rw [kind_mk] at hk; omega
        · rw [show_fun, show_fun]
          simp
        · rw [kind_mk] at hk; omega
    have hl2 : (showT n false D).length ≤ 1000000 := by
      rw [hs] at hl
      simp at hl
      omega
    have HC := hideP (ih _ D _ htb hn hpb hl2)
    have HS := hideP hs
    have HL := hideP hl2
    have HB := hideP hb
    clear hs hl hl2 hb hpb htb hk hn h hp ih
    go_enter Tryz.func34, Tryz.ntmps34
    go_wp2_with fail
    refine HC.out.mono ?_
    rintro e w1 ⟨s, rfl, hs1, hb1⟩
    have HS1 := hideP hs1
    have HB1 := hideP (below_next HB.out hb1)
    have hsz : s.size ≤ 1000000 := by
      have := HL.out
      rw [← hs1] at this
      exact this
    clear hs1 hb1
    go_wp2_with fail
    go_ret
    refine ⟨_, rfl, ?_, HB1.out⟩
    rw [HS.out, ← HS1.out]
    simp [ByteArray.data_append]
  · have HS := hideP (show_other (n := n) (D := D) (by rw [hk]; exact h6) true)
    have HC := hideP (ih _ D _ htb hn hpb (by rw [← HS.out]; exact hl))
    have HB := hideP hb
    have e6 : (k == 6) = false := by rw [beq_eq_false_iff_ne]; exact h6
    clear hl hb hpb htb hk hn h hp ih
    go_enter Tryz.func34, Tryz.ntmps34
    go_wp2_with fail
    refine HC.out.mono ?_
    rintro e w1 ⟨s, rfl, hs1, hb1⟩
    have HB1 := hideP (below_next HB.out hb1)
    have HS1 := hideP hs1
    clear hs1 hb1
    go_wp2_with fail
    go_ret
    exact ⟨_, rfl, HS1.out.trans HS.out.symm, HB1.out⟩

set_option maxHeartbeats 4000000 in
set_option maxRecDepth 100000 in
theorem show_base_c (n : Nat) (k : Int) (h04 : 0 ≤ k ∧ k ≤ 4) (nm : ByteArray) (na : Option Addr) (nl nc : Nat) (ka : Option Addr) (kl kc : Nat) (w : World) (hp : Plain w) : Calls Tryz.prog 16 #[.agg #[.int .i64 k, .string nm, .slice na nl nc, .slice ka kl kc]] w (ShowPost w (n + 1) false (mkT k [] [] [])) := by
  have hb := bl_alloc w (tyO k nm na nl nc ka kl kc)
  have hk : k = ((0 : Nat) : Int) ∨ k = ((1 : Nat) : Int) ∨ k = ((2 : Nat) : Int) ∨ k = ((3 : Nat) : Int) ∨ k = ((4 : Nat) : Int) := by omega
  have HB := hideP hb
  have h0 := hp 0 (by decide)
  have h1 := hp 1 (by decide)
  have h2 := hp 2 (by decide)
  have h3 := hp 3 (by decide)
  have h4 := hp 4 (by decide)
  have hlt := hp.lt
  clear h04 hb hp
  rcases hk with rfl | rfl | rfl | rfl | rfl
  all_goals
    go_enter Tryz.func16, Tryz.ntmps16
    go_wp2_with fail
    go_ret
    exact ⟨_, rfl, rfl, HB.out⟩

end Go.Proofs.YtmpcjcjacpjilabGreatDoor

/- What the loops of types.show keep: the texts of the parts in a row. -/
namespace Go.Proofs.YtmpcjcjacpjilabGreatDoor
open Go.RowKit

structure SInv (w wx : World) (bx : Obj) (L : List (List UInt8)) (i : Nat) : Prop where
  bl : Below w.heap.size w wx
  hx : wx.heap[w.heap.size]? = some bx
  rw : ∃ cs : Array Value, wx.heap[w.heap.size + 1]? = some (.cells cs 9) ∧ cs.size = L.length ∧ ∀ k (h : k < L.length), k < i → cs[k]? = some (.string ⟨L[k].toArray⟩)

theorem SInv.grow {w wx wx' : World} {bx : Obj} {L : List (List UInt8)} {i : Nat} (h : SInv w wx bx L i) (hb : Below wx.heap.size wx wx') : SInv w wx' bx L i := by
  obtain ⟨cs, h1, h2, h3⟩ := h.rw
  exact ⟨below_next h.bl hb, (hb.block _ (lt_of_block h.hx)).trans h.hx, cs, (hb.block _ (lt_of_block h1)).trans h1, h2, h3⟩

theorem str_of {s : ByteArray} {l : List UInt8} (h : s.data.toList = l) : s = ⟨l.toArray⟩ := by
  cases s with
  | mk d => simp at h; simp [← h]

theorem SInv.put {w wx : World} {bx : Obj} {L : List (List UInt8)} {i : Nat} (h : SInv w wx bx L i) (hi : i < L.length) {s : ByteArray} (hs : s.data.toList = L[i]) : SInv w (wx.setCell ⟨w.heap.size + 1, i, none⟩ (.string s)) bx L (i + 1) := by
  obtain ⟨cs, h1, h2, h3⟩ := h.rw
  refine ⟨h.bl.setCell (p := ⟨w.heap.size + 1, i, none⟩) (by show w.heap.size ≤ w.heap.size + 1; omega) _, (Below.heap_setCell _ _ _ _ (by show w.heap.size ≠ w.heap.size + 1; omega)).trans h.hx, _, cells_setCell h1, by simpa using h2, fun k hk hki => ?_⟩
  by_cases e : k = i
  · subst e
    rw [str_of hs]
    simp [h2, hi]
  · rw [Array.getElem?_setIfInBounds_ne (Ne.symm e)]
    exact h3 k hk (by omega)

theorem SInv.facts {w wx : World} {bx : Obj} {L : List (List UInt8)} {i : Nat} (h : SInv w wx bx L i) {j : Nat} (hj : j < L.length) : (∃ v, wx.cell? ⟨w.heap.size + 1, j, none⟩ = some v) ∧ wx.frozen? ⟨w.heap.size + 1, j, none⟩ = false ∧ w.heap.size + 1 < wx.heap.size := by
  obtain ⟨cs, h1, h2, _⟩ := h.rw
  refine ⟨?_, by simp [World.frozen?, h1], lt_of_block h1⟩
  rw [cell_of_row wx (w.heap.size + 1) _ _ _ _ h1]
  exact ⟨_, Array.getElem?_eq_getElem (by omega)⟩

/-- .. and at the end. -/
theorem SInv.done {w wx : World} {bx : Obj} {L : List (List UInt8)} (h : SInv w wx bx L L.length) : ∀ (j : Nat) x, (L.map fun l => (⟨l.toArray⟩ : ByteArray))[j]? = some x → wx.cell? ⟨w.heap.size + 1, 0 + j, none⟩ = some (.string x) := by
  intro j x hj
  obtain ⟨cs, h1, h2, h3⟩ := h.rw
  rw [List.getElem?_map] at hj
  obtain ⟨l, e1, rfl⟩ := Option.map_eq_some_iff.1 hj
  obtain ⟨hjl, rfl⟩ := List.getElem?_eq_some_iff.1 e1
  rw [Nat.zero_add, cell_of_row wx (w.heap.size + 1) _ _ _ _ h1]
  exact h3 j hjl hjl

theorem join_is (sep : List UInt8) : ∀ L : List (List UInt8), Lib.join L sep = joinV sep L
  | [] => rfl
  | [s] => by rw [Lib.join_one]; rfl
  | s :: t :: r => by
    rw [Lib.join_cons]
    have h := join_is sep (t :: r)
    rw [Lib.join_cons] at h
    show _ = s ++ sep ++ joinV sep (t :: r)
    rw [← h]
    simp [Lib.joinTail]

theorem join_len (sep : List UInt8) : ∀ (L : List (List UInt8)), ∀ l ∈ L, l.length ≤ (joinV sep L).length
  | [], _, h => by cases h
  | [s], l, h => by
    rw [List.mem_singleton.1 h]
    exact Nat.le_refl _
  | s :: t :: r, l, h => by
    show _ ≤ (s ++ sep ++ joinV sep (t :: r)).length
    rcases List.mem_cons.1 h with rfl | h
    · simp
    · have := join_len sep (t :: r) l h
      simp
      omega

/-- strings.Join of such a row. -/
theorem join_c (sep : ByteArray) (L : List (List UInt8)) (B : Nat) (w : World) (hc : ∀ (j : Nat) x, (L.map fun l => (⟨l.toArray⟩ : ByteArray))[j]? = some x → w.cell? ⟨B, 0 + j, none⟩ = some (.string x)) (hB : B < w.heap.size) (hl : (joinV sep.data.toList L).length ≤ 1000000) (hn : L.length ≤ 1000000) :
    Calls Tryz.prog 33 #[.slice (some ⟨B, 0, none⟩) L.length L.length, .string sep] w fun e w' => (∃ s : ByteArray, e = .returned (.string s) ∧ s.data.toList = joinV sep.data.toList L ∧ s.size ≤ 1000000) ∧ Below w.heap.size w w' := by
  have hm : (L.map fun l => (⟨l.toArray⟩ : ByteArray)).map (·.data.toList) = L := by
    rw [List.map_map]
    exact List.map_id _
  have := Tryz.strings_Join B 0 L.length (L.map fun l => (⟨l.toArray⟩ : ByteArray)) sep w hc hB (by simp; omega) (by simp) (by rw [hm, join_is]; omega)
  rw [List.length_map, hm, join_is] at this
  refine this.mono ?_
  rintro e w' ⟨rfl, hb⟩
  exact ⟨⟨_, rfl, rfl, by show List.length _ ≤ _; exact hl⟩, hb⟩
end Go.Proofs.YtmpcjcjacpjilabGreatDoor
