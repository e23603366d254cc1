/- types.normRecord by a contract: the walk. -/
import Derived.Test.YtmpcjcjacpjilaaDoorTyNrW
namespace Go.Proofs.YtmpcjcjacpjilaaDoor
open Go.RowKit Go.Shelf Go.Lib Go.Sort

theorem heap3 (w : World) (a b c : Obj) : (((w.alloc a).alloc b).alloc c).heap[w.heap.size]? = some a ∧ (((w.alloc a).alloc b).alloc c).heap[w.heap.size + 1]? = some b ∧ (((w.alloc a).alloc b).alloc c).heap[w.heap.size + 2]? = some c := by
  refine ⟨?_, ?_, ?_⟩
  · rw [Below.heap_alloc _ _ _ (by simp; omega), Below.heap_alloc _ _ _ (by simp)]
    exact heap_alloc_last w a
  · rw [Below.heap_alloc _ _ _ (by simp)]
    exact heap_at1 w a b
  · have := heap_alloc_last ((w.alloc a).alloc b) c
    simpa using this

theorem box5 {w : World} {q t : Nat} {a b c d e : Value} (h : w.heap[q]? = some (.cells #[a, b, c, d, e] t)) : w.cell? ⟨q, 0, none⟩ = some a ∧ w.cell? ⟨q, 1, none⟩ = some b ∧ w.cell? ⟨q, 2, none⟩ = some c ∧ w.cell? ⟨q, 3, none⟩ = some d ∧ w.cell? ⟨q, 4, none⟩ = some e ∧ q < w.heap.size := by
  refine ⟨?_, ?_, ?_, ?_, ?_, lt_of_block h⟩ <;> (rw [cell_of_row w q _ _ _ _ h]; rfl)

theorem room_size : (Tryd.zeroCells86).size = 80 := by kernel_rfl

set_option maxHeartbeats 4000000 in
set_option maxRecDepth 100000 in
theorem normRecord_c (n : Nat) (ih : NormAt n) (nm : ByteArray) (na : Option Addr) (nc : Nat) (ka : Option Addr) (kc : Nat) (ns : List (List UInt8)) (ks : List Ty) (w : World) (hnl : ns.length ≤ reachBytes) (hkl : ks.length ≤ reachBytes) (hsl : ∀ s ∈ ns, s.length ≤ reachBytes)
    (hna : NamesAt w na ns) (hk : KidsAt w false n ka ks) (hw : Words w) :
    Calls Tryd.prog 43 #[.agg #[.int .i64 5, .string nm, .slice na ns.length nc, .slice ka ks.length kc]] w (NormPost w (n + 1) (mkT 5 nm.data.toList ns ks)) := by
  have hkl' : ks.length ≤ 140737488351232 := hkl
  have hnl' : ns.length ≤ 140737488351232 := hnl
  have HK := hideP hk
  have HW := hideP hw
  have HNA := hideP hna
  have HSL := hideP hsl
  clear hk hw hna hsl hkl hnl
  by_cases hl : ns.length ≠ ks.length
  · have e1 : ((ns.length : Int) != (ks.length : Int)) = true := by simp; omega
    have HN : Hid (normT (n + 1) (mkT 5 nm.data.toList ns ks) = none) := rec_len (.inl hl)
    clear hl
    go_enter Tryd.func43, Tryd.ntmps43
    go_wp2_with fail
    exact bodyPost_ret (results_cell_tmp rfl _ rfl (heap3 _ _ _ _).2.1 Tryd.underlying25 ty_size) rfl (norm_conv (e' := .returned (.tuple #[zTy, .bool false])) ⟨((bl_alloc w _).alloc (by simp) _).alloc (by simp; omega) _, by rw [HN.out]⟩ rfl)
  have hl : ns.length = ks.length := by omega
  have e1 : ((ns.length : Int) != (ks.length : Int)) = false := by simp; omega
  have HL := hideP hl
  by_cases h16 : 16 < ks.length
  · have e2 : (16 : Int) < (ks.length : Int) := by omega
    have HN : Hid (normT (n + 1) (mkT 5 nm.data.toList ns ks) = none) := rec_len (.inr h16)
    clear hl
    go_enter Tryd.func43, Tryd.ntmps43
    go_wp2_with fail
    exact bodyPost_ret (results_cell_tmp rfl _ rfl (heap3 _ _ _ _).2.1 Tryd.underlying25 ty_size) rfl (norm_conv (e' := .returned (.tuple #[zTy, .bool false])) ⟨((bl_alloc w _).alloc (by simp) _).alloc (by simp; omega) _, by rw [HN.out]⟩ rfl)
  have e2 : ¬ (16 : Int) < (ks.length : Int) := by omega
  have e3 : (ks.length : Int) ≤ 16 := by omega
  clear hl
  go_enter Tryd.func43, Tryd.ntmps43
  go_wp2_with fail
  go_loopw [34] (fun i wr => ∃ (j : Nat) (fs : List Fd), i = .int .i64 j ∧ j ≤ ns.length ∧ Hid (fs.length = j) ∧ Hid (RInv w wr n (tyO 5 nm na ns.length nc ka ks.length kc) ns ks fs)) (fun i _ => ns.length - (intOf i).toNat)
  case atStart =>
    obtain ⟨h0, h1, h2⟩ := heap3 w (tyO 5 nm na ns.length nc ka ks.length kc) zO (.cells Tryd.zeroCells86 86)
    exact ⟨0, [], rfl, Nat.zero_le _, rfl, ⟨((bl_alloc w _).alloc (by simp) _).alloc (by simp; omega) _, h0, h1, ⟨_, h2, room_size, fun i h => absurd h (Nat.not_lt_zero _)⟩, fun i h => absurd h (Nat.not_lt_zero _)⟩⟩
  case round =>
    obtain ⟨j, fs, rfl, hj, hfl, hR⟩ := hrel
    by_cases hlt : j < ns.length
    · have hjl : (j : Int) < (ns.length : Int) := by omega
      have hjk : j < ks.length := by have := HL.out; omega
      have hjl' : (j : Int) < (ks.length : Int) := by omega
      obtain ⟨b, o, k1, n1, na1, nl1, nc1, la1, ll1, lc1, rfl, hbl, q0, q1, q2, q3, ht1⟩ := kid_at HK.out hjk
      have hnj : ∃ nb no, na = some ⟨nb, no, none⟩ ∧ nb < w.heap.size ∧ w.cell? ⟨nb, no + j, none⟩ = some (.string ⟨ns[j].toArray⟩) := by
        rcases HNA.out with h0 | ⟨nb, no, e, hb, hc⟩
        · rw [h0] at hlt; cases hlt
        · exact ⟨nb, no, e, hb, hc j hlt⟩
      obtain ⟨nb, no, rfl, hnb, hns⟩ := hnj
      have r0 := (hR.out.bl.cell (p := ⟨b, o + j * 4, none⟩) hbl).trans q0
      have r1 := (hR.out.bl.cell (p := ⟨b, o + j * 4 + 1, none⟩) hbl).trans q1
      have r2 := (hR.out.bl.cell (p := ⟨b, o + j * 4 + 2, none⟩) hbl).trans q2
      have r3 := (hR.out.bl.cell (p := ⟨b, o + j * 4 + 3, none⟩) hbl).trans q3
      obtain ⟨S, hS⟩ : ∃ S : ByteArray, S = ⟨ns[j].toArray⟩ := ⟨_, rfl⟩
      rw [← hS] at hns
      have rN := (hR.out.bl.cell (p := ⟨nb, no + j, none⟩) hnb).trans hns
      have hSd : S.data.toList = ns[j] := by rw [hS]
      have hSz : S.size ≤ 140737488351232 := by
        have h1 := HSL.out ns[j] (List.getElem_mem hlt)
        have h2 : S.size = ns[j].length := by rw [hS]; rfl
        rw [h2]
        exact h1
      have HSD := hideP hSd
      have HC := hideP (ih _ _ _ (ty_below ht1 hR.out.bl) (HW.out.below hR.out.bl))
      have hbox := res_facts hR.out.bx
      obtain ⟨⟨bx0, bx1, bx2, bx3⟩, _, hlbx⟩ := hbox
      clear q0 q1 q2 q3 ht1 hns hS hSd
      go_wp2_with fail
      refine HC.out.mono ?_
      intro e w1 hpost
      obtain ⟨hbw, hways⟩ := norm_ways hpost
      have HR2 := hideP (hR.out.grow hbw)
      obtain ⟨⟨z0, z1, z2, z3⟩, ⟨f0, f1, f2, f3⟩, hlt1⟩ := res_facts HR2.out.rs
      clear hpost HC
      rcases hways with ⟨hn, rfl⟩ | ⟨E1, g1, g2, g3, g4, g5, g6, g7, g8, hn, rfl, hF1, hk1⟩
      · have HN : Hid (normT (n + 1) (mkT 5 nm.data.toList ns ks) = none) := rec_kid hjk hn
        clear hn
        go_wp2_with fail
        exact bodyPost_ret (results_cell_tmp rfl _ rfl (no_answer HN.out HR2.out.bl (by omega) HR2.out.rs _).1 Tryd.underlying25 ty_size) rfl (norm_conv (no_answer HN.out HR2.out.bl (by omega) HR2.out.rs _).2 rfl)
      · have HN1 := hideP hn
        have HF1 : Hid (TyF w1 (w.heap.size + 3) n (.agg #[.int .i64 g1, .string g2, .slice g3 g4 g5, .slice g6 g7 g8]) E1) := tyF_lower hF1 hR.out.sz
        have hb3 := bl_alloc w1 (tyO g1 g2 g3 g4 g5 g6 g7 g8)
        have HR3 := hideP (HR2.out.grow hb3)
        have HNC := hideP (name_c S hSz _ (HW.out.below HR3.out.bl))
        clear hn hF1 hb3
        cases hnv : nameV S.data.toList
        · rw [hnv] at HNC
          have HN : Hid (normT (n + 1) (mkT 5 nm.data.toList ns ks) = none) := rec_name (s := S.data.toList) (by rw [HSD.out]; exact List.getElem_mem hlt) hnv
          clear hnv
          go_wp2_with fail
          refine HNC.out.mono ?_
          rintro e w2 ⟨rfl, rfl⟩
          go_wp2_with fail
          exact bodyPost_ret (results_cell_tmp rfl _ rfl (no_answer HN.out HR2.out.bl (by omega) HR2.out.rs _).1 Tryd.underlying25 ty_size) rfl (norm_conv (no_answer HN.out HR2.out.bl (by omega) HR2.out.rs _).2 rfl)
        · rw [hnv] at HNC
          have HNV := hideP hnv
          clear hnv
          obtain ⟨cs, hcs, hcs2, _⟩ := HR2.out.rm
          have fM : ∀ i, w1.frozen? ⟨w.heap.size + 1 + 1, i, none⟩ = false := fun i => by simp [World.frozen?, hcs]
          have hM : ∀ i, i < 80 → ∃ v, w1.cell? ⟨w.heap.size + 1 + 1, i, none⟩ = some v := fun i hi => by
            rw [cell_of_row w1 (w.heap.size + 1 + 1) _ _ _ _ hcs]
            exact ⟨_, Array.getElem?_eq_getElem (by omega)⟩
          obtain ⟨v0, m0⟩ := hM (j * 5) (by omega)
          obtain ⟨v1, m1⟩ := hM (j * 5 + 1) (by omega)
          obtain ⟨v2, m2⟩ := hM (j * 5 + 2) (by omega)
          obtain ⟨v3, m3⟩ := hM (j * 5 + 3) (by omega)
          obtain ⟨v4, m4⟩ := hM (j * 5 + 4) (by omega)
          have p0 := fM (j * 5)
          have p1 := fM (j * 5 + 1)
          have p2 := fM (j * 5 + 2)
          have p3 := fM (j * 5 + 3)
          have p4 := fM (j * 5 + 4)
          have hlM : w.heap.size + 1 + 1 < w1.heap.size := lt_of_block hcs
          clear hcs hcs2 fM hM
          go_wp2_with fail
          refine HNC.out.mono ?_
          rintro e w2 ⟨rfl, rfl⟩
          go_wp2_with fail
          refine ⟨⟨j + 1, fs ++ [(S, (g1, g2, g3, g4, g5, g6, g7, g8), [E1])], by go_num, by omega, ?_, ?_⟩, by simp [intOf]; omega⟩
          · show _ = _
            rw [List.length_append, hfl.out]
            rfl
          · have hf := hfl.out
            have := HR2.out.put (s := S) (c := (g1, g2, g3, g4, g5, g6, g7, g8)) (E := E1) (by omega) (by omega) (by omega) (by rw [HSD.out]; congr 1; exact hf.symm) (by have h := HNV.out; rw [HSD.out] at h; rw [← h]; congr 2) (by have h := HN1.out; rw [← h]; congr 2) HF1.out
            rw [hf] at this
            exact this.grow (bl_alloc _ _)
    · have hjl : ¬ (j : Int) < (ns.length : Int) := by omega
      have hjn : j = ks.length := by have := HL.out; omega
      have hf := hfl.out
      obtain ⟨cs, hcs, hcs2, hcs3⟩ := hR.out.rm
      have hH := holds_fields hcs hcs3
      have hfa : fs.toArray.size = ks.length := by simp; omega
      have hsc := sortF_c (w.heap.size + 2) 16 fs.toArray wr hH (lt_of_block hcs) (by omega)
      rw [hfa] at hsc
      have HSC := hideP hsc
      have HFA := hideP hfa
      have HHH := hideP hjn
      clear hcs hcs2 hcs3 hH hsc HK HNA hf hfa hjn
      go_wp2_with fail
      refine HSC.out.mono ?_
      rintro e w2 ⟨rfl, d, hperm, hsort, hH2, hg2, hds⟩
      obtain ⟨l, hl⟩ : ∃ l, l = d.toList := ⟨_, rfl⟩
      have hd : d = l.toArray := by rw [hl]
      subst hd
      have hll : l.length = ks.length := by simpa using hds
      have hszr := hR.out.sz
      have hB2 : Below w.heap.size w w2 := hR.out.bl.grown hg2 hR.out.bl.size fun q e => by injection e with e; omega
      have hrs2 : w2.heap[w.heap.size + 1]? = some zO := (hg2.block _ (by omega) (by simp)).trans hR.out.rs
      have hcell : ∀ (i : Nat) (h : i < l.length) (c : Nat), c < 5 → ∀ u, (encF l[i])[c]? = some u → w2.cell? ⟨w.heap.size + 1 + 1, i * 5 + c, none⟩ = some u := fun i h c hc u hu => by
        have := (hH2.cell (i := i) (c := c) (by simpa using h) hc).1
        rw [Nat.zero_add] at this
        rw [show w.heap.size + 1 + 1 = w.heap.size + 2 by omega, this]
        have e1 : l.toArray[i]! = l[i] := by simp [h]
        rw [e1]
        rw [List.getElem?_eq_some_iff] at hu
        obtain ⟨h5, h6⟩ := hu
        simp [h5, h6]
      have hty : ∀ f ∈ l, ∃ E, f.2.2 = [E] ∧ TyF w2 (w.heap.size + 3) n f.2.1.val E := fun f hf => by
        have hf2 : f ∈ fs := by
          have := (hperm.mem_iff (a := f)).1 (by simpa using hf)
          simpa using this
        obtain ⟨i, hi, rfl⟩ := List.mem_iff_getElem.1 hf2
        have h1 := hfl.out
        have h2 := HL.out
        obtain ⟨_, _, E, h3, _, h5⟩ := hR.out.ty i hi (by omega) (by omega)
        exact ⟨E, h3, tyF_keep h5 hg2.size fun bb g1 g2 => hg2.block bb g2 (fun e => by injection e with e; omega)⟩
      have hls : ∀ f ∈ l, f.1.size ≤ reachBytes := fun f hf => by
        have hf2 : f ∈ fs := by
          have := (hperm.mem_iff (a := f)).1 (by simpa using hf)
          simpa using this
        obtain ⟨i, hi, rfl⟩ := List.mem_iff_getElem.1 hf2
        have h1 := hfl.out
        have h2 := HL.out
        have h3 := (hR.out.ty i hi (by omega) (by omega)).1
        have h4 := HSL.out _ (List.getElem_mem (l := ns) (n := i) (by omega))
        rw [← h3] at h4
        exact h4
      have HLS := hideP hls
      have hrec := rec_fields (n := n) (ns := ns) (ks := ks) (fs := fs) HL.out (by have := hfl.out; have := HHH.out; omega) (fun i h h' h'' => by
        obtain ⟨g1, g2, E, g3, g4, _⟩ := hR.out.ty i h h' h''
        exact ⟨g1, g2, E, g3, g4⟩)
      obtain ⟨es, hes, hesl, hpz, hnv⟩ := hrec
      have hpp : (l.map pairF).Perm (ns.zip es) := by
        rw [← hpz]
        exact (by simpa using hperm : l.Perm fs).map _
      have hss : ∀ i j (_ : i < j) (hj : j < (l.map pairF).length), ltB (l.map pairF)[j].1 ((l.map pairF)[i]'(by omega)).1 = false := fun i j hij hj => by
        have hj' : j < l.length := by simpa using hj
        have := hsort i j hij (by simpa using hj')
        have e1 : l.toArray[i]! = l[i]'(by omega) := by simp [show i < l.length by omega]
        have e2 : l.toArray[j]! = l[j] := by simp [hj']
        rw [e1, e2] at this
        simpa [pairF] using this
      have HNR : Hid (normT (n + 1) (mkT 5 nm.data.toList ns ks) = recordV ns es) := by
        show _ = _
        rw [normT_rec, hes]
      have HCELL := hideP hcell
      have HTY := hideP hty
      have HPP := hideP hpp
      have HSS := hideP hss
      have HB2 := hideP hB2
      have HRS2 := hideP hrs2
      have HNV := hideP hnv
      have hesn : ns.length = es.length := by have := HL.out; omega
      have HES := hideP hesn
      have HLL := hideP hll
      have h16l : l.length ≤ 16 := by omega
      have hsz2 : w.heap.size + 3 ≤ w2.heap.size := Nat.le_trans hszr hg2.size
      obtain ⟨i0, hi, hz0, hz1, hz2⟩ := info_parts info_ty
      obtain ⟨s0, si, sz0, sz1, sz2⟩ := info_parts info_str
      clear HSC HSL hls hl hperm hsort hH2 hg2 hds hcell hty hes hesl hpz hnv hpp hss hB2 hrs2 hesn hll
      go_wp2_with fail
      go_loopw [68] (fun ii wx => ∃ (i : Nat) (vN vK : Value), ii = .int .i64 i ∧ i ≤ ks.length ∧ Hid (R2 w2 wx l i i vN vK) ∧ Hid (∀ a (h : a + 1 < i) (h' : a + 1 < l.length), (l[a]'(by omega)).1.data.toList ≠ l[a + 1].1.data.toList)) (fun ii _ => ks.length - (intOf ii).toNat)
      case atStart => exact ⟨0, .slice none 0 0, .slice none 0 0, rfl, Nat.zero_le _, ⟨bl_alloc _ _, heap_alloc_last _ _, World.ownsRow_nil .., World.ownsRow_nil .., .inl rfl⟩, fun a h => absurd h (by omega)⟩
      case round =>
        obtain ⟨i, vN, vK, rfl, hik, hR2, hdi⟩ := hrel
        have hlx : w2.heap.size < wr.heap.size := hR2.out.lt
        by_cases hlt : i < ks.length
        · have hil : (i : Int) < (ks.length : Int) := by omega
          have hil' : i < l.length := by have := HLL.out; omega
          obtain ⟨f, hf⟩ : ∃ f, f = l[i] := ⟨_, rfl⟩
          obtain ⟨fs1, ⟨y1, y2, y3, y4, y5, y6, y7, y8⟩, ft⟩ := f
          have hlM : w.heap.size + 1 + 1 < w2.heap.size := by omega
          have hcc : ∀ c, c < 5 → ∀ u, (encF (fs1, (y1, y2, y3, y4, y5, y6, y7, y8), ft))[c]? = some u → wr.cell? ⟨w.heap.size + 1 + 1, i * 5 + c, none⟩ = some u := fun c hc u hu => (hR2.out.bl.cell (p := ⟨w.heap.size + 1 + 1, i * 5 + c, none⟩) hlM).trans (HCELL.out i hil' c hc u (by rw [← hf]; exact hu))
          have c0 : wr.cell? ⟨w.heap.size + 1 + 1, i * 5, none⟩ = some (.string fs1) := hcc 0 (by omega) _ rfl
          have c1 : wr.cell? ⟨w.heap.size + 1 + 1, i * 5 + 1, none⟩ = some (.int .i64 y1) := hcc 1 (by omega) _ rfl
          have c2 : wr.cell? ⟨w.heap.size + 1 + 1, i * 5 + 2, none⟩ = some (.string y2) := hcc 2 (by omega) _ rfl
          have c3 : wr.cell? ⟨w.heap.size + 1 + 1, i * 5 + 3, none⟩ = some (.slice y3 y4 y5) := hcc 3 (by omega) _ rfl
          have c4 : wr.cell? ⟨w.heap.size + 1 + 1, i * 5 + 4, none⟩ = some (.slice y6 y7 y8) := hcc 4 (by omega) _ rfl
          have hlM2 : w.heap.size + 1 + 1 < wr.heap.size := by omega
          have HF := hideP hf
          clear hcc hf
          obtain ⟨uu0, uu1, uu2, uu3⟩ := (res_facts hR2.out.hx).1
          obtain ⟨uf0, uf1, uf2, uf3⟩ := (res_facts hR2.out.hx).2.1
          have HX1 := hideP (hR2.out.grow (bl_alloc wr (.cells #[.string fs1, .int .i64 y1, .string y2, .slice y3 y4 y5, .slice y6 y7 y8] 85)))
          cases i with
          | zero =>
            go_wp2_with fail
            go_quiet (fail)
            have HX2 := hideP (HX1.out.grow (below_drewN (Below.refl _ _) nq))
            have HUN : Hid (∀ w4, (((wr.alloc (.cells #[.string fs1, .int .i64 y1, .string y2, .slice y3 y4 y5, .slice y6 y7 y8] 85)).drewN nq).alloc (.cells #[.string fs1] 9)).grownBy w4 vN.ownBlock → w4.heap[w2.heap.size]? = some (.cells #[.int .i64 5, .string ⟨#[]⟩, vN, vK] 25) ∧ w4.heap[wr.heap.size]? = some (.cells #[.string fs1, .int .i64 y1, .string y2, .slice y3 y4 y5, .slice y6 y7 y8] 85)) := fun w4 hg => by
              obtain ⟨h1, h2⟩ := HX2.out.kept HX2.out.oN hg
              exact ⟨h1, (h2 _ (by show wr.heap.size < (wr.alloc _).heap.size; simp) (fun e => by have := (hR2.out.oN.lt _ e.symm).2; omega)).trans (heap_alloc_last wr _)⟩
            go_wp2_with (first
              | (at_builtin; refine wpList_append_own_at _ rfl (.tmp 88) (.tmp 91) 22 rfl (w2.heap.size + 1) 9 s0 _ 1 16 Tryd.underlying22 si sz0 sz1 sz2 rfl (by decide) _ _ _ rfl (HX2.out.oN.alloc _) ⟨_, 0, none⟩ 1 1 [.string fs1] rfl rfl (one_newN _ (by simp [World.drewN]) _ _) (by simp [Value.oneCell']) (by unfold maxLen; omega) (by omega) (by simp [World.drewN]; omega) ?_; intro v' w4 hown' hgrow _ hloc; have HX3 := hideP (HX2.out.names hil' (congrArg Prod.fst HF.out) hown' hgrow hloc); obtain ⟨gN, capN, rfl⟩ := own_form hown'; obtain ⟨k1, k2⟩ := HUN.out w4 hgrow; obtain ⟨⟨_, _, d2, d3⟩, ⟨_, _, e2, e3⟩, hl4⟩ := res_facts k1; obtain ⟨b0, b1, b2, b3, b4, hl5⟩ := box5 k2; clear k1 k2 hown' hgrow hloc)
              | (at_builtin; refine wpList_append_own_at _ rfl (.tmp 95) (.tmp 98) 23 rfl (w2.heap.size + 1) 25 i0 _ 4 72 Tryd.underlying23 hi hz0 hz1 hz2 rfl (by decide) _ _ _ rfl (HX3.out.oK.alloc _) ⟨_, 0, none⟩ 1 1 [.int .i64 y1, .string y2, .slice y3 y4 y5, .slice y6 y7 y8] rfl rfl (cells_newN _ (by simp) _ _ _ _ _) (cells_one (y1, y2, y3, y4, y5, y6, y7, y8)) (by unfold maxLen; omega) (by omega) (by simp; omega) ?_; intro v' w5 hown' hgrow _ hloc; have HX4 := hideP (HX3.out.kids (c := (y1, y2, y3, y4, y5, y6, y7, y8)) hil' (congrArg (fun f => f.2.1) HF.out) hown' hgrow hloc); have k1 := (HX3.out.kept HX3.out.oK hgrow).1; obtain ⟨gK, capK, rfl⟩ := own_form hown'; obtain ⟨⟨_, _, p2, p3⟩, ⟨_, _, q2, q3⟩, hl6⟩ := res_facts k1; clear k1 hown' hgrow hloc))
            refine ⟨⟨0 + 1, _, _, by go_num, by omega, HX4, ?_⟩, by simp [intOf]; omega⟩
            exact fun a h => absurd h (by omega)
          | succ i =>
            obtain ⟨f0, hf0⟩ : ∃ f0, f0 = (l[i]'(by omega)).1 := ⟨_, rfl⟩
            have b0 : wr.cell? ⟨w.heap.size + 1 + 1, i * 5, none⟩ = some (.string f0) := (hR2.out.bl.cell (p := ⟨w.heap.size + 1 + 1, i * 5, none⟩) hlM).trans (HCELL.out i (by omega) 0 (by omega) _ (by rw [hf0]; rfl))
            have e0 : (0 : Int) < ((i + 1 : Nat) : Int) := by omega
            have e1 : (i : Int) < (ks.length : Int) := by omega
            have HF0 := hideP hf0
            clear hf0
            by_cases hsame : f0.data.toList = fs1.data.toList
            · have hsm : f0 = fs1 := by
                cases f0; cases fs1
                simpa [Array.toList_inj] using hsame
              subst hsm
              go_wp2_with fail
              go_quiet (fail)
              have HN : Hid (normT (n + 1) (mkT 5 nm.data.toList ns ks) = none) := by
                show _ = _
                rw [HNR.out]
                refine record_twice HES.out HPP.out (i := i) (by simpa using hil') ?_
                simp only [List.getElem_map, pairF]
                rw [← HF.out, ← HF0.out]
              have HB7 : Hid (Below w.heap.size w ((wr.alloc (.cells #[.string f0, .int .i64 y1, .string y2, .slice y3 y4 y5, .slice y6 y7 y8] 85)).drewN nq)) := below_drewN (below_next (below_next HB2.out hR2.out.bl) (bl_alloc _ _)) nq
              have HRS7 : Hid (((wr.alloc (.cells #[.string f0, .int .i64 y1, .string y2, .slice y3 y4 y5, .slice y6 y7 y8] 85)).drewN nq).heap[w.heap.size + 1]? = some zO) := (Below.heap_alloc _ _ _ (by omega)).trans ((hR2.out.bl.block _ (lt_of_block HRS2.out)).trans HRS2.out)
              obtain ⟨⟨z0, z1, z2, z3⟩, ⟨g0, g1, g2, g3⟩, hlt1⟩ := res_facts ((hR2.out.bl.block _ (lt_of_block HRS2.out)).trans HRS2.out)
              go_wp2_with fail
              exact bodyPost_ret (results_cell_tmp rfl _ rfl (no_answer0 HN.out HB7.out (by omega) HRS7.out).1 Tryd.underlying25 ty_size) rfl (norm_conv (no_answer0 HN.out HB7.out (by omega) HRS7.out).2 rfl)
            · have hse : (f0.toList == fs1.toList) = false := bytes_ne hsame
              go_wp2_with fail
              go_quiet (fail)
              have HX2 := hideP (HX1.out.grow (below_drewN (Below.refl _ _) nq))
              have HUN : Hid (∀ w4, (((wr.alloc (.cells #[.string fs1, .int .i64 y1, .string y2, .slice y3 y4 y5, .slice y6 y7 y8] 85)).drewN nq).alloc (.cells #[.string fs1] 9)).grownBy w4 vN.ownBlock → w4.heap[w2.heap.size]? = some (.cells #[.int .i64 5, .string ⟨#[]⟩, vN, vK] 25) ∧ w4.heap[wr.heap.size]? = some (.cells #[.string fs1, .int .i64 y1, .string y2, .slice y3 y4 y5, .slice y6 y7 y8] 85)) := fun w4 hg => by
                obtain ⟨h1, h2⟩ := HX2.out.kept HX2.out.oN hg
                exact ⟨h1, (h2 _ (by show wr.heap.size < (wr.alloc _).heap.size; simp) (fun e => by have := (hR2.out.oN.lt _ e.symm).2; omega)).trans (heap_alloc_last wr _)⟩
              go_wp2_with (first
                | (at_builtin; refine wpList_append_own_at _ rfl (.tmp 88) (.tmp 91) 22 rfl (w2.heap.size + 1) 9 s0 _ 1 16 Tryd.underlying22 si sz0 sz1 sz2 rfl (by decide) _ _ _ rfl (HX2.out.oN.alloc _) ⟨_, 0, none⟩ 1 1 [.string fs1] rfl rfl (one_newN _ (by simp [World.drewN]) _ _) (by simp [Value.oneCell']) (by unfold maxLen; omega) (by omega) (by simp [World.drewN]; omega) ?_; intro v' w4 hown' hgrow _ hloc; have HX3 := hideP (HX2.out.names hil' (congrArg Prod.fst HF.out) hown' hgrow hloc); obtain ⟨gN, capN, rfl⟩ := own_form hown'; obtain ⟨k1, k2⟩ := HUN.out w4 hgrow; obtain ⟨⟨_, _, d2, d3⟩, ⟨_, _, e2, e3⟩, hl4⟩ := res_facts k1; obtain ⟨b0, b1, b2, b3, b4, hl5⟩ := box5 k2; clear k1 k2 hown' hgrow hloc)
                | (at_builtin; refine wpList_append_own_at _ rfl (.tmp 95) (.tmp 98) 23 rfl (w2.heap.size + 1) 25 i0 _ 4 72 Tryd.underlying23 hi hz0 hz1 hz2 rfl (by decide) _ _ _ rfl (HX3.out.oK.alloc _) ⟨_, 0, none⟩ 1 1 [.int .i64 y1, .string y2, .slice y3 y4 y5, .slice y6 y7 y8] rfl rfl (cells_newN _ (by simp) _ _ _ _ _) (cells_one (y1, y2, y3, y4, y5, y6, y7, y8)) (by unfold maxLen; omega) (by omega) (by simp; omega) ?_; intro v' w5 hown' hgrow _ hloc; have HX4 := hideP (HX3.out.kids (c := (y1, y2, y3, y4, y5, y6, y7, y8)) hil' (congrArg (fun f => f.2.1) HF.out) hown' hgrow hloc); have k1 := (HX3.out.kept HX3.out.oK hgrow).1; obtain ⟨gK, capK, rfl⟩ := own_form hown'; obtain ⟨⟨_, _, p2, p3⟩, ⟨_, _, q2, q3⟩, hl6⟩ := res_facts k1; clear k1 hown' hgrow hloc))
              refine ⟨⟨i + 1 + 1, _, _, by go_num, by omega, HX4, ?_⟩, by simp [intOf]; omega⟩
              intro a h h'
              by_cases ha : a = i
              · subst ha
                rw [← HF.out, ← HF0.out]
                exact hsame
              · exact hdi.out a (by omega) h'
        · have hil : ¬ (i : Int) < (ks.length : Int) := by omega
          have hie : i = l.length := by have := HLL.out; omega
          subst hie
          have HN : Hid (normT (n + 1) (mkT 5 nm.data.toList ns ks) = some (recT (l.map pairF))) := by
            show _ = _
            rw [HNR.out]
            refine record_sorted HES.out (by have := HL.out; omega) HNV.out HPP.out (sorted_strict HSS.out fun i h => ?_)
            simp only [List.length_map] at h
            simp only [List.getElem_map, pairF]
            exact hdi.out i h h
          obtain ⟨na', nc', ka', kc', rfl, rfl, hF⟩ := hR2.out.made hsz2 h16l HLS.out (fun f hf => by
            obtain ⟨E, e1, e2⟩ := HTY.out f hf
            exact ⟨E, e1, tyF_below e2 hR2.out.bl⟩)
          have HF := hideP hF
          have HB7 : Hid (Below w.heap.size w wr) := below_next HB2.out hR2.out.bl
          have HRS7 : Hid (wr.heap[w.heap.size + 1]? = some zO) := (hR2.out.bl.block _ (lt_of_block HRS2.out)).trans HRS2.out
          obtain ⟨⟨z0, z1, z2, z3⟩, ⟨g0, g1, g2, g3⟩, hlt1⟩ := res_facts HRS7.out
          obtain ⟨uu0, uu1, uu2, uu3⟩ := (res_facts hR2.out.hx).1
          clear hF
          go_wp2_with fail
          refine bodyPost_ret (results_cell_tmp rfl _ rfl (set4 HRS7.out _ _ _ _) Tryd.underlying25 ty_size) rfl ?_
          exact an_answer HN.out (below_set4 HB7.out (by omega) _ _ _ _) (tyF_lower (tyF_keep HF.out (by rw [size_set4]; exact Nat.le_refl _) fun bb h1 _ => other_set4 (by omega) _ _ _ _) (by omega)) rfl
end Go.Proofs.YtmpcjcjacpjilaaDoor
