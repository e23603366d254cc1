/- THE STAGE'S THEOREM: a number that was put is read as it was, whatever stands behind it, and no other bytes are read as it: graduslaw01.WordBack returns true for every number of 64 bits and every two slices of bytes; the listed tables of Go's library read as its text lays them. -/
import Derived.Test.YtdlkkflenphkfabDoorReads
import Derived.Test.YtdlkkflenphkfabDoorBackV
import Derived.Deep.QuietTactic
import Derived.BigQuiet
import Derived.RegionTactic
import Derived.BigRegion
import Derived.Deep.RegionWith
import Derived.Deep.RegionHeld
namespace Go.Proofs.YtdlkkflenphkfabDoor
open Go.ChangeShapes Go.WideShapes Go.ChangeAt Go.RowKit
open Go.ChangeMaps (open_string shut_string)

/-- Get at a row that the call itself made. -/
theorem get_own {w : World} {B n : Nat} {v : Value} {l : List Int} (h : w.ownsRow B 5 1 v n (bv l)) (hn : 1 ≤ n) (hb : ∀ x ∈ l, 0 ≤ x ∧ x ≤ 255) (hlen : n ≤ 281474976710000) :
    Calls Tryd.prog 9 #[v] w fun e w' => e = .returned (gotten (getV l)) ∧ w' = w := by
  have hl : l.length = n := by
    have := h.1
    rw [bv_len] at this
    omega
  rcases h.2 with ⟨_, h0⟩ | ⟨g, cap, cur, rfl, _⟩
  · omega
  refine get_c g 0 n cap l hl hb hlen w ?_
  intro i hi
  have := h.cells (g := g) rfl i (.int .u8 (l.getD i 0)) (by simp [bv, List.getD, show i < l.length by omega])
  have hadd : (⟨g, 0, none⟩ : Addr).add i = ⟨g, 0 + i, none⟩ := by unfold Addr.add; split <;> simp_all
  rw [hadd] at this
  exact this

theorem groups_bytes : ∀ (f : Nat) (u : Int), 0 ≤ u → u < 128 ^ (f + 1) → ∀ x ∈ groups f u, 0 ≤ x ∧ x ≤ 255
  | 0, u, h0, h1, x, hx => by
    simp only [groups, List.mem_singleton] at hx
    simp only [Nat.zero_add, Int.pow_one] at h1
    omega
  | f + 1, u, h0, h1, x, hx => by
    rw [groups] at hx
    split at hx
    · simp only [List.mem_singleton] at hx
      omega
    · rcases List.mem_cons.1 hx with rfl | hx
      · omega
      · refine groups_bytes f (u / 128) (by omega) ?_ x hx
        rw [Int.pow_succ] at h1
        exact Int.ediv_lt_of_lt_mul (by decide) h1

theorem putV_bytes (n : Int) (h0 : -9223372036854775808 ≤ n) (h1 : n ≤ 9223372036854775807) : ∀ x ∈ putV n, 0 ≤ x ∧ x ≤ 255 := by
  refine groups_bytes 9 (foldV n) (foldV_lo n) ?_
  have := foldV_hi h0 h1
  have e : (128 : Int) ^ (9 + 1) = 1180591620717411303424 := by decide
  omega

theorem get_back {n : Int} {m len1 : Nat} {t1 : List Int} {B : Nat} {v : Value} {w : World} (h0 : -9223372036854775808 ≤ n) (h1 : n ≤ 9223372036854775807) (hm : m = (putV n).length) (hb1 : ∀ x ∈ t1, 0 ≤ x ∧ x ≤ 255)
    (h : w.ownsRow B 5 1 v (m + len1) (bv (putV n) ++ bv t1)) (hm1 : 1 ≤ m) (hlen : m + len1 ≤ 281474976710000) :
    Calls Tryd.prog 9 #[v] w fun e w' => e = .returned (.tuple #[.int .i64 n, .int .i64 m]) ∧ w' = w := by
  rw [← bv_append] at h
  have hg := get_own h (by omega) (fun x hx => by
    rcases List.mem_append.1 hx with hx | hx
    · exact putV_bytes n h0 h1 x hx
    · exact hb1 x hx) hlen
  rw [get_put n h0 h1 t1, gotten, unfold_fold, ← hm] at hg
  exact hg

set_option maxRecDepth 100000 in
set_option maxHeartbeats 400000 in
theorem wordBack_none (n : Int) (h0 : -9223372036854775808 ≤ n) (h1 : n ≤ 9223372036854775807) (at1 : Option Addr) (len1 cap1 : Nat) (t1 : List Int) (a2 : Option Addr) (len2 cap2 : Nat) (w : World) (htab : Tab w)
    (hl1 : t1.length = len1) (hlen1 : len1 ≤ 140737488351232) (hlen2 : len2 ≤ 140737488351232) (hb1 : ∀ x ∈ t1, 0 ≤ x ∧ x ≤ 255)
    (hn1 : at1 = none → len1 = 0 ∧ cap1 = 0) (hs1 : ∀ w', Below w.heap.size w w' → ∀ ad, at1 = some ad → ∀ j u, (bv t1)[j]? = some u → w'.cell? (ad.add j) = some u)
    (g2 : ∀ w', Below w.heap.size w w' → Calls Tryd.prog 9 #[.slice a2 len2 cap2] w' fun e w'' => e = .returned (.tuple #[.int .i64 0, .int .i64 0]) ∧ w'' = w') :
    Calls Tryd.prog 4 #[.int .i64 n, .slice at1 len1 cap1, .slice a2 len2 cap2] w fun e w' => e = .returned (.bool true) ∧ Below w.heap.size w w' := by
  obtain ⟨i0, hi, hz0, hz1, hz2⟩ := info_parts info_byte
  have HT := hideP htab
  have HL := hideP hl1
  have HB1 := hideP hb1
  have HS := hideP hs1
  have HN := hideP hn1
  have G2 := hideP g2
  clear htab hl1 hb1 hs1 g2 hn1
  obtain ⟨m, hm⟩ : ∃ m, m = (putV n).length := ⟨_, rfl⟩
  have hm1 : 1 ≤ m := by have := putV_len n; omega
  have hm2 : m ≤ 10 := by have := putV_len n; omega
  have P0 := hideP (fun w => put_nil n h0 h1 w)
  rw [← hm] at P0
  have HM := hideP hm
  clear hm
  go_enter Tryd.func4, Tryd.ntmps4
  go_wp2_with fail
  refine (awake_c _ HT.out).mono ?_
  rintro e w1 ⟨rfl, hB1⟩
  go_wp2_with fail
  refine (P0.out _).mono ?_
  rintro e w2 ⟨rfl, hown2, hB2⟩
  have hB2' : Below w.heap.size w w2 := hB1.trans (hB2.mono hB1.size)
  have hs2 := hB2'.size
  go_wp2_with (at_builtin; refine wpList_append_any _ rfl (.const (.slice none 0 0)) (.tmp 17) 22 rfl w2.heap.size 5 i0 (.int .u8 0) 1 Tryd.underlying22 hi hz0 hz1 hz2 rfl (.slice none 0 0) 0 [] rfl (World.ownsRow_nil _ _ _ _) (some ⟨w1.heap.size, 0, none⟩) m 10 (bv (putV n)) rfl ?a1 (by intro h; cases h) ?a2 (bv_one _) ?a3 ?a4 (Nat.le_refl _) ?_)
  case a1 => rw [bv_len]; exact HM.out.symm
  case a2 => intro ad h; cases h; exact hown2.cells rfl
  case a3 => unfold maxLen; omega
  case a4 => omega
  intro v3 w3 hown3 hgrow3
  have hB3 : Below w.heap.size w w3 := hB2'.grown hgrow3 hs2 (by intro k hk; cases hk)
  have hs3 := hgrow3.size
  have HO3 := hideP hown3
  clear hown3 hgrow3 hown2 hB2 hB2'
  go_wp2_with (at_builtin; refine wpList_append_any _ rfl (.tmp 18) (.tmp 19) 22 rfl w2.heap.size 5 i0 (.int .u8 0) 1 Tryd.underlying22 hi hz0 hz1 hz2 rfl v3 m (bv (putV n)) rfl HO3.out at1 len1 cap1 (bv t1) rfl ?b1 HN.out (HS.out w3 hB3) (bv_one _) ?b3 ?b4 hs3 ?_)
  case b1 => rw [bv_len]; exact HL.out
  case b3 => unfold maxLen; omega
  case b4 => omega
  intro v4 w4 hown4 hgrow4
  have hB4 : Below w.heap.size w w4 := hB3.grown hgrow4 (Nat.le_trans hs2 hs3) (by intro k hk; exact Nat.le_trans hs2 (HO3.out.lt k hk).1)
  have G1 := hideP (get_back h0 h1 HM.out HB1.out hown4 hm1 (by omega))
  clear hown4 hgrow4 hB3 hs3
  go_wp2_with fail
  refine G1.out.mono ?_
  rintro e w' ⟨rfl, hw⟩
  subst hw
  go_wp2_with fail
  refine (G2.out _ hB4).mono ?_
  rintro e w' ⟨rfl, hw⟩
  subst hw
  go_wp2
  go_region
  all_goals go_wp2
  all_goals go_ret
  all_goals exact ⟨rfl, hB4.drew⟩
/-- Put inside the last statement: what it hands back, and the bytes that were read, are one text. -/
theorem back_put {q : Int} {c b2 off2 cap2 : Nat} {S : ByteArray} {w w4 : World}
    (P1 : ∀ w, Calls Tryd.prog 11 #[.slice none 0 0, .int .i64 q] w fun e w' => e = .returned (.slice (some ⟨w.heap.size, 0, none⟩) c 10) ∧ w'.ownsRow w.heap.size 5 1 (.slice (some ⟨w.heap.size, 0, none⟩) c 10) c (bv (putV q)) ∧ Below w.heap.size w w')
    (hS : S = strOfNums (putV q)) (hq : (putV q).length = c) (hs2 : ∀ w', Below w.heap.size w w' → ∀ i, i < c → w'.cell? ⟨b2, off2 + i, none⟩ = some (.int .u8 ((putV q).getD i 0))) (hB : Below w.heap.size w w4) (W : World) (hW : W = w4.drew) :
    Calls Tryd.prog 11 #[.slice none 0 0, .int .i64 q] W fun e w' => e = .returned (.slice (some ⟨w4.heap.size, 0, none⟩) c 10) ∧
      (convert 22 9 (.slice (some ⟨w4.heap.size, 0, none⟩) c 10)).run Tryd.prog w' = .ok (.string S) w' ∧
      (convert 22 9 (.slice (some ⟨b2, off2, none⟩) c cap2)).run Tryd.prog w' = .ok (.string S) w' ∧ Below w.heap.size w w' := by
  subst hW
  refine (P1 w4.drew).mono ?_
  rintro e w' ⟨rfl, hown, hB5⟩
  have hB' : Below w.heap.size w w' := hB.drew.trans (hB5.mono hB.size)
  refine ⟨rfl, ?_, ?_, hB'⟩
  · rw [hS]
    exact conv_own hown
  · rw [hS]
    exact run_convert_bytes_arg w' 22 5 Tryd.underlying22 Tryd.underlying5 b2 off2 c cap2 (putV q) hq (hs2 _ hB') 9 Tryd.underlying9

set_option maxRecDepth 100000 in
set_option maxHeartbeats 400000 in
theorem wordBack_some (n : Int) (h0 : -9223372036854775808 ≤ n) (h1 : n ≤ 9223372036854775807) (at1 : Option Addr) (len1 cap1 : Nat) (t1 : List Int) (b2 off2 len2 cap2 : Nat) (q : Int) (c : Nat) (w : World) (htab : Tab w)
    (hl1 : t1.length = len1) (hlen1 : len1 ≤ 140737488351232) (hb1 : ∀ x ∈ t1, 0 ≤ x ∧ x ≤ 255)
    (hn1 : at1 = none → len1 = 0 ∧ cap1 = 0) (hs1 : ∀ w', Below w.heap.size w w' → ∀ ad, at1 = some ad → ∀ j u, (bv t1)[j]? = some u → w'.cell? (ad.add j) = some u)
    (hq0 : -9223372036854775808 ≤ q) (hq1 : q ≤ 9223372036854775807) (hc1 : 1 ≤ c) (hc2 : c ≤ len2) (hc3 : len2 ≤ cap2) (hqc : (putV q).length = c)
    (hs2 : ∀ w', Below w.heap.size w w' → ∀ i, i < c → w'.cell? ⟨b2, off2 + i, none⟩ = some (.int .u8 ((putV q).getD i 0)))
    (g2 : ∀ w', Below w.heap.size w w' → Calls Tryd.prog 9 #[.slice (some ⟨b2, off2, none⟩) len2 cap2] w' fun e w'' => e = .returned (.tuple #[.int .i64 q, .int .i64 c]) ∧ w'' = w') :
    Calls Tryd.prog 4 #[.int .i64 n, .slice at1 len1 cap1, .slice (some ⟨b2, off2, none⟩) len2 cap2] w fun e w' => e = .returned (.bool true) ∧ Below w.heap.size w w' := by
  obtain ⟨i0, hi, hz0, hz1, hz2⟩ := info_parts info_byte
  have HT := hideP htab
  have HL := hideP hl1
  have HB1 := hideP hb1
  have HS := hideP hs1
  have HN := hideP hn1
  have G2 := hideP g2
  have HS2 := hideP hs2
  have HQ := hideP hqc
  have hcz : ((c : Int) == 0) = false := by simp; omega
  obtain ⟨S, hS⟩ : ∃ S, S = strOfNums (putV q) := ⟨_, rfl⟩
  have HSS := hideP hS
  have P1 := hideP (fun w => put_nil q hq0 hq1 w)
  rw [hqc] at P1
  clear htab hl1 hb1 hs1 g2 hn1 hs2 hqc hS
  obtain ⟨m, hm⟩ : ∃ m, m = (putV n).length := ⟨_, rfl⟩
  have hm1 : 1 ≤ m := by have := putV_len n; omega
  have hm2 : m ≤ 10 := by have := putV_len n; omega
  have P0 := hideP (fun w => put_nil n h0 h1 w)
  rw [← hm] at P0
  have HM := hideP hm
  clear hm
  go_enter Tryd.func4, Tryd.ntmps4
  go_wp2_with fail
  refine (awake_c _ HT.out).mono ?_
  rintro e w1 ⟨rfl, hB1⟩
  go_wp2_with fail
  refine (P0.out _).mono ?_
  rintro e w2 ⟨rfl, hown2, hB2⟩
  have hB2' : Below w.heap.size w w2 := hB1.trans (hB2.mono hB1.size)
  have hsz2 := hB2'.size
  go_wp2_with (at_builtin; refine wpList_append_any _ rfl (.const (.slice none 0 0)) (.tmp 17) 22 rfl w2.heap.size 5 i0 (.int .u8 0) 1 Tryd.underlying22 hi hz0 hz1 hz2 rfl (.slice none 0 0) 0 [] rfl (World.ownsRow_nil _ _ _ _) (some ⟨w1.heap.size, 0, none⟩) m 10 (bv (putV n)) rfl ?a1 (by intro h; cases h) ?a2 (bv_one _) ?a3 ?a4 (Nat.le_refl _) ?_)
  case a1 => rw [bv_len]; exact HM.out.symm
  case a2 => intro ad h; cases h; exact hown2.cells rfl
  case a3 => unfold maxLen; omega
  case a4 => omega
  intro v3 w3 hown3 hgrow3
  have hB3 : Below w.heap.size w w3 := hB2'.grown hgrow3 hsz2 (by intro k hk; cases hk)
  have hs3 := hgrow3.size
  have HO3 := hideP hown3
  clear hown3 hgrow3 hown2 hB2 hB2'
  go_wp2_with (at_builtin; refine wpList_append_any _ rfl (.tmp 18) (.tmp 19) 22 rfl w2.heap.size 5 i0 (.int .u8 0) 1 Tryd.underlying22 hi hz0 hz1 hz2 rfl v3 m (bv (putV n)) rfl HO3.out at1 len1 cap1 (bv t1) rfl ?b1 HN.out (HS.out w3 hB3) (bv_one _) ?b3 ?b4 hs3 ?_)
  case b1 => rw [bv_len]; exact HL.out
  case b3 => unfold maxLen; omega
  case b4 => omega
  intro v4 w4 hown4 hgrow4
  have hB4 : Below w.heap.size w w4 := hB3.grown hgrow4 (Nat.le_trans hsz2 hs3) (by intro k hk; exact Nat.le_trans hsz2 (HO3.out.lt k hk).1)
  have G1 := hideP (get_back h0 h1 HM.out HB1.out hown4 hm1 (by omega))
  clear hown4 hgrow4 hB3 hs3
  go_wp2_with fail
  refine G1.out.mono ?_
  rintro e w' ⟨rfl, hw⟩
  subst hw
  go_wp2_with fail
  refine (G2.out _ hB4).mono ?_
  rintro e w' ⟨rfl, hw⟩
  subst hw
  have hcv0 : (convert 22 9 (.slice (some ⟨b2, off2, none⟩) c cap2)).run Tryd.prog w'.drew = .ok (.string S) w'.drew := by
    rw [HSS.out]
    exact run_convert_bytes_arg w'.drew 22 5 Tryd.underlying22 Tryd.underlying5 b2 off2 c cap2 (putV q) HQ.out (HS2.out _ hB4.drew) 9 Tryd.underlying9
  have hsl : ∀ W, (Instr.slice 22 (.slice (some ⟨b2, off2, none⟩) len2 cap2) none (some (.int .i64 (c : Int))) none).run Tryd.prog W = .ok (.slice (some ⟨b2, off2, none⟩) c cap2) W := by
    intro W
    have hcc : (c : Int) ≤ (cap2 : Int) := by omega
    have hc0 : ¬ cap2 = 0 := by omega
    go_simp
  have P5 := hideP (back_put (cap2 := cap2) P1.out HSS.out HQ.out HS2.out hB4 w'.drew rfl)
  clear P0 P1 G1 G2 HO3 HM HN HS HL HB1 HT hB1 hz0 hz1 hz2 hi
  go_wp2
  go_region_held (fun W => (convert 22 9 (.slice (some ⟨b2, off2, none⟩) c cap2)).run Tryd.prog W = .ok (.string S) W) (assumption) (first | (go_at_call 11; refine P5.out.mono ?_; rintro e w5 ⟨rfl, hc5, hc6, hB5⟩))
  all_goals go_wp2
  all_goals go_ret
  all_goals exact ⟨rfl, hB5⟩

theorem row_le {w : World} {a : Option Addr} {len cap : Nat} {zs : List Int} (h : IsRow w a len cap zs) : len ≤ cap ∧ cap ≤ 140737488351232 ∧ (zs.take len).length = len ∧ (a = none → len = 0 ∧ cap = 0) ∧ ∀ x ∈ zs.take len, 0 ≤ x ∧ x ≤ 255 := by
  obtain ⟨hcap, ⟨rfl, rfl, rfl, rfl⟩ | ⟨x, rfl, hl, hz, hcell, hwz⟩⟩ := h
  · exact ⟨Nat.le_refl _, hcap, rfl, fun _ => ⟨rfl, rfl⟩, by simp⟩
  · exact ⟨hl, hcap, by simp; omega, (fun h => by cases h), fun y hy => bounds_u8 (hwz y (List.mem_of_mem_take hy))⟩

theorem row_kept {w : World} {a : Option Addr} {len cap : Nat} {zs : List Int} (h : IsRow w a len cap zs) : ∀ w', Below w.heap.size w w' → ∀ ad, a = some ad → ∀ j u, (bv (zs.take len))[j]? = some u → w'.cell? (ad.add j) = some u := by
  intro w' hB ad ha j u hu
  obtain ⟨_, ⟨rfl, _⟩ | ⟨x, rfl, hl, hz, hcell, _⟩⟩ := h
  · cases ha
  cases ha
  have hj : j < len ∧ j < zs.length := by
    have := List.getElem?_eq_some_iff.1 hu
    obtain ⟨hlt, _⟩ := this
    rw [bv_len, List.length_take] at hlt
    omega
  have hc := hcell j hj.2
  have e : u = .int .u8 (zs.getD j 0) := by
    simp only [bv, List.getElem?_map, List.getElem?_take, hj.1, if_true, Option.map_eq_some_iff] at hu
    obtain ⟨y, hy, rfl⟩ := hu
    simp [List.getD, hy]
  rw [e, hB.cell (World.block_lt_of_cell? w _ hc)]
  exact hc

theorem wordBack_walk (n : Int) (a1 : Option Addr) (len1 cap1 : Nat) (z1 : List Int) (a2 : Option Addr) (len2 cap2 : Nat) (z2 : List Int) (w : World) (htab : Tab w) (wn : (Lit.int .i64 n).wf = true) (h1 : IsRow w a1 len1 cap1 z1) (h2 : IsRow w a2 len2 cap2 z2) :
    Calls Tryd.prog 4 #[.int .i64 n, .slice a1 len1 cap1, .slice a2 len2 cap2] w fun e w' => e = .returned (.bool true) ∧ Below w.heap.size w w' := by
  have hn := bounds_i64 wn
  obtain ⟨l1, c1, e1, n1, b1⟩ := row_le h1
  obtain ⟨l2, c2, e2, _, b2⟩ := row_le h2
  have k1 := row_kept h1
  rcases row_cells h2 with h0 | ⟨b, off, rfl, hb, hl, hby, hlen, hc⟩
  · exact wordBack_none n hn.1 hn.2 a1 len1 cap1 (z1.take len1) a2 len2 cap2 w htab e1 (by omega) (by omega) b1 n1 k1 (fun w' _ => get_none len2 cap2 a2 h0 w')
  have hc' : ∀ w', Below w.heap.size w w' → ∀ i, i < len2 → w'.cell? ⟨b, off + i, none⟩ = some (.int .u8 ((z2.take len2).getD i 0)) := fun w' hB i hi => (hB.cell (by exact hb)).trans (hc i hi)
  have g2 : ∀ w', Below w.heap.size w w' → Calls Tryd.prog 9 #[.slice (some ⟨b, off, none⟩) len2 cap2] w' fun e w'' => e = .returned (gotten (getV (z2.take len2))) ∧ w'' = w' := fun w' hB => get_c b off len2 cap2 _ hl hby hlen w' (hc' w' hB)
  cases hg : getV (z2.take len2) with
  | none =>
    rw [hg] at g2
    exact wordBack_none n hn.1 hn.2 a1 len1 cap1 (z1.take len1) _ len2 cap2 w htab e1 (by omega) (by omega) b1 n1 k1 g2
  | some p =>
    obtain ⟨u, c⟩ := p
    rw [hg] at g2
    obtain ⟨p1, p2, p3, p4, p5⟩ := put_get _ u c hby hg
    have p6 : (putV (unfoldV u)).length = c := by
      rw [← p5, List.length_take]
      omega
    refine wordBack_some n hn.1 hn.2 a1 len1 cap1 (z1.take len1) b off len2 cap2 (unfoldV u) c w htab e1 (by omega) b1 n1 k1 (unfoldV_lo p3 p4) (unfoldV_hi p3 p4) p1 (by omega) l2 p6 ?_ g2
    intro w' hB i hi
    rw [hc' w' hB i (by omega), ← p5]
    simp [List.getD, List.getElem?_take, hi]

set_option maxRecDepth 100000 in
theorem wordBack_lifted (os : Os) (started : os.Started) (H : Type) (enc : TypeId × Value → H) :
    ReturnsInHanded {} Tryd.checked os 4 .any (fun w args => (Rows.wordBackSpec.pre enc Tryd.prog Tryd.f4 [] false w args ∧ laidMetH Tryd.prog laidL w) ∧ sizedMet enc Tryd.prog Tryd.f4 (OpenSpec.ofChange Rows.wordBackSpec) false w args)
      (Rows.wordBackSpec.post enc Tryd.prog Tryd.f4 false true false false) := by
  refine returnsInHanded_of_change_and (C := Tryd.checked) (X := fun w _ => laidMetH Tryd.prog laidL w) (fun _ _ _ hh h => h.of_heap hh) own started (by kernel_rfl) Tryd.func4
    (ChangeSpec.witness_shaped (enc := enc) (C := Tryd.checked) (os := os) (X := fun w _ => laidMetH Tryd.prog laidL w) false (World.doorLaid Tryd.prog 24 os) #[.int .i64 0, .slice none 0 0, .slice none 0 0] 8 rfl (World.shaped_of_RefB (by kernel_rfl) (by kernel_rfl)) (by kernel_rfl) (by kernel_rfl) (by kernel_rfl) (door_met os _)) ?_
  intro W base args ds gs before hval0 hW _ hsz0 hL _
  have htab := tab_of_laid hL
  have hval : ∀ (j : Nat) t v, Tryd.f4.params[j]? = some t → args[j]? = some v → Value.okWide Tryd.prog W .any base t v := hval0
  have hW' := hW
  obtain ⟨p, q, hA0, hV, rfl, hfz, hnd⟩ := hW
  have hA : DataW.TrodAll enc Tryd.prog W 0 (fun _ => true) true Tryd.f4.params.toList args.toList ds p := hA0
  have hsz : (DataW.weightsEach Tryd.prog (Tryd.f4.params.toList ++ Rows.wordBackSpec.plain.varTypes Tryd.prog) (ds ++ gs)).all (· ≤ reachBytes) = true := hsz0
  rw [Tryd.params4] at hA hval hsz
  obtain ⟨v0, vs0, d0, ds0, p0, q0, hargs, rfl, rfl, h0, r0⟩ := trodAll_cons hA
  obtain ⟨v1, vs1, d1, ds1, p1, q1, rfl, rfl, rfl, h1, r1⟩ := trodAll_cons r0
  obtain ⟨v2, vs2, d2, ds2, p2, q2, rfl, rfl, rfl, h2, r2⟩ := trodAll_cons r1
  obtain ⟨rfl, rfl, rfl⟩ := trodAll_nil r2
  obtain rfl : args = #[v0, v1, v2] := by cases args; simp_all
  obtain ⟨rfl, rfl⟩ := trodVars_none hV
  obtain ⟨a0, rfl, rfl, rfl, w0⟩ := open_int Tryd.underlying3 (hval 0 3 v0 rfl rfl) h0
  obtain ⟨a1, len1, cap1, rfl⟩ := okWide_slice Tryd.underlying22 (hval 1 22 v1 rfl rfl)
  have k1 := h1
  have lt1 : ∀ x ∈ p1, x.block < W.heap.size := by obtain ⟨m, hm⟩ := k1; exact DataW.trod_lt m _ _ _ hm
  obtain ⟨z1, w1⟩ := row_of_trod h1 (fun es sp hd => by subst hd; exact sized_slice hsz (j := 1) (t := 22) (e := 5) rfl rfl Tryd.underlying22)
  obtain ⟨a2, len2, cap2, rfl⟩ := okWide_slice Tryd.underlying22 (hval 2 22 v2 rfl rfl)
  have k2 := h2
  have lt2 : ∀ x ∈ p2, x.block < W.heap.size := by obtain ⟨m, hm⟩ := k2; exact DataW.trod_lt m _ _ _ hm
  obtain ⟨z2, w2⟩ := row_of_trod h2 (fun es sp hd => by subst hd; exact sized_slice hsz (j := 2) (t := 22) (e := 5) rfl rfl Tryd.underlying22)
  clear hA0 hval0
  refine (wordBack_walk a0 a1 len1 cap1 z1 a2 len2 cap2 z2 W htab w0 w1 w2).mono fun e W' ⟨he, bel⟩ => ?_
  subst he
  exact ⟨_, rfl, _, _, _, [], _, [], hW', trodAll_mk1 (shut_bool Tryd.underlying4 _), (trodAll_cons_mk (shut_int Tryd.underlying3 w0) (trodAll_cons_mk (Below.trod laidOut (by kernel_rfl) (of_decide_eq_true (by kernel_rfl)) k1 bel lt1) (trodAll_cons_mk (Below.trod laidOut (by kernel_rfl) (of_decide_eq_true (by kernel_rfl)) k2 bel lt2) trodAll_mk0))), rfl, bel.frame _, fun h => by cases h⟩

theorem wordBack_over : Rows.WordBackSaid :=
  OpenClaim.holds_of_wide 4 Tryd.f4 rfl rfl rfl rfl rfl rfl rfl ⟨rfl, rfl, rfl, rfl, rfl⟩ rfl rfl rfl rfl rfl (by kernel_rfl) Tryd.func4 (by kernel_rfl)
    (of_decide_eq_true (by kernel_rfl)) (by unfold Func.isWrapper; rw [if_neg (of_decide_eq_false (by kernel_rfl))]; exact ⟨rfl, rfl⟩)
    (fun os started H enc _ => wordBack_lifted os started H enc)

theorem wordBack_card : Rows.WordBackCardSaid :=
  Claim7.holds_tied_plain_at .later [] [.data, .data, .data] true Rows.wordBackCard.stood.harness false
    wordBack_over (fun _ h => by cases h) (by kernel_rfl) (fun _ h => by cases h) wordBack_row_tie rfl ⟨rfl, rfl⟩ (by kernel_rfl) (by kernel_rfl)
    (fun f fn hf hfn => by
      obtain rfl : f = 4 := Option.some.inj ((show Tryd.prog.funcNamed Rows.wordBackRow.func = some 4 by kernel_rfl).symm.trans hf) |>.symm
      obtain rfl : fn = Tryd.f4 := (Option.some.inj (Tryd.func4.symm.trans hfn)).symm
      exact ⟨by kernel_rfl, fun j t ht => by
        rw [Tryd.params4] at ht
        have hm : t ∈ [3, 22, 22] := by simpa using Array.mem_of_getElem? ht
        have hall : ([3, 22, 22].all fun u => !Tryd.prog.wantsStandIn u) = true := by kernel_rfl
        exact (show Tryd.prog.wantsStandIn t = false by simpa using List.all_eq_true.1 hall t hm)⟩)
    (by kernel_rfl)
end Go.Proofs.YtdlkkflenphkfabDoor
