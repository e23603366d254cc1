/- graduslaw16.named, slots. -/
import Derived.Test.YtcpmdbdppdnkkaaHpB
namespace Go.Proofs.Ytcpmdbdppdnkkaa
open Go.RowKit

theorem named_b (refs : List Int) (L : Wd) (k : Int) : namedR refs L k = if isB L k = true then refs.getD k.toNat (-1) else -1 := rfl
set_option maxRecDepth 100000 in
set_option maxHeartbeats 4000000 in
theorem named_c (B r : Nat) (F FR : Nat → Prop) (cells : Int) (L : Wd) (refs : List Int) (a : Option Addr) (n c : Nat) (k : Int) (w : World) (h : WorldT B F w r cells L) (hv : IntV FR w (.slice a n c) refs) (hl : refs.length = L.length) (hk1 : k ≤ 9223372036854775807) :
    Calls Try.prog 11 #[.slice a n c, .pointer (some ⟨r, 0, none⟩), .int .i64 k] w fun e w' => e = .returned (.int .i64 (namedR refs L k)) ∧ w' = w := by
  obtain ⟨a', c', e, hk⟩ := hv.form
  injection e with e1 e2 e3
  subst e1 e2 e3
  have HIS := hideP (is_c B r F cells L k w h hk1)
  have HK := hideP hk
  obtain ⟨R, hR⟩ : ∃ R, R = namedR refs L k := ⟨_, rfl⟩
  rw [← hR]
  have HR := hideP hR
  clear h hv hk hR
  cases hb : isB L k with
  | false =>
    have hRe : R = -1 := by rw [HR.out, named_b, hb]; rfl
    subst hRe
    rw [hb] at HIS
    go_enter Try.func11, Try.ntmps11
    go_wp2_with fail
    refine HIS.out.mono ?_
    rintro e w ⟨rfl, rfl⟩
    go_wp2_with fail
    go_ret
    exact ⟨rfl, rfl⟩
  | true =>
    have hL := isL_lt (isB_iff.1 hb)
    obtain ⟨j, rfl⟩ := Int.eq_ofNat_of_zero_le hL.1
    have hj : j < refs.length := by omega
    have hjl : (j : Int) < (refs.length : Int) := by omega
    have hj0 : (0 : Int) ≤ (j : Int) := hL.1
    have hRe : R = refs[j] := by rw [HR.out, named_b, hb, if_pos rfl, Int.toNat_natCast, getD_at hj]
    obtain ⟨b, o, rfl, _, _, hcell⟩ := HK.out j hj
    rw [← hRe] at hcell
    rw [hb] at HIS
    clear HR hRe HK
    go_enter Try.func11, Try.ntmps11
    go_wp2_with fail
    refine HIS.out.mono ?_
    rintro e w ⟨rfl, rfl⟩
    go_wp2_with fail
    go_ret
    exact ⟨rfl, rfl⟩
set_option maxRecDepth 100000 in
set_option maxHeartbeats 4000000 in
theorem slots_c (B r : Nat) (F FR FA : Nat → Prop) (cells : Int) (L : Wd) (refs : List Int) (a : Option Addr) (n c : Nat) (a2 : Option Addr) (n2 c2 : Nat) (l : List SlotV) (w : World) (h : WorldT B F w r cells L) (hv : IntV FR w (.slice a n c) refs) (hl : refs.length = L.length) (hs : SltV FA w (.slice a2 n2 c2) l) (hok : okSlots l) (hl1 : l.length ≤ 1000000) :
    Calls Try.prog 15 #[.slice a n c, .pointer (some ⟨r, 0, none⟩), .slice a2 n2 c2] w fun e w' => ∃ v, e = .returned v ∧ w'.ownsRow w.heap.size 47 2 v l.length ((l.map (mapS refs L)).flatMap sltC) ∧ Ch noB w w' := by
  obtain ⟨a2', c2', e, _⟩ := hs.form
  injection e with e1 e2 e3
  subst e1 e2 e3
  obtain ⟨i0, hi, hz0, hz1, hz2⟩ := info_parts info_slot
  have HS := hideP hs
  have HOK := hideP hok
  have HNM : Hid (∀ W k, Ch noB w W → k ≤ 9223372036854775807 → Calls Try.prog 11 #[.slice a n c, .pointer (some ⟨r, 0, none⟩), .int .i64 k] W fun e w' => e = .returned (.int .i64 (namedR refs L k)) ∧ w' = W) := fun W k hW hk => named_c B r F FR cells L refs a n c k W (h.ch hW fun _ _ h => h) (hv.ch hW fun _ _ _ h => h) hl hk
  clear h hv hs hok hl
  go_enter Try.func15, Try.ntmps15
  go_wp2_with fail
  go_loopw [7, 8] (fun v i wx => ∃ (j : Nat) (a3 : Option Addr) (c3 : Nat), i = .int .i64 j ∧ j ≤ l.length ∧ v = .slice a3 j c3 ∧ Hid (wx.ownsRow w.heap.size 47 2 (.slice a3 j c3) j (((l.take j).map (mapS refs L)).flatMap sltC)) ∧ Hid (Ch noB w wx)) (fun _ i _ => l.length - (intOf i).toNat)
  case atStart => exact ⟨0, none, 0, rfl, Nat.zero_le _, rfl, World.ownsRow_nil _ _ _ _, Ch.refl _ _⟩
  case round =>
    obtain ⟨j, a3, c3, rfl, hj, rfl, HY, HC⟩ := hrel
    by_cases hlt : j < l.length
    · have hjl : (j : Int) < (l.length : Int) := by omega
      have hjz : (0 : Int) ≤ (j : Int) := by omega
      obtain ⟨a4, c4, e, _, _, hk⟩ := (HS.out.ch HC.out fun _ _ _ h => h).form
      injection e with e1 _ e2
      subst e1 e2
      obtain ⟨b2, o2, rfl, hb2, _, x1, x2⟩ := hk j hlt
      have htk : (l.take (j + 1)).map (mapS refs L) = (l.take j).map (mapS refs L) ++ [mapS refs L l[j]] := by rw [List.take_succ_eq_append_getElem hlt, List.map_append]; rfl
      obtain ⟨s, hs⟩ : ∃ s, s = l[j] := ⟨_, rfl⟩
      have hsb := HOK.out s (hs ▸ List.getElem_mem hlt)
      rw [← hs] at x1 x2 htk
      have HTK := hideP htk
      clear hk hs htk
      have hbw : w.heap.size ≤ wr.heap.size := HC.out.size
      obtain ⟨sr, sn⟩ := s
      cases sr with
      | true =>
        have hms : mapS refs L ⟨true, sn⟩ = ⟨true, namedR refs L sn⟩ := rfl
        have HMS := hideP hms
        obtain ⟨x, hx⟩ : ∃ x, x = namedR refs L sn := ⟨_, rfl⟩
        have HN1 : Hid (∀ o, Calls Try.prog 11 #[.slice a n c, .pointer (some ⟨r, 0, none⟩), .int .i64 sn] (wr.alloc o) fun e w' => e = .returned (.int .i64 x) ∧ w' = wr.alloc o) := fun o => by
          rw [hx]
          exact HNM.out _ sn (HC.out.alloc o) hsb.2
        rw [← hx] at HMS
        clear hms hx
        go_wp2_with fail
        refine (HN1.out _).mono ?_
        rintro e w4 ⟨rfl, rfl⟩
        go_wp2_with (at_builtin; refine wpList_append_own_at _ rfl (.tmp 28) (.tmp 30) 32 rfl w.heap.size 47 i0 _ 2 16 Try.underlying32 hi hz0 hz1 hz2 rfl (by decide) _ j _ rfl ((HY.out.alloc _).alloc _) ⟨_, 0, none⟩ 1 1 [.bool true, .int .i64 x] rfl rfl (cells_newS _ _ (World.size_alloc _ _) _ _) (by simp [Value.oneCell']) (by unfold maxLen; omega) (by omega) (by rw [World.size_alloc, World.size_alloc]; omega) ?_)
        intro v3 w3 hown3 hgr3 _ _
        obtain ⟨a5, c5, rfl⟩ := row_shape hown3
        have HC3 : Hid (Ch noB w w3) := ((HC.out.alloc _).alloc _).grown hgr3 fun q hq hlt => by have := (HY.out.lt q hq).1; omega
        have HY3 : Hid (w3.ownsRow w.heap.size 47 2 (.slice a5 (j + 1) c5) (j + 1) (((l.take (j + 1)).map (mapS refs L)).flatMap sltC)) := by
          rw [HTK.out, HMS.out, List.flatMap_append, List.map_take]
          exact hown3
        clear hown3 hgr3 HY HC HN1 HTK HMS
        go_wp2_with fail
        exact ⟨⟨j + 1, a5, c5, by go_num, by omega, rfl, HY3.out, HC3.out⟩, by simp [intOf]; omega⟩
      | false =>
        have HMS : Hid (mapS refs L ⟨false, sn⟩ = ⟨false, sn⟩) := rfl
        go_wp2_with (at_builtin; refine wpList_append_own_at _ rfl (.tmp 28) (.tmp 30) 32 rfl w.heap.size 47 i0 _ 2 16 Try.underlying32 hi hz0 hz1 hz2 rfl (by decide) _ j _ rfl ((HY.out.alloc _).alloc _) ⟨_, 0, none⟩ 1 1 [.bool false, .int .i64 sn] rfl rfl (cells_newS _ _ (World.size_alloc _ _) _ _) (by simp [Value.oneCell']) (by unfold maxLen; omega) (by omega) (by rw [World.size_alloc, World.size_alloc]; omega) ?_)
        intro v3 w3 hown3 hgr3 _ _
        obtain ⟨a5, c5, rfl⟩ := row_shape hown3
        have HC3 : Hid (Ch noB w w3) := ((HC.out.alloc _).alloc _).grown hgr3 fun q hq hlt => by have := (HY.out.lt q hq).1; omega
        have HY3 : Hid (w3.ownsRow w.heap.size 47 2 (.slice a5 (j + 1) c5) (j + 1) (((l.take (j + 1)).map (mapS refs L)).flatMap sltC)) := by
          rw [HTK.out, HMS.out, List.flatMap_append, List.map_take]
          exact hown3
        clear hown3 hgr3 HY HC HTK HMS
        go_wp2_with fail
        exact ⟨⟨j + 1, a5, c5, by go_num, by omega, rfl, HY3.out, HC3.out⟩, by simp [intOf]; omega⟩
    · have hjl : ¬ (j : Int) < (l.length : Int) := by omega
      obtain rfl : j = l.length := by omega
      rw [List.take_length] at HY
      go_wp2_with fail
      go_ret
      exact ⟨_, rfl, HY.out, HC.out⟩
end Go.Proofs.Ytcpmdbdppdnkkaa
