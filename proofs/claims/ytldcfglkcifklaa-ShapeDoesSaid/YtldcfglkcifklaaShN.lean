/- The program's tree: Len, has, Slot. -/
import Derived.Test.YtldcfglkcifklaaShQ
import Derived.Test.YtldcfglkcifklaaShA
namespace Go.Proofs.Ytldcfglkcifklaa
open Go.RowKit

def TreeT (B : Nat) (F : Nat → Prop) (w : World) (t : Nat) (T : List (List ByteArray)) : Prop := ∃ (ro : Nat → Nat) (k nb mb : Nat) (vl vs : Value) (xs : List Value) (NL : List ByteArray) (M : Num), KT B F ro w t k nb mb vl vs xs NL M T ∧ KeptOk NL M T ∧ NL.length < T.length
section
variable {B t : Nat} {F S : Nat → Prop} {w w' : World} {T : List (List ByteArray)}
theorem TreeT.ch (h : TreeT B F w t T) (hc : Ch S w w') (hs : ∀ b, F b → ¬ S b) : TreeT B F w' t T := by
  obtain ⟨ro, k, nb, mb, vl, vs, xs, NL, M, h1, h2⟩ := h
  exact ⟨ro, k, nb, mb, vl, vs, xs, NL, M, h1.ch hc hs, h2⟩
theorem TreeT.lt (h : TreeT B F w t T) : ∀ b, F b → B ≤ b ∧ b < w.heap.size := by
  obtain ⟨ro, k, nb, mb, vl, vs, xs, NL, M, h1, h2⟩ := h
  exact h1.low
theorem TreeT.base {B' : Nat} (h : TreeT B F w t T) (hB : B' ≤ B) : TreeT B' F w t T := by
  obtain ⟨ro, k, nb, mb, vl, vs, xs, NL, M, h1, h2⟩ := h
  have hr : ∀ {et n : Nat} {sz : Nat} {v : Value} {ys : List Value}, w.ownsRow B et sz v n ys → w.ownsRow B' et sz v n ys := fun h => ⟨h.1, h.2.imp_right fun ⟨g, cap, cur, e, hg, r⟩ => ⟨g, cap, cur, e, Nat.le_trans hB hg, r⟩⟩
  exact ⟨ro, k, nb, mb, vl, vs, xs, NL, M, ⟨h1.tb, h1.kb, h1.nm, hr h1.ls, hr h1.sh, h1.md, h1.rows, h1.rt, h1.rk, h1.rn, h1.rl, h1.rs, h1.rm, fun b hb => ⟨Nat.le_trans hB (h1.low b hb).1, (h1.low b hb).2⟩⟩, h2⟩
end
abbrev noB : Nat → Prop := fun _ => False
def namesV (T : List (List ByteArray)) (s : Int) : List ByteArray := if s < 0 ∨ (T.length : Int) ≤ s then [] else atV T s
/-- A tree as the walks see it. -/
theorem KT.look {B t k nb mb : Nat} {F : Nat → Prop} {ro : Nat → Nat} {w : World} {vl vs : Value} {xs : List Value} {NL : List ByteArray} {M : Num} {T : List (List ByteArray)} (h : KT B F ro w t k nb mb vl vs xs NL M T) : ∃ al cl g cs, vl = .slice al NL.length cl ∧ (0 < T.length → vs = .slice (some ⟨g, 0, none⟩) T.length cs ∧ ∀ j, j < T.length * 4 → w.cell? ⟨g, j, none⟩ = xs[j]?) := by
  obtain ⟨al, cl, rfl⟩ := row_shape h.ls
  have hh := h.sh
  rcases h.sh.2 with ⟨rfl, h0⟩ | ⟨g, cap, cur, rfl, _⟩
  · exact ⟨al, cl, 0, 0, rfl, fun hp => by omega⟩
  · exact ⟨al, cl, g, cap, rfl, fun _ => ⟨rfl, fun j hj => hh.cellAt j hj⟩⟩
set_option maxHeartbeats 4000000 in
theorem slen0_c (t k n : Nat) (w : World) (ao : Option Addr) (cap : Nat) (h1 : w.cell? ⟨t, 0, none⟩ = some (.pointer (some ⟨k, 0, none⟩))) (h2 : w.cell? ⟨k, 2, none⟩ = some (.slice ao n cap)) :
    Calls Try.prog 14 #[.pointer (some ⟨t, 0, none⟩)] w fun e w' => e = .returned (.int .i64 n) ∧ w' = w := by
  go_enter Try.func14, Try.ntmps14
  go_wp2_with fail
  go_ret
  exact ⟨rfl, rfl⟩
set_option maxHeartbeats 4000000 in
theorem has_c (t k n : Nat) (s : Int) (w : World) (ao : Option Addr) (cap : Nat) (h1 : w.cell? ⟨t, 0, none⟩ = some (.pointer (some ⟨k, 0, none⟩))) (h2 : w.cell? ⟨k, 2, none⟩ = some (.slice ao n cap)) :
    Calls Try.prog 19 #[.pointer (some ⟨t, 0, none⟩), .int .i64 s] w fun e w' => e = .returned (.bool (decide (0 ≤ s ∧ s < n))) ∧ w' = w := by
  have HL := hideP (slen0_c t k n w ao cap h1 h2)
  by_cases hs : 0 ≤ s
  · by_cases hl : s < n
    · rw [decide_eq_true ⟨hs, hl⟩]
      go_enter Try.func19, Try.ntmps19
      go_wp2_with fail
      refine HL.out.mono ?_
      rintro e w' ⟨rfl, rfl⟩
      go_wp2_with fail
      go_ret
      exact ⟨rfl, rfl⟩
    · rw [decide_eq_false (fun h => hl h.2)]
      have hd : decide (s < (n : Int)) = false := decide_eq_false hl
      go_enter Try.func19, Try.ntmps19
      go_wp2_with fail
      refine HL.out.mono ?_
      rintro e w' ⟨rfl, rfl⟩
      go_wp2_with fail
      go_ret
      exact ⟨by simp, rfl⟩
  · rw [decide_eq_false (fun h => hs h.1)]
    go_enter Try.func19, Try.ntmps19
    go_wp2_with fail
    go_ret
    exact ⟨rfl, rfl⟩
theorem slen_c (B t : Nat) (F : Nat → Prop) (T : List (List ByteArray)) (w : World) (h : TreeT B F w t T) :
    Calls Try.prog 14 #[.pointer (some ⟨t, 0, none⟩)] w fun e w' => e = .returned (.int .i64 T.length) ∧ Ch noB w w' := by
  obtain ⟨ro, k, nb, mb, vl, vs, xs, NL, M, h1, h2⟩ := h
  obtain ⟨a5, cs, rfl⟩ := row_shape h1.sh
  refine (slen0_c t k T.length w a5 cs (box1 h1.tb).1 (box4 h1.kb).1.2.2.1).mono ?_
  rintro e w' ⟨rfl, rfl⟩
  exact ⟨rfl, Ch.refl _ _⟩
theorem slotR_of {T : List (List ByteArray)} {j : Nat} {x : ByteArray} (hj : j < T.length) : slotR T j x = atR (slotV T[j] x) := by
  unfold slotR
  rw [if_neg (by omega), atV_nat hj]
  cases slotV T[j] x <;> rfl
set_option maxRecDepth 100000 in
set_option maxHeartbeats 4000000 in
theorem sslot_c (B t : Nat) (F : Nat → Prop) (T : List (List ByteArray)) (s : Int) (x : ByteArray) (w : World) (h : TreeT B F w t T) (hg : GoodT T) (hs0 : -9223372036854775808 ≤ s) (hs1 : s ≤ 9223372036854775807) (hT : T.length ≤ 1000000) (hx : x.size ≤ 140737488351232) :
    Calls Try.prog 17 #[.pointer (some ⟨t, 0, none⟩), .int .i64 s, .string x] w fun e w' => e = .returned (slotR T s x) ∧ Ch noB w w' := by
  obtain ⟨ro, k, nb, mb, vl, vs, xs, NL, M, H1, hok, hNL⟩ := h
  have H := hideP H1
  have HO := hideP hok
  obtain ⟨al, cl, g, cs, rfl, hvs⟩ := H1.look
  obtain ⟨rfl, hcells⟩ := hvs hg.pos
  have hb1 := (box1 H1.tb).1
  obtain ⟨⟨c0, c1, c2, c3⟩, _, _⟩ := box4 H1.kb
  have HH := hideP (has_c t k T.length s w _ _ hb1 c2)
  have HCE := hideP hcells
  clear hvs hcells hok H1
  by_cases hin : 0 ≤ s ∧ s < T.length
  · obtain ⟨j, rfl⟩ := Int.eq_ofNat_of_zero_le hin.1
    have hj : j < T.length := by omega
    have hj0 : (0 : Int) ≤ (j : Int) := by omega
    have hjl : (j : Int) < (T.length : Int) := by omega
    rw [decide_eq_true hin] at HH
    rw [slotR_of hj]
    obtain ⟨r, hr⟩ : ∃ r, r = slotV T[j] x := ⟨_, rfl⟩
    rw [← hr]
    have HR := hideP hr
    clear hr
    have hlook := H.out.nm.look (S := x) (by unfold maxLen; omega)
    cases hsx : slotV NL x with
    | some n =>
      rw [hsx] at hlook
      obtain ⟨hnl, hnx⟩ := slotV_lt hsx
      obtain ⟨A, la, pl, La, e0, e1, e2, e3, _, _, _, _, hp⟩ := H.out.rows j hj
      rw [getD_at hj] at hp
      have hc3 : w.cell? ⟨g, j * 4 + 3, none⟩ = some pl := (HCE.out _ (by omega)).trans e3
      obtain ⟨dd, _, hp⟩ := hp.ex
      have HA := hideP (at_c _ dd pl _ n w hp (by omega))
      rw [placeOf_at hnl, hnx, ← HR.out] at HA
      have HL := hideP hlook
      clear hlook hsx hnl hnx e0 e1 e2 e3 hp hin
      go_enter Try.func17, Try.ntmps17
      go_wp2_with fail
      refine HH.out.mono ?_
      rintro e w' ⟨rfl, rfl⟩
      go_wp2_with (at_lookup; refine wpList_lookK rfl (.tmp 22) (.tmp 23) _ rfl nb _ _ rfl rfl HL.out ?_)
      refine HA.out.mono ?_
      rintro e w' ⟨rfl, rfl⟩
      clear HA HR
      unfold atR
      go_wp2_with fail
      go_ret2
      exact ⟨rfl, Ch.refl _ _⟩
    | none =>
      rw [hsx] at hlook
      have hni : x ∉ NL := slotV_no.1 (by rw [hsx]; rfl)
      have hnj : slotV T[j] x = none := slotV_notin fun h => hni (HO.out.all _ (List.getElem_mem hj) x h)
      obtain rfl : r = none := HR.out.trans hnj
      have HL := hideP hlook
      clear hlook hsx hni hnj hin
      go_enter Try.func17, Try.ntmps17
      go_wp2_with fail
      refine HH.out.mono ?_
      rintro e w' ⟨rfl, rfl⟩
      go_wp2_with (at_lookup; refine wpList_lookK rfl (.tmp 22) (.tmp 23) _ rfl nb _ _ rfl rfl HL.out ?_)
      go_ret2
      exact ⟨rfl, Ch.refl _ _⟩
  · rw [decide_eq_false hin] at HH
    have e : slotR T s x = .tuple #[.int .i64 0, .bool false] := by unfold slotR; rw [if_pos (by omega)]
    rw [e]
    clear e hin
    go_enter Try.func17, Try.ntmps17
    go_wp2_with fail
    refine HH.out.mono ?_
    rintro e w' ⟨rfl, rfl⟩
    go_wp2_with fail
    go_ret2
    exact ⟨rfl, Ch.refl _ _⟩
end Go.Proofs.Ytldcfglkcifklaa
