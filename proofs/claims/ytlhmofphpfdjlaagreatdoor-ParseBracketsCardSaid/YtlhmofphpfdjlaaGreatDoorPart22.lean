/- Part. -/
import Derived.Test.YtlhmofphpfdjlaaGreatDoorPart21
set_option maxRecDepth 100000
set_option maxHeartbeats 4000000
/- The predicates of bytes of package lex, and the row of bytes that belong, each by a contract. -/
namespace Go.Proofs.YtlhmofphpfdjlaaGreatDoor.Lx
open Go.Proofs.Tryz
open Go.RowKit
theorem hideP {p : Prop} (h : p) : Hid p := h
theorem ret_bool {x y : Bool} (h : x = y) : Ending.returned (.bool x) = .returned (.bool y) := by rw [h]
theorem startsName_c (b : UInt8) (w : World) : Calls prog 86 #[.int .u8 b.toNat] w fun e w' => e = .returned (.bool (isLet b)) /\ w' = w := by
  have hways : (b.toNat < 65) ∨ (65 <= b.toNat /\ b.toNat <= 90) ∨ (90 < b.toNat /\ b.toNat < 95) ∨ b.toNat = 95 ∨ b.toNat = 96 ∨ (97 <= b.toNat /\ b.toNat <= 122) ∨ 122 < b.toNat := by omega
  unfold isLet
  generalize b.toNat = n at hways ⊢
  rcases hways with h | ⟨h1, h2⟩ | ⟨h1, h2⟩ | rfl | rfl | ⟨h1, h2⟩ | h
  · have e : ((n : Int) == 95) = false := by simp; omega
    go_enter func86, ntmps86
    go_wp2
    go_ret
    exact ⟨ret_bool (by first | rfl | (simp; done) | (simp; omega) | (rw [Bool.eq_iff_iff]; simp; omega)), rfl⟩
  · go_enter func86, ntmps86
    go_wp2
    go_ret
    exact ⟨ret_bool (by first | rfl | (simp; done) | (simp; omega) | (rw [Bool.eq_iff_iff]; simp; omega)), rfl⟩
  · have e : ((n : Int) == 95) = false := by simp; omega
    go_enter func86, ntmps86
    go_wp2
    go_ret
    exact ⟨ret_bool (by first | rfl | (simp; done) | (simp; omega) | (rw [Bool.eq_iff_iff]; simp; omega)), rfl⟩
  · go_enter func86, ntmps86
    go_wp2
    go_ret
    exact ⟨rfl, rfl⟩
  · go_enter func86, ntmps86
    go_wp2
    go_ret
    exact ⟨rfl, rfl⟩
  · go_enter func86, ntmps86
    go_wp2
    go_ret
    exact ⟨ret_bool (by first | rfl | (simp; done) | (simp; omega) | (rw [Bool.eq_iff_iff]; simp; omega)), rfl⟩
  · have e : ((n : Int) == 95) = false := by simp; omega
    go_enter func86, ntmps86
    go_wp2
    go_ret
    exact ⟨ret_bool (by first | rfl | (simp; done) | (simp; omega) | (rw [Bool.eq_iff_iff]; simp; omega)), rfl⟩
theorem isDigit_c (b : UInt8) (w : World) : Calls prog 90 #[.int .u8 b.toNat] w fun e w' => e = .returned (.bool (isDig b)) /\ w' = w := by
  have hways : (b.toNat < 48) ∨ (48 <= b.toNat /\ b.toNat <= 57) ∨ 57 < b.toNat := by omega
  unfold isDig
  generalize b.toNat = n at hways ⊢
  rcases hways with h | ⟨h1, h2⟩ | h
  all_goals
    go_enter func90, ntmps90
    go_wp2
    go_ret
    exact ⟨ret_bool (by first | rfl | (simp; done) | (simp; omega) | (rw [Bool.eq_iff_iff]; simp; omega)), rfl⟩
theorem inName_c (b : UInt8) (w : World) : Calls prog 88 #[.int .u8 b.toNat] w fun e w' => e = .returned (.bool (inNm b)) /\ w' = w := by
  have s := startsName_c b
  have d := isDigit_c b
  unfold inNm
  cases h1 : isLet b
  · rw [h1] at s
    have S := hideP s
    have D := hideP d
    clear h1 s d
    go_enter func88, ntmps88
    go_wp2_with fail
    refine (S.out _).mono ?_
    rintro e w' ⟨rfl, rfl⟩
    go_wp2_with fail
    refine (D.out _).mono ?_
    rintro e w' ⟨rfl, rfl⟩
    go_wp2
    go_ret
    exact ⟨rfl, rfl⟩
  · rw [h1] at s
    have S := hideP s
    clear h1 s d
    go_enter func88, ntmps88
    go_wp2_with fail
    refine (S.out _).mono ?_
    rintro e w' ⟨rfl, rfl⟩
    go_wp2
    go_ret
    exact ⟨rfl, rfl⟩
theorem notLf_c (b : UInt8) (w : World) : Calls prog 85 #[.int .u8 b.toNat] w fun e w' => e = .returned (.bool (notLf b)) /\ w' = w := by
  unfold notLf
  generalize b.toNat = n
  by_cases h : n = 10
  · subst h
    go_enter func85, ntmps85
    go_wp2
    go_ret
    exact ⟨rfl, rfl⟩
  · have e : ((n : Int) == 10) = false := by simp; omega
    go_enter func85, ntmps85
    go_wp2
    go_ret
    exact ⟨ret_bool (by simp [h]; omega), rfl⟩
end Go.Proofs.YtlhmofphpfdjlaaGreatDoor.Lx
/- word.Parse by a contract: the number that the text says, and true, or 0 and false; the world is as it was. -/
namespace Go.Proofs.YtlhmofphpfdjlaaGreatDoor.Lx
open Go.Proofs.Tryz
open Go.RowKit
theorem parse_c (s : ByteArray) (hs : s.size <= 9223372036854775807) (w : World) : Calls prog 91 #[.string s] w fun e w' => e = .returned (parsed (parseV s.data.toList)) /\ w' = w := by
  by_cases hz : s.size = 0
  · have he : s.toList.isEmpty = true := by rw [toList_isEmpty]; simp [hz]
    rw [parseV_empty hz]
    go_enter func91, ntmps91
    go_wp2
    go_ret2
    exact ⟨rfl, rfl⟩
  have h0 : 0 < s.size := by omega
  have he : s.toList.isEmpty = false := by rw [toList_isEmpty]; simp [hz]
  by_cases hn : (s[0].toNat : Int) = 48 /\ 1 < s.size
  · rw [parseV_nought h0 hn.1 hn.2]
    obtain ⟨hn1, hn2⟩ := hn
    go_enter func91, ntmps91
    go_wp2
    go_ret2
    exact ⟨rfl, rfl⟩
  rw [parseV_go h0 hn]
  have hd : ((s[0].toNat : Int) = 48 /\ s.size <= 1) ∨ ¬ (s[0].toNat : Int) = 48 := by omega
  clear hn hz
  rcases hd with ⟨hd, hd1⟩ | hd
  all_goals
    go_enter func91, ntmps91
    go_wp2
    go_loop [4, 21] (fun n i => ∃ (k : Nat) (m : Int), k <= s.size /\ i = .int .i64 k /\ n = .int .i64 m /\ 0 <= m /\ m <= 9223372036854775807 /\ parseGo s.data.toList 0 = parseGo (s.data.toList.drop k) m) (fun _ i => s.size - (intOf i).toNat)
    case atStart => exact ⟨0, 0, Nat.zero_le _, rfl, rfl, by omega, by omega, rfl⟩
    case round =>
      obtain ⟨k, m, hk, rfl, rfl, hm0, hm1, hgo⟩ := hrel
      have HG : Hid (parseGo s.data.toList 0 = parseGo (s.data.toList.drop k) m) := hgo
      clear hgo
      by_cases hkl : k < s.size
      · by_cases b1 : (s[k].toNat : Int) < 48
        · go_wp2
          go_ret2
          rw [HG.out, parseGo_bad hkl m (Or.inl b1)]
          exact ⟨rfl, rfl⟩
        by_cases b2 : 57 < (s[k].toNat : Int)
        · go_wp2
          go_ret2
          rw [HG.out, parseGo_bad hkl m (Or.inr b2)]
          exact ⟨rfl, rfl⟩
        by_cases b3 : (9223372036854775807 - ((s[k].toNat : Int) - 48)) / 10 < m
        · go_wp2
          go_ret2
          rw [HG.out, parseGo_over hkl m (by omega) b3]
          exact ⟨rfl, rfl⟩
        · go_wp2
          go_round
          case rel => exact ⟨k + 1, m * 10 + ((s[k].toNat : Int) - 48), by omega, by go_num, rfl, by omega, by omega, HG.out.trans (parseGo_on hkl m (by omega) b3)⟩
          case measure => simp [intOf]; omega
      · go_wp2
        go_ret2
        rw [HG.out, parseGo_end hkl m]
        exact ⟨rfl, rfl⟩
end Go.Proofs.YtlhmofphpfdjlaaGreatDoor.Lx
/- What is told by its kind; tags. -/
namespace Go.Proofs.YtlhmofphpfdjlaaGreatDoor
open Go.Proofs.Tryz
open Go.RowKit
attribute [local go_sem ↓] Go.wp_at_zero Go.wp_at_succ
theorem spelt_num (pb tb cap d : Nat) (ts : List Tok)  (ok : ToksOk ts) (a : Nat) (hk : (tkA ts a).kind = 3) (w : World) (h : Ps w pb tb cap ts a d) :
    Calls prog 150 #[.pointer (some ⟨pb, 0, none⟩)] w (PPost pb tb cap ts d w NdE (.inl (mkE 0 [] ((parseV (tkA ts a).text).getD 0) (tkA ts a).line (tkA ts a).col [] [] [], a + 1))) := by
  have H := hideP h
  have OK := hideP ok
  have hp := h.ltp
  have HN := hideP (ok.ends a h.lt (by rw [hk]; decide))
  have HPa := hideP (fun w h => pass_c pb tb cap a d ts w h HN.out ok.len)
  have HPk := hideP (fun w h => peek_c pb tb cap a d ts w h)
  have HTx := hideP (ok.txt a)
  obtain ⟨t, ht⟩ : ∃ t, t = tkA ts a := ⟨_, rfl⟩
  rw [<- ht] at HPk HPa HTx hk ⊢
  clear ht
  obtain ⟨kd, tx, tl, tc⟩ := t
  obtain rfl : kd = 3 := hk
  have C0 := hideP (ctx_init h zNV.obj)
  obtain ⟨R, hR⟩ : ∃ R : Pr Ty, R = (.inl (mkE 0 [] ((parseV tx).getD 0) tl tc [] [] [], a + 1)) := ⟨_, rfl⟩
  rw [<- hR]
  have HR0 := hideP hR
  clear h ok hR
  go_enter func150, ntmps150
  go_wp2_with fail
  refine (HPk.out _ C0.out.ps).mono ?_
  rintro e w1 ⟨rfl, hb⟩
  have C1 := hideP (C0.out.below hb)
  have C2 := hideP (C1.out.alloc (TOKO ⟨3, tx, tl, tc⟩))
  clear hb
  go_wp2_with fail
  refine (HPa.out _ C2.out.ps).mono ?_
  rintro e w2 ⟨rfl, hst, hps⟩
  have C3 := hideP (C2.out.step hst hps)
  clear hst hps
  obtain ⟨⟨k0, k1, k2, k3⟩, _, hk1⟩ := res_facts C3.out.b0
  have HPs := hideP (fun w => Lx.parse_c ⟨tx.toArray⟩ (by have := HTx.out; show tx.toArray.size <= _; simp at this ⊢; omega) w)
  go_wp2_with fail
  refine (HPs.out _).mono ?_
  rintro e w3 ⟨rfl, rfl⟩
  obtain ⟨pv, hpv⟩ : ∃ pv, pv = parseV tx := ⟨_, rfl⟩
  rw [<- hpv]
  rw [<- hpv] at HR0
  clear hpv
  cases pv with
  | none =>
    have HR1 : Hid (R = .inl (mkE 0 [] 0 tl tc [] [] [], a + 1)) := HR0.out
    simp only [parsed, Option.getD_none, Option.isSome_none]
    go_wp2_with fail
    refine (placed_c ⟨3, tx, tl, tc⟩ ⟨0, ⟨#[]⟩, 0, 0, 0, none, 0, 0, none, 0, 0, none, 0, 0⟩ _).mono ?_
    rintro e w4 ⟨rfl, hb⟩
    have C4 := hideP (C3.out.below hb)
    clear hb
    obtain ⟨⟨r0, r1, r2, r3, r4, r5, r6, r7⟩, ⟨f0, f1, f2, f3, f4, f5, f6, f7⟩, hr1⟩ := box8 (x := zNV) (C4.out.b1)
    go_wp2_with fail
    rw [HR1.out]
    refine bodyPost_ret (results_cell_row rfl _ _ w.heap.size 27 _ (0, 0) _ rfl (put8_heap (x := leafNV 0 [] 0 ⟨3, tx, tl, tc⟩) C4.out.b1) underlying27 rfl (by kernel_rfl)) rfl ⟨stay_put8 C4.out.st hp (Nat.le_refl _) (leafNV 0 [] 0 ⟨3, tx, tl, tc⟩), ps_put8 C4.out.ps hp (leafNV 0 [] 0 ⟨3, tx, tl, tc⟩), _, rfl, leafNV 0 [] 0 ⟨3, tx, tl, tc⟩, rfl, ?_⟩
    exact ((leaf_nd _ _ 0 [] 0 ⟨3, tx, tl, tc⟩).put8 (Nat.lt_succ_self _) (leafNV 0 [] 0 ⟨3, tx, tl, tc⟩)).lower (Nat.le_succ _)
  | some N =>
    have HR1 : Hid (R = .inl (mkE 0 [] N tl tc [] [] [], a + 1)) := HR0.out
    simp only [parsed, Option.getD_some, Option.isSome_some]
    go_wp2_with fail
    refine (placed_c ⟨3, tx, tl, tc⟩ ⟨0, ⟨#[]⟩, N, 0, 0, none, 0, 0, none, 0, 0, none, 0, 0⟩ _).mono ?_
    rintro e w4 ⟨rfl, hb⟩
    have C4 := hideP (C3.out.below hb)
    clear hb
    obtain ⟨⟨r0, r1, r2, r3, r4, r5, r6, r7⟩, ⟨f0, f1, f2, f3, f4, f5, f6, f7⟩, hr1⟩ := box8 (x := zNV) (C4.out.b1)
    go_wp2_with fail
    rw [HR1.out]
    refine bodyPost_ret (results_cell_row rfl _ _ w.heap.size 27 _ (0, 0) _ rfl (put8_heap (x := leafNV 0 [] N ⟨3, tx, tl, tc⟩) C4.out.b1) underlying27 rfl (by kernel_rfl)) rfl ⟨stay_put8 C4.out.st hp (Nat.le_refl _) (leafNV 0 [] N ⟨3, tx, tl, tc⟩), ps_put8 C4.out.ps hp (leafNV 0 [] N ⟨3, tx, tl, tc⟩), _, rfl, leafNV 0 [] N ⟨3, tx, tl, tc⟩, rfl, ?_⟩
    exact ((leaf_nd _ _ 0 [] N ⟨3, tx, tl, tc⟩).put8 (Nat.lt_succ_self _) (leafNV 0 [] N ⟨3, tx, tl, tc⟩)).lower (Nat.le_succ _)
theorem spelt_str (pb tb cap d : Nat) (ts : List Tok)  (ok : ToksOk ts) (a : Nat) (hk : (tkA ts a).kind = 4) (w : World) (h : Ps w pb tb cap ts a d) :
    Calls prog 150 #[.pointer (some ⟨pb, 0, none⟩)] w (PPost pb tb cap ts d w NdE (.inl (mkE 1 (tkA ts a).text 0 (tkA ts a).line (tkA ts a).col [] [] [], a + 1))) := by
  have H := hideP h
  have OK := hideP ok
  have hp := h.ltp
  have HN := hideP (ok.ends a h.lt (by rw [hk]; decide))
  have HPa := hideP (fun w h => pass_c pb tb cap a d ts w h HN.out ok.len)
  have HPk := hideP (fun w h => peek_c pb tb cap a d ts w h)
  have HTx := hideP (ok.txt a)
  obtain ⟨t, ht⟩ : ∃ t, t = tkA ts a := ⟨_, rfl⟩
  rw [<- ht] at HPk HPa HTx hk ⊢
  clear ht
  obtain ⟨kd, tx, tl, tc⟩ := t
  obtain rfl : kd = 4 := hk
  have C0 := hideP (ctx_init h zNV.obj)
  obtain ⟨R, hR⟩ : ∃ R : Pr Ty, R = (.inl (mkE 1 tx 0 tl tc [] [] [], a + 1)) := ⟨_, rfl⟩
  rw [<- hR]
  have HR0 := hideP hR
  clear h ok hR
  go_enter func150, ntmps150
  go_wp2_with fail
  refine (HPk.out _ C0.out.ps).mono ?_
  rintro e w1 ⟨rfl, hb⟩
  have C1 := hideP (C0.out.below hb)
  have C2 := hideP (C1.out.alloc (TOKO ⟨4, tx, tl, tc⟩))
  clear hb
  go_wp2_with fail
  refine (HPa.out _ C2.out.ps).mono ?_
  rintro e w2 ⟨rfl, hst, hps⟩
  have C3 := hideP (C2.out.step hst hps)
  clear hst hps
  obtain ⟨⟨k0, k1, k2, k3⟩, _, hk1⟩ := res_facts C3.out.b0
  go_wp2_with fail
  refine (placed_c ⟨4, tx, tl, tc⟩ ⟨1, ⟨tx.toArray⟩, 0, 0, 0, none, 0, 0, none, 0, 0, none, 0, 0⟩ _).mono ?_
  rintro e w3 ⟨rfl, hb⟩
  have C4 := hideP (C3.out.below hb)
  clear hb
  obtain ⟨⟨r0, r1, r2, r3, r4, r5, r6, r7⟩, ⟨f0, f1, f2, f3, f4, f5, f6, f7⟩, hr1⟩ := box8 (x := zNV) (C4.out.b1)
  go_wp2_with fail
  rw [HR0.out]
  refine bodyPost_ret (results_cell_row rfl _ _ w.heap.size 27 _ (0, 0) _ rfl (put8_heap (x := leafNV 1 tx 0 ⟨4, tx, tl, tc⟩) C4.out.b1) underlying27 rfl (by kernel_rfl)) rfl ⟨stay_put8 C4.out.st hp (Nat.le_refl _) (leafNV 1 tx 0 ⟨4, tx, tl, tc⟩), ps_put8 C4.out.ps hp (leafNV 1 tx 0 ⟨4, tx, tl, tc⟩), _, rfl, leafNV 1 tx 0 ⟨4, tx, tl, tc⟩, rfl, ?_⟩
  exact ((leaf_nd _ _ 1 tx 0 ⟨4, tx, tl, tc⟩).put8 (Nat.lt_succ_self _) (leafNV 1 tx 0 ⟨4, tx, tl, tc⟩)).lower (Nat.le_succ _)
theorem spelt_name (pb tb cap d : Nat) (ts : List Tok) (K : Nat -> Pr Ty) (hK : Reads pb tb cap d ts TyE 17 K) (ok : ToksOk ts) (a : Nat) (hk : (tkA ts a).kind = 1) (w : World) (h : Ps w pb tb cap ts a d) :
    Calls prog 150 #[.pointer (some ⟨pb, 0, none⟩)] w (PPost pb tb cap ts d w NdE ((namedA ts K ts.length a).go fun x b => .inl (x, b))) := by
  have H := hideP h
  have OK := hideP ok
  have hp := h.ltp
  have HNm := hideP (fun w h => named_c pb tb cap d ts K hK ok a (ok.ends a h.lt (by rw [hk]; decide)) w h)
  have HPk := hideP (fun w h => peek_c pb tb cap a d ts w h)
  obtain ⟨t, ht⟩ : ∃ t, t = tkA ts a := ⟨_, rfl⟩
  rw [<- ht] at HPk hk
  clear ht
  obtain ⟨kd, tx, tl, tc⟩ := t
  obtain rfl : kd = 1 := hk
  have C0 := hideP (ctx_init h zNV.obj)
  obtain ⟨R, hR⟩ : ∃ R : Pr Ty, R = ((namedA ts K ts.length a).go fun x b => .inl (x, b)) := ⟨_, rfl⟩
  rw [<- hR]
  have HR0 := hideP hR
  clear h ok hR hK
  go_enter func150, ntmps150
  go_wp2_with fail
  refine (HPk.out _ C0.out.ps).mono ?_
  rintro e w1 ⟨rfl, hb⟩
  have C1 := hideP (C0.out.below hb)
  have C2 := hideP (C1.out.alloc (TOKO ⟨1, tx, tl, tc⟩))
  clear hb
  go_wp2_with fail
  refine (HNm.out _ C2.out.ps).mono ?_
  intro e w2 hpost
  rcases ppost_or hpost with ⟨er, li, co, hr, rfl, hst⟩ | ⟨D, b, v, hr, rfl, hst, hps, hv⟩
  · have HE : Hid (R = .inr (er, li, co)) := by rw [HR0.out, hr]; exact rfl
    have HF := hideP (C2.out.st.trans hst)
    clear hr hst hpost
    go_wp2_with fail
    exact ⟨rfl, HF.out, by rw [HE.out]⟩
  have HR1 : Hid (R = .inl (D, b)) := by rw [HR0.out, hr]; exact rfl
  obtain ⟨x, rfl, hv⟩ := hv
  have C3 := hideP ((C2.out.step hst hps).addN hv C2.out.sz)
  clear hr hst hps hpost hv
  obtain ⟨⟨r0, r1, r2, r3, r4, r5, r6, r7⟩, ⟨f0, f1, f2, f3, f4, f5, f6, f7⟩, hr1⟩ := box8 (x := zNV) (C3.out.b1)
  go_wp2_with fail
  rw [HR1.out]
  refine bodyPost_ret (results_cell_row rfl _ _ w.heap.size 27 _ (0, 0) _ rfl (put8_heap (x := x) C3.out.b1) underlying27 rfl (by kernel_rfl)) rfl ⟨stay_put8 C3.out.st hp (Nat.le_refl _) (x), ps_put8 C3.out.ps hp (x), _, rfl, x, rfl, ?_⟩
  exact ((C3.out.n0).put8 (Nat.lt_succ_self _) (x)).lower (Nat.le_succ _)
theorem spelt_bad (pb tb cap d : Nat) (ts : List Tok)  (ok : ToksOk ts) (a : Nat) (hk3 : (tkA ts a).kind ≠ 3) (hk4 : (tkA ts a).kind ≠ 4) (hk1 : (tkA ts a).kind ≠ 1) (w : World) (h : Ps w pb tb cap ts a d) :
    Calls prog 150 #[.pointer (some ⟨pb, 0, none⟩)] w (PPost pb tb cap ts d w NdE ((badA ts 7 a : Pr Ty))) := by
  have H := hideP h
  have OK := hideP ok
  have hp := h.ltp
  have HV := hideP (fun wx (hx : Ps wx pb tb cap ts a d) => wrong_c pb tb cap a d ts wx hx 7)
  have HPk := hideP (fun w h => peek_c pb tb cap a d ts w h)
  unfold badA
  obtain ⟨t, ht⟩ : ∃ t, t = tkA ts a := ⟨_, rfl⟩
  rw [<- ht] at HPk HV hk3 hk4 hk1 ⊢
  clear ht
  obtain ⟨kd, tx, tl, tc⟩ := t
  have e3 : (kd == 3) = false := by simpa using hk3
  have e4 : (kd == 4) = false := by simpa using hk4
  have e1 : (kd == 1) = false := by simpa using hk1
  clear hk3 hk4 hk1
  have C0 := hideP (ctx_init h zNV.obj)
  obtain ⟨R, hR⟩ : ∃ R : Pr Ty, R = (.inr (7, tl, tc)) := ⟨_, rfl⟩
  rw [<- hR]
  have HR0 := hideP hR
  clear h ok hR
  go_enter func150, ntmps150
  go_wp2_with fail
  refine (HPk.out _ C0.out.ps).mono ?_
  rintro e w1 ⟨rfl, hb⟩
  have C1 := hideP (C0.out.below hb)
  have C2 := hideP (C1.out.alloc (TOKO ⟨kd, tx, tl, tc⟩))
  clear hb
  go_wp2_with fail
  refine (HV.out _ C2.out.ps).mono ?_
  rintro e w2 ⟨rfl, hb⟩
  have C3 := hideP (C2.out.below hb)
  clear hb
  go_wp2_with fail
  exact ⟨rfl, C3.out.st, by rw [HR0.out]⟩
/-- What is told by the token's kind. -/
def speltA (ts : List Tok) (K : Nat -> Pr Ty) (f a : Nat) : Pr Ty :=
  if (tkA ts a).kind = 3 then .inl (mkE 0 [] ((parseV (tkA ts a).text).getD 0) (tkA ts a).line (tkA ts a).col [] [] [], a + 1)
  else if (tkA ts a).kind = 4 then .inl (mkE 1 (tkA ts a).text 0 (tkA ts a).line (tkA ts a).col [] [] [], a + 1)
  else if (tkA ts a).kind = 1 then namedA ts K f a else badA ts 7 a
theorem spelt_c (pb tb cap d : Nat) (ts : List Tok) (K : Nat -> Pr Ty) (hK : Reads pb tb cap d ts TyE 17 K) (ok : ToksOk ts) (a : Nat) (w : World) (h : Ps w pb tb cap ts a d) :
    Calls prog 150 #[.pointer (some ⟨pb, 0, none⟩)] w (PPost pb tb cap ts d w NdE (speltA ts K ts.length a)) := by
  unfold speltA
  by_cases h3 : (tkA ts a).kind = 3
  · rw [if_pos h3]
    exact spelt_num pb tb cap d ts ok a h3 w h
  · rw [if_neg h3]
    by_cases h4 : (tkA ts a).kind = 4
    · rw [if_pos h4]
      exact spelt_str pb tb cap d ts ok a h4 w h
    · rw [if_neg h4]
      by_cases h1 : (tkA ts a).kind = 1
      · rw [if_pos h1]
        have := spelt_name pb tb cap d ts K hK ok a h1 w h
        cases hp : namedA ts K ts.length a with
        | inl p => rw [hp] at this; exact this
        | inr p => rw [hp] at this; exact this
      · rw [if_neg h1]
        exact spelt_bad pb tb cap d ts ok a h3 h4 h1 w h
end Go.Proofs.YtlhmofphpfdjlaaGreatDoor
