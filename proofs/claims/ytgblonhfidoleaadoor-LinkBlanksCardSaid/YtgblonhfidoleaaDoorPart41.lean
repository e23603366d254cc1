/- Part. -/
import Derived.ProofKit
import Derived.OpenShut
import Derived.ShutString
import Derived.ChangeOld
import Derived.LaidMore
import Derived.Stop.Joined
import Derived.Stop.LaidErr
import Derived.Lib.LaidTab
import Derived.Test.YtgblonhfidoleaaDoorPart40
import Derived.Test.YtgblonhfidoleaaDoorCards
import Derived.Test.YtgblonhfidoleaaDoorTie
set_option maxRecDepth 100000
set_option maxHeartbeats 4000000
/- All modules are read. -/
namespace Go.Proofs.YtgblonhfidoleaaDoor
open Go.Proofs.Tryd
open Go.RowKit Go.Maps
abbrev Src := ByteArray × ByteArray
abbrev srcs (l : List Src) : List (Bs × Bs) := l.map fun p => (p.1.data.toList, p.2.data.toList)
/-- Sources in memory, below block B. -/
def SrcAt (B : Nat) (w : World) (a : Option Addr) (l : List Src) : Prop := l = [] ∨ ∃ b o, a = some ⟨b, o, none⟩ /\ b < B /\ ∀ i (h : i < l.length), w.cell? ⟨b, o + i * 2, none⟩ = some (.string l[i].1) /\ w.cell? ⟨b, o + i * 2 + 1, none⟩ = some (.string l[i].2)
theorem SrcAt.below {B : Nat} {w w' : World} {a : Option Addr} {l : List Src} (h : SrcAt B w a l) (hb : Below B w w') : SrcAt B w' a l := by
  rcases h with h | ⟨b, o, e, hl, hc⟩
  · exact .inl h
  · exact .inr ⟨b, o, e, hl, fun i hi => ⟨(hb.cell hl).trans (hc i hi).1, (hb.cell hl).trans (hc i hi).2⟩⟩
theorem SrcAt.mono {B B' : Nat} {w : World} {a : Option Addr} {l : List Src} (h : SrcAt B w a l) (hB : B <= B') : SrcAt B' w a l := by
  rcases h with h | ⟨b, o, e, hl, hc⟩
  · exact .inl h
  · exact .inr ⟨b, o, e, Nat.lt_of_lt_of_le hl hB, hc⟩
theorem readFrom_snoc (x : Bs × Bs) : ∀ (l : List (Bs × Bs)) (m : Nat) (s : L1), readFrom m (l ++ [x]) s = lreadV (m + l.length) x.1 x.2 (readFrom m l s)
  | [], m, s => rfl
  | y :: l, m, s => by
    show readFrom (m + 1) (l ++ [x]) _ = _
    rw [readFrom_snoc x l]
    simp only [readFrom, List.length_cons]
    rw [show m + 1 + l.length = m + (l.length + 1) by omega]
theorem lread_len (m : Nat) (a b : Bs) (s : L1) : (lreadV m a b s).ds.length <= s.ds.length + 1 /\ (lreadV m a b s).num.length <= s.num.length + 1 /\ (lreadV m a b s).names.length <= s.names.length + 1 /\ (lreadV m a b s).mods.length <= s.mods.length + 1 := by
  unfold lreadV
  split
  · refine ⟨?_, ?_, ?_, ?_⟩ <;> simp
  · split
    · refine ⟨?_, ?_, ?_, ?_⟩ <;> simp
    · split
      · refine ⟨?_, ?_, ?_, ?_⟩ <;> simp
      · refine ⟨?_, ?_, ?_, ?_⟩ <;> simp
theorem readFrom_len : ∀ (l : List (Bs × Bs)) (m : Nat) (s : L1), (readFrom m l s).ds.length <= s.ds.length + l.length /\ (readFrom m l s).num.length <= s.num.length + l.length /\ (readFrom m l s).names.length <= s.names.length + l.length /\ (readFrom m l s).mods.length <= s.mods.length + l.length
  | [], _, _ => ⟨Nat.le_refl _, Nat.le_refl _, Nat.le_refl _, Nat.le_refl _⟩
  | x :: l, m, s => by
    have h1 := readFrom_len l (m + 1) (lreadV m x.1 x.2 s)
    have h2 := lread_len m x.1 x.2 s
    show (readFrom (m + 1) l _).ds.length <= _ /\ _
    simp only [List.length_cons, readFrom]
    omega
abbrev L0 : L1 := ⟨[], [], [], []⟩
theorem readAll_c (lo kb nb : Nat) (a : Option Addr) (cap : Nat) (l : List Src) (vN vM vF vD : Value) (w : World) (hP : P1 lo kb nb w L0 vN vM vF vD [] []) (hw : Lx.Words w) (hv : 0 < nb) (hs : SrcAt nb w a l)
    (hl : l.length <= 1000) (hz : ∀ p ∈ l, p.1.size <= 140737488351232 /\ p.2.size <= 140737488351232) :
    Calls prog 12 #[.pointer (some ⟨kb, 0, none⟩), .slice a l.length cap] w (ReadP lo kb nb w (readAllV (srcs l))) := by
  have HP := hideP hP
  have HW := hideP hw
  have HS := hideP hs
  have HZ := hideP hz
  have HV := hideP hv
  have hll : (srcs l).length = l.length := by simp
  have hnl := hP.num.lt
  clear hP hw hz hv
  by_cases h16 : (16 : Int) < (l.length : Int)
  · have HR : Hid (readAllV (srcs l) = { L0 with ds := [] ++ [⟨16, 1, 1, 19⟩] }) := by
      show readAllV _ = _
      unfold readAllV
      rw [if_pos (by omega)]
      rfl
    clear hs
    go_enter func12, ntmps12
    go_wp2_with fail
    refine (tell1 HP.out rfl ⟨16, 1, 1, 19⟩ (by simp)).mono ?_
    rintro e w2 ⟨rfl, h2, h3⟩
    have H2 := hideP h2
    have H3 := hideP h3
    clear h2 h3
    go_wp2_with fail
    refine bodyPost_ret (results_none rfl _ _ _) rfl ⟨rfl, ?_, H3.out⟩
    rw [HR.out]
    exact H2.out
  · have HR : Hid (readAllV (srcs l) = readFrom 0 (srcs l) L0) := by
      show readAllV _ = _
      unfold readAllV
      rw [if_neg (by omega)]
    rcases hs with he | ⟨b, o, rfl, hb, hc⟩
    · subst he
      go_enter func12, ntmps12
      go_wp2_with fail
      go_loopw [13] (fun i wr => i = .int .i64 0 /\ wr = w) (fun _ _ => 0)
      case atStart => exact ⟨rfl, rfl⟩
      case round =>
        obtain ⟨rfl, rfl⟩ := hrel
        go_wp2_with fail
        refine bodyPost_end (results_none rfl _ _ _) rfl ⟨rfl, ?_, Kp.refl _ _ _ _⟩
        have HR' : readAllV [] = L0 := HR.out
        rw [HR']
        exact ⟨_, _, _, _, _, _, HP.out, rfl⟩
    · have HC := hideP hc
      clear hc
      go_enter func12, ntmps12
      go_wp2_with fail
      go_loopw [13] (fun i wr => ∃ k : Nat, k <= l.length /\ i = .int .i64 k /\ Hid (∃ vN vM vF vD xs fb, P1 lo kb nb wr (readFrom 0 ((srcs l).take k) L0) vN vM vF vD xs fb /\ fb.length = (readFrom 0 ((srcs l).take k) L0).mods.length) /\ Hid (Kp nb kb lo w wr)) (fun i _ => l.length - (intOf i).toNat)
      case atStart => exact ⟨0, by omega, rfl, ⟨vN, vM, vF, vD, [], [], HP.out, rfl⟩, Kp.refl _ _ _ _⟩
      case round =>
        obtain ⟨k, hk, rfl, HA, HB⟩ := hrel
        by_cases hkl : k < l.length
        · have hkl' : (k : Int) < (l.length : Int) := by omega
          have q0 : wr.cell? ⟨b, o + k * 2, none⟩ = some (.string l[k].1) := (HB.out.below.cell hb).trans (HC.out k hkl).1
          have q1 : wr.cell? ⟨b, o + k * 2 + 1, none⟩ = some (.string l[k].2) := (HB.out.below.cell hb).trans (HC.out k hkl).2
          have hz := HZ.out l[k] (List.getElem_mem hkl)
          have hst := readFrom_snoc (srcs l)[k] ((srcs l).take k) 0 L0
          rw [List.take_append_getElem (by rw [hll]; exact hkl), List.length_take, Nat.min_eq_left (by omega), Nat.zero_add, List.getElem_map] at hst
          have hln := readFrom_len ((srcs l).take k) 0 L0
          rw [List.length_take, Nat.min_eq_left (by omega)] at hln
          have HSt := hideP hst
          have HLn := hideP hln
          obtain ⟨s, hs⟩ : ∃ s, s = l[k] := ⟨_, rfl⟩
          rw [<- hs] at q0 q1 hz HSt
          have HZk := hideP hz
          obtain ⟨vN, vM, vF, vD, xs, fb, hp, hf⟩ := HA.out
          have HP2 := hideP (hp.alloc (srcO s.1 s.2))
          have HF2 := hideP hf
          have hnb : nb <= wr.heap.size := by have := HB.out.below.size; omega
          have HB2 : Hid (Kp nb kb lo w (wr.alloc (srcO s.1 s.2))) := HB.out.trans (Kp.bl (bl_alloc _ _) hnb (by have := HB.out.below.size; have := HP.out.lt3; omega))
          clear hs hst hln hz hp hf
          go_wp2_with fail
          refine (read_c lo kb nb k s.1 s.2 _ _ _ _ _ _ _ _ HP2.out HF2.out (words_low HW.out HB2.out.below HV.out) HV.out HZk.out.1 HZk.out.2 (by omega) (by have := HLn.out.1; simp at this ⊢; omega) (by have := HLn.out.2.1; simp at this ⊢; omega) (by have := HLn.out.2.2.1; simp at this ⊢; omega) (by have := HLn.out.2.2.2; simp at this ⊢; omega)).mono ?_
          rintro e w2 ⟨rfl, h2, h3⟩
          have H2 := hideP h2
          have H3 := hideP h3
          clear h2 h3
          go_wp2_with fail
          go_roundw
          case rel =>
            refine ⟨k + 1, by omega, by go_num, ?_, HB2.out.trans H3.out⟩
            show ∃ vN vM vF vD xs fb, _
            rw [HSt.out]
            exact H2.out
          case measure => simp [intOf]; omega
        · have hkl' : ¬ (k : Int) < (l.length : Int) := by omega
          have e : k = l.length := by omega
          subst e
          have HA2 : Hid (∃ vN vM vF vD xs fb, P1 lo kb nb wr (readAllV (srcs l)) vN vM vF vD xs fb /\ fb.length = (readAllV (srcs l)).mods.length) := by
            have := HA.out
            rw [List.take_of_length_le (by rw [hll]; exact Nat.le_refl _)] at this
            rw [HR.out]
            exact this
          go_wp2_with fail
          exact bodyPost_end (results_none rfl _ _ _) rfl ⟨rfl, HA2.out, HB.out⟩
end Go.Proofs.YtgblonhfidoleaaDoor
/- What the proofs share: the listed table of words as a condition on memory, and what it gives the walks. -/
namespace Go.Proofs.YtgblonhfidoleaaDoor
open Go.Proofs.Tryd
open Go.ChangeShapes Go.WideShapes Go.ChangeAt Go.RowKit
open Go.ChangeMaps (open_string shut_string)
theorem laidOut : laidOutB prog = true := by kernel_rfl
theorem own : ownKnob prog.godebug = none := by kernel_rfl
/-- The listed variables. -/
def laidL : List (String × DataW Unit) := Rows.linkFaultsRow.laid
theorem door_met (os : Os) (args : Array Value) : laidMetH prog laidL ((World.doorLaid prog 150 os).forCall (fun _ _ => 0) ⟨#[], args, []⟩).memory :=
  laidMetH_of_parts3 (fuel := 8) (laidMet_of_run' 8 (by kernel_rfl) (by kernel_rfl)) (by kernel_rfl) (by kernel_rfl)
/-- The listed variable's name, as the row has it. -/
def wname : String := (laidL.map (·.1)).headD "none"
theorem words_glob : prog.globalNamed wname = some 0 := by kernel_rfl
theorem words_type : (prog.globals[0]?).map (·.type) = some 89 := by kernel_rfl
theorem words_datum : (Rows.laid_gradus_lex_ownWords : DataW Unit) = .agg (wordsV.map fun t => .lit (.string t)) := by kernel_rfl
/-- An array of strings that reads as the table holds the table's strings, cell for cell. -/
theorem cells_of_words {H : Type} {enc : TypeId × Value -> H} {w : World} {base : Nat} {sp : Nat -> Bool} {held : Bool} {fuel : Nat} {cs : List Value} {p : List MemPlace}
    (h : DataW.trod enc prog w base sp held fuel 89 cs = some (.agg (wordsV.map fun t => .lit (.string t)), p)) : cs = wordsV.map fun t => Value.string ⟨t.toArray⟩ := by
  have ht := underlying89
  have hce : prog.cellsOf 9 = 1 := by kernel_rfl
  have hct : prog.cellsOf 89 = 25 := by kernel_rfl
  cases fuel with
  | zero => simp [DataW.trod] at h
  | succ fuel =>
    simp only [DataW.trod, ht, hce, hct, Nat.mul_one] at h
    split at h
    · rename_i hl
      obtain ⟨xs, hm, hx⟩ := Option.map_eq_some_iff.1 h
      have hxs : xs.map (·.1) = wordsV.map fun t => (DataW.lit (.string t) : DataW H) := by
        have := congrArg Prod.fst hx
        simpa using this
      have hxl : xs.length = 25 := by simpa using Lib.mapM_length hm
      apply List.ext_getElem?
      intro i
      by_cases hi : i < 25
      · obtain ⟨b, hb, hf⟩ := Lib.mapM_at hm i i (by simp [hi])
        obtain ⟨s, hc, rfl, _⟩ := DataW.trod_string underlying9 hf
        have h1 : cs[i]? = some (.string s) := by
          have := congrArg (·[0]?) hc
          simpa [List.getElem?_take, List.getElem?_drop] using this
        have h2 : (xs.map (·.1))[i]? = some (DataW.lit (.string s.data.toList) : DataW H) := by simp [hb]
        rw [hxs] at h2
        simp only [List.getElem?_map, Option.map_eq_some_iff, DataW.lit.injEq, Lit.string.injEq] at h2
        obtain ⟨t, ht', rfl⟩ := h2
        rw [h1, List.getElem?_map, ht']
        rfl
      · rw [List.getElem?_eq_none (by omega), List.getElem?_eq_none (by simp only [List.length_map]; exact Nat.le_of_not_lt hi)]
    · cases h
theorem tab_of_laid {W : World} (h : laidMetH prog laidL W) : Lx.Words W := by
  rw [MakeChecks.laidMetH_plain _ _ _ (by kernel_rfl)] at h
  have h2 : laidMet prog [(wname, .agg (wordsV.map fun t => .lit (.string t)))] W := by
    rw [<- words_datum]
    exact h
  obtain ⟨ps, ⟨g', t', cs, fuel, p, q, hg', ht', hvar, hd, _, _⟩, _⟩ := h2
  obtain rfl := Option.some.inj (words_glob.symm.trans hg')
  obtain rfl := Option.some.inj (words_type.symm.trans ht')
  obtain rfl : cs = (wordsV.map fun t => Value.string ⟨t.toArray⟩).toArray := by rw [<- cells_of_words hd]
  intro i hi
  have := World.var?_cell words_glob hvar i
  rw [this]
  simp only [List.getElem?_toArray, List.getElem?_map]
  rw [List.getElem?_eq_getElem (show i < wordsV.length from hi)]
  unfold Lx.wordB
  rw [List.getD_eq_getElem?_getD, List.getElem?_eq_getElem (show i < wordsV.length from hi)]
  rfl
theorem two_of {α : Type} {l : List α} (h : l.length = 2) : ∃ a b, l = [a, b] := by
  match l, h with
  | [a, b], _ => exact ⟨a, b, rfl⟩
/-- Sources that came in as an argument. -/
theorem src_fields : ∃ f0 f1 : Field, prog.underlying 39 = some (.struct #[f0, f1]) /\ (f0.type = 9 /\ f0.offset = 0) /\ (f1.type = 9 /\ f1.offset = 1) := ⟨_, _, underlying39, ⟨rfl, rfl⟩, ⟨rfl, rfl⟩⟩
theorem src_of_trod {H : Type} {enc : TypeId × Value -> H} {w : World} {fuel : Nat} {cs : List Value} {x : DataW H × List MemPlace} (h : DataW.trod enc prog w 0 (fun _ => true) true fuel 22 cs = some x) (hw : ∀ m ∈ x.1.weights prog 22, m <= reachBytes) :
    ∃ a cap l, cs = [.slice a (List.length l) cap] /\ SrcAt w.heap.size w a l /\ (∀ p ∈ l, p.1.size <= reachBytes /\ p.2.size <= reachBytes) /\ l.length <= reachBytes := by
  have uN := underlying22
  have cT : prog.cellsOf 39 = 2 := by kernel_rfl
  have cS : prog.cellsOf 9 = 1 := by kernel_rfl
  have bT : prog.bytesOf 39 = 32 := by kernel_rfl
  obtain ⟨f0, f1, uT, ⟨t0, o0⟩, ⟨t1, o1⟩⟩ := src_fields
  rcases DataW.trod_slice uN h with ⟨rfl, rfl⟩ | ⟨a, len, cap, elems, rest, m, _, rfl, rfl, _, hlc, _, hlen, hel, hsp, _⟩
  · exact ⟨none, 0, [], rfl, .inl rfl, (fun _ h => nomatch h), Nat.zero_le _⟩
  · have hrl := (hsp rfl).1
    have hcap : cap <= reachBytes := by
      have h1 : (elems.length + rest.length) * prog.bytesOf 39 <= reachBytes := hw _ (by
        rw [DataW.weights, uN]
        simp)
      rw [bT] at h1
      refine Nat.le_trans ?_ h1
      have : cap <= elems.length + rest.length := by omega
      exact Nat.le_trans this (Nat.le_mul_of_pos_right _ (by decide))
    have hkid : ∀ i, i < len -> ∃ s0 s1 : ByteArray, w.cell? (a.add (i * 2)) = some (.string s0) /\ w.cell? ((a.add (i * 2)).add 1) = some (.string s1) /\ s0.size <= reachBytes /\ s1.size <= reachBytes := by
      intro i hi
      have h1 := hel i hi
      have h2 : i < elems.length := by omega
      rw [List.getElem?_eq_getElem h2, Option.bind_eq_some_iff, cT] at h1
      obtain ⟨cs', p1, p2⟩ := h1
      obtain ⟨_, hl2, p3⟩ := World.cells?_some p1
      obtain ⟨xs, n, _, hx, hl, hxl, hf⟩ := DataW.trod_struct uT p2
      have hxl2 : xs.length = 2 := hxl
      obtain ⟨y0, y1, rfl⟩ := two_of hxl2
      have g0 := hf 0 f0 rfl
      have g1 := hf 1 f1 rfl
      rw [t0, o0, cS] at g0
      rw [t1, o1, cS] at g1
      have hwi : ∀ mm ∈ (elems[i].1).weights prog 39, mm <= reachBytes := fun mm hm => hw mm (by
        rw [DataW.weights, uN]
        exact List.mem_cons_of_mem _ (List.mem_append_left _ (weights_all (d := elems[i].1) (List.mem_map.2 ⟨_, List.getElem_mem h2, rfl⟩) _ hm)))
      rw [hx] at hwi
      have hwe : ∀ (j : Nat) (y : DataW H × List MemPlace), j < 2 -> [y0, y1][j]? = some y -> ∀ mm ∈ y.1.weights prog 9, mm <= reachBytes := by
        intro j y hj hy mm hm
        refine hwi mm ?_
        rw [DataW.weights, uT]
        refine DataW.weights_mem_each (j := j) (t := 9) (d := y.1) ?_ ?_ mm hm
        · show [f0.type, f1.type][j]? = some 9
          rw [t0, t1]
          match j, hj with
          | 0, _ => rfl
          | 1, _ => rfl
        · rw [List.getElem?_map, hy]
          rfl
      obtain ⟨c0, c1, hcs⟩ := two_of hl2
      subst hcs
      obtain ⟨s0, hs0, es0, _⟩ := DataW.trod_string underlying9 (show DataW.trod enc prog w 0 (fun _ => true) true _ 9 [c0] = some y0 from g0)
      obtain ⟨s1, hs1, es1, _⟩ := DataW.trod_string underlying9 (show DataW.trod enc prog w 0 (fun _ => true) true _ 9 [c1] = some y1 from g1)
      injection hs0 with hs0 _
      injection hs1 with hs1 _
      subst hs0 hs1
      have z0 := p3 0 (by omega)
      have hz : (a.add (i * 2)).add 0 = a.add (i * 2) := by simp [Addr.add]
      rw [hz] at z0
      have l0 := hwe 0 y0 (by omega) rfl s0.data.toList.length (by rw [es0, DataW.weights]; exact List.mem_singleton.2 rfl)
      have l1 := hwe 1 y1 (by omega) rfl s1.data.toList.length (by rw [es1, DataW.weights]; exact List.mem_singleton.2 rfl)
      rw [byteArray_len] at l0 l1
      exact ⟨s0, s1, z0, p3 1 (by omega), l0, l1⟩
    by_cases h0 : len = 0
    · subst h0
      exact ⟨some a, cap, [], rfl, .inl rfl, (fun _ h => nomatch h), Nat.zero_le _⟩
    · obtain ⟨b, o, spot⟩ := a
      obtain ⟨_, _, hc0, _⟩ := hkid 0 (by omega)
      have hspot : spot = none := by simpa [Addr.add] using World.cell?_spot hc0
      subst hspot
      have hadd : ∀ i, (⟨b, o, none⟩ : Addr).add i = ⟨b, o + i, none⟩ := fun i => by unfold Addr.add; split <;> simp_all
      have hadd2 : ∀ i j, (⟨b, o + i, none⟩ : Addr).add j = ⟨b, o + i + j, none⟩ := fun i j => by unfold Addr.add; split <;> simp_all
      have hg : ∀ i, ∃ p : Src, i < len -> w.cell? ⟨b, o + i * 2, none⟩ = some (.string p.1) /\ w.cell? ⟨b, o + i * 2 + 1, none⟩ = some (.string p.2) /\ p.1.size <= reachBytes /\ p.2.size <= reachBytes := fun i => by
        by_cases hi : i < len
        · obtain ⟨s0, s1, h0, h1, h2, h3⟩ := hkid i hi
          rw [hadd] at h0
          rw [hadd, hadd2] at h1
          exact ⟨(s0, s1), fun _ => ⟨h0, h1, h2, h3⟩⟩
        · exact ⟨(ByteArray.empty, ByteArray.empty), fun h => absurd h hi⟩
      obtain ⟨f, hf⟩ := Classical.axiomOfChoice hg
      have hc0' := (hf 0 (by omega)).1
      refine ⟨some ⟨b, o, none⟩, cap, (List.range len).map f, by simp, .inr ⟨b, o, rfl, World.block_lt_of_cell? w _ hc0', fun i hi => ?_⟩, fun p hp => ?_, by rw [List.length_map, List.length_range]; exact Nat.le_trans hlc hcap⟩
      · have hi' : i < len := by simpa using hi
        rw [List.getElem_map, List.getElem_range]
        exact ⟨(hf i hi').1, (hf i hi').2.1⟩
      · obtain ⟨i, hi, rfl⟩ := List.mem_map.1 hp
        exact (hf i (List.mem_range.1 hi)).2.2
theorem string_reach {s : ByteArray} (h : s.data.toList.length <= reachBytes) : s.size <= 140737488351232 := by
  rw [byteArray_len] at h
  exact h
end Go.Proofs.YtgblonhfidoleaaDoor
/- What is in scope: one more. -/
namespace Go.Proofs.YtgblonhfidoleaaDoor
open Go.Proofs.Tryd
open Go.RowKit Go.Maps
structure ScAt (w : World) (sb mb lo : Nat) (vE : Value) (es : List En) : Prop where
  box : w.heap[sb]? = some (.cells #[vE, .map (some mb)] 66)
  row : w.ownsRow lo 29 3 vE es.length (es.flatMap enC)
  set : SetE w mb es
abbrev scS (sb mb : Nat) (vE : Value) (b : Nat) : Prop := b = sb ∨ b = mb ∨ vE.ownBlock = some b
section
variable {w w1 : World} {sb mb lo B : Nat} {vE : Value} {es : List En} {S : Nat -> Prop}
theorem ScAt.chg (h : ScAt w sb mb lo vE es) (hc : Chg B S w w1) (h1 : ∀ b, S b -> ¬ scS sb mb vE b) : ScAt w1 sb mb lo vE es :=
  ⟨hc.obj h.box fun e => h1 _ e (.inl rfl), hc.row h.row fun _ hq e => h1 _ e (.inr (.inr hq)), h.set.block (hc.keep mb h.set.lt fun e => h1 _ e (.inr (.inl rfl)))⟩
theorem ScAt.alloc (h : ScAt w sb mb lo vE es) (o : Obj) : ScAt (w.alloc o) sb mb lo vE es := h.chg ((Chg.refl 0 (fun _ => False) w).alloc (Nat.zero_le _) o) fun _ e => e.elim
theorem ScAt.drew (h : ScAt w sb mb lo vE es) : ScAt w.drew sb mb lo vE es := ⟨h.box, h.row, h.set⟩
end
abbrev enO (e : En) : Obj := .cells #[.string ⟨e.nm.toArray⟩, .int .i64 e.m, .int .i64 e.d] 29
theorem add_c (B sb mb lo : Nat) (vE : Value) (es : List En) (e : En) (w : World) (h : ScAt w sb mb lo vE es) (hB1 : B <= sb) (hB2 : B <= mb) (hs : sb < lo) (hm : mb < lo) (hl : lo <= w.heap.size) (he : e.nm.length <= 1000000000000) (hn : es.length <= 100000000000) :
    Calls prog 19 #[.pointer (some ⟨sb, 0, none⟩), .agg #[.string ⟨e.nm.toArray⟩, .int .i64 e.m, .int .i64 e.d]] w fun x w' => x = .returned (.bool (!inE es e.nm)) /\ ∃ vE', ScAt w' sb mb lo vE' (if inE es e.nm then es else es ++ [e]) /\
      (vE'.ownBlock = vE.ownBlock ∨ ∃ q, vE'.ownBlock = some q /\ w.heap.size <= q) /\ Chg B (scS sb mb vE) w w' := by
  have hS : (⟨e.nm.toArray⟩ : ByteArray).size <= maxLen := by simp [ByteArray.size]; unfold maxLen; omega
  have hmb := h.set.lt
  have hsb := lt_of_block h.box
  have hne : sb ≠ mb := by
    rintro rfl
    obtain ⟨x, ck, h1⟩ := h.set.obj
    rw [h.box] at h1
    cases h1
  have HH := hideP h
  have hfe : ∀ W : World, ScAt W sb mb lo vE es -> W.heap[w.heap.size]? = some (enO e) -> (W.cell? ⟨sb, 0, none⟩ = some vE /\ W.cell? ⟨sb, 1, none⟩ = some (.map (some mb))) /\ (W.frozen? ⟨sb, 0, none⟩ = false /\ W.frozen? ⟨sb, 1, none⟩ = false) /\ (W.cell? ⟨w.heap.size, 0, none⟩ = some (.string ⟨e.nm.toArray⟩) /\ W.cell? ⟨w.heap.size, 1, none⟩ = some (.int .i64 e.m) /\ W.cell? ⟨w.heap.size, 2, none⟩ = some (.int .i64 e.d)) /\ (Instr.lookup 64 (.map (some mb)) (.string ⟨e.nm.toArray⟩) true).run prog W = .ok (.tuple #[.agg #[], .bool (inE es e.nm)]) W := by
    intro W hW hE
    refine ⟨(box2 hW.box).1, (box2 hW.box).2.1, ?_, by simpa using set_look' hW.set ⟨e.nm.toArray⟩ hS⟩
    refine ⟨?_, ?_, ?_⟩ <;> simp [World.cell?, hE]
  have HF := hideP hfe
  obtain ⟨i, hi⟩ : ∃ i, i = inE es e.nm := ⟨_, rfl⟩
  have hA : ScAt (w.alloc (enO e)).drew sb mb lo vE es := (h.alloc _).drew
  have hA2 : ScAt ((w.alloc (enO e)).alloc (.cells #[] 80)).drew sb mb lo vE es := ((h.alloc _).alloc _).drew
  obtain ⟨⟨a0, a1⟩, ⟨z0, z1⟩, ⟨e0, e1, e2⟩, l1⟩ := hfe _ hA (heap_alloc_last _ _)
  obtain ⟨⟨a0', a1'⟩, ⟨z0', z1'⟩, ⟨e0', e1', e2'⟩, l1'⟩ := hfe _ hA2 ((Below.heap_alloc _ _ _ (by rw [World.size_alloc]; omega)).trans (heap_alloc_last _ _))
  rw [<- hi] at l1 l1' ⊢
  have HI := hideP hi
  clear hfe h hA hA2 hi
  cases i with
  | true =>
    go_enter func19, ntmps19
    go_wp2_with fail
    go_region
    all_goals
      go_wp2_with fail
      go_ret
      refine ⟨rfl, vE, ((HH.out.alloc _).alloc _).drew, .inl rfl, ?_⟩
      exact (((Chg.refl _ _ _).alloc (by omega) _).alloc (by rw [World.size_alloc]; omega) _).drew
  | false =>
    obtain ⟨i0, hi, hz0, hz1, hz2⟩ := info_parts info_en
    go_enter func19, ntmps19
    go_wp2_with fail
    go_region
    all_goals
      go_wp2_with fail
      clear a0 a1 z0 z1 e0 e1 e2 l1 a0' a1' z0' z1' e0' e1' e2' l1'
      have HSz : Hid (((w.alloc (enO e)).alloc (.cells #[] 80)).drew.drew.heap.size = w.heap.size + 2) := by show (World.alloc _ _).heap.size = _; rw [World.size_alloc, World.size_alloc]
      have HA3 : Hid (ScAt ((w.alloc (enO e)).alloc (.cells #[] 80)).drew.drew sb mb lo vE es) := ((HH.out.alloc _).alloc _).drew.drew
      have HE3 : Hid (((w.alloc (enO e)).alloc (.cells #[] 80)).drew.drew.heap[w.heap.size]? = some (enO e)) := (Below.heap_alloc _ _ _ (by rw [World.size_alloc]; omega)).trans (heap_alloc_last _ _)
      have HC3 : Hid (Chg B (scS sb mb vE) w ((w.alloc (enO e)).alloc (.cells #[] 80)).drew.drew) := (((Chg.refl _ _ _).alloc (by omega) _).alloc (by rw [World.size_alloc]; omega) _).drew.drew
      obtain ⟨⟨a0, a1⟩, ⟨z0, z1⟩, ⟨e0, e1, e2⟩, _⟩ := HF.out _ HA3.out HE3.out
      obtain ⟨w3, hrun, hset, hgr⟩ := set_put' HA3.out.set (by omega) ⟨e.nm.toArray⟩ hS e.m e.d
      have HS3 := hideP hset
      have HG3 := hideP hgr
      clear hset hgr
      go_region
      all_goals
        go_wp2_with fail
        clear a0 a1 z0 z1 e0 e1 e2 hrun
        have HZ3 : Hid (w.heap.size + 2 <= w3.heap.size) := by have := HG3.out.size; rw [HSz.out] at this; exact this
        have HC4 : Hid (Chg B (scS sb mb vE) w w3) := HC3.out.grown HG3.out (by rw [HSz.out]; omega) fun q e => by injection e with e; exact ⟨by omega, fun _ => .inr (.inl e.symm)⟩
        have HX4 : Hid (w3.drew.heap[sb]? = some (.cells #[vE, .map (some mb)] 66)) := (HG3.out.block sb (by rw [HSz.out]; omega) (by intro e; injection e with e; exact hne e)).trans HA3.out.box
        have HR4 : Hid (w3.drew.ownsRow lo 29 3 vE es.length (es.flatMap enC)) := (HA3.out.row.kept HG3.out (by
          cases hv : vE.ownBlock with
          | none => exact .inl rfl
          | some q =>
            refine .inr fun e => ?_
            injection e with e
            have := (HA3.out.row.lt q hv).1
            omega) : w3.ownsRow lo 29 3 vE es.length (es.flatMap enC))
        have HE4 : Hid (w3.drew.heap[w.heap.size]? = some (enO e)) := (HG3.out.block w.heap.size (by rw [HSz.out]; omega) (by intro e; injection e with e; omega)).trans HE3.out
        obtain ⟨⟨a0, a1⟩, ⟨z0, z1⟩, hsl'⟩ := box2 HX4.out
        have hsl : sb < w3.heap.size := hsl'
        have hel : w.heap.size < w3.heap.size := by have := HZ3.out; omega
        clear hsl'
        have e0 : w3.drew.cell? ⟨w.heap.size, 0, none⟩ = some (.string ⟨e.nm.toArray⟩) := by have := HE4.out; simp [World.cell?, this]
        have e1 : w3.drew.cell? ⟨w.heap.size, 1, none⟩ = some (.int .i64 e.m) := by have := HE4.out; simp [World.cell?, this]
        have e2 : w3.drew.cell? ⟨w.heap.size, 2, none⟩ = some (.int .i64 e.d) := by have := HE4.out; simp [World.cell?, this]
        have a0w : w3.cell? ⟨sb, 0, none⟩ = some vE := a0
        have e0w : w3.cell? ⟨w.heap.size, 0, none⟩ = some (.string ⟨e.nm.toArray⟩) := e0
        have e1w : w3.cell? ⟨w.heap.size, 1, none⟩ = some (.int .i64 e.m) := e1
        have e2w : w3.cell? ⟨w.heap.size, 2, none⟩ = some (.int .i64 e.d) := e2
        obtain ⟨av, cv, rfl⟩ := row_shape HR4.out
        go_region_law (refine step_append_at rfl (.tmp 29) (.tmp 31) 41 rfl lo 29 i0 _ 3 32 underlying41 hi hz0 hz1 hz2 rfl (by decide) _ _ _ (by first | rfl | simp [Act.eval, Act.put]) (HR4.out.alloc _) ⟨w3.heap.size, 0, none⟩ 1 1 [.string ⟨e.nm.toArray⟩, .int .i64 e.m, .int .i64 e.d] (by first | rfl | simp [Act.eval, Act.put]) rfl (cells_newK _ _ _) (by simp [Value.oneCell']) (by unfold maxLen; omega) (by omega) (by have := HZ3.out; show lo <= (w3.alloc _).heap.size; rw [World.size_alloc]; omega) ?_; intro v' w5 hown' hgrow hloc; obtain ⟨av', cv', rfl⟩ := row_shape hown'; have HO5 := hideP hown'; have HG5 := hideP hgrow; have HL5 := hideP hloc; have HX5 := hideP ((hgrow.block sb (by show sb < (w3.alloc _).heap.size; rw [World.size_alloc]; omega) (fun e => by have := (HR4.out.lt sb e.symm).1; omega)).trans ((Below.heap_alloc _ _ _ hsl).trans HX4.out)); obtain ⟨⟨b0, b1⟩, ⟨f0, f1⟩, hsl5⟩ := box2 HX5.out; clear hown' hgrow hloc)
        all_goals
          go_wp2_with fail
          go_ret
          have hmr : ∀ q, (Value.slice av es.length cv).ownBlock = some q -> lo <= q := fun q hq => (HR4.out.lt q hq).1
          refine ⟨rfl, .slice av' (es.length + 1) cv', ⟨?_, ?_, ?_⟩, ?_, ?_⟩
          · have := cells_setCell (o := 0) (u := .slice av' (es.length + 1) cv') HX5.out
            simpa using this
          · have := ownsRow_setCell_below HO5.out (a := ⟨sb, 0, none⟩) hs (.slice av' (es.length + 1) cv')
            simpa using this
          · have hx : SetE w3 mb (es ++ [e]) := HS3.out
            refine hx.block ((Below.heap_setCell _ _ _ _ (fun e => hne e.symm)).trans ((HG5.out.block mb (by show mb < (w3.alloc _).heap.size; rw [World.size_alloc]; have := HZ3.out; omega) fun e => by have := hmr mb e.symm; omega).trans (Below.heap_alloc _ _ _ (by show mb < w3.heap.size; have := HZ3.out; omega))))
          · rcases HL5.out with e | e
            · exact .inl e
            · exact .inr ⟨_, e, by show w.heap.size <= (w3.alloc _).heap.size; rw [World.size_alloc]; have := HZ3.out; omega⟩
          · refine Chg.set ?_ hB1 (fun _ => .inl rfl) 0 _
            refine Chg.grown (HC4.out.drew.alloc (by show B <= w3.heap.size; have := HZ3.out; omega) _) HG5.out (by show B <= (w3.alloc _).heap.size; rw [World.size_alloc]; have := HZ3.out; omega) fun q e => ⟨by have := hmr q e; omega, fun _ => .inr (.inr e)⟩
end Go.Proofs.YtgblonhfidoleaaDoor
