/- Part. -/
import Derived.ProofKit
import Derived.OpenShut
import Derived.ShutString
import Derived.ChangeOld
import Derived.LaidMore
import Derived.Stop.Joined
import Derived.Stop.LaidErr
import Derived.Lib.LaidTab
import Derived.Test.YtbnjllkkhhkkaaaGreatDoorCards
import Derived.Test.YtbnjllkkhhkkaaaGreatDoorTie
import Derived.Test.YtbnjllkkhhkkaaaGreatDoorPart17
set_option maxRecDepth 100000
set_option maxHeartbeats 4000000
namespace Go.Proofs.YtbnjllkkhhkkaaaGreatDoor
open Go.Proofs.Tryz
open Go.ChangeShapes Go.WideShapes Go.ChangeAt Go.RowKit
open Go.ChangeMaps (open_string shut_string)
theorem own : ownKnob prog.godebug = none := by kernel_rfl
theorem F9 : laidOutB prog = true := by kernel_rfl
def Mx : List (String × DataW Unit) := Rows.parseExprsRow.laid
theorem Ok (os : Os) (args : Array Value) : laidMetH prog Mx ((World.doorLaid prog 150 os).forCall (fun _ _ => 0) ⟨#[], args, []⟩).memory :=
 laidMetH_of_parts3 (fuel := 8) (laidMet_of_run' 8 (by kernel_rfl) (by kernel_rfl)) (by kernel_rfl) (by kernel_rfl)
def Tu (i : Nat) : String := (Mx.map (·.1)).getD i (toString 0)
theorem S7 : prog.globalNamed (Tu 3) = some 4 := by kernel_rfl
theorem E1 : (prog.globals[4]?).map (·.type) = some 221 := by kernel_rfl
theorem G7 : prog.globalNamed (Tu 4) = some 3 := by kernel_rfl
theorem Cg : (prog.globals[3]?).map (·.type) = some 194 := by kernel_rfl
theorem G8 : prog.globalNamed (Tu 9) = some 6 := by kernel_rfl
theorem zfl : (prog.globals[6]?).map (·.type) = some 236 := by kernel_rfl
theorem Ez : (Rows.laid_gradus_lex_ownWords : DataW Unit) = .agg (Wa.map fun t => .lit (.string t)) := by kernel_rfl
theorem zax : (Rows.laid_gradus_tree_ops : DataW Unit) = .agg (Tc.map fun t => .lit (.string t)) := by kernel_rfl
def B8 (q : Nat × Nat × Nat × Nat × Nat × Nat × Bool) : DataW Unit := .agg [.lit (.int .i64 q.1), .lit (.int .i64 q.2.1), .agg [.lit (.int .i64 q.2.2.1), .lit (.int .i64 q.2.2.2.1)], .agg [.lit (.int .i64 q.2.2.2.2.1), .lit (.int .i64 q.2.2.2.2.2.1)], .lit (.bool q.2.2.2.2.2.2)]
theorem zam : (Rows.laid_gradus_tree_nodeForms : DataW Unit) = .agg ((List.range 20).map fun k => B8 (Ws k)) := by kernel_rfl
theorem Sp {H : Type} {enc : TypeId × Value → H} {w : World} {base : Nat} {sp : Nat → Bool} {held : Bool} {fuel : Nat} {cs : List Value} {p : List MemPlace} {T K : Nat} {L : List (List UInt8)} (ht : prog.underlying T = some (.array K 9)) (hct : prog.cellsOf T = K) (hLK : L.length = K)
  (h : DataW.trod enc prog w base sp held fuel T cs = some (.agg (L.map fun t => .lit (.string t)), p)) : cs = L.map fun t => Value.string ⟨t.toArray⟩ := by
 have hce : prog.cellsOf 9 = 1 := by kernel_rfl
 cases fuel with
 | zero => simp [DataW.trod] at h
 | succ fuel =>
  simp only [DataW.trod, ht, hce, hct, Nat.mul_one] at h
  split at h
  ·rename_i hl
   obtain ⟨xs, hm, hx⟩ := Option.map_eq_some_iff.1 h
   have hxs : xs.map (·.1) = L.map fun t => (DataW.lit (.string t) : DataW H) := by
    have := congrArg Prod.fst hx
    simpa using this
   have hxl : xs.length = K := by simpa using Lib.mapM_length hm
   apply List.ext_getElem?
   intro i
   by_cases hi : i < K
   ·obtain ⟨b, hb, hf⟩ := Lib.mapM_at hm i i (by simp [hi])
    obtain ⟨s, hc, rfl, _⟩ := DataW.trod_string underlying9 hf
    have h1 : cs[i]? = some (.string s) := by
     have := congrArg (·[0]?) hc
     simpa [List.getElem?_take, List.getElem?_drop] using this
    have h2 : (xs.map (·.1))[i]? = some (DataW.lit (.string s.data.toList) : DataW H) := by simp [hb]
    rw [hxs] at h2
    simp only [List.getElem?_map, Option.map_eq_some_iff, DataW.lit.injEq, Lit.string.injEq] at h2
    obtain ⟨t, ht', rfl⟩ := h2
    rw [h1, List.getElem?_map, ht']
    rfl
   ·rw [List.getElem?_eq_none (by omega), List.getElem?_eq_none (by simp only [List.length_map]; omega)]
  ·cases h
section
variable {enc : TypeId × Value → Unit} {w : World} {base : Nat} {sp : Nat → Bool} {held : Bool} {fuel : Nat} {cs : List Value} {p : List MemPlace}
theorem Kp {n : Int} (h : DataW.trod enc prog w base sp held fuel 3 cs = some (.lit (.int .i64 n), p)) : cs = [.int .i64 n] := by
 obtain ⟨m, rfl, e, _⟩ := DataW.trod_int underlying3 h
 simp at e
 rw [e.1]
theorem zaa {b : Bool} (h : DataW.trod enc prog w base sp held fuel 4 cs = some (.lit (.bool b), p)) : cs = [.bool b] := by
 obtain ⟨m, rfl, e⟩ := DataW.trod_bool underlying4 h
 simp at e
 rw [e.1]
theorem P5 {α : Type} {xs : List (DataW Unit × α)} {ds : List (DataW Unit)} {i : Nat} {d : DataW Unit} (h : xs.map (·.1) = ds) (hd : ds[i]? = some d) : ∃ q, xs[i]? = some (d, q) := by
 rw [← h, List.getElem?_map] at hd
 obtain ⟨⟨x, q⟩, e, rfl⟩ := Option.map_eq_some_iff.1 hd
 exact ⟨q, e⟩
theorem two_of {cs : List Value} {a b : Value} (hl : cs.length = 2) (h0 : (cs.drop 0).take 1 = [a]) (h1 : (cs.drop 1).take 1 = [b]) : cs = [a, b] := by
 match cs, hl with
 | [x0, x1], _ =>
  simp at h0 h1
  rw [h0, h1]
theorem zeb {cs : List Value} {a b c d e f g : Value} (hl : cs.length = 7) (h0 : (cs.drop 0).take 1 = [a]) (h1 : (cs.drop 1).take 1 = [b]) (h2 : (cs.drop 2).take 2 = [c, d]) (h3 : (cs.drop 4).take 2 = [e, f]) (h4 : (cs.drop 6).take 1 = [g]) : cs = [a, b, c, d, e, f, g] := by
 match cs, hl with
 | [x0, x1, x2, x3, x4, x5, x6], _ =>
  simp at h0 h1 h2 h3 h4
  rw [h0, h1, h2.1, h2.2, h3.1, h3.2, h4]
theorem A8 {l m : Int} (h : DataW.trod enc prog w base sp held fuel 191 cs = some (.agg [.lit (.int .i64 l), .lit (.int .i64 m)], p)) : cs = [.int .i64 l, .int .i64 m] := by
 obtain ⟨xs, n, _, e, hl, _, hf⟩ := DataW.trod_struct underlying191 h
 have hl2 : cs.length = 2 := hl.trans (by kernel_rfl)
 simp only [Prod.mk.injEq, DataW.agg.injEq] at e
 obtain ⟨q0, e0⟩ := P5 e.1.symm (i := 0) rfl
 obtain ⟨q1, e1⟩ := P5 e.1.symm (i := 1) rfl
 have f0 : (cs.drop 0).take (prog.cellsOf 3) = [.int .i64 l] := Kp ((hf 0 _ rfl).trans e0)
 have f1 : (cs.drop 1).take (prog.cellsOf 3) = [.int .i64 m] := Kp ((hf 1 _ rfl).trans e1)
 have hc : prog.cellsOf 3 = 1 := by kernel_rfl
 rw [hc] at f0 f1
 exact two_of hl2 f0 f1
theorem zge {q : Nat × Nat × Nat × Nat × Nat × Nat × Bool} (h : DataW.trod enc prog w base sp held fuel 193 cs = some (B8 q, p)) : cs = [.int .i64 q.1, .int .i64 q.2.1, .int .i64 q.2.2.1, .int .i64 q.2.2.2.1, .int .i64 q.2.2.2.2.1, .int .i64 q.2.2.2.2.2.1, .bool q.2.2.2.2.2.2] := by
 unfold B8 at h
 obtain ⟨xs, n, _, e, hl, _, hf⟩ := DataW.trod_struct underlying193 h
 have hl2 : cs.length = 7 := hl.trans (by kernel_rfl)
 simp only [Prod.mk.injEq, DataW.agg.injEq] at e
 obtain ⟨q0, e0⟩ := P5 e.1.symm (i := 0) rfl
 obtain ⟨q1, e1⟩ := P5 e.1.symm (i := 1) rfl
 obtain ⟨q2, e2⟩ := P5 e.1.symm (i := 2) rfl
 obtain ⟨q3, e3⟩ := P5 e.1.symm (i := 3) rfl
 obtain ⟨q4, e4⟩ := P5 e.1.symm (i := 4) rfl
 have f0 : (cs.drop 0).take (prog.cellsOf 3) = [.int .i64 q.1] := Kp ((hf 0 _ rfl).trans e0)
 have f1 : (cs.drop 1).take (prog.cellsOf 3) = [.int .i64 q.2.1] := Kp ((hf 1 _ rfl).trans e1)
 have f2 : (cs.drop 2).take (prog.cellsOf 191) = [.int .i64 q.2.2.1, .int .i64 q.2.2.2.1] := A8 ((hf 2 _ rfl).trans e2)
 have f3 : (cs.drop 4).take (prog.cellsOf 191) = [.int .i64 q.2.2.2.2.1, .int .i64 q.2.2.2.2.2.1] := A8 ((hf 3 _ rfl).trans e3)
 have f4 : (cs.drop 6).take (prog.cellsOf 4) = [.bool q.2.2.2.2.2.2] := zaa ((hf 4 _ rfl).trans e4)
 have hc : prog.cellsOf 3 = 1 := by kernel_rfl
 have hc2 : prog.cellsOf 191 = 2 := by kernel_rfl
 have hc3 : prog.cellsOf 4 = 1 := by kernel_rfl
 rw [hc] at f0 f1
 rw [hc2] at f2 f3
 rw [hc3] at f4
 exact zeb hl2 f0 f1 f2 f3 f4
end
theorem zfz {cs L : List Value} {i m r : Nat} (h : (cs.drop (i * m)).take m = L) (hr : r < m) : cs[i * m + r]? = L[r]? := by
 rw [← h, List.getElem?_take, if_pos hr, List.getElem?_drop]
theorem zdz : Mx = [(Tu 0, Rows.laid_math_bits_deBruijn32tab), (Tu 1, Rows.laid_math_bits_deBruijn64tab), (Tu 2, Rows.laid_internal_strconv_uint64pow10), (Tu 3, .agg (Wa.map fun t => .lit (.string t))), (Tu 4, .agg ((List.range 20).map fun k => B8 (Ws k))), (Tu 5, Rows.laid_gradus_tree_typeForms), (Tu 6, Rows.laid_gradus_tree_plainNames), (Tu 7, Rows.laid_gradus_tree_tagNames), (Tu 8, Rows.laid_gradus_tree_boolNames), (Tu 9, .agg (Tc.map fun t => .lit (.string t)))] := by
 rw [← Ez, ← zax, ← zam]
 kernel_rfl
theorem zca {W : World} (h : laidMetH prog Mx W) : Jm W := by
 rw [MakeChecks.laidMetH_plain _ _ _ (by kernel_rfl)] at h
 rw [zdz] at h
 obtain ⟨ps, ⟨g0, t0, cs0, f0, p0, q0, hg0, ht0, hv0, hd0, ⟨g1, t1, cs1, f1, p1, q1, hg1, ht1, hv1, hd1, ⟨g2, t2, cs2, f2, p2, q2, hg2, ht2, hv2, hd2, ⟨g3, t3, cs3, f3, p3, q3, hg3, ht3, hv3, hd3, ⟨g4, t4, cs4, f4, p4, q4, hg4, ht4, hv4, hd4, ⟨g5, t5, cs5, f5, p5, q5, hg5, ht5, hv5, hd5, ⟨g6, t6, cs6, f6, p6, q6, hg6, ht6, hv6, hd6, ⟨g7, t7, cs7, f7, p7, q7, hg7, ht7, hv7, hd7, ⟨g8, t8, cs8, f8, p8, q8, hg8, ht8, hv8, hd8, ⟨g9, t9, cs9, f9, p9, q9, hg9, ht9, hv9, hd9, _, _⟩, _⟩, _⟩, _⟩, _⟩, _⟩, _⟩, _⟩, _⟩, _⟩, _⟩ := h
 obtain rfl := Option.some.inj (S7.symm.trans hg3)
 obtain rfl := Option.some.inj (E1.symm.trans ht3)
 obtain rfl := Option.some.inj (G7.symm.trans hg4)
 obtain rfl := Option.some.inj (Cg.symm.trans ht4)
 obtain rfl := Option.some.inj (G8.symm.trans hg9)
 obtain rfl := Option.some.inj (zfl.symm.trans ht9)
 have c3 : cs3 = (Wa.map fun t => Value.string ⟨t.toArray⟩).toArray := by rw [← Sp underlying221 (by kernel_rfl) (by kernel_rfl) hd3]
 have c9 : cs9 = (Tc.map fun t => Value.string ⟨t.toArray⟩).toArray := by rw [← Sp underlying236 (by kernel_rfl) (by kernel_rfl) hd9]
 subst c3 c9
 have hW : ∀ i, i < 25 → W.cell? ⟨4, i, none⟩ = some (.string (Vf i)) := fun i hi => by
  rw [World.var?_cell S7 hv3 i]
  simp only [List.getElem?_toArray, List.getElem?_map]
  rw [List.getElem?_eq_getElem (show i < Wa.length from hi)]
  unfold Vf
  rw [List.getD_eq_getElem?_getD, List.getElem?_eq_getElem (show i < Wa.length from hi)]
  rfl
 refine ⟨⟨fun k hk => ?_, hW, fun i hi => ?_⟩, hW⟩
 ·obtain ⟨xs, n, _, e, hl, _, hf⟩ := DataW.trod_array underlying194 hd4
  simp only [Prod.mk.injEq, DataW.agg.injEq] at e
  obtain ⟨q, eq⟩ := P5 e.1.symm (i := k) (d := B8 (Ws k)) (by simp [hk])
  have hc := zge ((hf k hk).trans eq)
  have h7 : prog.cellsOf 193 = 7 := by kernel_rfl
  rw [h7] at hc
  have hx : ∀ r, r < 7 → W.cell? ⟨3, k * 7 + r, none⟩ = [Value.int .i64 (Ws k).1, .int .i64 (Ws k).2.1, .int .i64 (Ws k).2.2.1, .int .i64 (Ws k).2.2.2.1, .int .i64 (Ws k).2.2.2.2.1, .int .i64 (Ws k).2.2.2.2.2.1, .bool (Ws k).2.2.2.2.2.2][r]? := fun r hr => by
   rw [World.var?_cell G7 hv4 (k * 7 + r), ← Array.getElem?_toList]
   exact zfz hc hr
  exact ⟨hx 0 (by omega), hx 1 (by omega), hx 2 (by omega), hx 3 (by omega), hx 4 (by omega), hx 5 (by omega), hx 6 (by omega)⟩
 ·rw [World.var?_cell G8 hv9 i]
  simp only [List.getElem?_toArray, List.getElem?_map]
  rw [List.getElem?_eq_getElem (show i < Tc.length from hi)]
  unfold Pv
  rw [List.getD_eq_getElem?_getD, List.getElem?_eq_getElem (show i < Tc.length from hi)]
  rfl
theorem zcy {s : ByteArray} (h : s.data.toList.length ≤ reachBytes) : s.size ≤ 140737488351232 := by
 rw [Yp] at h
 exact h
end Go.Proofs.YtbnjllkkhhkkaaaGreatDoor
namespace Go.Proofs.YtbnjllkkhhkkaaaGreatDoor
open Go.Proofs.Tryz
open Go.RowKit
abbrev Z3 := Nat ⊕ (Int × Nat × Nat)
def eS : Z3 → Int
 | .inl _ => 0
 | .inr p => p.1
def lS : Z3 → Nat
 | .inl _ => 0
 | .inr p => p.2.1
def cS : Z3 → Nat
 | .inl _ => 0
 | .inr p => p.2.2
abbrev rpO (tb n cap a d : Nat) (e : Int) (l c : Nat) : Obj := .cells #[.slice (some ⟨tb, 0, none⟩) n cap, .int .i64 a, .int .i64 d, .int .i64 e, .int .i64 l, .int .i64 c] 106
structure Wg (w : World) (pb tb cap : Nat) (ts : List Tok) (d : Nat) (S : Z3) (a : Nat) : Prop where
 blk : w.heap[pb]? = some (rpO tb ts.length cap a d (eS S) (lS S) (cS S))
 lt : a < ts.length
 live : ∀ b, S = .inl b → b = a
 bad : ∀ p, S = .inr p → p.1 ≠ 0
 tlt : tb < pb
 toks : Q7 w tb ts
section
variable {w w1 : World} {pb tb cap a d : Nat} {ts : List Tok} {S : Z3}
theorem Wg.ltp (h : Wg w pb tb cap ts d S a) : pb < w.heap.size := xB h.blk
theorem Wg.below (h : Wg w pb tb cap ts d S a) (hb : Below w.heap.size w w1) : Wg w1 pb tb cap ts d S a :=
 ⟨(hb.block _ h.ltp).trans h.blk, h.lt, h.live, h.bad, h.tlt, Wj h.toks (hb.block _ (Nat.lt_trans h.tlt h.ltp))⟩
theorem Wg.alloc (h : Wg w pb tb cap ts d S a) (o : Obj) : Wg (w.alloc o) pb tb cap ts d S a := h.below (Zl _ _)
theorem Wg.drew (h : Wg w pb tb cap ts d S a) : Wg w.drew pb tb cap ts d S a := h.below (Below.refl _ _).drew
theorem Wg.cells (h : Wg w pb tb cap ts d S a) : (w.cell? ⟨pb, 0, none⟩ = some (.slice (some ⟨tb, 0, none⟩) ts.length cap) ∧ w.cell? ⟨pb, 1, none⟩ = some (.int .i64 a) ∧ w.cell? ⟨pb, 2, none⟩ = some (.int .i64 d) ∧ w.cell? ⟨pb, 3, none⟩ = some (.int .i64 (eS S)) ∧ w.cell? ⟨pb, 4, none⟩ = some (.int .i64 (lS S)) ∧ w.cell? ⟨pb, 5, none⟩ = some (.int .i64 (cS S))) ∧
  (w.frozen? ⟨pb, 1, none⟩ = false ∧ w.frozen? ⟨pb, 2, none⟩ = false ∧ w.frozen? ⟨pb, 3, none⟩ = false ∧ w.frozen? ⟨pb, 4, none⟩ = false ∧ w.frozen? ⟨pb, 5, none⟩ = false) := by
 refine ⟨⟨?_, ?_, ?_, ?_, ?_, ?_⟩, ?_, ?_, ?_, ?_, ?_⟩
 all_goals first | (rw [cell_of_row _ _ _ _ _ _ h.blk]; rfl) | simp [World.frozen?, h.blk]
end
def Yd (ts : List Tok) : Z3 → List UInt8 → Bool
 | .inl a, s => Zc ts a s
 | .inr _, _ => false
theorem zcd {w : World} {pb tb cap a d : Nat} {ts : List Tok} {S : Z3} (h : Wg w pb tb cap ts d S a) (s : List UInt8) : Yd ts S s = ((eS S == 0) && Zc ts a s) := by
 cases S with
 | inl b => rw [h.live b rfl]; rfl
 | inr p =>
  have := h.bad p rfl
  unfold Yd eS
  simp [this]
theorem zbi (pb tb cap a d : Nat) (ts : List Tok) (S : Z3) (s : List UInt8) (w : World) (h : Wg w pb tb cap ts d S a) :
  Calls prog 124 #[.pointer (some ⟨pb, 0, none⟩), .string ⟨s.toArray⟩] w fun e w' => e = .returned (.bool (Yd ts S s)) ∧ Below w.heap.size w w' := by
 rw [zcd h s]
 obtain ⟨⟨c0, c1, c2, c3, c4, c5⟩, _⟩ := h.cells
 obtain ⟨q0, q1, q2, q3⟩ := h.toks a h.lt
 have hal : (a : Int) < (ts.length : Int) := by have := h.lt; omega
 have hpl := h.ltp
 have htl := Nat.lt_trans h.tlt h.ltp
 generalize eS S = es at c3 ⊢
 unfold Zc
 generalize Zg ts a = t at q0 q1 q2 q3 ⊢
 obtain ⟨tk, tt, tl, tc⟩ := t
 simp only at q0 q1 q2 q3 ⊢
 obtain ⟨r, hr⟩ := xE ((es == 0 && ((tk == 2 || tk == 5) && tt == s)))
 rw [← hr]
 have HR := Za hr
 obtain ⟨S0, hS0⟩ : ∃ S0 : ByteArray, S0 = ⟨tt.toArray⟩ := ⟨_, rfl⟩
 obtain ⟨S1, hS1⟩ : ∃ S1 : ByteArray, S1 = ⟨s.toArray⟩ := ⟨_, rfl⟩
 have HQ : xQ ((tt == s) = (S0.toList == S1.toList)) := by
  show _ = _
  cases hq : (S0.toList == S1.toList) with
  | true =>
   have := Qn.1 hq
   rw [hS0, hS1] at this
   simpa using this
  | false =>
   have := M4 hq
   rw [hS0, hS1] at this
   simpa using this
 rw [← hS0] at q1
 rw [← hS1]
 clear c2 c4 c5 h hr hS0 hS1
 have HS : xQ (∀ W, Below w.heap.size w W → W.cell? ⟨pb, 0, none⟩ = some (.slice (some ⟨tb, 0, none⟩) ts.length cap) ∧ W.cell? ⟨pb, 1, none⟩ = some (.int .i64 a) ∧ W.cell? ⟨tb, a * 4, none⟩ = some (.int .i64 tk) ∧ W.cell? ⟨tb, a * 4 + 1, none⟩ = some (.string S0) ∧ W.cell? ⟨tb, a * 4 + 2, none⟩ = some (.int .i64 tl) ∧ W.cell? ⟨tb, a * 4 + 3, none⟩ = some (.int .i64 tc)) := fun W hW =>
  ⟨(hW.cell (p := ⟨pb, 0, none⟩) hpl).trans c0, (hW.cell (p := ⟨pb, 1, none⟩) hpl).trans c1, (hW.cell (p := ⟨tb, a * 4, none⟩) htl).trans q0, (hW.cell (p := ⟨tb, a * 4 + 1, none⟩) htl).trans q1, (hW.cell (p := ⟨tb, a * 4 + 2, none⟩) htl).trans q2, (hW.cell (p := ⟨tb, a * 4 + 3, none⟩) htl).trans q3⟩
 have hSS := HS.o w.drew (Below.refl _ _).drew
 have HS1 : xQ (∀ o, _) := fun o => HS.o ((w.alloc o).drew) (Zl w o).drew
 have HE : xQ (∀ W, Below w.heap.size w W → W.cell? ⟨pb, 3, none⟩ = some (.int .i64 es)) := fun W hW => (hW.cell (p := ⟨pb, 3, none⟩) hpl).trans c3
 clear c0 c1 c3 q0 q1 q2 q3
 go_enter func124, ntmps124
 go_wp2_with fail
 go_region_held (fun W => W.cell? ⟨pb, 0, none⟩ = some (.slice (some ⟨tb, 0, none⟩) ts.length cap) ∧ W.cell? ⟨pb, 1, none⟩ = some (.int .i64 a) ∧ W.cell? ⟨tb, a * 4, none⟩ = some (.int .i64 tk) ∧ W.cell? ⟨tb, a * 4 + 1, none⟩ = some (.string S0) ∧ W.cell? ⟨tb, a * 4 + 2, none⟩ = some (.int .i64 tl) ∧ W.cell? ⟨tb, a * 4 + 3, none⟩ = some (.int .i64 tc)) (first | with_reducible assumption | with_reducible exact HS1.o _) (fail)
 have HB : xQ (Below w.heap.size w (w.alloc (.cells #[.int .i64 tk, .string S0, .int .i64 tl, .int .i64 tc] 108)).drew) := (Zl w _).drew
 have HT : xQ ((w.alloc (.cells #[.int .i64 tk, .string S0, .int .i64 tl, .int .i64 tc] 108)).drew.heap[w.heap.size]? = some (.cells #[.int .i64 tk, .string S0, .int .i64 tl, .int .i64 tc] 108)) := xL _ _
 generalize (w.alloc (.cells #[.int .i64 tk, .string S0, .int .i64 tl, .int .i64 tc] 108)).drew = W1 at HB HT ⊢
 clear hSS HS1 HS
 obtain ⟨⟨t0, t1, t2, t3⟩, _, htl1⟩ := Zr HT.o
 have hE := HE.o _ HB.o
 have HR2 : xQ (r = (es == 0 && ((tk == 2 || tk == 5) && (S0.toList == S1.toList)))) := by rw [← HQ.o]; exact HR.o
 clear HR HQ
 cases he : (es == 0) with
 | false =>
  obtain rfl : r = false := by rw [HR2.o, he]; rfl
  go_wp2_with fail
  go_ret
  exact ⟨rfl, HB.o⟩
 | true =>
  cases hk2 : (tk == 2) with
  | true =>
   obtain rfl : r = (S0.toList == S1.toList) := by rw [HR2.o, he, hk2]; rfl
   go_wp2_with fail
   go_ret
   exact ⟨rfl, HB.o⟩
  | false =>
   cases hk5 : (tk == 5) with
   | true =>
    obtain rfl : r = (S0.toList == S1.toList) := by rw [HR2.o, he, hk2, hk5]; rfl
    go_wp2_with fail
    go_ret
    exact ⟨rfl, HB.o⟩
   | false =>
    obtain rfl : r = false := by rw [HR2.o, he, hk2, hk5]; rfl
    go_wp2_with fail
    go_ret
    exact ⟨rfl, HB.o⟩
def Zf {α : Type} (K : Nat → Pr α) : Z3 → Pr α
 | .inl a => K a
 | .inr p => .inr p
def Zd {α : Type} : Pr α → Z3
 | .inl (_, b) => .inl b
 | .inr p => .inr p
def Wy : Z3 → Z3
 | .inl a => .inl (a + 1)
 | .inr p => .inr p
def P2 (ts : List Tok) (e : Int) : Z3 → Z3
 | .inl a => .inr (e, (Zg ts a).line, (Zg ts a).col)
 | .inr p => .inr p
def Zp (w : World) (pb tb cap : Nat) (ts : List Tok) (d : Nat) (S : Z3) : Prop := ∃ a, Wg w pb tb cap ts d S a
theorem Zp.below {w w1 : World} {pb tb cap d : Nat} {ts : List Tok} {S : Z3} (h : Zp w pb tb cap ts d S) (hb : Below w.heap.size w w1) : Zp w1 pb tb cap ts d S := by
 obtain ⟨a, h⟩ := h
 exact ⟨a, h.below hb⟩
section
variable {w : World} {pb tb cap a b d : Nat} {ts : List Tok}
theorem Wg.setAt (h : Wg w pb tb cap ts d (.inl a) a) (hb : b < ts.length) : Wg (w.setCell ⟨pb, 1, none⟩ (.int .i64 b)) pb tb cap ts d (.inl b) b :=
 ⟨Z9 h.blk, hb, (fun _ e => Sum.inl.inj e.symm), (fun _ e => nomatch e), h.tlt, Wj h.toks (xH (by show tb ≠ pb; have := h.tlt; omega))⟩
theorem Wg.setDeep {S : Z3} (h : Wg w pb tb cap ts d S a) (n : Nat) : Wg (w.setCell ⟨pb, 2, none⟩ (.int .i64 n)) pb tb cap ts n S a :=
 ⟨Z9 h.blk, h.lt, h.live, h.bad, h.tlt, Wj h.toks (xH (by show tb ≠ pb; have := h.tlt; omega))⟩
theorem Wg.failed (h : Wg w pb tb cap ts d (.inl a) a) {e : Int} (he : e ≠ 0) (l c : Nat) : Wg (((w.setCell ⟨pb, 3, none⟩ (.int .i64 e)).setCell ⟨pb, 4, none⟩ (.int .i64 l)).setCell ⟨pb, 5, none⟩ (.int .i64 c)) pb tb cap ts d (.inr (e, l, c)) a := by
 have hne : tb ≠ pb := by have := h.tlt; omega
 have h3 := Z9 (o := 3) (u := .int .i64 e) h.blk
 have h4 := Z9 (o := 4) (u := .int .i64 l) h3
 have h5 := Z9 (o := 5) (u := .int .i64 c) h4
 refine ⟨by simpa [eS, lS, cS] using h5, h.lt, (fun _ e => nomatch e), (fun p hp => ?_), h.tlt, Wj h.toks ?_⟩
 ·obtain rfl := Sum.inr.inj hp
  exact he
 ·rw [xH hne, xH hne, xH hne]
end
theorem Y5 (pb tb cap d : Nat) (ts : List Tok) (S : Z3) (s : List UInt8) (w : World) (h : Zp w pb tb cap ts d S) (ok : Z0 ts) :
  Calls prog 67 #[.pointer (some ⟨pb, 0, none⟩), .string ⟨s.toArray⟩] w fun e w' => e = .returned (.bool (Yd ts S s)) ∧ Zj pb w w' ∧ Zp w' pb tb cap ts d (if Yd ts S s then Wy S else S) := by
 obtain ⟨a, h⟩ := h
 have HC := Za (zbi pb tb cap a d ts S s w h)
 have H := Za h
 have OK := Za ok
 clear h ok
 cases hq : Yd ts S s with
 | false =>
  rw [hq] at HC
  clear hq
  go_enter func67, ntmps67
  go_wp2_with fail
  refine HC.o.mono ?_
  rintro e w1 ⟨rfl, hb1⟩
  have HB := Za hb1
  clear hb1
  go_wp2_with fail
  go_ret
  exact ⟨rfl, Zj.of H.o.ltp HB.o, a, H.o.below HB.o⟩
 | true =>
  have hS : S = .inl a ∧ a + 1 < ts.length := by
   cases S with
   | inr p => cases hq
   | inl b =>
    have e := H.o.live b rfl
    subst e
    exact ⟨rfl, Wz OK.o.ends H.o.lt hq⟩
  obtain ⟨rfl, hal⟩ := hS
  rw [hq] at HC
  clear hq
  have ha9 : a < 8193 := by have := OK.o.len; omega
  go_enter func67, ntmps67
  go_wp2_with fail
  refine HC.o.mono ?_
  rintro e w1 ⟨rfl, hb1⟩
  have H1 := Za (H.o.below hb1)
  have HS := Za (Zj.of H.o.ltp hb1)
  clear hb1
  obtain ⟨⟨c0, c1, c2, c3, c4, c5⟩, f1, f2, f3, f4, f5⟩ := H1.o.cells
  go_wp2_with fail
  go_ret
  exact ⟨rfl, HS.o.set 1 _, a + 1, H1.o.setAt (b := a + 1) hal⟩
theorem Nz (pb tb cap d : Nat) (ts : List Tok) (S : Z3) (e : Int) (he : e ≠ 0) (w : World) (h : Zp w pb tb cap ts d S) :
  Calls prog 61 #[.pointer (some ⟨pb, 0, none⟩), .int .i64 e] w fun r w' => r = .returned (.tuple #[]) ∧ Zj pb w w' ∧ Zp w' pb tb cap ts d (P2 ts e S) := by
 obtain ⟨a, h⟩ := h
 have H := Za h
 obtain ⟨⟨c0, c1, c2, c3, c4, c5⟩, f1, f2, f3, f4, f5⟩ := h.cells
 obtain ⟨q0, q1, q2, q3⟩ := h.toks a h.lt
 have hal : (a : Int) < (ts.length : Int) := by have := h.lt; omega
 have hpl := h.ltp
 have htl := Nat.lt_trans h.tlt h.ltp
 have hne : ¬ tb = pb := by have := h.tlt; omega
 cases S with
 | inr p =>
  have hp0 : (p.1 == 0) = false := by have := h.bad p rfl; simpa using this
  simp only [eS, lS, cS] at c3 c4 c5
  clear h
  go_enter func61, ntmps61
  go_wp2_with fail
  go_end0
  exact ⟨rfl, Zj.refl _ _, a, H.o⟩
 | inl b =>
  have e1 := h.live b rfl
  subst e1
  simp only [eS, lS, cS] at c3 c4 c5
  clear h
  go_enter func61, ntmps61
  go_wp2_with fail
  go_region
  all_goals
   go_wp2_with fail
   go_region
   all_goals
    go_wp2_with fail
    go_end0
    exact ⟨rfl, ((((Zj.refl pb w).set 3 _).set 4 _).set 5 _).drew.drew, b, ((H.o.failed he _ _).drew).drew⟩
theorem Xx (pb tb cap d : Nat) (ts : List Tok) (S : Z3) (s : List UInt8) (w : World) (h : Zp w pb tb cap ts d S) (ok : Z0 ts) :
  Calls prog 118 #[.pointer (some ⟨pb, 0, none⟩), .string ⟨s.toArray⟩] w fun r w' => r = .returned (.tuple #[]) ∧ Zj pb w w' ∧ Zp w' pb tb cap ts d (Zd (Zf (fun a => Zb ts a s) S)) := by
 have HC := Za (Y5 pb tb cap d ts S s w h ok)
 have hS : Zd (Zf (fun a => Zb ts a s) S) = if Yd ts S s then Wy S else P2 ts 7 S := by
  cases S with
  | inr p => rfl
  | inl a =>
   show Zd (if Zc ts a s then _ else _) = if Zc ts a s then _ else _
   cases Zc ts a s <;> rfl
 rw [hS]
 clear h ok hS
 cases hq : Yd ts S s with
 | true =>
  rw [hq, if_pos rfl] at HC
  clear hq
  go_enter func118, ntmps118
  go_wp2_with fail
  refine HC.o.mono ?_
  rintro e w1 ⟨rfl, hst, hat⟩
  have HF := Za (And.intro hst hat)
  clear hst hat
  go_wp2_with fail
  go_end0
  exact ⟨rfl, HF.o.1, HF.o.2⟩
 | false =>
  rw [hq, if_neg (by simp)] at HC
  clear hq
  go_enter func118, ntmps118
  go_wp2_with fail
  refine HC.o.mono ?_
  rintro e w1 ⟨rfl, hst, hat⟩
  have HF := Za (And.intro hst hat)
  clear hst hat
  go_wp2_with fail
  refine (Nz pb tb cap d ts S 7 (by decide) w1 HF.o.2).mono ?_
  rintro e w2 ⟨rfl, hst, hat⟩
  have HG := Za (And.intro (HF.o.1.trans hst) hat)
  clear hst hat
  go_wp2_with fail
  go_end0
  exact ⟨rfl, HG.o.1, HG.o.2⟩
def Y1 : Pr (List UInt8) → List UInt8
 | .inl (s, _) => s
 | .inr _ => []
theorem Qm (pb tb cap d : Nat) (ts : List Tok) (S : Z3) (w : World) (h : Zp w pb tb cap ts d S) (ok : Z0 ts) :
  Calls prog 116 #[.pointer (some ⟨pb, 0, none⟩)] w fun r w' => r = .returned (.string ⟨(Y1 (Zf (Zm ts) S)).toArray⟩) ∧ Zj pb w w' ∧ Zp w' pb tb cap ts d (Zd (Zf (Zm ts) S)) := by
 obtain ⟨a, h⟩ := h
 have H := Za h
 have OK := Za ok
 obtain ⟨⟨c0, c1, c2, c3, c4, c5⟩, f1, f2, f3, f4, f5⟩ := h.cells
 obtain ⟨q0, q1, q2, q3⟩ := h.toks a h.lt
 have hal : (a : Int) < (ts.length : Int) := by have := h.lt; omega
 have hpl := h.ltp
 have htl := Nat.lt_trans h.tlt h.ltp
 have hS : (∃ b, S = .inl b ∧ b = a) ∨ ∃ p, S = .inr p ∧ (p.1 == 0) = false := by
  cases S with
  | inl b => exact .inl ⟨b, rfl, h.live b rfl⟩
  | inr p => exact .inr ⟨p, rfl, by have := h.bad p rfl; simpa using this⟩
 obtain ⟨t, ht⟩ := xE (Zg ts a)
 rw [← ht] at q0 q1 q2 q3
 obtain ⟨es, hes⟩ := xE (eS S)
 rw [← hes] at c3
 have HES := Za hes
 have HT := Za ht
 clear ht hes
 have HS : xQ (∀ W, Below w.heap.size w W → W.cell? ⟨pb, 0, none⟩ = some (.slice (some ⟨tb, 0, none⟩) ts.length cap) ∧ W.cell? ⟨pb, 1, none⟩ = some (.int .i64 a) ∧ W.cell? ⟨tb, a * 4, none⟩ = some (.int .i64 t.kind) ∧ W.cell? ⟨tb, a * 4 + 1, none⟩ = some (.string ⟨t.text.toArray⟩) ∧ W.cell? ⟨tb, a * 4 + 2, none⟩ = some (.int .i64 t.line) ∧ W.cell? ⟨tb, a * 4 + 3, none⟩ = some (.int .i64 t.col)) := fun W hW =>
  ⟨(hW.cell (p := ⟨pb, 0, none⟩) hpl).trans c0, (hW.cell (p := ⟨pb, 1, none⟩) hpl).trans c1, (hW.cell (p := ⟨tb, a * 4, none⟩) htl).trans q0, (hW.cell (p := ⟨tb, a * 4 + 1, none⟩) htl).trans q1, (hW.cell (p := ⟨tb, a * 4 + 2, none⟩) htl).trans q2, (hW.cell (p := ⟨tb, a * 4 + 3, none⟩) htl).trans q3⟩
 have hSS := HS.o w.drew (Below.refl _ _).drew
 have HS1 : xQ (∀ o, _) := fun o => HS.o ((w.alloc o).drew) (Zl w o).drew
 obtain ⟨R, hR⟩ := xE (Zf (Zm ts) S)
 rw [← hR]
 have HR := Za hR
 have HSe := Za hS
 clear c0 c1 c2 c3 c4 c5 q0 q1 q2 q3 h ok hR hS f1 f2 f3 f4 f5
 go_enter func116, ntmps116
 go_wp2_with fail
 go_region_held (fun W => W.cell? ⟨pb, 0, none⟩ = some (.slice (some ⟨tb, 0, none⟩) ts.length cap) ∧ W.cell? ⟨pb, 1, none⟩ = some (.int .i64 a) ∧ W.cell? ⟨tb, a * 4, none⟩ = some (.int .i64 t.kind) ∧ W.cell? ⟨tb, a * 4 + 1, none⟩ = some (.string ⟨t.text.toArray⟩) ∧ W.cell? ⟨tb, a * 4 + 2, none⟩ = some (.int .i64 t.line) ∧ W.cell? ⟨tb, a * 4 + 3, none⟩ = some (.int .i64 t.col)) (first | with_reducible assumption | with_reducible exact HS1.o _) (fail)
 have HB : xQ (Below w.heap.size w (w.alloc (Zk t)).drew) := (Zl w _).drew
 have HTb : xQ ((w.alloc (Zk t)).drew.heap[w.heap.size]? = some (Zk t)) := xL _ _
 generalize (w.alloc (Zk t)).drew = W1 at HB HTb ⊢
 clear hSS HS1 HS
 have H1 := Za (H.o.below HB.o)
 obtain ⟨⟨t0, t1, t2, t3⟩, _, htl1⟩ := Zr HTb.o
 obtain ⟨⟨c0, c1, c2, c3, c4, c5⟩, f1, f2, f3, f4, f5⟩ := H1.o.cells
 rw [← HES.o] at c3
 rcases HSe.o with ⟨b, hSb, rfl⟩ | ⟨p, hSp, hp0⟩
 ·obtain rfl : es = 0 := by rw [HES.o, hSb]; rfl
  have HRt : xQ (R = if t.kind == 1 then .inl (t.text, b + 1) else Ys ts 7 b) := by rw [HR.o, hSb, HT.o]; exact rfl
  have HSb := Za hSb
  clear hSb c4 c5
  cases hk : (t.kind == 1) with
  | true =>
   have hbl : b + 1 < ts.length := by
    have := Iz OK.o.ends H1.o.lt
    unfold Zm at this
    rw [← HT.o, hk] at this
    exact this
   have hb9 : b < 8193 := by have := OK.o.len; omega
   have HRi : xQ (R = .inl (t.text, b + 1)) := by rw [HRt.o, hk]; rfl
   go_wp2_with fail
   go_ret
   rw [HRi.o]
   have h2 := H1.o
   rw [HSb.o] at h2
   exact ⟨rfl, (Zj.of H.o.ltp HB.o).set 1 _, b + 1, h2.setAt (b := b + 1) hbl⟩
  | false =>
   have HRi : xQ (R = Ys ts 7 b) := by rw [HRt.o, hk]; rfl
   go_wp2_with fail
   refine (Nz pb tb cap d ts S 7 (by decide) W1 ⟨_, H1.o⟩).mono ?_
   rintro e w2 ⟨rfl, hst, hat⟩
   have HG := Za (And.intro ((Zj.of H.o.ltp HB.o).trans hst) hat)
   clear hst hat
   go_wp2_with fail
   go_ret
   rw [HRi.o]
   have h2 := HG.o.2
   rw [HSb.o] at h2
   exact ⟨rfl, HG.o.1, h2⟩
 ·have : es = p.1 := by rw [HES.o, hSp]; rfl
  rw [← this] at hp0
  have HRi : xQ (R = .inr p) := by rw [HR.o, hSp]; rfl
  have HSp := Za hSp
  clear hSp this c4 c5
  go_wp2_with fail
  refine (Nz pb tb cap d ts S 7 (by decide) W1 ⟨_, H1.o⟩).mono ?_
  rintro e w2 ⟨rfl, hst, hat⟩
  have HG := Za (And.intro ((Zj.of H.o.ltp HB.o).trans hst) hat)
  clear hst hat
  go_wp2_with fail
  go_ret
  rw [HRi.o]
  have h2 := HG.o.2
  rw [HSp.o] at h2
  exact ⟨rfl, HG.o.1, h2⟩
def U3 (d : Nat) : Z3 → Bool
 | .inl _ => decide (d < 100)
 | .inr _ => false
def Vg (ts : List Tok) (d : Nat) (S : Z3) : Z3 := if 100 ≤ d then P2 ts 6 S else S
theorem J5 (pb tb cap d : Nat) (ts : List Tok) (S : Z3) (hd : d ≤ 1000) (w : World) (h : Zp w pb tb cap ts d S) :
  Calls prog 59 #[.pointer (some ⟨pb, 0, none⟩)] w fun r w' => r = .returned (.bool (U3 d S)) ∧ Zj pb w w' ∧ Zp w' pb tb cap ts (if U3 d S then d + 1 else d) (Vg ts d S) := by
 obtain ⟨a, h⟩ := h
 have H := Za h
 obtain ⟨⟨c0, c1, c2, c3, c4, c5⟩, f1, f2, f3, f4, f5⟩ := h.cells
 by_cases h100 : 100 ≤ d
 ·have hge : (100 : Int) ≤ (d : Int) := by omega
  have e1 : Vg ts d S = P2 ts 6 S := if_pos h100
  have e2 : U3 d S = false := by cases S <;> simp [U3]; omega
  have e3 : ∀ w', Zp w' pb tb cap ts d (P2 ts 6 S) → ∃ a x l c, Wg w' pb tb cap ts d (.inr (x, l, c)) a ∧ (x == 0) = false ∧ P2 ts 6 S = .inr (x, l, c) := by
   rintro w' ⟨a, hr⟩
   cases hf : P2 ts 6 S with
   | inl b => cases S <;> cases hf
   | inr p =>
    rw [hf] at hr
    obtain ⟨x, l, c⟩ := p
    exact ⟨a, x, l, c, hr, by have := hr.bad _ rfl; simpa using this, rfl⟩
  rw [e1, e2, if_neg (by simp)]
  have HF := Za e3
  clear e1 e2 e3 h
  go_enter func59, ntmps59
  go_wp2_with fail
  refine (Nz pb tb cap d ts S 6 (by decide) w ⟨_, H.o⟩).mono ?_
  rintro e w2 ⟨rfl, hst, hat⟩
  obtain ⟨b, x, l, c, hr, hx, he⟩ := HF.o w2 hat
  have HG := Za (And.intro hst hat)
  obtain ⟨⟨g0, g1, g2, g3, g4, g5⟩, _⟩ := hr.cells
  simp only [eS] at g3
  clear hst hat hr he
  go_wp2_with fail
  go_ret
  exact ⟨rfl, HG.o.1, HG.o.2⟩
 ·have hlt : ¬ (100 : Int) ≤ (d : Int) := by omega
  have e1 : Vg ts d S = S := if_neg h100
  rw [e1]
  clear e1
  cases S with
  | inr p =>
   have hp0 : (p.1 == 0) = false := by have := h.bad p rfl; simpa using this
   simp only [eS] at c3
   show Calls _ _ _ _ fun r w' => r = .returned (.bool false) ∧ Zj pb w w' ∧ Zp w' pb tb cap ts d (.inr p)
   clear h
   go_enter func59, ntmps59
   go_wp2_with fail
   go_ret
   exact ⟨rfl, Zj.refl _ _, a, H.o⟩
  | inl b =>
   have e2 : U3 d (.inl b) = true := by simp [U3]; omega
   rw [e2, if_pos rfl]
   simp only [eS] at c3
   clear h e2
   go_enter func59, ntmps59
   go_wp2_with fail
   go_ret
   exact ⟨rfl, (Zj.refl _ _).set 2 _, a, H.o.setDeep (d + 1)⟩
end Go.Proofs.YtbnjllkkhhkkaaaGreatDoor
namespace Go.Proofs.YtbnjllkkhhkkaaaGreatDoor
open Go.Proofs.Tryz
open Go.RowKit
attribute [local go_sem ↓] Go.wp_at_zero Go.wp_at_succ
def Ud (lo : Nat) (w : World) (v : Value) (R : Pr Ty) : Prop := ∀ x b, R = .inl (x, b) → Zt lo w v x
section
variable {lo lo' pb b o : Nat} {w w' : World} {v : Value} {R : Pr Ty}
theorem Ud.keep (h : Ud lo w v R) (hs : w.heap.size ≤ w'.heap.size) (hk : ∀ b, lo ≤ b → b < w.heap.size → w'.heap[b]? = w.heap[b]?) : Ud lo w' v R := fun x b e => (h x b e).keep hs hk
theorem Ud.lower (h : Ud lo w v R) (hl : lo' ≤ lo) : Ud lo' w v R := fun x b e => (h x b e).lower hl
theorem Ud.stay (h : Ud lo w v R) (hs : Zj pb w w') (hp : pb < lo) : Ud lo w' v R := fun x b e => (h x b e).stay hs hp
theorem Ud.alloc (h : Ud lo w v R) (o : Obj) : Ud lo (w.alloc o) v R := fun x b e => (h x b e).alloc o
end
def Vn (pb tb cap : Nat) (ts : List Tok) (d : Nat) (w : World) (R : Pr Ty) (e : Ending) (w' : World) : Prop :=
 Zj pb w w' ∧ Zp w' pb tb cap ts d (Zd R) ∧ ∃ (k : Int) (nm : ByteArray) (na : Option Addr) (nl nc : Nat) (ka : Option Addr) (kl kc : Nat), e = .returned (.agg #[.int .i64 k, .string nm, .slice na nl nc, .slice ka kl kc]) ∧ Ud w.heap.size w' (.agg #[.int .i64 k, .string nm, .slice na nl nc, .slice ka kl kc]) R
theorem Zp.alloc {w : World} {pb tb cap d : Nat} {ts : List Tok} {S : Z3} (h : Zp w pb tb cap ts d S) (o : Obj) : Zp (w.alloc o) pb tb cap ts d S := h.below (Zl _ _)
theorem Zp.drew {w : World} {pb tb cap d : Nat} {ts : List Tok} {S : Z3} (h : Zp w pb tb cap ts d S) : Zp w.drew pb tb cap ts d S := h.below (Below.refl _ _).drew
theorem Zp.ltp {w : World} {pb tb cap d : Nat} {ts : List Tok} {S : Z3} (h : Zp w pb tb cap ts d S) : pb < w.heap.size := by
 obtain ⟨a, h⟩ := h
 exact h.ltp
theorem Zp.other {w : World} {pb tb cap d b : Nat} {ts : List Tok} {S : Z3} (h : Zp w pb tb cap ts d S) (hb : pb < b) (o : Nat) (u : Value) : Zp (w.setCell ⟨b, o, none⟩ u) pb tb cap ts d S := by
 obtain ⟨a, h⟩ := h
 exact ⟨a, (xH (by show pb ≠ b; omega)).trans h.blk, h.lt, h.live, h.bad, h.tlt, Wj h.toks (xH (by show tb ≠ b; have := h.tlt; omega))⟩
theorem Zp.setDeep {w : World} {pb tb cap d : Nat} {ts : List Tok} {S : Z3} (h : Zp w pb tb cap ts d S) (n : Nat) : Zp (w.setCell ⟨pb, 2, none⟩ (.int .i64 n)) pb tb cap ts n S := by
 obtain ⟨a, h⟩ := h
 exact ⟨a, h.setDeep n⟩
theorem Zp.deep {w : World} {pb tb cap d : Nat} {ts : List Tok} {S : Z3} (h : Zp w pb tb cap ts d S) : w.cell? ⟨pb, 2, none⟩ = some (.int .i64 d) ∧ w.frozen? ⟨pb, 2, none⟩ = false := by
 obtain ⟨a, h⟩ := h
 exact ⟨h.cells.1.2.2.1, h.cells.2.2.1⟩
structure RX (pb tb cap : Nat) (ts : List Tok) (w0 w : World) (d : Nat) (S : Z3) (bx : List (Nat × Obj)) : Prop where
 st : Zj pb w0 w
 at_ : Zp w pb tb cap ts d S
 hp : pb < w0.heap.size
 has : ∀ p ∈ bx, w.heap[p.1]? = some p.2 ∧ w0.heap.size ≤ p.1
section
variable {pb tb cap d d' b : Nat} {ts : List Tok} {w0 w w' : World} {S S' : Z3} {bx : List (Nat × Obj)} {o : Obj}
theorem U4 (h : Zp w0 pb tb cap ts d S) (o : Obj) : RX pb tb cap ts w0 (w0.alloc o) d S [(w0.heap.size, o)] :=
 ⟨Zj.of h.ltp (Zl _ _), h.alloc _, h.ltp, fun p hp => by rw [List.mem_singleton.1 hp]; exact ⟨xL _ _, xR⟩⟩
theorem RX.step (h : RX pb tb cap ts w0 w d S bx) (hst : Zj pb w w') (hat : Zp w' pb tb cap ts d' S') : RX pb tb cap ts w0 w' d' S' bx :=
 ⟨h.st.trans hst, hat, h.hp, fun p hp => ⟨(hst.keep p.1 (by have := (h.has p hp).2; have := h.hp; omega) (xB (h.has p hp).1)).trans (h.has p hp).1, (h.has p hp).2⟩⟩
theorem RX.alloc (h : RX pb tb cap ts w0 w d S bx) (o : Obj) : RX pb tb cap ts w0 (w.alloc o) d S ((w.heap.size, o) :: bx) := by
 have h1 := h.step (Zj.of h.at_.ltp (Zl w o)) (h.at_.alloc o)
 refine ⟨h1.st, h1.at_, h1.hp, fun p hp => ?_⟩
 rcases List.mem_cons.1 hp with rfl | hp
 ·exact ⟨xL _ _, h.st.size⟩
 ·exact h1.has p hp
theorem RX.drew (h : RX pb tb cap ts w0 w d S bx) : RX pb tb cap ts w0 w.drew d S bx := ⟨h.st.drew, h.at_.drew, h.hp, h.has⟩
theorem RX.deep (h : RX pb tb cap ts w0 w d S bx) (n : Nat) : RX pb tb cap ts w0 (w.setCell ⟨pb, 2, none⟩ (.int .i64 n)) n S bx :=
 ⟨h.st.set 2 _, h.at_.setDeep n, h.hp, fun p hp => ⟨(xH (by show p.1 ≠ pb; have := (h.has p hp).2; have := h.hp; omega)).trans (h.has p hp).1, (h.has p hp).2⟩⟩
theorem RX.box (h : RX pb tb cap ts w0 w d S bx) {p : Nat × Obj} (hp : p ∈ bx) : w.heap[p.1]? = some p.2 := (h.has p hp).1
end
theorem Zp.set4 {w : World} {pb tb cap d b : Nat} {ts : List Tok} {S : Z3} (h : Zp w pb tb cap ts d S) (hb : pb < b) (x0 x1 x2 x3 : Value) : Zp ((((w.setCell ⟨b, 0, none⟩ x0).setCell ⟨b, 1, none⟩ x1).setCell ⟨b, 2, none⟩ x2).setCell ⟨b, 3, none⟩ x3) pb tb cap ts d S :=
 (((h.other hb 0 _).other hb 1 _).other hb 2 _).other hb 3 _
theorem rkids2 {lo g : Nat} {w : World} {a0 a1 a2 a3 e0 e1 e2 e3 : Value} {D1 D2 : Ty} {ty : TypeId} (h1 : Zt lo w (.agg #[a0, a1, a2, a3]) D1) (h2 : Zt lo w (.agg #[e0, e1, e2, e3]) D2) (hg : w.heap[g]? = some (.cells #[a0, a1, a2, a3, e0, e1, e2, e3] ty)) (hl : lo ≤ g) : ∃ m, Xw w lo m (some ⟨g, 0, none⟩) [D1, D2] := by
 obtain ⟨m1, h1⟩ := h1
 obtain ⟨m2, h2⟩ := h2
 refine ⟨max m1 m2, .inr ⟨g, 0, rfl, hl, ⟨_, _, hg⟩, fun i hi => ?_⟩⟩
 match i, hi with
 | 0, _ => exact ⟨a0, a1, a2, a3, by rw [cell_of_row _ _ _ _ _ _ hg]; rfl, by rw [cell_of_row _ _ _ _ _ _ hg]; rfl, by rw [cell_of_row _ _ _ _ _ _ hg]; rfl, by rw [cell_of_row _ _ _ _ _ _ hg]; rfl, Pw h1 (Nat.le_max_left _ _)⟩
 | 1, _ => exact ⟨e0, e1, e2, e3, by rw [cell_of_row _ _ _ _ _ _ hg]; rfl, by rw [cell_of_row _ _ _ _ _ _ hg]; rfl, by rw [cell_of_row _ _ _ _ _ _ hg]; rfl, by rw [cell_of_row _ _ _ _ _ _ hg]; rfl, Pw h2 (Nat.le_max_right _ _)⟩
theorem Hs {lo : Nat} {w : World} {k : Int} {ka : Option Addr} {kc m : Nat} {ks : List Ty} (hk : (Lit.int .i64 k).wf = true) (h : Xw w lo m ka ks) (hc : ks.length ≤ kc) (hl : ks.length ≤ 100000) : Zt lo w (.agg #[.int .i64 k, .string ⟨#[]⟩, .slice none 0 0, .slice ka ks.length kc]) (Z6 k [] [] ks) :=
 ⟨m + 1, k, ⟨#[]⟩, none, 0, ka, kc, [], ks, rfl, rfl, hk, by decide, (fun _ h => nomatch h), ⟨xR, xZ _⟩, ⟨hc, Nat.le_trans hl (by decide)⟩, .inl rfl, h⟩
theorem Lg (d : Nat) : ((d + 1 : Nat) : Int) - 1 = (d : Int) := by omega
theorem Ij (pb tb cap d : Nat) (ts : List Tok) (ok : Z0 ts) (A K : Nat → Pr Ty) (hd : d ≤ 1000)
  (hA : d < 100 → ∀ S w, Zp w pb tb cap ts (d + 1) S → Calls prog 66 #[.pointer (some ⟨pb, 0, none⟩)] w (Vn pb tb cap ts (d + 1) w (Zf A S)))
  (hK : d < 100 → ∀ S w, Zp w pb tb cap ts (d + 1) S → Calls prog 31 #[.pointer (some ⟨pb, 0, none⟩)] w (Vn pb tb cap ts (d + 1) w (Zf K S)))
  (S : Z3) (w : World) (h : Zp w pb tb cap ts d S) :
  Calls prog 31 #[.pointer (some ⟨pb, 0, none⟩)] w (Vn pb tb cap ts d w (Zf (fun a => if 100 ≤ d then Ys ts 6 a else (A a).go fun t a => if Zc ts a [45, 62] then (K (a + 1)).go fun r a => .inl (Z6 6 [] [] [t, r], a) else .inl (t, a)) S)) := by
 obtain ⟨R, hR⟩ : ∃ R : Pr Ty, R = Zf (fun a => if 100 ≤ d then Ys ts 6 a else (A a).go fun t a => if Zc ts a [45, 62] then (K (a + 1)).go fun r a => .inl (Z6 6 [] [] [t, r], a) else .inl (t, a)) S := ⟨_, rfl⟩
 rw [← hR]
 have HR := Za hR
 have HA := Za hA
 have HK := Za hK
 have OK := Za ok
 have X0 := Za (U4 h Yl)
 have HEn := Za (fun wx hx => J5 pb tb cap d ts S hd wx hx)
 clear h hA hK ok hR
 cases hen : U3 d S with
 | false =>
  have HS : xQ (Zd R = Vg ts d S ∧ ∀ x b, R ≠ .inl (x, b)) := by
   show _ ∧ _
   rw [HR.o]
   cases S with
   | inr p =>
    refine ⟨?_, fun x b e => by cases e⟩
    show Sum.inr p = Vg ts d (.inr p)
    unfold Vg
    split <;> rfl
   | inl a =>
    have h100 : 100 ≤ d := by simp [U3] at hen; exact hen
    refine ⟨?_, fun x b e => ?_⟩
    ·show Zd (if 100 ≤ d then _ else _) = Vg ts d (.inl a)
     unfold Vg
     rw [if_pos h100, if_pos h100]
     rfl
    ·have : (if 100 ≤ d then (Ys ts 6 a : Pr Ty) else _) = .inl (x, b) := e
     rw [if_pos h100] at this
     cases this
  rw [hen] at HEn
  clear hen
  go_enter func31, ntmps31
  go_wp2_with fail
  refine (HEn.o _ X0.o.at_).mono ?_
  rintro e w1 ⟨rfl, hst, hat⟩
  have X1 := Za (X0.o.step hst hat)
  clear hst hat
  obtain ⟨⟨r0, r1, r2, r3⟩, ⟨f0, f1, f2, f3⟩, hrl⟩ := Zr (X1.o.box (p := (w.heap.size, Yl)) (by simp))
  go_wp2_with fail
  refine bodyPost_ret (results_cell_row rfl _ _ w.heap.size 36 _ (0, 0) _ rfl (set4 (X1.o.box (p := (w.heap.size, Yl)) (by simp)) _ _ _ _) underlying36 rfl (by kernel_rfl)) rfl ⟨Xs X1.o.st X1.o.hp (xR) _ _ _ _, ?_, 0, ⟨#[]⟩, none, 0, 0, none, 0, 0, rfl, fun x b e => absurd e (HS.o.2 x b)⟩
  rw [HS.o.1]
  exact X1.o.at_.set4 X1.o.hp _ _ _ _
 | true =>
  obtain ⟨a, rfl⟩ : ∃ a, S = .inl a := by cases S with
   | inl a => exact ⟨a, rfl⟩
   | inr p => cases hen
  have h100 : ¬ 100 ≤ d := by simp [U3] at hen; omega
  replace HA := Za (HA.o (by omega))
  replace HK := Za (HK.o (by omega))
  have HRl : xQ (R = (A a).go fun t a => if Zc ts a [45, 62] then (K (a + 1)).go fun r a => .inl (Z6 6 [] [] [t, r], a) else .inl (t, a)) := by rw [HR.o]; exact if_neg h100
  have e1 : Vg ts d (.inl a) = .inl a := if_neg h100
  rw [hen, e1] at HEn
  clear hen e1 HR
  go_enter func31, ntmps31
  go_wp2_with fail
  refine (HEn.o _ X0.o.at_).mono ?_
  rintro e w1 ⟨rfl, hst, hat⟩
  have X1 := Za (X0.o.step hst hat)
  clear hst hat
  go_wp2_with fail
  refine (HA.o _ _ X1.o.at_).mono ?_
  rintro e w2 ⟨hst, hat, k1, nm1, na1, nl1, nc1, ka1, kl1, kc1, rfl, hv⟩
  have X2 := Za (X1.o.step hst hat)
  have HV2 := Za hv
  clear hst hat hv
  obtain ⟨R1, hR1⟩ := xE (A a)
  have HR1 := Za hR1
  have e2 : Zf A (.inl a) = R1 := hR1.symm
  rw [e2] at X2 HV2
  have HRl2 : xQ (R = R1.go fun t a => if Zc ts a [45, 62] then (K (a + 1)).go fun r a => .inl (Z6 6 [] [] [t, r], a) else .inl (t, a)) := by rw [HR1.o]; exact HRl.o
  clear hR1 e2 HRl X0
  have X3 := Za (X2.o.alloc (Zq k1 nm1 na1 nl1 nc1 ka1 kl1 kc1))
  have HV : xQ (∀ wz, w2.heap.size ≤ wz.heap.size → (∀ b, w.heap.size + 1 ≤ b → b < w2.heap.size → wz.heap[b]? = w2.heap[b]?) → Ud (w.heap.size + 1) wz (.agg #[.int .i64 k1, .string nm1, .slice na1 nl1 nc1, .slice ka1 kl1 kc1]) R1) := fun wz h1 h2 => (HV2.o.lower (xB (X1.o.box (p := (w.heap.size, Yl)) (by simp)))).keep h1 h2
  have HF3 : xQ (∀ b, w.heap.size + 1 ≤ b → b < w2.heap.size → (w2.alloc (Zq k1 nm1 na1 nl1 nc1 ka1 kl1 kc1)).heap[b]? = w2.heap[b]?) := fun b _ hl => xA hl
  have hbl : w.heap.size < w2.heap.size := xB (X2.o.box (p := (w.heap.size, Yl)) (by simp))
  clear X1 X2 HV2
  go_wp2_with fail
  generalize w2.alloc (Zq k1 nm1 na1 nl1 nc1 ka1 kl1 kc1) = W3 at X3 HF3 ⊢
  generalize w2.heap.size = tb2 at X3 hbl HF3 HV ⊢
  refine (Y5 pb tb cap (d + 1) ts (Zd R1) [45, 62] W3 X3.o.at_ OK.o).mono ?_
  rintro e w4 ⟨rfl, hst, hat⟩
  have X4 := Za (X3.o.step hst hat)
  have hT3 := xB (X3.o.box (p := (tb2, Zq k1 nm1 na1 nl1 nc1 ka1 kl1 kc1)) (by simp))
  have HF4 : xQ (∀ b, w.heap.size + 1 ≤ b → b < tb2 → w4.heap[b]? = w2.heap[b]?) := fun b h1 h2 => (hst.keep b (by have := X3.o.hp; omega) (by omega)).trans (HF3.o b h1 h2)
  clear hst hat X3 HF3 hT3
  obtain ⟨⟨r0, r1, r2, r3⟩, ⟨f0, f1, f2, f3⟩, hrl⟩ := Zr (X4.o.box (p := (w.heap.size, Yl)) (by simp))
  obtain ⟨⟨t0, t1, t2, t3⟩, ⟨g0, g1, g2, g3⟩, htl⟩ := Zr (X4.o.box (p := (tb2, Zq k1 nm1 na1 nl1 nc1 ka1 kl1 kc1)) (by simp))
  obtain ⟨hd1, hd2⟩ := X4.o.at_.deep
  have hpw := X4.o.hp
  have hne1 : ¬ tb2 = w.heap.size := by omega
  have hne2 : ¬ pb = w.heap.size := by omega
  have hne3 : ¬ pb = tb2 := by omega
  have hdk : ((d + 1 : Nat) : Int) - 1 = (d : Int) := Lg d
  cases hs : Yd ts (Zd R1) [45, 62] with
  | false =>
   rw [hs, if_neg (by simp)] at X4
   have HE : xQ (R = R1) := by
    show _ = _
    rw [HRl2.o]
    cases R1 with
    | inr p => rfl
    | inl q =>
     show (if Zc ts q.2 [45, 62] then _ else _) = _
     rw [show Zc ts q.2 [45, 62] = false from hs]
     rfl
   clear hs
   go_wp2_with fail
   have XD := X4.o.deep d
   rw [HE.o]
   refine bodyPost_ret (results_cell_row rfl _ _ w.heap.size 36 _ (0, 0) _ rfl (set4 (XD.box (p := (w.heap.size, Yl)) (by simp)) _ _ _ _) underlying36 rfl (by kernel_rfl)) rfl ⟨Xs XD.st XD.hp (xR) _ _ _ _, XD.at_.set4 XD.hp _ _ _ _, k1, nm1, na1, nl1, nc1, ka1, kl1, kc1, rfl, ?_⟩
   refine (HV.o _ (by simp only [Zw]; omega) fun b h1 h2 => ?_).lower (by omega)
   exact (Yn (by omega) _ _ _ _).trans ((xH (by show b ≠ pb; omega)).trans (HF4.o b h1 h2))
  | true =>
   rw [hs, if_pos rfl] at X4
   obtain ⟨D1, b1, hR1⟩ : ∃ D1 b1, R1 = .inl (D1, b1) := by
    cases R1 with
    | inr p => cases hs
    | inl q => exact ⟨q.1, q.2, rfl⟩
   have HR2 : xQ (R = (K (b1 + 1)).go fun r a => .inl (Z6 6 [] [] [D1, r], a)) := by
    rw [HRl2.o, hR1]
    show (if Zc ts b1 [45, 62] then _ else _) = _
    rw [hR1] at hs
    rw [show Zc ts b1 [45, 62] = true from hs]
    rfl
   have HV1 : xQ (∀ wz, tb2 ≤ wz.heap.size → (∀ b, w.heap.size + 1 ≤ b → b < tb2 → wz.heap[b]? = w2.heap[b]?) → Zt (w.heap.size + 1) wz (.agg #[.int .i64 k1, .string nm1, .slice na1 nl1 nc1, .slice ka1 kl1 kc1]) D1) := fun wz h1 h2 => HV.o wz h1 h2 _ _ hR1
   have e3 : Wy (Zd R1) = .inl (b1 + 1) := by rw [hR1]; rfl
   rw [e3] at X4
   clear hs hR1 e3 HRl2 HR1 HV r0 r1 r2 r3 f0 f1 f2 f3 hrl t0 t1 t2 t3 g0 g1 g2 g3 htl hd1 hd2
   obtain ⟨R2, hR2⟩ := xE (K (b1 + 1))
   have HRe : xQ (R = R2.go fun r a => .inl (Z6 6 [] [] [D1, r], a)) := by rw [hR2]; exact HR2.o
   have e4 : Zf K (.inl (b1 + 1)) = R2 := hR2.symm
   have HC := Za (HK.o _ _ X4.o.at_)
   rw [e4] at HC
   clear hR2 e4 HR2
   go_wp2_with fail
   refine HC.o.mono ?_
   rintro e w5 ⟨hst, hat, k2, nm2, na2, nl2, nc2, ka2, kl2, kc2, rfl, hv⟩
   have X5 := Za (X4.o.step hst hat)
   have hT4 := xB (X4.o.box (p := (tb2, Zq k1 nm1 na1 nl1 nc1 ka1 kl1 kc1)) (by simp))
   have HF5 : xQ (∀ b, w.heap.size + 1 ≤ b → b < tb2 → w5.heap[b]? = w2.heap[b]?) := fun b h1 h2 => (hst.keep b (by omega) (by omega)).trans (HF4.o b h1 h2)
   have HV5 : xQ (∀ wz, w5.heap.size ≤ wz.heap.size → (∀ b, tb2 + 1 ≤ b → b < w5.heap.size → wz.heap[b]? = w5.heap[b]?) → Ud (w.heap.size + 1) wz (.agg #[.int .i64 k2, .string nm2, .slice na2 nl2 nc2, .slice ka2 kl2 kc2]) R2) := fun wz h1 h2 => ((hv.lower (show tb2 + 1 ≤ w4.heap.size from hT4)).keep h1 h2).lower (by omega)
   clear hst hat hv HC X4 HF4 hT4
   obtain ⟨⟨r0, r1, r2, r3⟩, ⟨f0, f1, f2, f3⟩, hrl⟩ := Zr (X5.o.box (p := (w.heap.size, Yl)) (by simp))
   obtain ⟨⟨t0, t1, t2, t3⟩, ⟨g0, g1, g2, g3⟩, htl⟩ := Zr (X5.o.box (p := (tb2, Zq k1 nm1 na1 nl1 nc1 ka1 kl1 kc1)) (by simp))
   obtain ⟨hd1, hd2⟩ := X5.o.at_.deep
   have hpl := X5.o.at_.ltp
   have htl5 : tb2 < w5.heap.size := htl
   have hwl5 : w.heap.size < w5.heap.size := hrl
   go_wp2_with fail
   have hbx : w5.heap[w.heap.size]? = some Yl := X5.o.box (p := (w.heap.size, Yl)) (by simp)
   have b2 : (((((w5.setCell ⟨tb2, 0, none⟩ (.int .i64 6)).setCell ⟨tb2, 1, none⟩ (.string ⟨#[]⟩)).setCell ⟨tb2, 2, none⟩ (.slice none 0 0)).setCell ⟨tb2, 3, none⟩ (.slice (some ⟨w5.heap.size + 1, 0, none⟩) 2 2)).setCell ⟨pb, 2, none⟩ (.int .i64 d)).heap[w.heap.size]? = some Yl :=
    (xH (by show w.heap.size ≠ pb; omega)).trans ((Yn (by omega) _ _ _ _).trans hbx)
   have hst := (((Xs ((Xs X5.o.st hpw (show w.heap.size ≤ tb2 by omega) (.int .i64 6) (.string ⟨#[]⟩) (.slice none 0 0) (.slice (some ⟨w5.heap.size + 1, 0, none⟩) 2 2)).set 2 (.int .i64 d)) hpw (xR) (.int .i64 6) (.string ⟨#[]⟩) (.slice none 0 0) (.slice (some ⟨w5.heap.size + 1, 0, none⟩) 2 2)).alloc hpw (.cells #[.int .i64 k2, .string nm2, .slice na2 nl2 nc2, .slice ka2 kl2 kc2] 36)).alloc hpw (.cells #[.int .i64 k1, .string nm1, .slice na1 nl1 nc1, .slice ka1 kl1 kc1, .int .i64 k2, .string nm2, .slice na2 nl2 nc2, .slice ka2 kl2 kc2] 36))
   have hat := ((((X5.o.at_.set4 (show pb < tb2 by omega) (.int .i64 6) (.string ⟨#[]⟩) (.slice none 0 0) (.slice (some ⟨w5.heap.size + 1, 0, none⟩) 2 2)).setDeep d).set4 hpw (.int .i64 6) (.string ⟨#[]⟩) (.slice none 0 0) (.slice (some ⟨w5.heap.size + 1, 0, none⟩) 2 2)).alloc (.cells #[.int .i64 k2, .string nm2, .slice na2 nl2 nc2, .slice ka2 kl2 kc2] 36)).alloc (.cells #[.int .i64 k1, .string nm1, .slice na1 nl1 nc1, .slice ka1 kl1 kc1, .int .i64 k2, .string nm2, .slice na2 nl2 nc2, .slice ka2 kl2 kc2] 36)
   have hbf := (Below.heap_alloc (((((((((((w5.setCell ⟨tb2, 0, none⟩ (.int .i64 6)).setCell ⟨tb2, 1, none⟩ (.string ⟨#[]⟩)).setCell ⟨tb2, 2, none⟩ (.slice none 0 0)).setCell ⟨tb2, 3, none⟩ (.slice (some ⟨w5.heap.size + 1, 0, none⟩) 2 2)).setCell ⟨pb, 2, none⟩ (.int .i64 d)).setCell ⟨w.heap.size, 0, none⟩ (.int .i64 6)).setCell ⟨w.heap.size, 1, none⟩ (.string ⟨#[]⟩)).setCell ⟨w.heap.size, 2, none⟩ (.slice none 0 0)).setCell ⟨w.heap.size, 3, none⟩ (.slice (some ⟨w5.heap.size + 1, 0, none⟩) 2 2))).alloc (.cells #[.int .i64 k2, .string nm2, .slice na2 nl2 nc2, .slice ka2 kl2 kc2] 36)) (.cells #[.int .i64 k1, .string nm1, .slice na1 nl1 nc1, .slice ka1 kl1 kc1, .int .i64 k2, .string nm2, .slice na2 nl2 nc2, .slice ka2 kl2 kc2] 36) w.heap.size (by rw [xS]; simp only [Zw]; omega)).trans ((Below.heap_alloc _ (.cells #[.int .i64 k2, .string nm2, .slice na2 nl2 nc2, .slice ka2 kl2 kc2] 36) w.heap.size (by simp only [Zw]; omega)).trans (set4 b2 (.int .i64 6) (.string ⟨#[]⟩) (.slice none 0 0) (.slice (some ⟨w5.heap.size + 1, 0, none⟩) 2 2)))
   have hrow := Wn ((((((((((w5.setCell ⟨tb2, 0, none⟩ (.int .i64 6)).setCell ⟨tb2, 1, none⟩ (.string ⟨#[]⟩)).setCell ⟨tb2, 2, none⟩ (.slice none 0 0)).setCell ⟨tb2, 3, none⟩ (.slice (some ⟨w5.heap.size + 1, 0, none⟩) 2 2)).setCell ⟨pb, 2, none⟩ (.int .i64 d)).setCell ⟨w.heap.size, 0, none⟩ (.int .i64 6)).setCell ⟨w.heap.size, 1, none⟩ (.string ⟨#[]⟩)).setCell ⟨w.heap.size, 2, none⟩ (.slice none 0 0)).setCell ⟨w.heap.size, 3, none⟩ (.slice (some ⟨w5.heap.size + 1, 0, none⟩) 2 2))) (.cells #[.int .i64 k2, .string nm2, .slice na2 nl2 nc2, .slice ka2 kl2 kc2] 36) (.cells #[.int .i64 k1, .string nm1, .slice na1 nl1 nc1, .slice ka1 kl1 kc1, .int .i64 k2, .string nm2, .slice na2 nl2 nc2, .slice ka2 kl2 kc2] 36)
   simp only [Zw] at hrow
   generalize hWf : ((((((((((((w5.setCell ⟨tb2, 0, none⟩ (.int .i64 6)).setCell ⟨tb2, 1, none⟩ (.string ⟨#[]⟩)).setCell ⟨tb2, 2, none⟩ (.slice none 0 0)).setCell ⟨tb2, 3, none⟩ (.slice (some ⟨w5.heap.size + 1, 0, none⟩) 2 2)).setCell ⟨pb, 2, none⟩ (.int .i64 d)).setCell ⟨w.heap.size, 0, none⟩ (.int .i64 6)).setCell ⟨w.heap.size, 1, none⟩ (.string ⟨#[]⟩)).setCell ⟨w.heap.size, 2, none⟩ (.slice none 0 0)).setCell ⟨w.heap.size, 3, none⟩ (.slice (some ⟨w5.heap.size + 1, 0, none⟩) 2 2)).alloc (.cells #[.int .i64 k2, .string nm2, .slice na2 nl2 nc2, .slice ka2 kl2 kc2] 36)).alloc (.cells #[.int .i64 k1, .string nm1, .slice na1 nl1 nc1, .slice ka1 kl1 kc1, .int .i64 k2, .string nm2, .slice na2 nl2 nc2, .slice ka2 kl2 kc2] 36))) = Wf at hst hat hbf hrow ⊢
   have hsz : w5.heap.size ≤ Wf.heap.size := by rw [← hWf, xS, xS]; simp only [Zw]; omega
   have hke : ∀ b, b ≠ tb2 → b ≠ pb → b ≠ w.heap.size → b < w5.heap.size → Wf.heap[b]? = w5.heap[b]? := fun b h1 h2 h3 h4 => by
    rw [← hWf, xA (by rw [xS]; simp only [Zw]; omega), xA (by simp only [Zw]; omega), Yn h3, xH h2, Yn h1]
   clear hWf
   refine bodyPost_ret (results_cell_row rfl _ _ w.heap.size 36 _ (0, 0) _ rfl hbf underlying36 rfl (by kernel_rfl)) rfl ⟨hst, ?_, 6, ⟨#[]⟩, none, 0, 0, some ⟨w5.heap.size + 1, 0, none⟩, 2, 2, rfl, ?_⟩
   ·rw [HRe.o]
    cases R2 with
    | inr q => exact hat
    | inl q => exact hat
   ·intro y c e
    rw [HRe.o] at e
    cases hR2 : R2 with
    | inr q => rw [hR2] at e; cases e
    | inl q =>
     rw [hR2] at e
     injection e with e
     injection e with e _
     rw [← e]
     have g1 := HV1.o Wf (by omega) fun b h1 h2 => (hke b (by omega) (by omega) (by omega) (by omega)).trans (HF5.o b h1 h2)
     have g2 := HV5.o Wf hsz (fun b h1 h2 => hke b (by omega) (by omega) (by omega) h2) q.1 q.2 (by rw [hR2])
     obtain ⟨m, hk⟩ := rkids2 g1 g2 hrow (by omega)
     exact (Hs (by decide) hk (by simp) (by simp)).lower (by omega)
end Go.Proofs.YtbnjllkkhhkkaaaGreatDoor
