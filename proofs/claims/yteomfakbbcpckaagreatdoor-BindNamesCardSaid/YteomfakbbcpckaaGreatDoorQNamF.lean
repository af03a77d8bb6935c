/-
 Plain facts of the law BindNames, its row of constants in memory, and two calls.
 Conditions: each fact's own.
-/
import Derived.Test.YteomfakbbcpckaaGreatDoorQOccF
import Derived.Test.YteomfakbbcpckaaGreatDoorJ13
namespace Go.Proofs.YteomfakbbcpckaaGreatDoor
open Go.RowKit
open Lvl
open Trm
namespace Bnd
set_option maxHeartbeats 400000 in
theorem lengths200 (A : Option Addr) (c n : Nat) (xs : List ByteArray) (w : World) (hx : Txt w A xs) (hn : n ≤ 140737488355328) (Hx : Hid (xs.length = n)) (hs : ∀ x ∈ xs, x.size ≤ 140737488355328) :
  Calls Tryz.prog 18 #[.slice A n c, .int .i64 200] w fun e w' => LensRes xs 200 e ∧ w = w' := by
 have HX := Lib.hid hx
 have HSZ := Lib.hid hs
 clear hx hs
 by_cases hmany : 200 < n
 ·go_enter Tryz.func18, Tryz.ntmps18
  go_wp2
  go_ret
  exact ⟨lensRes_over xs 200 201 (by omega), rfl⟩
 ·go_enter Tryz.func18, Tryz.ntmps18
  go_wp2
  go_loop [5, 6] (fun t i => ∃ k : Nat, k ≤ n ∧ i = .int .i64 k ∧ ∃ T : Nat, t = .int .i64 T ∧ T = lensTo xs k ∧ T ≤ 201 + 140737488355328) (fun _ i => n - (intOf i).toNat)
  case atStart => exact ⟨0, Nat.zero_le _, rfl, 0, rfl, rfl, by omega⟩
  case round =>
   obtain ⟨k, hk, rfl, T, rfl, hT, hb⟩ := hrel
   have HT := Lib.hid hT
   clear hT
   by_cases hlt : k < n
   ·by_cases hle : T ≤ 200
    ·have hx1 : k < xs.length := by rw [Hx.out]; exact hlt
     obtain ⟨b, o, rfl, hc⟩ := HX.out.at_ hx1
     have hsz : xs[k].size ≤ 140737488355328 := HSZ.out _ (List.getElem_mem hx1)
     have HT' := Lib.hid ((lensTo_succ xs k hx1).trans (by rw [← HT.out]))
     generalize xs[k] = x at *
     have h0 : (0 : Int) ≤ (k : Int) := by omega
     have hln : (k : Int) < (n : Int) := by omega
     have hmd : decide ((T : Int) ≤ 200) = true := by simp; omega
     clear hx1
     go_wp2
     go_round
     case rel => exact ⟨k + 1, by omega, by go_num, T + (1 + x.size), by go_num, HT'.out.symm, by omega⟩
     case measure => simp [intOf]; omega
    ·have hmd : decide ((T : Int) ≤ 200) = false := by simp; omega
     go_wp2
     go_ret
     exact ⟨lensRes_over xs 200 T (by omega), rfl⟩
   ·have HE := Lib.hid (lensRes_all xs 200 k (by rw [Hx.out]; exact hlt) (by rw [Hx.out]; exact hk))
    rw [← HT.out] at HE
    go_wp2
    go_ret
    exact ⟨HE.out, rfl⟩
theorem abstract_v (RN : ByteArray → Bool) (t : Tm) (v : Value) (A : Option Addr) (len cap : Nat) (names : List ByteArray) (w : World) (hv : TmV w t v) (hnm : nmOk t) (hx : Txt w A names) (hle : ∀ x ∈ names, x.size ≤ 140737488351232) (hlen : names.length = len) (hl6 : len ≤ 1000000) (CN : NameC w RN) (b : Bool) (hb : (rightT RN 4 t 1125899906842624 && decide (tnodes (subT (absF names) t 0) ≤ 2000)) = b) :
  Calls Tryz.prog 19 #[v, .slice A len cap] w (BRet w b (subT (absF names) t 0)) := by
 obtain ⟨l, s, rfl, ht⟩ := hv
 exact abstract_is RN t l s A len cap names w ht hnm hx hle hlen hl6 CN b hb
/-- The cells of a row of constants. -/
def cellsN : List ByteArray → List Value
 | [] => []
 | x :: l => [.int .i64 3, .int .i64 0, .string x, .slice none 0 0, .slice none 0 0] ++ cellsN l
theorem cellsN_snoc (x : ByteArray) : ∀ l, cellsN (l ++ [x]) = cellsN l ++ [.int .i64 3, .int .i64 0, .string x, .slice none 0 0, .slice none 0 0]
 | [] => rfl
 | a :: l => by rw [List.cons_append, cellsN, cellsN_snoc x l, cellsN, List.append_assoc]
theorem cellsN_is : ∀ l : List ByteArray, cellsN l = cells5 (l.map tcn) (List.replicate l.length (.slice none 0 0, .slice none 0 0))
 | [] => by rw [cellsN]; rfl
 | a :: l => by
  rw [cellsN, List.map_cons, List.length_cons, List.replicate_succ, cells5, cellsN_is l]
  rfl
theorem cellsN_len : ∀ l : List ByteArray, (cellsN l).length = l.length * 5
 | [] => rfl
 | a :: l => by
  rw [cellsN, List.length_append, cellsN_len l, List.length_cons]
  simp only [List.length_cons, List.length_nil]
  omega
theorem leaf_at (P : Nat → Prop) (k n : Int) (m : ByteArray) (w : World) : TmP w P (.mk k n m [] []) (.slice none 0 0) (.slice none 0 0) := by
 rw [TmP, LvP]
 exact ⟨⟨none, 0, 0, rfl, rfl, Nat.le_refl _, by omega, fun _ => rfl, by rw [LsP]; trivial⟩, none, 0, 0, rfl, rfl, Nat.le_refl _, by omega, fun _ => rfl, by rw [TsP]; trivial⟩
/-- A row of one's own of constants of these names. -/
abbrev NmO (w : World) (base : Nat) (V : Value) (l : List ByteArray) : Prop := w.ownsRow base 25 5 V l.length (cellsN l)
theorem nmO_own {w : World} {base : Nat} {V : Value} {l : List ByteArray} (h : NmO w base V l) : OwnT w base V (l.map tcn) := by
 refine ⟨List.replicate l.length (.slice none 0 0, .slice none 0 0), by rw [List.length_map, List.length_replicate], ?_, fun i h1 h2 => ?_⟩
 ·rw [List.length_map, ← cellsN_is]
  exact h
 ·rw [List.getElem_map, List.getElem_replicate]
  exact leaf_at _ 3 0 _ w
theorem nmO_step {w2 : World} {base g cap j : Nat} {l : List ByteArray} {x : ByteArray} (hj : l.length = j) (h : w2.ownsRow base 25 5 (.slice (some ⟨g, 0, none⟩) (j + 1) cap) (j + 1) (cellsN l ++ [.int .i64 3, .int .i64 0, .string x, .slice none 0 0, .slice none 0 0])) : NmO w2 base (.slice (some ⟨g, 0, none⟩) (j + 1) cap) (l ++ [x]) := by
 unfold NmO
 rw [List.length_append, cellsN_snoc, hj]
 exact h
/-- The cells of the last one. -/
theorem nmO_last {w2 : World} {base g cap j : Nat} {l : List ByteArray} {x : ByteArray} (hj : l.length = j) (h : w2.ownsRow base 25 5 (.slice (some ⟨g, 0, none⟩) (j + 1) cap) (j + 1) (cellsN l ++ [.int .i64 3, .int .i64 0, .string x, .slice none 0 0, .slice none 0 0])) : g < w2.heap.size ∧ w2.cell? ⟨g, j * 5, none⟩ = some (.int .i64 3) ∧ w2.cell? ⟨g, j * 5 + 1, none⟩ = some (.int .i64 0) ∧ w2.cell? ⟨g, j * 5 + 2, none⟩ = some (.string x) ∧ w2.cell? ⟨g, j * 5 + 3, none⟩ = some (.slice none 0 0) ∧ w2.cell? ⟨g, j * 5 + 4, none⟩ = some (.slice none 0 0) := by
 have hl : (cellsN l).length = j * 5 := by rw [cellsN_len, hj]
 have hg := (h.lt g rfl).2
 refine ⟨hg, ?_, ?_, ?_, ?_, ?_⟩
 ·rw [h.cellAt (j * 5) (by omega), List.getElem?_append_right (by omega), show j * 5 - (cellsN l).length = 0 by omega]; rfl
 ·rw [h.cellAt (j * 5 + 1) (by omega), List.getElem?_append_right (by omega), show j * 5 + 1 - (cellsN l).length = 1 by omega]; rfl
 ·rw [h.cellAt (j * 5 + 2) (by omega), List.getElem?_append_right (by omega), show j * 5 + 2 - (cellsN l).length = 2 by omega]; rfl
 ·rw [h.cellAt (j * 5 + 3) (by omega), List.getElem?_append_right (by omega), show j * 5 + 3 - (cellsN l).length = 3 by omega]; rfl
 ·rw [h.cellAt (j * 5 + 4) (by omega), List.getElem?_append_right (by omega), show j * 5 + 4 - (cellsN l).length = 4 by omega]; rfl
theorem nmO_empty (w : World) : NmO (w.alloc (.cells #[] 25)) w.heap.size (.slice (some ⟨w.heap.size, 0, none⟩) 0 0) [] :=
 ⟨rfl, .inr ⟨w.heap.size, 0, #[], rfl, Nat.le_refl _, heap_alloc_new w _, Nat.le_refl _, by unfold maxLen; omega, rfl, rfl⟩⟩
/-- What is abstracted has none of the constants. -/
theorem nam_none {t : Tm} {names : List ByteArray} {n : Bool} (hq : (rightT Nm.rightB 4 t 1125899906842624 && n) = true) {nm : ByteArray} (hm : nm ∈ names) : occB Nm.rightB (subT (absF names) t 0) nm = false := by
 rw [Bool.and_eq_true] at hq
 obtain ⟨_, _, k1⟩ := rightT_ok hq.1
 refine Bool.eq_false_iff.2 fun h => ?_
 exact abs_none names nm hm k1 ((occ_iff _ _ _).1 h).2
theorem nam_back {t : Tm} {names : List ByteArray} (hq : (rightT Nm.rightB 4 t 1125899906842624 && decide (tnodes (subT (absF names) t 0) ≤ 2000)) = true) (hl : looseR t ≤ 1099511627776) (h200 : names.length ≤ 200) (hr : ∀ nm ∈ names, Nm.rightB nm = true ∧ levC nm t = false) : (rightT Nm.rightB 4 (subT (absF names) t 0) 1125899906842624 && (areB Nm.rightB (names.map tcn) && decide (tnodes (subT (instF (names.map tcn)) (subT (absF names) t 0) 0) ≤ 2000))) = true ∧ subT (instF (names.map tcn)) (subT (absF names) t 0) 0 = t := by
 rw [Bool.and_eq_true, decide_eq_true_iff] at hq
 obtain ⟨h1, hn⟩ := hq
 rw [looseR_right h1] at hl
 obtain ⟨_, hn2, k1⟩ := rightT_ok h1
 have hb := inst_abs names k1 fun nm hm => (hr nm hm).2
 have hx := right_of (k := 1099511627776 + names.length) (by omega) (by omega) hn (abs_ok names (by omega) (right_lo h1 (by omega) hl))
 have ha : areB Nm.rightB (names.map tcn) = true := by
  unfold areB
  rw [List.all_eq_true]
  intro x hx
  obtain ⟨nm, hm, rfl⟩ := List.mem_map.1 hx
  rw [right_tcn]
  exact (hr nm hm).1
 rw [hb, hx, ha, decide_eq_true hn2]
 exact ⟨rfl, rfl⟩
end Bnd
end Go.Proofs.YteomfakbbcpckaaGreatDoor
