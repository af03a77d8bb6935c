/-
  The contracts of the program's functions own, node, Num, Param, Succ, IMax, Max: levels in new memory.
  Conditions: each text's own.
-/
import Derived.Test.YteghldgopidhhaaLvPut
namespace Go.Proofs.Yteghldgopidhhaa
open Go.RowKit
open Lvl

set_option maxRecDepth 100000 in
set_option maxHeartbeats 1000000 in
theorem own_any (t : Lv) (v : Value) (w : World) (hv : LvV w t v) (hm : nodes t ≤ 1000) : Calls Try.prog 44 #[v] w (LvRet w t) := by
  obtain ⟨i0, hi0, hz0, hz1, hz2⟩ := info_parts infoLv
  obtain ⟨s, rfl, hs⟩ := hv
  have HVA := Lib.hid (show LvV w t _ from ⟨s, rfl, hs⟩)
  have HM := Lib.hid hm
  obtain ⟨R, hR⟩ : ∃ R, min (nodes t) (67108864 + 1) = R := ⟨_, rfl⟩
  have HR := Lib.hid hR
  have hR2 : R ≤ 1000 := by omega
  have HK9 := Lib.hid (rfl : kindOf t = kindOf t)
  obtain ⟨k, hk⟩ : ∃ k, kindOf t = k := ⟨_, rfl⟩
  obtain ⟨n, hn⟩ : ∃ n, numOf t = n := ⟨_, rfl⟩
  rw [hk, hn] at HVA ⊢
  have HKK := Lib.hid hk
  have HNN := Lib.hid hn
  clear hs hm hR hk hn HK9
  have HB := Lib.hid (below_2 w (.cells #[.int .i64 k, .int .i64 n, s] 24) (.cells #[.int .i64 0, .int .i64 0, .slice none 0 0] 24))
  have hr1 := row_2 w (.cells #[.int .i64 k, .int .i64 n, s] 24) (.cells #[.int .i64 0, .int .i64 0, .slice none 0 0] 24)
  have hr0 := (heap_alloc_old (w.alloc (.cells #[.int .i64 k, .int .i64 n, s] 24)) (.cells #[.int .i64 0, .int .i64 0, .slice none 0 0] 24) (r := w.heap.size) (by simp)).trans (heap_alloc_new w _)
  have hz : ((w.alloc (.cells #[.int .i64 k, .int .i64 n, s] 24)).alloc (.cells #[.int .i64 0, .int .i64 0, .slice none 0 0] 24)).heap.size = w.heap.size + 1 + 1 := by simp
  go_enter Try.func44, Try.ntmps44
  go_wp2_with fail
  generalize (w.alloc (.cells #[.int .i64 k, .int .i64 n, s] 24)).alloc (.cells #[.int .i64 0, .int .i64 0, .slice none 0 0] 24) = W at *
  refine (count_up (nodes t) t _ W 67108864 131072 (Nat.le_refl _) (by have := HM.out; omega) (by omega) (by omega) (HVA.out.below HB.out)).mono ?_
  rintro e w2 ⟨rfl, hb⟩
  rw [HR.out]
  have hr1 := (hb.block (w.heap.size + 1) (by omega)).trans hr1
  have hr0 := (hb.block w.heap.size (by omega)).trans hr0
  have HB2 := Lib.hid (HB.out.trans (hb.mono HB.out.size))
  have hz2' : w.heap.size + 1 + 1 ≤ w2.heap.size := by rw [← hz]; exact hb.size
  have q0 := cell_of_row w2 _ 0 _ 24 (0, 0) hr0
  have q1 := cell_of_row w2 _ 1 _ 24 (0, 0) hr0
  have q2 := cell_of_row w2 _ 2 _ 24 (0, 0) hr0
  have hdd : decide ((67108864 : Int) < (R : Int)) = false := by simp; omega
  have HR1 := Lib.hid hr1
  clear hb hr0 hr1 hz
  go_wp2_with fail
  refine (copied_up (nodes t) t _ w2 (Nat.le_refl _) HM.out (HVA.out.below HB2.out)).mono ?_
  rintro e wA ⟨s9, rfl, hs9, hb⟩
  rw [HKK.out, HNN.out]
  obtain ⟨va, vl, vc, rfl⟩ := lvP_slice hs9
  have HS9 := Lib.hid hs9
  have hr2 := (hb.block (w.heap.size + 1) (by omega)).trans HR1.out
  have HBA := Lib.hid (HB2.out.trans (hb.mono HB2.out.size))
  have HZZ := Lib.hid hz2'
  have e0 := cell_of_row wA _ 0 _ 24 (0, 0) hr2
  have g0 := frozen0 (p := 0) hr2
  have e1 := cell_of_row wA _ 1 _ 24 (0, 0) hr2
  have g1 := frozen0 (p := 1) hr2
  have e2 := cell_of_row wA _ 2 _ 24 (0, 0) hr2
  have g2 := frozen0 (p := 2) hr2
  clear hb hs9 hz2'
  go_wp2_with fail
  refine bodyPost_ret (results_cell_row rfl _ _ (w.heap.size + 1) 24 _ (0, 0) _ rfl (set3_row hr2) Try.underlying24 rfl (by rw [hi0, Option.map_some, hz1]; rfl)) rfl ?_
  refine ⟨_, by rw [HKK.out, HNN.out], lvP_move (w := wA) (fun b _ hp => ⟨by have := HZZ.out; omega, ?_⟩) ?_ _ _ HS9.out, below_set (below_set (below_set HBA.out _ _ ?_) _ _ ?_) _ _ ?_⟩
  · have := HZZ.out
    rw [setCell_far _ _ _ _ ?_, setCell_far _ _ _ _ ?_, setCell_far _ _ _ _ ?_] <;> (show b ≠ w.heap.size + 1; omega)
  · rw [setCell_size, setCell_size, setCell_size]; exact Nat.le_refl _
  all_goals (show w.heap.size ≤ w.heap.size + 1; omega)

/-- A level without arguments, as a value. -/
theorem lvV_leaf (w : World) (k n : Int) : LvV w (.mk k n []) (.agg #[.int .i64 k, .int .i64 n, .slice none 0 0]) := by
  refine ⟨_, rfl, ?_⟩
  rw [LvS]
  exact ⟨none, 0, 0, rfl, rfl, Nat.le_refl _, by omega, fun _ => rfl, by rw [LsV]; trivial⟩
/-- A level without arguments. -/
theorem lvP_leaf (w : World) (P : Nat → Prop) (k n : Int) : LvP w P (.mk k n []) (.slice none 0 0) := by
  rw [LvP]
  exact ⟨none, 0, 0, rfl, rfl, Nat.le_refl _, by omega, fun _ => rfl, by rw [LsP]; trivial⟩
set_option maxRecDepth 100000 in
theorem num_ret (n : Int) (w : World) : Calls Try.prog 12 #[.int .i64 n] w (Ret w (.agg #[.int .i64 1, .int .i64 n, .slice none 0 0])) := by
  obtain ⟨i0, hi0, hz0, hz1, hz2⟩ := info_parts infoLv
  go_enter Try.func12, Try.ntmps12
  go_wp2_with fail
  refine bodyPost_ret (results_cell_row rfl _ _ (w.heap.size) 24 _ (0, 0) _ rfl (heap_alloc_new w _) Try.underlying24 rfl (by rw [hi0, Option.map_some, hz1]; rfl)) rfl ?_
  exact ⟨rfl, below_lit w _⟩
theorem num_is (n : Int) (w : World) : Calls Try.prog 12 #[.int .i64 n] w (LvRet w (.mk 1 n [])) :=
  (num_ret n w).mono fun _ _ ⟨h, hb⟩ => ⟨_, h, lvP_leaf _ _ _ _, hb⟩
set_option maxRecDepth 100000 in
theorem param_lv_ret (n : Int) (w : World) : Calls Try.prog 29 #[.int .i64 n] w (Ret w (.agg #[.int .i64 2, .int .i64 n, .slice none 0 0])) := by
  obtain ⟨i0, hi0, hz0, hz1, hz2⟩ := info_parts infoLv
  go_enter Try.func29, Try.ntmps29
  go_wp2_with fail
  refine bodyPost_ret (results_cell_row rfl _ _ (w.heap.size) 24 _ (0, 0) _ rfl (heap_alloc_new w _) Try.underlying24 rfl (by rw [hi0, Option.map_some, hz1]; rfl)) rfl ?_
  exact ⟨rfl, below_lit w _⟩
theorem param_lv_is (n : Int) (w : World) : Calls Try.prog 29 #[.int .i64 n] w (LvRet w (.mk 2 n [])) :=
  (param_lv_ret n w).mono fun _ _ ⟨h, hb⟩ => ⟨_, h, lvP_leaf _ _ _ _, hb⟩
set_option maxRecDepth 100000 in
/-- What is handed back is the kind over the row itself. -/
theorem node_is (k : Int) (a : Option Addr) (l c : Nat) (w : World) : Calls Try.prog 45 #[.int .i64 k, .slice a l c] w (fun e w' => e = .returned (.agg #[.int .i64 k, .int .i64 0, .slice a l c]) ∧ Below w.heap.size w w') := by
  obtain ⟨i0, hi0, hz0, hz1, hz2⟩ := info_parts infoLv
  go_enter Try.func45, Try.ntmps45
  go_wp2_with fail
  refine bodyPost_ret (results_cell_row rfl _ _ (w.heap.size) 24 _ (0, 0) _ rfl (heap_alloc_new w _) Try.underlying24 rfl (by rw [hi0, Option.map_some, hz1]; rfl)) rfl ?_
  exact ⟨rfl, below_lit w _⟩

/-- A row of one level, laid into a block of its own. -/
theorem lvP_one_row {wA w' : World} {B B2 : Nat} {t : Lv} {s : Value} (hs : LvP wA (fun b => B ≤ b) t s) (hB : B ≤ B2) (hlt : B2 < w'.heap.size) (hrow : w'.heap[B2]? = some (.cells #[.int .i64 (kindOf t), .int .i64 (numOf t), s] 24 (0, 0))) (hk : Below wA.heap.size wA w') (k : Int) :
    LvP w' (fun b => B ≤ b) (.mk k 0 [t]) (.slice (some ⟨B2, 0, none⟩) 1 1) := by
  rw [LvP]
  refine ⟨some ⟨B2, 0, none⟩, 1, 1, rfl, rfl, Nat.le_refl _, by omega, (fun e => by cases e), lsP_of _ 0 fun i hi => ?_⟩
  obtain rfl : i = 0 := by simpa using hi
  refine ⟨B2, 0, s, rfl, hlt, hB, cell_of_row w' _ 0 _ 24 (0, 0) hrow, cell_of_row w' _ 1 _ 24 (0, 0) hrow, cell_of_row w' _ 2 _ 24 (0, 0) hrow, lvP_move (fun b hb hp => ⟨hp, hk.block b hb⟩) hk.size _ _ hs⟩
theorem lvP_two_row {wA w' : World} {P : Nat → Prop} {B2 : Nat} {t u : Lv} {s r : Value} (hs : LvP wA P t s) (hr : LvP wA P u r) (hB : P B2) (hlt : B2 < w'.heap.size) (hrow : w'.heap[B2]? = some (.cells #[.int .i64 (kindOf t), .int .i64 (numOf t), s, .int .i64 (kindOf u), .int .i64 (numOf u), r] 24 (0, 0))) (hk : Below wA.heap.size wA w') (k : Int) :
    LvP w' P (.mk k 0 [t, u]) (.slice (some ⟨B2, 0, none⟩) 2 2) := by
  rw [LvP]
  refine ⟨some ⟨B2, 0, none⟩, 2, 2, rfl, rfl, Nat.le_refl _, by omega, (fun e => by cases e), lsP_of _ 0 fun i hi => ?_⟩
  match i, hi with
  | 0, _ => exact ⟨B2, 0, s, rfl, hlt, hB, cell_of_row w' _ 0 _ 24 (0, 0) hrow, cell_of_row w' _ 1 _ 24 (0, 0) hrow, cell_of_row w' _ 2 _ 24 (0, 0) hrow, lvP_move (fun b hb hp => ⟨hp, hk.block b hb⟩) hk.size _ _ hs⟩
  | 1, _ => exact ⟨B2, 0, r, rfl, hlt, hB, cell_of_row w' _ 3 _ 24 (0, 0) hrow, cell_of_row w' _ 4 _ 24 (0, 0) hrow, cell_of_row w' _ 5 _ 24 (0, 0) hrow, lvP_move (fun b hb hp => ⟨hp, hk.block b hb⟩) hk.size _ _ hr⟩

set_option maxRecDepth 100000 in
set_option maxHeartbeats 1000000 in
theorem succ_is (t : Lv) (v : Value) (w : World) (hv : LvV w t v) (hm : nodes t ≤ 1000) : Calls Try.prog 28 #[v] w (LvRet w (.mk 3 0 [t])) := by
  obtain ⟨i0, hi0, hz0, hz1, hz2⟩ := info_parts infoLv
  have HM := Lib.hid hm
  obtain ⟨s, rfl, hs⟩ := hv
  have HVA := Lib.hid (show LvV w t _ from ⟨s, rfl, hs⟩)
  obtain ⟨k, hk⟩ : ∃ k, kindOf t = k := ⟨_, rfl⟩
  obtain ⟨n, hn⟩ : ∃ n, numOf t = n := ⟨_, rfl⟩
  rw [hk, hn] at HVA ⊢
  have HKK := Lib.hid hk
  have HNN := Lib.hid hn
  clear hs hm hk hn
  have HB := Lib.hid (below_2 w (.cells #[.int .i64 k, .int .i64 n, s] 24) (.cells #[.int .i64 0, .int .i64 0, .slice none 0 0] 24))
  have hr1 := row_2 w (.cells #[.int .i64 k, .int .i64 n, s] 24) (.cells #[.int .i64 0, .int .i64 0, .slice none 0 0] 24)
  have hz : ((w.alloc (.cells #[.int .i64 k, .int .i64 n, s] 24)).alloc (.cells #[.int .i64 0, .int .i64 0, .slice none 0 0] 24)).heap.size = w.heap.size + 1 + 1 := by simp
  go_enter Try.func28, Try.ntmps28
  go_wp2_with fail
  generalize (w.alloc (.cells #[.int .i64 k, .int .i64 n, s] 24)).alloc (.cells #[.int .i64 0, .int .i64 0, .slice none 0 0] 24) = W at *
  refine (own_any t _ W (HVA.out.below HB.out) HM.out).mono ?_
  rintro e wA ⟨s9, rfl, hs9, hb⟩
  rw [HKK.out, HNN.out]
  have HS9 : Hid (LvP wA (fun b => w.heap.size + 1 + 1 ≤ b) t s9) := by rw [hz] at hs9; exact hs9
  have HR1 := Lib.hid ((hb.block (w.heap.size + 1) (by omega)).trans hr1)
  have HBA := Lib.hid (HB.out.trans (hb.mono HB.out.size))
  have HZA : Hid (w.heap.size + 1 + 1 ≤ wA.heap.size) := by have := hb.size; rw [hz] at this; exact this
  clear hb hs9 hz hr1
  go_wp2_with fail
  have HBL := Lib.hid (below_lit wA (.cells #[.int .i64 k, .int .i64 n, s9] 24))
  have HRL := Lib.hid (heap_alloc_new wA (.cells #[.int .i64 k, .int .i64 n, s9] 24))
  have HZL := Lib.hid (show wA.heap.size < (wA.alloc (.cells #[.int .i64 k, .int .i64 n, s9] 24)).heap.size by simp)
  generalize wA.alloc (.cells #[.int .i64 k, .int .i64 n, s9] 24) = W2 at *
  refine (node_is 3 _ _ _ W2).mono ?_
  rintro e w3 ⟨rfl, hb⟩
  have HB3 := Lib.hid (HBL.out.trans (hb.mono HBL.out.size))
  have HR3 := Lib.hid ((hb.block wA.heap.size HZL.out).trans HRL.out)
  have HZ3 := Lib.hid (Nat.lt_of_lt_of_le HZL.out hb.size)
  have hr2 := (HB3.out.block (w.heap.size + 1) (by have := HZA.out; omega)).trans HR1.out
  have e0 := cell_of_row w3 _ 0 _ 24 (0, 0) hr2
  have g0 := frozen0 (p := 0) hr2
  have e1 := cell_of_row w3 _ 1 _ 24 (0, 0) hr2
  have g1 := frozen0 (p := 1) hr2
  have e2 := cell_of_row w3 _ 2 _ 24 (0, 0) hr2
  have g2 := frozen0 (p := 2) hr2
  clear hb
  go_wp2_with fail
  refine bodyPost_ret (results_cell_row rfl _ _ (w.heap.size + 1) 24 _ (0, 0) _ rfl (set3_row hr2) Try.underlying24 rfl (by rw [hi0, Option.map_some, hz1]; rfl)) rfl ?_
  have hzz := HZA.out
  refine ⟨_, rfl, lvP_move (w := w3) (w' := _) (P := fun b => w.heap.size + 1 + 1 ≤ b) (fun b _ hp => ⟨by omega, ?_⟩) ?_ _ _ ?_, below_set (below_set (below_set (HBA.out.trans (HB3.out.mono HBA.out.size)) _ _ ?_) _ _ ?_) _ _ ?_⟩
  · rw [setCell_far _ _ _ _ ?_, setCell_far _ _ _ _ ?_, setCell_far _ _ _ _ ?_] <;> (show b ≠ w.heap.size + 1; omega)
  · rw [setCell_size, setCell_size, setCell_size]; exact Nat.le_refl _
  · exact lvP_one_row HS9.out hzz HZ3.out (by rw [HKK.out, HNN.out]; exact HR3.out) HB3.out 3
  all_goals (show w.heap.size ≤ w.heap.size + 1; omega)

theorem lvP_below {w w' : World} {P : Nat → Prop} {t : Lv} {s : Value} (h : LvP w P t s) (hb : Below w.heap.size w w') : LvP w' P t s := lvP_move (fun b hlt hp => ⟨hp, hb.block b hlt⟩) hb.size _ _ h
theorem lvP_weak {w : World} {P Q : Nat → Prop} {t : Lv} {s : Value} (h : LvP w P t s) (hq : ∀ b, P b → Q b) : LvP w Q t s := lvP_move (w := w) (w' := w) (fun b _ hp => ⟨hq b hp, rfl⟩) (Nat.le_refl _) _ _ h
theorem below_more {w w' w3 : World} {O : Obj} (h : Below w.heap.size w w') (h3 : Below (w'.alloc O).heap.size (w'.alloc O) w3) : Below w.heap.size w w3 := h.trans (((below_lit w' O).trans (h3.mono (below_lit w' O).size)).mono h.size)
theorem two_done {cur w3 : World} {P : Nat → Prop} {t u : Lv} {s r : Value} {k1 n1 k2 n2 : Int} (hs : LvP cur P t s) (hr : LvP cur P u r) (hB : P cur.heap.size) (e1 : kindOf t = k1) (e2 : numOf t = n1) (e3 : kindOf u = k2) (e4 : numOf u = n2)
    (h : Below (cur.alloc (.cells #[.int .i64 k1, .int .i64 n1, s, .int .i64 k2, .int .i64 n2, r] 24)).heap.size (cur.alloc (.cells #[.int .i64 k1, .int .i64 n1, s, .int .i64 k2, .int .i64 n2, r] 24)) w3) (k : Int) :
    LvP w3 P (.mk k 0 [t, u]) (.slice (some ⟨cur.heap.size, 0, none⟩) 2 2) := by
  have hlt : cur.heap.size < (cur.alloc (.cells #[.int .i64 k1, .int .i64 n1, s, .int .i64 k2, .int .i64 n2, r] 24)).heap.size := by simp
  exact lvP_two_row hs hr hB (Nat.lt_of_lt_of_le hlt h.size) (by rw [e1, e2, e3, e4]; exact (h.block _ hlt).trans (heap_alloc_new _ _)) ((below_lit cur _).trans (h.mono (below_lit cur _).size)) k
end Go.Proofs.Yteghldgopidhhaa
