/-
  The contracts of the program's functions param, raised and join: forms of levels as values.
  Conditions: each text's own.
-/
import Derived.Test.YteghldgopidhhaaLvFm
import Derived.Test.YteghldgopidhhaaLvPVal
import Derived.Test.YteghldgopidhhaaLvRound
import Derived.Laws.ResultCell
import Derived.Laws.StructEq
namespace Go.Proofs.Yteghldgopidhhaa
open Go.RowKit
open Lvl

/-- A form as a value. -/
def fmV (F : Fm) : Value := .agg #[.int .i64 F.l, .int .i64 F.a0, .int .i64 F.a1, .int .i64 F.a2, .int .i64 F.a3]

theorem infoFm : (Try.prog.info? 46).map (fun i => (i.zero, i.size, i.bytes)) = some (some (.agg #[.int .i64 0, .int .i64 0, .int .i64 0, .int .i64 0, .int .i64 0]), 5, 40) := by kernel_rfl
theorem below_two (w : World) (O O' : Obj) : Below w.heap.size w ((w.alloc O).alloc O') := (below_lit w O).trans ((below_lit _ O').mono (by simp))
theorem bits_on : ∀ n : Nat, n < 4 → ∀ z : Nat, z < 16 → (bits BinOp.and .i64 ((z : Int) / 2 ^ n) 1 == 0) = on z n := by decide
theorem bits_at0 : ∀ z : Nat, z < 16 → on z 0 = true → (bits BinOp.and .i64 (z : Int) 1 == 0) = true := by decide
theorem bits_at1 : ∀ z : Nat, z < 16 → on z 1 = true → (bits BinOp.and .i64 ((z : Int) / 2) 1 == 0) = true := by decide
theorem bits_at2 : ∀ z : Nat, z < 16 → on z 2 = true → (bits BinOp.and .i64 ((z : Int) / 4) 1 == 0) = true := by decide
theorem bits_at3 : ∀ z : Nat, z < 16 → on z 3 = true → (bits BinOp.and .i64 ((z : Int) / 8) 1 == 0) = true := by decide
set_option maxRecDepth 100000 in
set_option maxHeartbeats 1000000 in
theorem param_is (n z : Nat) (w : World) (hn : n < 4) (hz : z < 16) : Calls Try.prog 53 #[.int .i64 n, .int .i64 z] w (Ret w (fmV (parmF n z))) := by
  obtain ⟨i0, hi0, hz0, hz1, hz2⟩ := info_parts infoFm
  have hb := bits_on n hn z hz
  have HF : Hid (parmF n z = if on z n then oneAt n else zeroF) := rfl
  cases ho : on z n
  · rw [ho] at hb
    have HF2 : Hid (parmF n z = zeroF) := by
      have := HF.out
      rw [ho] at this
      exact this
    go_enter Try.func53, Try.ntmps53
    go_wp2_with fail
    refine bodyPost_ret (results_cell_row rfl _ _ w.heap.size 46 _ (0, 0) _ rfl ((heap_alloc_old _ _ (by simp)).trans (heap_alloc_new w _)) Try.underlying46 rfl (by rw [hi0, Option.map_some, hz1]; rfl)) rfl ?_
    exact ⟨by rw [HF2.out]; rfl, below_two _ _ _⟩
  · have HF2 : Hid (parmF n z = oneAt n) := by
      have := HF.out
      rw [ho] at this
      exact this
    match n, hn with
    | 0, _ =>
      have hb' : (bits BinOp.and .i64 ((z : Int)) 1 == 0) = true := bits_at0 z hz ho
      clear hb
      go_enter Try.func53, Try.ntmps53
      go_wp2_with fail
      refine bodyPost_ret (results_cell_row rfl _ _ w.heap.size 46 _ (0, 0) _ rfl ((heap_alloc_old _ _ (by simp)).trans (heap_alloc_new w _)) Try.underlying46 rfl (by rw [hi0, Option.map_some, hz1]; rfl)) rfl ?_
      exact ⟨by rw [HF2.out]; rfl, below_two _ _ _⟩
    | 1, _ =>
      have hb' : (bits BinOp.and .i64 ((z : Int) / 2) 1 == 0) = true := bits_at1 z hz ho
      clear hb
      go_enter Try.func53, Try.ntmps53
      go_wp2_with fail
      refine bodyPost_ret (results_cell_row rfl _ _ w.heap.size 46 _ (0, 0) _ rfl ((heap_alloc_old _ _ (by simp)).trans (heap_alloc_new w _)) Try.underlying46 rfl (by rw [hi0, Option.map_some, hz1]; rfl)) rfl ?_
      exact ⟨by rw [HF2.out]; rfl, below_two _ _ _⟩
    | 2, _ =>
      have hb' : (bits BinOp.and .i64 ((z : Int) / 4) 1 == 0) = true := bits_at2 z hz ho
      clear hb
      go_enter Try.func53, Try.ntmps53
      go_wp2_with fail
      refine bodyPost_ret (results_cell_row rfl _ _ w.heap.size 46 _ (0, 0) _ rfl ((heap_alloc_old _ _ (by simp)).trans (heap_alloc_new w _)) Try.underlying46 rfl (by rw [hi0, Option.map_some, hz1]; rfl)) rfl ?_
      exact ⟨by rw [HF2.out]; rfl, below_two _ _ _⟩
    | 3, _ =>
      have hb' : (bits BinOp.and .i64 ((z : Int) / 8) 1 == 0) = true := bits_at3 z hz ho
      clear hb
      go_enter Try.func53, Try.ntmps53
      go_wp2_with fail
      refine bodyPost_ret (results_cell_row rfl _ _ w.heap.size 46 _ (0, 0) _ rfl ((heap_alloc_old _ _ (by simp)).trans (heap_alloc_new w _)) Try.underlying46 rfl (by rw [hi0, Option.map_some, hz1]; rfl)) rfl ?_
      exact ⟨by rw [HF2.out]; rfl, below_two _ _ _⟩

theorem set_row5 {w : World} {b k : Nat} {C : Array Value} {T : TypeId} (v : Value) (h : w.heap[b]? = some (.cells C T (0, 0))) : (w.setCell ⟨b, k, none⟩ v).heap[b]? = some (.cells (C.setIfInBounds k v) T (0, 0)) := by
  unfold World.setCell
  simp [Array.getElem?_modify, h]
theorem row_ret {w : World} {B : Nat} {x y z u v x' y' z' u' v' : Value} {T : TypeId} (h : w.heap[B]? = some (.cells #[x, y, z, u, v] T (0, 0))) :
    (((((w.setCell ⟨B, 0, none⟩ x').setCell ⟨B, 1, none⟩ y').setCell ⟨B, 2, none⟩ z').setCell ⟨B, 3, none⟩ u').setCell ⟨B, 4, none⟩ v').heap[B]? = some (.cells #[x', y', z', u', v'] T (0, 0)) :=
  set_row5 v' (set_row5 u' (set_row5 z' (set_row5 y' (set_row5 x' h))))

set_option maxRecDepth 100000 in
set_option maxHeartbeats 1000000 in
theorem raised_is (F : Fm) (w : World) (hl : F.l ≤ 100000) (h0 : F.a0 ≤ 100000) (h1 : F.a1 ≤ 100000) (h2 : F.a2 ≤ 100000) (h3 : F.a3 ≤ 100000) : Calls Try.prog 54 #[fmV F] w (Ret w (fmV (raiseF F))) := by
  obtain ⟨i0, hi0, hz0, hz1, hz2⟩ := info_parts infoFm
  obtain ⟨l, a0, a1, a2, a3⟩ := F
  show Calls Try.prog 54 #[.agg #[.int .i64 l, .int .i64 a0, .int .i64 a1, .int .i64 a2, .int .i64 a3]] w (Ret w (.agg #[.int .i64 ((l + 1 : Nat) : Int), .int .i64 (up a0 : Nat), .int .i64 (up a1 : Nat), .int .i64 (up a2 : Nat), .int .i64 (up a3 : Nat)]))
  dsimp only at hl h0 h1 h2 h3
  go_enter Try.func54, Try.ntmps54
  go_wp2_with fail
  have HB := Lib.hid (below_two w (.cells #[.int .i64 ((l : Int) + 1), .int .i64 a0, .int .i64 a1, .int .i64 a2, .int .i64 a3] 46) (.cells #[.int .i64 0, .int .i64 0, .int .i64 0, .int .i64 0, .int .i64 0] 46))
  have hq1 := (heap_alloc_old (w.alloc (.cells #[.int .i64 ((l : Int) + 1), .int .i64 a0, .int .i64 a1, .int .i64 a2, .int .i64 a3] 46)) (.cells #[.int .i64 0, .int .i64 0, .int .i64 0, .int .i64 0, .int .i64 0] 46) (r := w.heap.size) (by simp)).trans (heap_alloc_new w _)
  have hq2 := heap_alloc_new (w.alloc (.cells #[.int .i64 ((l : Int) + 1), .int .i64 a0, .int .i64 a1, .int .i64 a2, .int .i64 a3] 46)) (.cells #[.int .i64 0, .int .i64 0, .int .i64 0, .int .i64 0, .int .i64 0] 46)
  rw [show (w.alloc (.cells #[.int .i64 ((l : Int) + 1), .int .i64 a0, .int .i64 a1, .int .i64 a2, .int .i64 a3] 46)).heap.size = w.heap.size + 1 by simp] at hq2
  generalize (w.alloc (.cells #[.int .i64 ((l : Int) + 1), .int .i64 a0, .int .i64 a1, .int .i64 a2, .int .i64 a3] 46)).alloc (.cells #[.int .i64 0, .int .i64 0, .int .i64 0, .int .i64 0, .int .i64 0] 46) = W at *
  have HQ1 := Lib.hid hq1
  have HQ2 := Lib.hid hq2
  clear hq1 hq2
  go_loopw [11] (fun i wr => ∃ j : Nat, j ≤ 4 ∧ i = .int .i64 j ∧ wr.heap[w.heap.size]? = some (.cells #[.int .i64 ((l + 1 : Nat) : Int), .int .i64 ((if 0 < j then up a0 else a0 : Nat) : Int), .int .i64 ((if 1 < j then up a1 else a1 : Nat) : Int), .int .i64 ((if 2 < j then up a2 else a2 : Nat) : Int), .int .i64 ((if 3 < j then up a3 else a3 : Nat) : Int)] 46 (0, 0)) ∧ wr.heap[w.heap.size + 1]? = some (.cells #[.int .i64 0, .int .i64 0, .int .i64 0, .int .i64 0, .int .i64 0] 46 (0, 0)) ∧ Below w.heap.size W wr) (fun i _ => 4 - (intOf i).toNat)
  case atStart => exact ⟨0, by omega, rfl, HQ1.out, HQ2.out, Below.refl _ _⟩
  case round =>
    obtain ⟨j, hj, hi, hr, hr2, hb⟩ := hrel
    have ix0 : ∀ w, (Instr.index 44 (.agg #[.int .i64 a0, .int .i64 a1, .int .i64 a2, .int .i64 a3]) (.int .i64 0)).run Try.prog w = .ok (.int .i64 a0) w := fun _ => by kernel_rfl
    have ix1 : ∀ w, (Instr.index 44 (.agg #[.int .i64 a0, .int .i64 a1, .int .i64 a2, .int .i64 a3]) (.int .i64 1)).run Try.prog w = .ok (.int .i64 a1) w := fun _ => by kernel_rfl
    have ix2 : ∀ w, (Instr.index 44 (.agg #[.int .i64 a0, .int .i64 a1, .int .i64 a2, .int .i64 a3]) (.int .i64 2)).run Try.prog w = .ok (.int .i64 a2) w := fun _ => by kernel_rfl
    have ix3 : ∀ w, (Instr.index 44 (.agg #[.int .i64 a0, .int .i64 a1, .int .i64 a2, .int .i64 a3]) (.int .i64 3)).run Try.prog w = .ok (.int .i64 a3) w := fun _ => by kernel_rfl
    match j, hj with
    | 0, _ =>
      replace hi : _ = Value.int .i64 0 := hi
      subst hi
      have hr0 : wr.heap[w.heap.size]? = some (.cells #[.int .i64 (l + 1 : Nat), .int .i64 (a0 : Nat), .int .i64 (a1 : Nat), .int .i64 (a2 : Nat), .int .i64 (a3 : Nat)] 46 (0, 0)) := hr
      have e0 := cell_of_row wr _ 1 #[.int .i64 (l + 1 : Nat), .int .i64 (a0 : Nat), .int .i64 (a1 : Nat), .int .i64 (a2 : Nat), .int .i64 (a3 : Nat)] 46 (0, 0) hr0
      have g0 := frozen0 (p := 1) hr0
      by_cases ha : 0 < a0
      · have hd : decide ((0 : Int) < (a0 : Int)) = true := by simp; omega
        have HU : Hid (up a0 = a0 + 1) := by
          have : up a0 = a0 + 1 := by unfold up; rw [if_pos ha]
          exact this
        go_wp2_with fail
        have hs := set_row5 (k := 1) (.int .i64 ((a0 : Int) + 1)) hr0
        have hs2 := setCell_far wr ⟨w.heap.size, 1, none⟩ (.int .i64 ((a0 : Int) + 1)) (w.heap.size + 1) (by show w.heap.size + 1 ≠ w.heap.size; omega)
        have HS := Lib.hid hs
        have HS2 := Lib.hid (hs2.trans hr2)
        have HBS := Lib.hid (below_set hb ⟨w.heap.size, 1, none⟩ (.int .i64 ((a0 : Int) + 1)) (Nat.le_refl _))
        generalize wr.setCell ⟨w.heap.size, 1, none⟩ (.int .i64 ((a0 : Int) + 1)) = W2 at *
        clear hs hs2 hr hr0 hr2 hb e0 g0
        go_roundw
        case rel =>
          refine ⟨1, by omega, by go_num, ?_, HS2.out, HBS.out⟩
          show W2.heap[w.heap.size]? = some (.cells #[.int .i64 (l + 1 : Nat), .int .i64 (up a0 : Nat), .int .i64 (a1 : Nat), .int .i64 (a2 : Nat), .int .i64 (a3 : Nat)] 46 (0, 0))
          rw [HU.out]
          exact HS.out
        case measure => simp [intOf]
      · have hd : decide ((0 : Int) < (a0 : Int)) = false := by simp; omega
        have HU : Hid (up a0 = a0) := by
          have : up a0 = a0 := by unfold up; rw [if_neg ha]
          exact this
        have HS := Lib.hid hr0
        have HS2 := Lib.hid hr2
        have HBS := Lib.hid hb
        clear hr hr0 hr2 hb e0 g0
        go_wp2_with fail
        go_roundw
        case rel =>
          refine ⟨1, by omega, by go_num, ?_, HS2.out, HBS.out⟩
          show wr.heap[w.heap.size]? = some (.cells #[.int .i64 (l + 1 : Nat), .int .i64 (up a0 : Nat), .int .i64 (a1 : Nat), .int .i64 (a2 : Nat), .int .i64 (a3 : Nat)] 46 (0, 0))
          rw [HU.out]
          exact HS.out
        case measure => simp [intOf]
    | 1, _ =>
      replace hi : _ = Value.int .i64 1 := hi
      subst hi
      have hr0 : wr.heap[w.heap.size]? = some (.cells #[.int .i64 (l + 1 : Nat), .int .i64 (up a0 : Nat), .int .i64 (a1 : Nat), .int .i64 (a2 : Nat), .int .i64 (a3 : Nat)] 46 (0, 0)) := hr
      have e1 := cell_of_row wr _ 2 #[.int .i64 (l + 1 : Nat), .int .i64 (up a0 : Nat), .int .i64 (a1 : Nat), .int .i64 (a2 : Nat), .int .i64 (a3 : Nat)] 46 (0, 0) hr0
      have g1 := frozen0 (p := 2) hr0
      by_cases ha : 0 < a1
      · have hd : decide ((0 : Int) < (a1 : Int)) = true := by simp; omega
        have HU : Hid (up a1 = a1 + 1) := by
          have : up a1 = a1 + 1 := by unfold up; rw [if_pos ha]
          exact this
        go_wp2_with fail
        have hs := set_row5 (k := 2) (.int .i64 ((a1 : Int) + 1)) hr0
        have hs2 := setCell_far wr ⟨w.heap.size, 2, none⟩ (.int .i64 ((a1 : Int) + 1)) (w.heap.size + 1) (by show w.heap.size + 1 ≠ w.heap.size; omega)
        have HS := Lib.hid hs
        have HS2 := Lib.hid (hs2.trans hr2)
        have HBS := Lib.hid (below_set hb ⟨w.heap.size, 2, none⟩ (.int .i64 ((a1 : Int) + 1)) (Nat.le_refl _))
        generalize wr.setCell ⟨w.heap.size, 2, none⟩ (.int .i64 ((a1 : Int) + 1)) = W2 at *
        clear hs hs2 hr hr0 hr2 hb e1 g1
        go_roundw
        case rel =>
          refine ⟨2, by omega, by go_num, ?_, HS2.out, HBS.out⟩
          show W2.heap[w.heap.size]? = some (.cells #[.int .i64 (l + 1 : Nat), .int .i64 (up a0 : Nat), .int .i64 (up a1 : Nat), .int .i64 (a2 : Nat), .int .i64 (a3 : Nat)] 46 (0, 0))
          rw [HU.out]
          exact HS.out
        case measure => simp [intOf]
      · have hd : decide ((0 : Int) < (a1 : Int)) = false := by simp; omega
        have HU : Hid (up a1 = a1) := by
          have : up a1 = a1 := by unfold up; rw [if_neg ha]
          exact this
        have HS := Lib.hid hr0
        have HS2 := Lib.hid hr2
        have HBS := Lib.hid hb
        clear hr hr0 hr2 hb e1 g1
        go_wp2_with fail
        go_roundw
        case rel =>
          refine ⟨2, by omega, by go_num, ?_, HS2.out, HBS.out⟩
          show wr.heap[w.heap.size]? = some (.cells #[.int .i64 (l + 1 : Nat), .int .i64 (up a0 : Nat), .int .i64 (up a1 : Nat), .int .i64 (a2 : Nat), .int .i64 (a3 : Nat)] 46 (0, 0))
          rw [HU.out]
          exact HS.out
        case measure => simp [intOf]
    | 2, _ =>
      replace hi : _ = Value.int .i64 2 := hi
      subst hi
      have hr0 : wr.heap[w.heap.size]? = some (.cells #[.int .i64 (l + 1 : Nat), .int .i64 (up a0 : Nat), .int .i64 (up a1 : Nat), .int .i64 (a2 : Nat), .int .i64 (a3 : Nat)] 46 (0, 0)) := hr
      have e2 := cell_of_row wr _ 3 #[.int .i64 (l + 1 : Nat), .int .i64 (up a0 : Nat), .int .i64 (up a1 : Nat), .int .i64 (a2 : Nat), .int .i64 (a3 : Nat)] 46 (0, 0) hr0
      have g2 := frozen0 (p := 3) hr0
      by_cases ha : 0 < a2
      · have hd : decide ((0 : Int) < (a2 : Int)) = true := by simp; omega
        have HU : Hid (up a2 = a2 + 1) := by
          have : up a2 = a2 + 1 := by unfold up; rw [if_pos ha]
          exact this
        go_wp2_with fail
        have hs := set_row5 (k := 3) (.int .i64 ((a2 : Int) + 1)) hr0
        have hs2 := setCell_far wr ⟨w.heap.size, 3, none⟩ (.int .i64 ((a2 : Int) + 1)) (w.heap.size + 1) (by show w.heap.size + 1 ≠ w.heap.size; omega)
        have HS := Lib.hid hs
        have HS2 := Lib.hid (hs2.trans hr2)
        have HBS := Lib.hid (below_set hb ⟨w.heap.size, 3, none⟩ (.int .i64 ((a2 : Int) + 1)) (Nat.le_refl _))
        generalize wr.setCell ⟨w.heap.size, 3, none⟩ (.int .i64 ((a2 : Int) + 1)) = W2 at *
        clear hs hs2 hr hr0 hr2 hb e2 g2
        go_roundw
        case rel =>
          refine ⟨3, by omega, by go_num, ?_, HS2.out, HBS.out⟩
          show W2.heap[w.heap.size]? = some (.cells #[.int .i64 (l + 1 : Nat), .int .i64 (up a0 : Nat), .int .i64 (up a1 : Nat), .int .i64 (up a2 : Nat), .int .i64 (a3 : Nat)] 46 (0, 0))
          rw [HU.out]
          exact HS.out
        case measure => simp [intOf]
      · have hd : decide ((0 : Int) < (a2 : Int)) = false := by simp; omega
        have HU : Hid (up a2 = a2) := by
          have : up a2 = a2 := by unfold up; rw [if_neg ha]
          exact this
        have HS := Lib.hid hr0
        have HS2 := Lib.hid hr2
        have HBS := Lib.hid hb
        clear hr hr0 hr2 hb e2 g2
        go_wp2_with fail
        go_roundw
        case rel =>
          refine ⟨3, by omega, by go_num, ?_, HS2.out, HBS.out⟩
          show wr.heap[w.heap.size]? = some (.cells #[.int .i64 (l + 1 : Nat), .int .i64 (up a0 : Nat), .int .i64 (up a1 : Nat), .int .i64 (up a2 : Nat), .int .i64 (a3 : Nat)] 46 (0, 0))
          rw [HU.out]
          exact HS.out
        case measure => simp [intOf]
    | 3, _ =>
      replace hi : _ = Value.int .i64 3 := hi
      subst hi
      have hr0 : wr.heap[w.heap.size]? = some (.cells #[.int .i64 (l + 1 : Nat), .int .i64 (up a0 : Nat), .int .i64 (up a1 : Nat), .int .i64 (up a2 : Nat), .int .i64 (a3 : Nat)] 46 (0, 0)) := hr
      have e3 := cell_of_row wr _ 4 #[.int .i64 (l + 1 : Nat), .int .i64 (up a0 : Nat), .int .i64 (up a1 : Nat), .int .i64 (up a2 : Nat), .int .i64 (a3 : Nat)] 46 (0, 0) hr0
      have g3 := frozen0 (p := 4) hr0
      by_cases ha : 0 < a3
      · have hd : decide ((0 : Int) < (a3 : Int)) = true := by simp; omega
        have HU : Hid (up a3 = a3 + 1) := by
          have : up a3 = a3 + 1 := by unfold up; rw [if_pos ha]
          exact this
        go_wp2_with fail
        have hs := set_row5 (k := 4) (.int .i64 ((a3 : Int) + 1)) hr0
        have hs2 := setCell_far wr ⟨w.heap.size, 4, none⟩ (.int .i64 ((a3 : Int) + 1)) (w.heap.size + 1) (by show w.heap.size + 1 ≠ w.heap.size; omega)
        have HS := Lib.hid hs
        have HS2 := Lib.hid (hs2.trans hr2)
        have HBS := Lib.hid (below_set hb ⟨w.heap.size, 4, none⟩ (.int .i64 ((a3 : Int) + 1)) (Nat.le_refl _))
        generalize wr.setCell ⟨w.heap.size, 4, none⟩ (.int .i64 ((a3 : Int) + 1)) = W2 at *
        clear hs hs2 hr hr0 hr2 hb e3 g3
        go_roundw
        case rel =>
          refine ⟨4, by omega, by go_num, ?_, HS2.out, HBS.out⟩
          show W2.heap[w.heap.size]? = some (.cells #[.int .i64 (l + 1 : Nat), .int .i64 (up a0 : Nat), .int .i64 (up a1 : Nat), .int .i64 (up a2 : Nat), .int .i64 (up a3 : Nat)] 46 (0, 0))
          rw [HU.out]
          exact HS.out
        case measure => simp [intOf]
      · have hd : decide ((0 : Int) < (a3 : Int)) = false := by simp; omega
        have HU : Hid (up a3 = a3) := by
          have : up a3 = a3 := by unfold up; rw [if_neg ha]
          exact this
        have HS := Lib.hid hr0
        have HS2 := Lib.hid hr2
        have HBS := Lib.hid hb
        clear hr hr0 hr2 hb e3 g3
        go_wp2_with fail
        go_roundw
        case rel =>
          refine ⟨4, by omega, by go_num, ?_, HS2.out, HBS.out⟩
          show wr.heap[w.heap.size]? = some (.cells #[.int .i64 (l + 1 : Nat), .int .i64 (up a0 : Nat), .int .i64 (up a1 : Nat), .int .i64 (up a2 : Nat), .int .i64 (up a3 : Nat)] 46 (0, 0))
          rw [HU.out]
          exact HS.out
        case measure => simp [intOf]
    | 4, _ =>
      replace hi : _ = Value.int .i64 4 := hi
      subst hi
      have hr4 : wr.heap[w.heap.size]? = some (.cells #[.int .i64 (l + 1 : Nat), .int .i64 (up a0 : Nat), .int .i64 (up a1 : Nat), .int .i64 (up a2 : Nat), .int .i64 (up a3 : Nat)] 46 (0, 0)) := hr
      clear hr
      clear ix0 ix1 ix2 ix3
      generalize up a0 = b0 at *
      generalize up a1 = b1 at *
      generalize up a2 = b2 at *
      generalize up a3 = b3 at *
      have e0 := cell_of_row wr _ 0 #[.int .i64 ((l + 1 : Nat) : Int), .int .i64 b0, .int .i64 b1, .int .i64 b2, .int .i64 b3] 46 (0, 0) hr4
      have e1 := cell_of_row wr _ 1 #[.int .i64 ((l + 1 : Nat) : Int), .int .i64 b0, .int .i64 b1, .int .i64 b2, .int .i64 b3] 46 (0, 0) hr4
      have e2 := cell_of_row wr _ 2 #[.int .i64 ((l + 1 : Nat) : Int), .int .i64 b0, .int .i64 b1, .int .i64 b2, .int .i64 b3] 46 (0, 0) hr4
      have e3 := cell_of_row wr _ 3 #[.int .i64 ((l + 1 : Nat) : Int), .int .i64 b0, .int .i64 b1, .int .i64 b2, .int .i64 b3] 46 (0, 0) hr4
      have e4 := cell_of_row wr _ 4 #[.int .i64 ((l + 1 : Nat) : Int), .int .i64 b0, .int .i64 b1, .int .i64 b2, .int .i64 b3] 46 (0, 0) hr4
      have f0 := cell_of_row wr _ 0 #[.int .i64 0, .int .i64 0, .int .i64 0, .int .i64 0, .int .i64 0] 46 (0, 0) hr2
      have f1 := cell_of_row wr _ 1 #[.int .i64 0, .int .i64 0, .int .i64 0, .int .i64 0, .int .i64 0] 46 (0, 0) hr2
      have f2 := cell_of_row wr _ 2 #[.int .i64 0, .int .i64 0, .int .i64 0, .int .i64 0, .int .i64 0] 46 (0, 0) hr2
      have f3 := cell_of_row wr _ 3 #[.int .i64 0, .int .i64 0, .int .i64 0, .int .i64 0, .int .i64 0] 46 (0, 0) hr2
      have f4 := cell_of_row wr _ 4 #[.int .i64 0, .int .i64 0, .int .i64 0, .int .i64 0, .int .i64 0] 46 (0, 0) hr2
      have g0 := frozen0 (p := 0) hr2
      have g1 := frozen0 (p := 1) hr2
      have g2 := frozen0 (p := 2) hr2
      have g3 := frozen0 (p := 3) hr2
      have g4 := frozen0 (p := 4) hr2
      go_wp2_with fail
      refine bodyPost_ret (results_cell_row rfl _ _ (w.heap.size + 1) 46 _ (0, 0) _ rfl (row_ret hr2) Try.underlying46 rfl (by rw [hi0, Option.map_some, hz1]; rfl)) rfl ?_
      refine ⟨by first | rfl | (rw [hL]), below_set (below_set (below_set (below_set (below_set (HB.out.trans (hb.mono (by omega))) _ _ ?_) _ _ ?_) _ _ ?_) _ _ ?_) _ _ ?_⟩
      all_goals (show w.heap.size ≤ w.heap.size + 1; omega)

set_option maxRecDepth 100000 in
set_option maxHeartbeats 1000000 in
theorem join_is (F G : Fm) (w : World) : Calls Try.prog 36 #[fmV F, fmV G] w (Ret w (fmV (joinF F G))) := by
  obtain ⟨i0, hi0, hz0, hz1, hz2⟩ := info_parts infoFm
  obtain ⟨l, a0, a1, a2, a3⟩ := F
  obtain ⟨m, b0, b1, b2, b3⟩ := G
  show Calls Try.prog 36 #[.agg #[.int .i64 l, .int .i64 a0, .int .i64 a1, .int .i64 a2, .int .i64 a3], .agg #[.int .i64 m, .int .i64 b0, .int .i64 b1, .int .i64 b2, .int .i64 b3]] w (Ret w (.agg #[.int .i64 (max l m : Nat), .int .i64 (max a0 b0 : Nat), .int .i64 (max a1 b1 : Nat), .int .i64 (max a2 b2 : Nat), .int .i64 (max a3 b3 : Nat)]))
  by_cases hlm : l < m
  · have hli : (l : Int) < (m : Int) := by omega
    have hL : max l m = m := by omega
    go_enter Try.func36, Try.ntmps36
    go_wp2_with fail
    have HB := Lib.hid ((below_two w (.cells #[.int .i64 (m : Nat), .int .i64 a0, .int .i64 a1, .int .i64 a2, .int .i64 a3] 46) (.cells #[.int .i64 m, .int .i64 b0, .int .i64 b1, .int .i64 b2, .int .i64 b3] 46)).trans ((below_lit _ (.cells #[.int .i64 0, .int .i64 0, .int .i64 0, .int .i64 0, .int .i64 0] 46)).mono (by simp; omega)))
    have hq1 := (heap_alloc_old ((w.alloc (.cells #[.int .i64 (m : Nat), .int .i64 a0, .int .i64 a1, .int .i64 a2, .int .i64 a3] 46)).alloc (.cells #[.int .i64 m, .int .i64 b0, .int .i64 b1, .int .i64 b2, .int .i64 b3] 46)) (.cells #[.int .i64 0, .int .i64 0, .int .i64 0, .int .i64 0, .int .i64 0] 46) (r := w.heap.size) (by simp; omega)).trans ((heap_alloc_old (w.alloc (.cells #[.int .i64 (m : Nat), .int .i64 a0, .int .i64 a1, .int .i64 a2, .int .i64 a3] 46)) (.cells #[.int .i64 m, .int .i64 b0, .int .i64 b1, .int .i64 b2, .int .i64 b3] 46) (r := w.heap.size) (by simp)).trans (heap_alloc_new w (.cells #[.int .i64 (m : Nat), .int .i64 a0, .int .i64 a1, .int .i64 a2, .int .i64 a3] 46)))
    have hq2 := heap_alloc_new ((w.alloc (.cells #[.int .i64 (m : Nat), .int .i64 a0, .int .i64 a1, .int .i64 a2, .int .i64 a3] 46)).alloc (.cells #[.int .i64 m, .int .i64 b0, .int .i64 b1, .int .i64 b2, .int .i64 b3] 46)) (.cells #[.int .i64 0, .int .i64 0, .int .i64 0, .int .i64 0, .int .i64 0] 46)
    rw [show ((w.alloc (.cells #[.int .i64 (m : Nat), .int .i64 a0, .int .i64 a1, .int .i64 a2, .int .i64 a3] 46)).alloc (.cells #[.int .i64 m, .int .i64 b0, .int .i64 b1, .int .i64 b2, .int .i64 b3] 46)).heap.size = w.heap.size + 1 + 1 by simp] at hq2
    generalize ((w.alloc (.cells #[.int .i64 (m : Nat), .int .i64 a0, .int .i64 a1, .int .i64 a2, .int .i64 a3] 46)).alloc (.cells #[.int .i64 m, .int .i64 b0, .int .i64 b1, .int .i64 b2, .int .i64 b3] 46)).alloc (.cells #[.int .i64 0, .int .i64 0, .int .i64 0, .int .i64 0, .int .i64 0] 46) = W at *
    have HQ1 := Lib.hid hq1
    have HQ2 := Lib.hid hq2
    clear hq1 hq2
    go_loopw [15] (fun i wr => ∃ j : Nat, j ≤ 4 ∧ i = .int .i64 j ∧ wr.heap[w.heap.size]? = some (.cells #[.int .i64 ((m : Nat) : Int), .int .i64 ((if 0 < j then max a0 b0 else a0 : Nat) : Int), .int .i64 ((if 1 < j then max a1 b1 else a1 : Nat) : Int), .int .i64 ((if 2 < j then max a2 b2 else a2 : Nat) : Int), .int .i64 ((if 3 < j then max a3 b3 else a3 : Nat) : Int)] 46 (0, 0)) ∧ wr.heap[w.heap.size + 1 + 1]? = some (.cells #[.int .i64 0, .int .i64 0, .int .i64 0, .int .i64 0, .int .i64 0] 46 (0, 0)) ∧ Below w.heap.size W wr) (fun i _ => 4 - (intOf i).toNat)
    case atStart => exact ⟨0, by omega, rfl, HQ1.out, HQ2.out, Below.refl _ _⟩
    case round =>
      obtain ⟨j, hj, hi, hr, hr2, hb⟩ := hrel
      have ix0 : ∀ w, (Instr.index 44 (.agg #[.int .i64 b0, .int .i64 b1, .int .i64 b2, .int .i64 b3]) (.int .i64 0)).run Try.prog w = .ok (.int .i64 b0) w := fun _ => by kernel_rfl
      have ix1 : ∀ w, (Instr.index 44 (.agg #[.int .i64 b0, .int .i64 b1, .int .i64 b2, .int .i64 b3]) (.int .i64 1)).run Try.prog w = .ok (.int .i64 b1) w := fun _ => by kernel_rfl
      have ix2 : ∀ w, (Instr.index 44 (.agg #[.int .i64 b0, .int .i64 b1, .int .i64 b2, .int .i64 b3]) (.int .i64 2)).run Try.prog w = .ok (.int .i64 b2) w := fun _ => by kernel_rfl
      have ix3 : ∀ w, (Instr.index 44 (.agg #[.int .i64 b0, .int .i64 b1, .int .i64 b2, .int .i64 b3]) (.int .i64 3)).run Try.prog w = .ok (.int .i64 b3) w := fun _ => by kernel_rfl
      match j, hj with
      | 0, _ =>
        replace hi : _ = Value.int .i64 0 := hi
        subst hi
        have hr0 : wr.heap[w.heap.size]? = some (.cells #[.int .i64 (m : Nat), .int .i64 (a0 : Nat), .int .i64 (a1 : Nat), .int .i64 (a2 : Nat), .int .i64 (a3 : Nat)] 46 (0, 0)) := hr
        have e0 := cell_of_row wr _ 1 #[.int .i64 (m : Nat), .int .i64 (a0 : Nat), .int .i64 (a1 : Nat), .int .i64 (a2 : Nat), .int .i64 (a3 : Nat)] 46 (0, 0) hr0
        have g0 := frozen0 (p := 1) hr0
        by_cases ha : a0 < b0
        · have hd : (a0 : Int) < (b0 : Int) := by omega
          have HU : Hid (max a0 b0 = b0) := by
            have : max a0 b0 = b0 := by omega
            exact this
          go_wp2_with fail
          have hs := set_row5 (k := 1) (.int .i64 (b0 : Int)) hr0
          have hs2 := setCell_far wr ⟨w.heap.size, 1, none⟩ (.int .i64 (b0 : Int)) (w.heap.size + 1 + 1) (by show w.heap.size + 1 + 1 ≠ w.heap.size; omega)
          have HS := Lib.hid hs
          have HS2 := Lib.hid (hs2.trans hr2)
          have HBS := Lib.hid (below_set hb ⟨w.heap.size, 1, none⟩ (.int .i64 (b0 : Int)) (Nat.le_refl _))
          generalize wr.setCell ⟨w.heap.size, 1, none⟩ (.int .i64 (b0 : Int)) = W2 at *
          clear hs hs2 hr hr0 hr2 hb e0 g0
          go_roundw
          case rel =>
            refine ⟨1, by omega, by go_num, ?_, HS2.out, HBS.out⟩
            show W2.heap[w.heap.size]? = some (.cells #[.int .i64 (m : Nat), .int .i64 (max a0 b0 : Nat), .int .i64 (a1 : Nat), .int .i64 (a2 : Nat), .int .i64 (a3 : Nat)] 46 (0, 0))
            rw [HU.out]
            exact HS.out
          case measure => simp [intOf]
        · have hd : (b0 : Int) ≤ (a0 : Int) := by omega
          have HU : Hid (max a0 b0 = a0) := by
            have : max a0 b0 = a0 := by omega
            exact this
          go_wp2_with fail
          have hs := set_row5 (k := 1) (.int .i64 (a0 : Int)) hr0
          have hs2 := setCell_far wr ⟨w.heap.size, 1, none⟩ (.int .i64 (a0 : Int)) (w.heap.size + 1 + 1) (by show w.heap.size + 1 + 1 ≠ w.heap.size; omega)
          have HS := Lib.hid hs
          have HS2 := Lib.hid (hs2.trans hr2)
          have HBS := Lib.hid (below_set hb ⟨w.heap.size, 1, none⟩ (.int .i64 (a0 : Int)) (Nat.le_refl _))
          generalize wr.setCell ⟨w.heap.size, 1, none⟩ (.int .i64 (a0 : Int)) = W2 at *
          clear hs hs2 hr hr0 hr2 hb e0 g0
          go_roundw
          case rel =>
            refine ⟨1, by omega, by go_num, ?_, HS2.out, HBS.out⟩
            show W2.heap[w.heap.size]? = some (.cells #[.int .i64 (m : Nat), .int .i64 (max a0 b0 : Nat), .int .i64 (a1 : Nat), .int .i64 (a2 : Nat), .int .i64 (a3 : Nat)] 46 (0, 0))
            rw [HU.out]
            exact HS.out
          case measure => simp [intOf]
      | 1, _ =>
        replace hi : _ = Value.int .i64 1 := hi
        subst hi
        have hr0 : wr.heap[w.heap.size]? = some (.cells #[.int .i64 (m : Nat), .int .i64 (max a0 b0 : Nat), .int .i64 (a1 : Nat), .int .i64 (a2 : Nat), .int .i64 (a3 : Nat)] 46 (0, 0)) := hr
        have e1 := cell_of_row wr _ 2 #[.int .i64 (m : Nat), .int .i64 (max a0 b0 : Nat), .int .i64 (a1 : Nat), .int .i64 (a2 : Nat), .int .i64 (a3 : Nat)] 46 (0, 0) hr0
        have g1 := frozen0 (p := 2) hr0
        by_cases ha : a1 < b1
        · have hd : (a1 : Int) < (b1 : Int) := by omega
          have HU : Hid (max a1 b1 = b1) := by
            have : max a1 b1 = b1 := by omega
            exact this
          go_wp2_with fail
          have hs := set_row5 (k := 2) (.int .i64 (b1 : Int)) hr0
          have hs2 := setCell_far wr ⟨w.heap.size, 2, none⟩ (.int .i64 (b1 : Int)) (w.heap.size + 1 + 1) (by show w.heap.size + 1 + 1 ≠ w.heap.size; omega)
          have HS := Lib.hid hs
          have HS2 := Lib.hid (hs2.trans hr2)
          have HBS := Lib.hid (below_set hb ⟨w.heap.size, 2, none⟩ (.int .i64 (b1 : Int)) (Nat.le_refl _))
          generalize wr.setCell ⟨w.heap.size, 2, none⟩ (.int .i64 (b1 : Int)) = W2 at *
          clear hs hs2 hr hr0 hr2 hb e1 g1
          go_roundw
          case rel =>
            refine ⟨2, by omega, by go_num, ?_, HS2.out, HBS.out⟩
            show W2.heap[w.heap.size]? = some (.cells #[.int .i64 (m : Nat), .int .i64 (max a0 b0 : Nat), .int .i64 (max a1 b1 : Nat), .int .i64 (a2 : Nat), .int .i64 (a3 : Nat)] 46 (0, 0))
            rw [HU.out]
            exact HS.out
          case measure => simp [intOf]
        · have hd : (b1 : Int) ≤ (a1 : Int) := by omega
          have HU : Hid (max a1 b1 = a1) := by
            have : max a1 b1 = a1 := by omega
            exact this
          go_wp2_with fail
          have hs := set_row5 (k := 2) (.int .i64 (a1 : Int)) hr0
          have hs2 := setCell_far wr ⟨w.heap.size, 2, none⟩ (.int .i64 (a1 : Int)) (w.heap.size + 1 + 1) (by show w.heap.size + 1 + 1 ≠ w.heap.size; omega)
          have HS := Lib.hid hs
          have HS2 := Lib.hid (hs2.trans hr2)
          have HBS := Lib.hid (below_set hb ⟨w.heap.size, 2, none⟩ (.int .i64 (a1 : Int)) (Nat.le_refl _))
          generalize wr.setCell ⟨w.heap.size, 2, none⟩ (.int .i64 (a1 : Int)) = W2 at *
          clear hs hs2 hr hr0 hr2 hb e1 g1
          go_roundw
          case rel =>
            refine ⟨2, by omega, by go_num, ?_, HS2.out, HBS.out⟩
            show W2.heap[w.heap.size]? = some (.cells #[.int .i64 (m : Nat), .int .i64 (max a0 b0 : Nat), .int .i64 (max a1 b1 : Nat), .int .i64 (a2 : Nat), .int .i64 (a3 : Nat)] 46 (0, 0))
            rw [HU.out]
            exact HS.out
          case measure => simp [intOf]
      | 2, _ =>
        replace hi : _ = Value.int .i64 2 := hi
        subst hi
        have hr0 : wr.heap[w.heap.size]? = some (.cells #[.int .i64 (m : Nat), .int .i64 (max a0 b0 : Nat), .int .i64 (max a1 b1 : Nat), .int .i64 (a2 : Nat), .int .i64 (a3 : Nat)] 46 (0, 0)) := hr
        have e2 := cell_of_row wr _ 3 #[.int .i64 (m : Nat), .int .i64 (max a0 b0 : Nat), .int .i64 (max a1 b1 : Nat), .int .i64 (a2 : Nat), .int .i64 (a3 : Nat)] 46 (0, 0) hr0
        have g2 := frozen0 (p := 3) hr0
        by_cases ha : a2 < b2
        · have hd : (a2 : Int) < (b2 : Int) := by omega
          have HU : Hid (max a2 b2 = b2) := by
            have : max a2 b2 = b2 := by omega
            exact this
          go_wp2_with fail
          have hs := set_row5 (k := 3) (.int .i64 (b2 : Int)) hr0
          have hs2 := setCell_far wr ⟨w.heap.size, 3, none⟩ (.int .i64 (b2 : Int)) (w.heap.size + 1 + 1) (by show w.heap.size + 1 + 1 ≠ w.heap.size; omega)
          have HS := Lib.hid hs
          have HS2 := Lib.hid (hs2.trans hr2)
          have HBS := Lib.hid (below_set hb ⟨w.heap.size, 3, none⟩ (.int .i64 (b2 : Int)) (Nat.le_refl _))
          generalize wr.setCell ⟨w.heap.size, 3, none⟩ (.int .i64 (b2 : Int)) = W2 at *
          clear hs hs2 hr hr0 hr2 hb e2 g2
          go_roundw
          case rel =>
            refine ⟨3, by omega, by go_num, ?_, HS2.out, HBS.out⟩
            show W2.heap[w.heap.size]? = some (.cells #[.int .i64 (m : Nat), .int .i64 (max a0 b0 : Nat), .int .i64 (max a1 b1 : Nat), .int .i64 (max a2 b2 : Nat), .int .i64 (a3 : Nat)] 46 (0, 0))
            rw [HU.out]
            exact HS.out
          case measure => simp [intOf]
        · have hd : (b2 : Int) ≤ (a2 : Int) := by omega
          have HU : Hid (max a2 b2 = a2) := by
            have : max a2 b2 = a2 := by omega
            exact this
          go_wp2_with fail
          have hs := set_row5 (k := 3) (.int .i64 (a2 : Int)) hr0
          have hs2 := setCell_far wr ⟨w.heap.size, 3, none⟩ (.int .i64 (a2 : Int)) (w.heap.size + 1 + 1) (by show w.heap.size + 1 + 1 ≠ w.heap.size; omega)
          have HS := Lib.hid hs
          have HS2 := Lib.hid (hs2.trans hr2)
          have HBS := Lib.hid (below_set hb ⟨w.heap.size, 3, none⟩ (.int .i64 (a2 : Int)) (Nat.le_refl _))
          generalize wr.setCell ⟨w.heap.size, 3, none⟩ (.int .i64 (a2 : Int)) = W2 at *
          clear hs hs2 hr hr0 hr2 hb e2 g2
          go_roundw
          case rel =>
            refine ⟨3, by omega, by go_num, ?_, HS2.out, HBS.out⟩
            show W2.heap[w.heap.size]? = some (.cells #[.int .i64 (m : Nat), .int .i64 (max a0 b0 : Nat), .int .i64 (max a1 b1 : Nat), .int .i64 (max a2 b2 : Nat), .int .i64 (a3 : Nat)] 46 (0, 0))
            rw [HU.out]
            exact HS.out
          case measure => simp [intOf]
      | 3, _ =>
        replace hi : _ = Value.int .i64 3 := hi
        subst hi
        have hr0 : wr.heap[w.heap.size]? = some (.cells #[.int .i64 (m : Nat), .int .i64 (max a0 b0 : Nat), .int .i64 (max a1 b1 : Nat), .int .i64 (max a2 b2 : Nat), .int .i64 (a3 : Nat)] 46 (0, 0)) := hr
        have e3 := cell_of_row wr _ 4 #[.int .i64 (m : Nat), .int .i64 (max a0 b0 : Nat), .int .i64 (max a1 b1 : Nat), .int .i64 (max a2 b2 : Nat), .int .i64 (a3 : Nat)] 46 (0, 0) hr0
        have g3 := frozen0 (p := 4) hr0
        by_cases ha : a3 < b3
        · have hd : (a3 : Int) < (b3 : Int) := by omega
          have HU : Hid (max a3 b3 = b3) := by
            have : max a3 b3 = b3 := by omega
            exact this
          go_wp2_with fail
          have hs := set_row5 (k := 4) (.int .i64 (b3 : Int)) hr0
          have hs2 := setCell_far wr ⟨w.heap.size, 4, none⟩ (.int .i64 (b3 : Int)) (w.heap.size + 1 + 1) (by show w.heap.size + 1 + 1 ≠ w.heap.size; omega)
          have HS := Lib.hid hs
          have HS2 := Lib.hid (hs2.trans hr2)
          have HBS := Lib.hid (below_set hb ⟨w.heap.size, 4, none⟩ (.int .i64 (b3 : Int)) (Nat.le_refl _))
          generalize wr.setCell ⟨w.heap.size, 4, none⟩ (.int .i64 (b3 : Int)) = W2 at *
          clear hs hs2 hr hr0 hr2 hb e3 g3
          go_roundw
          case rel =>
            refine ⟨4, by omega, by go_num, ?_, HS2.out, HBS.out⟩
            show W2.heap[w.heap.size]? = some (.cells #[.int .i64 (m : Nat), .int .i64 (max a0 b0 : Nat), .int .i64 (max a1 b1 : Nat), .int .i64 (max a2 b2 : Nat), .int .i64 (max a3 b3 : Nat)] 46 (0, 0))
            rw [HU.out]
            exact HS.out
          case measure => simp [intOf]
        · have hd : (b3 : Int) ≤ (a3 : Int) := by omega
          have HU : Hid (max a3 b3 = a3) := by
            have : max a3 b3 = a3 := by omega
            exact this
          go_wp2_with fail
          have hs := set_row5 (k := 4) (.int .i64 (a3 : Int)) hr0
          have hs2 := setCell_far wr ⟨w.heap.size, 4, none⟩ (.int .i64 (a3 : Int)) (w.heap.size + 1 + 1) (by show w.heap.size + 1 + 1 ≠ w.heap.size; omega)
          have HS := Lib.hid hs
          have HS2 := Lib.hid (hs2.trans hr2)
          have HBS := Lib.hid (below_set hb ⟨w.heap.size, 4, none⟩ (.int .i64 (a3 : Int)) (Nat.le_refl _))
          generalize wr.setCell ⟨w.heap.size, 4, none⟩ (.int .i64 (a3 : Int)) = W2 at *
          clear hs hs2 hr hr0 hr2 hb e3 g3
          go_roundw
          case rel =>
            refine ⟨4, by omega, by go_num, ?_, HS2.out, HBS.out⟩
            show W2.heap[w.heap.size]? = some (.cells #[.int .i64 (m : Nat), .int .i64 (max a0 b0 : Nat), .int .i64 (max a1 b1 : Nat), .int .i64 (max a2 b2 : Nat), .int .i64 (max a3 b3 : Nat)] 46 (0, 0))
            rw [HU.out]
            exact HS.out
          case measure => simp [intOf]
      | 4, _ =>
        replace hi : _ = Value.int .i64 4 := hi
        subst hi
        have hr4 : wr.heap[w.heap.size]? = some (.cells #[.int .i64 (m : Nat), .int .i64 (max a0 b0 : Nat), .int .i64 (max a1 b1 : Nat), .int .i64 (max a2 b2 : Nat), .int .i64 (max a3 b3 : Nat)] 46 (0, 0)) := hr
        clear hr
        clear ix0 ix1 ix2 ix3
        generalize max a0 b0 = c0 at *
        generalize max a1 b1 = c1 at *
        generalize max a2 b2 = c2 at *
        generalize max a3 b3 = c3 at *
        have e0 := cell_of_row wr _ 0 #[.int .i64 (m : Nat), .int .i64 c0, .int .i64 c1, .int .i64 c2, .int .i64 c3] 46 (0, 0) hr4
        have e1 := cell_of_row wr _ 1 #[.int .i64 (m : Nat), .int .i64 c0, .int .i64 c1, .int .i64 c2, .int .i64 c3] 46 (0, 0) hr4
        have e2 := cell_of_row wr _ 2 #[.int .i64 (m : Nat), .int .i64 c0, .int .i64 c1, .int .i64 c2, .int .i64 c3] 46 (0, 0) hr4
        have e3 := cell_of_row wr _ 3 #[.int .i64 (m : Nat), .int .i64 c0, .int .i64 c1, .int .i64 c2, .int .i64 c3] 46 (0, 0) hr4
        have e4 := cell_of_row wr _ 4 #[.int .i64 (m : Nat), .int .i64 c0, .int .i64 c1, .int .i64 c2, .int .i64 c3] 46 (0, 0) hr4
        have f0 := cell_of_row wr _ 0 #[.int .i64 0, .int .i64 0, .int .i64 0, .int .i64 0, .int .i64 0] 46 (0, 0) hr2
        have f1 := cell_of_row wr _ 1 #[.int .i64 0, .int .i64 0, .int .i64 0, .int .i64 0, .int .i64 0] 46 (0, 0) hr2
        have f2 := cell_of_row wr _ 2 #[.int .i64 0, .int .i64 0, .int .i64 0, .int .i64 0, .int .i64 0] 46 (0, 0) hr2
        have f3 := cell_of_row wr _ 3 #[.int .i64 0, .int .i64 0, .int .i64 0, .int .i64 0, .int .i64 0] 46 (0, 0) hr2
        have f4 := cell_of_row wr _ 4 #[.int .i64 0, .int .i64 0, .int .i64 0, .int .i64 0, .int .i64 0] 46 (0, 0) hr2
        have g0 := frozen0 (p := 0) hr2
        have g1 := frozen0 (p := 1) hr2
        have g2 := frozen0 (p := 2) hr2
        have g3 := frozen0 (p := 3) hr2
        have g4 := frozen0 (p := 4) hr2
        go_wp2_with fail
        refine bodyPost_ret (results_cell_row rfl _ _ (w.heap.size + 1 + 1) 46 _ (0, 0) _ rfl (row_ret hr2) Try.underlying46 rfl (by rw [hi0, Option.map_some, hz1]; rfl)) rfl ?_
        refine ⟨by first | rfl | (rw [hL]), below_set (below_set (below_set (below_set (below_set (HB.out.trans (hb.mono (by omega))) _ _ ?_) _ _ ?_) _ _ ?_) _ _ ?_) _ _ ?_⟩
        all_goals (show w.heap.size ≤ w.heap.size + 1 + 1; omega)
  · have hli : (m : Int) ≤ (l : Int) := by omega
    have hL : max l m = l := by omega
    go_enter Try.func36, Try.ntmps36
    go_wp2_with fail
    have HB := Lib.hid ((below_two w (.cells #[.int .i64 (l : Nat), .int .i64 a0, .int .i64 a1, .int .i64 a2, .int .i64 a3] 46) (.cells #[.int .i64 m, .int .i64 b0, .int .i64 b1, .int .i64 b2, .int .i64 b3] 46)).trans ((below_lit _ (.cells #[.int .i64 0, .int .i64 0, .int .i64 0, .int .i64 0, .int .i64 0] 46)).mono (by simp; omega)))
    have hq1 := (heap_alloc_old ((w.alloc (.cells #[.int .i64 (l : Nat), .int .i64 a0, .int .i64 a1, .int .i64 a2, .int .i64 a3] 46)).alloc (.cells #[.int .i64 m, .int .i64 b0, .int .i64 b1, .int .i64 b2, .int .i64 b3] 46)) (.cells #[.int .i64 0, .int .i64 0, .int .i64 0, .int .i64 0, .int .i64 0] 46) (r := w.heap.size) (by simp; omega)).trans ((heap_alloc_old (w.alloc (.cells #[.int .i64 (l : Nat), .int .i64 a0, .int .i64 a1, .int .i64 a2, .int .i64 a3] 46)) (.cells #[.int .i64 m, .int .i64 b0, .int .i64 b1, .int .i64 b2, .int .i64 b3] 46) (r := w.heap.size) (by simp)).trans (heap_alloc_new w (.cells #[.int .i64 (l : Nat), .int .i64 a0, .int .i64 a1, .int .i64 a2, .int .i64 a3] 46)))
    have hq2 := heap_alloc_new ((w.alloc (.cells #[.int .i64 (l : Nat), .int .i64 a0, .int .i64 a1, .int .i64 a2, .int .i64 a3] 46)).alloc (.cells #[.int .i64 m, .int .i64 b0, .int .i64 b1, .int .i64 b2, .int .i64 b3] 46)) (.cells #[.int .i64 0, .int .i64 0, .int .i64 0, .int .i64 0, .int .i64 0] 46)
    rw [show ((w.alloc (.cells #[.int .i64 (l : Nat), .int .i64 a0, .int .i64 a1, .int .i64 a2, .int .i64 a3] 46)).alloc (.cells #[.int .i64 m, .int .i64 b0, .int .i64 b1, .int .i64 b2, .int .i64 b3] 46)).heap.size = w.heap.size + 1 + 1 by simp] at hq2
    generalize ((w.alloc (.cells #[.int .i64 (l : Nat), .int .i64 a0, .int .i64 a1, .int .i64 a2, .int .i64 a3] 46)).alloc (.cells #[.int .i64 m, .int .i64 b0, .int .i64 b1, .int .i64 b2, .int .i64 b3] 46)).alloc (.cells #[.int .i64 0, .int .i64 0, .int .i64 0, .int .i64 0, .int .i64 0] 46) = W at *
    have HQ1 := Lib.hid hq1
    have HQ2 := Lib.hid hq2
    clear hq1 hq2
    go_loopw [15] (fun i wr => ∃ j : Nat, j ≤ 4 ∧ i = .int .i64 j ∧ wr.heap[w.heap.size]? = some (.cells #[.int .i64 ((l : Nat) : Int), .int .i64 ((if 0 < j then max a0 b0 else a0 : Nat) : Int), .int .i64 ((if 1 < j then max a1 b1 else a1 : Nat) : Int), .int .i64 ((if 2 < j then max a2 b2 else a2 : Nat) : Int), .int .i64 ((if 3 < j then max a3 b3 else a3 : Nat) : Int)] 46 (0, 0)) ∧ wr.heap[w.heap.size + 1 + 1]? = some (.cells #[.int .i64 0, .int .i64 0, .int .i64 0, .int .i64 0, .int .i64 0] 46 (0, 0)) ∧ Below w.heap.size W wr) (fun i _ => 4 - (intOf i).toNat)
    case atStart => exact ⟨0, by omega, rfl, HQ1.out, HQ2.out, Below.refl _ _⟩
    case round =>
      obtain ⟨j, hj, hi, hr, hr2, hb⟩ := hrel
      have ix0 : ∀ w, (Instr.index 44 (.agg #[.int .i64 b0, .int .i64 b1, .int .i64 b2, .int .i64 b3]) (.int .i64 0)).run Try.prog w = .ok (.int .i64 b0) w := fun _ => by kernel_rfl
      have ix1 : ∀ w, (Instr.index 44 (.agg #[.int .i64 b0, .int .i64 b1, .int .i64 b2, .int .i64 b3]) (.int .i64 1)).run Try.prog w = .ok (.int .i64 b1) w := fun _ => by kernel_rfl
      have ix2 : ∀ w, (Instr.index 44 (.agg #[.int .i64 b0, .int .i64 b1, .int .i64 b2, .int .i64 b3]) (.int .i64 2)).run Try.prog w = .ok (.int .i64 b2) w := fun _ => by kernel_rfl
      have ix3 : ∀ w, (Instr.index 44 (.agg #[.int .i64 b0, .int .i64 b1, .int .i64 b2, .int .i64 b3]) (.int .i64 3)).run Try.prog w = .ok (.int .i64 b3) w := fun _ => by kernel_rfl
      match j, hj with
      | 0, _ =>
        replace hi : _ = Value.int .i64 0 := hi
        subst hi
        have hr0 : wr.heap[w.heap.size]? = some (.cells #[.int .i64 (l : Nat), .int .i64 (a0 : Nat), .int .i64 (a1 : Nat), .int .i64 (a2 : Nat), .int .i64 (a3 : Nat)] 46 (0, 0)) := hr
        have e0 := cell_of_row wr _ 1 #[.int .i64 (l : Nat), .int .i64 (a0 : Nat), .int .i64 (a1 : Nat), .int .i64 (a2 : Nat), .int .i64 (a3 : Nat)] 46 (0, 0) hr0
        have g0 := frozen0 (p := 1) hr0
        by_cases ha : a0 < b0
        · have hd : (a0 : Int) < (b0 : Int) := by omega
          have HU : Hid (max a0 b0 = b0) := by
            have : max a0 b0 = b0 := by omega
            exact this
          go_wp2_with fail
          have hs := set_row5 (k := 1) (.int .i64 (b0 : Int)) hr0
          have hs2 := setCell_far wr ⟨w.heap.size, 1, none⟩ (.int .i64 (b0 : Int)) (w.heap.size + 1 + 1) (by show w.heap.size + 1 + 1 ≠ w.heap.size; omega)
          have HS := Lib.hid hs
          have HS2 := Lib.hid (hs2.trans hr2)
          have HBS := Lib.hid (below_set hb ⟨w.heap.size, 1, none⟩ (.int .i64 (b0 : Int)) (Nat.le_refl _))
          generalize wr.setCell ⟨w.heap.size, 1, none⟩ (.int .i64 (b0 : Int)) = W2 at *
          clear hs hs2 hr hr0 hr2 hb e0 g0
          go_roundw
          case rel =>
            refine ⟨1, by omega, by go_num, ?_, HS2.out, HBS.out⟩
            show W2.heap[w.heap.size]? = some (.cells #[.int .i64 (l : Nat), .int .i64 (max a0 b0 : Nat), .int .i64 (a1 : Nat), .int .i64 (a2 : Nat), .int .i64 (a3 : Nat)] 46 (0, 0))
            rw [HU.out]
            exact HS.out
          case measure => simp [intOf]
        · have hd : (b0 : Int) ≤ (a0 : Int) := by omega
          have HU : Hid (max a0 b0 = a0) := by
            have : max a0 b0 = a0 := by omega
            exact this
          go_wp2_with fail
          have hs := set_row5 (k := 1) (.int .i64 (a0 : Int)) hr0
          have hs2 := setCell_far wr ⟨w.heap.size, 1, none⟩ (.int .i64 (a0 : Int)) (w.heap.size + 1 + 1) (by show w.heap.size + 1 + 1 ≠ w.heap.size; omega)
          have HS := Lib.hid hs
          have HS2 := Lib.hid (hs2.trans hr2)
          have HBS := Lib.hid (below_set hb ⟨w.heap.size, 1, none⟩ (.int .i64 (a0 : Int)) (Nat.le_refl _))
          generalize wr.setCell ⟨w.heap.size, 1, none⟩ (.int .i64 (a0 : Int)) = W2 at *
          clear hs hs2 hr hr0 hr2 hb e0 g0
          go_roundw
          case rel =>
            refine ⟨1, by omega, by go_num, ?_, HS2.out, HBS.out⟩
            show W2.heap[w.heap.size]? = some (.cells #[.int .i64 (l : Nat), .int .i64 (max a0 b0 : Nat), .int .i64 (a1 : Nat), .int .i64 (a2 : Nat), .int .i64 (a3 : Nat)] 46 (0, 0))
            rw [HU.out]
            exact HS.out
          case measure => simp [intOf]
      | 1, _ =>
        replace hi : _ = Value.int .i64 1 := hi
        subst hi
        have hr0 : wr.heap[w.heap.size]? = some (.cells #[.int .i64 (l : Nat), .int .i64 (max a0 b0 : Nat), .int .i64 (a1 : Nat), .int .i64 (a2 : Nat), .int .i64 (a3 : Nat)] 46 (0, 0)) := hr
        have e1 := cell_of_row wr _ 2 #[.int .i64 (l : Nat), .int .i64 (max a0 b0 : Nat), .int .i64 (a1 : Nat), .int .i64 (a2 : Nat), .int .i64 (a3 : Nat)] 46 (0, 0) hr0
        have g1 := frozen0 (p := 2) hr0
        by_cases ha : a1 < b1
        · have hd : (a1 : Int) < (b1 : Int) := by omega
          have HU : Hid (max a1 b1 = b1) := by
            have : max a1 b1 = b1 := by omega
            exact this
          go_wp2_with fail
          have hs := set_row5 (k := 2) (.int .i64 (b1 : Int)) hr0
          have hs2 := setCell_far wr ⟨w.heap.size, 2, none⟩ (.int .i64 (b1 : Int)) (w.heap.size + 1 + 1) (by show w.heap.size + 1 + 1 ≠ w.heap.size; omega)
          have HS := Lib.hid hs
          have HS2 := Lib.hid (hs2.trans hr2)
          have HBS := Lib.hid (below_set hb ⟨w.heap.size, 2, none⟩ (.int .i64 (b1 : Int)) (Nat.le_refl _))
          generalize wr.setCell ⟨w.heap.size, 2, none⟩ (.int .i64 (b1 : Int)) = W2 at *
          clear hs hs2 hr hr0 hr2 hb e1 g1
          go_roundw
          case rel =>
            refine ⟨2, by omega, by go_num, ?_, HS2.out, HBS.out⟩
            show W2.heap[w.heap.size]? = some (.cells #[.int .i64 (l : Nat), .int .i64 (max a0 b0 : Nat), .int .i64 (max a1 b1 : Nat), .int .i64 (a2 : Nat), .int .i64 (a3 : Nat)] 46 (0, 0))
            rw [HU.out]
            exact HS.out
          case measure => simp [intOf]
        · have hd : (b1 : Int) ≤ (a1 : Int) := by omega
          have HU : Hid (max a1 b1 = a1) := by
            have : max a1 b1 = a1 := by omega
            exact this
          go_wp2_with fail
          have hs := set_row5 (k := 2) (.int .i64 (a1 : Int)) hr0
          have hs2 := setCell_far wr ⟨w.heap.size, 2, none⟩ (.int .i64 (a1 : Int)) (w.heap.size + 1 + 1) (by show w.heap.size + 1 + 1 ≠ w.heap.size; omega)
          have HS := Lib.hid hs
          have HS2 := Lib.hid (hs2.trans hr2)
          have HBS := Lib.hid (below_set hb ⟨w.heap.size, 2, none⟩ (.int .i64 (a1 : Int)) (Nat.le_refl _))
          generalize wr.setCell ⟨w.heap.size, 2, none⟩ (.int .i64 (a1 : Int)) = W2 at *
          clear hs hs2 hr hr0 hr2 hb e1 g1
          go_roundw
          case rel =>
            refine ⟨2, by omega, by go_num, ?_, HS2.out, HBS.out⟩
            show W2.heap[w.heap.size]? = some (.cells #[.int .i64 (l : Nat), .int .i64 (max a0 b0 : Nat), .int .i64 (max a1 b1 : Nat), .int .i64 (a2 : Nat), .int .i64 (a3 : Nat)] 46 (0, 0))
            rw [HU.out]
            exact HS.out
          case measure => simp [intOf]
      | 2, _ =>
        replace hi : _ = Value.int .i64 2 := hi
        subst hi
        have hr0 : wr.heap[w.heap.size]? = some (.cells #[.int .i64 (l : Nat), .int .i64 (max a0 b0 : Nat), .int .i64 (max a1 b1 : Nat), .int .i64 (a2 : Nat), .int .i64 (a3 : Nat)] 46 (0, 0)) := hr
        have e2 := cell_of_row wr _ 3 #[.int .i64 (l : Nat), .int .i64 (max a0 b0 : Nat), .int .i64 (max a1 b1 : Nat), .int .i64 (a2 : Nat), .int .i64 (a3 : Nat)] 46 (0, 0) hr0
        have g2 := frozen0 (p := 3) hr0
        by_cases ha : a2 < b2
        · have hd : (a2 : Int) < (b2 : Int) := by omega
          have HU : Hid (max a2 b2 = b2) := by
            have : max a2 b2 = b2 := by omega
            exact this
          go_wp2_with fail
          have hs := set_row5 (k := 3) (.int .i64 (b2 : Int)) hr0
          have hs2 := setCell_far wr ⟨w.heap.size, 3, none⟩ (.int .i64 (b2 : Int)) (w.heap.size + 1 + 1) (by show w.heap.size + 1 + 1 ≠ w.heap.size; omega)
          have HS := Lib.hid hs
          have HS2 := Lib.hid (hs2.trans hr2)
          have HBS := Lib.hid (below_set hb ⟨w.heap.size, 3, none⟩ (.int .i64 (b2 : Int)) (Nat.le_refl _))
          generalize wr.setCell ⟨w.heap.size, 3, none⟩ (.int .i64 (b2 : Int)) = W2 at *
          clear hs hs2 hr hr0 hr2 hb e2 g2
          go_roundw
          case rel =>
            refine ⟨3, by omega, by go_num, ?_, HS2.out, HBS.out⟩
            show W2.heap[w.heap.size]? = some (.cells #[.int .i64 (l : Nat), .int .i64 (max a0 b0 : Nat), .int .i64 (max a1 b1 : Nat), .int .i64 (max a2 b2 : Nat), .int .i64 (a3 : Nat)] 46 (0, 0))
            rw [HU.out]
            exact HS.out
          case measure => simp [intOf]
        · have hd : (b2 : Int) ≤ (a2 : Int) := by omega
          have HU : Hid (max a2 b2 = a2) := by
            have : max a2 b2 = a2 := by omega
            exact this
          go_wp2_with fail
          have hs := set_row5 (k := 3) (.int .i64 (a2 : Int)) hr0
          have hs2 := setCell_far wr ⟨w.heap.size, 3, none⟩ (.int .i64 (a2 : Int)) (w.heap.size + 1 + 1) (by show w.heap.size + 1 + 1 ≠ w.heap.size; omega)
          have HS := Lib.hid hs
          have HS2 := Lib.hid (hs2.trans hr2)
          have HBS := Lib.hid (below_set hb ⟨w.heap.size, 3, none⟩ (.int .i64 (a2 : Int)) (Nat.le_refl _))
          generalize wr.setCell ⟨w.heap.size, 3, none⟩ (.int .i64 (a2 : Int)) = W2 at *
          clear hs hs2 hr hr0 hr2 hb e2 g2
          go_roundw
          case rel =>
            refine ⟨3, by omega, by go_num, ?_, HS2.out, HBS.out⟩
            show W2.heap[w.heap.size]? = some (.cells #[.int .i64 (l : Nat), .int .i64 (max a0 b0 : Nat), .int .i64 (max a1 b1 : Nat), .int .i64 (max a2 b2 : Nat), .int .i64 (a3 : Nat)] 46 (0, 0))
            rw [HU.out]
            exact HS.out
          case measure => simp [intOf]
      | 3, _ =>
        replace hi : _ = Value.int .i64 3 := hi
        subst hi
        have hr0 : wr.heap[w.heap.size]? = some (.cells #[.int .i64 (l : Nat), .int .i64 (max a0 b0 : Nat), .int .i64 (max a1 b1 : Nat), .int .i64 (max a2 b2 : Nat), .int .i64 (a3 : Nat)] 46 (0, 0)) := hr
        have e3 := cell_of_row wr _ 4 #[.int .i64 (l : Nat), .int .i64 (max a0 b0 : Nat), .int .i64 (max a1 b1 : Nat), .int .i64 (max a2 b2 : Nat), .int .i64 (a3 : Nat)] 46 (0, 0) hr0
        have g3 := frozen0 (p := 4) hr0
        by_cases ha : a3 < b3
        · have hd : (a3 : Int) < (b3 : Int) := by omega
          have HU : Hid (max a3 b3 = b3) := by
            have : max a3 b3 = b3 := by omega
            exact this
          go_wp2_with fail
          have hs := set_row5 (k := 4) (.int .i64 (b3 : Int)) hr0
          have hs2 := setCell_far wr ⟨w.heap.size, 4, none⟩ (.int .i64 (b3 : Int)) (w.heap.size + 1 + 1) (by show w.heap.size + 1 + 1 ≠ w.heap.size; omega)
          have HS := Lib.hid hs
          have HS2 := Lib.hid (hs2.trans hr2)
          have HBS := Lib.hid (below_set hb ⟨w.heap.size, 4, none⟩ (.int .i64 (b3 : Int)) (Nat.le_refl _))
          generalize wr.setCell ⟨w.heap.size, 4, none⟩ (.int .i64 (b3 : Int)) = W2 at *
          clear hs hs2 hr hr0 hr2 hb e3 g3
          go_roundw
          case rel =>
            refine ⟨4, by omega, by go_num, ?_, HS2.out, HBS.out⟩
            show W2.heap[w.heap.size]? = some (.cells #[.int .i64 (l : Nat), .int .i64 (max a0 b0 : Nat), .int .i64 (max a1 b1 : Nat), .int .i64 (max a2 b2 : Nat), .int .i64 (max a3 b3 : Nat)] 46 (0, 0))
            rw [HU.out]
            exact HS.out
          case measure => simp [intOf]
        · have hd : (b3 : Int) ≤ (a3 : Int) := by omega
          have HU : Hid (max a3 b3 = a3) := by
            have : max a3 b3 = a3 := by omega
            exact this
          go_wp2_with fail
          have hs := set_row5 (k := 4) (.int .i64 (a3 : Int)) hr0
          have hs2 := setCell_far wr ⟨w.heap.size, 4, none⟩ (.int .i64 (a3 : Int)) (w.heap.size + 1 + 1) (by show w.heap.size + 1 + 1 ≠ w.heap.size; omega)
          have HS := Lib.hid hs
          have HS2 := Lib.hid (hs2.trans hr2)
          have HBS := Lib.hid (below_set hb ⟨w.heap.size, 4, none⟩ (.int .i64 (a3 : Int)) (Nat.le_refl _))
          generalize wr.setCell ⟨w.heap.size, 4, none⟩ (.int .i64 (a3 : Int)) = W2 at *
          clear hs hs2 hr hr0 hr2 hb e3 g3
          go_roundw
          case rel =>
            refine ⟨4, by omega, by go_num, ?_, HS2.out, HBS.out⟩
            show W2.heap[w.heap.size]? = some (.cells #[.int .i64 (l : Nat), .int .i64 (max a0 b0 : Nat), .int .i64 (max a1 b1 : Nat), .int .i64 (max a2 b2 : Nat), .int .i64 (max a3 b3 : Nat)] 46 (0, 0))
            rw [HU.out]
            exact HS.out
          case measure => simp [intOf]
      | 4, _ =>
        replace hi : _ = Value.int .i64 4 := hi
        subst hi
        have hr4 : wr.heap[w.heap.size]? = some (.cells #[.int .i64 (l : Nat), .int .i64 (max a0 b0 : Nat), .int .i64 (max a1 b1 : Nat), .int .i64 (max a2 b2 : Nat), .int .i64 (max a3 b3 : Nat)] 46 (0, 0)) := hr
        clear hr
        clear ix0 ix1 ix2 ix3
        generalize max a0 b0 = c0 at *
        generalize max a1 b1 = c1 at *
        generalize max a2 b2 = c2 at *
        generalize max a3 b3 = c3 at *
        have e0 := cell_of_row wr _ 0 #[.int .i64 (l : Nat), .int .i64 c0, .int .i64 c1, .int .i64 c2, .int .i64 c3] 46 (0, 0) hr4
        have e1 := cell_of_row wr _ 1 #[.int .i64 (l : Nat), .int .i64 c0, .int .i64 c1, .int .i64 c2, .int .i64 c3] 46 (0, 0) hr4
        have e2 := cell_of_row wr _ 2 #[.int .i64 (l : Nat), .int .i64 c0, .int .i64 c1, .int .i64 c2, .int .i64 c3] 46 (0, 0) hr4
        have e3 := cell_of_row wr _ 3 #[.int .i64 (l : Nat), .int .i64 c0, .int .i64 c1, .int .i64 c2, .int .i64 c3] 46 (0, 0) hr4
        have e4 := cell_of_row wr _ 4 #[.int .i64 (l : Nat), .int .i64 c0, .int .i64 c1, .int .i64 c2, .int .i64 c3] 46 (0, 0) hr4
        have f0 := cell_of_row wr _ 0 #[.int .i64 0, .int .i64 0, .int .i64 0, .int .i64 0, .int .i64 0] 46 (0, 0) hr2
        have f1 := cell_of_row wr _ 1 #[.int .i64 0, .int .i64 0, .int .i64 0, .int .i64 0, .int .i64 0] 46 (0, 0) hr2
        have f2 := cell_of_row wr _ 2 #[.int .i64 0, .int .i64 0, .int .i64 0, .int .i64 0, .int .i64 0] 46 (0, 0) hr2
        have f3 := cell_of_row wr _ 3 #[.int .i64 0, .int .i64 0, .int .i64 0, .int .i64 0, .int .i64 0] 46 (0, 0) hr2
        have f4 := cell_of_row wr _ 4 #[.int .i64 0, .int .i64 0, .int .i64 0, .int .i64 0, .int .i64 0] 46 (0, 0) hr2
        have g0 := frozen0 (p := 0) hr2
        have g1 := frozen0 (p := 1) hr2
        have g2 := frozen0 (p := 2) hr2
        have g3 := frozen0 (p := 3) hr2
        have g4 := frozen0 (p := 4) hr2
        go_wp2_with fail
        refine bodyPost_ret (results_cell_row rfl _ _ (w.heap.size + 1 + 1) 46 _ (0, 0) _ rfl (row_ret hr2) Try.underlying46 rfl (by rw [hi0, Option.map_some, hz1]; rfl)) rfl ?_
        refine ⟨by first | rfl | (rw [hL]), below_set (below_set (below_set (below_set (below_set (HB.out.trans (hb.mono (by omega))) _ _ ?_) _ _ ?_) _ _ ?_) _ _ ?_) _ _ ?_⟩
        all_goals (show w.heap.size ≤ w.heap.size + 1 + 1; omega)
end Go.Proofs.Yteghldgopidhhaa
