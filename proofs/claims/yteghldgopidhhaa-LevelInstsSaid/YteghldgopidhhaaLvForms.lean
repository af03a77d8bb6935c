/-
  The contract of the program's function forms: a level's sixteen forms, and whether it is right; noughts, if it isn't.
  Conditions: the level lies in memory as told by 'LvV', and has at most 1000 nodes.
-/
import Derived.Test.YteghldgopidhhaaLvFormOf
import Derived.Deep.WholeRow
import Derived.Deep.MidRow
import Derived.Laws.CopyOwn
import Derived.Test.YteghldgopidhhaaLvInst2
namespace Go.Proofs.Yteghldgopidhhaa
open Go.RowKit
open Lvl

/-- The cells of a row of forms. -/
def fmsL : List Fm → List Value
  | [] => []
  | F :: Fs => .int .i64 F.l :: .int .i64 F.a0 :: .int .i64 F.a1 :: .int .i64 F.a2 :: .int .i64 F.a3 :: fmsL Fs
theorem fmsL_len : ∀ Fs : List Fm, (fmsL Fs).length = Fs.length * 5
  | [] => rfl
  | F :: Fs => by
    simp only [fmsL, List.length_cons, fmsL_len Fs]
    omega
theorem fmsL_get : ∀ (Fs : List Fm) (i : Nat) (h : i < Fs.length), (fmsL Fs)[i * 5]? = some (.int .i64 Fs[i].l) ∧ (fmsL Fs)[i * 5 + 1]? = some (.int .i64 Fs[i].a0) ∧ (fmsL Fs)[i * 5 + 2]? = some (.int .i64 Fs[i].a1) ∧ (fmsL Fs)[i * 5 + 3]? = some (.int .i64 Fs[i].a2) ∧ (fmsL Fs)[i * 5 + 4]? = some (.int .i64 Fs[i].a3)
  | F :: Fs, 0, _ => ⟨rfl, rfl, rfl, rfl, rfl⟩
  | F :: Fs, i + 1, h => by
    have := fmsL_get Fs i (by simpa using h)
    rw [show (i + 1) * 5 = i * 5 + 5 by omega]
    exact this
theorem fmsL_one : ∀ (Fs : List Fm), ∀ v ∈ fmsL Fs, v.oneCell' = true := by
  intro Fs
  induction Fs with
  | nil => intro v hv; cases hv
  | cons F Fs ih =>
    intro v hv
    simp only [fmsL, List.mem_cons] at hv
    rcases hv with rfl | rfl | rfl | rfl | rfl | hv
    · rfl
    · rfl
    · rfl
    · rfl
    · rfl
    · exact ih v hv
theorem fmsL_set : ∀ (Fs : List Fm) (i : Nat) (F : Fm), i < Fs.length → (((((fmsL Fs).set (i * 5) (.int .i64 F.l)).set (i * 5 + 1) (.int .i64 F.a0)).set (i * 5 + 2) (.int .i64 F.a1)).set (i * 5 + 3) (.int .i64 F.a2)).set (i * 5 + 4) (.int .i64 F.a3) = fmsL (Fs.set i F)
  | G :: Fs, 0, F, _ => rfl
  | G :: Fs, i + 1, F, h => by
    have := fmsL_set Fs i F (by simpa using h)
    rw [show (i + 1) * 5 = i * 5 + 1 + 1 + 1 + 1 + 1 by omega]
    simp only [fmsL, List.set_cons_succ, show i * 5 + 1 + 1 + 1 + 1 + 1 + 1 = i * 5 + 1 + 1 + 1 + 1 + 1 + 1 from rfl]
    rw [this]
def noForms : List Fm := List.replicate 16 zeroF
/-- A right level's forms. -/
def formsOf (x : L) : List Fm := (List.range 16).map fun z => formF z x
/-- The first j of them. -/
def formsTo (x : L) (j : Nat) : List Fm := (List.range 16).map fun z => if z < j then formF z x else zeroF
theorem formsTo_none (x : L) : formsTo x 0 = noForms := by simp [formsTo, noForms, List.range_succ, List.replicate]
theorem formsTo_all (x : L) : formsTo x 16 = formsOf x := by
  unfold formsTo formsOf
  apply List.map_congr_left
  intro z hz
  rw [if_pos (List.mem_range.1 hz)]
theorem formsTo_len (x : L) (j : Nat) : (formsTo x j).length = 16 := by simp [formsTo]
theorem formsTo_set (x : L) (j : Nat) : (formsTo x j).set j (formF j x) = formsTo x (j + 1) := by
  apply List.ext_getElem
  · simp [formsTo]
  · intro i h1 h2
    rw [List.getElem_set]
    simp only [formsTo, List.getElem_map, List.getElem_range]
    by_cases hij : j = i
    · subst hij
      rw [if_pos rfl, if_pos (by omega)]
    · rw [if_neg hij]
      by_cases hlt : i < j
      · rw [if_pos hlt, if_pos (by omega)]
      · rw [if_neg hlt, if_neg (by omega)]
theorem zero_forms : (Try.prog.info? 47).map (fun i => (i.zero, i.size)) = some (some (.agg (fmsL noForms).toArray), 80) := by kernel_rfl
theorem u_forms : Try.prog.underlying 47 = some (.array 16 46) := by kernel_rfl
theorem row_range {w : World} {b : Nat} {L : List Value} {T : TypeId} (h : w.heap[b]? = some (.cells L.toArray T (0, 0))) : w.rangeAt b 0 L := fun j v hv => by
  rw [Nat.zero_add, cell_of_row w b j L.toArray T (0, 0) h]
  simpa using hv
theorem row_set {w : World} {b : Nat} {L : List Value} {T : TypeId} (h : w.heap[b]? = some (.cells L.toArray T (0, 0))) (v : Value) (k : Nat) : (w.setCell ⟨b, k, none⟩ v).heap[b]? = some (.cells (L.set k v).toArray T (0, 0)) := by
  have := set_row5 (k := k) v h
  rw [this]
  simp
set_option maxRecDepth 100000 in
set_option maxHeartbeats 1000000 in
theorem forms_no (t : Lv) (v : Value) (w : World) (hv : LvV w t v) (hm : nodes t ≤ 1000) (hr : rightB 4 t = false) :
    Calls Try.prog 35 #[v] w (Ret w (.tuple #[.agg (fmsL noForms).toArray, .bool false])) := by
  obtain ⟨s, rfl, hs⟩ := hv
  have HVT := Lib.hid (show LvV w t _ from ⟨s, rfl, hs⟩)
  have HR := Lib.hid hr
  have HM := Lib.hid (show nodes t ≤ 100000 by omega)
  have hzv := (zero_of_info zero_forms).1
  have HSZ := Lib.hid (zero_of_info zero_forms).2
  have HLE := Lib.hid (show (fmsL noForms).length = 80 by rw [fmsL_len]; rfl)
  have HONE := Lib.hid (fmsL_one noForms)
  generalize fmsL noForms = C at *
  generalize kindOf t = k1 at *
  generalize numOf t = n1 at *
  clear hs hr hm
  go_enter Try.func35, Try.ntmps35
  go_wp2_with fail
  have HB1 := Lib.hid (below_two w (.cells #[.int .i64 k1, .int .i64 n1, s] 24) (.cells C.toArray 47))
  have hr1 := row_second w (.cells #[.int .i64 k1, .int .i64 n1, s] 24) (.cells C.toArray 47)
  have hz1 : ((w.alloc (.cells #[.int .i64 k1, .int .i64 n1, s] 24)).alloc (.cells C.toArray 47)).heap.size = w.heap.size + 1 + 1 := by simp
  generalize (w.alloc (.cells #[.int .i64 k1, .int .i64 n1, s] 24)).alloc (.cells C.toArray 47) = W at *
  refine (right_any t _ 4 W (HVT.out.below HB1.out) HM.out false HR.out).mono ?_
  rintro e w2 ⟨rfl, hb⟩
  have HRW := Lib.hid ((hb.block (w.heap.size + 1) (by omega)).trans hr1)
  have HB2 := Lib.hid (HB1.out.trans (hb.mono (by omega)))
  clear hb hr1 hzv
  go_wp2_with (first | (refine wpList_load_mid rfl 47 (.tmp 2) rfl (w.heap.size + 1) 0 rfl C _ (row_range HRW.out) u_forms rfl (by rw [HSZ.out, HLE.out]) ?_) | (refine wpList_store_row rfl 47 (.tmp 2) (.tmp 8) rfl (w.heap.size + 1) C.toArray rfl rfl 47 C.toArray HRW.out (by rw [HSZ.out, List.size_toArray, HLE.out]) rfl (all_oneCell_toArray HONE.out) ?_))
  refine bodyPost_ret (results_row_tmp rfl _ _ (w.heap.size + 1) 47 C.toArray (0, 0) _ rfl (setRow_heap w2 _ _ _ _ _ HRW.out) u_forms rfl (by rw [HSZ.out, List.size_toArray, HLE.out])) rfl ?_
  exact ⟨rfl, below_setRow HB2.out (Nat.le_succ _) _⟩

set_option maxRecDepth 100000 in
set_option maxHeartbeats 2000000 in
theorem forms_yes (t : Lv) (v : Value) (x : L) (w : World) (hv : LvV w t v) (hm : nodes t ≤ 1000) (hr : rightB 4 t = true) (hx : IsL 4 t x) :
    Calls Try.prog 35 #[v] w (Ret w (.tuple #[.agg (fmsL (formsOf x)).toArray, .bool true])) := by
  have HFO : Hid (∀ z : Nat, z < 16 → ∀ (v : Value) (w : World), LvV w t v → Calls Try.prog 47 #[v, .int .i64 z] w (Ret w (fmV (formF z x)))) := fun z hz v w h => formOf_is z hz hx v w h (by rw [← isL_nodes hx]; exact hm)
  obtain ⟨s, rfl, hs⟩ := hv
  have HVT := Lib.hid (show LvV w t _ from ⟨s, rfl, hs⟩)
  have HR := Lib.hid hr
  have HM := Lib.hid (show nodes t ≤ 100000 by omega)
  have hzv := (zero_of_info zero_forms).1
  have HSZ := Lib.hid (zero_of_info zero_forms).2
  have HLE : Hid (∀ j, (fmsL (formsTo x j)).length = 80) := fun j => by rw [fmsL_len, formsTo_len]
  rw [← formsTo_none x] at hzv
  rw [← formsTo_all x]
  generalize kindOf t = k1 at *
  generalize numOf t = n1 at *
  clear hs hr hm hx
  obtain ⟨b0, b1, b2⟩ := box_cells w (.int .i64 k1) (.int .i64 n1) s 24
  go_enter Try.func35, Try.ntmps35
  go_wp2_with fail
  have HB1 := Lib.hid (below_two w (.cells #[.int .i64 k1, .int .i64 n1, s] 24) (.cells (fmsL (formsTo x 0)).toArray 47))
  have hr1 := row_second w (.cells #[.int .i64 k1, .int .i64 n1, s] 24) (.cells (fmsL (formsTo x 0)).toArray 47)
  have hz1 : ((w.alloc (.cells #[.int .i64 k1, .int .i64 n1, s] 24)).alloc (.cells (fmsL (formsTo x 0)).toArray 47)).heap.size = w.heap.size + 1 + 1 := by simp
  have q0 := ((below_lit (w.alloc (.cells #[.int .i64 k1, .int .i64 n1, s] 24)) (.cells (fmsL (formsTo x 0)).toArray 47)).cell (p := ⟨w.heap.size, 0, none⟩) (by simp)).trans b0
  have q1 := ((below_lit (w.alloc (.cells #[.int .i64 k1, .int .i64 n1, s] 24)) (.cells (fmsL (formsTo x 0)).toArray 47)).cell (p := ⟨w.heap.size, 1, none⟩) (by simp)).trans b1
  have q2 := ((below_lit (w.alloc (.cells #[.int .i64 k1, .int .i64 n1, s] 24)) (.cells (fmsL (formsTo x 0)).toArray 47)).cell (p := ⟨w.heap.size, 2, none⟩) (by simp)).trans b2
  generalize (w.alloc (.cells #[.int .i64 k1, .int .i64 n1, s] 24)).alloc (.cells (fmsL (formsTo x 0)).toArray 47) = W at *
  refine (right_any t _ 4 W (HVT.out.below HB1.out) HM.out true HR.out).mono ?_
  rintro e w2 ⟨rfl, hb⟩
  have HRW := Lib.hid ((hb.block (w.heap.size + 1) (by omega)).trans hr1)
  have HB2 := Lib.hid (HB1.out.trans (hb.mono (by omega)))
  have hk : Hid (∀ W', Below (w.heap.size + 1) w2 W' → W'.cell? ⟨w.heap.size, 0, none⟩ = some (.int .i64 k1) ∧ W'.cell? ⟨w.heap.size, 1, none⟩ = some (.int .i64 n1) ∧ W'.cell? ⟨w.heap.size, 2, none⟩ = some s) := fun W' h =>
    ⟨(h.cell (p := ⟨w.heap.size, 0, none⟩) (by show w.heap.size < w.heap.size + 1; omega)).trans ((hb.cell (p := ⟨w.heap.size, 0, none⟩) (by show w.heap.size < W.heap.size; omega)).trans q0), (h.cell (p := ⟨w.heap.size, 1, none⟩) (by show w.heap.size < w.heap.size + 1; omega)).trans ((hb.cell (p := ⟨w.heap.size, 1, none⟩) (by show w.heap.size < W.heap.size; omega)).trans q1), (h.cell (p := ⟨w.heap.size, 2, none⟩) (by show w.heap.size < w.heap.size + 1; omega)).trans ((hb.cell (p := ⟨w.heap.size, 2, none⟩) (by show w.heap.size < W.heap.size; omega)).trans q2)⟩
  have HZ2 : Hid (w.heap.size + 1 + 1 ≤ w2.heap.size) := by have := hb.size; rw [hz1] at this; exact this
  clear hb hr1 hzv b0 b1 b2 q0 q1 q2 hz1
  go_wp2_with fail
  go_loopw [9] (fun i wr => ∃ j : Nat, j ≤ 16 ∧ i = .int .i64 j ∧ Hid (wr.heap[w.heap.size + 1]? = some (.cells (fmsL (formsTo x j)).toArray 47 (0, 0))) ∧ Below (w.heap.size + 1) w2 wr) (fun i _ => 16 - (intOf i).toNat)
  case atStart => exact ⟨0, by omega, rfl, HRW.out, Below.refl _ _⟩
  case round =>
    obtain ⟨j, hj, rfl, hr, hb⟩ := hrel
    have HBR := Lib.hid hb
    have HB3 := Lib.hid (HB2.out.trans (hb.mono (Nat.le_succ _)))
    have HZ3 : Hid (w.heap.size + 1 < wr.heap.size) := by
      have h1 := hb.size
      have h2 := HZ2.out
      have : w.heap.size + 1 < wr.heap.size := by omega
      exact this
    obtain ⟨m0, m1, m2⟩ := hk.out wr hb
    clear hb
    by_cases hlt : j < 16
    · have hln : decide ((j : Int) < 16) = true := by simp; omega
      have hi0 : (0 : Int) ≤ (j : Int) := by omega
      have hi1 : (j : Int) < 16 := by omega
      have HST := Lib.hid (fmsL_set (formsTo x j) j (formF j x) (by rw [formsTo_len]; exact hlt))
      have CF := Lib.hid (fun v w h => HFO.out j hlt v w h)
      have HSE := Lib.hid (formsTo_set x j)
      generalize formF j x = F at *
      obtain ⟨fl, f0, f1, f2, f3⟩ := F
      unfold fmV at CF
      dsimp only at CF HST
      go_wp2_with fail
      refine (CF.out _ wr (HVT.out.below HB3.out)).mono ?_
      rintro e w3 ⟨rfl, hb⟩
      have hrw := (hb.block (w.heap.size + 1) HZ3.out).trans hr.out
      have HB4 := Lib.hid (HBR.out.trans (hb.mono (by have := HZ3.out; omega)))
      have hL := HLE.out j
      generalize hLL : fmsL (formsTo x j) = C at *
      have get : ∀ k, k < 80 → ∃ u, w3.cell? ⟨w.heap.size + 1, k, none⟩ = some u := fun k hk => by
        rw [cell_of_row w3 _ k C.toArray 47 (0, 0) hrw]
        exact ⟨C[k]'(by omega), by simp⟩
      obtain ⟨u0, e0⟩ := get (j * 5) (by omega)
      obtain ⟨u1, e1⟩ := get (j * 5 + 1) (by omega)
      obtain ⟨u2, e2⟩ := get (j * 5 + 2) (by omega)
      obtain ⟨u3, e3⟩ := get (j * 5 + 3) (by omega)
      obtain ⟨u4, e4⟩ := get (j * 5 + 4) (by omega)
      have g0 := frozen0 (p := j * 5) hrw
      have g1 := frozen0 (p := j * 5 + 1) hrw
      have g2 := frozen0 (p := j * 5 + 2) hrw
      have g3 := frozen0 (p := j * 5 + 3) hrw
      have g4 := frozen0 (p := j * 5 + 4) hrw
      have hrn := row_set (row_set (row_set (row_set (row_set hrw (.int .i64 fl) (j * 5)) (.int .i64 f0) (j * 5 + 1)) (.int .i64 f1) (j * 5 + 2)) (.int .i64 f2) (j * 5 + 3)) (.int .i64 f3) (j * 5 + 4)
      have HRN := Lib.hid hrn
      have HBN := Lib.hid (below_set (below_set (below_set (below_set (below_set HB4.out ⟨w.heap.size + 1, j * 5, none⟩ (.int .i64 fl) (Nat.le_refl _)) ⟨w.heap.size + 1, j * 5 + 1, none⟩ (.int .i64 f0) (Nat.le_refl _)) ⟨w.heap.size + 1, j * 5 + 2, none⟩ (.int .i64 f1) (Nat.le_refl _)) ⟨w.heap.size + 1, j * 5 + 3, none⟩ (.int .i64 f2) (Nat.le_refl _)) ⟨w.heap.size + 1, j * 5 + 4, none⟩ (.int .i64 f3) (Nat.le_refl _))
      clear hb get hrw hrn m0 m1 m2
      go_wp2_with fail
      generalize ((((w3.setCell ⟨w.heap.size + 1, j * 5, none⟩ (.int .i64 fl)).setCell ⟨w.heap.size + 1, j * 5 + 1, none⟩ (.int .i64 f0)).setCell ⟨w.heap.size + 1, j * 5 + 2, none⟩ (.int .i64 f1)).setCell ⟨w.heap.size + 1, j * 5 + 3, none⟩ (.int .i64 f2)).setCell ⟨w.heap.size + 1, j * 5 + 4, none⟩ (.int .i64 f3) = W9 at *
      go_roundw
      case rel =>
        refine ⟨j + 1, by omega, by go_num, ?_, HBN.out⟩
        have := HRN.out
        rw [HST.out, HSE.out] at this
        exact this
      case measure => simp [intOf]; omega
    · obtain rfl : j = 16 := by omega
      have hL := HLE.out 16
      have HONE := Lib.hid (fmsL_one (formsTo x 16))
      have HRW9 := Lib.hid hr.out
      have HLE9 := Lib.hid hL
      generalize fmsL (formsTo x 16) = C at *
      clear hr hL
      go_wp2_with (first | (refine wpList_load_mid rfl 47 (.tmp 2) rfl (w.heap.size + 1) 0 rfl C _ (row_range HRW9.out) u_forms rfl (by rw [HSZ.out, HLE9.out]) ?_) | (refine wpList_store_row rfl 47 (.tmp 2) (.tmp 18) rfl (w.heap.size + 1) C.toArray rfl rfl 47 C.toArray HRW9.out (by rw [HSZ.out, List.size_toArray, HLE9.out]) rfl (all_oneCell_toArray HONE.out) ?_))
      refine bodyPost_ret (results_row_tmp rfl _ _ (w.heap.size + 1) 47 C.toArray (0, 0) _ rfl (setRow_heap wr _ _ _ _ _ HRW9.out) u_forms rfl (by rw [HSZ.out, List.size_toArray, HLE9.out])) rfl ?_
      exact ⟨rfl, below_setRow HB3.out (Nat.le_succ _) _⟩
end Go.Proofs.Yteghldgopidhhaa
