/-
  The contract of the program's function Never.
  Conditions: the levels lie in memory as told by 'LvV', and have at most 1000 nodes.
-/
import Derived.Test.YteghldgopidhhaaLvCmp
namespace Go.Proofs.Yteghldgopidhhaa
open Go.RowKit
open Lvl

set_option maxRecDepth 100000 in
set_option maxHeartbeats 2000000 in
theorem index_is (Fs : List Fm) (hl : Fs.length = 16) (hs : ∀ F ∈ Fs, F.Sm) (B : Nat) (w : World) (hB : B < w.heap.size) (hr : w.heap[B]? = some (.cells (fmsL Fs).toArray 47 (0, 0))) :
    Calls Try.prog 48 #[.slice (some ⟨B, 0, none⟩) 16 16, .agg #[.int .i64 0, .int .i64 0, .int .i64 0, .int .i64 0, .int .i64 0]] w (fun e w' => ∃ r : Int, e = .returned (.int .i64 r) ∧ (-1 ≤ r ∧ r < 16) ∧ (0 ≤ r ↔ ∃ z, z < 16 ∧ atF Fs z = zeroF) ∧ Below w.heap.size w w') := by
  have HFS := Lib.hid (show Fs.length = 16 ∧ ∀ F ∈ Fs, F.Sm from ⟨hl, hs⟩)
  have HRW := Lib.hid hr
  have HGET : Hid (∀ j, j < 16 → _) := fun j hj => atF_get Fs j (by rw [hl]; exact hj)
  clear hl hs hr
  go_enter Try.func48, Try.ntmps48
  go_wp2_with fail
  have HB := Lib.hid (below_lit w (.cells #[.int .i64 0, .int .i64 0, .int .i64 0, .int .i64 0, .int .i64 0] 46))
  have HR0 := Lib.hid (heap_alloc_new w (.cells #[.int .i64 0, .int .i64 0, .int .i64 0, .int .i64 0, .int .i64 0] 46))
  have HSZ := Lib.hid (show (w.alloc (.cells #[.int .i64 0, .int .i64 0, .int .i64 0, .int .i64 0, .int .i64 0] 46)).heap.size = w.heap.size + 1 by simp)
  generalize w.alloc (.cells #[.int .i64 0, .int .i64 0, .int .i64 0, .int .i64 0, .int .i64 0] 46) = W at *
  go_loopw [8] (fun i wr => ∃ j : Nat, j ≤ 16 ∧ i = .int .i64 j ∧ Hid (∀ z, z < j → atF Fs z ≠ zeroF) ∧ Below W.heap.size W wr) (fun i _ => 16 - (intOf i).toNat)
  case atStart => exact ⟨0, by omega, rfl, fun _ h => absurd h (Nat.not_lt_zero _), Below.refl _ _⟩
  case round =>
    obtain ⟨j, hj, rfl, hall, hb⟩ := hrel
    have HBR := Lib.hid hb
    have HB6 := Lib.hid (HB.out.trans (hb.mono HB.out.size))
    by_cases hlt : j < 16
    · have hln : decide ((j : Int) < 16) = true := by simp; omega
      have hi0 : (0 : Int) ≤ (j : Int) := by omega
      have hi1 : (j : Int) < 16 := by omega
      have hr0 := (hb.block w.heap.size (by rw [HSZ.out]; omega)).trans HR0.out
      have hrB := (HB6.out.block B hB).trans HRW.out
      have gA := HGET.out j hlt
      have sA := HFS.out.2 _ (atF_mem (z := j) (by rw [HFS.out.1]; exact hlt))
      obtain ⟨r, hr⟩ : ∃ r : Bool, r = true ↔ zeroF = atF Fs j := by
        by_cases h : zeroF = atF Fs j
        · exact ⟨true, fun _ => h, fun _ => rfl⟩
        · exact ⟨false, (fun e => by cases e), fun e => absurd e h⟩
      have HR : Hid (∀ i, i = j → (r = true ↔ zeroF = atF Fs i)) := fun i h => by rw [h]; exact hr
      have EQ := Lib.hid (eql_form zeroF_sm sA r hr)
      clear hr sA
      generalize atF Fs j = F at *
      obtain ⟨fl, f0, f1, f2, f3⟩ := F
      unfold fmV at EQ
      unfold zeroF at EQ
      dsimp only at EQ gA
      have eq : ∀ w, (binOp .eql 46 (.agg #[.int .i64 0, .int .i64 0, .int .i64 0, .int .i64 0, .int .i64 0]) (.agg #[.int .i64 fl, .int .i64 f0, .int .i64 f1, .int .i64 f2, .int .i64 f3])).run Try.prog w = .ok (.bool r) w := EQ.out
      have rd : ∀ (W' : World) (B : Nat) (C : List Value) (k : Nat) (v : Value), W'.heap[B]? = some (.cells C.toArray 47 (0, 0)) → C[k]? = some v → W'.cell? ⟨B, k, none⟩ = some v := fun W' B C k v h h2 => by
        rw [cell_of_row W' B k C.toArray 47 (0, 0) h]
        simpa using h2
      have hk : Hid (∀ W', Below wr.heap.size wr W' → W'.cell? ⟨w.heap.size, 0, none⟩ = some (.int .i64 0) ∧ W'.cell? ⟨w.heap.size, 1, none⟩ = some (.int .i64 0) ∧ W'.cell? ⟨w.heap.size, 2, none⟩ = some (.int .i64 0) ∧ W'.cell? ⟨w.heap.size, 3, none⟩ = some (.int .i64 0) ∧ W'.cell? ⟨w.heap.size, 4, none⟩ = some (.int .i64 0) ∧ W'.cell? ⟨B, j * 5, none⟩ = some (.int .i64 fl) ∧ W'.cell? ⟨B, j * 5 + 1, none⟩ = some (.int .i64 f0) ∧ W'.cell? ⟨B, j * 5 + 2, none⟩ = some (.int .i64 f1) ∧ W'.cell? ⟨B, j * 5 + 3, none⟩ = some (.int .i64 f2) ∧ W'.cell? ⟨B, j * 5 + 4, none⟩ = some (.int .i64 f3)) := fun W' h => by
        have hq := hb.size
        have pA := (h.block w.heap.size (by rw [HSZ.out] at hq; omega)).trans hr0
        have pB := (h.block B (by rw [HSZ.out] at hq; omega)).trans hrB
        exact ⟨cell_of_row _ _ 0 _ 46 (0, 0) pA, cell_of_row _ _ 1 _ 46 (0, 0) pA, cell_of_row _ _ 2 _ 46 (0, 0) pA, cell_of_row _ _ 3 _ 46 (0, 0) pA, cell_of_row _ _ 4 _ 46 (0, 0) pA, rd _ _ _ _ _ pB gA.1, rd _ _ _ _ _ pB gA.2.1, rd _ _ _ _ _ pB gA.2.2.1, rd _ _ _ _ _ pB gA.2.2.2.1, rd _ _ _ _ _ pB gA.2.2.2.2⟩
      clear hb hr0 hrB gA rd
      have HDR : Hid (Below W.heap.size W wr.drew) := HBR.out.trans ((Below.refl wr.heap.size wr).drew.mono HBR.out.size)
      go_wp2_with fail
      go_region_held3 (fun W' => W'.cell? ⟨w.heap.size, 0, none⟩ = some (.int .i64 0) ∧ W'.cell? ⟨w.heap.size, 1, none⟩ = some (.int .i64 0) ∧ W'.cell? ⟨w.heap.size, 2, none⟩ = some (.int .i64 0) ∧ W'.cell? ⟨w.heap.size, 3, none⟩ = some (.int .i64 0) ∧ W'.cell? ⟨w.heap.size, 4, none⟩ = some (.int .i64 0) ∧ W'.cell? ⟨B, j * 5, none⟩ = some (.int .i64 fl) ∧ W'.cell? ⟨B, j * 5 + 1, none⟩ = some (.int .i64 f0) ∧ W'.cell? ⟨B, j * 5 + 2, none⟩ = some (.int .i64 f1) ∧ W'.cell? ⟨B, j * 5 + 3, none⟩ = some (.int .i64 f2) ∧ W'.cell? ⟨B, j * 5 + 4, none⟩ = some (.int .i64 f3)) (first | exact hk.out _ ((Below.refl _ _).drew)) (first | fail)
      cases r
      · have HN : Hid (∀ z, z < j + 1 → atF Fs z ≠ zeroF) := fun z hz => by
          by_cases h : z < j
          · exact hall.out z h
          · intro e
            have := (HR.out z (by omega)).2 e.symm
            cases this
        go_wp2_with fail
        go_roundw
        case rel => exact ⟨j + 1, by omega, by go_num, HN, HDR.out⟩
        case measure => simp [intOf]; omega
      · go_wp2_with fail
        go_ret
        exact ⟨(j : Int), rfl, ⟨by omega, by omega⟩, ⟨fun _ => ⟨j, hlt, ((HR.out j rfl).1 (by first | rfl | trivial)).symm⟩, fun _ => by omega⟩, HB.out.trans (HDR.out.mono HB.out.size)⟩
    · obtain rfl : j = 16 := by omega
      clear hb
      go_wp2_with fail
      go_ret
      exact ⟨-1, rfl, ⟨by omega, by omega⟩, ⟨fun h => by omega, fun ⟨z, hz, e⟩ => absurd e (hall.out z hz)⟩, HB6.out⟩
set_option maxRecDepth 100000 in
set_option maxHeartbeats 1000000 in
theorem contains_is (Fs : List Fm) (hl : Fs.length = 16) (hs : ∀ F ∈ Fs, F.Sm) (B : Nat) (w : World) (hB : B < w.heap.size) (hr : w.heap[B]? = some (.cells (fmsL Fs).toArray 47 (0, 0))) (b : Bool) (hb : b = true ↔ ∀ z, z < 16 → atF Fs z ≠ zeroF) :
    Calls Try.prog 37 #[.slice (some ⟨B, 0, none⟩) 16 16, .agg #[.int .i64 0, .int .i64 0, .int .i64 0, .int .i64 0, .int .i64 0]] w (Ret w (.bool (!b))) := by
  have CI : Hid (∀ w', Below w.heap.size w w' → Calls Try.prog 48 #[.slice (some ⟨B, 0, none⟩) 16 16, .agg #[.int .i64 0, .int .i64 0, .int .i64 0, .int .i64 0, .int .i64 0]] w' (fun e w9 => ∃ r : Int, e = .returned (.int .i64 r) ∧ (-1 ≤ r ∧ r < 16) ∧ (decide (0 ≤ r) = !b) ∧ Below w'.heap.size w' w9)) := fun w' h =>
    (index_is Fs hl hs B w' (Nat.lt_of_lt_of_le hB h.size) ((h.block B hB).trans hr)).mono fun e w9 ⟨r, h1, h2, h3, h4⟩ => ⟨r, h1, h2, by
      cases b
      · have : 0 ≤ r := h3.2 (by
          apply Classical.byContradiction
          intro hn
          have := hb.2 fun z hz e => hn ⟨z, hz, e⟩
          cases this)
        simp [this]
      · have hn : ¬ 0 ≤ r := fun h => by
          obtain ⟨z, hz, e⟩ := h3.1 h
          exact hb.1 rfl z hz e
        simp [hn], h4⟩
  clear hl hs hr hb
  go_enter Try.func37, Try.ntmps37
  go_wp2_with fail
  have HB := Lib.hid (below_lit w (.cells #[.int .i64 0, .int .i64 0, .int .i64 0, .int .i64 0, .int .i64 0] 46))
  generalize w.alloc (.cells #[.int .i64 0, .int .i64 0, .int .i64 0, .int .i64 0, .int .i64 0] 46) = W at *
  refine (CI.out W HB.out).mono ?_
  rintro e w9 ⟨r, rfl, ⟨h1, h2⟩, h3, hb⟩
  have HB9 := Lib.hid (HB.out.trans (hb.mono HB.out.size))
  clear hb
  go_wp2_with fail
  go_ret
  exact ⟨by first | rfl | (rw [h3]), HB9.out⟩

set_option maxRecDepth 100000 in
set_option maxHeartbeats 2000000 in
theorem never_any (t : Lv) (v : Value) (w : World) (hv : LvV w t v) (hm : nodes t ≤ 1000) (b : Bool) (hb : LeqIs (numLv 1) t b) :
    Calls Try.prog 20 #[v] w (Ret w (.bool b)) := by
  obtain ⟨s, rfl, hs⟩ := hv
  have HVT := Lib.hid (show LvV w t _ from ⟨s, rfl, hs⟩)
  obtain ⟨Fs, hFs⟩ := rowIs_ex t
  have HX := Lib.hid (never_rows hFs hb)
  clear hb
  obtain ⟨ra, hra⟩ : ∃ r, rightB 4 t = r := ⟨_, rfl⟩
  rw [hra] at HX
  obtain ⟨LA, hLA⟩ : ∃ X, fmsL Fs = X := ⟨_, rfl⟩
  have CA : Hid (∀ v w, LvV w t v → Calls Try.prog 35 #[v] w (Ret w (.tuple #[.agg LA.toArray, .bool ra]))) := fun v w h => by rw [← hLA]; exact forms_any t v w h hm ra hra Fs hFs
  have HLA : Hid (LA.length = 80 ∧ ∀ v ∈ LA, v.oneCell' = true) := by rw [← hLA]; exact ⟨by rw [fmsL_len, rowIs_len hFs], fmsL_one Fs⟩
  have HEA := Lib.hid hLA
  have HFS := Lib.hid (show Fs.length = 16 ∧ ∀ F ∈ Fs, F.Sm from ⟨rowIs_len hFs, rowIs_sm hFs⟩)
  have hzv := (zero_of_info zero_forms).1
  have HSZ := Lib.hid (zero_of_info zero_forms).2
  have HLZ := Lib.hid (show (fmsL noForms).length = 80 by rw [fmsL_len]; rfl)
  obtain ⟨C0, hC0⟩ : ∃ C, fmsL noForms = C := ⟨_, rfl⟩
  rw [hC0] at hzv HLZ
  have HEZ := Lib.hid hC0
  generalize kindOf t = k1 at *
  generalize numOf t = n1 at *
  clear hs hra hLA hFs hC0 hm
  obtain ⟨a0, a1, a2⟩ := box_cells w (.int .i64 k1) (.int .i64 n1) s 24
  go_enter Try.func20, Try.ntmps20
  go_wp2_with fail
  have HB := Lib.hid (below_lit w (.cells #[.int .i64 k1, .int .i64 n1, s] 24))
  generalize w.alloc (.cells #[.int .i64 k1, .int .i64 n1, s] 24) = W at *
  refine (CA.out _ W (HVT.out.below HB.out)).mono ?_
  rintro e w2 ⟨rfl, hb⟩
  have hb2 := hb.trans ((below_lit w2 (.cells LA.toArray 47)).mono hb.size)
  have HB2 := Lib.hid (HB.out.trans (hb2.mono HB.out.size))
  have HRA := Lib.hid (heap_alloc_new w2 (.cells LA.toArray 47))
  have HZ := Lib.hid (show w2.heap.size < (w2.alloc (.cells LA.toArray 47)).heap.size by simp)
  clear hb hb2 a0 a1 a2
  rcases HX.out with ⟨rfl, hbz⟩ | ⟨rfl, rfl⟩
  case inr =>
    go_wp2_with (first | (refine wpList_store_row rfl 47 (.tmp 3) (.tmp 8) rfl w2.heap.size LA.toArray rfl rfl 47 C0.toArray (heap_alloc_new w2 _) (by rw [HSZ.out, List.size_toArray, HLA.out.1]) (by rw [List.size_toArray, List.size_toArray, HLA.out.1, HLZ.out]) (all_oneCell_toArray HLA.out.2) ?_; rw [World.setRow_alloc_new]))
    go_ret
    exact ⟨rfl, HB2.out⟩
  have CC := Lib.hid (contains_is Fs HFS.out.1 HFS.out.2 w2.heap.size (w2.alloc (.cells LA.toArray 47)) HZ.out (by rw [HEA.out]; exact HRA.out) b hbz)
  clear hbz HX
  go_wp2_with (first | (refine wpList_store_row rfl 47 (.tmp 3) (.tmp 8) rfl w2.heap.size LA.toArray rfl rfl 47 C0.toArray (heap_alloc_new w2 _) (by rw [HSZ.out, List.size_toArray, HLA.out.1]) (by rw [List.size_toArray, List.size_toArray, HLA.out.1, HLZ.out]) (all_oneCell_toArray HLA.out.2) ?_; rw [World.setRow_alloc_new]))
  generalize w2.alloc (.cells LA.toArray 47) = W3 at *
  refine CC.out.mono ?_
  rintro e w9 ⟨rfl, hb⟩
  have HB9 := Lib.hid (HB2.out.trans (hb.mono HB2.out.size))
  clear hb
  go_wp2_with fail
  go_ret
  exact ⟨by first | rfl | simp, HB9.out⟩
end Go.Proofs.Yteghldgopidhhaa
