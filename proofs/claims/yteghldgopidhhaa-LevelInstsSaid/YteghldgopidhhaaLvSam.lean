/-
  The contract of the program's function Same.
  Conditions: the levels lie in memory as told by 'LvV', and have at most 1000 nodes.
-/
import Derived.Test.YteghldgopidhhaaLvCmp
namespace Go.Proofs.Yteghldgopidhhaa
open Go.RowKit
open Lvl

set_option maxRecDepth 100000 in
set_option maxHeartbeats 2000000 in
theorem same_any (t u : Lv) (v v' : Value) (w : World) (hv : LvV w t v) (hv' : LvV w u v') (hm : nodes t ≤ 1000) (hm' : nodes u ≤ 1000) (b c : Bool) (hb : LeqIs t u b) (hc : LeqIs u t c) :
    Calls Try.prog 18 #[v, v'] w (Ret w (.bool (b && c))) := by
  obtain ⟨s, rfl, hs⟩ := hv
  obtain ⟨s', rfl, hs'⟩ := hv'
  have HVT := Lib.hid (show LvV w t _ from ⟨s, rfl, hs⟩)
  have HVU := Lib.hid (show LvV w u _ from ⟨s', rfl, hs'⟩)
  obtain ⟨Fs, hFs⟩ := rowIs_ex t
  obtain ⟨Gs, hGs⟩ := rowIs_ex u
  have HX := Lib.hid (same_rows hFs hGs hb hc)
  clear hb hc
  obtain ⟨ra, hra⟩ : ∃ r, rightB 4 t = r := ⟨_, rfl⟩
  obtain ⟨rb, hrb⟩ : ∃ r, rightB 4 u = r := ⟨_, rfl⟩
  rw [hra, hrb] at HX
  obtain ⟨LA, hLA⟩ : ∃ X, fmsL Fs = X := ⟨_, rfl⟩
  obtain ⟨LB, hLB⟩ : ∃ X, fmsL Gs = X := ⟨_, rfl⟩
  have CA : Hid (∀ v w, LvV w t v → Calls Try.prog 35 #[v] w (Ret w (.tuple #[.agg LA.toArray, .bool ra]))) := fun v w h => by rw [← hLA]; exact forms_any t v w h hm ra hra Fs hFs
  have CB : Hid (∀ v w, LvV w u v → Calls Try.prog 35 #[v] w (Ret w (.tuple #[.agg LB.toArray, .bool rb]))) := fun v w h => by rw [← hLB]; exact forms_any u v w h hm' rb hrb Gs hGs
  have HLA : Hid (LA.length = 80 ∧ ∀ v ∈ LA, v.oneCell' = true) := by rw [← hLA]; exact ⟨by rw [fmsL_len, rowIs_len hFs], fmsL_one Fs⟩
  have HLB : Hid (LB.length = 80 ∧ ∀ v ∈ LB, v.oneCell' = true) := by rw [← hLB]; exact ⟨by rw [fmsL_len, rowIs_len hGs], fmsL_one Gs⟩
  have HEA := Lib.hid hLA
  have HEB := Lib.hid hLB
  have HFS := Lib.hid (show Fs.length = 16 ∧ ∀ F ∈ Fs, F.Sm from ⟨rowIs_len hFs, rowIs_sm hFs⟩)
  have HGS := Lib.hid (show Gs.length = 16 ∧ ∀ F ∈ Gs, F.Sm from ⟨rowIs_len hGs, rowIs_sm hGs⟩)
  have hzv := (zero_of_info zero_forms).1
  have HSZ := Lib.hid (zero_of_info zero_forms).2
  have HLZ := Lib.hid (show (fmsL noForms).length = 80 by rw [fmsL_len]; rfl)
  obtain ⟨C0, hC0⟩ : ∃ C, fmsL noForms = C := ⟨_, rfl⟩
  rw [hC0] at hzv HLZ
  generalize kindOf t = k1 at *
  generalize numOf t = n1 at *
  generalize kindOf u = k2 at *
  generalize numOf u = n2 at *
  clear hs hs' hra hrb hLA hLB hFs hGs hC0 hm hm'
  obtain ⟨a0, a1, a2⟩ := box_cells w (.int .i64 k1) (.int .i64 n1) s 24
  obtain ⟨b0, b1, b2⟩ := box_cells (w.alloc (.cells #[.int .i64 k1, .int .i64 n1, s] 24)) (.int .i64 k2) (.int .i64 n2) s' 24
  rw [show (w.alloc (.cells #[.int .i64 k1, .int .i64 n1, s] 24)).heap.size = w.heap.size + 1 by simp] at b0 b1 b2
  go_enter Try.func18, Try.ntmps18
  go_wp2_with fail
  have HB := Lib.hid (below_two w (.cells #[.int .i64 k1, .int .i64 n1, s] 24) (.cells #[.int .i64 k2, .int .i64 n2, s'] 24))
  have z1 : ((w.alloc (.cells #[.int .i64 k1, .int .i64 n1, s] 24)).alloc (.cells #[.int .i64 k2, .int .i64 n2, s'] 24)).heap.size = w.heap.size + 1 + 1 := by simp
  generalize (w.alloc (.cells #[.int .i64 k1, .int .i64 n1, s] 24)).alloc (.cells #[.int .i64 k2, .int .i64 n2, s'] 24) = W at *
  refine (CA.out _ W (HVT.out.below HB.out)).mono ?_
  rintro e w2 ⟨rfl, hb⟩
  have HZ2 : Hid (w.heap.size + 1 + 1 ≤ w2.heap.size) := by have := hb.size; rw [z1] at this; exact this
  have hb2 := hb.trans ((below_lit w2 (.cells LA.toArray 47)).mono hb.size)
  have c0 := (hb2.cell (p := ⟨w.heap.size + 1, 0, none⟩) (by show w.heap.size + 1 < W.heap.size; omega)).trans b0
  have c1 := (hb2.cell (p := ⟨w.heap.size + 1, 1, none⟩) (by show w.heap.size + 1 < W.heap.size; omega)).trans b1
  have c2 := (hb2.cell (p := ⟨w.heap.size + 1, 2, none⟩) (by show w.heap.size + 1 < W.heap.size; omega)).trans b2
  have HB2 := Lib.hid (HB.out.trans (hb2.mono HB.out.size))
  have hrA := heap_alloc_new w2 (.cells LA.toArray 47)
  have hzA : (w2.alloc (.cells LA.toArray 47)).heap.size = w2.heap.size + 1 := by simp
  clear hb hb2 a0 a1 a2 b0 b1 b2 z1
  go_wp2_with (first | (refine wpList_store_row rfl 47 (.tmp 5) (.tmp 12) rfl w2.heap.size LA.toArray rfl rfl 47 C0.toArray (heap_alloc_new w2 _) (by rw [HSZ.out, List.size_toArray, HLA.out.1]) (by rw [List.size_toArray, List.size_toArray, HLA.out.1, HLZ.out]) (all_oneCell_toArray HLA.out.2) ?_; rw [World.setRow_alloc_new]))
  generalize w2.alloc (.cells LA.toArray 47) = W3 at *
  refine (CB.out _ W3 (HVU.out.below HB2.out)).mono ?_
  rintro e w4 ⟨rfl, hb⟩
  have hb4 := hb.trans ((below_lit w4 (.cells LB.toArray 47)).mono hb.size)
  have HZ4 : Hid (w2.heap.size < w4.heap.size) := by
    have h1 := hb.size
    rw [hzA] at h1
    have : w2.heap.size < w4.heap.size := by omega
    exact this
  have HRA := Lib.hid ((hb4.block w2.heap.size (by omega)).trans hrA)
  have HRB := Lib.hid (heap_alloc_new w4 (.cells LB.toArray 47))
  have HB4 := Lib.hid (HB2.out.trans (hb4.mono HB2.out.size))
  have HZ5 : Hid (w4.heap.size < (w4.alloc (.cells LB.toArray 47)).heap.size) := by
    have : w4.heap.size < (w4.alloc (.cells LB.toArray 47)).heap.size := by simp
    exact this
  clear hb hb4 c0 c1 c2 hrA hzA
  rcases HX.out with ⟨rfl, rfl, hbz⟩ | ⟨hno, hbf⟩
  case inr =>
    have HBF := Lib.hid hbf
    clear hbf
    cases ra
    · go_wp2_with (first | (refine wpList_store_row rfl 47 (.tmp 7) (.tmp 17) rfl w4.heap.size LB.toArray rfl rfl 47 C0.toArray (heap_alloc_new w4 _) (by rw [HSZ.out, List.size_toArray, HLB.out.1]) (by rw [List.size_toArray, List.size_toArray, HLB.out.1, HLZ.out]) (all_oneCell_toArray HLB.out.2) ?_; rw [World.setRow_alloc_new]))
      go_ret
      exact ⟨by rw [HBF.out]; rfl, HB4.out⟩
    · obtain rfl : rb = false := hno rfl
      go_wp2_with (first | (refine wpList_store_row rfl 47 (.tmp 7) (.tmp 17) rfl w4.heap.size LB.toArray rfl rfl 47 C0.toArray (heap_alloc_new w4 _) (by rw [HSZ.out, List.size_toArray, HLB.out.1]) (by rw [List.size_toArray, List.size_toArray, HLB.out.1, HLZ.out]) (all_oneCell_toArray HLB.out.2) ?_; rw [World.setRow_alloc_new]))
      go_ret
      exact ⟨by rw [HBF.out]; rfl, HB4.out⟩
  have EQ := Lib.hid (eql_forms HFS.out.1 HGS.out.1 HFS.out.2 HGS.out.2 (b && c) hbz)
  rw [HEA.out, HEB.out] at EQ
  clear hbz HX
  go_wp2_with (first | (refine wpList_store_row rfl 47 (.tmp 7) (.tmp 17) rfl w4.heap.size LB.toArray rfl rfl 47 C0.toArray (heap_alloc_new w4 _) (by rw [HSZ.out, List.size_toArray, HLB.out.1]) (by rw [List.size_toArray, List.size_toArray, HLB.out.1, HLZ.out]) (all_oneCell_toArray HLB.out.2) ?_; rw [World.setRow_alloc_new]))
  refine wp_load_mid 47 (.tmp 5) rfl w2.heap.size 0 rfl LA _ (row_range HRA.out) u_forms rfl (by rw [HSZ.out, HLA.out.1]) ?_
  go_wp2_with fail
  refine wp_load_mid 47 (.tmp 7) rfl w4.heap.size 0 rfl LB _ (row_range HRB.out) u_forms rfl (by rw [HSZ.out, HLB.out.1]) ?_
  have eq := EQ.out
  go_wp2_with fail
  go_ret
  exact ⟨rfl, HB4.out⟩
end Go.Proofs.Yteghldgopidhhaa
