/-
  The contract of the program's function Zero.
  Conditions: the levels lie in memory as told by 'LvV', and have at most 1000 nodes.
-/
import Derived.Test.YteghldgopidhhaaLvCmp
namespace Go.Proofs.Yteghldgopidhhaa
open Go.RowKit
open Lvl

set_option maxRecDepth 100000 in
set_option maxHeartbeats 2000000 in
theorem zero_any (t : Lv) (v : Value) (w : World) (hv : LvV w t v) (hm : nodes t ≤ 1000) (b : Bool) (hb : LeqIs t (numLv 0) b) :
    Calls Try.prog 19 #[v] w (Ret w (.bool b)) := by
  obtain ⟨s, rfl, hs⟩ := hv
  have HVT := Lib.hid (show LvV w t _ from ⟨s, rfl, hs⟩)
  obtain ⟨Fs, hFs⟩ := rowIs_ex t
  have HX := Lib.hid (zero_rows hFs hb)
  clear hb
  obtain ⟨ra, hra⟩ : ∃ r, rightB 4 t = r := ⟨_, rfl⟩
  rw [hra] at HX
  obtain ⟨LA, hLA⟩ : ∃ X, fmsL Fs = X := ⟨_, rfl⟩
  have CA : Hid (∀ v w, LvV w t v → Calls Try.prog 35 #[v] w (Ret w (.tuple #[.agg LA.toArray, .bool ra]))) := fun v w h => by rw [← hLA]; exact forms_any t v w h hm ra hra Fs hFs
  have HLA : Hid (LA.length = 80 ∧ ∀ v ∈ LA, v.oneCell' = true) := by rw [← hLA]; exact ⟨by rw [fmsL_len, rowIs_len hFs], fmsL_one Fs⟩
  have HEA := Lib.hid hLA
  have HFS := Lib.hid (show Fs.length = 16 ∧ ∀ F ∈ Fs, F.Sm from ⟨rowIs_len hFs, rowIs_sm hFs⟩)
  have hzv := (zero_of_info zero_forms).1
  have HSZ := Lib.hid (zero_of_info zero_forms).2
  have HLZ := Lib.hid (show (fmsL noForms).length = 80 by rw [fmsL_len]; rfl)
  obtain ⟨C0, hC0⟩ : ∃ C, fmsL noForms = C := ⟨_, rfl⟩
  rw [hC0] at hzv HLZ
  have HEZ := Lib.hid hC0
  generalize kindOf t = k1 at *
  generalize numOf t = n1 at *
  clear hs hra hLA hFs hC0 hm
  obtain ⟨a0, a1, a2⟩ := box_cells w (.int .i64 k1) (.int .i64 n1) s 24
  go_enter Try.func19, Try.ntmps19
  go_wp2_with fail
  have HB := Lib.hid (below_lit w (.cells #[.int .i64 k1, .int .i64 n1, s] 24))
  generalize w.alloc (.cells #[.int .i64 k1, .int .i64 n1, s] 24) = W at *
  refine (CA.out _ W (HVT.out.below HB.out)).mono ?_
  rintro e w2 ⟨rfl, hb⟩
  have hb2 := hb.trans ((below_lit w2 (.cells LA.toArray 47)).mono hb.size)
  have HB2 := Lib.hid (HB.out.trans (hb2.mono HB.out.size))
  have HRA := Lib.hid (heap_alloc_new w2 (.cells LA.toArray 47))
  have HZ := Lib.hid (show w2.heap.size < (w2.alloc (.cells LA.toArray 47)).heap.size by simp)
  clear hb hb2 a0 a1 a2
  rcases HX.out with ⟨rfl, hbz⟩ | ⟨rfl, rfl⟩
  case inr =>
    go_wp2_with (first | (refine wpList_store_row rfl 47 (.tmp 3) (.tmp 8) rfl w2.heap.size LA.toArray rfl rfl 47 C0.toArray (heap_alloc_new w2 _) (by rw [HSZ.out, List.size_toArray, HLA.out.1]) (by rw [List.size_toArray, List.size_toArray, HLA.out.1, HLZ.out]) (all_oneCell_toArray HLA.out.2) ?_; rw [World.setRow_alloc_new]))
    go_ret
    exact ⟨rfl, HB2.out⟩
  have EQ := Lib.hid (eql_forms HFS.out.1 (by rfl) HFS.out.2 (fun F hF => by rw [List.eq_of_mem_replicate hF]; exact zeroF_sm) b hbz)
  rw [HEA.out, HEZ.out] at EQ
  have HBU : Hid (Try.prog.built 47 [] = some C0.toArray) := by
    have h9 : Try.prog.built 47 [] = some (fmsL noForms).toArray := by kernel_rfl
    rw [HEZ.out] at h9
    exact h9
  clear hbz HX
  go_wp2_with (first | (refine wpList_store_row rfl 47 (.tmp 3) (.tmp 8) rfl w2.heap.size LA.toArray rfl rfl 47 C0.toArray (heap_alloc_new w2 _) (by rw [HSZ.out, List.size_toArray, HLA.out.1]) (by rw [List.size_toArray, List.size_toArray, HLA.out.1, HLZ.out]) (all_oneCell_toArray HLA.out.2) ?_; rw [World.setRow_alloc_new]))
  refine wp_load_mid 47 (.tmp 3) rfl w2.heap.size 0 rfl LA _ (row_range HRA.out) u_forms rfl (by rw [HSZ.out, HLA.out.1]) ?_
  have eq := EQ.out
  have hbu := HBU.out
  go_wp2_with fail
  go_ret
  exact ⟨rfl, HB2.out⟩
end Go.Proofs.Yteghldgopidhhaa
