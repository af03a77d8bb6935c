/-
  Plain facts and contracts that the law's proof stands on, joined.
  Conditions: each fact's own.
-/
import Derived.Test.YteomfakbbcpckaaGreatDoorJ02
import Derived.Deep.RegionHeld3
namespace Go.Proofs.YteomfakbbcpckaaGreatDoor
open Go.RowKit
open Lvl
set_option maxRecDepth 100000 in
set_option maxHeartbeats 2000000 in
theorem sameLevel_up : ∀ (N : Nat) (t : Lv) (v v' : Value) (w : World), nodes t ≤ N → LvV w t v → LvV w t v' →
  Calls Tryz.prog 46 #[v, v'] w (Ret w (.bool true)) := by
 intro N
 induction N with
 | zero => intro t v v' w h _ _; have := nodes_pos t; omega
 | succ N ih =>
 intro t v v' w hN hv hv'
 obtain ⟨s, rfl, hs⟩ := hv
 obtain ⟨s', rfl, hs'⟩ := hv'
 cases t with
 | mk k n ts =>
 rw [LvS] at hs hs'
 obtain ⟨A, len, cap, rfl, h1, h2, h2b, h3, h4⟩ := hs
 obtain ⟨A', len', cap', rfl, h1', h2', h2b', h3', h4'⟩ := hs'
 obtain rfl : len = len' := h1.symm.trans h1'
 have IH := Lib.hid ih
 have HS := Lib.hid h4
 have HS' := Lib.hid h4'
 have HN := Lib.hid h1
 have HNN : Hid (nodesL ts ≤ N) := by
  rw [nodes] at hN
  have : nodesL ts ≤ N := by omega
  exact this
 clear h4 h1 h3 hN ih h4' h1' h3' h2b'
 show Calls Tryz.prog 46 #[.agg #[.int .i64 k, .int .i64 n, .slice A len cap], .agg #[.int .i64 k, .int .i64 n, .slice A' len cap']] w (Ret w (.bool true))
 go_enter Tryz.func46, Tryz.ntmps46
 go_wp2_with fail
 have HB0 := Lib.hid (below_lit w (.cells #[.int .i64 k, .int .i64 n, .slice A len cap] 48))
 obtain ⟨_, _, hb1⟩ := box_cells w (.int .i64 k) (.int .i64 n) (.slice A len cap) 48
 have hz0 : (w.alloc (.cells #[.int .i64 k, .int .i64 n, .slice A len cap] 48)).heap.size = w.heap.size + 1 := by simp
 generalize w.alloc (.cells #[.int .i64 k, .int .i64 n, .slice A len cap] 48) = W0 at *
 have HB1 := Lib.hid (below_lit W0 (.cells #[.int .i64 k, .int .i64 n, .slice A' len cap'] 48))
 obtain ⟨_, _, hb2⟩ := box_cells W0 (.int .i64 k) (.int .i64 n) (.slice A' len cap') 48
 have hz1 : (W0.alloc (.cells #[.int .i64 k, .int .i64 n, .slice A' len cap'] 48)).heap.size = w.heap.size + 2 := by simp [hz0]
 rw [hz0] at hb2
 generalize W0.alloc (.cells #[.int .i64 k, .int .i64 n, .slice A' len cap'] 48) = W at *
 have HX1 := Lib.hid ((HB1.out.cell (p := ⟨w.heap.size, 2, none⟩) (by show w.heap.size < W0.heap.size; omega)).trans hb1)
 have HX2 := Lib.hid hb2
 have HB := Lib.hid (HB0.out.trans (HB1.out.mono HB0.out.size))
 have HZ1 := Lib.hid hz1
 clear hb1 hb2 hz0 hz1 HB0 HB1
 go_loopw [5] (fun i wr => ∃ j : Nat, j ≤ len ∧ i = .int .i64 j ∧ Below W.heap.size W wr) (fun i _ => len - (intOf i).toNat)
 case atStart => exact ⟨0, Nat.zero_le _, rfl, Below.refl _ _⟩
 case round =>
  obtain ⟨j, hj, rfl, hb⟩ := hrel
  have HBW := Lib.hid hb
  have hx1 := (hb.cell (p := ⟨w.heap.size, 2, none⟩) (by show w.heap.size < W.heap.size; rw [HZ1.out]; omega)).trans HX1.out
  have hx2 := (hb.cell (p := ⟨w.heap.size + 1, 2, none⟩) (by show w.heap.size + 1 < W.heap.size; rw [HZ1.out]; omega)).trans HX2.out
  have HB2 := Lib.hid (HB.out.trans (hb.mono HB.out.size))
  have HSW := Lib.hid (lsV_below HB2.out _ _ _ HS.out)
  have HSW' := Lib.hid (lsV_below HB2.out _ _ _ HS'.out)
  have hsz : w.heap.size + 2 ≤ wr.heap.size := by rw [← HZ1.out]; exact hb.size
  clear hb
  by_cases hlt : j < len
  ·have hl1 : j < ts.length := by rw [HN.out]; exact hlt
   have hln : decide ((j : Int) < (len : Int)) = true := by simp; omega
   obtain ⟨b, o, s, rfl, hbs, hc0, hc1, hc2, hls⟩ := lsV_get HSW.out j hl1
   obtain ⟨b', o', s', rfl, hbs', hc0', hc1', hc2', hls'⟩ := lsV_get HSW'.out j hl1
   have HLS : Hid (LvV wr ts[j] (.agg #[.int .i64 (kindOf ts[j]), .int .i64 (numOf ts[j]), s])) := ⟨s, rfl, hls⟩
   have HLS' : Hid (LvV wr ts[j] (.agg #[.int .i64 (kindOf ts[j]), .int .i64 (numOf ts[j]), s'])) := ⟨s', rfl, hls'⟩
   have HTN : Hid (nodes ts[j] ≤ N) := Nat.le_trans (nodes_mem (List.getElem_mem hl1)) HNN.out
   generalize kindOf ts[j] = ki at *
   generalize numOf ts[j] = nu at *
   generalize ts[j] = tj at *
   clear hls hls'
   have hkeep : Hid (∀ W', Below wr.heap.size wr W' → W'.cell? ⟨w.heap.size, 2, none⟩ = some (.slice (some ⟨b, o, none⟩) len cap) ∧ W'.cell? ⟨w.heap.size + 1, 2, none⟩ = some (.slice (some ⟨b', o', none⟩) len cap') ∧ W'.cell? ⟨b, o + j * 3, none⟩ = some (.int .i64 ki) ∧ W'.cell? ⟨b, o + j * 3 + 1, none⟩ = some (.int .i64 nu) ∧ W'.cell? ⟨b, o + j * 3 + 2, none⟩ = some s ∧ W'.cell? ⟨b', o' + j * 3, none⟩ = some (.int .i64 ki) ∧ W'.cell? ⟨b', o' + j * 3 + 1, none⟩ = some (.int .i64 nu) ∧ W'.cell? ⟨b', o' + j * 3 + 2, none⟩ = some s') := fun W' hb =>
    ⟨(hb.cell (p := ⟨w.heap.size, 2, none⟩) (by show w.heap.size < wr.heap.size; omega)).trans hx1, (hb.cell (p := ⟨w.heap.size + 1, 2, none⟩) (by show w.heap.size + 1 < wr.heap.size; omega)).trans hx2,
     (hb.cell (p := ⟨b, _, none⟩) hbs).trans hc0, (hb.cell (p := ⟨b, _, none⟩) hbs).trans hc1, (hb.cell (p := ⟨b, _, none⟩) hbs).trans hc2, (hb.cell (p := ⟨b', _, none⟩) hbs').trans hc0', (hb.cell (p := ⟨b', _, none⟩) hbs').trans hc1', (hb.cell (p := ⟨b', _, none⟩) hbs').trans hc2'⟩
   have h0 : (0 : Int) ≤ (j : Int) := by omega
   have hji : (j : Int) < (len : Int) := by omega
   go_wp2_with fail
   go_region_held3 (fun W' => W'.cell? ⟨w.heap.size, 2, none⟩ = some (.slice (some ⟨b, o, none⟩) len cap) ∧ W'.cell? ⟨w.heap.size + 1, 2, none⟩ = some (.slice (some ⟨b', o', none⟩) len cap') ∧ W'.cell? ⟨b, o + j * 3, none⟩ = some (.int .i64 ki) ∧ W'.cell? ⟨b, o + j * 3 + 1, none⟩ = some (.int .i64 nu) ∧ W'.cell? ⟨b, o + j * 3 + 2, none⟩ = some s ∧ W'.cell? ⟨b', o' + j * 3, none⟩ = some (.int .i64 ki) ∧ W'.cell? ⟨b', o' + j * 3 + 1, none⟩ = some (.int .i64 nu) ∧ W'.cell? ⟨b', o' + j * 3 + 2, none⟩ = some s') (first | exact hkeep.out _ ((Below.refl _ _).drew) | exact hkeep.out _ ((Below.refl _ _).drew.trans hb9)) (first | (go_at_call 46; refine (IH.out tj _ _ _ HTN.out ?_ ?_).mono ?_; (exact HLS.out.below ((Below.refl _ _).drew)); (exact HLS'.out.below ((Below.refl _ _).drew)); rintro e w9 ⟨rfl, hb9⟩))
   have HBW9 := Lib.hid (HBW.out.trans (((Below.refl wr.heap.size wr).drew.trans hb9).mono HBW.out.size))
   clear hb9 hc0 hc1 hc2 hc0' hc1' hc2'
   go_wp2_with fail
   go_roundw
   case rel => exact ⟨j + 1, by omega, by go_num, HBW9.out⟩
   case measure => simp [intOf]; omega
  ·have hln : decide ((j : Int) < (len : Int)) = false := by simp; omega
   go_wp2_with fail
   go_ret
   exact ⟨rfl, HB2.out⟩
theorem sameLevel_same (t : Lv) (v v' : Value) (w : World) (hv : LvV w t v) (hv' : LvV w t v') : Calls Tryz.prog 46 #[v, v'] w (Ret w (.bool true)) :=
 sameLevel_up (nodes t) t v v' w (Nat.le_refl _) hv hv'
end Go.Proofs.YteomfakbbcpckaaGreatDoor
