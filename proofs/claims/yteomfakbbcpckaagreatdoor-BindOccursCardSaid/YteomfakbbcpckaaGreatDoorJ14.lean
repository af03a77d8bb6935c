/-
  Plain facts and contracts that the law's proof stands on, joined.
  Conditions: each fact's own.
-/
import Derived.Test.YteomfakbbcpckaaGreatDoorJ04
namespace Go.Proofs.YteomfakbbcpckaaGreatDoor
open Go.RowKit
open Lvl
namespace Trm
set_option maxRecDepth 100000 in
set_option maxHeartbeats 2000000 in
theorem refNodes_up (most : Nat) (hm : most ≤ 100000) : ∀ (N : Nat) (t : Tm) (v : Value) (w : World), tnodes t ≤ N → TmV w t v →
  Calls Tryz.prog 25 #[v, .int .i64 most] w (Ret w (.int .i64 (min (tnodes t) (most + 1) : Nat))) := by
 intro N
 induction N with
 | zero => intro t v w h _; have := tnodes_pos t; omega
 | succ N ih =>
 intro t v w hN hv
 obtain ⟨l, s, rfl, ht⟩ := hv
 obtain ⟨⟨la, ll, lc, rfl⟩, sa, sl, sc, rfl⟩ := tmP_slices ht
 cases t with
 | mk k n m ls ts =>
 rw [TmP] at ht
 obtain ⟨hlv, A', len', cap', e9, hlen, hlc', hl47, hnone, hts⟩ := ht
 cases e9
 have h2 := lvS_of _ _ hlv
 rw [LvS] at h2
 obtain ⟨C, lcn, cc, e8, hll, _, hll47, _, hls⟩ := h2
 cases e8
 rw [tnodes] at hN
 have IH := Lib.hid ih
 have HTS := Lib.hid hts
 have HLS := Lib.hid hls
 have HLEN := Lib.hid hlen
 have HLL := Lib.hid hll
 have HTN : Hid (tnodesL ts ≤ N) := by
  have : tnodesL ts ≤ N := by omega
  exact this
 obtain ⟨R, hR⟩ : ∃ R, min (tnodes (.mk k n m ls ts)) (most + 1) = R := ⟨_, rfl⟩
 rw [hR]
 rw [tnodes] at hR
 have HR := Lib.hid hR
 show Calls _ _ #[.agg #[.int .i64 k, .int .i64 n, .string m, .slice la ll lc, .slice sa sl sc], .int .i64 most] w _
 clear ih hts hls hlen hll hlv hN hR hnone hlc'
 go_enter Tryz.func25, Tryz.ntmps25
 go_wp2_with fail
 have z1 : (w.alloc (.cells #[.int .i64 k, .int .i64 n, .string m, .slice la ll lc, .slice sa sl sc] 25)).heap.size = w.heap.size + 1 := by simp
 have r0 : (w.alloc (.cells #[.int .i64 k, .int .i64 n, .string m, .slice la ll lc, .slice sa sl sc] 25)).heap[w.heap.size]? = some (Obj.cells #[.int .i64 k, .int .i64 n, .string m, .slice la ll lc, .slice sa sl sc] 25 (0, 0)) := by
  have := heap_alloc_new w (.cells #[.int .i64 k, .int .i64 n, .string m, .slice la ll lc, .slice sa sl sc] 25)
  exact this
 have HB := Lib.hid (below_lit w (.cells #[.int .i64 k, .int .i64 n, .string m, .slice la ll lc, .slice sa sl sc] 25))
 have HR0 := Lib.hid (r0)
 clear r0
 try generalize (w.alloc (.cells #[.int .i64 k, .int .i64 n, .string m, .slice la ll lc, .slice sa sl sc] 25)) = W at *
 have HZ := Lib.hid z1
 clear z1
 have hsz1 := HZ.out
 have hw0 : w.heap.size < W.heap.size := by omega
 go_loopw [5, 6] (fun c i wr => ∃ j acc : Nat, j ≤ ll ∧ i = .int .i64 j ∧ c = .int .i64 acc ∧ Hid (RCnt most acc (1 + nodesL (ls.take j))) ∧ acc ≤ 2 + 2 * most ∧ Hid (Below W.heap.size W wr)) (fun _ i _ => ll - (intOf i).toNat)
 case atStart =>
  have h0 : RCnt most 1 (1 + nodesL (ls.take 0)) := by
   rw [List.take_zero, nodesL]
   rfl
  exact ⟨0, 1, Nat.zero_le _, rfl, rfl, h0, by omega, Below.refl _ _⟩
 case round =>
  obtain ⟨j, acc, hj, rfl, rfl, hc, ha, hb⟩ := hrel
  have HBW := hb
  obtain ⟨a0, a1, a2, a3, a4⟩ := five_cells ((hb.out.block w.heap.size hw0).trans HR0.out)
  by_cases hlt : j < ll
  ·have hx1 : j < ls.length := by rw [HLL.out]; exact hlt
   have hln : decide ((j : Int) < (ll : Int)) = true := by simp; omega
   by_cases hmo : acc ≤ most
   ·have hd : decide ((acc : Int) ≤ (most : Int)) = true := by simp; omega
    obtain ⟨b, o, s, eA, hbs, hc0, hc1, hc2, hls⟩ := lsV_get HLS.out j hx1
    subst eA
    have hBw := HB.out.trans (hb.out.mono HB.out.size)
    have d0 := (hBw.cell (p := ⟨b, _, none⟩) hbs).trans hc0
    have d1 := (hBw.cell (p := ⟨b, _, none⟩) hbs).trans hc1
    have d2 := (hBw.cell (p := ⟨b, _, none⟩) hbs).trans hc2
    obtain ⟨q, hq⟩ : ∃ q, min (nodes ls[j]) (most + 1) = q := ⟨_, rfl⟩
    have HCALL := Lib.hid (levelNodesT_is ls[j] (.agg #[.int .i64 (kindOf ls[j]), .int .i64 (numOf ls[j]), s]) most wr ⟨s, rfl, lvS_below hBw _ _ hls⟩ hm q hq)
    have HNT := Lib.hid (nodesL_take hx1)
    have HC2 : Hid (RCnt most (acc + q) (1 + nodesL (ls.take (j + 1)))) := by
     have h1 := hc.out
     have : RCnt most (acc + q) (1 + nodesL (ls.take (j + 1))) := by
      unfold RCnt at h1 ⊢
      rw [HNT.out, ← hq]
      omega
     exact this
    have hq2 : q ≤ most + 1 := by omega
    have q1 : (0 : Int) ≤ (j : Int) := by omega
    have q2 : (j : Int) < (ll : Int) := by omega
    generalize kindOf ls[j] = ka at *
    generalize numOf ls[j] = na at *
    clear hc0 hc1 hc2 hls hq HNT hBw
    go_wp2_with fail
    refine HCALL.out.mono ?_
    rintro e w2 ⟨rfl, hb2⟩
    have HBW2 := Lib.hid (HBW.out.trans (hb2.mono HBW.out.size))
    clear hb2
    go_wp2_with fail
    go_roundw
    case rel => exact ⟨j + 1, acc + q, by omega, by go_num, by go_num, HC2, by omega, HBW2.out⟩
    case measure => simp [intOf]; omega
   ·have hd : decide ((acc : Int) ≤ (most : Int)) = false := by simp; omega
    have HC0 : Hid (RCnt most acc (1 + nodesL ls + tnodesL (ts.take 0))) := by
     have h1 := hc.out
     have h2 := nodesL_le ls j
     have : RCnt most acc (1 + nodesL ls + tnodesL (ts.take 0)) := by
      unfold RCnt at h1 ⊢
      omega
     exact this
    go_wp2_with fail
    generalize wr = Wq at *
    go_loopw [5, 7] (fun c i wr => ∃ j acc : Nat, j ≤ sl ∧ i = .int .i64 j ∧ c = .int .i64 acc ∧ Hid (RCnt most acc (1 + nodesL ls + tnodesL (ts.take j))) ∧ acc ≤ 2 + 4 * most ∧ Hid (Below W.heap.size W wr)) (fun _ i _ => sl - (intOf i).toNat)
    case atStart => exact ⟨0, acc, Nat.zero_le _, rfl, rfl, HC0.out, by omega, HBW.out⟩
    case round =>
     obtain ⟨j, acc, hj, rfl, rfl, hc, ha, hb⟩ := hrel
     have HBW := hb
     obtain ⟨a0, a1, a2, a3, a4⟩ := five_cells ((hb.out.block w.heap.size (by omega)).trans HR0.out)
     by_cases hlt : j < sl
     ·have hx1 : j < ts.length := by rw [HLEN.out]; exact hlt
      have hln : decide ((j : Int) < (sl : Int)) = true := by simp; omega
      by_cases hmo : acc ≤ most
      ·have hd : decide ((acc : Int) ≤ (most : Int)) = true := by simp; omega
       obtain ⟨bk, o, l1, s1, eA, hbs, _, hc0, hc1, hc2, hc3, hc4, htm⟩ := tsP_get HTS.out j hx1
       subst eA
       obtain ⟨⟨xa, xl, xc, rfl⟩, ya, yl, yc, rfl⟩ := tmP_slices htm
       have hBw := HB.out.trans (hb.out.mono HB.out.size)
       have d0 := (hBw.cell (p := ⟨bk, _, none⟩) hbs).trans hc0
       have d1 := (hBw.cell (p := ⟨bk, _, none⟩) hbs).trans hc1
       have d2 := (hBw.cell (p := ⟨bk, _, none⟩) hbs).trans hc2
       have d3 := (hBw.cell (p := ⟨bk, _, none⟩) hbs).trans hc3
       have d4 := (hBw.cell (p := ⟨bk, _, none⟩) hbs).trans hc4
       have hcall := IH.out ts[j] (tv ts[j] (.slice xa xl xc) (.slice ya yl yc)) wr (Nat.le_trans (tnodes_mem (List.getElem_mem hx1)) HTN.out) ⟨_, _, rfl, tmP_below hBw htm⟩
       have HNT := Lib.hid (tnodesL_take hx1)
       obtain ⟨q, hq⟩ : ∃ q, min (tnodes ts[j]) (most + 1) = q := ⟨_, rfl⟩
       rw [hq] at hcall
       have HCALL := Lib.hid hcall
       dsimp only [tv] at HCALL
       have HC2 : Hid (RCnt most (acc + q) (1 + nodesL ls + tnodesL (ts.take (j + 1)))) := by
        have h1 := hc.out
        have : RCnt most (acc + q) (1 + nodesL ls + tnodesL (ts.take (j + 1))) := by
         unfold RCnt at h1 ⊢
         rw [HNT.out, ← hq]
         omega
        exact this
       have hq2 : q ≤ most + 1 := by omega
       have q1 : (0 : Int) ≤ (j : Int) := by omega
       have q2 : (j : Int) < (sl : Int) := by omega
       generalize tkOf ts[j] = ka at *
       generalize tnOf ts[j] = na at *
       generalize tmOf ts[j] = ma at *
       clear hcall hc0 hc1 hc2 hc3 hc4 htm hq HNT hBw
       go_wp2_with fail
       refine HCALL.out.mono ?_
       rintro e w2 ⟨rfl, hb2⟩
       have HBW2 := Lib.hid (HBW.out.trans (hb2.mono HBW.out.size))
       clear hb2
       go_wp2_with fail
       go_roundw
       case rel => exact ⟨j + 1, acc + q, by omega, by go_num, by go_num, HC2, by omega, HBW2.out⟩
       case measure => simp [intOf]; omega
      ·have hd : decide ((acc : Int) ≤ (most : Int)) = false := by simp; omega
       have hle := Lib.hid (tnodesL_le ts j)
       by_cases hmo : acc ≤ most + 1
       ·have hmi : (acc : Int) ≤ (most : Int) + 1 := by omega
        have HF2 : Hid (R = acc) := by
         have h1 := hc.out
         have h3 := HR.out
         have : R = acc := by unfold RCnt at h1; have h4 := hle.out; omega
         exact this
        go_wp2_with fail
        go_ret
        exact ⟨by rw [HF2.out]; rfl, HB.out.trans (HBW.out.mono HB.out.size)⟩
       ·have hmi : (most : Int) + 1 < (acc : Int) := by omega
        have HF2 : Hid (R = most + 1) := by
         have h1 := hc.out
         have h3 := HR.out
         have : R = most + 1 := by unfold RCnt at h1; have h4 := hle.out; omega
         exact this
        go_wp2_with fail
        go_ret
        exact ⟨by rw [HF2.out]; rfl, HB.out.trans (HBW.out.mono HB.out.size)⟩
     ·have hln : decide ((j : Int) < (sl : Int)) = false := by simp; omega
      have hle := Lib.hid (show ts.take j = ts from List.take_of_length_le (by rw [HLEN.out]; omega))
      by_cases hmo : acc ≤ most + 1
      ·have hmi : (acc : Int) ≤ (most : Int) + 1 := by omega
       have HF2 : Hid (R = acc) := by
        have h1 := hc.out
        have h3 := HR.out
        have : R = acc := by unfold RCnt at h1; rw [hle.out] at h1; omega
        exact this
       go_wp2_with fail
       go_ret
       exact ⟨by rw [HF2.out]; rfl, HB.out.trans (HBW.out.mono HB.out.size)⟩
      ·have hmi : (most : Int) + 1 < (acc : Int) := by omega
       have HF2 : Hid (R = most + 1) := by
        have h1 := hc.out
        have h3 := HR.out
        have : R = most + 1 := by unfold RCnt at h1; rw [hle.out] at h1; omega
        exact this
       go_wp2_with fail
       go_ret
       exact ⟨by rw [HF2.out]; rfl, HB.out.trans (HBW.out.mono HB.out.size)⟩
  ·have hln : decide ((j : Int) < (ll : Int)) = false := by simp; omega
   have HC0 : Hid (RCnt most acc (1 + nodesL ls + tnodesL (ts.take 0))) := by
    have h1 := hc.out
    have : RCnt most acc (1 + nodesL ls + tnodesL (ts.take 0)) := by
     rw [List.take_of_length_le (by rw [HLL.out]; omega)] at h1
     rw [List.take_zero, tnodesL]
     exact h1
    exact this
   go_wp2_with fail
   generalize wr = Wq at *
   go_loopw [5, 7] (fun c i wr => ∃ j acc : Nat, j ≤ sl ∧ i = .int .i64 j ∧ c = .int .i64 acc ∧ Hid (RCnt most acc (1 + nodesL ls + tnodesL (ts.take j))) ∧ acc ≤ 2 + 4 * most ∧ Hid (Below W.heap.size W wr)) (fun _ i _ => sl - (intOf i).toNat)
   case atStart => exact ⟨0, acc, Nat.zero_le _, rfl, rfl, HC0.out, by omega, HBW.out⟩
   case round =>
    obtain ⟨j, acc, hj, rfl, rfl, hc, ha, hb⟩ := hrel
    have HBW := hb
    obtain ⟨a0, a1, a2, a3, a4⟩ := five_cells ((hb.out.block w.heap.size (by omega)).trans HR0.out)
    by_cases hlt : j < sl
    ·have hx1 : j < ts.length := by rw [HLEN.out]; exact hlt
     have hln : decide ((j : Int) < (sl : Int)) = true := by simp; omega
     by_cases hmo : acc ≤ most
     ·have hd : decide ((acc : Int) ≤ (most : Int)) = true := by simp; omega
      obtain ⟨bk, o, l1, s1, eA, hbs, _, hc0, hc1, hc2, hc3, hc4, htm⟩ := tsP_get HTS.out j hx1
      subst eA
      obtain ⟨⟨xa, xl, xc, rfl⟩, ya, yl, yc, rfl⟩ := tmP_slices htm
      have hBw := HB.out.trans (hb.out.mono HB.out.size)
      have d0 := (hBw.cell (p := ⟨bk, _, none⟩) hbs).trans hc0
      have d1 := (hBw.cell (p := ⟨bk, _, none⟩) hbs).trans hc1
      have d2 := (hBw.cell (p := ⟨bk, _, none⟩) hbs).trans hc2
      have d3 := (hBw.cell (p := ⟨bk, _, none⟩) hbs).trans hc3
      have d4 := (hBw.cell (p := ⟨bk, _, none⟩) hbs).trans hc4
      have hcall := IH.out ts[j] (tv ts[j] (.slice xa xl xc) (.slice ya yl yc)) wr (Nat.le_trans (tnodes_mem (List.getElem_mem hx1)) HTN.out) ⟨_, _, rfl, tmP_below hBw htm⟩
      have HNT := Lib.hid (tnodesL_take hx1)
      obtain ⟨q, hq⟩ : ∃ q, min (tnodes ts[j]) (most + 1) = q := ⟨_, rfl⟩
      rw [hq] at hcall
      have HCALL := Lib.hid hcall
      dsimp only [tv] at HCALL
      have HC2 : Hid (RCnt most (acc + q) (1 + nodesL ls + tnodesL (ts.take (j + 1)))) := by
       have h1 := hc.out
       have : RCnt most (acc + q) (1 + nodesL ls + tnodesL (ts.take (j + 1))) := by
        unfold RCnt at h1 ⊢
        rw [HNT.out, ← hq]
        omega
       exact this
      have hq2 : q ≤ most + 1 := by omega
      have q1 : (0 : Int) ≤ (j : Int) := by omega
      have q2 : (j : Int) < (sl : Int) := by omega
      generalize tkOf ts[j] = ka at *
      generalize tnOf ts[j] = na at *
      generalize tmOf ts[j] = ma at *
      clear hcall hc0 hc1 hc2 hc3 hc4 htm hq HNT hBw
      go_wp2_with fail
      refine HCALL.out.mono ?_
      rintro e w2 ⟨rfl, hb2⟩
      have HBW2 := Lib.hid (HBW.out.trans (hb2.mono HBW.out.size))
      clear hb2
      go_wp2_with fail
      go_roundw
      case rel => exact ⟨j + 1, acc + q, by omega, by go_num, by go_num, HC2, by omega, HBW2.out⟩
      case measure => simp [intOf]; omega
     ·have hd : decide ((acc : Int) ≤ (most : Int)) = false := by simp; omega
      have hle := Lib.hid (tnodesL_le ts j)
      by_cases hmo : acc ≤ most + 1
      ·have hmi : (acc : Int) ≤ (most : Int) + 1 := by omega
       have HF2 : Hid (R = acc) := by
        have h1 := hc.out
        have h3 := HR.out
        have : R = acc := by unfold RCnt at h1; have h4 := hle.out; omega
        exact this
       go_wp2_with fail
       go_ret
       exact ⟨by rw [HF2.out]; rfl, HB.out.trans (HBW.out.mono HB.out.size)⟩
      ·have hmi : (most : Int) + 1 < (acc : Int) := by omega
       have HF2 : Hid (R = most + 1) := by
        have h1 := hc.out
        have h3 := HR.out
        have : R = most + 1 := by unfold RCnt at h1; have h4 := hle.out; omega
        exact this
       go_wp2_with fail
       go_ret
       exact ⟨by rw [HF2.out]; rfl, HB.out.trans (HBW.out.mono HB.out.size)⟩
    ·have hln : decide ((j : Int) < (sl : Int)) = false := by simp; omega
     have hle := Lib.hid (show ts.take j = ts from List.take_of_length_le (by rw [HLEN.out]; omega))
     by_cases hmo : acc ≤ most + 1
     ·have hmi : (acc : Int) ≤ (most : Int) + 1 := by omega
      have HF2 : Hid (R = acc) := by
       have h1 := hc.out
       have h3 := HR.out
       have : R = acc := by unfold RCnt at h1; rw [hle.out] at h1; omega
       exact this
      go_wp2_with fail
      go_ret
      exact ⟨by rw [HF2.out]; rfl, HB.out.trans (HBW.out.mono HB.out.size)⟩
     ·have hmi : (most : Int) + 1 < (acc : Int) := by omega
      have HF2 : Hid (R = most + 1) := by
       have h1 := hc.out
       have h3 := HR.out
       have : R = most + 1 := by unfold RCnt at h1; rw [hle.out] at h1; omega
       exact this
      go_wp2_with fail
      go_ret
      exact ⟨by rw [HF2.out]; rfl, HB.out.trans (HBW.out.mono HB.out.size)⟩
theorem refNodes_is (t : Tm) (v : Value) (most : Nat) (w : World) (hv : TmV w t v) (hm : most ≤ 100000) (R : Nat) (hR : min (tnodes t) (most + 1) = R) :
  Calls Tryz.prog 25 #[v, .int .i64 most] w (Ret w (.int .i64 R)) := by
 subst hR
 exact refNodes_up most hm (tnodes t) t v w (Nat.le_refl _) hv
end Trm
end Go.Proofs.YteomfakbbcpckaaGreatDoor
