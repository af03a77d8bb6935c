/-
  The contracts of the program's functions count and Nodes.
  Conditions: the level lies in memory as told by 'LvV', and has at most as many nodes as may stand within one another.
-/
import Derived.Test.YteghldgopidhhaaLvMem
namespace Go.Proofs.Yteghldgopidhhaa
open Go.RowKit
open Lvl

theorem lvS_slice {w : World} {t : Lv} {s : Value} (h : LvS w t s) : ∃ a l c, s = .slice a l c := by
  cases t with
  | mk k n ts =>
  rw [LvS] at h
  obtain ⟨A, len, cap, rfl, _⟩ := h
  exact ⟨_, _, _, rfl⟩

set_option maxRecDepth 100000 in
set_option maxHeartbeats 2000000 in
theorem count_up : ∀ (N : Nat) (t : Lv) (v : Value) (w : World) (most deep : Nat), nodes t ≤ N → N ≤ deep → deep ≤ 1099511627776 → most ≤ 1099511627776 → LvV w t v →
    Calls Try.prog 38 #[v, .int .i64 most, .int .i64 deep] w (Ret w (.int .i64 (min (nodes t) (most + 1) : Nat))) := by
  intro N
  induction N with
  | zero => intro t v w most deep h _ _ _ _; have := nodes_pos t; omega
  | succ N ih =>
  intro t v w most deep hN hdeep hd40 hm40 hv
  obtain ⟨s, rfl, hs⟩ := hv
  cases t with
  | mk k n ts =>
  rw [LvS] at hs
  obtain ⟨A, len, cap, rfl, h1, h2, h2b, h3, h4⟩ := hs
  have IH := Lib.hid ih
  have HS := Lib.hid h4
  have HN := Lib.hid h1
  have HNN : Hid (nodesL ts ≤ N) := by
    rw [nodes] at hN
    have : nodesL ts ≤ N := by omega
    exact this
  obtain ⟨R, hR⟩ : ∃ R, min (nodes (.mk k n ts)) (most + 1) = R := ⟨_, rfl⟩
  have HR : Hid (min (1 + nodesL ts) (most + 1) = R) := by rw [nodes] at hR; exact hR
  rw [hR]
  clear h4 h1 h3 hN hR ih
  have hdz : ((deep : Int) == 0) = false := by simp; omega
  have hds : (deep : Int) - 1 = ((deep - 1 : Nat) : Int) := by omega
  show Calls Try.prog 38 #[.agg #[.int .i64 k, .int .i64 n, .slice A len cap], .int .i64 most, .int .i64 deep] w (Ret w (.int .i64 R))
  go_enter Try.func38, Try.ntmps38
  go_wp2_with fail
  obtain ⟨_, _, hbox⟩ := box_cells w (.int .i64 k) (.int .i64 n) (.slice A len cap) 24
  have HB := Lib.hid (below_lit w (.cells #[.int .i64 k, .int .i64 n, .slice A len cap] 24))
  generalize w.alloc (.cells #[.int .i64 k, .int .i64 n, .slice A len cap] 24) = W at *
  clear hbox
  go_loopw [7, 17] (fun c i wr => ∃ j acc : Nat, j ≤ len ∧ i = .int .i64 j ∧ c = .int .i64 acc ∧ Hid (acc = min (1 + nodesL (ts.take j)) (most + 1)) ∧ acc ≤ most + 1 ∧ Below W.heap.size W wr) (fun _ i _ => len - (intOf i).toNat)
  case atStart => exact ⟨0, 1, Nat.zero_le _, rfl, rfl, by have : 1 = min (1 + nodesL (ts.take 0)) (most + 1) := (by simp [nodesL]); exact this, by omega, Below.refl _ _⟩
  case round =>
    obtain ⟨j, acc, hj, rfl, rfl, hc, ha, hb⟩ := hrel
    have HBW := Lib.hid hb
    have HB2 := Lib.hid (HB.out.trans (hb.mono HB.out.size))
    have HSW := Lib.hid (lsV_below HB2.out _ _ _ HS.out)
    clear hb
    by_cases hlt : j < len
    · have hx1 : j < ts.length := by rw [HN.out]; exact hlt
      have hln : decide ((j : Int) < (len : Int)) = true := by simp; omega
      obtain ⟨b, o, s, rfl, hb, hc0, hc1, hc2, hls⟩ := lsV_get HSW.out j hx1
      obtain ⟨sa, sl, sc, rfl⟩ := lvS_slice hls
      have HLS : Hid (LvV wr ts[j] (.agg #[.int .i64 (kindOf ts[j]), .int .i64 (numOf ts[j]), .slice sa sl sc])) := ⟨_, rfl, hls⟩
      have HTN : Hid (nodes ts[j] ≤ N) := Nat.le_trans (nodes_mem (List.getElem_mem hx1)) HNN.out
      have HNT := Lib.hid (nodesL_take hx1)
      have hpos : Hid (1 ≤ nodes ts[j]) := nodes_pos _
      generalize kindOf ts[j] = ki at *
      generalize numOf ts[j] = nu at *
      generalize ts[j] = tj at *
      clear hls
      by_cases hmo : acc ≤ most
      · have hd : decide ((most : Int) < (acc : Int)) = false := by simp; omega
        have hsub : (most : Int) - (acc : Int) = ((most - acc : Nat) : Int) := by omega
        go_wp2_with fail
        have hbl := below_lit wr (.cells #[.int .i64 ki, .int .i64 nu, .slice sa sl sc] 24)
        have HBL := Lib.hid hbl
        have hHL := HLS.out.below hbl
        generalize wr.alloc (.cells #[.int .i64 ki, .int .i64 nu, .slice sa sl sc] 24) = W1 at *
        clear hbl
        refine (IH.out tj _ W1 (most - acc) (deep - 1) HTN.out (by omega) (by omega) (by omega) hHL).mono ?_
        rintro e w2 ⟨rfl, hb2⟩
        obtain ⟨q, hq⟩ : ∃ q, min (nodes tj) (most - acc + 1) = q := ⟨_, rfl⟩
        have hq2 : q ≤ most - acc + 1 := by omega
        have HC2 : Hid (acc + q = min (1 + nodesL (ts.take (j + 1))) (most + 1)) := by
          have h1 := hc.out
          have : acc + q = min (1 + nodesL (ts.take (j + 1))) (most + 1) := by
            rw [HNT.out, ← hq]
            omega
          exact this
        have HBW2 := Lib.hid (HBW.out.trans ((HBL.out.trans (hb2.mono HBL.out.size)).mono HBW.out.size))
        rw [hq]
        clear hb2 hq HNT HTN HLS hHL
        go_wp2_with fail
        go_roundw
        case rel => exact ⟨j + 1, acc + q, by omega, by go_num, by go_num, HC2, by omega, HBW2.out⟩
        case measure => simp [intOf]; omega
      · have hd : decide ((most : Int) < (acc : Int)) = true := by simp; omega
        have HF : Hid (R = acc) := by
          have h1 := hc.out
          have h2 := nodesL_le ts j
          have h3 := HR.out
          have : R = acc := by omega
          exact this
        go_wp2_with fail
        go_ret
        exact ⟨by rw [HF.out]; rfl, HB2.out.trans ((below_lit wr _).mono HB2.out.size)⟩
    · have hln : decide ((j : Int) < (len : Int)) = false := by simp; omega
      have HF : Hid (R = acc) := by
        have h1 := hc.out
        rw [List.take_of_length_le (by rw [HN.out]; omega)] at h1
        have h3 := HR.out
        have : R = acc := by omega
        exact this
      go_wp2_with fail
      go_ret
      exact ⟨by rw [HF.out]; rfl, HB2.out⟩
theorem nodes_is (t : Lv) (v : Value) (w : World) (hv : LvV w t v) (hm : nodes t ≤ 100000) (R : Nat) (hR : min (nodes t) 65 = R) :
    Calls Try.prog 21 #[v] w (Ret w (.int .i64 R)) := by
  obtain ⟨s, rfl, hs⟩ := hv
  have HLS := Lib.hid (show LvV w t _ from ⟨s, rfl, hs⟩)
  have HM := Lib.hid hm
  have HR := Lib.hid hR
  generalize kindOf t = k at *
  generalize numOf t = n at *
  clear hs hm hR
  go_enter Try.func21, Try.ntmps21
  go_wp2_with fail
  have HB := Lib.hid (below_lit w (.cells #[.int .i64 k, .int .i64 n, s] 24))
  generalize w.alloc (.cells #[.int .i64 k, .int .i64 n, s] 24) = W at *
  refine (count_up (nodes t) t _ W 64 131072 (Nat.le_refl _) (by have := HM.out; omega) (by omega) (by omega) (HLS.out.below HB.out)).mono ?_
  rintro e w2 ⟨rfl, hb2⟩
  rw [HR.out]
  have HB2 := Lib.hid (HB.out.trans (hb2.mono HB.out.size))
  clear hb2
  go_wp2_with fail
  go_ret
  exact ⟨rfl, HB2.out⟩
end Go.Proofs.Yteghldgopidhhaa
