/-
  The contracts of the reference's functions right and Right: is each node right; is a level right for so many parameters.
  Conditions: the level lies in memory as told by 'LvV'.
-/
import Derived.Test.YteghldgopidhhaaLvMem
import Derived.BigQuiet
namespace Go.Proofs.Yteghldgopidhhaa
open Go.RowKit
open Lvl

set_option maxRecDepth 100000 in
set_option maxHeartbeats 4000000 in
theorem refRight_up (m : Int) : ∀ (N : Nat) (t : Lv) (v : Value) (w : World) (b : Bool), nodes t ≤ N → LvV w t v → okB m t = b →
    Calls Try.prog 33 #[v, .int .i64 m] w (Ret w (.bool b)) := by
  intro N
  induction N with
  | zero => intro t v w b h _ _; have := nodes_pos t; omega
  | succ N ih =>
  intro t v w b hN hv hb
  obtain ⟨s, rfl, hs⟩ := hv
  cases t with
  | mk k n ts =>
  rw [LvS] at hs
  obtain ⟨A, len, cap, rfl, h1, h2, h2b, h3, h4⟩ := hs
  have IH := Lib.hid ih
  have HS := Lib.hid h4
  have HN := Lib.hid h1
  have HOK := Lib.hid hb
  have HNN : Hid (nodesL ts ≤ N) := by
    rw [nodes] at hN
    have : nodesL ts ≤ N := by omega
    exact this
  clear h4 h1 h3 hN ih hb
  show Calls Try.prog 33 #[.agg #[.int .i64 k, .int .i64 n, .slice A len cap], .int .i64 m] w (Ret w (.bool b))
  obtain ⟨hb0, hb1, hb2⟩ := box_cells w (.int .i64 k) (.int .i64 n) (.slice A len cap) 24
  have HB := Lib.hid (below_lit w (.cells #[.int .i64 k, .int .i64 n, .slice A len cap] 24))
  have hsz : w.heap.size < (w.alloc (.cells #[.int .i64 k, .int .i64 n, .slice A len cap] 24)).heap.size := by simp
  by_cases hk1 : k = 1
  · subst hk1
    have HV : Hid (b = (decide (0 ≤ n) && decide (n ≤ 100) && decide (len = 0))) := by
      have := HOK.out
      rw [okB] at this
      simp only [HN.out] at this
      exact this.symm
    clear IH HS HNN HOK
    by_cases hn0 : 0 ≤ n
    · have hd0 : decide ((0 : Int) ≤ n) = true := by simp; omega
      by_cases hn1 : n ≤ (100 : Int)
      · have hd1 : decide (n ≤ (100 : Int)) = true := by simp; omega
        by_cases hl : len = 0
        · subst hl
          obtain rfl : b = true := by rw [HV.out]; simp [*]
          go_enter Try.func33, Try.ntmps33
          go_wp2_with fail
          go_ret
          exact ⟨rfl, HB.out⟩
        · have hl0 : ((len : Int) == 0) = false := by simp; omega
          obtain rfl : b = false := by rw [HV.out]; simp [*]
          go_enter Try.func33, Try.ntmps33
          go_wp2_with fail
          go_ret
          exact ⟨rfl, HB.out⟩
      · have hd1 : decide (n ≤ (100 : Int)) = false := by simp; omega
        obtain rfl : b = false := by rw [HV.out]; simp [*]
        go_enter Try.func33, Try.ntmps33
        go_wp2_with fail
        go_ret
        exact ⟨rfl, HB.out⟩
    · have hd0 : decide ((0 : Int) ≤ n) = false := by simp; omega
      obtain rfl : b = false := by rw [HV.out]; simp [*]
      go_enter Try.func33, Try.ntmps33
      go_wp2_with fail
      go_ret
      exact ⟨rfl, HB.out⟩
  · by_cases hk2 : k = 2
    · subst hk2
      have HV : Hid (b = (decide (0 ≤ n) && decide (n < m) && decide (len = 0))) := by
        have := HOK.out
        rw [okB] at this
        simp only [HN.out] at this
        exact this.symm
      clear IH HS HNN HOK
      by_cases hn0 : 0 ≤ n
      · have hd0 : decide ((0 : Int) ≤ n) = true := by simp; omega
        by_cases hn1 : n < m
        · have hd1 : decide (n < m) = true := by simp; omega
          by_cases hl : len = 0
          · subst hl
            obtain rfl : b = true := by rw [HV.out]; simp [*]
            go_enter Try.func33, Try.ntmps33
            go_wp2_with fail
            go_ret
            exact ⟨rfl, HB.out⟩
          · have hl0 : ((len : Int) == 0) = false := by simp; omega
            obtain rfl : b = false := by rw [HV.out]; simp [*]
            go_enter Try.func33, Try.ntmps33
            go_wp2_with fail
            go_ret
            exact ⟨rfl, HB.out⟩
        · have hd1 : decide (n < m) = false := by simp; omega
          obtain rfl : b = false := by rw [HV.out]; simp [*]
          go_enter Try.func33, Try.ntmps33
          go_wp2_with fail
          go_ret
          exact ⟨rfl, HB.out⟩
      · have hd0 : decide ((0 : Int) ≤ n) = false := by simp; omega
        obtain rfl : b = false := by rw [HV.out]; simp [*]
        go_enter Try.func33, Try.ntmps33
        go_wp2_with fail
        go_ret
        exact ⟨rfl, HB.out⟩
    · by_cases hk3 : k = 3
      · subst hk3
        have HV : Hid (b = (decide (n = 0) && decide (len = 1) && okL m ts)) := by
          have := HOK.out
          rw [okB] at this
          simp only [HN.out] at this
          exact this.symm
        by_cases hn0 : n = 0
        · subst hn0
          by_cases hl : len = 1
          · subst hl
            have HV2 : Hid (b = okL m ts) := by
              show b = okL m ts
              rw [HV.out]
              simp
            go_enter Try.func33, Try.ntmps33
            go_wp2_with fail
            clear hb0 hb1 HV
            generalize w.alloc (.cells #[.int .i64 _, .int .i64 0, .slice A 1 cap] 24) = W at *
            have HBX := Lib.hid hb2
            clear hb2
            go_loopw [6] (fun i wr => ∃ j : Nat, j ≤ 1 ∧ i = .int .i64 j ∧ Hid ((ts.take j).all (okB m) = true) ∧ Below W.heap.size W wr) (fun i _ => 1 - (intOf i).toNat)
            case atStart => exact ⟨0, by omega, rfl, rfl, Below.refl _ _⟩
            case round =>
              obtain ⟨j, hj, rfl, hall, hbw⟩ := hrel
              have HBW := Lib.hid hbw
              have hbox := (hbw.cell (p := ⟨w.heap.size, 2, none⟩) hsz).trans HBX.out
              have HB2 := Lib.hid (HB.out.trans (hbw.mono HB.out.size))
              have HSW := Lib.hid (lsV_below HB2.out _ _ _ HS.out)
              clear hbw
              by_cases hlt : j < 1
              · have hx1 : j < ts.length := by rw [HN.out]; exact hlt
                have hln : decide ((j : Int) < 1) = true := by simp; omega
                obtain ⟨bk, o, s, rfl, hbs, hc0, hc1, hc2, hls⟩ := lsV_get HSW.out j hx1
                have HLS : Hid (LvV wr ts[j] (.agg #[.int .i64 (kindOf ts[j]), .int .i64 (numOf ts[j]), s])) := ⟨s, rfl, hls⟩
                have HTN : Hid (nodes ts[j] ≤ N) := Nat.le_trans (nodes_mem (List.getElem_mem hx1)) HNN.out
                have hji : (j : Int) < 1 := by omega
                cases hok : okB m ts[j]
                · have HF : Hid (b = false) := by
                    rw [HV2.out, okL_all]
                    exact List.all_eq_false.2 ⟨_, List.getElem_mem hx1, by rw [hok]; simp⟩
                  have HO := Lib.hid hok
                  generalize kindOf ts[j] = ki at *
                  generalize numOf ts[j] = nu at *
                  generalize ts[j] = tj at *
                  clear hls hok
                  go_wp2_with fail
                  refine (IH.out tj _ wr false HTN.out HLS.out HO.out).mono ?_
                  rintro e w2 ⟨rfl, hb9⟩
                  have HB9 := Lib.hid (HB2.out.trans (hb9.mono HB2.out.size))
                  clear hb9
                  go_wp2_with fail
                  go_ret
                  exact ⟨by rw [HF.out]; rfl, HB9.out⟩
                · have HA : Hid ((ts.take (j + 1)).all (okB m) = true) := by
                    show (ts.take (j + 1)).all (okB m) = true
                    rw [List.take_add_one, List.getElem?_eq_getElem hx1, List.all_append, hall.out]
                    simpa using hok
                  have HO := Lib.hid hok
                  generalize kindOf ts[j] = ki at *
                  generalize numOf ts[j] = nu at *
                  generalize ts[j] = tj at *
                  clear hls hok
                  go_wp2_with fail
                  refine (IH.out tj _ wr true HTN.out HLS.out HO.out).mono ?_
                  rintro e w2 ⟨rfl, hb9⟩
                  have HB9 := Lib.hid (HBW.out.trans (hb9.mono HBW.out.size))
                  clear hb9
                  go_wp2_with fail
                  go_roundw
                  case rel => exact ⟨j + 1, by omega, by go_num, HA, HB9.out⟩
                  case measure => simp [intOf]; omega
              · obtain rfl : j = 1 := by omega
                have HF : Hid (b = true) := by
                  rw [HV2.out, okL_all]
                  have := hall.out
                  rwa [List.take_of_length_le (by rw [HN.out]; exact Nat.le_refl _)] at this
                go_wp2_with fail
                go_ret
                exact ⟨by rw [HF.out]; rfl, HB2.out⟩
          · have hl0 : decide ((len : Int) = 1) = false := by simp; omega
            obtain rfl : b = false := by rw [HV.out]; simp [*]
            go_enter Try.func33, Try.ntmps33
            go_wp2_with fail
            go_ret
            exact ⟨rfl, HB.out⟩
        · have hd0 : decide (n = 0) = false := by simp; omega
          obtain rfl : b = false := by rw [HV.out]; simp [*]
          go_enter Try.func33, Try.ntmps33
          go_wp2_with fail
          go_ret
          exact ⟨rfl, HB.out⟩
      · by_cases hk4 : k = 4
        · subst hk4
          have HV : Hid (b = (decide (n = 0) && decide (len = 2) && okL m ts)) := by
            have := HOK.out
            rw [okB] at this
            simp only [HN.out] at this
            exact this.symm
          by_cases hn0 : n = 0
          · subst hn0
            by_cases hl : len = 2
            · subst hl
              have HV2 : Hid (b = okL m ts) := by
                show b = okL m ts
                rw [HV.out]
                simp
              go_enter Try.func33, Try.ntmps33
              go_wp2_with fail
              clear hb0 hb1 HV
              generalize w.alloc (.cells #[.int .i64 _, .int .i64 0, .slice A 2 cap] 24) = W at *
              have HBX := Lib.hid hb2
              clear hb2
              go_loopw [6] (fun i wr => ∃ j : Nat, j ≤ 2 ∧ i = .int .i64 j ∧ Hid ((ts.take j).all (okB m) = true) ∧ Below W.heap.size W wr) (fun i _ => 2 - (intOf i).toNat)
              case atStart => exact ⟨0, by omega, rfl, rfl, Below.refl _ _⟩
              case round =>
                obtain ⟨j, hj, rfl, hall, hbw⟩ := hrel
                have HBW := Lib.hid hbw
                have hbox := (hbw.cell (p := ⟨w.heap.size, 2, none⟩) hsz).trans HBX.out
                have HB2 := Lib.hid (HB.out.trans (hbw.mono HB.out.size))
                have HSW := Lib.hid (lsV_below HB2.out _ _ _ HS.out)
                clear hbw
                by_cases hlt : j < 2
                · have hx1 : j < ts.length := by rw [HN.out]; exact hlt
                  have hln : decide ((j : Int) < 2) = true := by simp; omega
                  obtain ⟨bk, o, s, rfl, hbs, hc0, hc1, hc2, hls⟩ := lsV_get HSW.out j hx1
                  have HLS : Hid (LvV wr ts[j] (.agg #[.int .i64 (kindOf ts[j]), .int .i64 (numOf ts[j]), s])) := ⟨s, rfl, hls⟩
                  have HTN : Hid (nodes ts[j] ≤ N) := Nat.le_trans (nodes_mem (List.getElem_mem hx1)) HNN.out
                  have hji : (j : Int) < 2 := by omega
                  cases hok : okB m ts[j]
                  · have HF : Hid (b = false) := by
                      rw [HV2.out, okL_all]
                      exact List.all_eq_false.2 ⟨_, List.getElem_mem hx1, by rw [hok]; simp⟩
                    have HO := Lib.hid hok
                    generalize kindOf ts[j] = ki at *
                    generalize numOf ts[j] = nu at *
                    generalize ts[j] = tj at *
                    clear hls hok
                    go_wp2_with fail
                    refine (IH.out tj _ wr false HTN.out HLS.out HO.out).mono ?_
                    rintro e w2 ⟨rfl, hb9⟩
                    have HB9 := Lib.hid (HB2.out.trans (hb9.mono HB2.out.size))
                    clear hb9
                    go_wp2_with fail
                    go_ret
                    exact ⟨by rw [HF.out]; rfl, HB9.out⟩
                  · have HA : Hid ((ts.take (j + 1)).all (okB m) = true) := by
                      show (ts.take (j + 1)).all (okB m) = true
                      rw [List.take_add_one, List.getElem?_eq_getElem hx1, List.all_append, hall.out]
                      simpa using hok
                    have HO := Lib.hid hok
                    generalize kindOf ts[j] = ki at *
                    generalize numOf ts[j] = nu at *
                    generalize ts[j] = tj at *
                    clear hls hok
                    go_wp2_with fail
                    refine (IH.out tj _ wr true HTN.out HLS.out HO.out).mono ?_
                    rintro e w2 ⟨rfl, hb9⟩
                    have HB9 := Lib.hid (HBW.out.trans (hb9.mono HBW.out.size))
                    clear hb9
                    go_wp2_with fail
                    go_roundw
                    case rel => exact ⟨j + 1, by omega, by go_num, HA, HB9.out⟩
                    case measure => simp [intOf]; omega
                · obtain rfl : j = 2 := by omega
                  have HF : Hid (b = true) := by
                    rw [HV2.out, okL_all]
                    have := hall.out
                    rwa [List.take_of_length_le (by rw [HN.out]; exact Nat.le_refl _)] at this
                  go_wp2_with fail
                  go_ret
                  exact ⟨by rw [HF.out]; rfl, HB2.out⟩
            · have hl0 : decide ((len : Int) = 2) = false := by simp; omega
              obtain rfl : b = false := by rw [HV.out]; simp [*]
              go_enter Try.func33, Try.ntmps33
              go_wp2_with fail
              go_ret
              exact ⟨rfl, HB.out⟩
          · have hd0 : decide (n = 0) = false := by simp; omega
            obtain rfl : b = false := by rw [HV.out]; simp [*]
            go_enter Try.func33, Try.ntmps33
            go_wp2_with fail
            go_ret
            exact ⟨rfl, HB.out⟩
        · by_cases hk5 : k = 5
          · subst hk5
            have HV : Hid (b = (decide (n = 0) && decide (len = 2) && okL m ts)) := by
              have := HOK.out
              rw [okB] at this
              simp only [HN.out] at this
              exact this.symm
            by_cases hn0 : n = 0
            · subst hn0
              by_cases hl : len = 2
              · subst hl
                have HV2 : Hid (b = okL m ts) := by
                  show b = okL m ts
                  rw [HV.out]
                  simp
                go_enter Try.func33, Try.ntmps33
                go_wp2_with fail
                clear hb0 hb1 HV
                generalize w.alloc (.cells #[.int .i64 _, .int .i64 0, .slice A 2 cap] 24) = W at *
                have HBX := Lib.hid hb2
                clear hb2
                go_loopw [6] (fun i wr => ∃ j : Nat, j ≤ 2 ∧ i = .int .i64 j ∧ Hid ((ts.take j).all (okB m) = true) ∧ Below W.heap.size W wr) (fun i _ => 2 - (intOf i).toNat)
                case atStart => exact ⟨0, by omega, rfl, rfl, Below.refl _ _⟩
                case round =>
                  obtain ⟨j, hj, rfl, hall, hbw⟩ := hrel
                  have HBW := Lib.hid hbw
                  have hbox := (hbw.cell (p := ⟨w.heap.size, 2, none⟩) hsz).trans HBX.out
                  have HB2 := Lib.hid (HB.out.trans (hbw.mono HB.out.size))
                  have HSW := Lib.hid (lsV_below HB2.out _ _ _ HS.out)
                  clear hbw
                  by_cases hlt : j < 2
                  · have hx1 : j < ts.length := by rw [HN.out]; exact hlt
                    have hln : decide ((j : Int) < 2) = true := by simp; omega
                    obtain ⟨bk, o, s, rfl, hbs, hc0, hc1, hc2, hls⟩ := lsV_get HSW.out j hx1
                    have HLS : Hid (LvV wr ts[j] (.agg #[.int .i64 (kindOf ts[j]), .int .i64 (numOf ts[j]), s])) := ⟨s, rfl, hls⟩
                    have HTN : Hid (nodes ts[j] ≤ N) := Nat.le_trans (nodes_mem (List.getElem_mem hx1)) HNN.out
                    have hji : (j : Int) < 2 := by omega
                    cases hok : okB m ts[j]
                    · have HF : Hid (b = false) := by
                        rw [HV2.out, okL_all]
                        exact List.all_eq_false.2 ⟨_, List.getElem_mem hx1, by rw [hok]; simp⟩
                      have HO := Lib.hid hok
                      generalize kindOf ts[j] = ki at *
                      generalize numOf ts[j] = nu at *
                      generalize ts[j] = tj at *
                      clear hls hok
                      go_wp2_with fail
                      refine (IH.out tj _ wr false HTN.out HLS.out HO.out).mono ?_
                      rintro e w2 ⟨rfl, hb9⟩
                      have HB9 := Lib.hid (HB2.out.trans (hb9.mono HB2.out.size))
                      clear hb9
                      go_wp2_with fail
                      go_ret
                      exact ⟨by rw [HF.out]; rfl, HB9.out⟩
                    · have HA : Hid ((ts.take (j + 1)).all (okB m) = true) := by
                        show (ts.take (j + 1)).all (okB m) = true
                        rw [List.take_add_one, List.getElem?_eq_getElem hx1, List.all_append, hall.out]
                        simpa using hok
                      have HO := Lib.hid hok
                      generalize kindOf ts[j] = ki at *
                      generalize numOf ts[j] = nu at *
                      generalize ts[j] = tj at *
                      clear hls hok
                      go_wp2_with fail
                      refine (IH.out tj _ wr true HTN.out HLS.out HO.out).mono ?_
                      rintro e w2 ⟨rfl, hb9⟩
                      have HB9 := Lib.hid (HBW.out.trans (hb9.mono HBW.out.size))
                      clear hb9
                      go_wp2_with fail
                      go_roundw
                      case rel => exact ⟨j + 1, by omega, by go_num, HA, HB9.out⟩
                      case measure => simp [intOf]; omega
                  · obtain rfl : j = 2 := by omega
                    have HF : Hid (b = true) := by
                      rw [HV2.out, okL_all]
                      have := hall.out
                      rwa [List.take_of_length_le (by rw [HN.out]; exact Nat.le_refl _)] at this
                    go_wp2_with fail
                    go_ret
                    exact ⟨by rw [HF.out]; rfl, HB2.out⟩
              · have hl0 : decide ((len : Int) = 2) = false := by simp; omega
                obtain rfl : b = false := by rw [HV.out]; simp [*]
                go_enter Try.func33, Try.ntmps33
                go_wp2_with fail
                go_ret
                exact ⟨rfl, HB.out⟩
            · have hd0 : decide (n = 0) = false := by simp; omega
              obtain rfl : b = false := by rw [HV.out]; simp [*]
              go_enter Try.func33, Try.ntmps33
              go_wp2_with fail
              go_ret
              exact ⟨rfl, HB.out⟩
          · have hf : b = false := by
              have := HOK.out
              rw [okB, if_neg hk1, if_neg hk2, if_neg hk3, if_neg (by omega)] at this
              exact this.symm
            subst hf
            have e1 : decide (k = 1) = false := by simp; omega
            have e2 : decide (k = 2) = false := by simp; omega
            have e3 : decide (k = 3) = false := by simp; omega
            have e4 : decide (k = 4) = false := by simp; omega
            have e5 : decide (k = 5) = false := by simp; omega
            clear IH HS HNN HOK
            go_enter Try.func33, Try.ntmps33
            go_wp2_with fail
            go_ret
            exact ⟨rfl, HB.out⟩

theorem okB_neg {m : Int} {t : Lv} (h : ¬ ∃ x, IsL m t x) : okB m t = false := by
  cases hb : okB m t
  · rfl
  · exact absurd (okB_is t hb) h
end Go.Proofs.Yteghldgopidhhaa
