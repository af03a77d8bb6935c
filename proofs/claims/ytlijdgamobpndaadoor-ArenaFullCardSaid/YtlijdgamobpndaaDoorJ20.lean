import Derived.Test.YtlijdgamobpndaaDoorJ03
/-
  The contracts of the program's functions fits and Right: is each node right; is a level right for so many parameters.
  Conditions: the level lies in memory as told by 'LvV'; for Right: it has at most 100000 nodes.
-/
namespace Go.Proofs.YtlijdgamobpndaaDoor
open Go.RowKit
open Lvl

set_option maxRecDepth 100000 in
set_option maxHeartbeats 4000000 in
theorem fits_up (m : Int) : ∀ (N : Nat) (t : Lv) (v : Value) (w : World) (b : Bool), nodes t ≤ N → LvV w t v → okB m t = b →
    Calls Tryd.prog 58 #[v, .int .i64 m] w (Ret w (.bool b)) := by
  intro N
  induction N with
  | zero => intro t v w b h _ _; have := nodes_pos t; omega
  | succ N ih =>
  intro t v w b hN hv hb
  obtain ⟨s, rfl, hs⟩ := hv
  cases t with
  | mk k n ts =>
  rw [LvS] at hs
  obtain ⟨A, len, cap, rfl, h1, h2, h2b, h3, h4⟩ := hs
  have IH := Lib.hid ih
  have HS := Lib.hid h4
  have HN := Lib.hid h1
  have HOK := Lib.hid hb
  have HNN : Hid (nodesL ts ≤ N) := by
    rw [nodes] at hN
    have : nodesL ts ≤ N := by omega
    exact this
  clear h4 h1 h3 hN ih hb
  show Calls Tryd.prog 58 #[.agg #[.int .i64 k, .int .i64 n, .slice A len cap], .int .i64 m] w (Ret w (.bool b))
  obtain ⟨hb0, hb1, hb2⟩ := box_cells w (.int .i64 k) (.int .i64 n) (.slice A len cap) 63
  have HB := Lib.hid (below_lit w (.cells #[.int .i64 k, .int .i64 n, .slice A len cap] 63))
  have hsz : w.heap.size < (w.alloc (.cells #[.int .i64 k, .int .i64 n, .slice A len cap] 63)).heap.size := by simp
  by_cases hk1 : k = 1
  · subst hk1
    have HV : Hid (b = (decide (0 ≤ n) && decide (n ≤ (100 : Int)) && decide (len = 0))) := by
      have := HOK.out
      rw [okB] at this
      simp only [HN.out] at this
      exact this.symm
    clear IH HS HNN HOK
    by_cases hn0 : 0 ≤ n
    · have hd0 : decide ((0 : Int) ≤ n) = true := by simp; omega
      by_cases hn1 : n ≤ (100 : Int)
      · have hd1 : decide (n ≤ (100 : Int)) = true := by simp; omega
        by_cases hl : len = 0
        · subst hl
          obtain rfl : b = true := by rw [HV.out]; simp [*]
          go_enter Tryd.func58, Tryd.ntmps58
          go_wp2_with fail
          go_ret
          exact ⟨rfl, HB.out⟩
        · have hl0 : ((len : Int) == 0) = false := by simp; omega
          obtain rfl : b = false := by rw [HV.out]; simp [*]
          go_enter Tryd.func58, Tryd.ntmps58
          go_wp2_with fail
          go_ret
          exact ⟨rfl, HB.out⟩
      · have hd1 : decide (n ≤ (100 : Int)) = false := by simp; omega
        obtain rfl : b = false := by rw [HV.out]; simp [*]
        go_enter Tryd.func58, Tryd.ntmps58
        go_wp2_with fail
        go_ret
        exact ⟨rfl, HB.out⟩
    · have hd0 : decide ((0 : Int) ≤ n) = false := by simp; omega
      obtain rfl : b = false := by rw [HV.out]; simp [*]
      go_enter Tryd.func58, Tryd.ntmps58
      go_wp2_with fail
      go_ret
      exact ⟨rfl, HB.out⟩
  · by_cases hk2 : k = 2
    · subst hk2
      have HV : Hid (b = (decide (0 ≤ n) && decide (n < m) && decide (len = 0))) := by
        have := HOK.out
        rw [okB] at this
        simp only [HN.out] at this
        exact this.symm
      clear IH HS HNN HOK
      by_cases hn0 : 0 ≤ n
      · have hd0 : decide ((0 : Int) ≤ n) = true := by simp; omega
        by_cases hn1 : n < m
        · have hd1 : decide (n < m) = true := by simp; omega
          by_cases hl : len = 0
          · subst hl
            obtain rfl : b = true := by rw [HV.out]; simp [*]
            go_enter Tryd.func58, Tryd.ntmps58
            go_wp2_with fail
            go_ret
            exact ⟨rfl, HB.out⟩
          · have hl0 : ((len : Int) == 0) = false := by simp; omega
            obtain rfl : b = false := by rw [HV.out]; simp [*]
            go_enter Tryd.func58, Tryd.ntmps58
            go_wp2_with fail
            go_ret
            exact ⟨rfl, HB.out⟩
        · have hd1 : decide (n < m) = false := by simp; omega
          obtain rfl : b = false := by rw [HV.out]; simp [*]
          go_enter Tryd.func58, Tryd.ntmps58
          go_wp2_with fail
          go_ret
          exact ⟨rfl, HB.out⟩
      · have hd0 : decide ((0 : Int) ≤ n) = false := by simp; omega
        obtain rfl : b = false := by rw [HV.out]; simp [*]
        go_enter Tryd.func58, Tryd.ntmps58
        go_wp2_with fail
        go_ret
        exact ⟨rfl, HB.out⟩
    · by_cases hk3 : k = 3
      · subst hk3
        have HV : Hid (b = (decide (n = 0) && decide (len = 1) && okL m ts)) := by
          have := HOK.out
          rw [okB] at this
          simp only [HN.out] at this
          exact this.symm
        by_cases hn0 : n = 0
        · subst hn0
          by_cases hl : len = 1
          · subst hl
            obtain ⟨a, rfl⟩ : ∃ a, ts = [a] := List.length_eq_one_iff.1 HN.out
            have HV2 : Hid (b = okB m a) := by
              show b = okB m a
              rw [HV.out]
              simp [okL]
            obtain ⟨bk, o, s1, rfl, hbs, hc0, hc1, hc2, hls⟩ := lsV_get (lsV_below HB.out _ _ _ HS.out) 0 (by simp)
            have HLS := Lib.hid (show LvV _ a (.agg #[.int .i64 (kindOf a), .int .i64 (numOf a), s1]) from ⟨s1, rfl, hls⟩)
            have HTN : Hid (nodes a ≤ N) := Nat.le_trans (nodes_mem (List.mem_singleton.2 rfl)) HNN.out
            simp only [Nat.zero_mul, Nat.add_zero, List.getElem_cons_zero] at hc0 hc1 hc2
            clear hls HV HOK HS HNN
            go_enter Tryd.func58, Tryd.ntmps58
            go_wp2_with fail
            refine (IH.out a _ _ b HTN.out HLS.out HV2.out.symm).mono ?_
            rintro e w2 ⟨rfl, hb9⟩
            have HB9 := Lib.hid (HB.out.trans (hb9.mono HB.out.size))
            clear hb9
            go_wp2_with fail
            go_ret
            exact ⟨rfl, HB9.out⟩
          · have hl0 : ((len : Int) == 1) = false := by simp; omega
            clear IH HS HNN HOK
            obtain rfl : b = false := by rw [HV.out]; simp [*]
            go_enter Tryd.func58, Tryd.ntmps58
            go_wp2_with fail
            go_ret
            exact ⟨rfl, HB.out⟩
        · have hd0 : (n == 0) = false := by simp; omega
          clear IH HS HNN HOK
          obtain rfl : b = false := by rw [HV.out]; simp [*]
          go_enter Tryd.func58, Tryd.ntmps58
          go_wp2_with fail
          go_ret
          exact ⟨rfl, HB.out⟩
      · by_cases hk4 : k = 4
        · subst hk4
          have HV : Hid (b = (decide (n = 0) && decide (len = 2) && okL m ts)) := by
            have := HOK.out
            rw [okB] at this
            simp only [HN.out] at this
            exact this.symm
          by_cases hn0 : n = 0
          · subst hn0
            by_cases hl : len = 2
            · subst hl
              obtain ⟨a, c, rfl⟩ : ∃ a c, ts = [a, c] := by
                have := HN.out
                match ts, this with
                | [a, c], _ => exact ⟨a, c, rfl⟩
              obtain ⟨ra, hra⟩ : ∃ r, okB m a = r := ⟨_, rfl⟩
              obtain ⟨rc, hrc⟩ : ∃ r, okB m c = r := ⟨_, rfl⟩
              have HRA := Lib.hid hra
              have HRC := Lib.hid hrc
              have HV2 : Hid (b = (ra && rc)) := by
                show b = (ra && rc)
                rw [HV.out]
                simp [okL, hra, hrc]
              have HSB := Lib.hid (lsV_below HB.out _ _ _ HS.out)
              obtain ⟨bk, o, s1, rfl, hbs, hc0, hc1, hc2, hls⟩ := lsV_get HSB.out 0 (by simp)
              obtain ⟨bk', o', s2, e0, _, hd0, hd1, hd2, hls2⟩ := lsV_get HSB.out 1 (by simp)
              cases e0
              have HLS := Lib.hid (show LvV _ a (.agg #[.int .i64 (kindOf a), .int .i64 (numOf a), s1]) from ⟨s1, rfl, hls⟩)
              have HLS2 := Lib.hid (show LvV _ c (.agg #[.int .i64 (kindOf c), .int .i64 (numOf c), s2]) from ⟨s2, rfl, hls2⟩)
              have HTN : Hid (nodes a ≤ N) := Nat.le_trans (nodes_mem (by simp)) HNN.out
              have HTC : Hid (nodes c ≤ N) := Nat.le_trans (nodes_mem (by simp)) HNN.out
              simp only [Nat.zero_mul, Nat.one_mul, Nat.add_zero, List.getElem_cons_zero, List.getElem_cons_succ] at hc0 hc1 hc2 hd0 hd1 hd2
              change World.cell? _ ⟨bk, o + 4, none⟩ = _ at hd1
              change World.cell? _ ⟨bk, o + 5, none⟩ = _ at hd2
              clear hls hls2 HV HOK HS HNN HSB hra hrc
              go_enter Tryd.func58, Tryd.ntmps58
              go_wp2_with fail
              refine (IH.out a _ _ ra HTN.out HLS.out HRA.out).mono ?_
              rintro e w2 ⟨rfl, hb9⟩
              have HB9 := Lib.hid (HB.out.trans (hb9.mono HB.out.size))
              have hx0' := (hb9.cell (p := ⟨w.heap.size, 2, none⟩) hsz).trans hb2
              have hd0' := (hb9.cell (p := ⟨bk, _, none⟩) hbs).trans hd0
              have hd1' := (hb9.cell (p := ⟨bk, _, none⟩) hbs).trans hd1
              have hd2' := (hb9.cell (p := ⟨bk, _, none⟩) hbs).trans hd2
              have HLS2' := Lib.hid (HLS2.out.below hb9)
              clear hb9 hc0 hc1 hc2 hd0 hd1 hd2 HLS HLS2 hb2
              cases ra
              · have HF : Hid (b = false) := HV2.out
                go_wp2_with fail
                go_ret
                exact ⟨by rw [HF.out]; rfl, HB9.out⟩
              · have HF : Hid (b = rc) := by
                  have := HV2.out
                  rw [Bool.true_and] at this
                  exact this
                go_wp2_with fail
                refine (IH.out c _ _ rc HTC.out HLS2'.out HRC.out).mono ?_
                rintro e w3 ⟨rfl, hb9⟩
                have HB3 := Lib.hid (HB9.out.trans (hb9.mono HB9.out.size))
                clear hb9
                go_wp2_with fail
                go_ret
                exact ⟨by rw [HF.out]; rfl, HB3.out⟩
            · have hl0 : ((len : Int) == 2) = false := by simp; omega
              clear IH HS HNN HOK
              obtain rfl : b = false := by rw [HV.out]; simp [*]
              go_enter Tryd.func58, Tryd.ntmps58
              go_wp2_with fail
              go_ret
              exact ⟨rfl, HB.out⟩
          · have hd0 : (n == 0) = false := by simp; omega
            clear IH HS HNN HOK
            obtain rfl : b = false := by rw [HV.out]; simp [*]
            go_enter Tryd.func58, Tryd.ntmps58
            go_wp2_with fail
            go_ret
            exact ⟨rfl, HB.out⟩
        · by_cases hk5 : k = 5
          · subst hk5
            have HV : Hid (b = (decide (n = 0) && decide (len = 2) && okL m ts)) := by
              have := HOK.out
              rw [okB] at this
              simp only [HN.out] at this
              exact this.symm
            by_cases hn0 : n = 0
            · subst hn0
              by_cases hl : len = 2
              · subst hl
                obtain ⟨a, c, rfl⟩ : ∃ a c, ts = [a, c] := by
                  have := HN.out
                  match ts, this with
                  | [a, c], _ => exact ⟨a, c, rfl⟩
                obtain ⟨ra, hra⟩ : ∃ r, okB m a = r := ⟨_, rfl⟩
                obtain ⟨rc, hrc⟩ : ∃ r, okB m c = r := ⟨_, rfl⟩
                have HRA := Lib.hid hra
                have HRC := Lib.hid hrc
                have HV2 : Hid (b = (ra && rc)) := by
                  show b = (ra && rc)
                  rw [HV.out]
                  simp [okL, hra, hrc]
                have HSB := Lib.hid (lsV_below HB.out _ _ _ HS.out)
                obtain ⟨bk, o, s1, rfl, hbs, hc0, hc1, hc2, hls⟩ := lsV_get HSB.out 0 (by simp)
                obtain ⟨bk', o', s2, e0, _, hd0, hd1, hd2, hls2⟩ := lsV_get HSB.out 1 (by simp)
                cases e0
                have HLS := Lib.hid (show LvV _ a (.agg #[.int .i64 (kindOf a), .int .i64 (numOf a), s1]) from ⟨s1, rfl, hls⟩)
                have HLS2 := Lib.hid (show LvV _ c (.agg #[.int .i64 (kindOf c), .int .i64 (numOf c), s2]) from ⟨s2, rfl, hls2⟩)
                have HTN : Hid (nodes a ≤ N) := Nat.le_trans (nodes_mem (by simp)) HNN.out
                have HTC : Hid (nodes c ≤ N) := Nat.le_trans (nodes_mem (by simp)) HNN.out
                simp only [Nat.zero_mul, Nat.one_mul, Nat.add_zero, List.getElem_cons_zero, List.getElem_cons_succ] at hc0 hc1 hc2 hd0 hd1 hd2
                change World.cell? _ ⟨bk, o + 4, none⟩ = _ at hd1
                change World.cell? _ ⟨bk, o + 5, none⟩ = _ at hd2
                clear hls hls2 HV HOK HS HNN HSB hra hrc
                go_enter Tryd.func58, Tryd.ntmps58
                go_wp2_with fail
                refine (IH.out a _ _ ra HTN.out HLS.out HRA.out).mono ?_
                rintro e w2 ⟨rfl, hb9⟩
                have HB9 := Lib.hid (HB.out.trans (hb9.mono HB.out.size))
                have hx0' := (hb9.cell (p := ⟨w.heap.size, 2, none⟩) hsz).trans hb2
                have hd0' := (hb9.cell (p := ⟨bk, _, none⟩) hbs).trans hd0
                have hd1' := (hb9.cell (p := ⟨bk, _, none⟩) hbs).trans hd1
                have hd2' := (hb9.cell (p := ⟨bk, _, none⟩) hbs).trans hd2
                have HLS2' := Lib.hid (HLS2.out.below hb9)
                clear hb9 hc0 hc1 hc2 hd0 hd1 hd2 HLS HLS2 hb2
                cases ra
                · have HF : Hid (b = false) := HV2.out
                  go_wp2_with fail
                  go_ret
                  exact ⟨by rw [HF.out]; rfl, HB9.out⟩
                · have HF : Hid (b = rc) := by
                    have := HV2.out
                    rw [Bool.true_and] at this
                    exact this
                  go_wp2_with fail
                  refine (IH.out c _ _ rc HTC.out HLS2'.out HRC.out).mono ?_
                  rintro e w3 ⟨rfl, hb9⟩
                  have HB3 := Lib.hid (HB9.out.trans (hb9.mono HB9.out.size))
                  clear hb9
                  go_wp2_with fail
                  go_ret
                  exact ⟨by rw [HF.out]; rfl, HB3.out⟩
              · have hl0 : ((len : Int) == 2) = false := by simp; omega
                clear IH HS HNN HOK
                obtain rfl : b = false := by rw [HV.out]; simp [*]
                go_enter Tryd.func58, Tryd.ntmps58
                go_wp2_with fail
                go_ret
                exact ⟨rfl, HB.out⟩
            · have hd0 : (n == 0) = false := by simp; omega
              clear IH HS HNN HOK
              obtain rfl : b = false := by rw [HV.out]; simp [*]
              go_enter Tryd.func58, Tryd.ntmps58
              go_wp2_with fail
              go_ret
              exact ⟨rfl, HB.out⟩
          · have hf : b = false := by
              have := HOK.out
              rw [okB, if_neg hk1, if_neg hk2, if_neg hk3, if_neg (by omega)] at this
              exact this.symm
            subst hf
            have e1 : (k == 1) = false := by simp; omega
            have e2 : (k == 2) = false := by simp; omega
            have e3 : (k == 3) = false := by simp; omega
            have e4 : (k == 4) = false := by simp; omega
            have e5 : (k == 5) = false := by simp; omega
            clear IH HS HNN HOK
            go_enter Tryd.func58, Tryd.ntmps58
            go_wp2_with fail
            go_ret
            exact ⟨rfl, HB.out⟩

set_option maxRecDepth 100000 in
set_option maxHeartbeats 2000000 in
theorem right_any (t : Lv) (v : Value) (n : Int) (w : World) (hv : LvV w t v) (hm : nodes t ≤ 100000) (b : Bool) (hb : rightB n t = b) :
    Calls Tryd.prog 46 #[v, .int .i64 n] w (Ret w (.bool b)) := by
  obtain ⟨s, rfl, hs⟩ := hv
  have HLS := Lib.hid (show LvV w t _ from ⟨s, rfl, hs⟩)
  have HM := Lib.hid hm
  obtain ⟨R, hR⟩ : ∃ R, min (nodes t) 65 = R := ⟨_, rfl⟩
  have HR := Lib.hid hR
  obtain ⟨r, hr⟩ : ∃ r, okB n t = r := ⟨_, rfl⟩
  have HOK := Lib.hid hr
  have HV : Hid (b = (decide (0 ≤ n) && decide (n ≤ 4) && decide (R ≤ 64) && r)) := by
    have : b = (decide (0 ≤ n) && decide (n ≤ 4) && decide (R ≤ 64) && r) := by
      rw [← hb, ← hr]
      unfold rightB
      rw [show decide (nodes t ≤ 64) = decide (R ≤ 64) from by simp only [decide_eq_decide]; omega]
    exact this
  generalize kindOf t = k at *
  generalize numOf t = nu at *
  clear hs hm hR hr hb
  obtain ⟨hb0, hb1, hb2⟩ := box_cells w (.int .i64 k) (.int .i64 nu) s 63
  have HB := Lib.hid (below_lit w (.cells #[.int .i64 k, .int .i64 nu, s] 63))
  have hsz : w.heap.size < (w.alloc (.cells #[.int .i64 k, .int .i64 nu, s] 63)).heap.size := by simp
  by_cases hn0 : 0 ≤ n
  · have hd0 : decide ((0 : Int) ≤ n) = true := by simp; omega
    by_cases hn1 : n ≤ (4 : Int)
    · have hd1 : decide (n ≤ (4 : Int)) = true := by simp; omega
      have HV2 : Hid (b = (decide (R ≤ 64) && r)) := by
        have : b = (decide (R ≤ 64) && r) := by rw [HV.out]; simp [*]
        exact this
      clear HV
      go_enter Tryd.func46, Tryd.ntmps46
      go_wp2_with fail
      generalize w.alloc (.cells #[.int .i64 k, .int .i64 nu, s] 63) = W at *
      refine (nodes_is t _ W (HLS.out.below HB.out) HM.out R HR.out).mono ?_
      rintro e w2 ⟨rfl, hb9⟩
      have HB9 := Lib.hid (HB.out.trans (hb9.mono HB.out.size))
      have c0 := (hb9.cell (p := ⟨w.heap.size, 0, none⟩) hsz).trans hb0
      have c1 := (hb9.cell (p := ⟨w.heap.size, 1, none⟩) hsz).trans hb1
      have c2 := (hb9.cell (p := ⟨w.heap.size, 2, none⟩) hsz).trans hb2
      clear hb9 hb0 hb1 hb2
      by_cases hR : R ≤ 64
      · have hd2 : decide ((R : Int) ≤ 64) = true := by simp; omega
        have HF : Hid (b = r) := by
          have : b = r := by rw [HV2.out]; simp [hR]
          exact this
        go_wp2_with fail
        refine (fits_up n (nodes t) t _ w2 r (Nat.le_refl _) (HLS.out.below HB9.out) HOK.out).mono ?_
        rintro e w3 ⟨rfl, hb9⟩
        have HB3 := Lib.hid (HB9.out.trans (hb9.mono HB9.out.size))
        clear hb9
        go_wp2_with fail
        go_ret
        exact ⟨by rw [HF.out]; rfl, HB3.out⟩
      · have hd2 : decide ((R : Int) ≤ 64) = false := by simp; omega
        have HF : Hid (b = false) := by
          have : b = false := by rw [HV2.out]; simp [hR]
          exact this
        go_wp2_with fail
        go_ret
        exact ⟨by rw [HF.out]; rfl, HB9.out⟩
    · have hd1 : decide (n ≤ (4 : Int)) = false := by simp; omega
      obtain rfl : b = false := by rw [HV.out]; simp [*]
      go_enter Tryd.func46, Tryd.ntmps46
      go_wp2_with fail
      go_ret
      exact ⟨rfl, HB.out⟩
  · have hd0 : decide ((0 : Int) ≤ n) = false := by simp; omega
    obtain rfl : b = false := by rw [HV.out]; simp [*]
    go_enter Tryd.func46, Tryd.ntmps46
    go_wp2_with fail
    go_ret
    exact ⟨rfl, HB.out⟩
end Go.Proofs.YtlijdgamobpndaaDoor
