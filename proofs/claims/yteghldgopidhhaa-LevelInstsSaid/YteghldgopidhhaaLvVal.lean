/-
  The contracts of the reference's functions value, Right and Value.
  Conditions: the level and the parameters' numbers lie in memory as told by 'LvV', 'NSl'.
-/
import Derived.Test.YteghldgopidhhaaLvRight
import Derived.Test.YteghldgopidhhaaInts
namespace Go.Proofs.Yteghldgopidhhaa
open Go.RowKit
open Lvl

/-- The parameters' numbers, as they count. -/
def parF (zs : List Int) (i : Nat) : Nat := match zs[i]? with
  | none => 0
  | some z => min z.toNat 1048576
theorem parF_le (zs : List Int) (i : Nat) : parF zs i ≤ 1048576 := by
  unfold parF
  split <;> omega
theorem val_le {f : Nat → Nat} {B : Nat} (hf : ∀ i, f i ≤ B) (hB : 100 ≤ B) {m : Nat} : ∀ (x : L), Ok m x → val f x ≤ B + size x
  | .num n, h => by have : n ≤ 100 := h; simp only [val, size]; omega
  | .par i, _ => by have := hf i; simp only [val, size]; omega
  | .succ a, h => by have := val_le hf hB a h; simp only [val, size]; omega
  | .max a b, h => by
    have h1 := val_le hf hB a h.1
    have h2 := val_le hf hB b h.2
    simp only [val, size]; omega
  | .imax a b, h => by
    have h1 := val_le hf hB a h.1
    have h2 := val_le hf hB b h.2
    simp only [val, size]
    split <;> omega

set_option maxRecDepth 100000 in
set_option maxHeartbeats 4000000 in
theorem refValue_is (zs : List Int) (S : Value) {m : Nat} {t : Lv} {x : L} (h : IsL (m : Int) t x) : ∀ (v : Value) (w : World), LvV w t v → NSl w S zs → zs.length ≤ 140737488355328 → size x ≤ 1000 →
    Calls Try.prog 31 #[v, S] w (Ret w (.int .i64 (val (parF zs) x))) := by
  induction h with
  | num n hn =>
    intro v w hv _ _ _
    obtain ⟨s, rfl, hs⟩ := hv
    rw [LvS] at hs
    obtain ⟨A, len, cap, rfl, h1, h2, h2b, h3, h4⟩ := hs
    have HB := Lib.hid (below_lit w (.cells #[.int .i64 1, .int .i64 (n : Int), .slice A len cap] 24))
    clear h4 h1 h3
    show Calls Try.prog 31 #[.agg #[.int .i64 1, .int .i64 n, .slice A len cap], S] w (Ret w (.int .i64 n))
    go_enter Try.func31, Try.ntmps31
    go_wp2_with fail
    go_ret
    exact ⟨rfl, HB.out⟩
  | par i hi =>
    intro v w hv hS hl _
    obtain ⟨s, rfl, hs⟩ := hv
    obtain ⟨B, n, c, rfl, hN, hc, hA, hx⟩ := hS
    rw [LvS] at hs
    obtain ⟨A, len, cap, rfl, h1, h2, h2b, h3, h4⟩ := hs
    have HB := Lib.hid (below_lit w (.cells #[.int .i64 2, .int .i64 (i : Int), .slice A len cap] 24))
    have HX := Lib.hid (hx.below HB.out)
    have HN := Lib.hid hN
    have hn : n ≤ 140737488355328 := by rw [← hN]; exact hl
    clear h4 h1 h3 hx hA hN hl
    obtain ⟨R, hR⟩ : ∃ R, parF zs i = R := ⟨_, rfl⟩
    have HR := Lib.hid hR
    show Calls Try.prog 31 #[.agg #[.int .i64 2, .int .i64 i, .slice A len cap], .slice B n c] w (Ret w (.int .i64 (parF zs i)))
    rw [hR]
    clear hR
    by_cases hin : i < n
    · have hx1 : i < zs.length := by rw [HN.out]; exact hin
      obtain ⟨b, o, rfl, hb, hcell⟩ := HX.out.at_ hx1
      have hpf : parF zs i = min (zs[i]).toNat 1048576 := by unfold parF; rw [List.getElem?_eq_getElem hx1]
      have hd0 : decide ((n : Int) ≤ (i : Int)) = false := by simp; omega
      generalize zs[i] = z at *
      by_cases hneg : z < 0
      · have hd1 : decide (z < 0) = true := by simp; omega
        have hf : R = 0 := by rw [← HR.out, hpf]; omega
        subst hf
        clear hpf
        go_enter Try.func31, Try.ntmps31
        go_wp2_with fail
        go_ret
        exact ⟨rfl, HB.out⟩
      · have hd1 : decide (z < 0) = false := by simp; omega
        by_cases hbig : z ≤ 1048576
        · have hf : (R : Int) = z := by rw [← HR.out, hpf]; omega
          have HF := Lib.hid hf
          clear hpf hf
          go_enter Try.func31, Try.ntmps31
          go_wp2_with fail
          go_ret
          exact ⟨by rw [HF.out]; rfl, HB.out⟩
        · have hf : R = 1048576 := by rw [← HR.out, hpf]; omega
          have HF := Lib.hid hf
          have hbi : (1048576 : Int) < z := by omega
          clear hpf hf
          go_enter Try.func31, Try.ntmps31
          go_wp2_with fail
          go_ret
          exact ⟨by rw [HF.out]; rfl, HB.out⟩
    · have hd0 : decide ((n : Int) ≤ (i : Int)) = true := by simp; omega
      have hf : R = 0 := by
        rw [← HR.out]
        unfold parF
        rw [List.getElem?_eq_none (by rw [HN.out]; omega)]
      subst hf
      go_enter Try.func31, Try.ntmps31
      go_wp2_with fail
      go_ret
      exact ⟨rfl, HB.out⟩
  | succ ha ih =>
    rename_i a x
    intro v w hv hS hl hsz
    obtain ⟨s, rfl, hs⟩ := hv
    rw [LvS] at hs
    obtain ⟨A, len, cap, rfl, h1, h2, h2b, h3, h4⟩ := hs
    obtain rfl : 1 = len := h1
    have hB := below_lit w (.cells #[.int .i64 3, .int .i64 0, .slice A 1 cap] 24)
    have HB := Lib.hid hB
    obtain ⟨b, o, s, rfl, hbs, hc0, hc1, hc2, hls⟩ := lsV_get (lsV_below hB _ _ _ h4) 0 (by simp)
    have HLS : Hid (LvV (w.alloc (.cells #[.int .i64 3, .int .i64 0, .slice (some ⟨b, o, none⟩) 1 cap] 24)) a (.agg #[.int .i64 (kindOf a), .int .i64 (numOf a), s])) := ⟨s, rfl, hls⟩
    have HSS := Lib.hid (hS.below hB)
    have HV := Lib.hid (val_le (parF_le zs) (by omega) x (isL_ok ha))
    have hsx : size x ≤ 1000 := by simp only [size] at hsz; omega
    have IH := Lib.hid ih
    simp only [Nat.zero_mul, Nat.add_zero, List.getElem_cons_zero] at hc0 hc1 hc2
    show Calls Try.prog 31 #[.agg #[.int .i64 3, .int .i64 0, .slice (some ⟨b, o, none⟩) 1 cap], S] w (Ret w (.int .i64 ((val (parF zs) x + 1 : Nat) : Int)))
    clear h4 h3 hB hls hS ih hsz
    go_enter Try.func31, Try.ntmps31
    go_wp2_with fail
    refine (IH.out _ _ HLS.out HSS.out hl hsx).mono ?_
    rintro e w2 ⟨rfl, hb2⟩
    have HB2 := Lib.hid (HB.out.trans (hb2.mono HB.out.size))
    have hv := HV.out
    generalize val (parF zs) x = V at *
    clear hb2 HLS HSS
    go_wp2_with fail
    go_ret
    exact ⟨rfl, HB2.out⟩
  | max ha hb iha ihb =>
    rename_i a b x y
    intro v w hv hS hl hsz
    obtain ⟨s, rfl, hs⟩ := hv
    rw [LvS] at hs
    obtain ⟨A, len, cap, rfl, h1, h2, h2b, h3, h4⟩ := hs
    obtain rfl : 2 = len := h1
    have hB := below_lit w (.cells #[.int .i64 4, .int .i64 0, .slice A 2 cap] 24)
    obtain ⟨hx0, _, hx2⟩ := box_cells w (.int .i64 4) (.int .i64 0) (.slice A 2 cap) 24
    have hsz0 : w.heap.size < (w.alloc (.cells #[.int .i64 4, .int .i64 0, .slice A 2 cap] 24)).heap.size := by simp
    have HSS := Lib.hid (hS.below hB)
    have HL4 := Lib.hid (lsV_below hB _ _ _ h4)
    have HB := Lib.hid hB
    have HVX := Lib.hid (val_le (parF_le zs) (by omega) x (isL_ok ha))
    have HVY := Lib.hid (val_le (parF_le zs) (by omega) y (isL_ok hb))
    have hsx : size x ≤ 1000 := by simp only [size] at hsz; omega
    have hsy : size y ≤ 1000 := by simp only [size] at hsz; omega
    have IHA := Lib.hid iha
    have IHB := Lib.hid ihb
    obtain ⟨R, hR⟩ : ∃ R, val (parF zs) (.max x y) = R := ⟨_, rfl⟩
    have HR := Lib.hid hR
    rw [hR]
    clear hR
    show Calls Try.prog 31 #[.agg #[.int .i64 4, .int .i64 0, .slice A 2 cap], S] w (Ret w (.int .i64 R))
    clear h4 h3 hB hS iha ihb hsz
    go_enter Try.func31, Try.ntmps31
    obtain ⟨bk, o, s1, rfl, hbs, hc0, hc1, hc2, hls1⟩ := lsV_get HL4.out 1 (by simp)
    obtain ⟨bk', o', s0, e0, _, hd0, hd1, hd2, hls0⟩ := lsV_get HL4.out 0 (by simp)
    cases e0
    simp only [Nat.zero_mul, Nat.one_mul, Nat.add_zero, List.getElem_cons_zero, List.getElem_cons_succ] at hc0 hc1 hc2 hd0 hd1 hd2
    change World.cell? _ ⟨bk, o + 4, none⟩ = _ at hc1
    change World.cell? _ ⟨bk, o + 5, none⟩ = _ at hc2
    have HLS1 := Lib.hid (show LvV _ b (.agg #[.int .i64 (kindOf b), .int .i64 (numOf b), s1]) from ⟨s1, rfl, hls1⟩)
    have HLS0 := Lib.hid (show LvV _ a (.agg #[.int .i64 (kindOf a), .int .i64 (numOf a), s0]) from ⟨s0, rfl, hls0⟩)
    clear hls1 hls0
    go_wp2_with fail
    refine (IHB.out _ _ HLS1.out HSS.out hl hsy).mono ?_
    rintro e w2 ⟨rfl, hb2⟩
    have HB2 := Lib.hid (HB.out.trans (hb2.mono HB.out.size))
    have hx0' := (hb2.cell (p := ⟨w.heap.size, 0, none⟩) hsz0).trans hx0
    have hx2' := (hb2.cell (p := ⟨w.heap.size, 2, none⟩) hsz0).trans hx2
    have hd0' := (hb2.cell (p := ⟨bk, _, none⟩) hbs).trans hd0
    have hd1' := (hb2.cell (p := ⟨bk, _, none⟩) hbs).trans hd1
    have hd2' := (hb2.cell (p := ⟨bk, _, none⟩) hbs).trans hd2
    have HLS0' := Lib.hid (HLS0.out.below hb2)
    have HSS' := Lib.hid (HSS.out.below hb2)
    have hvx := HVX.out
    have hvy := HVY.out
    clear hb2 hx0 hx2 hc0 hc1 hc2 hd0 hd1 hd2 HLS0 HLS1 HSS HL4 hsz0 hbs
    have HV0 : Hid (R = max (val (parF zs) x) (val (parF zs) y)) := HR.out.symm
    clear HR
    go_wp2_with fail
    refine (IHA.out _ _ HLS0'.out HSS'.out hl hsx).mono ?_
    rintro e w3 ⟨rfl, hb3⟩
    have HB3 := Lib.hid (HB2.out.trans (hb3.mono HB2.out.size))
    clear hb3 hx0' hx2' hd0' hd1' hd2'
    generalize val (parF zs) x = X at *
    generalize val (parF zs) y = Y at *
    by_cases hle : X < Y
    · have hli : (X : Int) < (Y : Int) := by omega
      have HM : Hid (R = Y) := by
        have := HV0.out
        have : R = Y := by omega
        exact this
      go_wp2_with fail
      go_ret
      exact ⟨by rw [HM.out]; rfl, HB3.out⟩
    · have hli : (Y : Int) ≤ (X : Int) := by omega
      have HM : Hid (R = X) := by
        have := HV0.out
        have : R = X := by omega
        exact this
      go_wp2_with fail
      go_ret
      exact ⟨by rw [HM.out]; rfl, HB3.out⟩
  | imax ha hb iha ihb =>
    rename_i a b x y
    intro v w hv hS hl hsz
    obtain ⟨s, rfl, hs⟩ := hv
    rw [LvS] at hs
    obtain ⟨A, len, cap, rfl, h1, h2, h2b, h3, h4⟩ := hs
    obtain rfl : 2 = len := h1
    have hB := below_lit w (.cells #[.int .i64 5, .int .i64 0, .slice A 2 cap] 24)
    obtain ⟨hx0, _, hx2⟩ := box_cells w (.int .i64 5) (.int .i64 0) (.slice A 2 cap) 24
    have hsz0 : w.heap.size < (w.alloc (.cells #[.int .i64 5, .int .i64 0, .slice A 2 cap] 24)).heap.size := by simp
    have HSS := Lib.hid (hS.below hB)
    have HL4 := Lib.hid (lsV_below hB _ _ _ h4)
    have HB := Lib.hid hB
    have HVX := Lib.hid (val_le (parF_le zs) (by omega) x (isL_ok ha))
    have HVY := Lib.hid (val_le (parF_le zs) (by omega) y (isL_ok hb))
    have hsx : size x ≤ 1000 := by simp only [size] at hsz; omega
    have hsy : size y ≤ 1000 := by simp only [size] at hsz; omega
    have IHA := Lib.hid iha
    have IHB := Lib.hid ihb
    obtain ⟨R, hR⟩ : ∃ R, val (parF zs) (.imax x y) = R := ⟨_, rfl⟩
    have HR := Lib.hid hR
    rw [hR]
    clear hR
    show Calls Try.prog 31 #[.agg #[.int .i64 5, .int .i64 0, .slice A 2 cap], S] w (Ret w (.int .i64 R))
    clear h4 h3 hB hS iha ihb hsz
    go_enter Try.func31, Try.ntmps31
    obtain ⟨bk, o, s1, rfl, hbs, hc0, hc1, hc2, hls1⟩ := lsV_get HL4.out 1 (by simp)
    obtain ⟨bk', o', s0, e0, _, hd0, hd1, hd2, hls0⟩ := lsV_get HL4.out 0 (by simp)
    cases e0
    simp only [Nat.zero_mul, Nat.one_mul, Nat.add_zero, List.getElem_cons_zero, List.getElem_cons_succ] at hc0 hc1 hc2 hd0 hd1 hd2
    change World.cell? _ ⟨bk, o + 4, none⟩ = _ at hc1
    change World.cell? _ ⟨bk, o + 5, none⟩ = _ at hc2
    have HLS1 := Lib.hid (show LvV _ b (.agg #[.int .i64 (kindOf b), .int .i64 (numOf b), s1]) from ⟨s1, rfl, hls1⟩)
    have HLS0 := Lib.hid (show LvV _ a (.agg #[.int .i64 (kindOf a), .int .i64 (numOf a), s0]) from ⟨s0, rfl, hls0⟩)
    clear hls1 hls0
    go_wp2_with fail
    refine (IHB.out _ _ HLS1.out HSS.out hl hsy).mono ?_
    rintro e w2 ⟨rfl, hb2⟩
    have HB2 := Lib.hid (HB.out.trans (hb2.mono HB.out.size))
    have hx0' := (hb2.cell (p := ⟨w.heap.size, 0, none⟩) hsz0).trans hx0
    have hx2' := (hb2.cell (p := ⟨w.heap.size, 2, none⟩) hsz0).trans hx2
    have hd0' := (hb2.cell (p := ⟨bk, _, none⟩) hbs).trans hd0
    have hd1' := (hb2.cell (p := ⟨bk, _, none⟩) hbs).trans hd1
    have hd2' := (hb2.cell (p := ⟨bk, _, none⟩) hbs).trans hd2
    have HLS0' := Lib.hid (HLS0.out.below hb2)
    have HSS' := Lib.hid (HSS.out.below hb2)
    have hvx := HVX.out
    have hvy := HVY.out
    clear hb2 hx0 hx2 hc0 hc1 hc2 hd0 hd1 hd2 HLS0 HLS1 HSS HL4 hsz0 hbs
    by_cases hz : val (parF zs) y = 0
    · have HV0 : Hid (R = 0) := by
        rw [← HR.out]
        show (if val (parF zs) y = 0 then 0 else max (val (parF zs) x) (val (parF zs) y)) = 0
        rw [if_pos hz]
      have hd : decide ((val (parF zs) y : Int) = 0) = true := by rw [hz]; rfl
      rw [hz]
      clear hz hd HR
      go_wp2_with fail
      go_ret
      exact ⟨by rw [HV0.out]; rfl, HB2.out⟩
    · have hd : decide (((val (parF zs) y : Nat) : Int) = 0) = false := by simp; omega
      have HV0 : Hid (R = max (val (parF zs) x) (val (parF zs) y)) := by
        rw [← HR.out]
        show (if val (parF zs) y = 0 then 0 else max (val (parF zs) x) (val (parF zs) y)) = _
        rw [if_neg hz]
      clear HR
      go_wp2_with fail
      refine (IHA.out _ _ HLS0'.out HSS'.out hl hsx).mono ?_
      rintro e w3 ⟨rfl, hb3⟩
      have HB3 := Lib.hid (HB2.out.trans (hb3.mono HB2.out.size))
      clear hb3 hx0' hx2' hd0' hd1' hd2'
      generalize val (parF zs) x = X at *
      generalize val (parF zs) y = Y at *
      by_cases hle : X < Y
      · have hli : (X : Int) < (Y : Int) := by omega
        have HM : Hid (R = Y) := by
          have := HV0.out
          have : R = Y := by omega
          exact this
        go_wp2_with fail
        go_ret
        exact ⟨by rw [HM.out]; rfl, HB3.out⟩
      · have hli : (Y : Int) ≤ (X : Int) := by omega
        have HM : Hid (R = X) := by
          have := HV0.out
          have : R = X := by omega
          exact this
        go_wp2_with fail
        go_ret
        exact ⟨by rw [HM.out]; rfl, HB3.out⟩
/-- Is a level right for so many parameters? -/
def rightB (n : Int) (t : Lv) : Bool := decide (0 ≤ n) && decide (n ≤ 4) && decide (nodes t ≤ 64) && okB n t
theorem rightB_is {t : Lv} (h : rightB 4 t = true) : nodes t ≤ 64 ∧ ∃ x, IsL 4 t x := by
  unfold rightB at h
  simp at h
  exact ⟨h.1, okB_is t h.2⟩
set_option maxRecDepth 100000 in
set_option maxHeartbeats 2000000 in
theorem refRight_any (t : Lv) (v : Value) (n : Int) (w : World) (hv : LvV w t v) (b : Bool) (hb : rightB n t = b) :
    Calls Try.prog 14 #[v, .int .i64 n] w (Ret w (.bool b)) := by
  obtain ⟨s, rfl, hs⟩ := hv
  have HB0 := Lib.hid (below_lit w (.cells #[.int .i64 (kindOf t), .int .i64 (numOf t), s] 24))
  obtain ⟨hx0, hx1, hx2⟩ := box_cells w (.int .i64 (kindOf t)) (.int .i64 (numOf t)) s 24
  have hsz0 : w.heap.size < (w.alloc (.cells #[.int .i64 (kindOf t), .int .i64 (numOf t), s] 24)).heap.size := by simp
  have HV := Lib.hid ((show LvV w t _ from ⟨s, rfl, hs⟩).below HB0.out)
  obtain ⟨R, hR⟩ : ∃ R, min (nodes t) (64 + 1) = R := ⟨_, rfl⟩
  have HR := Lib.hid hR
  have HBB := Lib.hid hb
  clear hs hb hR
  by_cases h0 : 0 ≤ n
  · have hd0 : decide ((0 : Int) ≤ n) = true := by simp; omega
    by_cases h4 : n ≤ 4
    · have hd4 : decide (n ≤ (4 : Int)) = true := by simp; omega
      by_cases h64 : R ≤ 64
      · have hd6 : decide ((R : Int) ≤ 64) = true := by simp; omega
        have HOK : Hid (okB n t = b) := by
          have h1 : nodes t ≤ 64 := by have := HR.out; omega
          rw [← HBB.out]
          unfold rightB
          rw [decide_eq_true h0, decide_eq_true h4, decide_eq_true h1]
          rfl
        go_enter Try.func14, Try.ntmps14
        go_wp2_with fail
        refine (levelNodes_is t _ 64 _ HV.out (by omega) R HR.out).mono ?_
        rintro e w1 ⟨rfl, hb1⟩
        have HB1 := Lib.hid (HB0.out.trans (hb1.mono HB0.out.size))
        have HV1 := Lib.hid (HV.out.below hb1)
        have hx0' := (hb1.cell (p := ⟨w.heap.size, 0, none⟩) hsz0).trans hx0
        have hx1' := (hb1.cell (p := ⟨w.heap.size, 1, none⟩) hsz0).trans hx1
        have hx2' := (hb1.cell (p := ⟨w.heap.size, 2, none⟩) hsz0).trans hx2
        clear hb1
        go_wp2_with fail
        refine (refRight_up n (nodes t) t _ _ b (Nat.le_refl _) HV1.out HOK.out).mono ?_
        rintro e w2 ⟨rfl, hb2⟩
        have HB2 := Lib.hid (HB1.out.trans (hb2.mono HB1.out.size))
        clear hb2
        go_wp2_with fail
        go_ret
        exact ⟨rfl, HB2.out⟩
      · have hd6 : decide ((R : Int) ≤ 64) = false := by simp; omega
        obtain rfl : b = false := by
          have h1 : ¬ nodes t ≤ 64 := by have := HR.out; omega
          rw [← HBB.out]
          unfold rightB
          rw [decide_eq_false h1]
          simp
        go_enter Try.func14, Try.ntmps14
        go_wp2_with fail
        refine (levelNodes_is t _ 64 _ HV.out (by omega) R HR.out).mono ?_
        rintro e w1 ⟨rfl, hb1⟩
        have HB1 := Lib.hid (HB0.out.trans (hb1.mono HB0.out.size))
        clear hb1
        go_wp2_with fail
        go_ret
        exact ⟨rfl, HB1.out⟩
    · have hd4 : decide (n ≤ (4 : Int)) = false := by simp; omega
      obtain rfl : b = false := by
        rw [← HBB.out]
        unfold rightB
        rw [decide_eq_false h4]
        simp
      go_enter Try.func14, Try.ntmps14
      go_wp2_with fail
      go_ret
      exact ⟨rfl, HB0.out⟩
  · have hd0 : decide ((0 : Int) ≤ n) = false := by simp; omega
    obtain rfl : b = false := by
      rw [← HBB.out]
      unfold rightB
      rw [decide_eq_false h0]
      simp
    go_enter Try.func14, Try.ntmps14
    go_wp2_with fail
    go_ret
    exact ⟨rfl, HB0.out⟩

/-- A level's value: 0 of one that isn't right for 4. -/
def ValIs (t : Lv) (zs : List Int) (R : Nat) : Prop := (rightB 4 t = false ∧ R = 0) ∨ (rightB 4 t = true ∧ ∃ x, IsL 4 t x ∧ R = val (parF zs) x)
theorem valIs_ex (t : Lv) (zs : List Int) : ∃ R, ValIs t zs R := by
  cases h : rightB 4 t
  · exact ⟨0, .inl ⟨h, rfl⟩⟩
  · obtain ⟨_, x, hx⟩ := rightB_is h
    exact ⟨_, .inr ⟨h, x, hx, rfl⟩⟩
theorem ValIs.one {t : Lv} {zs : List Int} {R R' : Nat} (h : ValIs t zs R) (h' : ValIs t zs R') : R = R' := by
  rcases h with ⟨h1, h2⟩ | ⟨h1, x, hx, h2⟩ <;> rcases h' with ⟨h1', h2'⟩ | ⟨h1', x', hx', h2'⟩
  · rw [h2, h2']
  · rw [h1] at h1'; cases h1'
  · rw [h1] at h1'; cases h1'
  · rw [h2, h2', isL_one hx hx']
set_option maxRecDepth 100000 in
set_option maxHeartbeats 2000000 in
theorem refValue_any (t : Lv) (v S : Value) (zs : List Int) (w : World) (hv : LvV w t v) (hS : NSl w S zs) (hl : zs.length ≤ 140737488355328) (R : Nat) (hR : ValIs t zs R) :
    Calls Try.prog 16 #[v, S] w (Ret w (.int .i64 R)) := by
  obtain ⟨s, rfl, hs⟩ := hv
  have HB0 := Lib.hid (below_lit w (.cells #[.int .i64 (kindOf t), .int .i64 (numOf t), s] 24))
  obtain ⟨hx0, hx1, hx2⟩ := box_cells w (.int .i64 (kindOf t)) (.int .i64 (numOf t)) s 24
  have hsz0 : w.heap.size < (w.alloc (.cells #[.int .i64 (kindOf t), .int .i64 (numOf t), s] 24)).heap.size := by simp
  have HV := Lib.hid ((show LvV w t _ from ⟨s, rfl, hs⟩).below HB0.out)
  have HS := Lib.hid (hS.below HB0.out)
  clear hs hS
  rcases hR with ⟨hr, rfl⟩ | ⟨hr, x, hx, rfl⟩
  · have HR := Lib.hid hr
    clear hr
    go_enter Try.func16, Try.ntmps16
    go_wp2_with fail
    refine (refRight_any t _ 4 _ HV.out false HR.out).mono ?_
    rintro e w1 ⟨rfl, hb1⟩
    have HB1 := Lib.hid (HB0.out.trans (hb1.mono HB0.out.size))
    clear hb1
    go_wp2_with fail
    go_ret
    exact ⟨rfl, HB1.out⟩
  · have HR := Lib.hid hr
    have HX := Lib.hid hx
    have hsz : size x ≤ 1000 := by rw [← isL_nodes hx]; have := (rightB_is hr).1; omega
    obtain ⟨q, hq⟩ : ∃ q, val (parF zs) x = q := ⟨_, rfl⟩
    have HQ := Lib.hid hq
    rw [hq]
    clear hr hx hq
    go_enter Try.func16, Try.ntmps16
    go_wp2_with fail
    refine (refRight_any t _ 4 _ HV.out true HR.out).mono ?_
    rintro e w1 ⟨rfl, hb1⟩
    have HB1 := Lib.hid (HB0.out.trans (hb1.mono HB0.out.size))
    have HV1 := Lib.hid (HV.out.below hb1)
    have hx0' := (hb1.cell (p := ⟨w.heap.size, 0, none⟩) hsz0).trans hx0
    have hx1' := (hb1.cell (p := ⟨w.heap.size, 1, none⟩) hsz0).trans hx1
    have hx2' := (hb1.cell (p := ⟨w.heap.size, 2, none⟩) hsz0).trans hx2
    have HS1 := Lib.hid (HS.out.below hb1)
    clear hb1
    go_wp2_with fail
    refine (refValue_is zs S (m := 4) HX.out _ _ HV1.out HS1.out hl hsz).mono ?_
    rintro e w2 ⟨rfl, hb2⟩
    rw [HQ.out]
    have HB2 := Lib.hid (HB1.out.trans (hb2.mono HB1.out.size))
    clear hb2
    go_wp2_with fail
    go_ret
    exact ⟨rfl, HB2.out⟩
end Go.Proofs.Yteghldgopidhhaa
