/-
  The contracts of the program's functions number, value and Value.
  Conditions: the level and the parameters' numbers lie in memory as told by 'LvV', 'NSl'.
-/
import Derived.Test.YteghldgopidhhaaLvFits
import Derived.Deep.RegionHeld3
namespace Go.Proofs.Yteghldgopidhhaa
open Go.RowKit
open Lvl

set_option maxRecDepth 100000 in
set_option maxHeartbeats 2000000 in
theorem number_is (zs : List Int) (S : Value) (i : Nat) (w : World) (hS : NSl w S zs) (hl : zs.length ≤ 140737488355328) (R : Nat) (hR : parF zs i = R) :
    Calls Try.prog 46 #[.int .i64 i, S] w (Ret w (.int .i64 R)) := by
  obtain ⟨B, n, c, rfl, hN, hc, hA, hx⟩ := hS
  have HX := Lib.hid hx
  have HN := Lib.hid hN
  have HR := Lib.hid hR
  have hn : n ≤ 140737488355328 := by rw [← hN]; exact hl
  clear hx hA hN hl hR
  by_cases hin : i < n
  · have hx1 : i < zs.length := by rw [HN.out]; exact hin
    obtain ⟨b, o, rfl, hb, hcell⟩ := HX.out.at_ hx1
    have hpf : parF zs i = min (zs[i]).toNat 1048576 := by unfold parF; rw [List.getElem?_eq_getElem hx1]
    have hd0 : decide ((n : Int) ≤ (i : Int)) = false := by simp; omega
    generalize zs[i] = z at *
    by_cases hneg : z < 0
    · have hf : R = 0 := by rw [← HR.out, hpf]; omega
      subst hf
      clear hpf
      go_enter Try.func46, Try.ntmps46
      go_wp2_with fail
      go_ret
      exact ⟨rfl, Below.refl _ _⟩
    · by_cases hbig : z ≤ 1048576
      · have hf : (R : Int) = z := by rw [← HR.out, hpf]; omega
        have HF := Lib.hid hf
        have hz0 : (0 : Int) ≤ z := by omega
        clear hpf hf
        go_enter Try.func46, Try.ntmps46
        go_wp2_with fail
        go_ret
        exact ⟨by rw [HF.out]; rfl, Below.refl _ _⟩
      · have hf : R = 1048576 := by rw [← HR.out, hpf]; omega
        have HF := Lib.hid hf
        have hz0 : (0 : Int) ≤ z := by omega
        have hbi : (1048576 : Int) < z := by omega
        clear hpf hf
        go_enter Try.func46, Try.ntmps46
        go_wp2_with fail
        go_ret
        exact ⟨by rw [HF.out]; rfl, Below.refl _ _⟩
  · have hd0 : decide ((n : Int) ≤ (i : Int)) = true := by simp; omega
    have hf : R = 0 := by
      rw [← HR.out]
      unfold parF
      rw [List.getElem?_eq_none (by rw [HN.out]; omega)]
    subst hf
    go_enter Try.func46, Try.ntmps46
    go_wp2_with fail
    go_ret
    exact ⟨rfl, Below.refl _ _⟩

set_option maxRecDepth 100000 in
set_option maxHeartbeats 4000000 in
theorem value_is (zs : List Int) (S : Value) {m : Nat} {t : Lv} {x : L} (h : IsL (m : Int) t x) : ∀ (v : Value) (w : World), LvV w t v → NSl w S zs → zs.length ≤ 140737488355328 → size x ≤ 1000 →
    Calls Try.prog 34 #[v, S] w (Ret w (.int .i64 (val (parF zs) x))) := by
  induction h with
  | num n hn =>
    intro v w hv _ _ _
    obtain ⟨s, rfl, hs⟩ := hv
    rw [LvS] at hs
    obtain ⟨A, len, cap, rfl, h1, h2, h2b, h3, h4⟩ := hs
    have HB := Lib.hid (below_lit w (.cells #[.int .i64 1, .int .i64 (n : Int), .slice A len cap] 24))
    clear h4 h1 h3
    show Calls Try.prog 34 #[.agg #[.int .i64 1, .int .i64 n, .slice A len cap], S] w (Ret w (.int .i64 n))
    go_enter Try.func34, Try.ntmps34
    go_wp2_with fail
    go_ret
    exact ⟨rfl, HB.out⟩
  | par i hi =>
    intro v w hv hS hl _
    obtain ⟨s, rfl, hs⟩ := hv
    rw [LvS] at hs
    obtain ⟨A, len, cap, rfl, h1, h2, h2b, h3, h4⟩ := hs
    have HB := Lib.hid (below_lit w (.cells #[.int .i64 2, .int .i64 (i : Int), .slice A len cap] 24))
    have HSS := Lib.hid (hS.below HB.out)
    clear h4 h1 h3 hS
    show Calls Try.prog 34 #[.agg #[.int .i64 2, .int .i64 i, .slice A len cap], S] w (Ret w (.int .i64 (parF zs i)))
    obtain ⟨R, hR⟩ : ∃ R, parF zs i = R := ⟨_, rfl⟩
    have HR := Lib.hid hR
    rw [hR]
    clear hR
    go_enter Try.func34, Try.ntmps34
    go_wp2_with fail
    refine (number_is zs S i _ HSS.out hl R HR.out).mono ?_
    rintro e w2 ⟨rfl, hb2⟩
    have HB2 := Lib.hid (HB.out.trans (hb2.mono HB.out.size))
    clear hb2 HSS
    go_wp2_with fail
    go_ret
    exact ⟨rfl, HB2.out⟩
  | succ ha ih =>
    rename_i a x
    intro v w hv hS hl hsz
    obtain ⟨s, rfl, hs⟩ := hv
    rw [LvS] at hs
    obtain ⟨A, len, cap, rfl, h1, h2, h2b, h3, h4⟩ := hs
    obtain rfl : 1 = len := h1
    have hB := below_lit w (.cells #[.int .i64 3, .int .i64 0, .slice A 1 cap] 24)
    have HB := Lib.hid hB
    obtain ⟨b, o, s, rfl, hbs, hc0, hc1, hc2, hls⟩ := lsV_get (lsV_below hB _ _ _ h4) 0 (by simp)
    have HLS : Hid (LvV (w.alloc (.cells #[.int .i64 3, .int .i64 0, .slice (some ⟨b, o, none⟩) 1 cap] 24)) a (.agg #[.int .i64 (kindOf a), .int .i64 (numOf a), s])) := ⟨s, rfl, hls⟩
    have HSS := Lib.hid (hS.below hB)
    have HV := Lib.hid (val_le (parF_le zs) (by omega) x (isL_ok ha))
    have hsx : size x ≤ 1000 := by simp only [size] at hsz; omega
    have IH := Lib.hid ih
    simp only [Nat.zero_mul, Nat.add_zero, List.getElem_cons_zero] at hc0 hc1 hc2
    show Calls Try.prog 34 #[.agg #[.int .i64 3, .int .i64 0, .slice (some ⟨b, o, none⟩) 1 cap], S] w (Ret w (.int .i64 ((val (parF zs) x + 1 : Nat) : Int)))
    clear h4 h3 hB hls hS ih hsz
    go_enter Try.func34, Try.ntmps34
    go_wp2_with fail
    refine (IH.out _ _ HLS.out HSS.out hl hsx).mono ?_
    rintro e w2 ⟨rfl, hb2⟩
    have HB2 := Lib.hid (HB.out.trans (hb2.mono HB.out.size))
    have hv := HV.out
    generalize val (parF zs) x = V at *
    clear hb2 HLS HSS
    go_wp2_with fail
    go_ret
    exact ⟨rfl, HB2.out⟩
  | max ha hb iha ihb =>
    rename_i a b x y
    intro v w hv hS hl hsz
    obtain ⟨s, rfl, hs⟩ := hv
    rw [LvS] at hs
    obtain ⟨A, len, cap, rfl, h1, h2, h2b, h3, h4⟩ := hs
    obtain rfl : 2 = len := h1
    have hB := below_lit w (.cells #[.int .i64 4, .int .i64 0, .slice A 2 cap] 24)
    obtain ⟨hx0, _, hx2⟩ := box_cells w (.int .i64 4) (.int .i64 0) (.slice A 2 cap) 24
    have hsz0 : w.heap.size < (w.alloc (.cells #[.int .i64 4, .int .i64 0, .slice A 2 cap] 24)).heap.size := by simp
    have HSS := Lib.hid (hS.below hB)
    have HL4 := Lib.hid (lsV_below hB _ _ _ h4)
    have HB := Lib.hid hB
    have HVX := Lib.hid (val_le (parF_le zs) (by omega) x (isL_ok ha))
    have HVY := Lib.hid (val_le (parF_le zs) (by omega) y (isL_ok hb))
    have hsx : size x ≤ 1000 := by simp only [size] at hsz; omega
    have hsy : size y ≤ 1000 := by simp only [size] at hsz; omega
    have IHA := Lib.hid iha
    have IHB := Lib.hid ihb
    obtain ⟨R, hR⟩ : ∃ R, val (parF zs) (.max x y) = R := ⟨_, rfl⟩
    have HR := Lib.hid hR
    rw [hR]
    clear hR
    show Calls Try.prog 34 #[.agg #[.int .i64 4, .int .i64 0, .slice A 2 cap], S] w (Ret w (.int .i64 R))
    clear h4 h3 hB hS iha ihb hsz
    go_enter Try.func34, Try.ntmps34
    obtain ⟨bk, o, s1, rfl, hbs, hc0, hc1, hc2, hls1⟩ := lsV_get HL4.out 1 (by simp)
    obtain ⟨bk', o', s0, e0, _, hd0, hd1, hd2, hls0⟩ := lsV_get HL4.out 0 (by simp)
    cases e0
    simp only [Nat.zero_mul, Nat.one_mul, Nat.add_zero, List.getElem_cons_zero, List.getElem_cons_succ] at hc0 hc1 hc2 hd0 hd1 hd2
    change World.cell? _ ⟨bk, o + 4, none⟩ = _ at hc1
    change World.cell? _ ⟨bk, o + 5, none⟩ = _ at hc2
    have HLS1 := Lib.hid (show LvV _ b (.agg #[.int .i64 (kindOf b), .int .i64 (numOf b), s1]) from ⟨s1, rfl, hls1⟩)
    have HLS0 := Lib.hid (show LvV _ a (.agg #[.int .i64 (kindOf a), .int .i64 (numOf a), s0]) from ⟨s0, rfl, hls0⟩)
    clear hls1 hls0
    generalize kindOf a = ka at *
    generalize numOf a = na at *
    generalize kindOf b = kb at *
    generalize numOf b = nb at *
    go_wp2_with fail
    generalize w.alloc (.cells #[.int .i64 4, .int .i64 0, .slice (some ⟨bk, o, none⟩) 2 cap] 24) = W at *
    have hkeep : Hid (∀ W', Below W.heap.size W W' → W'.cell? ⟨w.heap.size, 0, none⟩ = some (.int .i64 4) ∧ W'.cell? ⟨w.heap.size, 2, none⟩ = some (.slice (some ⟨bk, o, none⟩) 2 cap) ∧ W'.cell? ⟨bk, o, none⟩ = some (.int .i64 ka) ∧ W'.cell? ⟨bk, o + 1, none⟩ = some (.int .i64 na) ∧ W'.cell? ⟨bk, o + 2, none⟩ = some s0 ∧ W'.cell? ⟨bk, o + 3, none⟩ = some (.int .i64 kb) ∧ W'.cell? ⟨bk, o + 4, none⟩ = some (.int .i64 nb) ∧ W'.cell? ⟨bk, o + 5, none⟩ = some s1) := fun W' hb =>
      ⟨(hb.cell (p := ⟨w.heap.size, 0, none⟩) hsz0).trans hx0, (hb.cell (p := ⟨w.heap.size, 2, none⟩) hsz0).trans hx2, (hb.cell (p := ⟨bk, _, none⟩) hbs).trans hd0, (hb.cell (p := ⟨bk, _, none⟩) hbs).trans hd1, (hb.cell (p := ⟨bk, _, none⟩) hbs).trans hd2, (hb.cell (p := ⟨bk, _, none⟩) hbs).trans hc0, (hb.cell (p := ⟨bk, _, none⟩) hbs).trans hc1, (hb.cell (p := ⟨bk, _, none⟩) hbs).trans hc2⟩
    have F1 : Hid (∀ W', Below W.drew.heap.size W.drew W' → Below W.heap.size W W') := fun W' hb => (Below.refl _ _).drew.trans hb
    obtain ⟨X, hX⟩ : ∃ X, val (parF zs) x = X := ⟨_, rfl⟩
    obtain ⟨Y, hY⟩ : ∃ Y, val (parF zs) y = Y := ⟨_, rfl⟩
    have HX := Lib.hid hX
    have HY := Lib.hid hY
    have hvx := HVX.out
    have hvy := HVY.out
    rw [hX] at hvx
    rw [hY] at hvy
    have CX : Hid (∀ v w', LvV w' a v → NSl w' S zs → Calls Try.prog 34 #[v, S] w' (Ret w' (.int .i64 X))) := fun v w' h1 h2 => by
      have := IHA.out v w' h1 h2 hl hsx
      rwa [hX] at this
    have CY : Hid (∀ v w', LvV w' b v → NSl w' S zs → Calls Try.prog 34 #[v, S] w' (Ret w' (.int .i64 Y))) := fun v w' h1 h2 => by
      have := IHB.out v w' h1 h2 hl hsy
      rwa [hY] at this
    clear hX hY IHA IHB HVX HVY
    go_region_held3 (fun W' => W'.cell? ⟨w.heap.size, 0, none⟩ = some (.int .i64 4) ∧ W'.cell? ⟨w.heap.size, 2, none⟩ = some (.slice (some ⟨bk, o, none⟩) 2 cap) ∧ W'.cell? ⟨bk, o, none⟩ = some (.int .i64 ka) ∧ W'.cell? ⟨bk, o + 1, none⟩ = some (.int .i64 na) ∧ W'.cell? ⟨bk, o + 2, none⟩ = some s0 ∧ W'.cell? ⟨bk, o + 3, none⟩ = some (.int .i64 kb) ∧ W'.cell? ⟨bk, o + 4, none⟩ = some (.int .i64 nb) ∧ W'.cell? ⟨bk, o + 5, none⟩ = some s1) (first | exact hkeep.out _ ((Below.refl _ _).drew) | exact hkeep.out _ (F1.out _ hbA) | exact hkeep.out _ (F1.out _ hbB) | exact hkeep.out _ (F1.out _ (hbA.trans (hbB.mono hbA.size))) | exact hkeep.out _ (F1.out _ (hbB.trans (hbA.mono hbB.size)))) (first | (go_at_call 34; refine (CX.out _ _ ?_ ?_).mono ?_; (first | exact HLS0.out.below ((Below.refl _ _).drew) | exact HLS0.out.below (F1.out _ hbB)); (first | exact HSS.out.below ((Below.refl _ _).drew) | exact HSS.out.below (F1.out _ hbB)); rintro e wA ⟨rfl, hbA⟩) | (go_at_call 34; refine (CY.out _ _ ?_ ?_).mono ?_; (first | exact HLS1.out.below ((Below.refl _ _).drew) | exact HLS1.out.below (F1.out _ hbA)); (first | exact HSS.out.below ((Below.refl _ _).drew) | exact HSS.out.below (F1.out _ hbA)); rintro e wB ⟨rfl, hbB⟩))
    have hbC := F1.out _ (hbA.trans (hbB.mono hbA.size))
    have HBC := Lib.hid (HB.out.trans (hbC.mono HB.out.size))
    have hx0' := (hbC.cell (p := ⟨w.heap.size, 0, none⟩) hsz0).trans hx0
    clear hbC hbA hbB hx0 hx2 hc0 hc1 hc2 hd0 hd1 hd2
    have HV0 : Hid (R = max X Y) := by
      have : R = max X Y := by rw [← HX.out, ← HY.out]; exact HR.out.symm
      exact this
    clear HR
    by_cases hle : X < Y
    · have hli : (X : Int) < (Y : Int) := by omega
      have HM : Hid (R = Y) := by
        have := HV0.out
        have : R = Y := by omega
        exact this
      go_wp2_with fail
      go_ret
      exact ⟨by rw [HM.out]; rfl, HBC.out⟩
    · have hli : (Y : Int) ≤ (X : Int) := by omega
      have HM : Hid (R = X) := by
        have := HV0.out
        have : R = X := by omega
        exact this
      go_wp2_with fail
      go_ret
      exact ⟨by rw [HM.out]; rfl, HBC.out⟩
  | imax ha hb iha ihb =>
    rename_i a b x y
    intro v w hv hS hl hsz
    obtain ⟨s, rfl, hs⟩ := hv
    rw [LvS] at hs
    obtain ⟨A, len, cap, rfl, h1, h2, h2b, h3, h4⟩ := hs
    obtain rfl : 2 = len := h1
    have hB := below_lit w (.cells #[.int .i64 5, .int .i64 0, .slice A 2 cap] 24)
    obtain ⟨hx0, _, hx2⟩ := box_cells w (.int .i64 5) (.int .i64 0) (.slice A 2 cap) 24
    have hsz0 : w.heap.size < (w.alloc (.cells #[.int .i64 5, .int .i64 0, .slice A 2 cap] 24)).heap.size := by simp
    have HSS := Lib.hid (hS.below hB)
    have HL4 := Lib.hid (lsV_below hB _ _ _ h4)
    have HB := Lib.hid hB
    have HVX := Lib.hid (val_le (parF_le zs) (by omega) x (isL_ok ha))
    have HVY := Lib.hid (val_le (parF_le zs) (by omega) y (isL_ok hb))
    have hsx : size x ≤ 1000 := by simp only [size] at hsz; omega
    have hsy : size y ≤ 1000 := by simp only [size] at hsz; omega
    have IHA := Lib.hid iha
    have IHB := Lib.hid ihb
    obtain ⟨R, hR⟩ : ∃ R, val (parF zs) (.imax x y) = R := ⟨_, rfl⟩
    have HR := Lib.hid hR
    rw [hR]
    clear hR
    show Calls Try.prog 34 #[.agg #[.int .i64 5, .int .i64 0, .slice A 2 cap], S] w (Ret w (.int .i64 R))
    clear h4 h3 hB hS iha ihb hsz
    go_enter Try.func34, Try.ntmps34
    obtain ⟨bk, o, s1, rfl, hbs, hc0, hc1, hc2, hls1⟩ := lsV_get HL4.out 1 (by simp)
    obtain ⟨bk', o', s0, e0, _, hd0, hd1, hd2, hls0⟩ := lsV_get HL4.out 0 (by simp)
    cases e0
    simp only [Nat.zero_mul, Nat.one_mul, Nat.add_zero, List.getElem_cons_zero, List.getElem_cons_succ] at hc0 hc1 hc2 hd0 hd1 hd2
    change World.cell? _ ⟨bk, o + 4, none⟩ = _ at hc1
    change World.cell? _ ⟨bk, o + 5, none⟩ = _ at hc2
    have HLS1 := Lib.hid (show LvV _ b (.agg #[.int .i64 (kindOf b), .int .i64 (numOf b), s1]) from ⟨s1, rfl, hls1⟩)
    have HLS0 := Lib.hid (show LvV _ a (.agg #[.int .i64 (kindOf a), .int .i64 (numOf a), s0]) from ⟨s0, rfl, hls0⟩)
    clear hls1 hls0
    generalize kindOf a = ka at *
    generalize numOf a = na at *
    generalize kindOf b = kb at *
    generalize numOf b = nb at *
    go_wp2_with fail
    generalize w.alloc (.cells #[.int .i64 5, .int .i64 0, .slice (some ⟨bk, o, none⟩) 2 cap] 24) = W at *
    have hkeep : Hid (∀ W', Below W.heap.size W W' → W'.cell? ⟨w.heap.size, 0, none⟩ = some (.int .i64 5) ∧ W'.cell? ⟨w.heap.size, 2, none⟩ = some (.slice (some ⟨bk, o, none⟩) 2 cap) ∧ W'.cell? ⟨bk, o, none⟩ = some (.int .i64 ka) ∧ W'.cell? ⟨bk, o + 1, none⟩ = some (.int .i64 na) ∧ W'.cell? ⟨bk, o + 2, none⟩ = some s0 ∧ W'.cell? ⟨bk, o + 3, none⟩ = some (.int .i64 kb) ∧ W'.cell? ⟨bk, o + 4, none⟩ = some (.int .i64 nb) ∧ W'.cell? ⟨bk, o + 5, none⟩ = some s1) := fun W' hb =>
      ⟨(hb.cell (p := ⟨w.heap.size, 0, none⟩) hsz0).trans hx0, (hb.cell (p := ⟨w.heap.size, 2, none⟩) hsz0).trans hx2, (hb.cell (p := ⟨bk, _, none⟩) hbs).trans hd0, (hb.cell (p := ⟨bk, _, none⟩) hbs).trans hd1, (hb.cell (p := ⟨bk, _, none⟩) hbs).trans hd2, (hb.cell (p := ⟨bk, _, none⟩) hbs).trans hc0, (hb.cell (p := ⟨bk, _, none⟩) hbs).trans hc1, (hb.cell (p := ⟨bk, _, none⟩) hbs).trans hc2⟩
    have F1 : Hid (∀ W', Below W.drew.heap.size W.drew W' → Below W.heap.size W W') := fun W' hb => (Below.refl _ _).drew.trans hb
    obtain ⟨X, hX⟩ : ∃ X, val (parF zs) x = X := ⟨_, rfl⟩
    obtain ⟨Y, hY⟩ : ∃ Y, val (parF zs) y = Y := ⟨_, rfl⟩
    have HX := Lib.hid hX
    have HY := Lib.hid hY
    have hvx := HVX.out
    have hvy := HVY.out
    rw [hX] at hvx
    rw [hY] at hvy
    have CX : Hid (∀ v w', LvV w' a v → NSl w' S zs → Calls Try.prog 34 #[v, S] w' (Ret w' (.int .i64 X))) := fun v w' h1 h2 => by
      have := IHA.out v w' h1 h2 hl hsx
      rwa [hX] at this
    have CY : Hid (∀ v w', LvV w' b v → NSl w' S zs → Calls Try.prog 34 #[v, S] w' (Ret w' (.int .i64 Y))) := fun v w' h1 h2 => by
      have := IHB.out v w' h1 h2 hl hsy
      rwa [hY] at this
    clear hX hY IHA IHB HVX HVY
    go_region_held3 (fun W' => W'.cell? ⟨w.heap.size, 0, none⟩ = some (.int .i64 5) ∧ W'.cell? ⟨w.heap.size, 2, none⟩ = some (.slice (some ⟨bk, o, none⟩) 2 cap) ∧ W'.cell? ⟨bk, o, none⟩ = some (.int .i64 ka) ∧ W'.cell? ⟨bk, o + 1, none⟩ = some (.int .i64 na) ∧ W'.cell? ⟨bk, o + 2, none⟩ = some s0 ∧ W'.cell? ⟨bk, o + 3, none⟩ = some (.int .i64 kb) ∧ W'.cell? ⟨bk, o + 4, none⟩ = some (.int .i64 nb) ∧ W'.cell? ⟨bk, o + 5, none⟩ = some s1) (first | exact hkeep.out _ ((Below.refl _ _).drew) | exact hkeep.out _ (F1.out _ hbA) | exact hkeep.out _ (F1.out _ hbB) | exact hkeep.out _ (F1.out _ (hbA.trans (hbB.mono hbA.size))) | exact hkeep.out _ (F1.out _ (hbB.trans (hbA.mono hbB.size)))) (first | (go_at_call 34; refine (CX.out _ _ ?_ ?_).mono ?_; (first | exact HLS0.out.below ((Below.refl _ _).drew) | exact HLS0.out.below (F1.out _ hbB)); (first | exact HSS.out.below ((Below.refl _ _).drew) | exact HSS.out.below (F1.out _ hbB)); rintro e wA ⟨rfl, hbA⟩) | (go_at_call 34; refine (CY.out _ _ ?_ ?_).mono ?_; (first | exact HLS1.out.below ((Below.refl _ _).drew) | exact HLS1.out.below (F1.out _ hbA)); (first | exact HSS.out.below ((Below.refl _ _).drew) | exact HSS.out.below (F1.out _ hbA)); rintro e wB ⟨rfl, hbB⟩))
    have hbC := F1.out _ (hbA.trans (hbB.mono hbA.size))
    have HBC := Lib.hid (HB.out.trans (hbC.mono HB.out.size))
    have hx0' := (hbC.cell (p := ⟨w.heap.size, 0, none⟩) hsz0).trans hx0
    clear hbC hbA hbB hx0 hx2 hc0 hc1 hc2 hd0 hd1 hd2
    by_cases hz : Y = 0
    · have HV0 : Hid (R = 0) := by
        rw [← HR.out]
        show (if val (parF zs) y = 0 then 0 else max (val (parF zs) x) (val (parF zs) y)) = 0
        rw [if_pos (by rw [HY.out]; exact hz)]
      subst hz
      clear HR
      go_wp2_with fail
      go_ret
      exact ⟨by rw [HV0.out]; rfl, HBC.out⟩
    · have hd : ((Y : Int) == 0) = false := by simp; omega
      have HV0 : Hid (R = max X Y) := by
        have : R = max X Y := by 
            rw [← HX.out, ← HY.out, ← HR.out]
            show (if val (parF zs) y = 0 then 0 else max (val (parF zs) x) (val (parF zs) y)) = _
            rw [if_neg (by rw [HY.out]; exact hz)]
        exact this
      clear HR
      by_cases hle : X < Y
      · have hli : (X : Int) < (Y : Int) := by omega
        have HM : Hid (R = Y) := by
          have := HV0.out
          have : R = Y := by omega
          exact this
        go_wp2_with fail
        go_ret
        exact ⟨by rw [HM.out]; rfl, HBC.out⟩
      · have hli : (Y : Int) ≤ (X : Int) := by omega
        have HM : Hid (R = X) := by
          have := HV0.out
          have : R = X := by omega
          exact this
        go_wp2_with fail
        go_ret
        exact ⟨by rw [HM.out]; rfl, HBC.out⟩
set_option maxRecDepth 100000 in
set_option maxHeartbeats 2000000 in
theorem pvalue_any (t : Lv) (v S : Value) (zs : List Int) (w : World) (hv : LvV w t v) (hS : NSl w S zs) (hl : zs.length ≤ 140737488355328) (hm : nodes t ≤ 100000) (R : Nat) (hR : ValIs t zs R) :
    Calls Try.prog 15 #[v, S] w (Ret w (.int .i64 R)) := by
  obtain ⟨s, rfl, hs⟩ := hv
  have HB0 := Lib.hid (below_lit w (.cells #[.int .i64 (kindOf t), .int .i64 (numOf t), s] 24))
  obtain ⟨hx0, hx1, hx2⟩ := box_cells w (.int .i64 (kindOf t)) (.int .i64 (numOf t)) s 24
  have hsz0 : w.heap.size < (w.alloc (.cells #[.int .i64 (kindOf t), .int .i64 (numOf t), s] 24)).heap.size := by simp
  have HV := Lib.hid ((show LvV w t _ from ⟨s, rfl, hs⟩).below HB0.out)
  have HS := Lib.hid (hS.below HB0.out)
  clear hs hS
  rcases hR with ⟨hr, rfl⟩ | ⟨hr, x, hx, rfl⟩
  · have HR := Lib.hid hr
    clear hr
    go_enter Try.func15, Try.ntmps15
    go_wp2_with fail
    refine (right_any t _ 4 _ HV.out hm false HR.out).mono ?_
    rintro e w1 ⟨rfl, hb1⟩
    have HB1 := Lib.hid (HB0.out.trans (hb1.mono HB0.out.size))
    clear hb1
    go_wp2_with fail
    go_ret
    exact ⟨rfl, HB1.out⟩
  · have HR := Lib.hid hr
    have HX := Lib.hid hx
    have hsz : size x ≤ 1000 := by rw [← isL_nodes hx]; have := (rightB_is hr).1; omega
    obtain ⟨q, hq⟩ : ∃ q, val (parF zs) x = q := ⟨_, rfl⟩
    have HQ := Lib.hid hq
    rw [hq]
    clear hr hx hq
    go_enter Try.func15, Try.ntmps15
    go_wp2_with fail
    refine (right_any t _ 4 _ HV.out hm true HR.out).mono ?_
    rintro e w1 ⟨rfl, hb1⟩
    have HB1 := Lib.hid (HB0.out.trans (hb1.mono HB0.out.size))
    have HV1 := Lib.hid (HV.out.below hb1)
    have hx0' := (hb1.cell (p := ⟨w.heap.size, 0, none⟩) hsz0).trans hx0
    have hx1' := (hb1.cell (p := ⟨w.heap.size, 1, none⟩) hsz0).trans hx1
    have hx2' := (hb1.cell (p := ⟨w.heap.size, 2, none⟩) hsz0).trans hx2
    have HS1 := Lib.hid (HS.out.below hb1)
    clear hb1
    go_wp2_with fail
    refine (value_is zs S (m := 4) HX.out _ _ HV1.out HS1.out hl hsz).mono ?_
    rintro e w2 ⟨rfl, hb2⟩
    rw [HQ.out]
    have HB2 := Lib.hid (HB1.out.trans (hb2.mono HB1.out.size))
    clear hb2
    go_wp2_with fail
    go_ret
    exact ⟨rfl, HB2.out⟩
end Go.Proofs.Yteghldgopidhhaa
