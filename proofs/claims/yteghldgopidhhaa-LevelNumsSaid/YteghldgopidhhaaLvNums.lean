/-
  The law LevelNums, walked: whatever comes in, it returns true, and nothing that was there turns.
  Conditions: the slice of numbers lies in memory as told by 'NSl'; the laws' own check 'alive' returns true.
-/
import Derived.Test.YteghldgopidhhaaLvAlv
import Derived.Test.YteghldgopidhhaaLvMake
import Derived.Test.YteghldgopidhhaaLvZero
import Derived.Test.YteghldgopidhhaaLvPVal
namespace Go.Proofs.Yteghldgopidhhaa
open Go.RowKit
open Lvl

theorem leaf_nodes (k n : Int) : nodes (.mk k n []) = 1 := by simp [nodes, nodesL]
theorem right_num (m n : Int) : rightB m (.mk 1 n []) = (decide (0 ≤ m) && decide (m ≤ 4) && (decide (0 ≤ n) && decide (n ≤ 100))) := by
  simp [rightB, okB, nodes, nodesL]
theorem right_par (m n : Int) : rightB m (.mk 2 n []) = (decide (0 ≤ m) && decide (m ≤ 4) && (decide (0 ≤ n) && decide (n < m))) := by
  simp [rightB, okB, nodes, nodesL]
theorem val_num {n : Nat} (h : n ≤ 100) (zs : List Int) : ValIs (.mk 1 n []) zs n := .inr ⟨by rw [right_num]; simp; omega, .num n, .num n h, rfl⟩
theorem zero_num {n : Nat} (h : n ≤ 100) : LeqIs (.mk 1 n []) (numLv 0) (decide (n = 0)) := by
  refine .inl ⟨by rw [right_num]; simp; omega, numLv_right (n := 0) (by omega), .num n, .num 0, .num n h, is0, ?_⟩
  constructor
  · intro h f
    have := of_decide_eq_true h
    show n ≤ 0
    omega
  · intro h
    have : n ≤ 0 := h fun _ => 0
    exact decide_eq_true (by omega)
theorem val_par {k : Nat} (h : k < 4) (zs : List Int) : ValIs (.mk 2 k []) zs (parF zs k) := .inr ⟨by rw [right_par]; simp; omega, .par k, .par k (by omega), rfl⟩
theorem val_par_no {k : Int} (h : rightB 4 (.mk 2 k []) = false) (zs : List Int) : ValIs (.mk 2 k []) zs 0 := .inl ⟨h, rfl⟩

theorem below_al0 {w w' : World} (h : Below w.heap.size w w') (O : Obj) : Below w.heap.size w (w'.alloc O) := h.trans ((below_lit w' O).mono h.size)
set_option maxRecDepth 100000 in
set_option maxHeartbeats 4000000 in
theorem levelNums_any (AL : ∀ w, Calls Try.prog 8 #[] w (Ret w (.bool true))) (n k : Int) (S : Value) (zs : List Int) (w : World) (hS : NSl w S zs) (hl : zs.length ≤ 140737488355328) :
    Calls Try.prog 7 #[.int .i64 n, .int .i64 k, S] w (Ret w (.bool true)) := by
  have HAL := Lib.hid AL
  have HS0 := Lib.hid hS
  obtain ⟨A, m, c, rfl, hN, hc, hA, hx⟩ := hS
  have HL := Lib.hid hl
  have HN := Lib.hid hN
  have hm7 : m ≤ 140737488355328 := by rw [← hN]; exact hl
  clear AL hx hA hN hl
  go_enter Try.func7, Try.ntmps7
  go_wp2_with fail
  refine (HAL.out w).mono ?_
  rintro e w1 ⟨rfl, hb⟩
  have HB1 := Lib.hid hb
  clear hb
  by_cases hm : 50 < m
  · have hd : decide ((50 : Int) < (m : Int)) = true := by simp; omega
    go_wp2_with fail
    go_ret
    exact ⟨rfl, HB1.out⟩
  have hd : decide ((50 : Int) < (m : Int)) = false := by simp; omega
  go_wp2_with fail
  refine (num_ret n w1).mono ?_
  rintro e w2 ⟨rfl, hb⟩
  have hb' := below_al0 hb (.cells #[.int .i64 1, .int .i64 n, .slice none 0 0] 24)
  have HB2 := Lib.hid (HB1.out.trans (hb'.mono HB1.out.size))
  have HR7 := Lib.hid (heap_alloc_new w2 (.cells #[.int .i64 1, .int .i64 n, .slice none 0 0] 24))
  have HZ7 := Lib.hid (show w2.heap.size < (w2.alloc (.cells #[.int .i64 1, .int .i64 n, .slice none 0 0] 24)).heap.size by simp)
  clear hb hb'
  go_wp2_with fail
  generalize w2.alloc (.cells #[.int .i64 1, .int .i64 n, .slice none 0 0] 24) = W2 at *
  refine (param_lv_ret k W2).mono ?_
  rintro e w3 ⟨rfl, hb⟩
  have hb' := below_al0 hb (.cells #[.int .i64 2, .int .i64 k, .slice none 0 0] 24)
  have HB3 := Lib.hid (HB2.out.trans (hb'.mono HB2.out.size))
  have HR77 := Lib.hid ((hb'.block w2.heap.size HZ7.out).trans HR7.out)
  have HZ77 := Lib.hid (Nat.lt_of_lt_of_le HZ7.out hb'.size)
  have HR8 := Lib.hid (heap_alloc_new w3 (.cells #[.int .i64 2, .int .i64 k, .slice none 0 0] 24))
  have HZ8 := Lib.hid (show w3.heap.size < (w3.alloc (.cells #[.int .i64 2, .int .i64 k, .slice none 0 0] 24)).heap.size by simp)
  have m1 := cell_of_row _ _ 0 _ 24 (0, 0) HR77.out
  have m2 := cell_of_row _ _ 1 _ 24 (0, 0) HR77.out
  have m3 := cell_of_row _ _ 2 _ 24 (0, 0) HR77.out
  clear hb hb' HR7 HZ7
  go_wp2_with fail
  generalize w3.alloc (.cells #[.int .i64 2, .int .i64 k, .slice none 0 0] 24) = W at *
  generalize w2.heap.size = B7 at *
  generalize w3.heap.size = B8 at *
  clear m1 m2 m3
  have hk : Hid (∀ W', Below W.heap.size W W' → W'.cell? ⟨B7, 0, none⟩ = some (.int .i64 1) ∧ W'.cell? ⟨B7, 1, none⟩ = some (.int .i64 n) ∧ W'.cell? ⟨B7, 2, none⟩ = some (.slice none 0 0) ∧ W'.cell? ⟨B8, 0, none⟩ = some (.int .i64 2) ∧ W'.cell? ⟨B8, 1, none⟩ = some (.int .i64 k) ∧ W'.cell? ⟨B8, 2, none⟩ = some (.slice none 0 0)) := fun W' h => by
    have p7 := (h.block B7 HZ77.out).trans HR77.out
    have p8 := (h.block B8 HZ8.out).trans HR8.out
    exact ⟨cell_of_row _ _ 0 _ 24 (0, 0) p7, cell_of_row _ _ 1 _ 24 (0, 0) p7, cell_of_row _ _ 2 _ 24 (0, 0) p7, cell_of_row _ _ 0 _ 24 (0, 0) p8, cell_of_row _ _ 1 _ 24 (0, 0) p8, cell_of_row _ _ 2 _ 24 (0, 0) p8⟩
  have HS := Lib.hid (HS0.out.below HB3.out)
  have HC0 := Lib.hid (Below.refl W.heap.size W)
  clear HB1 HB2 HR77 HR8 HS0 HAL
  by_cases hnn : n < 0
  · have hd0 : decide ((0 : Int) ≤ n) = false := by simp; omega
    by_cases hkn : k < 0
    · have hk0 : decide ((0 : Int) ≤ k) = false := by simp; omega
      refine (right_any (.mk 1 n []) _ 0 _ (lvV_leaf _ 1 n) (by rw [leaf_nodes]; omega) false (by rw [right_num]; simp; try omega)).mono ?_
      rintro e v1 ⟨rfl, hb⟩
      have HC1 := Lib.hid (HC0.out.trans (hb.mono HC0.out.size))
      clear hb
      obtain ⟨m1, m2, m3, m4, m5, m6⟩ := hk.out v1 HC1.out
      go_wp2_with fail
      refine (right_any (.mk 2 k []) _ 4 _ (lvV_leaf _ 2 k) (by rw [leaf_nodes]; omega) false (by rw [right_par]; simp; try omega)).mono ?_
      rintro e v2 ⟨rfl, hb⟩
      have HC2 := Lib.hid (HC1.out.trans (hb.mono HC1.out.size))
      clear hb
      clear m1 m2 m3 m4 m5 m6
      obtain ⟨m1, m2, m3, m4, m5, m6⟩ := hk.out v2 HC2.out
      go_wp2_with fail
      refine (right_any (.mk 1 n []) _ 0 _ (lvV_leaf _ 1 n) (by rw [leaf_nodes]; omega) false (by rw [right_num]; simp; try omega)).mono ?_
      rintro e v3 ⟨rfl, hb⟩
      have HC3 := Lib.hid (HC2.out.trans (hb.mono HC2.out.size))
      clear hb
      clear m1 m2 m3 m4 m5 m6
      obtain ⟨m1, m2, m3, m4, m5, m6⟩ := hk.out v3 HC3.out
      go_wp2_with fail
      refine (right_any (.mk 2 k []) _ 4 _ (lvV_leaf _ 2 k) (by rw [leaf_nodes]; omega) false (by rw [right_par]; simp; try omega)).mono ?_
      rintro e v4 ⟨rfl, hb⟩
      have HC4 := Lib.hid (HC3.out.trans (hb.mono HC3.out.size))
      clear hb
      clear m1 m2 m3 m4 m5 m6
      obtain ⟨m1, m2, m3, m4, m5, m6⟩ := hk.out v4 HC4.out
      go_wp2_with fail
      refine (pvalue_any (.mk 2 k []) _ _ zs _ (lvV_leaf _ 2 k) (HS.out.below HC4.out) HL.out (by rw [leaf_nodes]; omega) 0 (val_par_no (by rw [right_par]; simp; try omega) zs)).mono ?_
      rintro e v5 ⟨rfl, hb⟩
      have HC5 := Lib.hid (HC4.out.trans (hb.mono HC4.out.size))
      clear hb
      clear m1 m2 m3 m4 m5 m6
      obtain ⟨m1, m2, m3, m4, m5, m6⟩ := hk.out v5 HC5.out
      go_wp2_with fail
      go_ret
      exact ⟨rfl, HB3.out.trans (HC5.out.mono HB3.out.size)⟩
    by_cases hk4 : k < 4
    · obtain ⟨k', rfl⟩ := Int.eq_ofNat_of_zero_le (show 0 ≤ k by omega)
      rename Nat => k
      have hk0 : decide ((0 : Int) ≤ (k : Int)) = true := by simp
      have hk1 : decide ((k : Int) < 4) = true := by simp; omega
      refine (right_any (.mk 1 n []) _ 0 _ (lvV_leaf _ 1 n) (by rw [leaf_nodes]; omega) false (by rw [right_num]; simp; try omega)).mono ?_
      rintro e v1 ⟨rfl, hb⟩
      have HC1 := Lib.hid (HC0.out.trans (hb.mono HC0.out.size))
      clear hb
      obtain ⟨m1, m2, m3, m4, m5, m6⟩ := hk.out v1 HC1.out
      go_wp2_with fail
      refine (right_any (.mk 2 k []) _ 4 _ (lvV_leaf _ 2 k) (by rw [leaf_nodes]; omega) true (by rw [right_par]; simp; try omega)).mono ?_
      rintro e v2 ⟨rfl, hb⟩
      have HC2 := Lib.hid (HC1.out.trans (hb.mono HC1.out.size))
      clear hb
      clear m1 m2 m3 m4 m5 m6
      obtain ⟨m1, m2, m3, m4, m5, m6⟩ := hk.out v2 HC2.out
      go_wp2_with fail
      refine (right_any (.mk 1 n []) _ 0 _ (lvV_leaf _ 1 n) (by rw [leaf_nodes]; omega) false (by rw [right_num]; simp; try omega)).mono ?_
      rintro e v3 ⟨rfl, hb⟩
      have HC3 := Lib.hid (HC2.out.trans (hb.mono HC2.out.size))
      clear hb
      clear m1 m2 m3 m4 m5 m6
      obtain ⟨m1, m2, m3, m4, m5, m6⟩ := hk.out v3 HC3.out
      go_wp2_with fail
      by_cases hkm : k < m
      · have hkm2 : decide ((m : Int) ≤ (k : Int)) = false := by simp; omega
        refine (right_any (.mk 2 k []) _ 4 _ (lvV_leaf _ 2 k) (by rw [leaf_nodes]; omega) true (by rw [right_par]; simp; try omega)).mono ?_
        rintro e v4 ⟨rfl, hb⟩
        have HC4 := Lib.hid (HC3.out.trans (hb.mono HC3.out.size))
        clear hb
        clear m1 m2 m3 m4 m5 m6
        obtain ⟨m1, m2, m3, m4, m5, m6⟩ := hk.out v4 HC4.out
        have HW := Lib.hid (HS.out.below HC4.out)
        obtain ⟨A', m', c', e', hN', _, hA', hx'⟩ := HW.out
        cases e'
        obtain ⟨bq, oq, rfl, hbq, hcq⟩ := hx'.at_ (k := k) (by rw [HN.out]; exact hkm)
        have hpf : parF zs k = min (zs[k]'(by rw [HN.out]; exact hkm)).toNat 1048576 := by unfold parF; rw [List.getElem?_eq_getElem]
        have HPF := Lib.hid hpf
        have hk0' : (0 : Int) ≤ (k : Int) := by omega
        have hk1' : (k : Int) < (m : Int) := by omega
        obtain ⟨R, hR⟩ : ∃ R, parF zs k = R := ⟨_, rfl⟩
        have HR := Lib.hid hR
        have CV : Hid (∀ w', Below v4.heap.size v4 w' → Calls Try.prog 15 #[.agg #[.int .i64 2, .int .i64 k, .slice none 0 0], .slice (some ⟨bq, oq, none⟩) m c] w' (Ret w' (.int .i64 R))) := fun w' h => by
          have := pvalue_any (.mk 2 k []) _ _ zs w' (lvV_leaf _ 2 k) (HW.out.below h) HL.out (by rw [leaf_nodes]; omega) _ (val_par (k := k) (by omega) zs)
          rwa [hR] at this
        generalize zs[k]'(by rw [HN.out]; exact hkm) = z at *
        have HE : Hid (R = min z.toNat 1048576) := by rw [← HR.out]; exact HPF.out
        have hk9 : Hid (∀ W', Below v4.heap.size v4 W' → W'.cell? ⟨B8, 0, none⟩ = some (.int .i64 2) ∧ W'.cell? ⟨B8, 1, none⟩ = some (.int .i64 k) ∧ W'.cell? ⟨B8, 2, none⟩ = some (.slice none 0 0) ∧ W'.cell? ⟨bq, oq + k, none⟩ = some (.int .i64 z)) := fun W' h => by
          have q := hk.out W' (HC4.out.trans (h.mono HC4.out.size))
          exact ⟨q.2.2.2.1, q.2.2.2.2.1, q.2.2.2.2.2, (h.cell (p := ⟨bq, _, none⟩) hbq).trans hcq⟩
        have HD : Hid (Below v4.heap.size v4 v4.drew) := (Below.refl _ _).drew
        clear hR hpf hx' hN' hA' HW
        clear m1 m2 m3
        go_wp2_with fail
        have hcq9 := hcq
        have hR7 : R ≤ 1048576 := by have := HE.out; omega
        by_cases hneg : z < 0
        · have hf : R = 0 := by have := HE.out; omega
          subst hf
          go_region_held3 (fun W' => W'.cell? ⟨B8, 0, none⟩ = some (.int .i64 2) ∧ W'.cell? ⟨B8, 1, none⟩ = some (.int .i64 k) ∧ W'.cell? ⟨B8, 2, none⟩ = some (.slice none 0 0) ∧ W'.cell? ⟨bq, oq + k, none⟩ = some (.int .i64 z)) (first | exact hk9.out _ HD.out | exact hk9.out _ hcV.out) (first | (go_at_call 15; refine (CV.out _ HD.out).mono ?_; rintro e wV ⟨rfl, hb9⟩; have hcV : Hid (Below v4.heap.size v4 wV) := HD.out.trans (hb9.mono HD.out.size); clear hb9))
          all_goals (
            go_wp2_with fail
            go_ret
            exact ⟨rfl, HB3.out.trans ((HC4.out.trans (hcV.out.mono HC4.out.size)).mono HB3.out.size)⟩)
        · have hz0 : (0 : Int) ≤ z := by omega
          by_cases hbig : z ≤ 1048576
          · obtain ⟨z', rfl⟩ := Int.eq_ofNat_of_zero_le hz0
            obtain rfl : R = z' := by have := HE.out; omega
            have hdd : decide ((R : Int) = (R : Int)) = true := by simp
            go_region_held3 (fun W' => W'.cell? ⟨B8, 0, none⟩ = some (.int .i64 2) ∧ W'.cell? ⟨B8, 1, none⟩ = some (.int .i64 k) ∧ W'.cell? ⟨B8, 2, none⟩ = some (.slice none 0 0) ∧ W'.cell? ⟨bq, oq + k, none⟩ = some (.int .i64 (R : Nat))) (first | exact hk9.out _ HD.out | exact hk9.out _ hcV.out) (first | (go_at_call 15; refine (CV.out _ HD.out).mono ?_; rintro e wV ⟨rfl, hb9⟩; have hcV : Hid (Below v4.heap.size v4 wV) := HD.out.trans (hb9.mono HD.out.size); clear hb9))
            all_goals (
              go_wp2_with fail
              go_ret
              exact ⟨rfl, HB3.out.trans ((HC4.out.trans (hcV.out.mono HC4.out.size)).mono HB3.out.size)⟩)
          · have hbi : (1048576 : Int) < z := by omega
            obtain rfl : R = 1048576 := by have := HE.out; omega
            go_region_held3 (fun W' => W'.cell? ⟨B8, 0, none⟩ = some (.int .i64 2) ∧ W'.cell? ⟨B8, 1, none⟩ = some (.int .i64 k) ∧ W'.cell? ⟨B8, 2, none⟩ = some (.slice none 0 0) ∧ W'.cell? ⟨bq, oq + k, none⟩ = some (.int .i64 z)) (first | exact hk9.out _ HD.out | exact hk9.out _ hcV.out) (first | (go_at_call 15; refine (CV.out _ HD.out).mono ?_; rintro e wV ⟨rfl, hb9⟩; have hcV : Hid (Below v4.heap.size v4 wV) := HD.out.trans (hb9.mono HD.out.size); clear hb9))
            all_goals (
              go_wp2_with fail
              go_ret
              exact ⟨rfl, HB3.out.trans ((HC4.out.trans (hcV.out.mono HC4.out.size)).mono HB3.out.size)⟩)
      · have hkm2 : decide ((m : Int) ≤ (k : Int)) = true := by simp; omega
        have HP : Hid (parF zs k = 0) := by
          have : parF zs k = 0 := by
            unfold parF
            rw [List.getElem?_eq_none (by rw [HN.out]; omega)]
          exact this
        refine (right_any (.mk 2 k []) _ 4 _ (lvV_leaf _ 2 k) (by rw [leaf_nodes]; omega) true (by rw [right_par]; simp; try omega)).mono ?_
        rintro e v4 ⟨rfl, hb⟩
        have HC4 := Lib.hid (HC3.out.trans (hb.mono HC3.out.size))
        clear hb
        clear m1 m2 m3 m4 m5 m6
        obtain ⟨m1, m2, m3, m4, m5, m6⟩ := hk.out v4 HC4.out
        go_wp2_with fail
        refine (pvalue_any (.mk 2 k []) _ _ zs _ (lvV_leaf _ 2 k) (HS.out.below HC4.out) HL.out (by rw [leaf_nodes]; omega) 0 (by rw [← HP.out]; exact val_par (k := k) (by omega) zs)).mono ?_
        rintro e v5 ⟨rfl, hb⟩
        have HC5 := Lib.hid (HC4.out.trans (hb.mono HC4.out.size))
        clear hb
        clear m1 m2 m3 m4 m5 m6
        obtain ⟨m1, m2, m3, m4, m5, m6⟩ := hk.out v5 HC5.out
        go_wp2_with fail
        go_ret
        exact ⟨rfl, HB3.out.trans (HC5.out.mono HB3.out.size)⟩
    · have hk0 : decide ((0 : Int) ≤ k) = true := by simp; omega
      have hk1 : decide (k < 4) = false := by simp; omega
      refine (right_any (.mk 1 n []) _ 0 _ (lvV_leaf _ 1 n) (by rw [leaf_nodes]; omega) false (by rw [right_num]; simp; try omega)).mono ?_
      rintro e v1 ⟨rfl, hb⟩
      have HC1 := Lib.hid (HC0.out.trans (hb.mono HC0.out.size))
      clear hb
      obtain ⟨m1, m2, m3, m4, m5, m6⟩ := hk.out v1 HC1.out
      go_wp2_with fail
      refine (right_any (.mk 2 k []) _ 4 _ (lvV_leaf _ 2 k) (by rw [leaf_nodes]; omega) false (by rw [right_par]; simp; try omega)).mono ?_
      rintro e v2 ⟨rfl, hb⟩
      have HC2 := Lib.hid (HC1.out.trans (hb.mono HC1.out.size))
      clear hb
      clear m1 m2 m3 m4 m5 m6
      obtain ⟨m1, m2, m3, m4, m5, m6⟩ := hk.out v2 HC2.out
      go_wp2_with fail
      refine (right_any (.mk 1 n []) _ 0 _ (lvV_leaf _ 1 n) (by rw [leaf_nodes]; omega) false (by rw [right_num]; simp; try omega)).mono ?_
      rintro e v3 ⟨rfl, hb⟩
      have HC3 := Lib.hid (HC2.out.trans (hb.mono HC2.out.size))
      clear hb
      clear m1 m2 m3 m4 m5 m6
      obtain ⟨m1, m2, m3, m4, m5, m6⟩ := hk.out v3 HC3.out
      go_wp2_with fail
      refine (right_any (.mk 2 k []) _ 4 _ (lvV_leaf _ 2 k) (by rw [leaf_nodes]; omega) false (by rw [right_par]; simp; try omega)).mono ?_
      rintro e v4 ⟨rfl, hb⟩
      have HC4 := Lib.hid (HC3.out.trans (hb.mono HC3.out.size))
      clear hb
      clear m1 m2 m3 m4 m5 m6
      obtain ⟨m1, m2, m3, m4, m5, m6⟩ := hk.out v4 HC4.out
      go_wp2_with fail
      refine (pvalue_any (.mk 2 k []) _ _ zs _ (lvV_leaf _ 2 k) (HS.out.below HC4.out) HL.out (by rw [leaf_nodes]; omega) 0 (val_par_no (by rw [right_par]; simp; try omega) zs)).mono ?_
      rintro e v5 ⟨rfl, hb⟩
      have HC5 := Lib.hid (HC4.out.trans (hb.mono HC4.out.size))
      clear hb
      clear m1 m2 m3 m4 m5 m6
      obtain ⟨m1, m2, m3, m4, m5, m6⟩ := hk.out v5 HC5.out
      go_wp2_with fail
      go_ret
      exact ⟨rfl, HB3.out.trans (HC5.out.mono HB3.out.size)⟩
  by_cases hn1 : n ≤ 100
  · obtain ⟨n', rfl⟩ := Int.eq_ofNat_of_zero_le (show 0 ≤ n by omega)
    rename Nat => n
    have hd0 : decide ((0 : Int) ≤ (n : Int)) = true := by simp
    have hd1 : decide ((n : Int) ≤ 100) = true := by simp; omega
    by_cases hkn : k < 0
    · have hk0 : decide ((0 : Int) ≤ k) = false := by simp; omega
      refine (right_any (.mk 1 n []) _ 0 _ (lvV_leaf _ 1 n) (by rw [leaf_nodes]; omega) true (by rw [right_num]; simp; try omega)).mono ?_
      rintro e v1 ⟨rfl, hb⟩
      have HC1 := Lib.hid (HC0.out.trans (hb.mono HC0.out.size))
      clear hb
      obtain ⟨m1, m2, m3, m4, m5, m6⟩ := hk.out v1 HC1.out
      go_wp2_with fail
      refine (right_any (.mk 2 k []) _ 4 _ (lvV_leaf _ 2 k) (by rw [leaf_nodes]; omega) false (by rw [right_par]; simp; try omega)).mono ?_
      rintro e v2 ⟨rfl, hb⟩
      have HC2 := Lib.hid (HC1.out.trans (hb.mono HC1.out.size))
      clear hb
      clear m1 m2 m3 m4 m5 m6
      obtain ⟨m1, m2, m3, m4, m5, m6⟩ := hk.out v2 HC2.out
      go_wp2_with fail
      refine (right_any (.mk 1 n []) _ 0 _ (lvV_leaf _ 1 n) (by rw [leaf_nodes]; omega) true (by rw [right_num]; simp; try omega)).mono ?_
      rintro e v3 ⟨rfl, hb⟩
      have HC3 := Lib.hid (HC2.out.trans (hb.mono HC2.out.size))
      clear hb
      clear m1 m2 m3 m4 m5 m6
      obtain ⟨m1, m2, m3, m4, m5, m6⟩ := hk.out v3 HC3.out
      go_wp2_with fail
      refine (pvalue_any (.mk 1 n []) _ _ zs _ (lvV_leaf _ 1 n) (HS.out.below HC3.out) HL.out (by rw [leaf_nodes]; omega) n (val_num (by omega) zs)).mono ?_
      rintro e v4 ⟨rfl, hb⟩
      have HC4 := Lib.hid (HC3.out.trans (hb.mono HC3.out.size))
      clear hb
      clear m1 m2 m3 m4 m5 m6
      obtain ⟨m1, m2, m3, m4, m5, m6⟩ := hk.out v4 HC4.out
      go_wp2_with fail
      by_cases hn0' : n = 0
      · subst hn0'
        refine (zero_any (.mk 1 ((0 : Nat) : Int) []) _ _ (lvV_leaf _ 1 0) (by rw [leaf_nodes]; omega) true (zero_num (n := 0) (by omega))).mono ?_
        rintro e v5 ⟨rfl, hb⟩
        have HC5 := Lib.hid (HC4.out.trans (hb.mono HC4.out.size))
        clear hb
        clear m1 m2 m3 m4 m5 m6
        obtain ⟨m1, m2, m3, m4, m5, m6⟩ := hk.out v5 HC5.out
        go_wp2_with fail
        refine (right_any (.mk 2 k []) _ 4 _ (lvV_leaf _ 2 k) (by rw [leaf_nodes]; omega) false (by rw [right_par]; simp; try omega)).mono ?_
        rintro e v6 ⟨rfl, hb⟩
        have HC6 := Lib.hid (HC5.out.trans (hb.mono HC5.out.size))
        clear hb
        clear m1 m2 m3 m4 m5 m6
        obtain ⟨m1, m2, m3, m4, m5, m6⟩ := hk.out v6 HC6.out
        go_wp2_with fail
        refine (pvalue_any (.mk 2 k []) _ _ zs _ (lvV_leaf _ 2 k) (HS.out.below HC6.out) HL.out (by rw [leaf_nodes]; omega) 0 (val_par_no (by rw [right_par]; simp; try omega) zs)).mono ?_
        rintro e v7 ⟨rfl, hb⟩
        have HC7 := Lib.hid (HC6.out.trans (hb.mono HC6.out.size))
        clear hb
        clear m1 m2 m3 m4 m5 m6
        obtain ⟨m1, m2, m3, m4, m5, m6⟩ := hk.out v7 HC7.out
        go_wp2_with fail
        go_ret
        exact ⟨rfl, HB3.out.trans (HC7.out.mono HB3.out.size)⟩
      · have hnz : ((n : Int) == 0) = false := by simp; omega
        refine (zero_any (.mk 1 n []) _ _ (lvV_leaf _ 1 n) (by rw [leaf_nodes]; omega) false (by have := zero_num (n := n) (by omega); rwa [decide_eq_false hn0'] at this)).mono ?_
        rintro e v5 ⟨rfl, hb⟩
        have HC5 := Lib.hid (HC4.out.trans (hb.mono HC4.out.size))
        clear hb
        clear m1 m2 m3 m4 m5 m6
        obtain ⟨m1, m2, m3, m4, m5, m6⟩ := hk.out v5 HC5.out
        go_wp2_with fail
        refine (right_any (.mk 2 k []) _ 4 _ (lvV_leaf _ 2 k) (by rw [leaf_nodes]; omega) false (by rw [right_par]; simp; try omega)).mono ?_
        rintro e v6 ⟨rfl, hb⟩
        have HC6 := Lib.hid (HC5.out.trans (hb.mono HC5.out.size))
        clear hb
        clear m1 m2 m3 m4 m5 m6
        obtain ⟨m1, m2, m3, m4, m5, m6⟩ := hk.out v6 HC6.out
        go_wp2_with fail
        refine (pvalue_any (.mk 2 k []) _ _ zs _ (lvV_leaf _ 2 k) (HS.out.below HC6.out) HL.out (by rw [leaf_nodes]; omega) 0 (val_par_no (by rw [right_par]; simp; try omega) zs)).mono ?_
        rintro e v7 ⟨rfl, hb⟩
        have HC7 := Lib.hid (HC6.out.trans (hb.mono HC6.out.size))
        clear hb
        clear m1 m2 m3 m4 m5 m6
        obtain ⟨m1, m2, m3, m4, m5, m6⟩ := hk.out v7 HC7.out
        go_wp2_with fail
        go_ret
        exact ⟨rfl, HB3.out.trans (HC7.out.mono HB3.out.size)⟩
    by_cases hk4 : k < 4
    · obtain ⟨k', rfl⟩ := Int.eq_ofNat_of_zero_le (show 0 ≤ k by omega)
      rename Nat => k
      have hk0 : decide ((0 : Int) ≤ (k : Int)) = true := by simp
      have hk1 : decide ((k : Int) < 4) = true := by simp; omega
      refine (right_any (.mk 1 n []) _ 0 _ (lvV_leaf _ 1 n) (by rw [leaf_nodes]; omega) true (by rw [right_num]; simp; try omega)).mono ?_
      rintro e v1 ⟨rfl, hb⟩
      have HC1 := Lib.hid (HC0.out.trans (hb.mono HC0.out.size))
      clear hb
      obtain ⟨m1, m2, m3, m4, m5, m6⟩ := hk.out v1 HC1.out
      go_wp2_with fail
      refine (right_any (.mk 2 k []) _ 4 _ (lvV_leaf _ 2 k) (by rw [leaf_nodes]; omega) true (by rw [right_par]; simp; try omega)).mono ?_
      rintro e v2 ⟨rfl, hb⟩
      have HC2 := Lib.hid (HC1.out.trans (hb.mono HC1.out.size))
      clear hb
      clear m1 m2 m3 m4 m5 m6
      obtain ⟨m1, m2, m3, m4, m5, m6⟩ := hk.out v2 HC2.out
      go_wp2_with fail
      refine (right_any (.mk 1 n []) _ 0 _ (lvV_leaf _ 1 n) (by rw [leaf_nodes]; omega) true (by rw [right_num]; simp; try omega)).mono ?_
      rintro e v3 ⟨rfl, hb⟩
      have HC3 := Lib.hid (HC2.out.trans (hb.mono HC2.out.size))
      clear hb
      clear m1 m2 m3 m4 m5 m6
      obtain ⟨m1, m2, m3, m4, m5, m6⟩ := hk.out v3 HC3.out
      go_wp2_with fail
      refine (pvalue_any (.mk 1 n []) _ _ zs _ (lvV_leaf _ 1 n) (HS.out.below HC3.out) HL.out (by rw [leaf_nodes]; omega) n (val_num (by omega) zs)).mono ?_
      rintro e v4 ⟨rfl, hb⟩
      have HC4 := Lib.hid (HC3.out.trans (hb.mono HC3.out.size))
      clear hb
      clear m1 m2 m3 m4 m5 m6
      obtain ⟨m1, m2, m3, m4, m5, m6⟩ := hk.out v4 HC4.out
      go_wp2_with fail
      by_cases hn0' : n = 0
      · subst hn0'
        refine (zero_any (.mk 1 ((0 : Nat) : Int) []) _ _ (lvV_leaf _ 1 0) (by rw [leaf_nodes]; omega) true (zero_num (n := 0) (by omega))).mono ?_
        rintro e v5 ⟨rfl, hb⟩
        have HC5 := Lib.hid (HC4.out.trans (hb.mono HC4.out.size))
        clear hb
        clear m1 m2 m3 m4 m5 m6
        obtain ⟨m1, m2, m3, m4, m5, m6⟩ := hk.out v5 HC5.out
        go_wp2_with fail
        by_cases hkm : k < m
        · have hkm2 : decide ((m : Int) ≤ (k : Int)) = false := by simp; omega
          refine (right_any (.mk 2 k []) _ 4 _ (lvV_leaf _ 2 k) (by rw [leaf_nodes]; omega) true (by rw [right_par]; simp; try omega)).mono ?_
          rintro e v6 ⟨rfl, hb⟩
          have HC6 := Lib.hid (HC5.out.trans (hb.mono HC5.out.size))
          clear hb
          clear m1 m2 m3 m4 m5 m6
          obtain ⟨m1, m2, m3, m4, m5, m6⟩ := hk.out v6 HC6.out
          have HW := Lib.hid (HS.out.below HC6.out)
          obtain ⟨A', m', c', e', hN', _, hA', hx'⟩ := HW.out
          cases e'
          obtain ⟨bq, oq, rfl, hbq, hcq⟩ := hx'.at_ (k := k) (by rw [HN.out]; exact hkm)
          have hpf : parF zs k = min (zs[k]'(by rw [HN.out]; exact hkm)).toNat 1048576 := by unfold parF; rw [List.getElem?_eq_getElem]
          have HPF := Lib.hid hpf
          have hk0' : (0 : Int) ≤ (k : Int) := by omega
          have hk1' : (k : Int) < (m : Int) := by omega
          obtain ⟨R, hR⟩ : ∃ R, parF zs k = R := ⟨_, rfl⟩
          have HR := Lib.hid hR
          have CV : Hid (∀ w', Below v6.heap.size v6 w' → Calls Try.prog 15 #[.agg #[.int .i64 2, .int .i64 k, .slice none 0 0], .slice (some ⟨bq, oq, none⟩) m c] w' (Ret w' (.int .i64 R))) := fun w' h => by
            have := pvalue_any (.mk 2 k []) _ _ zs w' (lvV_leaf _ 2 k) (HW.out.below h) HL.out (by rw [leaf_nodes]; omega) _ (val_par (k := k) (by omega) zs)
            rwa [hR] at this
          generalize zs[k]'(by rw [HN.out]; exact hkm) = z at *
          have HE : Hid (R = min z.toNat 1048576) := by rw [← HR.out]; exact HPF.out
          have hk9 : Hid (∀ W', Below v6.heap.size v6 W' → W'.cell? ⟨B8, 0, none⟩ = some (.int .i64 2) ∧ W'.cell? ⟨B8, 1, none⟩ = some (.int .i64 k) ∧ W'.cell? ⟨B8, 2, none⟩ = some (.slice none 0 0) ∧ W'.cell? ⟨bq, oq + k, none⟩ = some (.int .i64 z)) := fun W' h => by
            have q := hk.out W' (HC6.out.trans (h.mono HC6.out.size))
            exact ⟨q.2.2.2.1, q.2.2.2.2.1, q.2.2.2.2.2, (h.cell (p := ⟨bq, _, none⟩) hbq).trans hcq⟩
          have HD : Hid (Below v6.heap.size v6 v6.drew) := (Below.refl _ _).drew
          clear hR hpf hx' hN' hA' HW
          clear m1 m2 m3
          go_wp2_with fail
          have hcq9 := hcq
          have hR7 : R ≤ 1048576 := by have := HE.out; omega
          by_cases hneg : z < 0
          · have hf : R = 0 := by have := HE.out; omega
            subst hf
            go_region_held3 (fun W' => W'.cell? ⟨B8, 0, none⟩ = some (.int .i64 2) ∧ W'.cell? ⟨B8, 1, none⟩ = some (.int .i64 k) ∧ W'.cell? ⟨B8, 2, none⟩ = some (.slice none 0 0) ∧ W'.cell? ⟨bq, oq + k, none⟩ = some (.int .i64 z)) (first | exact hk9.out _ HD.out | exact hk9.out _ hcV.out) (first | (go_at_call 15; refine (CV.out _ HD.out).mono ?_; rintro e wV ⟨rfl, hb9⟩; have hcV : Hid (Below v6.heap.size v6 wV) := HD.out.trans (hb9.mono HD.out.size); clear hb9))
            all_goals (
              go_wp2_with fail
              go_ret
              exact ⟨rfl, HB3.out.trans ((HC6.out.trans (hcV.out.mono HC6.out.size)).mono HB3.out.size)⟩)
          · have hz0 : (0 : Int) ≤ z := by omega
            by_cases hbig : z ≤ 1048576
            · obtain ⟨z', rfl⟩ := Int.eq_ofNat_of_zero_le hz0
              obtain rfl : R = z' := by have := HE.out; omega
              have hdd : decide ((R : Int) = (R : Int)) = true := by simp
              go_region_held3 (fun W' => W'.cell? ⟨B8, 0, none⟩ = some (.int .i64 2) ∧ W'.cell? ⟨B8, 1, none⟩ = some (.int .i64 k) ∧ W'.cell? ⟨B8, 2, none⟩ = some (.slice none 0 0) ∧ W'.cell? ⟨bq, oq + k, none⟩ = some (.int .i64 (R : Nat))) (first | exact hk9.out _ HD.out | exact hk9.out _ hcV.out) (first | (go_at_call 15; refine (CV.out _ HD.out).mono ?_; rintro e wV ⟨rfl, hb9⟩; have hcV : Hid (Below v6.heap.size v6 wV) := HD.out.trans (hb9.mono HD.out.size); clear hb9))
              all_goals (
                go_wp2_with fail
                go_ret
                exact ⟨rfl, HB3.out.trans ((HC6.out.trans (hcV.out.mono HC6.out.size)).mono HB3.out.size)⟩)
            · have hbi : (1048576 : Int) < z := by omega
              obtain rfl : R = 1048576 := by have := HE.out; omega
              go_region_held3 (fun W' => W'.cell? ⟨B8, 0, none⟩ = some (.int .i64 2) ∧ W'.cell? ⟨B8, 1, none⟩ = some (.int .i64 k) ∧ W'.cell? ⟨B8, 2, none⟩ = some (.slice none 0 0) ∧ W'.cell? ⟨bq, oq + k, none⟩ = some (.int .i64 z)) (first | exact hk9.out _ HD.out | exact hk9.out _ hcV.out) (first | (go_at_call 15; refine (CV.out _ HD.out).mono ?_; rintro e wV ⟨rfl, hb9⟩; have hcV : Hid (Below v6.heap.size v6 wV) := HD.out.trans (hb9.mono HD.out.size); clear hb9))
              all_goals (
                go_wp2_with fail
                go_ret
                exact ⟨rfl, HB3.out.trans ((HC6.out.trans (hcV.out.mono HC6.out.size)).mono HB3.out.size)⟩)
        · have hkm2 : decide ((m : Int) ≤ (k : Int)) = true := by simp; omega
          have HP : Hid (parF zs k = 0) := by
            have : parF zs k = 0 := by
              unfold parF
              rw [List.getElem?_eq_none (by rw [HN.out]; omega)]
            exact this
          refine (right_any (.mk 2 k []) _ 4 _ (lvV_leaf _ 2 k) (by rw [leaf_nodes]; omega) true (by rw [right_par]; simp; try omega)).mono ?_
          rintro e v6 ⟨rfl, hb⟩
          have HC6 := Lib.hid (HC5.out.trans (hb.mono HC5.out.size))
          clear hb
          clear m1 m2 m3 m4 m5 m6
          obtain ⟨m1, m2, m3, m4, m5, m6⟩ := hk.out v6 HC6.out
          go_wp2_with fail
          refine (pvalue_any (.mk 2 k []) _ _ zs _ (lvV_leaf _ 2 k) (HS.out.below HC6.out) HL.out (by rw [leaf_nodes]; omega) 0 (by rw [← HP.out]; exact val_par (k := k) (by omega) zs)).mono ?_
          rintro e v7 ⟨rfl, hb⟩
          have HC7 := Lib.hid (HC6.out.trans (hb.mono HC6.out.size))
          clear hb
          clear m1 m2 m3 m4 m5 m6
          obtain ⟨m1, m2, m3, m4, m5, m6⟩ := hk.out v7 HC7.out
          go_wp2_with fail
          go_ret
          exact ⟨rfl, HB3.out.trans (HC7.out.mono HB3.out.size)⟩
      · have hnz : ((n : Int) == 0) = false := by simp; omega
        refine (zero_any (.mk 1 n []) _ _ (lvV_leaf _ 1 n) (by rw [leaf_nodes]; omega) false (by have := zero_num (n := n) (by omega); rwa [decide_eq_false hn0'] at this)).mono ?_
        rintro e v5 ⟨rfl, hb⟩
        have HC5 := Lib.hid (HC4.out.trans (hb.mono HC4.out.size))
        clear hb
        clear m1 m2 m3 m4 m5 m6
        obtain ⟨m1, m2, m3, m4, m5, m6⟩ := hk.out v5 HC5.out
        go_wp2_with fail
        by_cases hkm : k < m
        · have hkm2 : decide ((m : Int) ≤ (k : Int)) = false := by simp; omega
          refine (right_any (.mk 2 k []) _ 4 _ (lvV_leaf _ 2 k) (by rw [leaf_nodes]; omega) true (by rw [right_par]; simp; try omega)).mono ?_
          rintro e v6 ⟨rfl, hb⟩
          have HC6 := Lib.hid (HC5.out.trans (hb.mono HC5.out.size))
          clear hb
          clear m1 m2 m3 m4 m5 m6
          obtain ⟨m1, m2, m3, m4, m5, m6⟩ := hk.out v6 HC6.out
          have HW := Lib.hid (HS.out.below HC6.out)
          obtain ⟨A', m', c', e', hN', _, hA', hx'⟩ := HW.out
          cases e'
          obtain ⟨bq, oq, rfl, hbq, hcq⟩ := hx'.at_ (k := k) (by rw [HN.out]; exact hkm)
          have hpf : parF zs k = min (zs[k]'(by rw [HN.out]; exact hkm)).toNat 1048576 := by unfold parF; rw [List.getElem?_eq_getElem]
          have HPF := Lib.hid hpf
          have hk0' : (0 : Int) ≤ (k : Int) := by omega
          have hk1' : (k : Int) < (m : Int) := by omega
          obtain ⟨R, hR⟩ : ∃ R, parF zs k = R := ⟨_, rfl⟩
          have HR := Lib.hid hR
          have CV : Hid (∀ w', Below v6.heap.size v6 w' → Calls Try.prog 15 #[.agg #[.int .i64 2, .int .i64 k, .slice none 0 0], .slice (some ⟨bq, oq, none⟩) m c] w' (Ret w' (.int .i64 R))) := fun w' h => by
            have := pvalue_any (.mk 2 k []) _ _ zs w' (lvV_leaf _ 2 k) (HW.out.below h) HL.out (by rw [leaf_nodes]; omega) _ (val_par (k := k) (by omega) zs)
            rwa [hR] at this
          generalize zs[k]'(by rw [HN.out]; exact hkm) = z at *
          have HE : Hid (R = min z.toNat 1048576) := by rw [← HR.out]; exact HPF.out
          have hk9 : Hid (∀ W', Below v6.heap.size v6 W' → W'.cell? ⟨B8, 0, none⟩ = some (.int .i64 2) ∧ W'.cell? ⟨B8, 1, none⟩ = some (.int .i64 k) ∧ W'.cell? ⟨B8, 2, none⟩ = some (.slice none 0 0) ∧ W'.cell? ⟨bq, oq + k, none⟩ = some (.int .i64 z)) := fun W' h => by
            have q := hk.out W' (HC6.out.trans (h.mono HC6.out.size))
            exact ⟨q.2.2.2.1, q.2.2.2.2.1, q.2.2.2.2.2, (h.cell (p := ⟨bq, _, none⟩) hbq).trans hcq⟩
          have HD : Hid (Below v6.heap.size v6 v6.drew) := (Below.refl _ _).drew
          clear hR hpf hx' hN' hA' HW
          clear m1 m2 m3
          go_wp2_with fail
          have hcq9 := hcq
          have hR7 : R ≤ 1048576 := by have := HE.out; omega
          by_cases hneg : z < 0
          · have hf : R = 0 := by have := HE.out; omega
            subst hf
            go_region_held3 (fun W' => W'.cell? ⟨B8, 0, none⟩ = some (.int .i64 2) ∧ W'.cell? ⟨B8, 1, none⟩ = some (.int .i64 k) ∧ W'.cell? ⟨B8, 2, none⟩ = some (.slice none 0 0) ∧ W'.cell? ⟨bq, oq + k, none⟩ = some (.int .i64 z)) (first | exact hk9.out _ HD.out | exact hk9.out _ hcV.out) (first | (go_at_call 15; refine (CV.out _ HD.out).mono ?_; rintro e wV ⟨rfl, hb9⟩; have hcV : Hid (Below v6.heap.size v6 wV) := HD.out.trans (hb9.mono HD.out.size); clear hb9))
            all_goals (
              go_wp2_with fail
              go_ret
              exact ⟨rfl, HB3.out.trans ((HC6.out.trans (hcV.out.mono HC6.out.size)).mono HB3.out.size)⟩)
          · have hz0 : (0 : Int) ≤ z := by omega
            by_cases hbig : z ≤ 1048576
            · obtain ⟨z', rfl⟩ := Int.eq_ofNat_of_zero_le hz0
              obtain rfl : R = z' := by have := HE.out; omega
              have hdd : decide ((R : Int) = (R : Int)) = true := by simp
              go_region_held3 (fun W' => W'.cell? ⟨B8, 0, none⟩ = some (.int .i64 2) ∧ W'.cell? ⟨B8, 1, none⟩ = some (.int .i64 k) ∧ W'.cell? ⟨B8, 2, none⟩ = some (.slice none 0 0) ∧ W'.cell? ⟨bq, oq + k, none⟩ = some (.int .i64 (R : Nat))) (first | exact hk9.out _ HD.out | exact hk9.out _ hcV.out) (first | (go_at_call 15; refine (CV.out _ HD.out).mono ?_; rintro e wV ⟨rfl, hb9⟩; have hcV : Hid (Below v6.heap.size v6 wV) := HD.out.trans (hb9.mono HD.out.size); clear hb9))
              all_goals (
                go_wp2_with fail
                go_ret
                exact ⟨rfl, HB3.out.trans ((HC6.out.trans (hcV.out.mono HC6.out.size)).mono HB3.out.size)⟩)
            · have hbi : (1048576 : Int) < z := by omega
              obtain rfl : R = 1048576 := by have := HE.out; omega
              go_region_held3 (fun W' => W'.cell? ⟨B8, 0, none⟩ = some (.int .i64 2) ∧ W'.cell? ⟨B8, 1, none⟩ = some (.int .i64 k) ∧ W'.cell? ⟨B8, 2, none⟩ = some (.slice none 0 0) ∧ W'.cell? ⟨bq, oq + k, none⟩ = some (.int .i64 z)) (first | exact hk9.out _ HD.out | exact hk9.out _ hcV.out) (first | (go_at_call 15; refine (CV.out _ HD.out).mono ?_; rintro e wV ⟨rfl, hb9⟩; have hcV : Hid (Below v6.heap.size v6 wV) := HD.out.trans (hb9.mono HD.out.size); clear hb9))
              all_goals (
                go_wp2_with fail
                go_ret
                exact ⟨rfl, HB3.out.trans ((HC6.out.trans (hcV.out.mono HC6.out.size)).mono HB3.out.size)⟩)
        · have hkm2 : decide ((m : Int) ≤ (k : Int)) = true := by simp; omega
          have HP : Hid (parF zs k = 0) := by
            have : parF zs k = 0 := by
              unfold parF
              rw [List.getElem?_eq_none (by rw [HN.out]; omega)]
            exact this
          refine (right_any (.mk 2 k []) _ 4 _ (lvV_leaf _ 2 k) (by rw [leaf_nodes]; omega) true (by rw [right_par]; simp; try omega)).mono ?_
          rintro e v6 ⟨rfl, hb⟩
          have HC6 := Lib.hid (HC5.out.trans (hb.mono HC5.out.size))
          clear hb
          clear m1 m2 m3 m4 m5 m6
          obtain ⟨m1, m2, m3, m4, m5, m6⟩ := hk.out v6 HC6.out
          go_wp2_with fail
          refine (pvalue_any (.mk 2 k []) _ _ zs _ (lvV_leaf _ 2 k) (HS.out.below HC6.out) HL.out (by rw [leaf_nodes]; omega) 0 (by rw [← HP.out]; exact val_par (k := k) (by omega) zs)).mono ?_
          rintro e v7 ⟨rfl, hb⟩
          have HC7 := Lib.hid (HC6.out.trans (hb.mono HC6.out.size))
          clear hb
          clear m1 m2 m3 m4 m5 m6
          obtain ⟨m1, m2, m3, m4, m5, m6⟩ := hk.out v7 HC7.out
          go_wp2_with fail
          go_ret
          exact ⟨rfl, HB3.out.trans (HC7.out.mono HB3.out.size)⟩
    · have hk0 : decide ((0 : Int) ≤ k) = true := by simp; omega
      have hk1 : decide (k < 4) = false := by simp; omega
      refine (right_any (.mk 1 n []) _ 0 _ (lvV_leaf _ 1 n) (by rw [leaf_nodes]; omega) true (by rw [right_num]; simp; try omega)).mono ?_
      rintro e v1 ⟨rfl, hb⟩
      have HC1 := Lib.hid (HC0.out.trans (hb.mono HC0.out.size))
      clear hb
      obtain ⟨m1, m2, m3, m4, m5, m6⟩ := hk.out v1 HC1.out
      go_wp2_with fail
      refine (right_any (.mk 2 k []) _ 4 _ (lvV_leaf _ 2 k) (by rw [leaf_nodes]; omega) false (by rw [right_par]; simp; try omega)).mono ?_
      rintro e v2 ⟨rfl, hb⟩
      have HC2 := Lib.hid (HC1.out.trans (hb.mono HC1.out.size))
      clear hb
      clear m1 m2 m3 m4 m5 m6
      obtain ⟨m1, m2, m3, m4, m5, m6⟩ := hk.out v2 HC2.out
      go_wp2_with fail
      refine (right_any (.mk 1 n []) _ 0 _ (lvV_leaf _ 1 n) (by rw [leaf_nodes]; omega) true (by rw [right_num]; simp; try omega)).mono ?_
      rintro e v3 ⟨rfl, hb⟩
      have HC3 := Lib.hid (HC2.out.trans (hb.mono HC2.out.size))
      clear hb
      clear m1 m2 m3 m4 m5 m6
      obtain ⟨m1, m2, m3, m4, m5, m6⟩ := hk.out v3 HC3.out
      go_wp2_with fail
      refine (pvalue_any (.mk 1 n []) _ _ zs _ (lvV_leaf _ 1 n) (HS.out.below HC3.out) HL.out (by rw [leaf_nodes]; omega) n (val_num (by omega) zs)).mono ?_
      rintro e v4 ⟨rfl, hb⟩
      have HC4 := Lib.hid (HC3.out.trans (hb.mono HC3.out.size))
      clear hb
      clear m1 m2 m3 m4 m5 m6
      obtain ⟨m1, m2, m3, m4, m5, m6⟩ := hk.out v4 HC4.out
      go_wp2_with fail
      by_cases hn0' : n = 0
      · subst hn0'
        refine (zero_any (.mk 1 ((0 : Nat) : Int) []) _ _ (lvV_leaf _ 1 0) (by rw [leaf_nodes]; omega) true (zero_num (n := 0) (by omega))).mono ?_
        rintro e v5 ⟨rfl, hb⟩
        have HC5 := Lib.hid (HC4.out.trans (hb.mono HC4.out.size))
        clear hb
        clear m1 m2 m3 m4 m5 m6
        obtain ⟨m1, m2, m3, m4, m5, m6⟩ := hk.out v5 HC5.out
        go_wp2_with fail
        refine (right_any (.mk 2 k []) _ 4 _ (lvV_leaf _ 2 k) (by rw [leaf_nodes]; omega) false (by rw [right_par]; simp; try omega)).mono ?_
        rintro e v6 ⟨rfl, hb⟩
        have HC6 := Lib.hid (HC5.out.trans (hb.mono HC5.out.size))
        clear hb
        clear m1 m2 m3 m4 m5 m6
        obtain ⟨m1, m2, m3, m4, m5, m6⟩ := hk.out v6 HC6.out
        go_wp2_with fail
        refine (pvalue_any (.mk 2 k []) _ _ zs _ (lvV_leaf _ 2 k) (HS.out.below HC6.out) HL.out (by rw [leaf_nodes]; omega) 0 (val_par_no (by rw [right_par]; simp; try omega) zs)).mono ?_
        rintro e v7 ⟨rfl, hb⟩
        have HC7 := Lib.hid (HC6.out.trans (hb.mono HC6.out.size))
        clear hb
        clear m1 m2 m3 m4 m5 m6
        obtain ⟨m1, m2, m3, m4, m5, m6⟩ := hk.out v7 HC7.out
        go_wp2_with fail
        go_ret
        exact ⟨rfl, HB3.out.trans (HC7.out.mono HB3.out.size)⟩
      · have hnz : ((n : Int) == 0) = false := by simp; omega
        refine (zero_any (.mk 1 n []) _ _ (lvV_leaf _ 1 n) (by rw [leaf_nodes]; omega) false (by have := zero_num (n := n) (by omega); rwa [decide_eq_false hn0'] at this)).mono ?_
        rintro e v5 ⟨rfl, hb⟩
        have HC5 := Lib.hid (HC4.out.trans (hb.mono HC4.out.size))
        clear hb
        clear m1 m2 m3 m4 m5 m6
        obtain ⟨m1, m2, m3, m4, m5, m6⟩ := hk.out v5 HC5.out
        go_wp2_with fail
        refine (right_any (.mk 2 k []) _ 4 _ (lvV_leaf _ 2 k) (by rw [leaf_nodes]; omega) false (by rw [right_par]; simp; try omega)).mono ?_
        rintro e v6 ⟨rfl, hb⟩
        have HC6 := Lib.hid (HC5.out.trans (hb.mono HC5.out.size))
        clear hb
        clear m1 m2 m3 m4 m5 m6
        obtain ⟨m1, m2, m3, m4, m5, m6⟩ := hk.out v6 HC6.out
        go_wp2_with fail
        refine (pvalue_any (.mk 2 k []) _ _ zs _ (lvV_leaf _ 2 k) (HS.out.below HC6.out) HL.out (by rw [leaf_nodes]; omega) 0 (val_par_no (by rw [right_par]; simp; try omega) zs)).mono ?_
        rintro e v7 ⟨rfl, hb⟩
        have HC7 := Lib.hid (HC6.out.trans (hb.mono HC6.out.size))
        clear hb
        clear m1 m2 m3 m4 m5 m6
        obtain ⟨m1, m2, m3, m4, m5, m6⟩ := hk.out v7 HC7.out
        go_wp2_with fail
        go_ret
        exact ⟨rfl, HB3.out.trans (HC7.out.mono HB3.out.size)⟩
  · have hd0 : decide ((0 : Int) ≤ n) = true := by simp; omega
    have hd1 : decide (n ≤ 100) = false := by simp; omega
    by_cases hkn : k < 0
    · have hk0 : decide ((0 : Int) ≤ k) = false := by simp; omega
      refine (right_any (.mk 1 n []) _ 0 _ (lvV_leaf _ 1 n) (by rw [leaf_nodes]; omega) false (by rw [right_num]; simp; try omega)).mono ?_
      rintro e v1 ⟨rfl, hb⟩
      have HC1 := Lib.hid (HC0.out.trans (hb.mono HC0.out.size))
      clear hb
      obtain ⟨m1, m2, m3, m4, m5, m6⟩ := hk.out v1 HC1.out
      go_wp2_with fail
      refine (right_any (.mk 2 k []) _ 4 _ (lvV_leaf _ 2 k) (by rw [leaf_nodes]; omega) false (by rw [right_par]; simp; try omega)).mono ?_
      rintro e v2 ⟨rfl, hb⟩
      have HC2 := Lib.hid (HC1.out.trans (hb.mono HC1.out.size))
      clear hb
      clear m1 m2 m3 m4 m5 m6
      obtain ⟨m1, m2, m3, m4, m5, m6⟩ := hk.out v2 HC2.out
      go_wp2_with fail
      refine (right_any (.mk 1 n []) _ 0 _ (lvV_leaf _ 1 n) (by rw [leaf_nodes]; omega) false (by rw [right_num]; simp; try omega)).mono ?_
      rintro e v3 ⟨rfl, hb⟩
      have HC3 := Lib.hid (HC2.out.trans (hb.mono HC2.out.size))
      clear hb
      clear m1 m2 m3 m4 m5 m6
      obtain ⟨m1, m2, m3, m4, m5, m6⟩ := hk.out v3 HC3.out
      go_wp2_with fail
      refine (right_any (.mk 2 k []) _ 4 _ (lvV_leaf _ 2 k) (by rw [leaf_nodes]; omega) false (by rw [right_par]; simp; try omega)).mono ?_
      rintro e v4 ⟨rfl, hb⟩
      have HC4 := Lib.hid (HC3.out.trans (hb.mono HC3.out.size))
      clear hb
      clear m1 m2 m3 m4 m5 m6
      obtain ⟨m1, m2, m3, m4, m5, m6⟩ := hk.out v4 HC4.out
      go_wp2_with fail
      refine (pvalue_any (.mk 2 k []) _ _ zs _ (lvV_leaf _ 2 k) (HS.out.below HC4.out) HL.out (by rw [leaf_nodes]; omega) 0 (val_par_no (by rw [right_par]; simp; try omega) zs)).mono ?_
      rintro e v5 ⟨rfl, hb⟩
      have HC5 := Lib.hid (HC4.out.trans (hb.mono HC4.out.size))
      clear hb
      clear m1 m2 m3 m4 m5 m6
      obtain ⟨m1, m2, m3, m4, m5, m6⟩ := hk.out v5 HC5.out
      go_wp2_with fail
      go_ret
      exact ⟨rfl, HB3.out.trans (HC5.out.mono HB3.out.size)⟩
    by_cases hk4 : k < 4
    · obtain ⟨k', rfl⟩ := Int.eq_ofNat_of_zero_le (show 0 ≤ k by omega)
      rename Nat => k
      have hk0 : decide ((0 : Int) ≤ (k : Int)) = true := by simp
      have hk1 : decide ((k : Int) < 4) = true := by simp; omega
      refine (right_any (.mk 1 n []) _ 0 _ (lvV_leaf _ 1 n) (by rw [leaf_nodes]; omega) false (by rw [right_num]; simp; try omega)).mono ?_
      rintro e v1 ⟨rfl, hb⟩
      have HC1 := Lib.hid (HC0.out.trans (hb.mono HC0.out.size))
      clear hb
      obtain ⟨m1, m2, m3, m4, m5, m6⟩ := hk.out v1 HC1.out
      go_wp2_with fail
      refine (right_any (.mk 2 k []) _ 4 _ (lvV_leaf _ 2 k) (by rw [leaf_nodes]; omega) true (by rw [right_par]; simp; try omega)).mono ?_
      rintro e v2 ⟨rfl, hb⟩
      have HC2 := Lib.hid (HC1.out.trans (hb.mono HC1.out.size))
      clear hb
      clear m1 m2 m3 m4 m5 m6
      obtain ⟨m1, m2, m3, m4, m5, m6⟩ := hk.out v2 HC2.out
      go_wp2_with fail
      refine (right_any (.mk 1 n []) _ 0 _ (lvV_leaf _ 1 n) (by rw [leaf_nodes]; omega) false (by rw [right_num]; simp; try omega)).mono ?_
      rintro e v3 ⟨rfl, hb⟩
      have HC3 := Lib.hid (HC2.out.trans (hb.mono HC2.out.size))
      clear hb
      clear m1 m2 m3 m4 m5 m6
      obtain ⟨m1, m2, m3, m4, m5, m6⟩ := hk.out v3 HC3.out
      go_wp2_with fail
      by_cases hkm : k < m
      · have hkm2 : decide ((m : Int) ≤ (k : Int)) = false := by simp; omega
        refine (right_any (.mk 2 k []) _ 4 _ (lvV_leaf _ 2 k) (by rw [leaf_nodes]; omega) true (by rw [right_par]; simp; try omega)).mono ?_
        rintro e v4 ⟨rfl, hb⟩
        have HC4 := Lib.hid (HC3.out.trans (hb.mono HC3.out.size))
        clear hb
        clear m1 m2 m3 m4 m5 m6
        obtain ⟨m1, m2, m3, m4, m5, m6⟩ := hk.out v4 HC4.out
        have HW := Lib.hid (HS.out.below HC4.out)
        obtain ⟨A', m', c', e', hN', _, hA', hx'⟩ := HW.out
        cases e'
        obtain ⟨bq, oq, rfl, hbq, hcq⟩ := hx'.at_ (k := k) (by rw [HN.out]; exact hkm)
        have hpf : parF zs k = min (zs[k]'(by rw [HN.out]; exact hkm)).toNat 1048576 := by unfold parF; rw [List.getElem?_eq_getElem]
        have HPF := Lib.hid hpf
        have hk0' : (0 : Int) ≤ (k : Int) := by omega
        have hk1' : (k : Int) < (m : Int) := by omega
        obtain ⟨R, hR⟩ : ∃ R, parF zs k = R := ⟨_, rfl⟩
        have HR := Lib.hid hR
        have CV : Hid (∀ w', Below v4.heap.size v4 w' → Calls Try.prog 15 #[.agg #[.int .i64 2, .int .i64 k, .slice none 0 0], .slice (some ⟨bq, oq, none⟩) m c] w' (Ret w' (.int .i64 R))) := fun w' h => by
          have := pvalue_any (.mk 2 k []) _ _ zs w' (lvV_leaf _ 2 k) (HW.out.below h) HL.out (by rw [leaf_nodes]; omega) _ (val_par (k := k) (by omega) zs)
          rwa [hR] at this
        generalize zs[k]'(by rw [HN.out]; exact hkm) = z at *
        have HE : Hid (R = min z.toNat 1048576) := by rw [← HR.out]; exact HPF.out
        have hk9 : Hid (∀ W', Below v4.heap.size v4 W' → W'.cell? ⟨B8, 0, none⟩ = some (.int .i64 2) ∧ W'.cell? ⟨B8, 1, none⟩ = some (.int .i64 k) ∧ W'.cell? ⟨B8, 2, none⟩ = some (.slice none 0 0) ∧ W'.cell? ⟨bq, oq + k, none⟩ = some (.int .i64 z)) := fun W' h => by
          have q := hk.out W' (HC4.out.trans (h.mono HC4.out.size))
          exact ⟨q.2.2.2.1, q.2.2.2.2.1, q.2.2.2.2.2, (h.cell (p := ⟨bq, _, none⟩) hbq).trans hcq⟩
        have HD : Hid (Below v4.heap.size v4 v4.drew) := (Below.refl _ _).drew
        clear hR hpf hx' hN' hA' HW
        clear m1 m2 m3
        go_wp2_with fail
        have hcq9 := hcq
        have hR7 : R ≤ 1048576 := by have := HE.out; omega
        by_cases hneg : z < 0
        · have hf : R = 0 := by have := HE.out; omega
          subst hf
          go_region_held3 (fun W' => W'.cell? ⟨B8, 0, none⟩ = some (.int .i64 2) ∧ W'.cell? ⟨B8, 1, none⟩ = some (.int .i64 k) ∧ W'.cell? ⟨B8, 2, none⟩ = some (.slice none 0 0) ∧ W'.cell? ⟨bq, oq + k, none⟩ = some (.int .i64 z)) (first | exact hk9.out _ HD.out | exact hk9.out _ hcV.out) (first | (go_at_call 15; refine (CV.out _ HD.out).mono ?_; rintro e wV ⟨rfl, hb9⟩; have hcV : Hid (Below v4.heap.size v4 wV) := HD.out.trans (hb9.mono HD.out.size); clear hb9))
          all_goals (
            go_wp2_with fail
            go_ret
            exact ⟨rfl, HB3.out.trans ((HC4.out.trans (hcV.out.mono HC4.out.size)).mono HB3.out.size)⟩)
        · have hz0 : (0 : Int) ≤ z := by omega
          by_cases hbig : z ≤ 1048576
          · obtain ⟨z', rfl⟩ := Int.eq_ofNat_of_zero_le hz0
            obtain rfl : R = z' := by have := HE.out; omega
            have hdd : decide ((R : Int) = (R : Int)) = true := by simp
            go_region_held3 (fun W' => W'.cell? ⟨B8, 0, none⟩ = some (.int .i64 2) ∧ W'.cell? ⟨B8, 1, none⟩ = some (.int .i64 k) ∧ W'.cell? ⟨B8, 2, none⟩ = some (.slice none 0 0) ∧ W'.cell? ⟨bq, oq + k, none⟩ = some (.int .i64 (R : Nat))) (first | exact hk9.out _ HD.out | exact hk9.out _ hcV.out) (first | (go_at_call 15; refine (CV.out _ HD.out).mono ?_; rintro e wV ⟨rfl, hb9⟩; have hcV : Hid (Below v4.heap.size v4 wV) := HD.out.trans (hb9.mono HD.out.size); clear hb9))
            all_goals (
              go_wp2_with fail
              go_ret
              exact ⟨rfl, HB3.out.trans ((HC4.out.trans (hcV.out.mono HC4.out.size)).mono HB3.out.size)⟩)
          · have hbi : (1048576 : Int) < z := by omega
            obtain rfl : R = 1048576 := by have := HE.out; omega
            go_region_held3 (fun W' => W'.cell? ⟨B8, 0, none⟩ = some (.int .i64 2) ∧ W'.cell? ⟨B8, 1, none⟩ = some (.int .i64 k) ∧ W'.cell? ⟨B8, 2, none⟩ = some (.slice none 0 0) ∧ W'.cell? ⟨bq, oq + k, none⟩ = some (.int .i64 z)) (first | exact hk9.out _ HD.out | exact hk9.out _ hcV.out) (first | (go_at_call 15; refine (CV.out _ HD.out).mono ?_; rintro e wV ⟨rfl, hb9⟩; have hcV : Hid (Below v4.heap.size v4 wV) := HD.out.trans (hb9.mono HD.out.size); clear hb9))
            all_goals (
              go_wp2_with fail
              go_ret
              exact ⟨rfl, HB3.out.trans ((HC4.out.trans (hcV.out.mono HC4.out.size)).mono HB3.out.size)⟩)
      · have hkm2 : decide ((m : Int) ≤ (k : Int)) = true := by simp; omega
        have HP : Hid (parF zs k = 0) := by
          have : parF zs k = 0 := by
            unfold parF
            rw [List.getElem?_eq_none (by rw [HN.out]; omega)]
          exact this
        refine (right_any (.mk 2 k []) _ 4 _ (lvV_leaf _ 2 k) (by rw [leaf_nodes]; omega) true (by rw [right_par]; simp; try omega)).mono ?_
        rintro e v4 ⟨rfl, hb⟩
        have HC4 := Lib.hid (HC3.out.trans (hb.mono HC3.out.size))
        clear hb
        clear m1 m2 m3 m4 m5 m6
        obtain ⟨m1, m2, m3, m4, m5, m6⟩ := hk.out v4 HC4.out
        go_wp2_with fail
        refine (pvalue_any (.mk 2 k []) _ _ zs _ (lvV_leaf _ 2 k) (HS.out.below HC4.out) HL.out (by rw [leaf_nodes]; omega) 0 (by rw [← HP.out]; exact val_par (k := k) (by omega) zs)).mono ?_
        rintro e v5 ⟨rfl, hb⟩
        have HC5 := Lib.hid (HC4.out.trans (hb.mono HC4.out.size))
        clear hb
        clear m1 m2 m3 m4 m5 m6
        obtain ⟨m1, m2, m3, m4, m5, m6⟩ := hk.out v5 HC5.out
        go_wp2_with fail
        go_ret
        exact ⟨rfl, HB3.out.trans (HC5.out.mono HB3.out.size)⟩
    · have hk0 : decide ((0 : Int) ≤ k) = true := by simp; omega
      have hk1 : decide (k < 4) = false := by simp; omega
      refine (right_any (.mk 1 n []) _ 0 _ (lvV_leaf _ 1 n) (by rw [leaf_nodes]; omega) false (by rw [right_num]; simp; try omega)).mono ?_
      rintro e v1 ⟨rfl, hb⟩
      have HC1 := Lib.hid (HC0.out.trans (hb.mono HC0.out.size))
      clear hb
      obtain ⟨m1, m2, m3, m4, m5, m6⟩ := hk.out v1 HC1.out
      go_wp2_with fail
      refine (right_any (.mk 2 k []) _ 4 _ (lvV_leaf _ 2 k) (by rw [leaf_nodes]; omega) false (by rw [right_par]; simp; try omega)).mono ?_
      rintro e v2 ⟨rfl, hb⟩
      have HC2 := Lib.hid (HC1.out.trans (hb.mono HC1.out.size))
      clear hb
      clear m1 m2 m3 m4 m5 m6
      obtain ⟨m1, m2, m3, m4, m5, m6⟩ := hk.out v2 HC2.out
      go_wp2_with fail
      refine (right_any (.mk 1 n []) _ 0 _ (lvV_leaf _ 1 n) (by rw [leaf_nodes]; omega) false (by rw [right_num]; simp; try omega)).mono ?_
      rintro e v3 ⟨rfl, hb⟩
      have HC3 := Lib.hid (HC2.out.trans (hb.mono HC2.out.size))
      clear hb
      clear m1 m2 m3 m4 m5 m6
      obtain ⟨m1, m2, m3, m4, m5, m6⟩ := hk.out v3 HC3.out
      go_wp2_with fail
      refine (right_any (.mk 2 k []) _ 4 _ (lvV_leaf _ 2 k) (by rw [leaf_nodes]; omega) false (by rw [right_par]; simp; try omega)).mono ?_
      rintro e v4 ⟨rfl, hb⟩
      have HC4 := Lib.hid (HC3.out.trans (hb.mono HC3.out.size))
      clear hb
      clear m1 m2 m3 m4 m5 m6
      obtain ⟨m1, m2, m3, m4, m5, m6⟩ := hk.out v4 HC4.out
      go_wp2_with fail
      refine (pvalue_any (.mk 2 k []) _ _ zs _ (lvV_leaf _ 2 k) (HS.out.below HC4.out) HL.out (by rw [leaf_nodes]; omega) 0 (val_par_no (by rw [right_par]; simp; try omega) zs)).mono ?_
      rintro e v5 ⟨rfl, hb⟩
      have HC5 := Lib.hid (HC4.out.trans (hb.mono HC4.out.size))
      clear hb
      clear m1 m2 m3 m4 m5 m6
      obtain ⟨m1, m2, m3, m4, m5, m6⟩ := hk.out v5 HC5.out
      go_wp2_with fail
      go_ret
      exact ⟨rfl, HB3.out.trans (HC5.out.mono HB3.out.size)⟩
end Go.Proofs.Yteghldgopidhhaa
