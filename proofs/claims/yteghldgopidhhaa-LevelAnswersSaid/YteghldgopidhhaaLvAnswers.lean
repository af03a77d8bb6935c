/-
  The law LevelAnswers, walked: whatever comes in, it returns true, and nothing that was there turns.
  Conditions: the levels and the slice of numbers lie in memory as told by 'LvV', 'NSl'; the laws' own check 'alive' returns true.
-/
import Derived.Test.YteghldgopidhhaaLvAlv
import Derived.Test.YteghldgopidhhaaLvHeld
import Derived.Test.YteghldgopidhhaaLvSam
import Derived.Test.YteghldgopidhhaaLvZero
import Derived.Test.YteghldgopidhhaaLvNever
import Derived.Test.YteghldgopidhhaaLvPVal
import Derived.Test.YteghldgopidhhaaLvGreat
import Derived.Test.YteghldgopidhhaaLvSame
import Derived.Test.YteghldgopidhhaaLvMake
import Derived.Deep.DeepCutAuto
namespace Go.Proofs.Yteghldgopidhhaa
open Go.RowKit
open Lvl

set_option maxRecDepth 100000 in
set_option maxHeartbeats 4000000 in
theorem levelAnswers_any (AL : ∀ w, Calls Try.prog 8 #[] w (Ret w (.bool true))) (a b : Lv) (va vb : Value) (q : Int) (S : Value) (zs : List Int) (w : World) (hv1 : LvV w a va) (hv2 : LvV w b vb) (hS : NSl w S zs) (hl : zs.length ≤ 140737488355328) :
    Calls Try.prog 3 #[va, vb, .int .i64 q, S] w (Ret w (.bool true)) := by
  obtain ⟨i0, hi0, hz0, hz1', hz2'⟩ := info_parts infoLv
  have HAL := Lib.hid AL
  have HS0 := Lib.hid hS
  obtain ⟨A, m, cp, rfl, hN, hc, hA, hx⟩ := hS
  have HL := Lib.hid hl
  have hm7 : m ≤ 140737488355328 := by rw [← hN]; exact hl
  clear AL hx hA hN hl
  obtain ⟨g1, hg1⟩ : ∃ g, decide (300 < nodes a) = g := ⟨_, rfl⟩
  obtain ⟨g2, hg2⟩ : ∃ g, decide (300 < nodes b) = g := ⟨_, rfl⟩
  have HG1 := Lib.hid hg1
  have HG2 := Lib.hid hg2
  obtain ⟨rn, hrn⟩ : ∃ r, rightB q a = r := ⟨_, rfl⟩
  obtain ⟨lab, hlab⟩ := leqIs_ex a b
  obtain ⟨lba, hlba⟩ := leqIs_ex b a
  obtain ⟨lz, hlz⟩ := leqIs_ex a (numLv 0)
  obtain ⟨ln, hln⟩ := leqIs_ex (numLv 1) a
  obtain ⟨R, hR⟩ := valIs_ex a zs
  obtain ⟨N, hN⟩ : ∃ N, min (nodes a) 65 = N := ⟨_, rfl⟩
  have HRN := Lib.hid hrn
  have HLAB := Lib.hid hlab
  have HLBA := Lib.hid hlba
  have HLZ := Lib.hid hlz
  have HLN := Lib.hid hln
  have HVR := Lib.hid hR
  have HNN := Lib.hid hN
  clear hg1 hg2 hrn hlab hlba hlz hln hR hN
  obtain ⟨s1, rfl, hs1⟩ := hv1
  have HV1 := Lib.hid (show LvV w a _ from ⟨s1, rfl, hs1⟩)
  obtain ⟨s2, rfl, hs2⟩ := hv2
  have HV2 := Lib.hid (show LvV w b _ from ⟨s2, rfl, hs2⟩)
  generalize kindOf a = k1 at *
  generalize numOf a = n1 at *
  generalize kindOf b = k2 at *
  generalize numOf b = n2 at *
  clear hs1 hs2
  go_enter Try.func3, Try.ntmps3
  go_wp2_with fail
  have hz1 : (w.alloc (.cells #[.int .i64 k1, .int .i64 n1, s1] 24)).heap.size = w.heap.size + 1 := by simp
  have hr1 : (w.alloc (.cells #[.int .i64 k1, .int .i64 n1, s1] 24)).heap[w.heap.size]? = some (.cells #[.int .i64 k1, .int .i64 n1, s1] 24) := by
    have := heap_alloc_new w (.cells #[.int .i64 k1, .int .i64 n1, s1] 24)
    exact this
  have hz2 : ((w.alloc (.cells #[.int .i64 k1, .int .i64 n1, s1] 24)).alloc (.cells #[.int .i64 k2, .int .i64 n2, s2] 24)).heap.size = w.heap.size + 1 + 1 := by simp
  have hr2 : ((w.alloc (.cells #[.int .i64 k1, .int .i64 n1, s1] 24)).alloc (.cells #[.int .i64 k2, .int .i64 n2, s2] 24)).heap[w.heap.size + 1]? = some (.cells #[.int .i64 k2, .int .i64 n2, s2] 24) := by
    have := heap_alloc_new (w.alloc (.cells #[.int .i64 k1, .int .i64 n1, s1] 24)) (.cells #[.int .i64 k2, .int .i64 n2, s2] 24)
    rwa [hz1] at this
  have HB := Lib.hid ((below_lit w (.cells #[.int .i64 k1, .int .i64 n1, s1] 24)).trans ((below_lit (w.alloc (.cells #[.int .i64 k1, .int .i64 n1, s1] 24)) (.cells #[.int .i64 k2, .int .i64 n2, s2] 24)).mono (below_lit w (.cells #[.int .i64 k1, .int .i64 n1, s1] 24)).size))
  have HR0 := Lib.hid ((heap_alloc_old (w.alloc (.cells #[.int .i64 k1, .int .i64 n1, s1] 24)) (.cells #[.int .i64 k2, .int .i64 n2, s2] 24) (by rw [hz1]; omega)).trans (hr1))
  have HZ0 := Lib.hid (show w.heap.size < ((w.alloc (.cells #[.int .i64 k1, .int .i64 n1, s1] 24)).alloc (.cells #[.int .i64 k2, .int .i64 n2, s2] 24)).heap.size by rw [hz2]; omega)
  have HR1 := Lib.hid (hr2)
  have HZ1 := Lib.hid (show w.heap.size + 1 < ((w.alloc (.cells #[.int .i64 k1, .int .i64 n1, s1] 24)).alloc (.cells #[.int .i64 k2, .int .i64 n2, s2] 24)).heap.size by rw [hz2]; omega)
  clear hr1 hr2
  generalize ((w.alloc (.cells #[.int .i64 k1, .int .i64 n1, s1] 24)).alloc (.cells #[.int .i64 k2, .int .i64 n2, s2] 24)) = W at *
  clear hz1 hz2
  have hk : Hid (∀ W', Below W.heap.size W W' → W'.cell? ⟨w.heap.size, 0, none⟩ = some (.int .i64 k1) ∧ W'.cell? ⟨w.heap.size, 1, none⟩ = some (.int .i64 n1) ∧ W'.cell? ⟨w.heap.size, 2, none⟩ = some (s1) ∧ W'.cell? ⟨w.heap.size + 1, 0, none⟩ = some (.int .i64 k2) ∧ W'.cell? ⟨w.heap.size + 1, 1, none⟩ = some (.int .i64 n2) ∧ W'.cell? ⟨w.heap.size + 1, 2, none⟩ = some (s2)) := fun W' h => by
    have p0 := (h.block (w.heap.size) HZ0.out).trans HR0.out
    have p1 := (h.block (w.heap.size + 1) HZ1.out).trans HR1.out
    exact ⟨cell_of_row _ _ 0 _ 24 (0, 0) p0, cell_of_row _ _ 1 _ 24 (0, 0) p0, cell_of_row _ _ 2 _ 24 (0, 0) p0, cell_of_row _ _ 0 _ 24 (0, 0) p1, cell_of_row _ _ 1 _ 24 (0, 0) p1, cell_of_row _ _ 2 _ 24 (0, 0) p1⟩
  have HC0 := Lib.hid (Below.refl W.heap.size W)
  have HS := Lib.hid (HS0.out.below HB.out)
  have HW1 := Lib.hid (HV1.out.below HB.out)
  have HW2 := Lib.hid (HV2.out.below HB.out)
  clear HR0 HR1 HS0 HV1 HV2
  refine (HAL.out W).mono ?_
  rintro e v1 ⟨rfl, hb⟩
  have HC1 := Lib.hid (HC0.out.trans (hb.mono HC0.out.size))
  clear hb
  obtain ⟨m1, m2, m3, m4, m5, m6⟩ := hk.out v1 HC1.out
  go_wp2_with fail
  cases g1
  case true =>
    refine (great_is a _ _ (HW1.out.below HC1.out) true HG1.out).mono ?_
    rintro e v2 ⟨rfl, hb⟩
    have HC2 := Lib.hid (HC1.out.trans (hb.mono HC1.out.size))
    clear hb
    clear m1 m2 m3 m4 m5 m6
    obtain ⟨m1, m2, m3, m4, m5, m6⟩ := hk.out v2 HC2.out
    go_wp2_with fail
    go_ret
    exact ⟨rfl, HB.out.trans (HC2.out.mono HB.out.size)⟩
  refine (great_is a _ _ (HW1.out.below HC1.out) false HG1.out).mono ?_
  rintro e v2 ⟨rfl, hb⟩
  have HC2 := Lib.hid (HC1.out.trans (hb.mono HC1.out.size))
  clear hb
  clear m1 m2 m3 m4 m5 m6
  obtain ⟨m1, m2, m3, m4, m5, m6⟩ := hk.out v2 HC2.out
  go_wp2_with fail
  cases g2
  case true =>
    refine (great_is b _ _ (HW2.out.below HC2.out) true HG2.out).mono ?_
    rintro e v3 ⟨rfl, hb⟩
    have HC3 := Lib.hid (HC2.out.trans (hb.mono HC2.out.size))
    clear hb
    clear m1 m2 m3 m4 m5 m6
    obtain ⟨m1, m2, m3, m4, m5, m6⟩ := hk.out v3 HC3.out
    go_wp2_with fail
    go_ret
    exact ⟨rfl, HB.out.trans (HC3.out.mono HB.out.size)⟩
  by_cases hm : 50 < m
  · have hd : decide ((50 : Int) < (m : Int)) = true := by simp; omega
    refine (great_is b _ _ (HW2.out.below HC2.out) false HG2.out).mono ?_
    rintro e v3 ⟨rfl, hb⟩
    have HC3 := Lib.hid (HC2.out.trans (hb.mono HC2.out.size))
    clear hb
    clear m1 m2 m3 m4 m5 m6
    obtain ⟨m1, m2, m3, m4, m5, m6⟩ := hk.out v3 HC3.out
    go_wp2_with fail
    go_ret
    exact ⟨rfl, HB.out.trans (HC3.out.mono HB.out.size)⟩
  have hd : decide ((50 : Int) < (m : Int)) = false := by simp; omega
  have HMA : Hid (nodes a ≤ 300) := by
    have h9 := of_decide_eq_false HG1.out
    have : nodes a ≤ 300 := by omega
    exact this
  have HMB : Hid (nodes b ≤ 300) := by
    have h9 := of_decide_eq_false HG2.out
    have : nodes b ≤ 300 := by omega
    exact this
  refine (great_is b _ _ (HW2.out.below HC2.out) false HG2.out).mono ?_
  rintro e v3 ⟨rfl, hb⟩
  have HC3 := Lib.hid (HC2.out.trans (hb.mono HC2.out.size))
  clear hb
  clear m1 m2 m3 m4 m5 m6
  obtain ⟨m1, m2, m3, m4, m5, m6⟩ := hk.out v3 HC3.out
  go_wp2_with fail
  have hkk := HW1.out
  obtain ⟨sk, hvk, hsk⟩ := hkk
  have hkind : k1 = kindOf a ∧ n1 = numOf a ∧ s1 = sk := by
    have := congrArg (fun v => match v with | Value.agg cs => cs.toList | _ => []) hvk
    simpa using this
  obtain ⟨hke, hne, hse⟩ := hkind
  have HKE := Lib.hid hke
  have HNE := Lib.hid hne
  clear hvk hsk hke hne hse
  refine (copyLevel_up (nodes a) a _ v3 (Nat.le_refl _) (Nat.le_trans HMA.out (by decide)) (HW1.out.below HC3.out)).mono ?_
  rintro e x0 ⟨s9, rfl, hs9, hb⟩
  rw [← HKE.out, ← HNE.out]
  obtain ⟨va, vl, vc, rfl⟩ := lvP_slice hs9
  have hb' := hb.trans ((below_lit x0 (.cells #[.int .i64 k1, .int .i64 n1, .slice va vl vc] 24)).mono hb.size)
  have HC4 := Lib.hid (HC3.out.trans (hb'.mono HC3.out.size))
  have HRO := Lib.hid (heap_alloc_new x0 (.cells #[.int .i64 k1, .int .i64 n1, .slice va vl vc] 24))
  have HZO := Lib.hid (show x0.heap.size < (x0.alloc (.cells #[.int .i64 k1, .int .i64 n1, .slice va vl vc] 24)).heap.size by simp)
  have HOW : Hid (LvV (x0.alloc (.cells #[.int .i64 k1, .int .i64 n1, .slice va vl vc] 24)) a (.agg #[.int .i64 k1, .int .i64 n1, .slice va vl vc])) := ⟨_, by rw [← HKE.out, ← HNE.out], lvS_below (below_lit x0 _) _ _ (lvS_of _ _ hs9)⟩
  clear hb hb' hs9
  clear m1 m2 m3 m4 m5 m6
  obtain ⟨m1, m2, m3, m4, m5, m6⟩ := hk.out (x0.alloc (.cells #[.int .i64 k1, .int .i64 n1, .slice va vl vc] 24)) HC4.out
  go_wp2_with fail
  generalize hv4 : x0.alloc (.cells #[.int .i64 k1, .int .i64 n1, .slice va vl vc] 24) = v4 at *
  clear hv4
  generalize x0.heap.size = BO at *
  refine (refLeq_any a b _ _ _ (HW1.out.below HC4.out) (HW2.out.below HC4.out) lab HLAB.out).mono ?_
  rintro e v5 ⟨rfl, hb⟩
  have HC5 := Lib.hid (HC4.out.trans (hb.mono HC4.out.size))
  have HCO5 := Lib.hid hb
  clear hb
  clear m1 m2 m3 m4 m5 m6
  obtain ⟨m1, m2, m3, m4, m5, m6⟩ := hk.out v5 HC5.out
  go_wp2_with fail
  refine (refLeq_any b a _ _ _ (HW2.out.below HC5.out) (HW1.out.below HC5.out) lba HLBA.out).mono ?_
  rintro e v6 ⟨rfl, hb⟩
  have HC6 := Lib.hid (HC5.out.trans (hb.mono HC5.out.size))
  have HCO6 := Lib.hid (HCO5.out.trans (hb.mono HCO5.out.size))
  clear hb
  clear m1 m2 m3 m4 m5 m6
  obtain ⟨m1, m2, m3, m4, m5, m6⟩ := hk.out v6 HC6.out
  go_upto_region 8 with fail
  have hk9 : Hid (∀ W', Below v6.heap.size v6 W' → W'.cell? ⟨w.heap.size, 0, none⟩ = some (.int .i64 k1) ∧ W'.cell? ⟨w.heap.size, 1, none⟩ = some (.int .i64 n1) ∧ W'.cell? ⟨w.heap.size, 2, none⟩ = some (s1)) := fun W' h => by
    have h9 := hk.out W' (HC6.out.trans (h.mono HC6.out.size))
    exact ⟨h9.1, h9.2.1, h9.2.2.1⟩
  have HD : Hid (Below v6.heap.size v6 v6.drew) := (Below.refl _ _).drew
  go_cut [12] (fun sx wx => sx = .bool lz ∧ Below v6.heap.size v6 wx)
  case first =>
    go_region_held3 (fun W' => W'.cell? ⟨w.heap.size, 0, none⟩ = some (.int .i64 k1) ∧ W'.cell? ⟨w.heap.size, 1, none⟩ = some (.int .i64 n1) ∧ W'.cell? ⟨w.heap.size, 2, none⟩ = some (s1)) (first | exact hk9.out _ HD.out | exact hk9.out _ hx1.out | exact hk9.out _ hx2.out) (first | (go_at_call 12; refine (num_ret 0 _).mono ?_; rintro e x1 ⟨rfl, hb9⟩; have hx1 : Hid (Below v6.heap.size v6 x1) := HD.out.trans (hb9.mono HD.out.size); clear hb9) | (go_at_call 11; refine (refLeq_any a (numLv 0) _ _ _ (HW1.out.below (HC6.out.trans (hx1.out.mono HC6.out.size))) (lvV_leaf _ 1 0) lz HLZ.out).mono ?_; rintro e x2 ⟨rfl, hb9⟩; have hx2 : Hid (Below v6.heap.size v6 x2) := hx1.out.trans (hb9.mono hx1.out.size); clear hb9))
    all_goals (go_wp2_with fail; go_meet; exact ⟨rfl, hx2.out⟩)
  case rest =>
  obtain ⟨rfl, hbc⟩ := hcut
  have HC7 := Lib.hid (HC6.out.trans (hbc.mono HC6.out.size))
  have HCO7 := Lib.hid (HCO6.out.trans (hbc.mono HCO6.out.size))
  clear hbc hk9 HD
  clear m1 m2 m3 m4 m5 m6
  obtain ⟨m1, m2, m3, m4, m5, m6⟩ := hk.out wc HC7.out
  go_upto_region 9 with fail
  have hk9 : Hid (∀ W', Below wc.heap.size wc W' → W'.cell? ⟨w.heap.size, 0, none⟩ = some (.int .i64 k1) ∧ W'.cell? ⟨w.heap.size, 1, none⟩ = some (.int .i64 n1) ∧ W'.cell? ⟨w.heap.size, 2, none⟩ = some (s1)) := fun W' h => by
    have h9 := hk.out W' (HC7.out.trans (h.mono HC7.out.size))
    exact ⟨h9.1, h9.2.1, h9.2.2.1⟩
  have HD : Hid (Below wc.heap.size wc wc.drew) := (Below.refl _ _).drew
  go_cut [13] (fun sx wx => sx = .bool ln ∧ Below wc.heap.size wc wx)
  case first =>
    go_region_held3 (fun W' => W'.cell? ⟨w.heap.size, 0, none⟩ = some (.int .i64 k1) ∧ W'.cell? ⟨w.heap.size, 1, none⟩ = some (.int .i64 n1) ∧ W'.cell? ⟨w.heap.size, 2, none⟩ = some (s1)) (first | exact hk9.out _ HD.out | exact hk9.out _ hx1.out | exact hk9.out _ hx2.out) (first | (go_at_call 12; refine (num_ret 1 _).mono ?_; rintro e x1 ⟨rfl, hb9⟩; have hx1 : Hid (Below wc.heap.size wc x1) := HD.out.trans (hb9.mono HD.out.size); clear hb9) | (go_at_call 11; refine (refLeq_any (numLv 1) a _ _ _ (lvV_leaf _ 1 1) (HW1.out.below (HC7.out.trans (hx1.out.mono HC7.out.size))) ln HLN.out).mono ?_; rintro e x2 ⟨rfl, hb9⟩; have hx2 : Hid (Below wc.heap.size wc x2) := hx1.out.trans (hb9.mono hx1.out.size); clear hb9))
    all_goals (go_wp2_with fail; go_meet; exact ⟨rfl, hx2.out⟩)
  case rest =>
  obtain ⟨rfl, hbc⟩ := hcut
  have HC8 := Lib.hid (HC7.out.trans (hbc.mono HC7.out.size))
  have HCO8 := Lib.hid (HCO7.out.trans (hbc.mono HCO7.out.size))
  clear hbc hk9 HD
  clear m1 m2 m3 m4 m5 m6
  obtain ⟨m1, m2, m3, m4, m5, m6⟩ := hk.out wc HC8.out
  go_upto_region 10 with fail
  have HCO : Hid (Below v4.heap.size v4 wc) := HCO8.out
  have hk9 : Hid (∀ W', Below wc.heap.size wc W' → W'.cell? ⟨w.heap.size, 0, none⟩ = some (.int .i64 k1) ∧ W'.cell? ⟨w.heap.size, 1, none⟩ = some (.int .i64 n1) ∧ W'.cell? ⟨w.heap.size, 2, none⟩ = some (s1) ∧ W'.cell? ⟨w.heap.size + 1, 0, none⟩ = some (.int .i64 k2) ∧ W'.cell? ⟨w.heap.size + 1, 1, none⟩ = some (.int .i64 n2) ∧ W'.cell? ⟨w.heap.size + 1, 2, none⟩ = some (s2) ∧ W'.cell? ⟨BO, 0, none⟩ = some (.int .i64 k1) ∧ W'.cell? ⟨BO, 1, none⟩ = some (.int .i64 n1) ∧ W'.cell? ⟨BO, 2, none⟩ = some (.slice va vl vc)) := fun W' h => by
    have h9 := hk.out W' (HC8.out.trans (h.mono HC8.out.size))
    have p9 := ((HCO.out.trans (h.mono HCO.out.size)).block BO HZO.out).trans HRO.out
    exact ⟨h9.1, h9.2.1, h9.2.2.1, h9.2.2.2.1, h9.2.2.2.2.1, h9.2.2.2.2.2, cell_of_row _ _ 0 _ 24 (0, 0) p9, cell_of_row _ _ 1 _ 24 (0, 0) p9, cell_of_row _ _ 2 _ 24 (0, 0) p9⟩
  have HD : Hid (Below wc.heap.size wc wc.drew) := (Below.refl _ _).drew
  have b1 : (rn == rn) = true := by simp
  have b2 : ((R : Int) == (R : Int)) = true := by simp
  have b3 : (lba == lba) = true := by simp
  have b4 : (lz == lz) = true := by simp
  have b5 : (ln == ln) = true := by simp
  have b6 : ((N : Int) == (N : Int)) = true := by simp
  cases lab
  · refine wp_region_held_drew (S := fun W' => W'.cell? ⟨w.heap.size, 0, none⟩ = some (.int .i64 k1) ∧ W'.cell? ⟨w.heap.size, 1, none⟩ = some (.int .i64 n1) ∧ W'.cell? ⟨w.heap.size, 2, none⟩ = some (s1) ∧ W'.cell? ⟨w.heap.size + 1, 0, none⟩ = some (.int .i64 k2) ∧ W'.cell? ⟨w.heap.size + 1, 1, none⟩ = some (.int .i64 n2) ∧ W'.cell? ⟨w.heap.size + 1, 2, none⟩ = some (s2) ∧ W'.cell? ⟨BO, 0, none⟩ = some (.int .i64 k1) ∧ W'.cell? ⟨BO, 1, none⟩ = some (.int .i64 n1) ∧ W'.cell? ⟨BO, 2, none⟩ = some (.slice va vl vc)) (by kernel_rfl) (hk9.out _ HD.out) (fun hHeld => ?_)
    refine take_in (i := 0) (v := ?_) rfl (by kernel_rfl) (by kernel_rfl) (by kernel_rfl) (fun _ _ _ h => h) (by rfl) ?_ hHeld ?_
    rotate_left
    · intro w hSw
      (try dsimp only at hSw)
      go_simp
      try with_reducible rfl
    try simp only [Act.put, List.setIfInBounds_toArray, List.set_cons_zero, List.set_cons_succ]
    refine take_in (i := 1) (v := ?_) rfl (by kernel_rfl) (by kernel_rfl) (by kernel_rfl) (fun _ _ _ h => h) (by rfl) ?_ hHeld ?_
    rotate_left
    · intro w hSw
      (try dsimp only at hSw)
      go_simp
      try with_reducible rfl
    try simp only [Act.put, List.setIfInBounds_toArray, List.set_cons_zero, List.set_cons_succ]
    refine take_in (i := 3) (v := ?_) rfl (by kernel_rfl) (by kernel_rfl) (by kernel_rfl) (fun _ _ _ h => h) (by rfl) ?_ hHeld ?_
    rotate_left
    · intro w hSw
      (try dsimp only at hSw)
      go_simp
      try with_reducible rfl
    try simp only [Act.put, List.setIfInBounds_toArray, List.set_cons_zero, List.set_cons_succ]
    refine take_in (i := 4) (v := ?_) rfl (by kernel_rfl) (by kernel_rfl) (by kernel_rfl) (fun _ _ _ h => h) (by rfl) ?_ hHeld ?_
    rotate_left
    · intro w hSw
      (try dsimp only at hSw)
      go_simp
      try with_reducible rfl
    try simp only [Act.put, List.setIfInBounds_toArray, List.set_cons_zero, List.set_cons_succ]
    refine call_in (i := 2) rfl (by kernel_rfl) (fun K hK => ?_)
    clear hHeld
    go_simp
    (go_at_call 13; refine (right_any a _ q _ (HOW.out.below (HCO.out.trans (HD.out.mono HCO.out.size))) (Nat.le_trans HMA.out (by decide)) rn HRN.out).mono ?_; rintro e y1 ⟨rfl, hb9⟩; have hy1 : Hid (Below wc.heap.size wc y1) := HD.out.trans (hb9.mono HD.out.size); clear hb9)
    try (go_wp2_with fail)
    refine hK.out _ _ (hk9.out _ hy1.out) (fun hHeld => ?_)
    clear hK K
    try simp only [Act.put, List.setIfInBounds_toArray, List.set_cons_zero, List.set_cons_succ]
    refine call_in (i := 5) rfl (by kernel_rfl) (fun K hK => ?_)
    clear hHeld
    go_simp
    (go_at_call 14; refine (refRight_any a _ q _ (HW1.out.below (HC8.out.trans (hy1.out.mono HC8.out.size))) rn HRN.out).mono ?_; rintro e y2 ⟨rfl, hb9⟩; have hy2 : Hid (Below wc.heap.size wc y2) := hy1.out.trans (hb9.mono hy1.out.size); clear hb9)
    try (go_wp2_with fail)
    refine hK.out _ _ (hk9.out _ hy2.out) (fun hHeld => ?_)
    clear hK K
    try simp only [Act.put, List.setIfInBounds_toArray, List.set_cons_zero, List.set_cons_succ]
    refine take_in (i := 6) (v := ?_) rfl (by kernel_rfl) (by kernel_rfl) (by kernel_rfl) (fun _ _ _ h => h) (by rfl) ?_ hHeld ?_
    rotate_left
    · intro w hSw
      (try dsimp only at hSw)
      go_simp
      try with_reducible rfl
    try simp only [Act.put, List.setIfInBounds_toArray, List.set_cons_zero, List.set_cons_succ]
    refine take_in (i := 7) (v := ?_) rfl (by kernel_rfl) (by kernel_rfl) (by kernel_rfl) (fun _ _ _ h => h) (by rfl) ?_ hHeld ?_
    rotate_left
    · intro w hSw
      (try dsimp only at hSw)
      go_simp
      try with_reducible rfl
    try simp only [Act.put, List.setIfInBounds_toArray, List.set_cons_zero, List.set_cons_succ]
    refine take_in (i := 8) (v := ?_) rfl (by kernel_rfl) (by kernel_rfl) (by kernel_rfl) (fun _ _ _ h => h) (by rfl) ?_ hHeld ?_
    rotate_left
    · intro w hSw
      (try dsimp only at hSw)
      go_simp
      try with_reducible rfl
    try simp only [Act.put, List.setIfInBounds_toArray, List.set_cons_zero, List.set_cons_succ]
    refine take_in (i := 9) (v := ?_) rfl (by kernel_rfl) (by kernel_rfl) (by kernel_rfl) (fun _ _ _ h => h) (by rfl) ?_ hHeld ?_
    rotate_left
    · intro w hSw
      (try dsimp only at hSw)
      go_simp
      try with_reducible rfl
    try simp only [Act.put, List.setIfInBounds_toArray, List.set_cons_zero, List.set_cons_succ]
    refine take_in (i := 11) (v := ?_) rfl (by kernel_rfl) (by kernel_rfl) (by kernel_rfl) (fun _ _ _ h => h) (by rfl) ?_ hHeld ?_
    rotate_left
    · intro w hSw
      (try dsimp only at hSw)
      go_simp
      try with_reducible rfl
    try simp only [Act.put, List.setIfInBounds_toArray, List.set_cons_zero, List.set_cons_succ]
    refine take_in (i := 12) (v := ?_) rfl (by kernel_rfl) (by kernel_rfl) (by kernel_rfl) (fun _ _ _ h => h) (by rfl) ?_ hHeld ?_
    rotate_left
    · intro w hSw
      (try dsimp only at hSw)
      go_simp
      try with_reducible rfl
    try simp only [Act.put, List.setIfInBounds_toArray, List.set_cons_zero, List.set_cons_succ]
    refine call_in (i := 10) rfl (by kernel_rfl) (fun K hK => ?_)
    clear hHeld
    go_simp
    (go_at_call 15; refine (pvalue_any a _ _ zs _ (HOW.out.below (HCO.out.trans (hy2.out.mono HCO.out.size))) (HS.out.below (HC8.out.trans (hy2.out.mono HC8.out.size))) HL.out (Nat.le_trans HMA.out (by decide)) R HVR.out).mono ?_; rintro e y3 ⟨rfl, hb9⟩; have hy3 : Hid (Below wc.heap.size wc y3) := hy2.out.trans (hb9.mono hy2.out.size); clear hb9)
    try (go_wp2_with fail)
    refine hK.out _ _ (hk9.out _ hy3.out) (fun hHeld => ?_)
    clear hK K
    try simp only [Act.put, List.setIfInBounds_toArray, List.set_cons_zero, List.set_cons_succ]
    refine call_in (i := 13) rfl (by kernel_rfl) (fun K hK => ?_)
    clear hHeld
    go_simp
    (go_at_call 16; refine (refValue_any a _ _ zs _ (HW1.out.below (HC8.out.trans (hy3.out.mono HC8.out.size))) (HS.out.below (HC8.out.trans (hy3.out.mono HC8.out.size))) HL.out R HVR.out).mono ?_; rintro e y4 ⟨rfl, hb9⟩; have hy4 : Hid (Below wc.heap.size wc y4) := hy3.out.trans (hb9.mono hy3.out.size); clear hb9)
    try (go_wp2_with fail)
    refine hK.out _ _ (hk9.out _ hy4.out) (fun hHeld => ?_)
    clear hK K
    try simp only [Act.put, List.setIfInBounds_toArray, List.set_cons_zero, List.set_cons_succ]
    refine take_in (i := 14) (v := ?_) rfl (by kernel_rfl) (by kernel_rfl) (by kernel_rfl) (fun _ _ _ h => h) (by rfl) ?_ hHeld ?_
    rotate_left
    · intro w hSw
      (try dsimp only at hSw)
      go_simp
      try with_reducible rfl
    try simp only [Act.put, List.setIfInBounds_toArray, List.set_cons_zero, List.set_cons_succ]
    refine take_in (i := 15) (v := ?_) rfl (by kernel_rfl) (by kernel_rfl) (by kernel_rfl) (fun _ _ _ h => h) (by rfl) ?_ hHeld ?_
    rotate_left
    · intro w hSw
      (try dsimp only at hSw)
      go_simp
      try with_reducible rfl
    try simp only [Act.put, List.setIfInBounds_toArray, List.set_cons_zero, List.set_cons_succ]
    refine take_in (i := 16) (v := ?_) rfl (by kernel_rfl) (by kernel_rfl) (by kernel_rfl) (fun _ _ _ h => h) (by rfl) ?_ hHeld ?_
    rotate_left
    · intro w hSw
      (try dsimp only at hSw)
      go_simp
      try with_reducible rfl
    try simp only [Act.put, List.setIfInBounds_toArray, List.set_cons_zero, List.set_cons_succ]
    refine take_in (i := 17) (v := ?_) rfl (by kernel_rfl) (by kernel_rfl) (by kernel_rfl) (fun _ _ _ h => h) (by rfl) ?_ hHeld ?_
    rotate_left
    · intro w hSw
      (try dsimp only at hSw)
      go_simp
      try with_reducible rfl
    try simp only [Act.put, List.setIfInBounds_toArray, List.set_cons_zero, List.set_cons_succ]
    refine take_in (i := 18) (v := ?_) rfl (by kernel_rfl) (by kernel_rfl) (by kernel_rfl) (fun _ _ _ h => h) (by rfl) ?_ hHeld ?_
    rotate_left
    · intro w hSw
      (try dsimp only at hSw)
      go_simp
      try with_reducible rfl
    try simp only [Act.put, List.setIfInBounds_toArray, List.set_cons_zero, List.set_cons_succ]
    refine take_in (i := 20) (v := ?_) rfl (by kernel_rfl) (by kernel_rfl) (by kernel_rfl) (fun _ _ _ h => h) (by rfl) ?_ hHeld ?_
    rotate_left
    · intro w hSw
      (try dsimp only at hSw)
      go_simp
      try with_reducible rfl
    try simp only [Act.put, List.setIfInBounds_toArray, List.set_cons_zero, List.set_cons_succ]
    refine call_in (i := 19) rfl (by kernel_rfl) (fun K hK => ?_)
    clear hHeld
    go_simp
    (go_at_call 17; refine (leq_any a b _ _ _ (HOW.out.below (HCO.out.trans (hy4.out.mono HCO.out.size))) (HW2.out.below (HC8.out.trans (hy4.out.mono HC8.out.size))) (Nat.le_trans HMA.out (by decide)) (Nat.le_trans HMB.out (by decide)) false HLAB.out).mono ?_; rintro e y5 ⟨rfl, hb9⟩; have hy5 : Hid (Below wc.heap.size wc y5) := hy4.out.trans (hb9.mono hy4.out.size); clear hb9)
    try (go_wp2_with fail)
    refine hK.out _ _ (hk9.out _ hy5.out) (fun hHeld => ?_)
    clear hK K
    try simp only [Act.put, List.setIfInBounds_toArray, List.set_cons_zero, List.set_cons_succ]
    refine take_in (i := 21) (v := ?_) rfl (by kernel_rfl) (by kernel_rfl) (by kernel_rfl) (fun _ _ _ h => h) (by rfl) ?_ hHeld ?_
    rotate_left
    · intro w hSw
      (try dsimp only at hSw)
      go_simp
      try with_reducible rfl
    try simp only [Act.put, List.setIfInBounds_toArray, List.set_cons_zero, List.set_cons_succ]
    refine take_in (i := 22) (v := ?_) rfl (by kernel_rfl) (by kernel_rfl) (by kernel_rfl) (fun _ _ _ h => h) (by rfl) ?_ hHeld ?_
    rotate_left
    · intro w hSw
      (try dsimp only at hSw)
      go_simp
      try with_reducible rfl
    try simp only [Act.put, List.setIfInBounds_toArray, List.set_cons_zero, List.set_cons_succ]
    refine take_in (i := 23) (v := ?_) rfl (by kernel_rfl) (by kernel_rfl) (by kernel_rfl) (fun _ _ _ h => h) (by rfl) ?_ hHeld ?_
    rotate_left
    · intro w hSw
      (try dsimp only at hSw)
      go_simp
      try with_reducible rfl
    try simp only [Act.put, List.setIfInBounds_toArray, List.set_cons_zero, List.set_cons_succ]
    refine take_in (i := 24) (v := ?_) rfl (by kernel_rfl) (by kernel_rfl) (by kernel_rfl) (fun _ _ _ h => h) (by rfl) ?_ hHeld ?_
    rotate_left
    · intro w hSw
      (try dsimp only at hSw)
      go_simp
      try with_reducible rfl
    try simp only [Act.put, List.setIfInBounds_toArray, List.set_cons_zero, List.set_cons_succ]
    refine take_in (i := 25) (v := ?_) rfl (by kernel_rfl) (by kernel_rfl) (by kernel_rfl) (fun _ _ _ h => h) (by rfl) ?_ hHeld ?_
    rotate_left
    · intro w hSw
      (try dsimp only at hSw)
      go_simp
      try with_reducible rfl
    try simp only [Act.put, List.setIfInBounds_toArray, List.set_cons_zero, List.set_cons_succ]
    refine take_in (i := 27) (v := ?_) rfl (by kernel_rfl) (by kernel_rfl) (by kernel_rfl) (fun _ _ _ h => h) (by rfl) ?_ hHeld ?_
    rotate_left
    · intro w hSw
      (try dsimp only at hSw)
      go_simp
      try with_reducible rfl
    try simp only [Act.put, List.setIfInBounds_toArray, List.set_cons_zero, List.set_cons_succ]
    refine call_in (i := 26) rfl (by kernel_rfl) (fun K hK => ?_)
    clear hHeld
    go_simp
    (go_at_call 18; refine (same_any a b _ _ _ (HOW.out.below (HCO.out.trans (hy5.out.mono HCO.out.size))) (HW2.out.below (HC8.out.trans (hy5.out.mono HC8.out.size))) (Nat.le_trans HMA.out (by decide)) (Nat.le_trans HMB.out (by decide)) false lba HLAB.out HLBA.out).mono ?_; rintro e y6 ⟨rfl, hb9⟩; have hy6 : Hid (Below wc.heap.size wc y6) := hy5.out.trans (hb9.mono hy5.out.size); clear hb9)
    try (go_wp2_with fail)
    refine hK.out _ _ (hk9.out _ hy6.out) (fun hHeld => ?_)
    clear hK K
    try simp only [Act.put, List.setIfInBounds_toArray, List.set_cons_zero, List.set_cons_succ]
    refine take_in (i := 28) (v := ?_) rfl (by kernel_rfl) (by kernel_rfl) (by kernel_rfl) (fun _ _ _ h => h) (by rfl) ?_ hHeld ?_
    rotate_left
    · intro w hSw
      (try dsimp only at hSw)
      go_simp
      try with_reducible rfl
    try simp only [Act.put, List.setIfInBounds_toArray, List.set_cons_zero, List.set_cons_succ]
    refine skip_in (i := 29) rfl (by kernel_rfl) (by kernel_rfl) (by kernel_rfl) (fun _ _ _ h => h) (by rfl) hHeld ?_
    try simp only [Act.put, List.setIfInBounds_toArray, List.set_cons_zero, List.set_cons_succ]
    refine take_in (i := 30) (v := ?_) rfl (by kernel_rfl) (by kernel_rfl) (by kernel_rfl) (fun _ _ _ h => h) (by rfl) ?_ hHeld ?_
    rotate_left
    · intro w hSw
      (try dsimp only at hSw)
      go_simp
      try with_reducible rfl
    try simp only [Act.put, List.setIfInBounds_toArray, List.set_cons_zero, List.set_cons_succ]
    refine take_in (i := 31) (v := ?_) rfl (by kernel_rfl) (by kernel_rfl) (by kernel_rfl) (fun _ _ _ h => h) (by rfl) ?_ hHeld ?_
    rotate_left
    · intro w hSw
      (try dsimp only at hSw)
      go_simp
      try with_reducible rfl
    try simp only [Act.put, List.setIfInBounds_toArray, List.set_cons_zero, List.set_cons_succ]
    refine take_in (i := 32) (v := ?_) rfl (by kernel_rfl) (by kernel_rfl) (by kernel_rfl) (fun _ _ _ h => h) (by rfl) ?_ hHeld ?_
    rotate_left
    · intro w hSw
      (try dsimp only at hSw)
      go_simp
      try with_reducible rfl
    try simp only [Act.put, List.setIfInBounds_toArray, List.set_cons_zero, List.set_cons_succ]
    refine take_in (i := 33) (v := ?_) rfl (by kernel_rfl) (by kernel_rfl) (by kernel_rfl) (fun _ _ _ h => h) (by rfl) ?_ hHeld ?_
    rotate_left
    · intro w hSw
      (try dsimp only at hSw)
      go_simp
      try with_reducible rfl
    try simp only [Act.put, List.setIfInBounds_toArray, List.set_cons_zero, List.set_cons_succ]
    refine take_in (i := 34) (v := ?_) rfl (by kernel_rfl) (by kernel_rfl) (by kernel_rfl) (fun _ _ _ h => h) (by rfl) ?_ hHeld ?_
    rotate_left
    · intro w hSw
      (try dsimp only at hSw)
      go_simp
      try with_reducible rfl
    try simp only [Act.put, List.setIfInBounds_toArray, List.set_cons_zero, List.set_cons_succ]
    refine take_in (i := 36) (v := ?_) rfl (by kernel_rfl) (by kernel_rfl) (by kernel_rfl) (fun _ _ _ h => h) (by rfl) ?_ hHeld ?_
    rotate_left
    · intro w hSw
      (try dsimp only at hSw)
      go_simp
      try with_reducible rfl
    try simp only [Act.put, List.setIfInBounds_toArray, List.set_cons_zero, List.set_cons_succ]
    refine call_in (i := 35) rfl (by kernel_rfl) (fun K hK => ?_)
    clear hHeld
    go_simp
    (go_at_call 19; refine (zero_any a _ _ (HOW.out.below (HCO.out.trans (hy6.out.mono HCO.out.size))) (Nat.le_trans HMA.out (by decide)) lz HLZ.out).mono ?_; rintro e y7 ⟨rfl, hb9⟩; have hy7 : Hid (Below wc.heap.size wc y7) := hy6.out.trans (hb9.mono hy6.out.size); clear hb9)
    try (go_wp2_with fail)
    refine hK.out _ _ (hk9.out _ hy7.out) (fun hHeld => ?_)
    clear hK K
    try simp only [Act.put, List.setIfInBounds_toArray, List.set_cons_zero, List.set_cons_succ]
    refine take_in (i := 37) (v := ?_) rfl (by kernel_rfl) (by kernel_rfl) (by kernel_rfl) (fun _ _ _ h => h) (by rfl) ?_ hHeld ?_
    rotate_left
    · intro w hSw
      (try dsimp only at hSw)
      go_simp
      try with_reducible rfl
    try simp only [Act.put, List.setIfInBounds_toArray, List.set_cons_zero, List.set_cons_succ]
    refine take_in (i := 38) (v := ?_) rfl (by kernel_rfl) (by kernel_rfl) (by kernel_rfl) (fun _ _ _ h => h) (by rfl) ?_ hHeld ?_
    rotate_left
    · intro w hSw
      (try dsimp only at hSw)
      go_simp
      try with_reducible rfl
    try simp only [Act.put, List.setIfInBounds_toArray, List.set_cons_zero, List.set_cons_succ]
    refine take_in (i := 39) (v := ?_) rfl (by kernel_rfl) (by kernel_rfl) (by kernel_rfl) (fun _ _ _ h => h) (by rfl) ?_ hHeld ?_
    rotate_left
    · intro w hSw
      (try dsimp only at hSw)
      go_simp
      try with_reducible rfl
    try simp only [Act.put, List.setIfInBounds_toArray, List.set_cons_zero, List.set_cons_succ]
    refine take_in (i := 40) (v := ?_) rfl (by kernel_rfl) (by kernel_rfl) (by kernel_rfl) (fun _ _ _ h => h) (by rfl) ?_ hHeld ?_
    rotate_left
    · intro w hSw
      (try dsimp only at hSw)
      go_simp
      try with_reducible rfl
    try simp only [Act.put, List.setIfInBounds_toArray, List.set_cons_zero, List.set_cons_succ]
    refine take_in (i := 42) (v := ?_) rfl (by kernel_rfl) (by kernel_rfl) (by kernel_rfl) (fun _ _ _ h => h) (by rfl) ?_ hHeld ?_
    rotate_left
    · intro w hSw
      (try dsimp only at hSw)
      go_simp
      try with_reducible rfl
    try simp only [Act.put, List.setIfInBounds_toArray, List.set_cons_zero, List.set_cons_succ]
    refine call_in (i := 41) rfl (by kernel_rfl) (fun K hK => ?_)
    clear hHeld
    go_simp
    (go_at_call 20; refine (never_any a _ _ (HOW.out.below (HCO.out.trans (hy7.out.mono HCO.out.size))) (Nat.le_trans HMA.out (by decide)) ln HLN.out).mono ?_; rintro e y8 ⟨rfl, hb9⟩; have hy8 : Hid (Below wc.heap.size wc y8) := hy7.out.trans (hb9.mono hy7.out.size); clear hb9)
    try (go_wp2_with fail)
    refine hK.out _ _ (hk9.out _ hy8.out) (fun hHeld => ?_)
    clear hK K
    try simp only [Act.put, List.setIfInBounds_toArray, List.set_cons_zero, List.set_cons_succ]
    refine take_in (i := 43) (v := ?_) rfl (by kernel_rfl) (by kernel_rfl) (by kernel_rfl) (fun _ _ _ h => h) (by rfl) ?_ hHeld ?_
    rotate_left
    · intro w hSw
      (try dsimp only at hSw)
      go_simp
      try with_reducible rfl
    try simp only [Act.put, List.setIfInBounds_toArray, List.set_cons_zero, List.set_cons_succ]
    refine take_in (i := 44) (v := ?_) rfl (by kernel_rfl) (by kernel_rfl) (by kernel_rfl) (fun _ _ _ h => h) (by rfl) ?_ hHeld ?_
    rotate_left
    · intro w hSw
      (try dsimp only at hSw)
      go_simp
      try with_reducible rfl
    try simp only [Act.put, List.setIfInBounds_toArray, List.set_cons_zero, List.set_cons_succ]
    refine take_in (i := 45) (v := ?_) rfl (by kernel_rfl) (by kernel_rfl) (by kernel_rfl) (fun _ _ _ h => h) (by rfl) ?_ hHeld ?_
    rotate_left
    · intro w hSw
      (try dsimp only at hSw)
      go_simp
      try with_reducible rfl
    try simp only [Act.put, List.setIfInBounds_toArray, List.set_cons_zero, List.set_cons_succ]
    refine take_in (i := 46) (v := ?_) rfl (by kernel_rfl) (by kernel_rfl) (by kernel_rfl) (fun _ _ _ h => h) (by rfl) ?_ hHeld ?_
    rotate_left
    · intro w hSw
      (try dsimp only at hSw)
      go_simp
      try with_reducible rfl
    try simp only [Act.put, List.setIfInBounds_toArray, List.set_cons_zero, List.set_cons_succ]
    refine take_in (i := 48) (v := ?_) rfl (by kernel_rfl) (by kernel_rfl) (by kernel_rfl) (fun _ _ _ h => h) (by rfl) ?_ hHeld ?_
    rotate_left
    · intro w hSw
      (try dsimp only at hSw)
      go_simp
      try with_reducible rfl
    try simp only [Act.put, List.setIfInBounds_toArray, List.set_cons_zero, List.set_cons_succ]
    refine call_in (i := 47) rfl (by kernel_rfl) (fun K hK => ?_)
    clear hHeld
    go_simp
    (go_at_call 21; refine (nodes_is a _ _ (HOW.out.below (HCO.out.trans (hy8.out.mono HCO.out.size))) (Nat.le_trans HMA.out (by decide)) N HNN.out).mono ?_; rintro e y9 ⟨rfl, hb9⟩; have hy9 : Hid (Below wc.heap.size wc y9) := hy8.out.trans (hb9.mono hy8.out.size); clear hb9)
    try (go_wp2_with fail)
    refine hK.out _ _ (hk9.out _ hy9.out) (fun hHeld => ?_)
    clear hK K
    try simp only [Act.put, List.setIfInBounds_toArray, List.set_cons_zero, List.set_cons_succ]
    refine call_in (i := 49) rfl (by kernel_rfl) (fun K hK => ?_)
    clear hHeld
    go_simp
    (go_at_call 22; refine (levelNodes_is a _ 64 _ (HW1.out.below (HC8.out.trans (hy9.out.mono HC8.out.size))) (by omega) N HNN.out).mono ?_; rintro e y10 ⟨rfl, hb9⟩; have hy10 : Hid (Below wc.heap.size wc y10) := hy9.out.trans (hb9.mono hy9.out.size); clear hb9)
    try (go_wp2_with fail)
    refine hK.out _ _ (hk9.out _ hy10.out) (fun hHeld => ?_)
    clear hK K
    try simp only [Act.put, List.setIfInBounds_toArray, List.set_cons_zero, List.set_cons_succ]
    refine take_in (i := 50) (v := ?_) rfl (by kernel_rfl) (by kernel_rfl) (by kernel_rfl) (fun _ _ _ h => h) (by rfl) ?_ hHeld ?_
    rotate_left
    · intro w hSw
      (try dsimp only at hSw)
      go_simp
      try with_reducible rfl
    try simp only [Act.put, List.setIfInBounds_toArray, List.set_cons_zero, List.set_cons_succ]
    refine take_in (i := 51) (v := ?_) rfl (by kernel_rfl) (by kernel_rfl) (by kernel_rfl) (fun _ _ _ h => h) (by rfl) ?_ hHeld ?_
    rotate_left
    · intro w hSw
      (try dsimp only at hSw)
      go_simp
      try with_reducible rfl
    try simp only [Act.put, List.setIfInBounds_toArray, List.set_cons_zero, List.set_cons_succ]
    refine take_in (i := 52) (v := ?_) rfl (by kernel_rfl) (by kernel_rfl) (by kernel_rfl) (fun _ _ _ h => h) (by rfl) ?_ hHeld ?_
    rotate_left
    · intro w hSw
      (try dsimp only at hSw)
      go_simp
      try with_reducible rfl
    try simp only [Act.put, List.setIfInBounds_toArray, List.set_cons_zero, List.set_cons_succ]
    refine take_in (i := 53) (v := ?_) rfl (by kernel_rfl) (by kernel_rfl) (by kernel_rfl) (fun _ _ _ h => h) (by rfl) ?_ hHeld ?_
    rotate_left
    · intro w hSw
      (try dsimp only at hSw)
      go_simp
      try with_reducible rfl
    try simp only [Act.put, List.setIfInBounds_toArray, List.set_cons_zero, List.set_cons_succ]
    refine take_in (i := 54) (v := ?_) rfl (by kernel_rfl) (by kernel_rfl) (by kernel_rfl) (fun _ _ _ h => h) (by rfl) ?_ hHeld ?_
    rotate_left
    · intro w hSw
      (try dsimp only at hSw)
      go_simp
      try with_reducible rfl
    try simp only [Act.put, List.setIfInBounds_toArray, List.set_cons_zero, List.set_cons_succ]
    refine call_in (i := 55) rfl (by kernel_rfl) (fun K hK => ?_)
    clear hHeld
    go_simp
    (go_at_call 23; refine (sameLevel_same a _ _ _ (HOW.out.below (HCO.out.trans (hy10.out.mono HCO.out.size))) (HW1.out.below (HC8.out.trans (hy10.out.mono HC8.out.size)))).mono ?_; rintro e y11 ⟨rfl, hb9⟩; have hy11 : Hid (Below wc.heap.size wc y11) := hy10.out.trans (hb9.mono hy10.out.size); clear hb9)
    try (go_wp2_with fail)
    refine hK.out _ _ (hk9.out _ hy11.out) (fun hHeld => ?_)
    clear hK K
    try simp only [Act.put, List.setIfInBounds_toArray, List.set_cons_zero, List.set_cons_succ]
    refine take_in (i := 56) (v := ?_) rfl (by kernel_rfl) (by kernel_rfl) (by kernel_rfl) (fun _ _ _ h => h) (by rfl) ?_ hHeld ?_
    rotate_left
    · intro w hSw
      (try dsimp only at hSw)
      go_simp
      try with_reducible rfl
    try simp only [Act.put, List.setIfInBounds_toArray, List.set_cons_zero, List.set_cons_succ]
    refine take_in (i := 57) (v := ?_) rfl (by kernel_rfl) (by kernel_rfl) (by kernel_rfl) (fun _ _ _ h => h) (by rfl) ?_ hHeld ?_
    rotate_left
    · intro w hSw
      (try dsimp only at hSw)
      go_simp
      try with_reducible rfl
    try simp only [Act.put, List.setIfInBounds_toArray, List.set_cons_zero, List.set_cons_succ]
    refine wpAnyH_done (by kernel_rfl) ?_ _
    go_wp2_with fail
    go_ret
    exact ⟨rfl, HB.out.trans ((HC8.out.trans (hy11.out.mono HC8.out.size)).mono HB.out.size)⟩
  · refine wp_region_held_drew (S := fun W' => W'.cell? ⟨w.heap.size, 0, none⟩ = some (.int .i64 k1) ∧ W'.cell? ⟨w.heap.size, 1, none⟩ = some (.int .i64 n1) ∧ W'.cell? ⟨w.heap.size, 2, none⟩ = some (s1) ∧ W'.cell? ⟨w.heap.size + 1, 0, none⟩ = some (.int .i64 k2) ∧ W'.cell? ⟨w.heap.size + 1, 1, none⟩ = some (.int .i64 n2) ∧ W'.cell? ⟨w.heap.size + 1, 2, none⟩ = some (s2) ∧ W'.cell? ⟨BO, 0, none⟩ = some (.int .i64 k1) ∧ W'.cell? ⟨BO, 1, none⟩ = some (.int .i64 n1) ∧ W'.cell? ⟨BO, 2, none⟩ = some (.slice va vl vc)) (by kernel_rfl) (hk9.out _ HD.out) (fun hHeld => ?_)
    refine take_in (i := 0) (v := ?_) rfl (by kernel_rfl) (by kernel_rfl) (by kernel_rfl) (fun _ _ _ h => h) (by rfl) ?_ hHeld ?_
    rotate_left
    · intro w hSw
      (try dsimp only at hSw)
      go_simp
      try with_reducible rfl
    try simp only [Act.put, List.setIfInBounds_toArray, List.set_cons_zero, List.set_cons_succ]
    refine take_in (i := 1) (v := ?_) rfl (by kernel_rfl) (by kernel_rfl) (by kernel_rfl) (fun _ _ _ h => h) (by rfl) ?_ hHeld ?_
    rotate_left
    · intro w hSw
      (try dsimp only at hSw)
      go_simp
      try with_reducible rfl
    try simp only [Act.put, List.setIfInBounds_toArray, List.set_cons_zero, List.set_cons_succ]
    refine take_in (i := 3) (v := ?_) rfl (by kernel_rfl) (by kernel_rfl) (by kernel_rfl) (fun _ _ _ h => h) (by rfl) ?_ hHeld ?_
    rotate_left
    · intro w hSw
      (try dsimp only at hSw)
      go_simp
      try with_reducible rfl
    try simp only [Act.put, List.setIfInBounds_toArray, List.set_cons_zero, List.set_cons_succ]
    refine take_in (i := 4) (v := ?_) rfl (by kernel_rfl) (by kernel_rfl) (by kernel_rfl) (fun _ _ _ h => h) (by rfl) ?_ hHeld ?_
    rotate_left
    · intro w hSw
      (try dsimp only at hSw)
      go_simp
      try with_reducible rfl
    try simp only [Act.put, List.setIfInBounds_toArray, List.set_cons_zero, List.set_cons_succ]
    refine call_in (i := 2) rfl (by kernel_rfl) (fun K hK => ?_)
    clear hHeld
    go_simp
    (go_at_call 13; refine (right_any a _ q _ (HOW.out.below (HCO.out.trans (HD.out.mono HCO.out.size))) (Nat.le_trans HMA.out (by decide)) rn HRN.out).mono ?_; rintro e y1 ⟨rfl, hb9⟩; have hy1 : Hid (Below wc.heap.size wc y1) := HD.out.trans (hb9.mono HD.out.size); clear hb9)
    try (go_wp2_with fail)
    refine hK.out _ _ (hk9.out _ hy1.out) (fun hHeld => ?_)
    clear hK K
    try simp only [Act.put, List.setIfInBounds_toArray, List.set_cons_zero, List.set_cons_succ]
    refine call_in (i := 5) rfl (by kernel_rfl) (fun K hK => ?_)
    clear hHeld
    go_simp
    (go_at_call 14; refine (refRight_any a _ q _ (HW1.out.below (HC8.out.trans (hy1.out.mono HC8.out.size))) rn HRN.out).mono ?_; rintro e y2 ⟨rfl, hb9⟩; have hy2 : Hid (Below wc.heap.size wc y2) := hy1.out.trans (hb9.mono hy1.out.size); clear hb9)
    try (go_wp2_with fail)
    refine hK.out _ _ (hk9.out _ hy2.out) (fun hHeld => ?_)
    clear hK K
    try simp only [Act.put, List.setIfInBounds_toArray, List.set_cons_zero, List.set_cons_succ]
    refine take_in (i := 6) (v := ?_) rfl (by kernel_rfl) (by kernel_rfl) (by kernel_rfl) (fun _ _ _ h => h) (by rfl) ?_ hHeld ?_
    rotate_left
    · intro w hSw
      (try dsimp only at hSw)
      go_simp
      try with_reducible rfl
    try simp only [Act.put, List.setIfInBounds_toArray, List.set_cons_zero, List.set_cons_succ]
    refine take_in (i := 7) (v := ?_) rfl (by kernel_rfl) (by kernel_rfl) (by kernel_rfl) (fun _ _ _ h => h) (by rfl) ?_ hHeld ?_
    rotate_left
    · intro w hSw
      (try dsimp only at hSw)
      go_simp
      try with_reducible rfl
    try simp only [Act.put, List.setIfInBounds_toArray, List.set_cons_zero, List.set_cons_succ]
    refine take_in (i := 8) (v := ?_) rfl (by kernel_rfl) (by kernel_rfl) (by kernel_rfl) (fun _ _ _ h => h) (by rfl) ?_ hHeld ?_
    rotate_left
    · intro w hSw
      (try dsimp only at hSw)
      go_simp
      try with_reducible rfl
    try simp only [Act.put, List.setIfInBounds_toArray, List.set_cons_zero, List.set_cons_succ]
    refine take_in (i := 9) (v := ?_) rfl (by kernel_rfl) (by kernel_rfl) (by kernel_rfl) (fun _ _ _ h => h) (by rfl) ?_ hHeld ?_
    rotate_left
    · intro w hSw
      (try dsimp only at hSw)
      go_simp
      try with_reducible rfl
    try simp only [Act.put, List.setIfInBounds_toArray, List.set_cons_zero, List.set_cons_succ]
    refine take_in (i := 11) (v := ?_) rfl (by kernel_rfl) (by kernel_rfl) (by kernel_rfl) (fun _ _ _ h => h) (by rfl) ?_ hHeld ?_
    rotate_left
    · intro w hSw
      (try dsimp only at hSw)
      go_simp
      try with_reducible rfl
    try simp only [Act.put, List.setIfInBounds_toArray, List.set_cons_zero, List.set_cons_succ]
    refine take_in (i := 12) (v := ?_) rfl (by kernel_rfl) (by kernel_rfl) (by kernel_rfl) (fun _ _ _ h => h) (by rfl) ?_ hHeld ?_
    rotate_left
    · intro w hSw
      (try dsimp only at hSw)
      go_simp
      try with_reducible rfl
    try simp only [Act.put, List.setIfInBounds_toArray, List.set_cons_zero, List.set_cons_succ]
    refine call_in (i := 10) rfl (by kernel_rfl) (fun K hK => ?_)
    clear hHeld
    go_simp
    (go_at_call 15; refine (pvalue_any a _ _ zs _ (HOW.out.below (HCO.out.trans (hy2.out.mono HCO.out.size))) (HS.out.below (HC8.out.trans (hy2.out.mono HC8.out.size))) HL.out (Nat.le_trans HMA.out (by decide)) R HVR.out).mono ?_; rintro e y3 ⟨rfl, hb9⟩; have hy3 : Hid (Below wc.heap.size wc y3) := hy2.out.trans (hb9.mono hy2.out.size); clear hb9)
    try (go_wp2_with fail)
    refine hK.out _ _ (hk9.out _ hy3.out) (fun hHeld => ?_)
    clear hK K
    try simp only [Act.put, List.setIfInBounds_toArray, List.set_cons_zero, List.set_cons_succ]
    refine call_in (i := 13) rfl (by kernel_rfl) (fun K hK => ?_)
    clear hHeld
    go_simp
    (go_at_call 16; refine (refValue_any a _ _ zs _ (HW1.out.below (HC8.out.trans (hy3.out.mono HC8.out.size))) (HS.out.below (HC8.out.trans (hy3.out.mono HC8.out.size))) HL.out R HVR.out).mono ?_; rintro e y4 ⟨rfl, hb9⟩; have hy4 : Hid (Below wc.heap.size wc y4) := hy3.out.trans (hb9.mono hy3.out.size); clear hb9)
    try (go_wp2_with fail)
    refine hK.out _ _ (hk9.out _ hy4.out) (fun hHeld => ?_)
    clear hK K
    try simp only [Act.put, List.setIfInBounds_toArray, List.set_cons_zero, List.set_cons_succ]
    refine take_in (i := 14) (v := ?_) rfl (by kernel_rfl) (by kernel_rfl) (by kernel_rfl) (fun _ _ _ h => h) (by rfl) ?_ hHeld ?_
    rotate_left
    · intro w hSw
      (try dsimp only at hSw)
      go_simp
      try with_reducible rfl
    try simp only [Act.put, List.setIfInBounds_toArray, List.set_cons_zero, List.set_cons_succ]
    refine take_in (i := 15) (v := ?_) rfl (by kernel_rfl) (by kernel_rfl) (by kernel_rfl) (fun _ _ _ h => h) (by rfl) ?_ hHeld ?_
    rotate_left
    · intro w hSw
      (try dsimp only at hSw)
      go_simp
      try with_reducible rfl
    try simp only [Act.put, List.setIfInBounds_toArray, List.set_cons_zero, List.set_cons_succ]
    refine take_in (i := 16) (v := ?_) rfl (by kernel_rfl) (by kernel_rfl) (by kernel_rfl) (fun _ _ _ h => h) (by rfl) ?_ hHeld ?_
    rotate_left
    · intro w hSw
      (try dsimp only at hSw)
      go_simp
      try with_reducible rfl
    try simp only [Act.put, List.setIfInBounds_toArray, List.set_cons_zero, List.set_cons_succ]
    refine take_in (i := 17) (v := ?_) rfl (by kernel_rfl) (by kernel_rfl) (by kernel_rfl) (fun _ _ _ h => h) (by rfl) ?_ hHeld ?_
    rotate_left
    · intro w hSw
      (try dsimp only at hSw)
      go_simp
      try with_reducible rfl
    try simp only [Act.put, List.setIfInBounds_toArray, List.set_cons_zero, List.set_cons_succ]
    refine take_in (i := 18) (v := ?_) rfl (by kernel_rfl) (by kernel_rfl) (by kernel_rfl) (fun _ _ _ h => h) (by rfl) ?_ hHeld ?_
    rotate_left
    · intro w hSw
      (try dsimp only at hSw)
      go_simp
      try with_reducible rfl
    try simp only [Act.put, List.setIfInBounds_toArray, List.set_cons_zero, List.set_cons_succ]
    refine take_in (i := 20) (v := ?_) rfl (by kernel_rfl) (by kernel_rfl) (by kernel_rfl) (fun _ _ _ h => h) (by rfl) ?_ hHeld ?_
    rotate_left
    · intro w hSw
      (try dsimp only at hSw)
      go_simp
      try with_reducible rfl
    try simp only [Act.put, List.setIfInBounds_toArray, List.set_cons_zero, List.set_cons_succ]
    refine call_in (i := 19) rfl (by kernel_rfl) (fun K hK => ?_)
    clear hHeld
    go_simp
    (go_at_call 17; refine (leq_any a b _ _ _ (HOW.out.below (HCO.out.trans (hy4.out.mono HCO.out.size))) (HW2.out.below (HC8.out.trans (hy4.out.mono HC8.out.size))) (Nat.le_trans HMA.out (by decide)) (Nat.le_trans HMB.out (by decide)) true HLAB.out).mono ?_; rintro e y5 ⟨rfl, hb9⟩; have hy5 : Hid (Below wc.heap.size wc y5) := hy4.out.trans (hb9.mono hy4.out.size); clear hb9)
    try (go_wp2_with fail)
    refine hK.out _ _ (hk9.out _ hy5.out) (fun hHeld => ?_)
    clear hK K
    try simp only [Act.put, List.setIfInBounds_toArray, List.set_cons_zero, List.set_cons_succ]
    refine take_in (i := 21) (v := ?_) rfl (by kernel_rfl) (by kernel_rfl) (by kernel_rfl) (fun _ _ _ h => h) (by rfl) ?_ hHeld ?_
    rotate_left
    · intro w hSw
      (try dsimp only at hSw)
      go_simp
      try with_reducible rfl
    try simp only [Act.put, List.setIfInBounds_toArray, List.set_cons_zero, List.set_cons_succ]
    refine take_in (i := 22) (v := ?_) rfl (by kernel_rfl) (by kernel_rfl) (by kernel_rfl) (fun _ _ _ h => h) (by rfl) ?_ hHeld ?_
    rotate_left
    · intro w hSw
      (try dsimp only at hSw)
      go_simp
      try with_reducible rfl
    try simp only [Act.put, List.setIfInBounds_toArray, List.set_cons_zero, List.set_cons_succ]
    refine take_in (i := 23) (v := ?_) rfl (by kernel_rfl) (by kernel_rfl) (by kernel_rfl) (fun _ _ _ h => h) (by rfl) ?_ hHeld ?_
    rotate_left
    · intro w hSw
      (try dsimp only at hSw)
      go_simp
      try with_reducible rfl
    try simp only [Act.put, List.setIfInBounds_toArray, List.set_cons_zero, List.set_cons_succ]
    refine take_in (i := 24) (v := ?_) rfl (by kernel_rfl) (by kernel_rfl) (by kernel_rfl) (fun _ _ _ h => h) (by rfl) ?_ hHeld ?_
    rotate_left
    · intro w hSw
      (try dsimp only at hSw)
      go_simp
      try with_reducible rfl
    try simp only [Act.put, List.setIfInBounds_toArray, List.set_cons_zero, List.set_cons_succ]
    refine take_in (i := 25) (v := ?_) rfl (by kernel_rfl) (by kernel_rfl) (by kernel_rfl) (fun _ _ _ h => h) (by rfl) ?_ hHeld ?_
    rotate_left
    · intro w hSw
      (try dsimp only at hSw)
      go_simp
      try with_reducible rfl
    try simp only [Act.put, List.setIfInBounds_toArray, List.set_cons_zero, List.set_cons_succ]
    refine take_in (i := 27) (v := ?_) rfl (by kernel_rfl) (by kernel_rfl) (by kernel_rfl) (fun _ _ _ h => h) (by rfl) ?_ hHeld ?_
    rotate_left
    · intro w hSw
      (try dsimp only at hSw)
      go_simp
      try with_reducible rfl
    try simp only [Act.put, List.setIfInBounds_toArray, List.set_cons_zero, List.set_cons_succ]
    refine call_in (i := 26) rfl (by kernel_rfl) (fun K hK => ?_)
    clear hHeld
    go_simp
    (go_at_call 18; refine (same_any a b _ _ _ (HOW.out.below (HCO.out.trans (hy5.out.mono HCO.out.size))) (HW2.out.below (HC8.out.trans (hy5.out.mono HC8.out.size))) (Nat.le_trans HMA.out (by decide)) (Nat.le_trans HMB.out (by decide)) true lba HLAB.out HLBA.out).mono ?_; rintro e y6 ⟨rfl, hb9⟩; have hy6 : Hid (Below wc.heap.size wc y6) := hy5.out.trans (hb9.mono hy5.out.size); clear hb9)
    try (go_wp2_with fail)
    refine hK.out _ _ (hk9.out _ hy6.out) (fun hHeld => ?_)
    clear hK K
    try simp only [Act.put, List.setIfInBounds_toArray, List.set_cons_zero, List.set_cons_succ]
    refine take_in (i := 28) (v := ?_) rfl (by kernel_rfl) (by kernel_rfl) (by kernel_rfl) (fun _ _ _ h => h) (by rfl) ?_ hHeld ?_
    rotate_left
    · intro w hSw
      (try dsimp only at hSw)
      go_simp
      try with_reducible rfl
    try simp only [Act.put, List.setIfInBounds_toArray, List.set_cons_zero, List.set_cons_succ]
    refine take_in (i := 29) (v := ?_) rfl (by kernel_rfl) (by kernel_rfl) (by kernel_rfl) (fun _ _ _ h => h) (by rfl) ?_ hHeld ?_
    rotate_left
    · intro w hSw
      (try dsimp only at hSw)
      go_simp
      try with_reducible rfl
    try simp only [Act.put, List.setIfInBounds_toArray, List.set_cons_zero, List.set_cons_succ]
    refine take_in (i := 30) (v := ?_) rfl (by kernel_rfl) (by kernel_rfl) (by kernel_rfl) (fun _ _ _ h => h) (by rfl) ?_ hHeld ?_
    rotate_left
    · intro w hSw
      (try dsimp only at hSw)
      go_simp
      try with_reducible rfl
    try simp only [Act.put, List.setIfInBounds_toArray, List.set_cons_zero, List.set_cons_succ]
    refine take_in (i := 31) (v := ?_) rfl (by kernel_rfl) (by kernel_rfl) (by kernel_rfl) (fun _ _ _ h => h) (by rfl) ?_ hHeld ?_
    rotate_left
    · intro w hSw
      (try dsimp only at hSw)
      go_simp
      try with_reducible rfl
    try simp only [Act.put, List.setIfInBounds_toArray, List.set_cons_zero, List.set_cons_succ]
    refine take_in (i := 32) (v := ?_) rfl (by kernel_rfl) (by kernel_rfl) (by kernel_rfl) (fun _ _ _ h => h) (by rfl) ?_ hHeld ?_
    rotate_left
    · intro w hSw
      (try dsimp only at hSw)
      go_simp
      try with_reducible rfl
    try simp only [Act.put, List.setIfInBounds_toArray, List.set_cons_zero, List.set_cons_succ]
    refine take_in (i := 33) (v := ?_) rfl (by kernel_rfl) (by kernel_rfl) (by kernel_rfl) (fun _ _ _ h => h) (by rfl) ?_ hHeld ?_
    rotate_left
    · intro w hSw
      (try dsimp only at hSw)
      go_simp
      try with_reducible rfl
    try simp only [Act.put, List.setIfInBounds_toArray, List.set_cons_zero, List.set_cons_succ]
    refine take_in (i := 34) (v := ?_) rfl (by kernel_rfl) (by kernel_rfl) (by kernel_rfl) (fun _ _ _ h => h) (by rfl) ?_ hHeld ?_
    rotate_left
    · intro w hSw
      (try dsimp only at hSw)
      go_simp
      try with_reducible rfl
    try simp only [Act.put, List.setIfInBounds_toArray, List.set_cons_zero, List.set_cons_succ]
    refine take_in (i := 36) (v := ?_) rfl (by kernel_rfl) (by kernel_rfl) (by kernel_rfl) (fun _ _ _ h => h) (by rfl) ?_ hHeld ?_
    rotate_left
    · intro w hSw
      (try dsimp only at hSw)
      go_simp
      try with_reducible rfl
    try simp only [Act.put, List.setIfInBounds_toArray, List.set_cons_zero, List.set_cons_succ]
    refine call_in (i := 35) rfl (by kernel_rfl) (fun K hK => ?_)
    clear hHeld
    go_simp
    (go_at_call 19; refine (zero_any a _ _ (HOW.out.below (HCO.out.trans (hy6.out.mono HCO.out.size))) (Nat.le_trans HMA.out (by decide)) lz HLZ.out).mono ?_; rintro e y7 ⟨rfl, hb9⟩; have hy7 : Hid (Below wc.heap.size wc y7) := hy6.out.trans (hb9.mono hy6.out.size); clear hb9)
    try (go_wp2_with fail)
    refine hK.out _ _ (hk9.out _ hy7.out) (fun hHeld => ?_)
    clear hK K
    try simp only [Act.put, List.setIfInBounds_toArray, List.set_cons_zero, List.set_cons_succ]
    refine take_in (i := 37) (v := ?_) rfl (by kernel_rfl) (by kernel_rfl) (by kernel_rfl) (fun _ _ _ h => h) (by rfl) ?_ hHeld ?_
    rotate_left
    · intro w hSw
      (try dsimp only at hSw)
      go_simp
      try with_reducible rfl
    try simp only [Act.put, List.setIfInBounds_toArray, List.set_cons_zero, List.set_cons_succ]
    refine take_in (i := 38) (v := ?_) rfl (by kernel_rfl) (by kernel_rfl) (by kernel_rfl) (fun _ _ _ h => h) (by rfl) ?_ hHeld ?_
    rotate_left
    · intro w hSw
      (try dsimp only at hSw)
      go_simp
      try with_reducible rfl
    try simp only [Act.put, List.setIfInBounds_toArray, List.set_cons_zero, List.set_cons_succ]
    refine take_in (i := 39) (v := ?_) rfl (by kernel_rfl) (by kernel_rfl) (by kernel_rfl) (fun _ _ _ h => h) (by rfl) ?_ hHeld ?_
    rotate_left
    · intro w hSw
      (try dsimp only at hSw)
      go_simp
      try with_reducible rfl
    try simp only [Act.put, List.setIfInBounds_toArray, List.set_cons_zero, List.set_cons_succ]
    refine take_in (i := 40) (v := ?_) rfl (by kernel_rfl) (by kernel_rfl) (by kernel_rfl) (fun _ _ _ h => h) (by rfl) ?_ hHeld ?_
    rotate_left
    · intro w hSw
      (try dsimp only at hSw)
      go_simp
      try with_reducible rfl
    try simp only [Act.put, List.setIfInBounds_toArray, List.set_cons_zero, List.set_cons_succ]
    refine take_in (i := 42) (v := ?_) rfl (by kernel_rfl) (by kernel_rfl) (by kernel_rfl) (fun _ _ _ h => h) (by rfl) ?_ hHeld ?_
    rotate_left
    · intro w hSw
      (try dsimp only at hSw)
      go_simp
      try with_reducible rfl
    try simp only [Act.put, List.setIfInBounds_toArray, List.set_cons_zero, List.set_cons_succ]
    refine call_in (i := 41) rfl (by kernel_rfl) (fun K hK => ?_)
    clear hHeld
    go_simp
    (go_at_call 20; refine (never_any a _ _ (HOW.out.below (HCO.out.trans (hy7.out.mono HCO.out.size))) (Nat.le_trans HMA.out (by decide)) ln HLN.out).mono ?_; rintro e y8 ⟨rfl, hb9⟩; have hy8 : Hid (Below wc.heap.size wc y8) := hy7.out.trans (hb9.mono hy7.out.size); clear hb9)
    try (go_wp2_with fail)
    refine hK.out _ _ (hk9.out _ hy8.out) (fun hHeld => ?_)
    clear hK K
    try simp only [Act.put, List.setIfInBounds_toArray, List.set_cons_zero, List.set_cons_succ]
    refine take_in (i := 43) (v := ?_) rfl (by kernel_rfl) (by kernel_rfl) (by kernel_rfl) (fun _ _ _ h => h) (by rfl) ?_ hHeld ?_
    rotate_left
    · intro w hSw
      (try dsimp only at hSw)
      go_simp
      try with_reducible rfl
    try simp only [Act.put, List.setIfInBounds_toArray, List.set_cons_zero, List.set_cons_succ]
    refine take_in (i := 44) (v := ?_) rfl (by kernel_rfl) (by kernel_rfl) (by kernel_rfl) (fun _ _ _ h => h) (by rfl) ?_ hHeld ?_
    rotate_left
    · intro w hSw
      (try dsimp only at hSw)
      go_simp
      try with_reducible rfl
    try simp only [Act.put, List.setIfInBounds_toArray, List.set_cons_zero, List.set_cons_succ]
    refine take_in (i := 45) (v := ?_) rfl (by kernel_rfl) (by kernel_rfl) (by kernel_rfl) (fun _ _ _ h => h) (by rfl) ?_ hHeld ?_
    rotate_left
    · intro w hSw
      (try dsimp only at hSw)
      go_simp
      try with_reducible rfl
    try simp only [Act.put, List.setIfInBounds_toArray, List.set_cons_zero, List.set_cons_succ]
    refine take_in (i := 46) (v := ?_) rfl (by kernel_rfl) (by kernel_rfl) (by kernel_rfl) (fun _ _ _ h => h) (by rfl) ?_ hHeld ?_
    rotate_left
    · intro w hSw
      (try dsimp only at hSw)
      go_simp
      try with_reducible rfl
    try simp only [Act.put, List.setIfInBounds_toArray, List.set_cons_zero, List.set_cons_succ]
    refine take_in (i := 48) (v := ?_) rfl (by kernel_rfl) (by kernel_rfl) (by kernel_rfl) (fun _ _ _ h => h) (by rfl) ?_ hHeld ?_
    rotate_left
    · intro w hSw
      (try dsimp only at hSw)
      go_simp
      try with_reducible rfl
    try simp only [Act.put, List.setIfInBounds_toArray, List.set_cons_zero, List.set_cons_succ]
    refine call_in (i := 47) rfl (by kernel_rfl) (fun K hK => ?_)
    clear hHeld
    go_simp
    (go_at_call 21; refine (nodes_is a _ _ (HOW.out.below (HCO.out.trans (hy8.out.mono HCO.out.size))) (Nat.le_trans HMA.out (by decide)) N HNN.out).mono ?_; rintro e y9 ⟨rfl, hb9⟩; have hy9 : Hid (Below wc.heap.size wc y9) := hy8.out.trans (hb9.mono hy8.out.size); clear hb9)
    try (go_wp2_with fail)
    refine hK.out _ _ (hk9.out _ hy9.out) (fun hHeld => ?_)
    clear hK K
    try simp only [Act.put, List.setIfInBounds_toArray, List.set_cons_zero, List.set_cons_succ]
    refine call_in (i := 49) rfl (by kernel_rfl) (fun K hK => ?_)
    clear hHeld
    go_simp
    (go_at_call 22; refine (levelNodes_is a _ 64 _ (HW1.out.below (HC8.out.trans (hy9.out.mono HC8.out.size))) (by omega) N HNN.out).mono ?_; rintro e y10 ⟨rfl, hb9⟩; have hy10 : Hid (Below wc.heap.size wc y10) := hy9.out.trans (hb9.mono hy9.out.size); clear hb9)
    try (go_wp2_with fail)
    refine hK.out _ _ (hk9.out _ hy10.out) (fun hHeld => ?_)
    clear hK K
    try simp only [Act.put, List.setIfInBounds_toArray, List.set_cons_zero, List.set_cons_succ]
    refine take_in (i := 50) (v := ?_) rfl (by kernel_rfl) (by kernel_rfl) (by kernel_rfl) (fun _ _ _ h => h) (by rfl) ?_ hHeld ?_
    rotate_left
    · intro w hSw
      (try dsimp only at hSw)
      go_simp
      try with_reducible rfl
    try simp only [Act.put, List.setIfInBounds_toArray, List.set_cons_zero, List.set_cons_succ]
    refine take_in (i := 51) (v := ?_) rfl (by kernel_rfl) (by kernel_rfl) (by kernel_rfl) (fun _ _ _ h => h) (by rfl) ?_ hHeld ?_
    rotate_left
    · intro w hSw
      (try dsimp only at hSw)
      go_simp
      try with_reducible rfl
    try simp only [Act.put, List.setIfInBounds_toArray, List.set_cons_zero, List.set_cons_succ]
    refine take_in (i := 52) (v := ?_) rfl (by kernel_rfl) (by kernel_rfl) (by kernel_rfl) (fun _ _ _ h => h) (by rfl) ?_ hHeld ?_
    rotate_left
    · intro w hSw
      (try dsimp only at hSw)
      go_simp
      try with_reducible rfl
    try simp only [Act.put, List.setIfInBounds_toArray, List.set_cons_zero, List.set_cons_succ]
    refine take_in (i := 53) (v := ?_) rfl (by kernel_rfl) (by kernel_rfl) (by kernel_rfl) (fun _ _ _ h => h) (by rfl) ?_ hHeld ?_
    rotate_left
    · intro w hSw
      (try dsimp only at hSw)
      go_simp
      try with_reducible rfl
    try simp only [Act.put, List.setIfInBounds_toArray, List.set_cons_zero, List.set_cons_succ]
    refine take_in (i := 54) (v := ?_) rfl (by kernel_rfl) (by kernel_rfl) (by kernel_rfl) (fun _ _ _ h => h) (by rfl) ?_ hHeld ?_
    rotate_left
    · intro w hSw
      (try dsimp only at hSw)
      go_simp
      try with_reducible rfl
    try simp only [Act.put, List.setIfInBounds_toArray, List.set_cons_zero, List.set_cons_succ]
    refine call_in (i := 55) rfl (by kernel_rfl) (fun K hK => ?_)
    clear hHeld
    go_simp
    (go_at_call 23; refine (sameLevel_same a _ _ _ (HOW.out.below (HCO.out.trans (hy10.out.mono HCO.out.size))) (HW1.out.below (HC8.out.trans (hy10.out.mono HC8.out.size)))).mono ?_; rintro e y11 ⟨rfl, hb9⟩; have hy11 : Hid (Below wc.heap.size wc y11) := hy10.out.trans (hb9.mono hy10.out.size); clear hb9)
    try (go_wp2_with fail)
    refine hK.out _ _ (hk9.out _ hy11.out) (fun hHeld => ?_)
    clear hK K
    try simp only [Act.put, List.setIfInBounds_toArray, List.set_cons_zero, List.set_cons_succ]
    refine take_in (i := 56) (v := ?_) rfl (by kernel_rfl) (by kernel_rfl) (by kernel_rfl) (fun _ _ _ h => h) (by rfl) ?_ hHeld ?_
    rotate_left
    · intro w hSw
      (try dsimp only at hSw)
      go_simp
      try with_reducible rfl
    try simp only [Act.put, List.setIfInBounds_toArray, List.set_cons_zero, List.set_cons_succ]
    refine take_in (i := 57) (v := ?_) rfl (by kernel_rfl) (by kernel_rfl) (by kernel_rfl) (fun _ _ _ h => h) (by rfl) ?_ hHeld ?_
    rotate_left
    · intro w hSw
      (try dsimp only at hSw)
      go_simp
      try with_reducible rfl
    try simp only [Act.put, List.setIfInBounds_toArray, List.set_cons_zero, List.set_cons_succ]
    refine wpAnyH_done (by kernel_rfl) ?_ _
    go_wp2_with fail
    go_ret
    exact ⟨rfl, HB.out.trans ((HC8.out.trans (hy11.out.mono HC8.out.size)).mono HB.out.size)⟩
end Go.Proofs.Yteghldgopidhhaa
