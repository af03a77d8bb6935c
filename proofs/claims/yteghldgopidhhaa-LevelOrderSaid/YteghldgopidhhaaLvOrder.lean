/-
  The law LevelOrder, walked: whatever comes in, it returns true, and nothing that was there turns.
  Conditions: the levels and the slice of numbers lie in memory as told by 'LvV', 'NSl'; the laws' own check 'alive' returns true.
-/
import Derived.Test.YteghldgopidhhaaLvCmp
import Derived.Test.YteghldgopidhhaaLvPVal
import Derived.Test.YteghldgopidhhaaLvGreat
import Derived.Test.YteghldgopidhhaaLvHeld
import Derived.Deep.DeepCutAuto
namespace Go.Proofs.Yteghldgopidhhaa
open Go.RowKit
open Lvl

theorem leq_self {t : Lv} (h : rightB 4 t = true) : LeqIs t t true := by
  obtain ⟨_, x, hx⟩ := rightB_is h
  exact .inl ⟨h, h, x, x, hx, hx, fun _ => leq_refl x, fun _ => rfl⟩
theorem leq_tr {t u v : Lv} {b : Bool} (h1 : LeqIs t u true) (h2 : LeqIs u v true) (h3 : LeqIs t v b) : b = true := by
  rcases h1 with ⟨r1, _, x, y, hx, hy, h1⟩ | ⟨_, h⟩
  · rcases h2 with ⟨_, r2, y', z, hy', hz, h2⟩ | ⟨_, h⟩
    · rcases h3 with ⟨_, _, x', z', hx', hz', h3⟩ | ⟨h3, _⟩
      · rw [isL_one hx' hx, isL_one hz' hz] at h3
        rw [isL_one hy' hy] at h2
        exact h3.2 (leq_trans (h1.1 rfl) (h2.1 rfl))
      · rcases h3 with h3 | h3
        · rw [r1] at h3; cases h3
        · rw [r2] at h3; cases h3
    · cases h
  · cases h
theorem leq_val {t u : Lv} {zs : List Int} {R Q : Nat} (h : LeqIs t u true) (hR : ValIs t zs R) (hQ : ValIs u zs Q) : R ≤ Q := by
  rcases h with ⟨r1, r2, x, y, hx, hy, h⟩ | ⟨_, h⟩
  · rcases hR with ⟨e, _⟩ | ⟨_, x', hx', rfl⟩
    · rw [r1] at e; cases e
    · rcases hQ with ⟨e, _⟩ | ⟨_, y', hy', rfl⟩
      · rw [r2] at e; cases e
      · rw [isL_one hx' hx, isL_one hy' hy]
        exact h.1 rfl _
  · cases h
theorem leq_right {t u : Lv} (h : LeqIs t u true) : rightB 4 t = true := by
  rcases h with ⟨r1, _⟩ | ⟨_, h⟩
  · exact r1
  · cases h

set_option maxRecDepth 100000 in
set_option maxHeartbeats 4000000 in
theorem levelOrder_any (AL : ∀ w, Calls Try.prog 8 #[] w (Ret w (.bool true))) (a b c : Lv) (va vb vc S : Value) (zs : List Int) (w : World) (hv1 : LvV w a va) (hv2 : LvV w b vb) (hv3 : LvV w c vc) (hS : NSl w S zs) (hl : zs.length ≤ 140737488355328) :
    Calls Try.prog 5 #[va, vb, vc, S] w (Ret w (.bool true)) := by
  have HAL := Lib.hid AL
  have HS0 := Lib.hid hS
  obtain ⟨A, m, cp, rfl, hN, hc, hA, hx⟩ := hS
  have HL := Lib.hid hl
  have HN := Lib.hid hN
  have hm7 : m ≤ 140737488355328 := by rw [← hN]; exact hl
  clear AL hx hA hN hl
  obtain ⟨g1, hg1⟩ : ∃ g, decide (300 < nodes a) = g := ⟨_, rfl⟩
  obtain ⟨g2, hg2⟩ : ∃ g, decide (300 < nodes b) = g := ⟨_, rfl⟩
  obtain ⟨g3, hg3⟩ : ∃ g, decide (300 < nodes c) = g := ⟨_, rfl⟩
  have HG1 := Lib.hid hg1
  have HG2 := Lib.hid hg2
  have HG3 := Lib.hid hg3
  obtain ⟨ra, hra⟩ : ∃ r, rightB 4 a = r := ⟨_, rfl⟩
  have HRA := Lib.hid hra
  obtain ⟨lab, hlab⟩ := leqIs_ex a b
  obtain ⟨lbc, hlbc⟩ := leqIs_ex b c
  obtain ⟨lac, hlac⟩ := leqIs_ex a c
  obtain ⟨RA, hRA⟩ := valIs_ex a zs
  obtain ⟨RB, hRB⟩ := valIs_ex b zs
  have HLAB := Lib.hid hlab
  have HLBC := Lib.hid hlbc
  have HLAC := Lib.hid hlac
  have HVA := Lib.hid hRA
  have HVB := Lib.hid hRB
  have H1 : Hid (lab = true → ra = true ∧ RA ≤ RB) := fun h => by
    subst h
    exact ⟨by rw [← hra]; exact leq_right hlab, leq_val hlab hRA hRB⟩
  have H2 : Hid (lab = true → lbc = true → lac = true) := fun h h' => by
    subst h; subst h'
    exact leq_tr hlab hlbc hlac
  clear hg1 hg2 hg3 hra hlab hlbc hlac hRA hRB
  obtain ⟨s1, rfl, hs1⟩ := hv1
  have HV1 := Lib.hid (show LvV w a _ from ⟨s1, rfl, hs1⟩)
  obtain ⟨s2, rfl, hs2⟩ := hv2
  have HV2 := Lib.hid (show LvV w b _ from ⟨s2, rfl, hs2⟩)
  obtain ⟨s3, rfl, hs3⟩ := hv3
  have HV3 := Lib.hid (show LvV w c _ from ⟨s3, rfl, hs3⟩)
  generalize kindOf a = k1 at *
  generalize numOf a = n1 at *
  generalize kindOf b = k2 at *
  generalize numOf b = n2 at *
  generalize kindOf c = k3 at *
  generalize numOf c = n3 at *
  clear hs1 hs2 hs3
  go_enter Try.func5, Try.ntmps5
  go_wp2_with fail
  have hz1 : (w.alloc (.cells #[.int .i64 k1, .int .i64 n1, s1] 24)).heap.size = w.heap.size + 1 := by simp
  have hr1 : (w.alloc (.cells #[.int .i64 k1, .int .i64 n1, s1] 24)).heap[w.heap.size]? = some (.cells #[.int .i64 k1, .int .i64 n1, s1] 24) := by
    have := heap_alloc_new w (.cells #[.int .i64 k1, .int .i64 n1, s1] 24)
    exact this
  have hz2 : ((w.alloc (.cells #[.int .i64 k1, .int .i64 n1, s1] 24)).alloc (.cells #[.int .i64 k2, .int .i64 n2, s2] 24)).heap.size = w.heap.size + 1 + 1 := by simp
  have hr2 : ((w.alloc (.cells #[.int .i64 k1, .int .i64 n1, s1] 24)).alloc (.cells #[.int .i64 k2, .int .i64 n2, s2] 24)).heap[w.heap.size + 1]? = some (.cells #[.int .i64 k2, .int .i64 n2, s2] 24) := by
    have := heap_alloc_new (w.alloc (.cells #[.int .i64 k1, .int .i64 n1, s1] 24)) (.cells #[.int .i64 k2, .int .i64 n2, s2] 24)
    rwa [hz1] at this
  have hz3 : (((w.alloc (.cells #[.int .i64 k1, .int .i64 n1, s1] 24)).alloc (.cells #[.int .i64 k2, .int .i64 n2, s2] 24)).alloc (.cells #[.int .i64 k3, .int .i64 n3, s3] 24)).heap.size = w.heap.size + 1 + 1 + 1 := by simp
  have hr3 : (((w.alloc (.cells #[.int .i64 k1, .int .i64 n1, s1] 24)).alloc (.cells #[.int .i64 k2, .int .i64 n2, s2] 24)).alloc (.cells #[.int .i64 k3, .int .i64 n3, s3] 24)).heap[w.heap.size + 1 + 1]? = some (.cells #[.int .i64 k3, .int .i64 n3, s3] 24) := by
    have := heap_alloc_new ((w.alloc (.cells #[.int .i64 k1, .int .i64 n1, s1] 24)).alloc (.cells #[.int .i64 k2, .int .i64 n2, s2] 24)) (.cells #[.int .i64 k3, .int .i64 n3, s3] 24)
    rwa [hz2] at this
  have HB := Lib.hid (((below_lit w (.cells #[.int .i64 k1, .int .i64 n1, s1] 24)).trans ((below_lit (w.alloc (.cells #[.int .i64 k1, .int .i64 n1, s1] 24)) (.cells #[.int .i64 k2, .int .i64 n2, s2] 24)).mono (below_lit w (.cells #[.int .i64 k1, .int .i64 n1, s1] 24)).size)).trans ((below_lit ((w.alloc (.cells #[.int .i64 k1, .int .i64 n1, s1] 24)).alloc (.cells #[.int .i64 k2, .int .i64 n2, s2] 24)) (.cells #[.int .i64 k3, .int .i64 n3, s3] 24)).mono ((below_lit w (.cells #[.int .i64 k1, .int .i64 n1, s1] 24)).trans ((below_lit (w.alloc (.cells #[.int .i64 k1, .int .i64 n1, s1] 24)) (.cells #[.int .i64 k2, .int .i64 n2, s2] 24)).mono (below_lit w (.cells #[.int .i64 k1, .int .i64 n1, s1] 24)).size)).size))
  have HR0 := Lib.hid ((heap_alloc_old ((w.alloc (.cells #[.int .i64 k1, .int .i64 n1, s1] 24)).alloc (.cells #[.int .i64 k2, .int .i64 n2, s2] 24)) (.cells #[.int .i64 k3, .int .i64 n3, s3] 24) (by rw [hz2]; omega)).trans ((heap_alloc_old (w.alloc (.cells #[.int .i64 k1, .int .i64 n1, s1] 24)) (.cells #[.int .i64 k2, .int .i64 n2, s2] 24) (by rw [hz1]; omega)).trans (hr1)))
  have HZ0 := Lib.hid (show w.heap.size < (((w.alloc (.cells #[.int .i64 k1, .int .i64 n1, s1] 24)).alloc (.cells #[.int .i64 k2, .int .i64 n2, s2] 24)).alloc (.cells #[.int .i64 k3, .int .i64 n3, s3] 24)).heap.size by rw [hz3]; omega)
  have HR1 := Lib.hid ((heap_alloc_old ((w.alloc (.cells #[.int .i64 k1, .int .i64 n1, s1] 24)).alloc (.cells #[.int .i64 k2, .int .i64 n2, s2] 24)) (.cells #[.int .i64 k3, .int .i64 n3, s3] 24) (by rw [hz2]; omega)).trans (hr2))
  have HZ1 := Lib.hid (show w.heap.size + 1 < (((w.alloc (.cells #[.int .i64 k1, .int .i64 n1, s1] 24)).alloc (.cells #[.int .i64 k2, .int .i64 n2, s2] 24)).alloc (.cells #[.int .i64 k3, .int .i64 n3, s3] 24)).heap.size by rw [hz3]; omega)
  have HR2 := Lib.hid (hr3)
  have HZ2 := Lib.hid (show w.heap.size + 1 + 1 < (((w.alloc (.cells #[.int .i64 k1, .int .i64 n1, s1] 24)).alloc (.cells #[.int .i64 k2, .int .i64 n2, s2] 24)).alloc (.cells #[.int .i64 k3, .int .i64 n3, s3] 24)).heap.size by rw [hz3]; omega)
  clear hr1 hr2 hr3
  generalize (((w.alloc (.cells #[.int .i64 k1, .int .i64 n1, s1] 24)).alloc (.cells #[.int .i64 k2, .int .i64 n2, s2] 24)).alloc (.cells #[.int .i64 k3, .int .i64 n3, s3] 24)) = W at *
  clear hz1 hz2 hz3
  have hk : Hid (∀ W', Below W.heap.size W W' → W'.cell? ⟨w.heap.size, 0, none⟩ = some (.int .i64 k1) ∧ W'.cell? ⟨w.heap.size, 1, none⟩ = some (.int .i64 n1) ∧ W'.cell? ⟨w.heap.size, 2, none⟩ = some (s1) ∧ W'.cell? ⟨w.heap.size + 1, 0, none⟩ = some (.int .i64 k2) ∧ W'.cell? ⟨w.heap.size + 1, 1, none⟩ = some (.int .i64 n2) ∧ W'.cell? ⟨w.heap.size + 1, 2, none⟩ = some (s2) ∧ W'.cell? ⟨w.heap.size + 1 + 1, 0, none⟩ = some (.int .i64 k3) ∧ W'.cell? ⟨w.heap.size + 1 + 1, 1, none⟩ = some (.int .i64 n3) ∧ W'.cell? ⟨w.heap.size + 1 + 1, 2, none⟩ = some (s3)) := fun W' h => by
    have p0 := (h.block (w.heap.size) HZ0.out).trans HR0.out
    have p1 := (h.block (w.heap.size + 1) HZ1.out).trans HR1.out
    have p2 := (h.block (w.heap.size + 1 + 1) HZ2.out).trans HR2.out
    exact ⟨cell_of_row _ _ 0 _ 24 (0, 0) p0, cell_of_row _ _ 1 _ 24 (0, 0) p0, cell_of_row _ _ 2 _ 24 (0, 0) p0, cell_of_row _ _ 0 _ 24 (0, 0) p1, cell_of_row _ _ 1 _ 24 (0, 0) p1, cell_of_row _ _ 2 _ 24 (0, 0) p1, cell_of_row _ _ 0 _ 24 (0, 0) p2, cell_of_row _ _ 1 _ 24 (0, 0) p2, cell_of_row _ _ 2 _ 24 (0, 0) p2⟩
  have HC0 := Lib.hid (Below.refl W.heap.size W)
  have HS := Lib.hid (HS0.out.below HB.out)
  have HW1 := Lib.hid (HV1.out.below HB.out)
  have HW2 := Lib.hid (HV2.out.below HB.out)
  have HW3 := Lib.hid (HV3.out.below HB.out)
  clear HR0 HR1 HR2 HZ0 HZ1 HZ2 HS0 HV1 HV2 HV3
  refine (HAL.out W).mono ?_
  rintro e v1 ⟨rfl, hb⟩
  have HC1 := Lib.hid (HC0.out.trans (hb.mono HC0.out.size))
  clear hb
  obtain ⟨m1, m2, m3, m4, m5, m6, m7, m8, m9⟩ := hk.out v1 HC1.out
  go_wp2_with fail
  cases g1
  case true =>
    refine (great_is a _ _ (HW1.out.below HC1.out) true HG1.out).mono ?_
    rintro e v2 ⟨rfl, hb⟩
    have HC2 := Lib.hid (HC1.out.trans (hb.mono HC1.out.size))
    clear hb
    clear m1 m2 m3 m4 m5 m6 m7 m8 m9
    obtain ⟨m1, m2, m3, m4, m5, m6, m7, m8, m9⟩ := hk.out v2 HC2.out
    go_wp2_with fail
    go_ret
    exact ⟨rfl, HB.out.trans (HC2.out.mono HB.out.size)⟩
  refine (great_is a _ _ (HW1.out.below HC1.out) false HG1.out).mono ?_
  rintro e v2 ⟨rfl, hb⟩
  have HC2 := Lib.hid (HC1.out.trans (hb.mono HC1.out.size))
  clear hb
  clear m1 m2 m3 m4 m5 m6 m7 m8 m9
  obtain ⟨m1, m2, m3, m4, m5, m6, m7, m8, m9⟩ := hk.out v2 HC2.out
  go_wp2_with fail
  cases g2
  case true =>
    refine (great_is b _ _ (HW2.out.below HC2.out) true HG2.out).mono ?_
    rintro e v3 ⟨rfl, hb⟩
    have HC3 := Lib.hid (HC2.out.trans (hb.mono HC2.out.size))
    clear hb
    clear m1 m2 m3 m4 m5 m6 m7 m8 m9
    obtain ⟨m1, m2, m3, m4, m5, m6, m7, m8, m9⟩ := hk.out v3 HC3.out
    go_wp2_with fail
    go_ret
    exact ⟨rfl, HB.out.trans (HC3.out.mono HB.out.size)⟩
  refine (great_is b _ _ (HW2.out.below HC2.out) false HG2.out).mono ?_
  rintro e v3 ⟨rfl, hb⟩
  have HC3 := Lib.hid (HC2.out.trans (hb.mono HC2.out.size))
  clear hb
  clear m1 m2 m3 m4 m5 m6 m7 m8 m9
  obtain ⟨m1, m2, m3, m4, m5, m6, m7, m8, m9⟩ := hk.out v3 HC3.out
  go_wp2_with fail
  cases g3
  case true =>
    refine (great_is c _ _ (HW3.out.below HC3.out) true HG3.out).mono ?_
    rintro e v4 ⟨rfl, hb⟩
    have HC4 := Lib.hid (HC3.out.trans (hb.mono HC3.out.size))
    clear hb
    clear m1 m2 m3 m4 m5 m6 m7 m8 m9
    obtain ⟨m1, m2, m3, m4, m5, m6, m7, m8, m9⟩ := hk.out v4 HC4.out
    go_wp2_with fail
    go_ret
    exact ⟨rfl, HB.out.trans (HC4.out.mono HB.out.size)⟩
  by_cases hm : 50 < m
  · have hd : decide ((50 : Int) < (m : Int)) = true := by simp; omega
    refine (great_is c _ _ (HW3.out.below HC3.out) false HG3.out).mono ?_
    rintro e v4 ⟨rfl, hb⟩
    have HC4 := Lib.hid (HC3.out.trans (hb.mono HC3.out.size))
    clear hb
    clear m1 m2 m3 m4 m5 m6 m7 m8 m9
    obtain ⟨m1, m2, m3, m4, m5, m6, m7, m8, m9⟩ := hk.out v4 HC4.out
    go_wp2_with fail
    go_ret
    exact ⟨rfl, HB.out.trans (HC4.out.mono HB.out.size)⟩
  have hd : decide ((50 : Int) < (m : Int)) = false := by simp; omega
  have HMA : Hid (nodes a ≤ 300) := by
    have h9 := of_decide_eq_false HG1.out
    have : nodes a ≤ 300 := by omega
    exact this
  have HMB : Hid (nodes b ≤ 300) := by
    have h9 := of_decide_eq_false HG2.out
    have : nodes b ≤ 300 := by omega
    exact this
  have HMC : Hid (nodes c ≤ 300) := by
    have h9 := of_decide_eq_false HG3.out
    have : nodes c ≤ 300 := by omega
    exact this
  refine (great_is c _ _ (HW3.out.below HC3.out) false HG3.out).mono ?_
  rintro e v4 ⟨rfl, hb⟩
  have HC4 := Lib.hid (HC3.out.trans (hb.mono HC3.out.size))
  clear hb
  clear m1 m2 m3 m4 m5 m6 m7 m8 m9
  obtain ⟨m1, m2, m3, m4, m5, m6, m7, m8, m9⟩ := hk.out v4 HC4.out
  go_wp2_with fail
  cases ra
  · have hlf : lab = false := by
      cases hll : lab
      · rfl
      · have := (H1.out hll).1
        cases this
    subst hlf
    refine (right_any a _ 4 _ (HW1.out.below HC4.out) (Nat.le_trans HMA.out (by decide)) false HRA.out).mono ?_
    rintro e v5 ⟨rfl, hb⟩
    have HC5 := Lib.hid (HC4.out.trans (hb.mono HC4.out.size))
    clear hb
    clear m1 m2 m3 m4 m5 m6 m7 m8 m9
    obtain ⟨m1, m2, m3, m4, m5, m6, m7, m8, m9⟩ := hk.out v5 HC5.out
    go_wp2_with fail
    have hk9 : Hid (∀ W', Below v5.heap.size v5 W' → W'.cell? ⟨w.heap.size, 0, none⟩ = some (.int .i64 k1) ∧ W'.cell? ⟨w.heap.size, 1, none⟩ = some (.int .i64 n1) ∧ W'.cell? ⟨w.heap.size, 2, none⟩ = some (s1) ∧ W'.cell? ⟨w.heap.size + 1, 0, none⟩ = some (.int .i64 k2) ∧ W'.cell? ⟨w.heap.size + 1, 1, none⟩ = some (.int .i64 n2) ∧ W'.cell? ⟨w.heap.size + 1, 2, none⟩ = some (s2) ∧ W'.cell? ⟨w.heap.size + 1 + 1, 0, none⟩ = some (.int .i64 k3) ∧ W'.cell? ⟨w.heap.size + 1 + 1, 1, none⟩ = some (.int .i64 n3) ∧ W'.cell? ⟨w.heap.size + 1 + 1, 2, none⟩ = some (s3)) := fun W' h => hk.out W' (HC5.out.trans (h.mono HC5.out.size))
    have HD : Hid (Below v5.heap.size v5 v5.drew) := (Below.refl _ _).drew
    go_cut [45] (fun s45 wx => s45 = .bool false ∧ Below v5.heap.size v5 wx)
    case first =>
      refine wp_region_held_drew (S := fun W' => W'.cell? ⟨w.heap.size, 0, none⟩ = some (.int .i64 k1) ∧ W'.cell? ⟨w.heap.size, 1, none⟩ = some (.int .i64 n1) ∧ W'.cell? ⟨w.heap.size, 2, none⟩ = some (s1) ∧ W'.cell? ⟨w.heap.size + 1, 0, none⟩ = some (.int .i64 k2) ∧ W'.cell? ⟨w.heap.size + 1, 1, none⟩ = some (.int .i64 n2) ∧ W'.cell? ⟨w.heap.size + 1, 2, none⟩ = some (s2) ∧ W'.cell? ⟨w.heap.size + 1 + 1, 0, none⟩ = some (.int .i64 k3) ∧ W'.cell? ⟨w.heap.size + 1 + 1, 1, none⟩ = some (.int .i64 n3) ∧ W'.cell? ⟨w.heap.size + 1 + 1, 2, none⟩ = some (s3)) (by kernel_rfl) (hk9.out _ HD.out) (fun hHeld => ?_)
      refine take_in (i := 0) (v := ?_) rfl (by kernel_rfl) (by kernel_rfl) (by kernel_rfl) (fun _ _ _ h => h) (by rfl) ?_ hHeld ?_
      rotate_left
      · intro w hSw
        (try dsimp only at hSw)
        go_simp
        try with_reducible rfl
      try simp only [Act.put, List.setIfInBounds_toArray, List.set_cons_zero, List.set_cons_succ]
      refine take_in (i := 1) (v := ?_) rfl (by kernel_rfl) (by kernel_rfl) (by kernel_rfl) (fun _ _ _ h => h) (by rfl) ?_ hHeld ?_
      rotate_left
      · intro w hSw
        (try dsimp only at hSw)
        go_simp
        try with_reducible rfl
      try simp only [Act.put, List.setIfInBounds_toArray, List.set_cons_zero, List.set_cons_succ]
      refine call_in (i := 2) rfl (by kernel_rfl) (fun K hK => ?_)
      clear hHeld
      go_simp
      (go_at_call 17; refine (leq_any a b _ _ _ (HW1.out.below (HC5.out.trans (HD.out.mono HC5.out.size))) (HW2.out.below (HC5.out.trans (HD.out.mono HC5.out.size))) (Nat.le_trans HMA.out (by decide)) (Nat.le_trans HMB.out (by decide)) false HLAB.out).mono ?_; rintro e x1 ⟨rfl, hb9⟩; have hx1 : Hid (Below v5.heap.size v5 x1) := HD.out.trans (hb9.mono HD.out.size); clear hb9)
      try (go_wp2_with fail)
      refine hK.out _ _ (hk9.out _ hx1.out) (fun hHeld => ?_)
      clear hK K
      try simp only [Act.put, List.setIfInBounds_toArray, List.set_cons_zero, List.set_cons_succ]
      refine take_in (i := 3) (v := ?_) rfl (by kernel_rfl) (by kernel_rfl) (by kernel_rfl) (fun _ _ _ h => h) (by rfl) ?_ hHeld ?_
      rotate_left
      · intro w hSw
        (try dsimp only at hSw)
        go_simp
        try with_reducible rfl
      try simp only [Act.put, List.setIfInBounds_toArray, List.set_cons_zero, List.set_cons_succ]
      refine skip_in (i := 4) rfl (by kernel_rfl) (by kernel_rfl) (by kernel_rfl) (fun _ _ _ h => h) (by rfl) hHeld ?_
      try simp only [Act.put, List.setIfInBounds_toArray, List.set_cons_zero, List.set_cons_succ]
      refine skip_in (i := 5) rfl (by kernel_rfl) (by kernel_rfl) (by kernel_rfl) (fun _ _ _ h => h) (by rfl) hHeld ?_
      try simp only [Act.put, List.setIfInBounds_toArray, List.set_cons_zero, List.set_cons_succ]
      refine skip_in (i := 6) rfl (by kernel_rfl) (by kernel_rfl) (by kernel_rfl) (fun _ _ _ h => h) (by rfl) hHeld ?_
      try simp only [Act.put, List.setIfInBounds_toArray, List.set_cons_zero, List.set_cons_succ]
      refine skip_in (i := 7) rfl (by kernel_rfl) (by kernel_rfl) (by kernel_rfl) (fun _ _ _ h => h) (by rfl) hHeld ?_
      try simp only [Act.put, List.setIfInBounds_toArray, List.set_cons_zero, List.set_cons_succ]
      refine skip_in (i := 8) rfl (by kernel_rfl) (by kernel_rfl) (by kernel_rfl) (fun _ _ _ h => h) (by rfl) hHeld ?_
      try simp only [Act.put, List.setIfInBounds_toArray, List.set_cons_zero, List.set_cons_succ]
      refine skip_in (i := 9) rfl (by kernel_rfl) (by kernel_rfl) (by kernel_rfl) (fun _ _ _ h => h) (by rfl) hHeld ?_
      try simp only [Act.put, List.setIfInBounds_toArray, List.set_cons_zero, List.set_cons_succ]
      refine skip_in (i := 10) rfl (by kernel_rfl) (by kernel_rfl) (by kernel_rfl) (fun _ _ _ h => h) (by rfl) hHeld ?_
      try simp only [Act.put, List.setIfInBounds_toArray, List.set_cons_zero, List.set_cons_succ]
      refine take_in (i := 11) (v := ?_) rfl (by kernel_rfl) (by kernel_rfl) (by kernel_rfl) (fun _ _ _ h => h) (by rfl) ?_ hHeld ?_
      rotate_left
      · intro w hSw
        (try dsimp only at hSw)
        go_simp
        try with_reducible rfl
      try simp only [Act.put, List.setIfInBounds_toArray, List.set_cons_zero, List.set_cons_succ]
      refine wpAnyH_done (by kernel_rfl) ?_ _
      first | (go_wp2_with fail; go_meet; exact ⟨rfl, hx1.out⟩) | (dsimp only; go_meet; exact ⟨rfl, hx1.out⟩) | (go_meet; go_meet; exact ⟨rfl, hx1.out⟩) | (go_wp2_with fail; trace_state; fail)
    case rest =>
    obtain ⟨rfl, hbc⟩ := hcut
    have HC6 := Lib.hid (HC5.out.trans (hbc.mono HC5.out.size))
    clear m1 m2 m3 m4 m5 m6 m7 m8 m9 hbc
    obtain ⟨m1, m2, m3, m4, m5, m6, m7, m8, m9⟩ := hk.out wc HC6.out
    go_wp2_with fail
    refine (leq_any a b _ _ _ (HW1.out.below HC6.out) (HW2.out.below HC6.out) (Nat.le_trans HMA.out (by decide)) (Nat.le_trans HMB.out (by decide)) false HLAB.out).mono ?_
    rintro e v7 ⟨rfl, hb⟩
    have HC7 := Lib.hid (HC6.out.trans (hb.mono HC6.out.size))
    clear hb
    clear m1 m2 m3 m4 m5 m6 m7 m8 m9
    obtain ⟨m1, m2, m3, m4, m5, m6, m7, m8, m9⟩ := hk.out v7 HC7.out
    go_wp2_with fail
    go_ret
    exact ⟨rfl, HB.out.trans (HC7.out.mono HB.out.size)⟩
  · refine (right_any a _ 4 _ (HW1.out.below HC4.out) (Nat.le_trans HMA.out (by decide)) true HRA.out).mono ?_
    rintro e v5 ⟨rfl, hb⟩
    have HC5 := Lib.hid (HC4.out.trans (hb.mono HC4.out.size))
    clear hb
    clear m1 m2 m3 m4 m5 m6 m7 m8 m9
    obtain ⟨m1, m2, m3, m4, m5, m6, m7, m8, m9⟩ := hk.out v5 HC5.out
    go_wp2_with fail
    refine (leq_any a a _ _ _ (HW1.out.below HC5.out) (HW1.out.below HC5.out) (Nat.le_trans HMA.out (by decide)) (Nat.le_trans HMA.out (by decide)) true (leq_self HRA.out)).mono ?_
    rintro e v6 ⟨rfl, hb⟩
    have HC6 := Lib.hid (HC5.out.trans (hb.mono HC5.out.size))
    clear hb
    clear m1 m2 m3 m4 m5 m6 m7 m8 m9
    obtain ⟨m1, m2, m3, m4, m5, m6, m7, m8, m9⟩ := hk.out v6 HC6.out
    go_wp2_with fail
    cases lab
    · have hk9 : Hid (∀ W', Below v6.heap.size v6 W' → W'.cell? ⟨w.heap.size, 0, none⟩ = some (.int .i64 k1) ∧ W'.cell? ⟨w.heap.size, 1, none⟩ = some (.int .i64 n1) ∧ W'.cell? ⟨w.heap.size, 2, none⟩ = some (s1) ∧ W'.cell? ⟨w.heap.size + 1, 0, none⟩ = some (.int .i64 k2) ∧ W'.cell? ⟨w.heap.size + 1, 1, none⟩ = some (.int .i64 n2) ∧ W'.cell? ⟨w.heap.size + 1, 2, none⟩ = some (s2) ∧ W'.cell? ⟨w.heap.size + 1 + 1, 0, none⟩ = some (.int .i64 k3) ∧ W'.cell? ⟨w.heap.size + 1 + 1, 1, none⟩ = some (.int .i64 n3) ∧ W'.cell? ⟨w.heap.size + 1 + 1, 2, none⟩ = some (s3)) := fun W' h => hk.out W' (HC6.out.trans (h.mono HC6.out.size))
      have HD : Hid (Below v6.heap.size v6 v6.drew) := (Below.refl _ _).drew
      go_cut [45] (fun s45 wx => s45 = .bool false ∧ Below v6.heap.size v6 wx)
      case first =>
        refine wp_region_held_drew (S := fun W' => W'.cell? ⟨w.heap.size, 0, none⟩ = some (.int .i64 k1) ∧ W'.cell? ⟨w.heap.size, 1, none⟩ = some (.int .i64 n1) ∧ W'.cell? ⟨w.heap.size, 2, none⟩ = some (s1) ∧ W'.cell? ⟨w.heap.size + 1, 0, none⟩ = some (.int .i64 k2) ∧ W'.cell? ⟨w.heap.size + 1, 1, none⟩ = some (.int .i64 n2) ∧ W'.cell? ⟨w.heap.size + 1, 2, none⟩ = some (s2) ∧ W'.cell? ⟨w.heap.size + 1 + 1, 0, none⟩ = some (.int .i64 k3) ∧ W'.cell? ⟨w.heap.size + 1 + 1, 1, none⟩ = some (.int .i64 n3) ∧ W'.cell? ⟨w.heap.size + 1 + 1, 2, none⟩ = some (s3)) (by kernel_rfl) (hk9.out _ HD.out) (fun hHeld => ?_)
        refine take_in (i := 0) (v := ?_) rfl (by kernel_rfl) (by kernel_rfl) (by kernel_rfl) (fun _ _ _ h => h) (by rfl) ?_ hHeld ?_
        rotate_left
        · intro w hSw
          (try dsimp only at hSw)
          go_simp
          try with_reducible rfl
        try simp only [Act.put, List.setIfInBounds_toArray, List.set_cons_zero, List.set_cons_succ]
        refine take_in (i := 1) (v := ?_) rfl (by kernel_rfl) (by kernel_rfl) (by kernel_rfl) (fun _ _ _ h => h) (by rfl) ?_ hHeld ?_
        rotate_left
        · intro w hSw
          (try dsimp only at hSw)
          go_simp
          try with_reducible rfl
        try simp only [Act.put, List.setIfInBounds_toArray, List.set_cons_zero, List.set_cons_succ]
        refine call_in (i := 2) rfl (by kernel_rfl) (fun K hK => ?_)
        clear hHeld
        go_simp
        (go_at_call 17; refine (leq_any a b _ _ _ (HW1.out.below (HC6.out.trans (HD.out.mono HC6.out.size))) (HW2.out.below (HC6.out.trans (HD.out.mono HC6.out.size))) (Nat.le_trans HMA.out (by decide)) (Nat.le_trans HMB.out (by decide)) false HLAB.out).mono ?_; rintro e x1 ⟨rfl, hb9⟩; have hx1 : Hid (Below v6.heap.size v6 x1) := HD.out.trans (hb9.mono HD.out.size); clear hb9)
        try (go_wp2_with fail)
        refine hK.out _ _ (hk9.out _ hx1.out) (fun hHeld => ?_)
        clear hK K
        try simp only [Act.put, List.setIfInBounds_toArray, List.set_cons_zero, List.set_cons_succ]
        refine take_in (i := 3) (v := ?_) rfl (by kernel_rfl) (by kernel_rfl) (by kernel_rfl) (fun _ _ _ h => h) (by rfl) ?_ hHeld ?_
        rotate_left
        · intro w hSw
          (try dsimp only at hSw)
          go_simp
          try with_reducible rfl
        try simp only [Act.put, List.setIfInBounds_toArray, List.set_cons_zero, List.set_cons_succ]
        refine skip_in (i := 4) rfl (by kernel_rfl) (by kernel_rfl) (by kernel_rfl) (fun _ _ _ h => h) (by rfl) hHeld ?_
        try simp only [Act.put, List.setIfInBounds_toArray, List.set_cons_zero, List.set_cons_succ]
        refine skip_in (i := 5) rfl (by kernel_rfl) (by kernel_rfl) (by kernel_rfl) (fun _ _ _ h => h) (by rfl) hHeld ?_
        try simp only [Act.put, List.setIfInBounds_toArray, List.set_cons_zero, List.set_cons_succ]
        refine skip_in (i := 6) rfl (by kernel_rfl) (by kernel_rfl) (by kernel_rfl) (fun _ _ _ h => h) (by rfl) hHeld ?_
        try simp only [Act.put, List.setIfInBounds_toArray, List.set_cons_zero, List.set_cons_succ]
        refine skip_in (i := 7) rfl (by kernel_rfl) (by kernel_rfl) (by kernel_rfl) (fun _ _ _ h => h) (by rfl) hHeld ?_
        try simp only [Act.put, List.setIfInBounds_toArray, List.set_cons_zero, List.set_cons_succ]
        refine skip_in (i := 8) rfl (by kernel_rfl) (by kernel_rfl) (by kernel_rfl) (fun _ _ _ h => h) (by rfl) hHeld ?_
        try simp only [Act.put, List.setIfInBounds_toArray, List.set_cons_zero, List.set_cons_succ]
        refine skip_in (i := 9) rfl (by kernel_rfl) (by kernel_rfl) (by kernel_rfl) (fun _ _ _ h => h) (by rfl) hHeld ?_
        try simp only [Act.put, List.setIfInBounds_toArray, List.set_cons_zero, List.set_cons_succ]
        refine skip_in (i := 10) rfl (by kernel_rfl) (by kernel_rfl) (by kernel_rfl) (fun _ _ _ h => h) (by rfl) hHeld ?_
        try simp only [Act.put, List.setIfInBounds_toArray, List.set_cons_zero, List.set_cons_succ]
        refine take_in (i := 11) (v := ?_) rfl (by kernel_rfl) (by kernel_rfl) (by kernel_rfl) (fun _ _ _ h => h) (by rfl) ?_ hHeld ?_
        rotate_left
        · intro w hSw
          (try dsimp only at hSw)
          go_simp
          try with_reducible rfl
        try simp only [Act.put, List.setIfInBounds_toArray, List.set_cons_zero, List.set_cons_succ]
        refine wpAnyH_done (by kernel_rfl) ?_ _
        first | (go_wp2_with fail; go_meet; exact ⟨rfl, hx1.out⟩) | (dsimp only; go_meet; exact ⟨rfl, hx1.out⟩) | (go_meet; go_meet; exact ⟨rfl, hx1.out⟩) | (go_wp2_with fail; trace_state; fail)
      case rest =>
      obtain ⟨rfl, hbc⟩ := hcut
      have HC7 := Lib.hid (HC6.out.trans (hbc.mono HC6.out.size))
      clear m1 m2 m3 m4 m5 m6 m7 m8 m9 hbc
      obtain ⟨m1, m2, m3, m4, m5, m6, m7, m8, m9⟩ := hk.out wc HC7.out
      go_wp2_with fail
      refine (leq_any a b _ _ _ (HW1.out.below HC7.out) (HW2.out.below HC7.out) (Nat.le_trans HMA.out (by decide)) (Nat.le_trans HMB.out (by decide)) false HLAB.out).mono ?_
      rintro e v8 ⟨rfl, hb⟩
      have HC8 := Lib.hid (HC7.out.trans (hb.mono HC7.out.size))
      clear hb
      clear m1 m2 m3 m4 m5 m6 m7 m8 m9
      obtain ⟨m1, m2, m3, m4, m5, m6, m7, m8, m9⟩ := hk.out v8 HC8.out
      go_wp2_with fail
      go_ret
      exact ⟨rfl, HB.out.trans (HC8.out.mono HB.out.size)⟩
    · have hle := (H1.out rfl).2
      have hdd : decide ((RB : Int) < (RA : Int)) = false := by simp; omega
      have hk9 : Hid (∀ W', Below v6.heap.size v6 W' → W'.cell? ⟨w.heap.size, 0, none⟩ = some (.int .i64 k1) ∧ W'.cell? ⟨w.heap.size, 1, none⟩ = some (.int .i64 n1) ∧ W'.cell? ⟨w.heap.size, 2, none⟩ = some (s1) ∧ W'.cell? ⟨w.heap.size + 1, 0, none⟩ = some (.int .i64 k2) ∧ W'.cell? ⟨w.heap.size + 1, 1, none⟩ = some (.int .i64 n2) ∧ W'.cell? ⟨w.heap.size + 1, 2, none⟩ = some (s2) ∧ W'.cell? ⟨w.heap.size + 1 + 1, 0, none⟩ = some (.int .i64 k3) ∧ W'.cell? ⟨w.heap.size + 1 + 1, 1, none⟩ = some (.int .i64 n3) ∧ W'.cell? ⟨w.heap.size + 1 + 1, 2, none⟩ = some (s3)) := fun W' h => hk.out W' (HC6.out.trans (h.mono HC6.out.size))
      have HD : Hid (Below v6.heap.size v6 v6.drew) := (Below.refl _ _).drew
      first | (go_region_held3 (fun W' => W'.cell? ⟨w.heap.size, 0, none⟩ = some (.int .i64 k1) ∧ W'.cell? ⟨w.heap.size, 1, none⟩ = some (.int .i64 n1) ∧ W'.cell? ⟨w.heap.size, 2, none⟩ = some (s1) ∧ W'.cell? ⟨w.heap.size + 1, 0, none⟩ = some (.int .i64 k2) ∧ W'.cell? ⟨w.heap.size + 1, 1, none⟩ = some (.int .i64 n2) ∧ W'.cell? ⟨w.heap.size + 1, 2, none⟩ = some (s2) ∧ W'.cell? ⟨w.heap.size + 1 + 1, 0, none⟩ = some (.int .i64 k3) ∧ W'.cell? ⟨w.heap.size + 1 + 1, 1, none⟩ = some (.int .i64 n3) ∧ W'.cell? ⟨w.heap.size + 1 + 1, 2, none⟩ = some (s3)) (first | exact hk9.out _ HD.out | exact hk9.out _ hx1.out | exact hk9.out _ hx2.out | exact hk9.out _ hx3.out) (first | (go_at_call 15; have _g := hx2; clear _g; refine (pvalue_any b _ _ zs _ (HW2.out.below (HC6.out.trans (hx2.out.mono HC6.out.size))) (HS.out.below (HC6.out.trans (hx2.out.mono HC6.out.size))) HL.out (Nat.le_trans HMB.out (by decide)) RB HVB.out).mono ?_; rintro e x3 ⟨rfl, hb9⟩; have hx3 : Hid (Below v6.heap.size v6 x3) := hx2.out.trans (hb9.mono hx2.out.size); clear hb9) | (go_at_call 15; have _g := hx1; clear _g; refine (pvalue_any a _ _ zs _ (HW1.out.below (HC6.out.trans (hx1.out.mono HC6.out.size))) (HS.out.below (HC6.out.trans (hx1.out.mono HC6.out.size))) HL.out (Nat.le_trans HMA.out (by decide)) RA HVA.out).mono ?_; rintro e x2 ⟨rfl, hb9⟩; have hx2 : Hid (Below v6.heap.size v6 x2) := hx1.out.trans (hb9.mono hx1.out.size); clear hb9) | (go_at_call 17; refine (leq_any a b _ _ _ (HW1.out.below (HC6.out.trans (HD.out.mono HC6.out.size))) (HW2.out.below (HC6.out.trans (HD.out.mono HC6.out.size))) (Nat.le_trans HMA.out (by decide)) (Nat.le_trans HMB.out (by decide)) true HLAB.out).mono ?_; rintro e x1 ⟨rfl, hb9⟩; have hx1 : Hid (Below v6.heap.size v6 x1) := HD.out.trans (hb9.mono HD.out.size); clear hb9))) | fail
      clear m1 m2 m3 m4 m5 m6 m7 m8 m9
      have HC7 := Lib.hid (HC6.out.trans (hx3.out.mono HC6.out.size))
      obtain ⟨m1, m2, m3, m4, m5, m6, m7, m8, m9⟩ := hk.out x3 HC7.out
      go_wp2_with fail
      refine (leq_any a b _ _ _ (HW1.out.below HC7.out) (HW2.out.below HC7.out) (Nat.le_trans HMA.out (by decide)) (Nat.le_trans HMB.out (by decide)) true HLAB.out).mono ?_
      rintro e v8 ⟨rfl, hb⟩
      have HC8 := Lib.hid (HC7.out.trans (hb.mono HC7.out.size))
      clear hb
      clear m1 m2 m3 m4 m5 m6 m7 m8 m9
      obtain ⟨m1, m2, m3, m4, m5, m6, m7, m8, m9⟩ := hk.out v8 HC8.out
      go_wp2_with fail
      cases lbc
      · refine (leq_any b c _ _ _ (HW2.out.below HC8.out) (HW3.out.below HC8.out) (Nat.le_trans HMB.out (by decide)) (Nat.le_trans HMC.out (by decide)) false HLBC.out).mono ?_
        rintro e v9 ⟨rfl, hb⟩
        have HC9 := Lib.hid (HC8.out.trans (hb.mono HC8.out.size))
        clear hb
        clear m1 m2 m3 m4 m5 m6 m7 m8 m9
        obtain ⟨m1, m2, m3, m4, m5, m6, m7, m8, m9⟩ := hk.out v9 HC9.out
        go_wp2_with fail
        go_ret
        exact ⟨rfl, HB.out.trans (HC9.out.mono HB.out.size)⟩
      · obtain rfl : lac = true := H2.out (by trivial) (by trivial)
        refine (leq_any b c _ _ _ (HW2.out.below HC8.out) (HW3.out.below HC8.out) (Nat.le_trans HMB.out (by decide)) (Nat.le_trans HMC.out (by decide)) true HLBC.out).mono ?_
        rintro e v9 ⟨rfl, hb⟩
        have HC9 := Lib.hid (HC8.out.trans (hb.mono HC8.out.size))
        clear hb
        clear m1 m2 m3 m4 m5 m6 m7 m8 m9
        obtain ⟨m1, m2, m3, m4, m5, m6, m7, m8, m9⟩ := hk.out v9 HC9.out
        go_wp2_with fail
        refine (leq_any a c _ _ _ (HW1.out.below HC9.out) (HW3.out.below HC9.out) (Nat.le_trans HMA.out (by decide)) (Nat.le_trans HMC.out (by decide)) true HLAC.out).mono ?_
        rintro e v10 ⟨rfl, hb⟩
        have HC10 := Lib.hid (HC9.out.trans (hb.mono HC9.out.size))
        clear hb
        clear m1 m2 m3 m4 m5 m6 m7 m8 m9
        obtain ⟨m1, m2, m3, m4, m5, m6, m7, m8, m9⟩ := hk.out v10 HC10.out
        go_wp2_with fail
        go_ret
        exact ⟨rfl, HB.out.trans (HC10.out.mono HB.out.size)⟩
end Go.Proofs.Yteghldgopidhhaa
