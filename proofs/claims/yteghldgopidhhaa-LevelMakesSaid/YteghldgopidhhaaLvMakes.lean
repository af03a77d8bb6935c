/-
  The law LevelMakes, walked: whatever comes in, it returns true, and nothing that was there turns.
  Conditions: the levels and the slice of numbers lie in memory as told by 'LvV', 'NSl'; the laws' own check 'alive' returns true.
-/
import Derived.Test.YteghldgopidhhaaLvCmp
import Derived.Test.YteghldgopidhhaaLvPVal
import Derived.Test.YteghldgopidhhaaLvGreat
import Derived.Test.YteghldgopidhhaaLvMax
import Derived.Test.YteghldgopidhhaaLvIMax
import Derived.Test.YteghldgopidhhaaLvHeld
import Derived.Deep.DeepCutAuto
namespace Go.Proofs.Yteghldgopidhhaa
open Go.RowKit
open Go.IntWalk
open Lvl

theorem mk_right_of {t : Lv} {x : L} (h : IsL 4 t x) (hn : nodes t ≤ 64) : rightB 4 t = true := by
  unfold rightB
  simp [okB_of h, hn]
theorem mk_leq_of {t u : Lv} {x y : L} (h : IsL 4 t x) (h' : IsL 4 u y) (hn : nodes t ≤ 64) (hn' : nodes u ≤ 64) (b : Bool) (hb : b = true ↔ Lvl.Leq x y) : LeqIs t u b :=
  .inl ⟨mk_right_of h hn, mk_right_of h' hn', x, y, h, h', hb⟩
theorem mk_leq_to {t u : Lv} {x y : L} {b : Bool} (h : IsL 4 t x) (h' : IsL 4 u y) (hn : nodes t ≤ 64) (hn' : nodes u ≤ 64) (hb : LeqIs t u b) : b = true ↔ Lvl.Leq x y := by
  rcases hb with ⟨_, _, x', y', hx, hy, hb⟩ | ⟨e | e, _⟩
  · rw [isL_one h hx, isL_one h' hy]
    exact hb
  · rw [mk_right_of h hn] at e
    cases e
  · rw [mk_right_of h' hn'] at e
    cases e
theorem mk_val_of {t : Lv} {x : L} (h : IsL 4 t x) (hn : nodes t ≤ 64) (zs : List Int) : ValIs t zs (val (parF zs) x) := .inr ⟨mk_right_of h hn, x, h, rfl⟩
theorem mk_val_to {t : Lv} {x : L} {zs : List Int} {R : Nat} (h : IsL 4 t x) (hn : nodes t ≤ 64) (hR : ValIs t zs R) : R = val (parF zs) x := by
  rcases hR with ⟨e, _⟩ | ⟨_, x', hx, hR⟩
  · rw [mk_right_of h hn] at e
    cases e
  · rw [hR, isL_one h hx]
theorem makes_nodes (a b : Lv) (h : nodes a + nodes b ≤ 60) : nodes (.mk 4 0 [a, b]) ≤ 64 ∧ nodes (.mk 5 0 [a, b]) ≤ 64 ∧ nodes (.mk 3 0 [a]) ≤ 64 := by
  have h1 : nodes (.mk 4 0 [a, b]) = 1 + (nodes a + (nodes b + 0)) := by simp only [nodes, nodesL]
  have h2 : nodes (.mk 5 0 [a, b]) = 1 + (nodes a + (nodes b + 0)) := by simp only [nodes, nodesL]
  have h3 : nodes (.mk 3 0 [a]) = 1 + (nodes a + 0) := by simp only [nodes, nodesL]
  omega
theorem makes_facts {a b c : Lv} {zs : List Int} (ra : rightB 4 a = true) (rb : rightB 4 b = true) (rc : rightB 4 c = true) (hn : nodes a + nodes b ≤ 60) {X Y : Nat} (hX : ValIs a zs X) (hY : ValIs b zs Y) :
    X ≤ 2000000 ∧ Y ≤ 2000000 ∧ ValIs (.mk 4 0 [a, b]) zs (max X Y) ∧ ValIs (.mk 5 0 [a, b]) zs (if Y = 0 then 0 else max X Y) ∧ ValIs (.mk 3 0 [a]) zs (X + 1)
    ∧ LeqIs a (.mk 3 0 [a]) true ∧ LeqIs (.mk 3 0 [a]) a false ∧ LeqIs a (.mk 4 0 [a, b]) true ∧ LeqIs b (.mk 4 0 [a, b]) true ∧ LeqIs (.mk 5 0 [a, b]) (.mk 4 0 [a, b]) true ∧ LeqIs b (.mk 5 0 [a, b]) true
    ∧ ∀ lac lbc lmc, LeqIs a c lac → LeqIs b c lbc → LeqIs (.mk 4 0 [a, b]) c lmc → lac = true → lbc = true → lmc = true := by
  obtain ⟨na, x, hx⟩ := rightB_is ra
  obtain ⟨nb, y, hy⟩ := rightB_is rb
  obtain ⟨nc, z, hz⟩ := rightB_is rc
  obtain ⟨nm, ni, ns⟩ := makes_nodes a b hn
  have hm := IsL.max hx hy
  have hi := IsL.imax hx hy
  have hs := IsL.succ hx
  have eX := mk_val_to hx na hX
  have eY := mk_val_to hy nb hY
  have bX := val_le (parF_le zs) (by omega) x (isL_ok (m := 4) hx)
  have bY := val_le (parF_le zs) (by omega) y (isL_ok (m := 4) hy)
  rw [← eX, ← isL_nodes hx] at bX
  rw [← eY, ← isL_nodes hy] at bY
  refine ⟨by omega, by omega, ?_, ?_, ?_, ?_, ?_, ?_, ?_, ?_, ?_, ?_⟩
  · have := mk_val_of hm nm zs
    rwa [val, ← eX, ← eY] at this
  · have := mk_val_of hi ni zs
    rwa [val, ← eX, ← eY] at this
  · have := mk_val_of hs ns zs
    rwa [val, ← eX] at this
  · exact mk_leq_of hx hs na ns true ⟨fun _ f => by rw [val]; omega, fun _ => rfl⟩
  · refine mk_leq_of hs hx ns na false ⟨(fun h => by cases h), fun h => ?_⟩
    have := h (fun _ => 0)
    rw [val] at this
    omega
  · exact mk_leq_of hx hm na nm true ⟨fun _ f => by rw [val]; omega, fun _ => rfl⟩
  · exact mk_leq_of hy hm nb nm true ⟨fun _ f => by rw [val]; omega, fun _ => rfl⟩
  · exact mk_leq_of hi hm ni nm true ⟨fun _ f => by rw [val, val]; split <;> omega, fun _ => rfl⟩
  · exact mk_leq_of hy hi nb ni true ⟨fun _ f => by rw [val]; split <;> omega, fun _ => rfl⟩
  · intro lac lbc lmc h1 h2 h3 e1 e2
    have q1 := (mk_leq_to hx hz na nc h1).1 e1
    have q2 := (mk_leq_to hy hz nb nc h2).1 e2
    refine (mk_leq_to hm hz nm nc h3).2 fun f => ?_
    have q1 := q1 f
    have q2 := q2 f
    rw [val]
    omega
theorem lsV_pair {cur : World} {t u : Lv} {k1 n1 k2 n2 : Int} {s r : Value} (h1 : LvV cur t (.agg #[.int .i64 k1, .int .i64 n1, s])) (h2 : LvV cur u (.agg #[.int .i64 k2, .int .i64 n2, r])) :
    LsV (cur.alloc (.cells #[.int .i64 k1, .int .i64 n1, s, .int .i64 k2, .int .i64 n2, r] 24)) (some ⟨cur.heap.size, 0, none⟩) 0 [t, u] := by
  obtain ⟨s', e, hs⟩ := h1
  obtain ⟨r', e', hr⟩ := h2
  cases e
  cases e'
  have hrow := heap_alloc_new cur (.cells #[.int .i64 (kindOf t), .int .i64 (numOf t), s, .int .i64 (kindOf u), .int .i64 (numOf u), r] 24)
  have hb := below_lit cur (.cells #[.int .i64 (kindOf t), .int .i64 (numOf t), s, .int .i64 (kindOf u), .int .i64 (numOf u), r] 24)
  have hlt : cur.heap.size < (cur.alloc (.cells #[.int .i64 (kindOf t), .int .i64 (numOf t), s, .int .i64 (kindOf u), .int .i64 (numOf u), r] 24)).heap.size := by simp
  rw [LsV, LsV, LsV]
  exact ⟨⟨_, 0, s, rfl, hlt, cell_of_row _ _ 0 _ _ (0, 0) hrow, cell_of_row _ _ 1 _ _ (0, 0) hrow, cell_of_row _ _ 2 _ _ (0, 0) hrow, lvS_below hb _ _ hs⟩, ⟨_, 0, r, rfl, hlt, cell_of_row _ _ 3 _ _ (0, 0) hrow, cell_of_row _ _ 4 _ _ (0, 0) hrow, cell_of_row _ _ 5 _ _ (0, 0) hrow, lvS_below hb _ _ hr⟩, trivial⟩

set_option maxRecDepth 100000 in
set_option maxHeartbeats 4000000 in
theorem levelMakes_any (AL : ∀ w, Calls Try.prog 8 #[] w (Ret w (.bool true))) (a b c : Lv) (va vb vc S : Value) (zs : List Int) (w : World) (hv1 : LvV w a va) (hv2 : LvV w b vb) (hv3 : LvV w c vc) (hS : NSl w S zs) (hl : zs.length ≤ 140737488355328) :
    Calls Try.prog 6 #[va, vb, vc, S] w (Ret w (.bool true)) := by
  obtain ⟨i0, hi0, hz0, hz1', hz2'⟩ := info_parts infoLv
  have HAL := Lib.hid AL
  have HS0 := Lib.hid hS
  obtain ⟨A, m, cp, rfl, hN, hc, hA, hx⟩ := hS
  have HL := Lib.hid hl
  have hm7 : m ≤ 140737488355328 := by rw [← hN]; exact hl
  clear AL hx hA hN hl
  obtain ⟨g1, hg1⟩ : ∃ g, decide (300 < nodes a) = g := ⟨_, rfl⟩
  obtain ⟨g2, hg2⟩ : ∃ g, decide (300 < nodes b) = g := ⟨_, rfl⟩
  obtain ⟨g3, hg3⟩ : ∃ g, decide (300 < nodes c) = g := ⟨_, rfl⟩
  have HG1 := Lib.hid hg1
  have HG2 := Lib.hid hg2
  have HG3 := Lib.hid hg3
  obtain ⟨ra, hra⟩ : ∃ r, rightB 4 a = r := ⟨_, rfl⟩
  obtain ⟨rb, hrb⟩ : ∃ r, rightB 4 b = r := ⟨_, rfl⟩
  obtain ⟨rc, hrc⟩ : ∃ r, rightB 4 c = r := ⟨_, rfl⟩
  obtain ⟨N1, hn1⟩ : ∃ N, min (nodes a) 65 = N := ⟨_, rfl⟩
  obtain ⟨N2, hn2⟩ : ∃ N, min (nodes b) 65 = N := ⟨_, rfl⟩
  have HRA := Lib.hid hra
  have HRB := Lib.hid hrb
  have HRC := Lib.hid hrc
  have HN1 := Lib.hid hn1
  have HN2 := Lib.hid hn2
  have hl1 : N1 ≤ 65 := by omega
  have hl2 : N2 ≤ 65 := by omega
  obtain ⟨lac, hlac⟩ := leqIs_ex a c
  obtain ⟨lbc, hlbc⟩ := leqIs_ex b c
  obtain ⟨lmc, hlmc⟩ := leqIs_ex (.mk 4 0 [a, b]) c
  obtain ⟨X, hX⟩ := valIs_ex a zs
  obtain ⟨Y, hY⟩ := valIs_ex b zs
  have HLAC := Lib.hid hlac
  have HLBC := Lib.hid hlbc
  have HLMC := Lib.hid hlmc
  have HVX := Lib.hid hX
  have HVY := Lib.hid hY
  clear hg1 hg2 hg3 hra hrb hrc hn1 hn2 hlac hlbc hlmc hX hY
  obtain ⟨s1, rfl, hs1⟩ := hv1
  have HV1 := Lib.hid (show LvV w a _ from ⟨s1, rfl, hs1⟩)
  obtain ⟨s2, rfl, hs2⟩ := hv2
  have HV2 := Lib.hid (show LvV w b _ from ⟨s2, rfl, hs2⟩)
  obtain ⟨s3, rfl, hs3⟩ := hv3
  have HV3 := Lib.hid (show LvV w c _ from ⟨s3, rfl, hs3⟩)
  generalize kindOf a = k1 at *
  generalize numOf a = n1 at *
  generalize kindOf b = k2 at *
  generalize numOf b = n2 at *
  generalize kindOf c = k3 at *
  generalize numOf c = n3 at *
  clear hs1 hs2 hs3
  go_enter Try.func6, Try.ntmps6
  go_wp2_with fail
  have hz1 : (w.alloc (.cells #[.int .i64 k1, .int .i64 n1, s1] 24)).heap.size = w.heap.size + 1 := by simp
  have hr1 : (w.alloc (.cells #[.int .i64 k1, .int .i64 n1, s1] 24)).heap[w.heap.size]? = some (.cells #[.int .i64 k1, .int .i64 n1, s1] 24) := by
    have := heap_alloc_new w (.cells #[.int .i64 k1, .int .i64 n1, s1] 24)
    exact this
  have hz2 : ((w.alloc (.cells #[.int .i64 k1, .int .i64 n1, s1] 24)).alloc (.cells #[.int .i64 k2, .int .i64 n2, s2] 24)).heap.size = w.heap.size + 1 + 1 := by simp
  have hr2 : ((w.alloc (.cells #[.int .i64 k1, .int .i64 n1, s1] 24)).alloc (.cells #[.int .i64 k2, .int .i64 n2, s2] 24)).heap[w.heap.size + 1]? = some (.cells #[.int .i64 k2, .int .i64 n2, s2] 24) := by
    have := heap_alloc_new (w.alloc (.cells #[.int .i64 k1, .int .i64 n1, s1] 24)) (.cells #[.int .i64 k2, .int .i64 n2, s2] 24)
    rwa [hz1] at this
  have hz3 : (((w.alloc (.cells #[.int .i64 k1, .int .i64 n1, s1] 24)).alloc (.cells #[.int .i64 k2, .int .i64 n2, s2] 24)).alloc (.cells #[.int .i64 k3, .int .i64 n3, s3] 24)).heap.size = w.heap.size + 1 + 1 + 1 := by simp
  have hr3 : (((w.alloc (.cells #[.int .i64 k1, .int .i64 n1, s1] 24)).alloc (.cells #[.int .i64 k2, .int .i64 n2, s2] 24)).alloc (.cells #[.int .i64 k3, .int .i64 n3, s3] 24)).heap[w.heap.size + 1 + 1]? = some (.cells #[.int .i64 k3, .int .i64 n3, s3] 24) := by
    have := heap_alloc_new ((w.alloc (.cells #[.int .i64 k1, .int .i64 n1, s1] 24)).alloc (.cells #[.int .i64 k2, .int .i64 n2, s2] 24)) (.cells #[.int .i64 k3, .int .i64 n3, s3] 24)
    rwa [hz2] at this
  have HB := Lib.hid (((below_lit w (.cells #[.int .i64 k1, .int .i64 n1, s1] 24)).trans ((below_lit (w.alloc (.cells #[.int .i64 k1, .int .i64 n1, s1] 24)) (.cells #[.int .i64 k2, .int .i64 n2, s2] 24)).mono (below_lit w (.cells #[.int .i64 k1, .int .i64 n1, s1] 24)).size)).trans ((below_lit ((w.alloc (.cells #[.int .i64 k1, .int .i64 n1, s1] 24)).alloc (.cells #[.int .i64 k2, .int .i64 n2, s2] 24)) (.cells #[.int .i64 k3, .int .i64 n3, s3] 24)).mono ((below_lit w (.cells #[.int .i64 k1, .int .i64 n1, s1] 24)).trans ((below_lit (w.alloc (.cells #[.int .i64 k1, .int .i64 n1, s1] 24)) (.cells #[.int .i64 k2, .int .i64 n2, s2] 24)).mono (below_lit w (.cells #[.int .i64 k1, .int .i64 n1, s1] 24)).size)).size))
  have HR0 := Lib.hid ((heap_alloc_old ((w.alloc (.cells #[.int .i64 k1, .int .i64 n1, s1] 24)).alloc (.cells #[.int .i64 k2, .int .i64 n2, s2] 24)) (.cells #[.int .i64 k3, .int .i64 n3, s3] 24) (by rw [hz2]; omega)).trans ((heap_alloc_old (w.alloc (.cells #[.int .i64 k1, .int .i64 n1, s1] 24)) (.cells #[.int .i64 k2, .int .i64 n2, s2] 24) (by rw [hz1]; omega)).trans (hr1)))
  have HZ0 := Lib.hid (show w.heap.size < (((w.alloc (.cells #[.int .i64 k1, .int .i64 n1, s1] 24)).alloc (.cells #[.int .i64 k2, .int .i64 n2, s2] 24)).alloc (.cells #[.int .i64 k3, .int .i64 n3, s3] 24)).heap.size by rw [hz3]; omega)
  have HR1 := Lib.hid ((heap_alloc_old ((w.alloc (.cells #[.int .i64 k1, .int .i64 n1, s1] 24)).alloc (.cells #[.int .i64 k2, .int .i64 n2, s2] 24)) (.cells #[.int .i64 k3, .int .i64 n3, s3] 24) (by rw [hz2]; omega)).trans (hr2))
  have HZ1 := Lib.hid (show w.heap.size + 1 < (((w.alloc (.cells #[.int .i64 k1, .int .i64 n1, s1] 24)).alloc (.cells #[.int .i64 k2, .int .i64 n2, s2] 24)).alloc (.cells #[.int .i64 k3, .int .i64 n3, s3] 24)).heap.size by rw [hz3]; omega)
  have HR2 := Lib.hid (hr3)
  have HZ2 := Lib.hid (show w.heap.size + 1 + 1 < (((w.alloc (.cells #[.int .i64 k1, .int .i64 n1, s1] 24)).alloc (.cells #[.int .i64 k2, .int .i64 n2, s2] 24)).alloc (.cells #[.int .i64 k3, .int .i64 n3, s3] 24)).heap.size by rw [hz3]; omega)
  clear hr1 hr2 hr3
  generalize (((w.alloc (.cells #[.int .i64 k1, .int .i64 n1, s1] 24)).alloc (.cells #[.int .i64 k2, .int .i64 n2, s2] 24)).alloc (.cells #[.int .i64 k3, .int .i64 n3, s3] 24)) = W at *
  clear hz1 hz2 hz3
  have hk : Hid (∀ W', Below W.heap.size W W' → W'.cell? ⟨w.heap.size, 0, none⟩ = some (.int .i64 k1) ∧ W'.cell? ⟨w.heap.size, 1, none⟩ = some (.int .i64 n1) ∧ W'.cell? ⟨w.heap.size, 2, none⟩ = some (s1) ∧ W'.cell? ⟨w.heap.size + 1, 0, none⟩ = some (.int .i64 k2) ∧ W'.cell? ⟨w.heap.size + 1, 1, none⟩ = some (.int .i64 n2) ∧ W'.cell? ⟨w.heap.size + 1, 2, none⟩ = some (s2) ∧ W'.cell? ⟨w.heap.size + 1 + 1, 0, none⟩ = some (.int .i64 k3) ∧ W'.cell? ⟨w.heap.size + 1 + 1, 1, none⟩ = some (.int .i64 n3) ∧ W'.cell? ⟨w.heap.size + 1 + 1, 2, none⟩ = some (s3)) := fun W' h => by
    have p0 := (h.block (w.heap.size) HZ0.out).trans HR0.out
    have p1 := (h.block (w.heap.size + 1) HZ1.out).trans HR1.out
    have p2 := (h.block (w.heap.size + 1 + 1) HZ2.out).trans HR2.out
    exact ⟨cell_of_row _ _ 0 _ 24 (0, 0) p0, cell_of_row _ _ 1 _ 24 (0, 0) p0, cell_of_row _ _ 2 _ 24 (0, 0) p0, cell_of_row _ _ 0 _ 24 (0, 0) p1, cell_of_row _ _ 1 _ 24 (0, 0) p1, cell_of_row _ _ 2 _ 24 (0, 0) p1, cell_of_row _ _ 0 _ 24 (0, 0) p2, cell_of_row _ _ 1 _ 24 (0, 0) p2, cell_of_row _ _ 2 _ 24 (0, 0) p2⟩
  have HC0 := Lib.hid (Below.refl W.heap.size W)
  have HS := Lib.hid (HS0.out.below HB.out)
  have HW1 := Lib.hid (HV1.out.below HB.out)
  have HW2 := Lib.hid (HV2.out.below HB.out)
  have HW3 := Lib.hid (HV3.out.below HB.out)
  clear HR0 HR1 HR2 HZ0 HZ1 HZ2 HS0 HV1 HV2 HV3
  refine (HAL.out W).mono ?_
  rintro e v1 ⟨rfl, hb⟩
  have HC1 := Lib.hid (HC0.out.trans (hb.mono HC0.out.size))
  clear hb
  obtain ⟨m1, m2, m3, m4, m5, m6, m7, m8, m9⟩ := hk.out v1 HC1.out
  go_wp2_with fail
  cases g1
  case true =>
    refine (great_is a _ _ (HW1.out.below HC1.out) true HG1.out).mono ?_
    rintro e v2 ⟨rfl, hb⟩
    have HC2 := Lib.hid (HC1.out.trans (hb.mono HC1.out.size))
    clear hb
    clear m1 m2 m3 m4 m5 m6 m7 m8 m9
    obtain ⟨m1, m2, m3, m4, m5, m6, m7, m8, m9⟩ := hk.out v2 HC2.out
    go_wp2_with fail
    go_ret
    exact ⟨rfl, HB.out.trans (HC2.out.mono HB.out.size)⟩
  refine (great_is a _ _ (HW1.out.below HC1.out) false HG1.out).mono ?_
  rintro e v2 ⟨rfl, hb⟩
  have HC2 := Lib.hid (HC1.out.trans (hb.mono HC1.out.size))
  clear hb
  clear m1 m2 m3 m4 m5 m6 m7 m8 m9
  obtain ⟨m1, m2, m3, m4, m5, m6, m7, m8, m9⟩ := hk.out v2 HC2.out
  go_wp2_with fail
  cases g2
  case true =>
    refine (great_is b _ _ (HW2.out.below HC2.out) true HG2.out).mono ?_
    rintro e v3 ⟨rfl, hb⟩
    have HC3 := Lib.hid (HC2.out.trans (hb.mono HC2.out.size))
    clear hb
    clear m1 m2 m3 m4 m5 m6 m7 m8 m9
    obtain ⟨m1, m2, m3, m4, m5, m6, m7, m8, m9⟩ := hk.out v3 HC3.out
    go_wp2_with fail
    go_ret
    exact ⟨rfl, HB.out.trans (HC3.out.mono HB.out.size)⟩
  refine (great_is b _ _ (HW2.out.below HC2.out) false HG2.out).mono ?_
  rintro e v3 ⟨rfl, hb⟩
  have HC3 := Lib.hid (HC2.out.trans (hb.mono HC2.out.size))
  clear hb
  clear m1 m2 m3 m4 m5 m6 m7 m8 m9
  obtain ⟨m1, m2, m3, m4, m5, m6, m7, m8, m9⟩ := hk.out v3 HC3.out
  go_wp2_with fail
  cases g3
  case true =>
    refine (great_is c _ _ (HW3.out.below HC3.out) true HG3.out).mono ?_
    rintro e v4 ⟨rfl, hb⟩
    have HC4 := Lib.hid (HC3.out.trans (hb.mono HC3.out.size))
    clear hb
    clear m1 m2 m3 m4 m5 m6 m7 m8 m9
    obtain ⟨m1, m2, m3, m4, m5, m6, m7, m8, m9⟩ := hk.out v4 HC4.out
    go_wp2_with fail
    go_ret
    exact ⟨rfl, HB.out.trans (HC4.out.mono HB.out.size)⟩
  by_cases hm : 50 < m
  · have hd : decide ((50 : Int) < (m : Int)) = true := by simp; omega
    refine (great_is c _ _ (HW3.out.below HC3.out) false HG3.out).mono ?_
    rintro e v4 ⟨rfl, hb⟩
    have HC4 := Lib.hid (HC3.out.trans (hb.mono HC3.out.size))
    clear hb
    clear m1 m2 m3 m4 m5 m6 m7 m8 m9
    obtain ⟨m1, m2, m3, m4, m5, m6, m7, m8, m9⟩ := hk.out v4 HC4.out
    go_wp2_with fail
    go_ret
    exact ⟨rfl, HB.out.trans (HC4.out.mono HB.out.size)⟩
  have hd : decide ((50 : Int) < (m : Int)) = false := by simp; omega
  have HMA : Hid (nodes a ≤ 300) := by
    have h9 := of_decide_eq_false HG1.out
    have : nodes a ≤ 300 := by omega
    exact this
  have HMB : Hid (nodes b ≤ 300) := by
    have h9 := of_decide_eq_false HG2.out
    have : nodes b ≤ 300 := by omega
    exact this
  have HMC : Hid (nodes c ≤ 300) := by
    have h9 := of_decide_eq_false HG3.out
    have : nodes c ≤ 300 := by omega
    exact this
  refine (great_is c _ _ (HW3.out.below HC3.out) false HG3.out).mono ?_
  rintro e v4 ⟨rfl, hb⟩
  have HC4 := Lib.hid (HC3.out.trans (hb.mono HC3.out.size))
  clear hb
  clear m1 m2 m3 m4 m5 m6 m7 m8 m9
  obtain ⟨m1, m2, m3, m4, m5, m6, m7, m8, m9⟩ := hk.out v4 HC4.out
  go_wp2_with fail
  have hk9 : Hid (∀ W', Below v4.heap.size v4 W' → W'.cell? ⟨w.heap.size, 0, none⟩ = some (.int .i64 k1) ∧ W'.cell? ⟨w.heap.size, 1, none⟩ = some (.int .i64 n1) ∧ W'.cell? ⟨w.heap.size, 2, none⟩ = some (s1) ∧ W'.cell? ⟨w.heap.size + 1, 0, none⟩ = some (.int .i64 k2) ∧ W'.cell? ⟨w.heap.size + 1, 1, none⟩ = some (.int .i64 n2) ∧ W'.cell? ⟨w.heap.size + 1, 2, none⟩ = some (s2) ∧ W'.cell? ⟨w.heap.size + 1 + 1, 0, none⟩ = some (.int .i64 k3) ∧ W'.cell? ⟨w.heap.size + 1 + 1, 1, none⟩ = some (.int .i64 n3) ∧ W'.cell? ⟨w.heap.size + 1 + 1, 2, none⟩ = some (s3)) := fun W' h => hk.out W' (HC4.out.trans (h.mono HC4.out.size))
  have HD : Hid (Below v4.heap.size v4 v4.drew) := (Below.refl _ _).drew
  cases ra
  case false =>
    refine wp_region_held_drew (S := fun W' => W'.cell? ⟨w.heap.size, 0, none⟩ = some (.int .i64 k1) ∧ W'.cell? ⟨w.heap.size, 1, none⟩ = some (.int .i64 n1) ∧ W'.cell? ⟨w.heap.size, 2, none⟩ = some (s1) ∧ W'.cell? ⟨w.heap.size + 1, 0, none⟩ = some (.int .i64 k2) ∧ W'.cell? ⟨w.heap.size + 1, 1, none⟩ = some (.int .i64 n2) ∧ W'.cell? ⟨w.heap.size + 1, 2, none⟩ = some (s2) ∧ W'.cell? ⟨w.heap.size + 1 + 1, 0, none⟩ = some (.int .i64 k3) ∧ W'.cell? ⟨w.heap.size + 1 + 1, 1, none⟩ = some (.int .i64 n3) ∧ W'.cell? ⟨w.heap.size + 1 + 1, 2, none⟩ = some (s3)) (by kernel_rfl) (hk9.out _ HD.out) (fun hHeld => ?_)
    refine take_in (i := 0) (v := ?_) rfl (by kernel_rfl) (by kernel_rfl) (by kernel_rfl) (fun _ _ _ h => h) (by rfl) ?_ hHeld ?_
    rotate_left
    · intro w hSw
      (try dsimp only at hSw)
      go_simp
      try with_reducible rfl
    try simp only [Act.put, List.setIfInBounds_toArray, List.set_cons_zero, List.set_cons_succ]
    refine call_in (i := 1) rfl (by kernel_rfl) (fun K hK => ?_)
    clear hHeld
    go_simp
    (go_at_call 13; refine (right_any a _ 4 _ (HW1.out.below (HC4.out.trans (HD.out.mono HC4.out.size))) (Nat.le_trans HMA.out (by decide)) false HRA.out).mono ?_; rintro e y1 ⟨rfl, hb9⟩; have hy1 : Hid (Below v4.heap.size v4 y1) := HD.out.trans (hb9.mono HD.out.size); clear hb9)
    try (go_wp2_with fail)
    refine hK.out _ _ (hk9.out _ hy1.out) (fun hHeld => ?_)
    clear hK K
    try simp only [Act.put, List.setIfInBounds_toArray, List.set_cons_zero, List.set_cons_succ]
    refine take_in (i := 2) (v := ?_) rfl (by kernel_rfl) (by kernel_rfl) (by kernel_rfl) (fun _ _ _ h => h) (by rfl) ?_ hHeld ?_
    rotate_left
    · intro w hSw
      (try dsimp only at hSw)
      go_simp
      try with_reducible rfl
    try simp only [Act.put, List.setIfInBounds_toArray, List.set_cons_zero, List.set_cons_succ]
    refine take_in (i := 3) (v := ?_) rfl (by kernel_rfl) (by kernel_rfl) (by kernel_rfl) (fun _ _ _ h => h) (by rfl) ?_ hHeld ?_
    rotate_left
    · intro w hSw
      (try dsimp only at hSw)
      go_simp
      try with_reducible rfl
    try simp only [Act.put, List.setIfInBounds_toArray, List.set_cons_zero, List.set_cons_succ]
    refine skip_in (i := 4) rfl (by kernel_rfl) (by kernel_rfl) (by kernel_rfl) (fun _ _ _ h => h) (by rfl) hHeld ?_
    try simp only [Act.put, List.setIfInBounds_toArray, List.set_cons_zero, List.set_cons_succ]
    refine skip_in (i := 5) rfl (by kernel_rfl) (by kernel_rfl) (by kernel_rfl) (fun _ _ _ h => h) (by rfl) hHeld ?_
    try simp only [Act.put, List.setIfInBounds_toArray, List.set_cons_zero, List.set_cons_succ]
    refine skip_in (i := 6) rfl (by kernel_rfl) (by kernel_rfl) (by kernel_rfl) (fun _ _ _ h => h) (by rfl) hHeld ?_
    try simp only [Act.put, List.setIfInBounds_toArray, List.set_cons_zero, List.set_cons_succ]
    refine take_in (i := 7) (v := ?_) rfl (by kernel_rfl) (by kernel_rfl) (by kernel_rfl) (fun _ _ _ h => h) (by rfl) ?_ hHeld ?_
    rotate_left
    · intro w hSw
      (try dsimp only at hSw)
      go_simp
      try with_reducible rfl
    try simp only [Act.put, List.setIfInBounds_toArray, List.set_cons_zero, List.set_cons_succ]
    refine take_in (i := 8) (v := ?_) rfl (by kernel_rfl) (by kernel_rfl) (by kernel_rfl) (fun _ _ _ h => h) (by rfl) ?_ hHeld ?_
    rotate_left
    · intro w hSw
      (try dsimp only at hSw)
      go_simp
      try with_reducible rfl
    try simp only [Act.put, List.setIfInBounds_toArray, List.set_cons_zero, List.set_cons_succ]
    refine skip_in (i := 9) rfl (by kernel_rfl) (by kernel_rfl) (by kernel_rfl) (fun _ _ _ h => h) (by rfl) hHeld ?_
    try simp only [Act.put, List.setIfInBounds_toArray, List.set_cons_zero, List.set_cons_succ]
    refine skip_in (i := 10) rfl (by kernel_rfl) (by kernel_rfl) (by kernel_rfl) (fun _ _ _ h => h) (by rfl) hHeld ?_
    try simp only [Act.put, List.setIfInBounds_toArray, List.set_cons_zero, List.set_cons_succ]
    refine skip_in (i := 11) rfl (by kernel_rfl) (by kernel_rfl) (by kernel_rfl) (fun _ _ _ h => h) (by rfl) hHeld ?_
    try simp only [Act.put, List.setIfInBounds_toArray, List.set_cons_zero, List.set_cons_succ]
    refine take_in (i := 12) (v := ?_) rfl (by kernel_rfl) (by kernel_rfl) (by kernel_rfl) (fun _ _ _ h => h) (by rfl) ?_ hHeld ?_
    rotate_left
    · intro w hSw
      (try dsimp only at hSw)
      go_simp
      try with_reducible rfl
    try simp only [Act.put, List.setIfInBounds_toArray, List.set_cons_zero, List.set_cons_succ]
    refine take_in (i := 13) (v := ?_) rfl (by kernel_rfl) (by kernel_rfl) (by kernel_rfl) (fun _ _ _ h => h) (by rfl) ?_ hHeld ?_
    rotate_left
    · intro w hSw
      (try dsimp only at hSw)
      go_simp
      try with_reducible rfl
    try simp only [Act.put, List.setIfInBounds_toArray, List.set_cons_zero, List.set_cons_succ]
    refine skip_in (i := 14) rfl (by kernel_rfl) (by kernel_rfl) (by kernel_rfl) (fun _ _ _ h => h) (by rfl) hHeld ?_
    try simp only [Act.put, List.setIfInBounds_toArray, List.set_cons_zero, List.set_cons_succ]
    refine skip_in (i := 15) rfl (by kernel_rfl) (by kernel_rfl) (by kernel_rfl) (fun _ _ _ h => h) (by rfl) hHeld ?_
    try simp only [Act.put, List.setIfInBounds_toArray, List.set_cons_zero, List.set_cons_succ]
    refine skip_in (i := 16) rfl (by kernel_rfl) (by kernel_rfl) (by kernel_rfl) (fun _ _ _ h => h) (by rfl) hHeld ?_
    try simp only [Act.put, List.setIfInBounds_toArray, List.set_cons_zero, List.set_cons_succ]
    refine skip_in (i := 17) rfl (by kernel_rfl) (by kernel_rfl) (by kernel_rfl) (fun _ _ _ h => h) (by rfl) hHeld ?_
    try simp only [Act.put, List.setIfInBounds_toArray, List.set_cons_zero, List.set_cons_succ]
    refine skip_in (i := 18) rfl (by kernel_rfl) (by kernel_rfl) (by kernel_rfl) (fun _ _ _ h => h) (by rfl) hHeld ?_
    try simp only [Act.put, List.setIfInBounds_toArray, List.set_cons_zero, List.set_cons_succ]
    refine skip_in (i := 19) rfl (by kernel_rfl) (by kernel_rfl) (by kernel_rfl) (fun _ _ _ h => h) (by rfl) hHeld ?_
    try simp only [Act.put, List.setIfInBounds_toArray, List.set_cons_zero, List.set_cons_succ]
    refine take_in (i := 20) (v := ?_) rfl (by kernel_rfl) (by kernel_rfl) (by kernel_rfl) (fun _ _ _ h => h) (by rfl) ?_ hHeld ?_
    rotate_left
    · intro w hSw
      (try dsimp only at hSw)
      go_simp
      try with_reducible rfl
    try simp only [Act.put, List.setIfInBounds_toArray, List.set_cons_zero, List.set_cons_succ]
    refine wpAnyH_done (by kernel_rfl) ?_ _
    go_wp2_with fail
    go_ret
    exact ⟨rfl, HB.out.trans ((HC4.out.trans (hy1.out.mono HC4.out.size)).mono HB.out.size)⟩
  cases rb
  case false =>
    refine wp_region_held_drew (S := fun W' => W'.cell? ⟨w.heap.size, 0, none⟩ = some (.int .i64 k1) ∧ W'.cell? ⟨w.heap.size, 1, none⟩ = some (.int .i64 n1) ∧ W'.cell? ⟨w.heap.size, 2, none⟩ = some (s1) ∧ W'.cell? ⟨w.heap.size + 1, 0, none⟩ = some (.int .i64 k2) ∧ W'.cell? ⟨w.heap.size + 1, 1, none⟩ = some (.int .i64 n2) ∧ W'.cell? ⟨w.heap.size + 1, 2, none⟩ = some (s2) ∧ W'.cell? ⟨w.heap.size + 1 + 1, 0, none⟩ = some (.int .i64 k3) ∧ W'.cell? ⟨w.heap.size + 1 + 1, 1, none⟩ = some (.int .i64 n3) ∧ W'.cell? ⟨w.heap.size + 1 + 1, 2, none⟩ = some (s3)) (by kernel_rfl) (hk9.out _ HD.out) (fun hHeld => ?_)
    refine take_in (i := 0) (v := ?_) rfl (by kernel_rfl) (by kernel_rfl) (by kernel_rfl) (fun _ _ _ h => h) (by rfl) ?_ hHeld ?_
    rotate_left
    · intro w hSw
      (try dsimp only at hSw)
      go_simp
      try with_reducible rfl
    try simp only [Act.put, List.setIfInBounds_toArray, List.set_cons_zero, List.set_cons_succ]
    refine call_in (i := 1) rfl (by kernel_rfl) (fun K hK => ?_)
    clear hHeld
    go_simp
    (go_at_call 13; refine (right_any a _ 4 _ (HW1.out.below (HC4.out.trans (HD.out.mono HC4.out.size))) (Nat.le_trans HMA.out (by decide)) true HRA.out).mono ?_; rintro e y1 ⟨rfl, hb9⟩; have hy1 : Hid (Below v4.heap.size v4 y1) := HD.out.trans (hb9.mono HD.out.size); clear hb9)
    try (go_wp2_with fail)
    refine hK.out _ _ (hk9.out _ hy1.out) (fun hHeld => ?_)
    clear hK K
    try simp only [Act.put, List.setIfInBounds_toArray, List.set_cons_zero, List.set_cons_succ]
    refine take_in (i := 2) (v := ?_) rfl (by kernel_rfl) (by kernel_rfl) (by kernel_rfl) (fun _ _ _ h => h) (by rfl) ?_ hHeld ?_
    rotate_left
    · intro w hSw
      (try dsimp only at hSw)
      go_simp
      try with_reducible rfl
    try simp only [Act.put, List.setIfInBounds_toArray, List.set_cons_zero, List.set_cons_succ]
    refine take_in (i := 3) (v := ?_) rfl (by kernel_rfl) (by kernel_rfl) (by kernel_rfl) (fun _ _ _ h => h) (by rfl) ?_ hHeld ?_
    rotate_left
    · intro w hSw
      (try dsimp only at hSw)
      go_simp
      try with_reducible rfl
    try simp only [Act.put, List.setIfInBounds_toArray, List.set_cons_zero, List.set_cons_succ]
    refine take_in (i := 4) (v := ?_) rfl (by kernel_rfl) (by kernel_rfl) (by kernel_rfl) (fun _ _ _ h => h) (by rfl) ?_ hHeld ?_
    rotate_left
    · intro w hSw
      (try dsimp only at hSw)
      go_simp
      try with_reducible rfl
    try simp only [Act.put, List.setIfInBounds_toArray, List.set_cons_zero, List.set_cons_succ]
    refine call_in (i := 5) rfl (by kernel_rfl) (fun K hK => ?_)
    clear hHeld
    go_simp
    (go_at_call 13; refine (right_any b _ 4 _ (HW2.out.below (HC4.out.trans (hy1.out.mono HC4.out.size))) (Nat.le_trans HMB.out (by decide)) false HRB.out).mono ?_; rintro e y2 ⟨rfl, hb9⟩; have hy2 : Hid (Below v4.heap.size v4 y2) := hy1.out.trans (hb9.mono hy1.out.size); clear hb9)
    try (go_wp2_with fail)
    refine hK.out _ _ (hk9.out _ hy2.out) (fun hHeld => ?_)
    clear hK K
    try simp only [Act.put, List.setIfInBounds_toArray, List.set_cons_zero, List.set_cons_succ]
    refine take_in (i := 6) (v := ?_) rfl (by kernel_rfl) (by kernel_rfl) (by kernel_rfl) (fun _ _ _ h => h) (by rfl) ?_ hHeld ?_
    rotate_left
    · intro w hSw
      (try dsimp only at hSw)
      go_simp
      try with_reducible rfl
    try simp only [Act.put, List.setIfInBounds_toArray, List.set_cons_zero, List.set_cons_succ]
    refine take_in (i := 7) (v := ?_) rfl (by kernel_rfl) (by kernel_rfl) (by kernel_rfl) (fun _ _ _ h => h) (by rfl) ?_ hHeld ?_
    rotate_left
    · intro w hSw
      (try dsimp only at hSw)
      go_simp
      try with_reducible rfl
    try simp only [Act.put, List.setIfInBounds_toArray, List.set_cons_zero, List.set_cons_succ]
    refine take_in (i := 8) (v := ?_) rfl (by kernel_rfl) (by kernel_rfl) (by kernel_rfl) (fun _ _ _ h => h) (by rfl) ?_ hHeld ?_
    rotate_left
    · intro w hSw
      (try dsimp only at hSw)
      go_simp
      try with_reducible rfl
    try simp only [Act.put, List.setIfInBounds_toArray, List.set_cons_zero, List.set_cons_succ]
    refine skip_in (i := 9) rfl (by kernel_rfl) (by kernel_rfl) (by kernel_rfl) (fun _ _ _ h => h) (by rfl) hHeld ?_
    try simp only [Act.put, List.setIfInBounds_toArray, List.set_cons_zero, List.set_cons_succ]
    refine skip_in (i := 10) rfl (by kernel_rfl) (by kernel_rfl) (by kernel_rfl) (fun _ _ _ h => h) (by rfl) hHeld ?_
    try simp only [Act.put, List.setIfInBounds_toArray, List.set_cons_zero, List.set_cons_succ]
    refine skip_in (i := 11) rfl (by kernel_rfl) (by kernel_rfl) (by kernel_rfl) (fun _ _ _ h => h) (by rfl) hHeld ?_
    try simp only [Act.put, List.setIfInBounds_toArray, List.set_cons_zero, List.set_cons_succ]
    refine take_in (i := 12) (v := ?_) rfl (by kernel_rfl) (by kernel_rfl) (by kernel_rfl) (fun _ _ _ h => h) (by rfl) ?_ hHeld ?_
    rotate_left
    · intro w hSw
      (try dsimp only at hSw)
      go_simp
      try with_reducible rfl
    try simp only [Act.put, List.setIfInBounds_toArray, List.set_cons_zero, List.set_cons_succ]
    refine take_in (i := 13) (v := ?_) rfl (by kernel_rfl) (by kernel_rfl) (by kernel_rfl) (fun _ _ _ h => h) (by rfl) ?_ hHeld ?_
    rotate_left
    · intro w hSw
      (try dsimp only at hSw)
      go_simp
      try with_reducible rfl
    try simp only [Act.put, List.setIfInBounds_toArray, List.set_cons_zero, List.set_cons_succ]
    refine skip_in (i := 14) rfl (by kernel_rfl) (by kernel_rfl) (by kernel_rfl) (fun _ _ _ h => h) (by rfl) hHeld ?_
    try simp only [Act.put, List.setIfInBounds_toArray, List.set_cons_zero, List.set_cons_succ]
    refine skip_in (i := 15) rfl (by kernel_rfl) (by kernel_rfl) (by kernel_rfl) (fun _ _ _ h => h) (by rfl) hHeld ?_
    try simp only [Act.put, List.setIfInBounds_toArray, List.set_cons_zero, List.set_cons_succ]
    refine skip_in (i := 16) rfl (by kernel_rfl) (by kernel_rfl) (by kernel_rfl) (fun _ _ _ h => h) (by rfl) hHeld ?_
    try simp only [Act.put, List.setIfInBounds_toArray, List.set_cons_zero, List.set_cons_succ]
    refine skip_in (i := 17) rfl (by kernel_rfl) (by kernel_rfl) (by kernel_rfl) (fun _ _ _ h => h) (by rfl) hHeld ?_
    try simp only [Act.put, List.setIfInBounds_toArray, List.set_cons_zero, List.set_cons_succ]
    refine skip_in (i := 18) rfl (by kernel_rfl) (by kernel_rfl) (by kernel_rfl) (fun _ _ _ h => h) (by rfl) hHeld ?_
    try simp only [Act.put, List.setIfInBounds_toArray, List.set_cons_zero, List.set_cons_succ]
    refine skip_in (i := 19) rfl (by kernel_rfl) (by kernel_rfl) (by kernel_rfl) (fun _ _ _ h => h) (by rfl) hHeld ?_
    try simp only [Act.put, List.setIfInBounds_toArray, List.set_cons_zero, List.set_cons_succ]
    refine take_in (i := 20) (v := ?_) rfl (by kernel_rfl) (by kernel_rfl) (by kernel_rfl) (fun _ _ _ h => h) (by rfl) ?_ hHeld ?_
    rotate_left
    · intro w hSw
      (try dsimp only at hSw)
      go_simp
      try with_reducible rfl
    try simp only [Act.put, List.setIfInBounds_toArray, List.set_cons_zero, List.set_cons_succ]
    refine wpAnyH_done (by kernel_rfl) ?_ _
    go_wp2_with fail
    go_ret
    exact ⟨rfl, HB.out.trans ((HC4.out.trans (hy2.out.mono HC4.out.size)).mono HB.out.size)⟩
  cases rc
  case false =>
    refine wp_region_held_drew (S := fun W' => W'.cell? ⟨w.heap.size, 0, none⟩ = some (.int .i64 k1) ∧ W'.cell? ⟨w.heap.size, 1, none⟩ = some (.int .i64 n1) ∧ W'.cell? ⟨w.heap.size, 2, none⟩ = some (s1) ∧ W'.cell? ⟨w.heap.size + 1, 0, none⟩ = some (.int .i64 k2) ∧ W'.cell? ⟨w.heap.size + 1, 1, none⟩ = some (.int .i64 n2) ∧ W'.cell? ⟨w.heap.size + 1, 2, none⟩ = some (s2) ∧ W'.cell? ⟨w.heap.size + 1 + 1, 0, none⟩ = some (.int .i64 k3) ∧ W'.cell? ⟨w.heap.size + 1 + 1, 1, none⟩ = some (.int .i64 n3) ∧ W'.cell? ⟨w.heap.size + 1 + 1, 2, none⟩ = some (s3)) (by kernel_rfl) (hk9.out _ HD.out) (fun hHeld => ?_)
    refine take_in (i := 0) (v := ?_) rfl (by kernel_rfl) (by kernel_rfl) (by kernel_rfl) (fun _ _ _ h => h) (by rfl) ?_ hHeld ?_
    rotate_left
    · intro w hSw
      (try dsimp only at hSw)
      go_simp
      try with_reducible rfl
    try simp only [Act.put, List.setIfInBounds_toArray, List.set_cons_zero, List.set_cons_succ]
    refine call_in (i := 1) rfl (by kernel_rfl) (fun K hK => ?_)
    clear hHeld
    go_simp
    (go_at_call 13; refine (right_any a _ 4 _ (HW1.out.below (HC4.out.trans (HD.out.mono HC4.out.size))) (Nat.le_trans HMA.out (by decide)) true HRA.out).mono ?_; rintro e y1 ⟨rfl, hb9⟩; have hy1 : Hid (Below v4.heap.size v4 y1) := HD.out.trans (hb9.mono HD.out.size); clear hb9)
    try (go_wp2_with fail)
    refine hK.out _ _ (hk9.out _ hy1.out) (fun hHeld => ?_)
    clear hK K
    try simp only [Act.put, List.setIfInBounds_toArray, List.set_cons_zero, List.set_cons_succ]
    refine take_in (i := 2) (v := ?_) rfl (by kernel_rfl) (by kernel_rfl) (by kernel_rfl) (fun _ _ _ h => h) (by rfl) ?_ hHeld ?_
    rotate_left
    · intro w hSw
      (try dsimp only at hSw)
      go_simp
      try with_reducible rfl
    try simp only [Act.put, List.setIfInBounds_toArray, List.set_cons_zero, List.set_cons_succ]
    refine take_in (i := 3) (v := ?_) rfl (by kernel_rfl) (by kernel_rfl) (by kernel_rfl) (fun _ _ _ h => h) (by rfl) ?_ hHeld ?_
    rotate_left
    · intro w hSw
      (try dsimp only at hSw)
      go_simp
      try with_reducible rfl
    try simp only [Act.put, List.setIfInBounds_toArray, List.set_cons_zero, List.set_cons_succ]
    refine take_in (i := 4) (v := ?_) rfl (by kernel_rfl) (by kernel_rfl) (by kernel_rfl) (fun _ _ _ h => h) (by rfl) ?_ hHeld ?_
    rotate_left
    · intro w hSw
      (try dsimp only at hSw)
      go_simp
      try with_reducible rfl
    try simp only [Act.put, List.setIfInBounds_toArray, List.set_cons_zero, List.set_cons_succ]
    refine call_in (i := 5) rfl (by kernel_rfl) (fun K hK => ?_)
    clear hHeld
    go_simp
    (go_at_call 13; refine (right_any b _ 4 _ (HW2.out.below (HC4.out.trans (hy1.out.mono HC4.out.size))) (Nat.le_trans HMB.out (by decide)) true HRB.out).mono ?_; rintro e y2 ⟨rfl, hb9⟩; have hy2 : Hid (Below v4.heap.size v4 y2) := hy1.out.trans (hb9.mono hy1.out.size); clear hb9)
    try (go_wp2_with fail)
    refine hK.out _ _ (hk9.out _ hy2.out) (fun hHeld => ?_)
    clear hK K
    try simp only [Act.put, List.setIfInBounds_toArray, List.set_cons_zero, List.set_cons_succ]
    refine take_in (i := 6) (v := ?_) rfl (by kernel_rfl) (by kernel_rfl) (by kernel_rfl) (fun _ _ _ h => h) (by rfl) ?_ hHeld ?_
    rotate_left
    · intro w hSw
      (try dsimp only at hSw)
      go_simp
      try with_reducible rfl
    try simp only [Act.put, List.setIfInBounds_toArray, List.set_cons_zero, List.set_cons_succ]
    refine take_in (i := 7) (v := ?_) rfl (by kernel_rfl) (by kernel_rfl) (by kernel_rfl) (fun _ _ _ h => h) (by rfl) ?_ hHeld ?_
    rotate_left
    · intro w hSw
      (try dsimp only at hSw)
      go_simp
      try with_reducible rfl
    try simp only [Act.put, List.setIfInBounds_toArray, List.set_cons_zero, List.set_cons_succ]
    refine take_in (i := 8) (v := ?_) rfl (by kernel_rfl) (by kernel_rfl) (by kernel_rfl) (fun _ _ _ h => h) (by rfl) ?_ hHeld ?_
    rotate_left
    · intro w hSw
      (try dsimp only at hSw)
      go_simp
      try with_reducible rfl
    try simp only [Act.put, List.setIfInBounds_toArray, List.set_cons_zero, List.set_cons_succ]
    refine take_in (i := 9) (v := ?_) rfl (by kernel_rfl) (by kernel_rfl) (by kernel_rfl) (fun _ _ _ h => h) (by rfl) ?_ hHeld ?_
    rotate_left
    · intro w hSw
      (try dsimp only at hSw)
      go_simp
      try with_reducible rfl
    try simp only [Act.put, List.setIfInBounds_toArray, List.set_cons_zero, List.set_cons_succ]
    refine call_in (i := 10) rfl (by kernel_rfl) (fun K hK => ?_)
    clear hHeld
    go_simp
    (go_at_call 13; refine (right_any c _ 4 _ (HW3.out.below (HC4.out.trans (hy2.out.mono HC4.out.size))) (Nat.le_trans HMC.out (by decide)) false HRC.out).mono ?_; rintro e y3 ⟨rfl, hb9⟩; have hy3 : Hid (Below v4.heap.size v4 y3) := hy2.out.trans (hb9.mono hy2.out.size); clear hb9)
    try (go_wp2_with fail)
    refine hK.out _ _ (hk9.out _ hy3.out) (fun hHeld => ?_)
    clear hK K
    try simp only [Act.put, List.setIfInBounds_toArray, List.set_cons_zero, List.set_cons_succ]
    refine take_in (i := 11) (v := ?_) rfl (by kernel_rfl) (by kernel_rfl) (by kernel_rfl) (fun _ _ _ h => h) (by rfl) ?_ hHeld ?_
    rotate_left
    · intro w hSw
      (try dsimp only at hSw)
      go_simp
      try with_reducible rfl
    try simp only [Act.put, List.setIfInBounds_toArray, List.set_cons_zero, List.set_cons_succ]
    refine take_in (i := 12) (v := ?_) rfl (by kernel_rfl) (by kernel_rfl) (by kernel_rfl) (fun _ _ _ h => h) (by rfl) ?_ hHeld ?_
    rotate_left
    · intro w hSw
      (try dsimp only at hSw)
      go_simp
      try with_reducible rfl
    try simp only [Act.put, List.setIfInBounds_toArray, List.set_cons_zero, List.set_cons_succ]
    refine take_in (i := 13) (v := ?_) rfl (by kernel_rfl) (by kernel_rfl) (by kernel_rfl) (fun _ _ _ h => h) (by rfl) ?_ hHeld ?_
    rotate_left
    · intro w hSw
      (try dsimp only at hSw)
      go_simp
      try with_reducible rfl
    try simp only [Act.put, List.setIfInBounds_toArray, List.set_cons_zero, List.set_cons_succ]
    refine skip_in (i := 14) rfl (by kernel_rfl) (by kernel_rfl) (by kernel_rfl) (fun _ _ _ h => h) (by rfl) hHeld ?_
    try simp only [Act.put, List.setIfInBounds_toArray, List.set_cons_zero, List.set_cons_succ]
    refine skip_in (i := 15) rfl (by kernel_rfl) (by kernel_rfl) (by kernel_rfl) (fun _ _ _ h => h) (by rfl) hHeld ?_
    try simp only [Act.put, List.setIfInBounds_toArray, List.set_cons_zero, List.set_cons_succ]
    refine skip_in (i := 16) rfl (by kernel_rfl) (by kernel_rfl) (by kernel_rfl) (fun _ _ _ h => h) (by rfl) hHeld ?_
    try simp only [Act.put, List.setIfInBounds_toArray, List.set_cons_zero, List.set_cons_succ]
    refine skip_in (i := 17) rfl (by kernel_rfl) (by kernel_rfl) (by kernel_rfl) (fun _ _ _ h => h) (by rfl) hHeld ?_
    try simp only [Act.put, List.setIfInBounds_toArray, List.set_cons_zero, List.set_cons_succ]
    refine skip_in (i := 18) rfl (by kernel_rfl) (by kernel_rfl) (by kernel_rfl) (fun _ _ _ h => h) (by rfl) hHeld ?_
    try simp only [Act.put, List.setIfInBounds_toArray, List.set_cons_zero, List.set_cons_succ]
    refine skip_in (i := 19) rfl (by kernel_rfl) (by kernel_rfl) (by kernel_rfl) (fun _ _ _ h => h) (by rfl) hHeld ?_
    try simp only [Act.put, List.setIfInBounds_toArray, List.set_cons_zero, List.set_cons_succ]
    refine take_in (i := 20) (v := ?_) rfl (by kernel_rfl) (by kernel_rfl) (by kernel_rfl) (fun _ _ _ h => h) (by rfl) ?_ hHeld ?_
    rotate_left
    · intro w hSw
      (try dsimp only at hSw)
      go_simp
      try with_reducible rfl
    try simp only [Act.put, List.setIfInBounds_toArray, List.set_cons_zero, List.set_cons_succ]
    refine wpAnyH_done (by kernel_rfl) ?_ _
    go_wp2_with fail
    go_ret
    exact ⟨rfl, HB.out.trans ((HC4.out.trans (hy3.out.mono HC4.out.size)).mono HB.out.size)⟩
  have hww : IntKind.i64.wrap ((N1 : Int) + (N2 : Int)) = (N1 : Int) + (N2 : Int) := i64_in _ (by omega)
  by_cases hnn : 60 < N1 + N2
  · have hdd : decide ((60 : Int) < (N1 : Int) + (N2 : Int)) = true := by simp; omega
    refine wp_region_held_drew (S := fun W' => W'.cell? ⟨w.heap.size, 0, none⟩ = some (.int .i64 k1) ∧ W'.cell? ⟨w.heap.size, 1, none⟩ = some (.int .i64 n1) ∧ W'.cell? ⟨w.heap.size, 2, none⟩ = some (s1) ∧ W'.cell? ⟨w.heap.size + 1, 0, none⟩ = some (.int .i64 k2) ∧ W'.cell? ⟨w.heap.size + 1, 1, none⟩ = some (.int .i64 n2) ∧ W'.cell? ⟨w.heap.size + 1, 2, none⟩ = some (s2) ∧ W'.cell? ⟨w.heap.size + 1 + 1, 0, none⟩ = some (.int .i64 k3) ∧ W'.cell? ⟨w.heap.size + 1 + 1, 1, none⟩ = some (.int .i64 n3) ∧ W'.cell? ⟨w.heap.size + 1 + 1, 2, none⟩ = some (s3)) (by kernel_rfl) (hk9.out _ HD.out) (fun hHeld => ?_)
    refine take_in (i := 0) (v := ?_) rfl (by kernel_rfl) (by kernel_rfl) (by kernel_rfl) (fun _ _ _ h => h) (by rfl) ?_ hHeld ?_
    rotate_left
    · intro w hSw
      (try dsimp only at hSw)
      go_simp
      try with_reducible rfl
    try simp only [Act.put, List.setIfInBounds_toArray, List.set_cons_zero, List.set_cons_succ]
    refine call_in (i := 1) rfl (by kernel_rfl) (fun K hK => ?_)
    clear hHeld
    go_simp
    (go_at_call 13; refine (right_any a _ 4 _ (HW1.out.below (HC4.out.trans (HD.out.mono HC4.out.size))) (Nat.le_trans HMA.out (by decide)) true HRA.out).mono ?_; rintro e y1 ⟨rfl, hb9⟩; have hy1 : Hid (Below v4.heap.size v4 y1) := HD.out.trans (hb9.mono HD.out.size); clear hb9)
    try (go_wp2_with fail)
    refine hK.out _ _ (hk9.out _ hy1.out) (fun hHeld => ?_)
    clear hK K
    try simp only [Act.put, List.setIfInBounds_toArray, List.set_cons_zero, List.set_cons_succ]
    refine take_in (i := 2) (v := ?_) rfl (by kernel_rfl) (by kernel_rfl) (by kernel_rfl) (fun _ _ _ h => h) (by rfl) ?_ hHeld ?_
    rotate_left
    · intro w hSw
      (try dsimp only at hSw)
      go_simp
      try with_reducible rfl
    try simp only [Act.put, List.setIfInBounds_toArray, List.set_cons_zero, List.set_cons_succ]
    refine take_in (i := 3) (v := ?_) rfl (by kernel_rfl) (by kernel_rfl) (by kernel_rfl) (fun _ _ _ h => h) (by rfl) ?_ hHeld ?_
    rotate_left
    · intro w hSw
      (try dsimp only at hSw)
      go_simp
      try with_reducible rfl
    try simp only [Act.put, List.setIfInBounds_toArray, List.set_cons_zero, List.set_cons_succ]
    refine take_in (i := 4) (v := ?_) rfl (by kernel_rfl) (by kernel_rfl) (by kernel_rfl) (fun _ _ _ h => h) (by rfl) ?_ hHeld ?_
    rotate_left
    · intro w hSw
      (try dsimp only at hSw)
      go_simp
      try with_reducible rfl
    try simp only [Act.put, List.setIfInBounds_toArray, List.set_cons_zero, List.set_cons_succ]
    refine call_in (i := 5) rfl (by kernel_rfl) (fun K hK => ?_)
    clear hHeld
    go_simp
    (go_at_call 13; refine (right_any b _ 4 _ (HW2.out.below (HC4.out.trans (hy1.out.mono HC4.out.size))) (Nat.le_trans HMB.out (by decide)) true HRB.out).mono ?_; rintro e y2 ⟨rfl, hb9⟩; have hy2 : Hid (Below v4.heap.size v4 y2) := hy1.out.trans (hb9.mono hy1.out.size); clear hb9)
    try (go_wp2_with fail)
    refine hK.out _ _ (hk9.out _ hy2.out) (fun hHeld => ?_)
    clear hK K
    try simp only [Act.put, List.setIfInBounds_toArray, List.set_cons_zero, List.set_cons_succ]
    refine take_in (i := 6) (v := ?_) rfl (by kernel_rfl) (by kernel_rfl) (by kernel_rfl) (fun _ _ _ h => h) (by rfl) ?_ hHeld ?_
    rotate_left
    · intro w hSw
      (try dsimp only at hSw)
      go_simp
      try with_reducible rfl
    try simp only [Act.put, List.setIfInBounds_toArray, List.set_cons_zero, List.set_cons_succ]
    refine take_in (i := 7) (v := ?_) rfl (by kernel_rfl) (by kernel_rfl) (by kernel_rfl) (fun _ _ _ h => h) (by rfl) ?_ hHeld ?_
    rotate_left
    · intro w hSw
      (try dsimp only at hSw)
      go_simp
      try with_reducible rfl
    try simp only [Act.put, List.setIfInBounds_toArray, List.set_cons_zero, List.set_cons_succ]
    refine take_in (i := 8) (v := ?_) rfl (by kernel_rfl) (by kernel_rfl) (by kernel_rfl) (fun _ _ _ h => h) (by rfl) ?_ hHeld ?_
    rotate_left
    · intro w hSw
      (try dsimp only at hSw)
      go_simp
      try with_reducible rfl
    try simp only [Act.put, List.setIfInBounds_toArray, List.set_cons_zero, List.set_cons_succ]
    refine take_in (i := 9) (v := ?_) rfl (by kernel_rfl) (by kernel_rfl) (by kernel_rfl) (fun _ _ _ h => h) (by rfl) ?_ hHeld ?_
    rotate_left
    · intro w hSw
      (try dsimp only at hSw)
      go_simp
      try with_reducible rfl
    try simp only [Act.put, List.setIfInBounds_toArray, List.set_cons_zero, List.set_cons_succ]
    refine call_in (i := 10) rfl (by kernel_rfl) (fun K hK => ?_)
    clear hHeld
    go_simp
    (go_at_call 13; refine (right_any c _ 4 _ (HW3.out.below (HC4.out.trans (hy2.out.mono HC4.out.size))) (Nat.le_trans HMC.out (by decide)) true HRC.out).mono ?_; rintro e y3 ⟨rfl, hb9⟩; have hy3 : Hid (Below v4.heap.size v4 y3) := hy2.out.trans (hb9.mono hy2.out.size); clear hb9)
    try (go_wp2_with fail)
    refine hK.out _ _ (hk9.out _ hy3.out) (fun hHeld => ?_)
    clear hK K
    try simp only [Act.put, List.setIfInBounds_toArray, List.set_cons_zero, List.set_cons_succ]
    refine take_in (i := 11) (v := ?_) rfl (by kernel_rfl) (by kernel_rfl) (by kernel_rfl) (fun _ _ _ h => h) (by rfl) ?_ hHeld ?_
    rotate_left
    · intro w hSw
      (try dsimp only at hSw)
      go_simp
      try with_reducible rfl
    try simp only [Act.put, List.setIfInBounds_toArray, List.set_cons_zero, List.set_cons_succ]
    refine take_in (i := 12) (v := ?_) rfl (by kernel_rfl) (by kernel_rfl) (by kernel_rfl) (fun _ _ _ h => h) (by rfl) ?_ hHeld ?_
    rotate_left
    · intro w hSw
      (try dsimp only at hSw)
      go_simp
      try with_reducible rfl
    try simp only [Act.put, List.setIfInBounds_toArray, List.set_cons_zero, List.set_cons_succ]
    refine take_in (i := 13) (v := ?_) rfl (by kernel_rfl) (by kernel_rfl) (by kernel_rfl) (fun _ _ _ h => h) (by rfl) ?_ hHeld ?_
    rotate_left
    · intro w hSw
      (try dsimp only at hSw)
      go_simp
      try with_reducible rfl
    try simp only [Act.put, List.setIfInBounds_toArray, List.set_cons_zero, List.set_cons_succ]
    refine take_in (i := 14) (v := ?_) rfl (by kernel_rfl) (by kernel_rfl) (by kernel_rfl) (fun _ _ _ h => h) (by rfl) ?_ hHeld ?_
    rotate_left
    · intro w hSw
      (try dsimp only at hSw)
      go_simp
      try with_reducible rfl
    try simp only [Act.put, List.setIfInBounds_toArray, List.set_cons_zero, List.set_cons_succ]
    refine take_in (i := 16) (v := ?_) rfl (by kernel_rfl) (by kernel_rfl) (by kernel_rfl) (fun _ _ _ h => h) (by rfl) ?_ hHeld ?_
    rotate_left
    · intro w hSw
      (try dsimp only at hSw)
      go_simp
      try with_reducible rfl
    try simp only [Act.put, List.setIfInBounds_toArray, List.set_cons_zero, List.set_cons_succ]
    refine call_in (i := 15) rfl (by kernel_rfl) (fun K hK => ?_)
    clear hHeld
    go_simp
    (go_at_call 21; refine (nodes_is a _ _ (HW1.out.below (HC4.out.trans (hy3.out.mono HC4.out.size))) (Nat.le_trans HMA.out (by decide)) N1 HN1.out).mono ?_; rintro e y4 ⟨rfl, hb9⟩; have hy4 : Hid (Below v4.heap.size v4 y4) := hy3.out.trans (hb9.mono hy3.out.size); clear hb9)
    try (go_wp2_with fail)
    refine hK.out _ _ (hk9.out _ hy4.out) (fun hHeld => ?_)
    clear hK K
    try simp only [Act.put, List.setIfInBounds_toArray, List.set_cons_zero, List.set_cons_succ]
    refine call_in (i := 17) rfl (by kernel_rfl) (fun K hK => ?_)
    clear hHeld
    go_simp
    (go_at_call 21; refine (nodes_is b _ _ (HW2.out.below (HC4.out.trans (hy4.out.mono HC4.out.size))) (Nat.le_trans HMB.out (by decide)) N2 HN2.out).mono ?_; rintro e y5 ⟨rfl, hb9⟩; have hy5 : Hid (Below v4.heap.size v4 y5) := hy4.out.trans (hb9.mono hy4.out.size); clear hb9)
    try (go_wp2_with fail)
    refine hK.out _ _ (hk9.out _ hy5.out) (fun hHeld => ?_)
    clear hK K
    try simp only [Act.put, List.setIfInBounds_toArray, List.set_cons_zero, List.set_cons_succ]
    refine take_in (i := 18) (v := ?_) rfl (by kernel_rfl) (by kernel_rfl) (by kernel_rfl) (fun _ _ _ h => h) (by rfl) ?_ hHeld ?_
    rotate_left
    · intro w hSw
      (try dsimp only at hSw)
      go_simp
      try with_reducible rfl
    try simp only [Act.put, List.setIfInBounds_toArray, List.set_cons_zero, List.set_cons_succ]
    refine take_in (i := 19) (v := ?_) rfl (by kernel_rfl) (by kernel_rfl) (by kernel_rfl) (fun _ _ _ h => h) (by rfl) ?_ hHeld ?_
    rotate_left
    · intro w hSw
      (try dsimp only at hSw)
      go_simp
      try with_reducible rfl
    try simp only [Act.put, List.setIfInBounds_toArray, List.set_cons_zero, List.set_cons_succ]
    refine take_in (i := 20) (v := ?_) rfl (by kernel_rfl) (by kernel_rfl) (by kernel_rfl) (fun _ _ _ h => h) (by rfl) ?_ hHeld ?_
    rotate_left
    · intro w hSw
      (try dsimp only at hSw)
      go_simp
      try with_reducible rfl
    try simp only [Act.put, List.setIfInBounds_toArray, List.set_cons_zero, List.set_cons_succ]
    refine wpAnyH_done (by kernel_rfl) ?_ _
    go_wp2_with fail
    go_ret
    exact ⟨rfl, HB.out.trans ((HC4.out.trans (hy5.out.mono HC4.out.size)).mono HB.out.size)⟩
  have hdd : decide ((60 : Int) < (N1 : Int) + (N2 : Int)) = false := by simp; omega
  have hsum : nodes a + nodes b ≤ 60 := by
    have h1 := HN1.out
    have h2 := HN2.out
    omega
  have HMM := Lib.hid (makes_nodes a b hsum)
  have HF := Lib.hid (makes_facts HRA.out HRB.out HRC.out hsum HVX.out HVY.out)
  clear hsum
  obtain ⟨hX7, hY7, hfm, hfi, hfs, hf1, hf2, hf3, hf4, hf5, hf6, hf7⟩ := HF.out
  have Fm := Lib.hid hfm
  have Fi := Lib.hid hfi
  have Fs := Lib.hid hfs
  have F1 := Lib.hid hf1
  have F2 := Lib.hid hf2
  have F3 := Lib.hid hf3
  have F4 := Lib.hid hf4
  have F5 := Lib.hid hf5
  have F6 := Lib.hid hf6
  have F7 := Lib.hid hf7
  clear hfm hfi hfs hf1 hf2 hf3 hf4 hf5 hf6 hf7 HF
  refine wp_region_held_drew (S := fun W' => W'.cell? ⟨w.heap.size, 0, none⟩ = some (.int .i64 k1) ∧ W'.cell? ⟨w.heap.size, 1, none⟩ = some (.int .i64 n1) ∧ W'.cell? ⟨w.heap.size, 2, none⟩ = some (s1) ∧ W'.cell? ⟨w.heap.size + 1, 0, none⟩ = some (.int .i64 k2) ∧ W'.cell? ⟨w.heap.size + 1, 1, none⟩ = some (.int .i64 n2) ∧ W'.cell? ⟨w.heap.size + 1, 2, none⟩ = some (s2) ∧ W'.cell? ⟨w.heap.size + 1 + 1, 0, none⟩ = some (.int .i64 k3) ∧ W'.cell? ⟨w.heap.size + 1 + 1, 1, none⟩ = some (.int .i64 n3) ∧ W'.cell? ⟨w.heap.size + 1 + 1, 2, none⟩ = some (s3)) (by kernel_rfl) (hk9.out _ HD.out) (fun hHeld => ?_)
  refine take_in (i := 0) (v := ?_) rfl (by kernel_rfl) (by kernel_rfl) (by kernel_rfl) (fun _ _ _ h => h) (by rfl) ?_ hHeld ?_
  rotate_left
  · intro w hSw
    (try dsimp only at hSw)
    go_simp
    try with_reducible rfl
  try simp only [Act.put, List.setIfInBounds_toArray, List.set_cons_zero, List.set_cons_succ]
  refine call_in (i := 1) rfl (by kernel_rfl) (fun K hK => ?_)
  clear hHeld
  go_simp
  (go_at_call 13; refine (right_any a _ 4 _ (HW1.out.below (HC4.out.trans (HD.out.mono HC4.out.size))) (Nat.le_trans HMA.out (by decide)) true HRA.out).mono ?_; rintro e y1 ⟨rfl, hb9⟩; have hy1 : Hid (Below v4.heap.size v4 y1) := HD.out.trans (hb9.mono HD.out.size); clear hb9)
  try (go_wp2_with fail)
  refine hK.out _ _ (hk9.out _ hy1.out) (fun hHeld => ?_)
  clear hK K
  try simp only [Act.put, List.setIfInBounds_toArray, List.set_cons_zero, List.set_cons_succ]
  refine take_in (i := 2) (v := ?_) rfl (by kernel_rfl) (by kernel_rfl) (by kernel_rfl) (fun _ _ _ h => h) (by rfl) ?_ hHeld ?_
  rotate_left
  · intro w hSw
    (try dsimp only at hSw)
    go_simp
    try with_reducible rfl
  try simp only [Act.put, List.setIfInBounds_toArray, List.set_cons_zero, List.set_cons_succ]
  refine take_in (i := 3) (v := ?_) rfl (by kernel_rfl) (by kernel_rfl) (by kernel_rfl) (fun _ _ _ h => h) (by rfl) ?_ hHeld ?_
  rotate_left
  · intro w hSw
    (try dsimp only at hSw)
    go_simp
    try with_reducible rfl
  try simp only [Act.put, List.setIfInBounds_toArray, List.set_cons_zero, List.set_cons_succ]
  refine take_in (i := 4) (v := ?_) rfl (by kernel_rfl) (by kernel_rfl) (by kernel_rfl) (fun _ _ _ h => h) (by rfl) ?_ hHeld ?_
  rotate_left
  · intro w hSw
    (try dsimp only at hSw)
    go_simp
    try with_reducible rfl
  try simp only [Act.put, List.setIfInBounds_toArray, List.set_cons_zero, List.set_cons_succ]
  refine call_in (i := 5) rfl (by kernel_rfl) (fun K hK => ?_)
  clear hHeld
  go_simp
  (go_at_call 13; refine (right_any b _ 4 _ (HW2.out.below (HC4.out.trans (hy1.out.mono HC4.out.size))) (Nat.le_trans HMB.out (by decide)) true HRB.out).mono ?_; rintro e y2 ⟨rfl, hb9⟩; have hy2 : Hid (Below v4.heap.size v4 y2) := hy1.out.trans (hb9.mono hy1.out.size); clear hb9)
  try (go_wp2_with fail)
  refine hK.out _ _ (hk9.out _ hy2.out) (fun hHeld => ?_)
  clear hK K
  try simp only [Act.put, List.setIfInBounds_toArray, List.set_cons_zero, List.set_cons_succ]
  refine take_in (i := 6) (v := ?_) rfl (by kernel_rfl) (by kernel_rfl) (by kernel_rfl) (fun _ _ _ h => h) (by rfl) ?_ hHeld ?_
  rotate_left
  · intro w hSw
    (try dsimp only at hSw)
    go_simp
    try with_reducible rfl
  try simp only [Act.put, List.setIfInBounds_toArray, List.set_cons_zero, List.set_cons_succ]
  refine take_in (i := 7) (v := ?_) rfl (by kernel_rfl) (by kernel_rfl) (by kernel_rfl) (fun _ _ _ h => h) (by rfl) ?_ hHeld ?_
  rotate_left
  · intro w hSw
    (try dsimp only at hSw)
    go_simp
    try with_reducible rfl
  try simp only [Act.put, List.setIfInBounds_toArray, List.set_cons_zero, List.set_cons_succ]
  refine take_in (i := 8) (v := ?_) rfl (by kernel_rfl) (by kernel_rfl) (by kernel_rfl) (fun _ _ _ h => h) (by rfl) ?_ hHeld ?_
  rotate_left
  · intro w hSw
    (try dsimp only at hSw)
    go_simp
    try with_reducible rfl
  try simp only [Act.put, List.setIfInBounds_toArray, List.set_cons_zero, List.set_cons_succ]
  refine take_in (i := 9) (v := ?_) rfl (by kernel_rfl) (by kernel_rfl) (by kernel_rfl) (fun _ _ _ h => h) (by rfl) ?_ hHeld ?_
  rotate_left
  · intro w hSw
    (try dsimp only at hSw)
    go_simp
    try with_reducible rfl
  try simp only [Act.put, List.setIfInBounds_toArray, List.set_cons_zero, List.set_cons_succ]
  refine call_in (i := 10) rfl (by kernel_rfl) (fun K hK => ?_)
  clear hHeld
  go_simp
  (go_at_call 13; refine (right_any c _ 4 _ (HW3.out.below (HC4.out.trans (hy2.out.mono HC4.out.size))) (Nat.le_trans HMC.out (by decide)) true HRC.out).mono ?_; rintro e y3 ⟨rfl, hb9⟩; have hy3 : Hid (Below v4.heap.size v4 y3) := hy2.out.trans (hb9.mono hy2.out.size); clear hb9)
  try (go_wp2_with fail)
  refine hK.out _ _ (hk9.out _ hy3.out) (fun hHeld => ?_)
  clear hK K
  try simp only [Act.put, List.setIfInBounds_toArray, List.set_cons_zero, List.set_cons_succ]
  refine take_in (i := 11) (v := ?_) rfl (by kernel_rfl) (by kernel_rfl) (by kernel_rfl) (fun _ _ _ h => h) (by rfl) ?_ hHeld ?_
  rotate_left
  · intro w hSw
    (try dsimp only at hSw)
    go_simp
    try with_reducible rfl
  try simp only [Act.put, List.setIfInBounds_toArray, List.set_cons_zero, List.set_cons_succ]
  refine take_in (i := 12) (v := ?_) rfl (by kernel_rfl) (by kernel_rfl) (by kernel_rfl) (fun _ _ _ h => h) (by rfl) ?_ hHeld ?_
  rotate_left
  · intro w hSw
    (try dsimp only at hSw)
    go_simp
    try with_reducible rfl
  try simp only [Act.put, List.setIfInBounds_toArray, List.set_cons_zero, List.set_cons_succ]
  refine take_in (i := 13) (v := ?_) rfl (by kernel_rfl) (by kernel_rfl) (by kernel_rfl) (fun _ _ _ h => h) (by rfl) ?_ hHeld ?_
  rotate_left
  · intro w hSw
    (try dsimp only at hSw)
    go_simp
    try with_reducible rfl
  try simp only [Act.put, List.setIfInBounds_toArray, List.set_cons_zero, List.set_cons_succ]
  refine take_in (i := 14) (v := ?_) rfl (by kernel_rfl) (by kernel_rfl) (by kernel_rfl) (fun _ _ _ h => h) (by rfl) ?_ hHeld ?_
  rotate_left
  · intro w hSw
    (try dsimp only at hSw)
    go_simp
    try with_reducible rfl
  try simp only [Act.put, List.setIfInBounds_toArray, List.set_cons_zero, List.set_cons_succ]
  refine take_in (i := 16) (v := ?_) rfl (by kernel_rfl) (by kernel_rfl) (by kernel_rfl) (fun _ _ _ h => h) (by rfl) ?_ hHeld ?_
  rotate_left
  · intro w hSw
    (try dsimp only at hSw)
    go_simp
    try with_reducible rfl
  try simp only [Act.put, List.setIfInBounds_toArray, List.set_cons_zero, List.set_cons_succ]
  refine call_in (i := 15) rfl (by kernel_rfl) (fun K hK => ?_)
  clear hHeld
  go_simp
  (go_at_call 21; refine (nodes_is a _ _ (HW1.out.below (HC4.out.trans (hy3.out.mono HC4.out.size))) (Nat.le_trans HMA.out (by decide)) N1 HN1.out).mono ?_; rintro e y4 ⟨rfl, hb9⟩; have hy4 : Hid (Below v4.heap.size v4 y4) := hy3.out.trans (hb9.mono hy3.out.size); clear hb9)
  try (go_wp2_with fail)
  refine hK.out _ _ (hk9.out _ hy4.out) (fun hHeld => ?_)
  clear hK K
  try simp only [Act.put, List.setIfInBounds_toArray, List.set_cons_zero, List.set_cons_succ]
  refine call_in (i := 17) rfl (by kernel_rfl) (fun K hK => ?_)
  clear hHeld
  go_simp
  (go_at_call 21; refine (nodes_is b _ _ (HW2.out.below (HC4.out.trans (hy4.out.mono HC4.out.size))) (Nat.le_trans HMB.out (by decide)) N2 HN2.out).mono ?_; rintro e y5 ⟨rfl, hb9⟩; have hy5 : Hid (Below v4.heap.size v4 y5) := hy4.out.trans (hb9.mono hy4.out.size); clear hb9)
  try (go_wp2_with fail)
  refine hK.out _ _ (hk9.out _ hy5.out) (fun hHeld => ?_)
  clear hK K
  try simp only [Act.put, List.setIfInBounds_toArray, List.set_cons_zero, List.set_cons_succ]
  refine take_in (i := 18) (v := ?_) rfl (by kernel_rfl) (by kernel_rfl) (by kernel_rfl) (fun _ _ _ h => h) (by rfl) ?_ hHeld ?_
  rotate_left
  · intro w hSw
    (try dsimp only at hSw)
    go_simp
    try with_reducible rfl
  try simp only [Act.put, List.setIfInBounds_toArray, List.set_cons_zero, List.set_cons_succ]
  refine take_in (i := 19) (v := ?_) rfl (by kernel_rfl) (by kernel_rfl) (by kernel_rfl) (fun _ _ _ h => h) (by rfl) ?_ hHeld ?_
  rotate_left
  · intro w hSw
    (try dsimp only at hSw)
    go_simp
    try with_reducible rfl
  try simp only [Act.put, List.setIfInBounds_toArray, List.set_cons_zero, List.set_cons_succ]
  refine take_in (i := 20) (v := ?_) rfl (by kernel_rfl) (by kernel_rfl) (by kernel_rfl) (fun _ _ _ h => h) (by rfl) ?_ hHeld ?_
  rotate_left
  · intro w hSw
    (try dsimp only at hSw)
    go_simp
    try with_reducible rfl
  try simp only [Act.put, List.setIfInBounds_toArray, List.set_cons_zero, List.set_cons_succ]
  refine wpAnyH_done (by kernel_rfl) ?_ _
  have HC5 := Lib.hid (HC4.out.trans (hy5.out.mono HC4.out.size))
  clear hk9 HD hy1 hy2 hy3 hy4 hy5
  clear m1 m2 m3 m4 m5 m6 m7 m8 m9
  obtain ⟨m1, m2, m3, m4, m5, m6, m7, m8, m9⟩ := hk.out y5 HC5.out
  go_wp2_with fail
  refine (pvalue_any a _ _ zs _ (HW1.out.below HC5.out) (HS.out.below HC5.out) HL.out (Nat.le_trans HMA.out (by decide)) X HVX.out).mono ?_
  rintro e v6 ⟨rfl, hb⟩
  have HC6 := Lib.hid (HC5.out.trans (hb.mono HC5.out.size))
  clear hb
  clear m1 m2 m3 m4 m5 m6 m7 m8 m9
  obtain ⟨m1, m2, m3, m4, m5, m6, m7, m8, m9⟩ := hk.out v6 HC6.out
  go_wp2_with fail
  refine (pvalue_any b _ _ zs _ (HW2.out.below HC6.out) (HS.out.below HC6.out) HL.out (Nat.le_trans HMB.out (by decide)) Y HVY.out).mono ?_
  rintro e v7 ⟨rfl, hb⟩
  have HC7 := Lib.hid (HC6.out.trans (hb.mono HC6.out.size))
  clear hb
  clear m1 m2 m3 m4 m5 m6 m7 m8 m9
  obtain ⟨m1, m2, m3, m4, m5, m6, m7, m8, m9⟩ := hk.out v7 HC7.out
  go_wp2_with fail
  refine (max_is a b _ _ (lsV_pair (HW1.out.below HC7.out) (HW2.out.below HC7.out)) (Nat.le_trans HMA.out (by decide)) (Nat.le_trans HMB.out (by decide))).mono ?_
  rintro e x8 ⟨sm, he, hs9, hb⟩
  obtain rfl : e = Ending.returned (.agg #[.int .i64 4, .int .i64 0, sm]) := he
  obtain ⟨ma, ml, mc, rfl⟩ := lvP_slice hs9
  have hb1 : Below v7.heap.size v7 x8 := ((below_lit v7 (.cells #[.int .i64 k1, .int .i64 n1, s1, .int .i64 k2, .int .i64 n2, s2] 24)).trans (hb.mono (below_lit v7 (.cells #[.int .i64 k1, .int .i64 n1, s1, .int .i64 k2, .int .i64 n2, s2] 24)).size))
  have hb2 : Below v7.heap.size v7 (x8.alloc (.cells #[.int .i64 4, .int .i64 0, .slice ma ml mc] 24)) := hb1.trans ((below_lit x8 (.cells #[.int .i64 4, .int .i64 0, .slice ma ml mc] 24)).mono hb1.size)
  have HC8 := Lib.hid (HC7.out.trans (hb2.mono HC7.out.size))
  have HR9 := Lib.hid (heap_alloc_new x8 (.cells #[.int .i64 4, .int .i64 0, .slice ma ml mc] 24))
  have HZ9 := Lib.hid (show x8.heap.size < (x8.alloc (.cells #[.int .i64 4, .int .i64 0, .slice ma ml mc] 24)).heap.size by simp)
  have HWm : Hid (LvV (x8.alloc (.cells #[.int .i64 4, .int .i64 0, .slice ma ml mc] 24)) (.mk 4 0 [a, b]) (.agg #[.int .i64 4, .int .i64 0, .slice ma ml mc])) := ⟨_, rfl, lvS_below (below_lit x8 _) _ _ (lvS_of _ _ hs9)⟩
  clear hb hb1 hb2 hs9
  clear m1 m2 m3 m4 m5 m6 m7 m8 m9
  obtain ⟨m1, m2, m3, m4, m5, m6, m7, m8, m9⟩ := hk.out (x8.alloc (.cells #[.int .i64 4, .int .i64 0, .slice ma ml mc] 24)) HC8.out
  go_wp2_with fail
  generalize hvx : x8.alloc (.cells #[.int .i64 4, .int .i64 0, .slice ma ml mc] 24) = v8 at *
  clear hvx
  generalize x8.heap.size = Bm at *
  replace HB := Lib.hid (HB.out.trans (HC8.out.mono HB.out.size))
  replace HS := Lib.hid (HS.out.below HC8.out)
  replace HW1 := Lib.hid (HW1.out.below HC8.out)
  replace HW2 := Lib.hid (HW2.out.below HC8.out)
  replace HW3 := Lib.hid (HW3.out.below HC8.out)
  have hk2 : Hid (∀ W', Below v8.heap.size v8 W' → W'.cell? ⟨w.heap.size, 0, none⟩ = some (.int .i64 k1) ∧ W'.cell? ⟨w.heap.size, 1, none⟩ = some (.int .i64 n1) ∧ W'.cell? ⟨w.heap.size, 2, none⟩ = some (s1) ∧ W'.cell? ⟨w.heap.size + 1, 0, none⟩ = some (.int .i64 k2) ∧ W'.cell? ⟨w.heap.size + 1, 1, none⟩ = some (.int .i64 n2) ∧ W'.cell? ⟨w.heap.size + 1, 2, none⟩ = some (s2) ∧ W'.cell? ⟨w.heap.size + 1 + 1, 0, none⟩ = some (.int .i64 k3) ∧ W'.cell? ⟨w.heap.size + 1 + 1, 1, none⟩ = some (.int .i64 n3) ∧ W'.cell? ⟨w.heap.size + 1 + 1, 2, none⟩ = some (s3) ∧ W'.cell? ⟨Bm, 0, none⟩ = some (.int .i64 4) ∧ W'.cell? ⟨Bm, 1, none⟩ = some (.int .i64 0) ∧ W'.cell? ⟨Bm, 2, none⟩ = some (.slice ma ml mc)) := fun W' h => by
    have h9 := hk.out W' (HC8.out.trans (h.mono HC8.out.size))
    have p9 := (h.block Bm HZ9.out).trans HR9.out
    exact ⟨h9.1, h9.2.1, h9.2.2.1, h9.2.2.2.1, h9.2.2.2.2.1, h9.2.2.2.2.2.1, h9.2.2.2.2.2.2.1, h9.2.2.2.2.2.2.2.1, h9.2.2.2.2.2.2.2.2, cell_of_row _ _ 0 _ 24 (0, 0) p9, cell_of_row _ _ 1 _ 24 (0, 0) p9, cell_of_row _ _ 2 _ 24 (0, 0) p9⟩
  clear m1 m2 m3 m4 m5 m6 m7 m8 m9
  clear hk HR9 HZ9 HC8
  have hk := hk2
  clear hk2
  have HC8 := Lib.hid (Below.refl v8.heap.size v8)
  obtain ⟨m1, m2, m3, m4, m5, m6, m7, m8, m9, m10, m11, m12⟩ := hk.out v8 HC8.out
  go_wp2_with fail
  refine (imax_is a b _ _ _ (HW1.out.below HC8.out) (HW2.out.below HC8.out) (Nat.le_trans HMA.out (by decide)) (Nat.le_trans HMB.out (by decide))).mono ?_
  rintro e x9 ⟨si, he, hs9, hb⟩
  obtain rfl : e = Ending.returned (.agg #[.int .i64 5, .int .i64 0, si]) := he
  obtain ⟨ia, il, ic, rfl⟩ := lvP_slice hs9
  have hb1 : Below v8.heap.size v8 x9 := hb
  have hb2 : Below v8.heap.size v8 (x9.alloc (.cells #[.int .i64 5, .int .i64 0, .slice ia il ic] 24)) := hb1.trans ((below_lit x9 (.cells #[.int .i64 5, .int .i64 0, .slice ia il ic] 24)).mono hb1.size)
  have HC9 := Lib.hid (HC8.out.trans (hb2.mono HC8.out.size))
  have HR9 := Lib.hid (heap_alloc_new x9 (.cells #[.int .i64 5, .int .i64 0, .slice ia il ic] 24))
  have HZ9 := Lib.hid (show x9.heap.size < (x9.alloc (.cells #[.int .i64 5, .int .i64 0, .slice ia il ic] 24)).heap.size by simp)
  have HWi : Hid (LvV (x9.alloc (.cells #[.int .i64 5, .int .i64 0, .slice ia il ic] 24)) (.mk 5 0 [a, b]) (.agg #[.int .i64 5, .int .i64 0, .slice ia il ic])) := ⟨_, rfl, lvS_below (below_lit x9 _) _ _ (lvS_of _ _ hs9)⟩
  clear hb hb1 hb2 hs9
  clear m1 m2 m3 m4 m5 m6 m7 m8 m9 m10 m11 m12
  obtain ⟨m1, m2, m3, m4, m5, m6, m7, m8, m9, m10, m11, m12⟩ := hk.out (x9.alloc (.cells #[.int .i64 5, .int .i64 0, .slice ia il ic] 24)) HC9.out
  go_wp2_with fail
  generalize hvx : x9.alloc (.cells #[.int .i64 5, .int .i64 0, .slice ia il ic] 24) = v9 at *
  clear hvx
  generalize x9.heap.size = Bi at *
  replace HB := Lib.hid (HB.out.trans (HC9.out.mono HB.out.size))
  replace HS := Lib.hid (HS.out.below HC9.out)
  replace HW1 := Lib.hid (HW1.out.below HC9.out)
  replace HW2 := Lib.hid (HW2.out.below HC9.out)
  replace HW3 := Lib.hid (HW3.out.below HC9.out)
  replace HWm := Lib.hid (HWm.out.below HC9.out)
  have hk2 : Hid (∀ W', Below v9.heap.size v9 W' → W'.cell? ⟨w.heap.size, 0, none⟩ = some (.int .i64 k1) ∧ W'.cell? ⟨w.heap.size, 1, none⟩ = some (.int .i64 n1) ∧ W'.cell? ⟨w.heap.size, 2, none⟩ = some (s1) ∧ W'.cell? ⟨w.heap.size + 1, 0, none⟩ = some (.int .i64 k2) ∧ W'.cell? ⟨w.heap.size + 1, 1, none⟩ = some (.int .i64 n2) ∧ W'.cell? ⟨w.heap.size + 1, 2, none⟩ = some (s2) ∧ W'.cell? ⟨w.heap.size + 1 + 1, 0, none⟩ = some (.int .i64 k3) ∧ W'.cell? ⟨w.heap.size + 1 + 1, 1, none⟩ = some (.int .i64 n3) ∧ W'.cell? ⟨w.heap.size + 1 + 1, 2, none⟩ = some (s3) ∧ W'.cell? ⟨Bm, 0, none⟩ = some (.int .i64 4) ∧ W'.cell? ⟨Bm, 1, none⟩ = some (.int .i64 0) ∧ W'.cell? ⟨Bm, 2, none⟩ = some (.slice ma ml mc) ∧ W'.cell? ⟨Bi, 0, none⟩ = some (.int .i64 5) ∧ W'.cell? ⟨Bi, 1, none⟩ = some (.int .i64 0) ∧ W'.cell? ⟨Bi, 2, none⟩ = some (.slice ia il ic)) := fun W' h => by
    have h9 := hk.out W' (HC9.out.trans (h.mono HC9.out.size))
    have p9 := (h.block Bi HZ9.out).trans HR9.out
    exact ⟨h9.1, h9.2.1, h9.2.2.1, h9.2.2.2.1, h9.2.2.2.2.1, h9.2.2.2.2.2.1, h9.2.2.2.2.2.2.1, h9.2.2.2.2.2.2.2.1, h9.2.2.2.2.2.2.2.2.1, h9.2.2.2.2.2.2.2.2.2.1, h9.2.2.2.2.2.2.2.2.2.2.1, h9.2.2.2.2.2.2.2.2.2.2.2, cell_of_row _ _ 0 _ 24 (0, 0) p9, cell_of_row _ _ 1 _ 24 (0, 0) p9, cell_of_row _ _ 2 _ 24 (0, 0) p9⟩
  clear m1 m2 m3 m4 m5 m6 m7 m8 m9 m10 m11 m12
  clear hk HR9 HZ9 HC9
  have hk := hk2
  clear hk2
  have HC9 := Lib.hid (Below.refl v9.heap.size v9)
  obtain ⟨m1, m2, m3, m4, m5, m6, m7, m8, m9, m10, m11, m12, m13, m14, m15⟩ := hk.out v9 HC9.out
  go_wp2_with fail
  by_cases hy0 : Y = 0
  · subst hy0
    have hmx : max (X : Int) ((0 : Nat) : Int) = (X : Int) := by omega
    have hmx2 : max (X : Int) 0 = (X : Int) := by omega
    have hxy : ¬ (X < 0) := by omega
    rw [Nat.max_eq_left (Nat.zero_le X)] at Fm
    rw [if_pos rfl] at Fi
    refine (succ_is a _ _ (HW1.out.below HC9.out) (Nat.le_trans HMA.out (by decide))).mono ?_
    rintro e x10 ⟨ss, he, hs9, hb⟩
    obtain rfl : e = Ending.returned (.agg #[.int .i64 3, .int .i64 0, ss]) := he
    obtain ⟨sa, sl, sc, rfl⟩ := lvP_slice hs9
    have hb1 : Below v9.heap.size v9 x10 := hb
    have hb2 : Below v9.heap.size v9 (x10.alloc (.cells #[.int .i64 3, .int .i64 0, .slice sa sl sc] 24)) := hb1.trans ((below_lit x10 (.cells #[.int .i64 3, .int .i64 0, .slice sa sl sc] 24)).mono hb1.size)
    have HC10 := Lib.hid (HC9.out.trans (hb2.mono HC9.out.size))
    have HR9 := Lib.hid (heap_alloc_new x10 (.cells #[.int .i64 3, .int .i64 0, .slice sa sl sc] 24))
    have HZ9 := Lib.hid (show x10.heap.size < (x10.alloc (.cells #[.int .i64 3, .int .i64 0, .slice sa sl sc] 24)).heap.size by simp)
    have HWs : Hid (LvV (x10.alloc (.cells #[.int .i64 3, .int .i64 0, .slice sa sl sc] 24)) (.mk 3 0 [a]) (.agg #[.int .i64 3, .int .i64 0, .slice sa sl sc])) := ⟨_, rfl, lvS_below (below_lit x10 _) _ _ (lvS_of _ _ hs9)⟩
    clear hb hb1 hb2 hs9
    clear m1 m2 m3 m4 m5 m6 m7 m8 m9 m10 m11 m12 m13 m14 m15
    obtain ⟨m1, m2, m3, m4, m5, m6, m7, m8, m9, m10, m11, m12, m13, m14, m15⟩ := hk.out (x10.alloc (.cells #[.int .i64 3, .int .i64 0, .slice sa sl sc] 24)) HC10.out
    go_wp2_with fail
    generalize hvx : x10.alloc (.cells #[.int .i64 3, .int .i64 0, .slice sa sl sc] 24) = v10 at *
    clear hvx
    generalize x10.heap.size = Bs at *
    replace HB := Lib.hid (HB.out.trans (HC10.out.mono HB.out.size))
    replace HS := Lib.hid (HS.out.below HC10.out)
    replace HW1 := Lib.hid (HW1.out.below HC10.out)
    replace HW2 := Lib.hid (HW2.out.below HC10.out)
    replace HW3 := Lib.hid (HW3.out.below HC10.out)
    replace HWm := Lib.hid (HWm.out.below HC10.out)
    replace HWi := Lib.hid (HWi.out.below HC10.out)
    have hk2 : Hid (∀ W', Below v10.heap.size v10 W' → W'.cell? ⟨w.heap.size, 0, none⟩ = some (.int .i64 k1) ∧ W'.cell? ⟨w.heap.size, 1, none⟩ = some (.int .i64 n1) ∧ W'.cell? ⟨w.heap.size, 2, none⟩ = some (s1) ∧ W'.cell? ⟨w.heap.size + 1, 0, none⟩ = some (.int .i64 k2) ∧ W'.cell? ⟨w.heap.size + 1, 1, none⟩ = some (.int .i64 n2) ∧ W'.cell? ⟨w.heap.size + 1, 2, none⟩ = some (s2) ∧ W'.cell? ⟨w.heap.size + 1 + 1, 0, none⟩ = some (.int .i64 k3) ∧ W'.cell? ⟨w.heap.size + 1 + 1, 1, none⟩ = some (.int .i64 n3) ∧ W'.cell? ⟨w.heap.size + 1 + 1, 2, none⟩ = some (s3) ∧ W'.cell? ⟨Bm, 0, none⟩ = some (.int .i64 4) ∧ W'.cell? ⟨Bm, 1, none⟩ = some (.int .i64 0) ∧ W'.cell? ⟨Bm, 2, none⟩ = some (.slice ma ml mc) ∧ W'.cell? ⟨Bi, 0, none⟩ = some (.int .i64 5) ∧ W'.cell? ⟨Bi, 1, none⟩ = some (.int .i64 0) ∧ W'.cell? ⟨Bi, 2, none⟩ = some (.slice ia il ic) ∧ W'.cell? ⟨Bs, 0, none⟩ = some (.int .i64 3) ∧ W'.cell? ⟨Bs, 1, none⟩ = some (.int .i64 0) ∧ W'.cell? ⟨Bs, 2, none⟩ = some (.slice sa sl sc)) := fun W' h => by
      have h9 := hk.out W' (HC10.out.trans (h.mono HC10.out.size))
      have p9 := (h.block Bs HZ9.out).trans HR9.out
      exact ⟨h9.1, h9.2.1, h9.2.2.1, h9.2.2.2.1, h9.2.2.2.2.1, h9.2.2.2.2.2.1, h9.2.2.2.2.2.2.1, h9.2.2.2.2.2.2.2.1, h9.2.2.2.2.2.2.2.2.1, h9.2.2.2.2.2.2.2.2.2.1, h9.2.2.2.2.2.2.2.2.2.2.1, h9.2.2.2.2.2.2.2.2.2.2.2.1, h9.2.2.2.2.2.2.2.2.2.2.2.2.1, h9.2.2.2.2.2.2.2.2.2.2.2.2.2.1, h9.2.2.2.2.2.2.2.2.2.2.2.2.2.2, cell_of_row _ _ 0 _ 24 (0, 0) p9, cell_of_row _ _ 1 _ 24 (0, 0) p9, cell_of_row _ _ 2 _ 24 (0, 0) p9⟩
    clear m1 m2 m3 m4 m5 m6 m7 m8 m9 m10 m11 m12 m13 m14 m15
    clear hk HR9 HZ9 HC10
    have hk := hk2
    clear hk2
    have HC10 := Lib.hid (Below.refl v10.heap.size v10)
    obtain ⟨m1, m2, m3, m4, m5, m6, m7, m8, m9, m10, m11, m12, m13, m14, m15, m16, m17, m18⟩ := hk.out v10 HC10.out
    go_wp2_with fail
    refine (pvalue_any (.mk 4 0 [a, b]) _ _ zs _ (HWm.out.below HC10.out) (HS.out.below HC10.out) HL.out (Nat.le_trans HMM.out.1 (by decide)) X Fm.out).mono ?_
    rintro e v11 ⟨rfl, hb⟩
    have HC11 := Lib.hid (HC10.out.trans (hb.mono HC10.out.size))
    clear hb
    clear m1 m2 m3 m4 m5 m6 m7 m8 m9 m10 m11 m12 m13 m14 m15 m16 m17 m18
    obtain ⟨m1, m2, m3, m4, m5, m6, m7, m8, m9, m10, m11, m12, m13, m14, m15, m16, m17, m18⟩ := hk.out v11 HC11.out
    go_wp2_with fail
    refine (pvalue_any (.mk 5 0 [a, b]) _ _ zs _ (HWi.out.below HC11.out) (HS.out.below HC11.out) HL.out (Nat.le_trans HMM.out.2.1 (by decide)) 0 Fi.out).mono ?_
    rintro e v12 ⟨rfl, hb⟩
    have HC12 := Lib.hid (HC11.out.trans (hb.mono HC11.out.size))
    clear hb
    clear m1 m2 m3 m4 m5 m6 m7 m8 m9 m10 m11 m12 m13 m14 m15 m16 m17 m18
    obtain ⟨m1, m2, m3, m4, m5, m6, m7, m8, m9, m10, m11, m12, m13, m14, m15, m16, m17, m18⟩ := hk.out v12 HC12.out
    go_wp2_with fail
    refine (pvalue_any (.mk 3 0 [a]) _ _ zs _ (HWs.out.below HC12.out) (HS.out.below HC12.out) HL.out (Nat.le_trans HMM.out.2.2 (by decide)) (X + 1) Fs.out).mono ?_
    rintro e v13 ⟨rfl, hb⟩
    have HC13 := Lib.hid (HC12.out.trans (hb.mono HC12.out.size))
    clear hb
    clear m1 m2 m3 m4 m5 m6 m7 m8 m9 m10 m11 m12 m13 m14 m15 m16 m17 m18
    obtain ⟨m1, m2, m3, m4, m5, m6, m7, m8, m9, m10, m11, m12, m13, m14, m15, m16, m17, m18⟩ := hk.out v13 HC13.out
    go_wp2_with fail
    refine (leq_any a (.mk 3 0 [a]) _ _ _ (HW1.out.below HC13.out) (HWs.out.below HC13.out) (Nat.le_trans HMA.out (by decide)) (Nat.le_trans HMM.out.2.2 (by decide)) true F1.out).mono ?_
    rintro e v14 ⟨rfl, hb⟩
    have HC14 := Lib.hid (HC13.out.trans (hb.mono HC13.out.size))
    clear hb
    clear m1 m2 m3 m4 m5 m6 m7 m8 m9 m10 m11 m12 m13 m14 m15 m16 m17 m18
    obtain ⟨m1, m2, m3, m4, m5, m6, m7, m8, m9, m10, m11, m12, m13, m14, m15, m16, m17, m18⟩ := hk.out v14 HC14.out
    go_wp2_with fail
    refine (leq_any (.mk 3 0 [a]) a _ _ _ (HWs.out.below HC14.out) (HW1.out.below HC14.out) (Nat.le_trans HMM.out.2.2 (by decide)) (Nat.le_trans HMA.out (by decide)) false F2.out).mono ?_
    rintro e v15 ⟨rfl, hb⟩
    have HC15 := Lib.hid (HC14.out.trans (hb.mono HC14.out.size))
    clear hb
    clear m1 m2 m3 m4 m5 m6 m7 m8 m9 m10 m11 m12 m13 m14 m15 m16 m17 m18
    obtain ⟨m1, m2, m3, m4, m5, m6, m7, m8, m9, m10, m11, m12, m13, m14, m15, m16, m17, m18⟩ := hk.out v15 HC15.out
    go_wp2_with fail
    refine (leq_any a (.mk 4 0 [a, b]) _ _ _ (HW1.out.below HC15.out) (HWm.out.below HC15.out) (Nat.le_trans HMA.out (by decide)) (Nat.le_trans HMM.out.1 (by decide)) true F3.out).mono ?_
    rintro e v16 ⟨rfl, hb⟩
    have HC16 := Lib.hid (HC15.out.trans (hb.mono HC15.out.size))
    clear hb
    clear m1 m2 m3 m4 m5 m6 m7 m8 m9 m10 m11 m12 m13 m14 m15 m16 m17 m18
    obtain ⟨m1, m2, m3, m4, m5, m6, m7, m8, m9, m10, m11, m12, m13, m14, m15, m16, m17, m18⟩ := hk.out v16 HC16.out
    go_wp2_with fail
    refine (leq_any b (.mk 4 0 [a, b]) _ _ _ (HW2.out.below HC16.out) (HWm.out.below HC16.out) (Nat.le_trans HMB.out (by decide)) (Nat.le_trans HMM.out.1 (by decide)) true F4.out).mono ?_
    rintro e v17 ⟨rfl, hb⟩
    have HC17 := Lib.hid (HC16.out.trans (hb.mono HC16.out.size))
    clear hb
    clear m1 m2 m3 m4 m5 m6 m7 m8 m9 m10 m11 m12 m13 m14 m15 m16 m17 m18
    obtain ⟨m1, m2, m3, m4, m5, m6, m7, m8, m9, m10, m11, m12, m13, m14, m15, m16, m17, m18⟩ := hk.out v17 HC17.out
    go_wp2_with fail
    refine (leq_any (.mk 5 0 [a, b]) (.mk 4 0 [a, b]) _ _ _ (HWi.out.below HC17.out) (HWm.out.below HC17.out) (Nat.le_trans HMM.out.2.1 (by decide)) (Nat.le_trans HMM.out.1 (by decide)) true F5.out).mono ?_
    rintro e v18 ⟨rfl, hb⟩
    have HC18 := Lib.hid (HC17.out.trans (hb.mono HC17.out.size))
    clear hb
    clear m1 m2 m3 m4 m5 m6 m7 m8 m9 m10 m11 m12 m13 m14 m15 m16 m17 m18
    obtain ⟨m1, m2, m3, m4, m5, m6, m7, m8, m9, m10, m11, m12, m13, m14, m15, m16, m17, m18⟩ := hk.out v18 HC18.out
    go_wp2_with fail
    refine (leq_any b (.mk 5 0 [a, b]) _ _ _ (HW2.out.below HC18.out) (HWi.out.below HC18.out) (Nat.le_trans HMB.out (by decide)) (Nat.le_trans HMM.out.2.1 (by decide)) true F6.out).mono ?_
    rintro e v19 ⟨rfl, hb⟩
    have HC19 := Lib.hid (HC18.out.trans (hb.mono HC18.out.size))
    clear hb
    clear m1 m2 m3 m4 m5 m6 m7 m8 m9 m10 m11 m12 m13 m14 m15 m16 m17 m18
    obtain ⟨m1, m2, m3, m4, m5, m6, m7, m8, m9, m10, m11, m12, m13, m14, m15, m16, m17, m18⟩ := hk.out v19 HC19.out
    go_wp2_with fail
    cases lac
    · refine (leq_any a c _ _ _ (HW1.out.below HC19.out) (HW3.out.below HC19.out) (Nat.le_trans HMA.out (by decide)) (Nat.le_trans HMC.out (by decide)) false HLAC.out).mono ?_
      rintro e v20 ⟨rfl, hb⟩
      have HC20 := Lib.hid (HC19.out.trans (hb.mono HC19.out.size))
      clear hb
      clear m1 m2 m3 m4 m5 m6 m7 m8 m9 m10 m11 m12 m13 m14 m15 m16 m17 m18
      obtain ⟨m1, m2, m3, m4, m5, m6, m7, m8, m9, m10, m11, m12, m13, m14, m15, m16, m17, m18⟩ := hk.out v20 HC20.out
      go_wp2_with fail
      go_ret
      exact ⟨rfl, HB.out.trans (HC20.out.mono HB.out.size)⟩
    · refine (leq_any a c _ _ _ (HW1.out.below HC19.out) (HW3.out.below HC19.out) (Nat.le_trans HMA.out (by decide)) (Nat.le_trans HMC.out (by decide)) true HLAC.out).mono ?_
      rintro e v20 ⟨rfl, hb⟩
      have HC20 := Lib.hid (HC19.out.trans (hb.mono HC19.out.size))
      clear hb
      clear m1 m2 m3 m4 m5 m6 m7 m8 m9 m10 m11 m12 m13 m14 m15 m16 m17 m18
      obtain ⟨m1, m2, m3, m4, m5, m6, m7, m8, m9, m10, m11, m12, m13, m14, m15, m16, m17, m18⟩ := hk.out v20 HC20.out
      go_wp2_with fail
      cases lbc
      · refine (leq_any b c _ _ _ (HW2.out.below HC20.out) (HW3.out.below HC20.out) (Nat.le_trans HMB.out (by decide)) (Nat.le_trans HMC.out (by decide)) false HLBC.out).mono ?_
        rintro e v21 ⟨rfl, hb⟩
        have HC21 := Lib.hid (HC20.out.trans (hb.mono HC20.out.size))
        clear hb
        clear m1 m2 m3 m4 m5 m6 m7 m8 m9 m10 m11 m12 m13 m14 m15 m16 m17 m18
        obtain ⟨m1, m2, m3, m4, m5, m6, m7, m8, m9, m10, m11, m12, m13, m14, m15, m16, m17, m18⟩ := hk.out v21 HC21.out
        go_wp2_with fail
        go_ret
        exact ⟨rfl, HB.out.trans (HC21.out.mono HB.out.size)⟩
      · obtain rfl : lmc = true := F7.out _ _ _ HLAC.out HLBC.out HLMC.out (by trivial) (by trivial)
        refine (leq_any b c _ _ _ (HW2.out.below HC20.out) (HW3.out.below HC20.out) (Nat.le_trans HMB.out (by decide)) (Nat.le_trans HMC.out (by decide)) true HLBC.out).mono ?_
        rintro e v21 ⟨rfl, hb⟩
        have HC21 := Lib.hid (HC20.out.trans (hb.mono HC20.out.size))
        clear hb
        clear m1 m2 m3 m4 m5 m6 m7 m8 m9 m10 m11 m12 m13 m14 m15 m16 m17 m18
        obtain ⟨m1, m2, m3, m4, m5, m6, m7, m8, m9, m10, m11, m12, m13, m14, m15, m16, m17, m18⟩ := hk.out v21 HC21.out
        go_wp2_with fail
        refine (leq_any (.mk 4 0 [a, b]) c _ _ _ (HWm.out.below HC21.out) (HW3.out.below HC21.out) (Nat.le_trans HMM.out.1 (by decide)) (Nat.le_trans HMC.out (by decide)) true HLMC.out).mono ?_
        rintro e v22 ⟨rfl, hb⟩
        have HC22 := Lib.hid (HC21.out.trans (hb.mono HC21.out.size))
        clear hb
        clear m1 m2 m3 m4 m5 m6 m7 m8 m9 m10 m11 m12 m13 m14 m15 m16 m17 m18
        obtain ⟨m1, m2, m3, m4, m5, m6, m7, m8, m9, m10, m11, m12, m13, m14, m15, m16, m17, m18⟩ := hk.out v22 HC22.out
        go_wp2_with fail
        go_ret
        exact ⟨rfl, HB.out.trans (HC22.out.mono HB.out.size)⟩
  · have hy1 : ((Y : Int) == 0) = false := by simp; omega
    rw [if_neg hy0] at Fi
    by_cases hxy : X < Y
    · have hmx : max (X : Int) (Y : Int) = (Y : Int) := by omega
      rw [Nat.max_eq_right (Nat.le_of_lt hxy)] at Fm Fi
      refine (succ_is a _ _ (HW1.out.below HC9.out) (Nat.le_trans HMA.out (by decide))).mono ?_
      rintro e x10 ⟨ss, he, hs9, hb⟩
      obtain rfl : e = Ending.returned (.agg #[.int .i64 3, .int .i64 0, ss]) := he
      obtain ⟨sa, sl, sc, rfl⟩ := lvP_slice hs9
      have hb1 : Below v9.heap.size v9 x10 := hb
      have hb2 : Below v9.heap.size v9 (x10.alloc (.cells #[.int .i64 3, .int .i64 0, .slice sa sl sc] 24)) := hb1.trans ((below_lit x10 (.cells #[.int .i64 3, .int .i64 0, .slice sa sl sc] 24)).mono hb1.size)
      have HC10 := Lib.hid (HC9.out.trans (hb2.mono HC9.out.size))
      have HR9 := Lib.hid (heap_alloc_new x10 (.cells #[.int .i64 3, .int .i64 0, .slice sa sl sc] 24))
      have HZ9 := Lib.hid (show x10.heap.size < (x10.alloc (.cells #[.int .i64 3, .int .i64 0, .slice sa sl sc] 24)).heap.size by simp)
      have HWs : Hid (LvV (x10.alloc (.cells #[.int .i64 3, .int .i64 0, .slice sa sl sc] 24)) (.mk 3 0 [a]) (.agg #[.int .i64 3, .int .i64 0, .slice sa sl sc])) := ⟨_, rfl, lvS_below (below_lit x10 _) _ _ (lvS_of _ _ hs9)⟩
      clear hb hb1 hb2 hs9
      clear m1 m2 m3 m4 m5 m6 m7 m8 m9 m10 m11 m12 m13 m14 m15
      obtain ⟨m1, m2, m3, m4, m5, m6, m7, m8, m9, m10, m11, m12, m13, m14, m15⟩ := hk.out (x10.alloc (.cells #[.int .i64 3, .int .i64 0, .slice sa sl sc] 24)) HC10.out
      go_wp2_with fail
      generalize hvx : x10.alloc (.cells #[.int .i64 3, .int .i64 0, .slice sa sl sc] 24) = v10 at *
      clear hvx
      generalize x10.heap.size = Bs at *
      replace HB := Lib.hid (HB.out.trans (HC10.out.mono HB.out.size))
      replace HS := Lib.hid (HS.out.below HC10.out)
      replace HW1 := Lib.hid (HW1.out.below HC10.out)
      replace HW2 := Lib.hid (HW2.out.below HC10.out)
      replace HW3 := Lib.hid (HW3.out.below HC10.out)
      replace HWm := Lib.hid (HWm.out.below HC10.out)
      replace HWi := Lib.hid (HWi.out.below HC10.out)
      have hk2 : Hid (∀ W', Below v10.heap.size v10 W' → W'.cell? ⟨w.heap.size, 0, none⟩ = some (.int .i64 k1) ∧ W'.cell? ⟨w.heap.size, 1, none⟩ = some (.int .i64 n1) ∧ W'.cell? ⟨w.heap.size, 2, none⟩ = some (s1) ∧ W'.cell? ⟨w.heap.size + 1, 0, none⟩ = some (.int .i64 k2) ∧ W'.cell? ⟨w.heap.size + 1, 1, none⟩ = some (.int .i64 n2) ∧ W'.cell? ⟨w.heap.size + 1, 2, none⟩ = some (s2) ∧ W'.cell? ⟨w.heap.size + 1 + 1, 0, none⟩ = some (.int .i64 k3) ∧ W'.cell? ⟨w.heap.size + 1 + 1, 1, none⟩ = some (.int .i64 n3) ∧ W'.cell? ⟨w.heap.size + 1 + 1, 2, none⟩ = some (s3) ∧ W'.cell? ⟨Bm, 0, none⟩ = some (.int .i64 4) ∧ W'.cell? ⟨Bm, 1, none⟩ = some (.int .i64 0) ∧ W'.cell? ⟨Bm, 2, none⟩ = some (.slice ma ml mc) ∧ W'.cell? ⟨Bi, 0, none⟩ = some (.int .i64 5) ∧ W'.cell? ⟨Bi, 1, none⟩ = some (.int .i64 0) ∧ W'.cell? ⟨Bi, 2, none⟩ = some (.slice ia il ic) ∧ W'.cell? ⟨Bs, 0, none⟩ = some (.int .i64 3) ∧ W'.cell? ⟨Bs, 1, none⟩ = some (.int .i64 0) ∧ W'.cell? ⟨Bs, 2, none⟩ = some (.slice sa sl sc)) := fun W' h => by
        have h9 := hk.out W' (HC10.out.trans (h.mono HC10.out.size))
        have p9 := (h.block Bs HZ9.out).trans HR9.out
        exact ⟨h9.1, h9.2.1, h9.2.2.1, h9.2.2.2.1, h9.2.2.2.2.1, h9.2.2.2.2.2.1, h9.2.2.2.2.2.2.1, h9.2.2.2.2.2.2.2.1, h9.2.2.2.2.2.2.2.2.1, h9.2.2.2.2.2.2.2.2.2.1, h9.2.2.2.2.2.2.2.2.2.2.1, h9.2.2.2.2.2.2.2.2.2.2.2.1, h9.2.2.2.2.2.2.2.2.2.2.2.2.1, h9.2.2.2.2.2.2.2.2.2.2.2.2.2.1, h9.2.2.2.2.2.2.2.2.2.2.2.2.2.2, cell_of_row _ _ 0 _ 24 (0, 0) p9, cell_of_row _ _ 1 _ 24 (0, 0) p9, cell_of_row _ _ 2 _ 24 (0, 0) p9⟩
      clear m1 m2 m3 m4 m5 m6 m7 m8 m9 m10 m11 m12 m13 m14 m15
      clear hk HR9 HZ9 HC10
      have hk := hk2
      clear hk2
      have HC10 := Lib.hid (Below.refl v10.heap.size v10)
      obtain ⟨m1, m2, m3, m4, m5, m6, m7, m8, m9, m10, m11, m12, m13, m14, m15, m16, m17, m18⟩ := hk.out v10 HC10.out
      go_wp2_with fail
      refine (pvalue_any (.mk 4 0 [a, b]) _ _ zs _ (HWm.out.below HC10.out) (HS.out.below HC10.out) HL.out (Nat.le_trans HMM.out.1 (by decide)) Y Fm.out).mono ?_
      rintro e v11 ⟨rfl, hb⟩
      have HC11 := Lib.hid (HC10.out.trans (hb.mono HC10.out.size))
      clear hb
      clear m1 m2 m3 m4 m5 m6 m7 m8 m9 m10 m11 m12 m13 m14 m15 m16 m17 m18
      obtain ⟨m1, m2, m3, m4, m5, m6, m7, m8, m9, m10, m11, m12, m13, m14, m15, m16, m17, m18⟩ := hk.out v11 HC11.out
      go_wp2_with fail
      refine (pvalue_any (.mk 5 0 [a, b]) _ _ zs _ (HWi.out.below HC11.out) (HS.out.below HC11.out) HL.out (Nat.le_trans HMM.out.2.1 (by decide)) Y Fi.out).mono ?_
      rintro e v12 ⟨rfl, hb⟩
      have HC12 := Lib.hid (HC11.out.trans (hb.mono HC11.out.size))
      clear hb
      clear m1 m2 m3 m4 m5 m6 m7 m8 m9 m10 m11 m12 m13 m14 m15 m16 m17 m18
      obtain ⟨m1, m2, m3, m4, m5, m6, m7, m8, m9, m10, m11, m12, m13, m14, m15, m16, m17, m18⟩ := hk.out v12 HC12.out
      go_wp2_with fail
      refine (pvalue_any (.mk 3 0 [a]) _ _ zs _ (HWs.out.below HC12.out) (HS.out.below HC12.out) HL.out (Nat.le_trans HMM.out.2.2 (by decide)) (X + 1) Fs.out).mono ?_
      rintro e v13 ⟨rfl, hb⟩
      have HC13 := Lib.hid (HC12.out.trans (hb.mono HC12.out.size))
      clear hb
      clear m1 m2 m3 m4 m5 m6 m7 m8 m9 m10 m11 m12 m13 m14 m15 m16 m17 m18
      obtain ⟨m1, m2, m3, m4, m5, m6, m7, m8, m9, m10, m11, m12, m13, m14, m15, m16, m17, m18⟩ := hk.out v13 HC13.out
      go_wp2_with fail
      refine (leq_any a (.mk 3 0 [a]) _ _ _ (HW1.out.below HC13.out) (HWs.out.below HC13.out) (Nat.le_trans HMA.out (by decide)) (Nat.le_trans HMM.out.2.2 (by decide)) true F1.out).mono ?_
      rintro e v14 ⟨rfl, hb⟩
      have HC14 := Lib.hid (HC13.out.trans (hb.mono HC13.out.size))
      clear hb
      clear m1 m2 m3 m4 m5 m6 m7 m8 m9 m10 m11 m12 m13 m14 m15 m16 m17 m18
      obtain ⟨m1, m2, m3, m4, m5, m6, m7, m8, m9, m10, m11, m12, m13, m14, m15, m16, m17, m18⟩ := hk.out v14 HC14.out
      go_wp2_with fail
      refine (leq_any (.mk 3 0 [a]) a _ _ _ (HWs.out.below HC14.out) (HW1.out.below HC14.out) (Nat.le_trans HMM.out.2.2 (by decide)) (Nat.le_trans HMA.out (by decide)) false F2.out).mono ?_
      rintro e v15 ⟨rfl, hb⟩
      have HC15 := Lib.hid (HC14.out.trans (hb.mono HC14.out.size))
      clear hb
      clear m1 m2 m3 m4 m5 m6 m7 m8 m9 m10 m11 m12 m13 m14 m15 m16 m17 m18
      obtain ⟨m1, m2, m3, m4, m5, m6, m7, m8, m9, m10, m11, m12, m13, m14, m15, m16, m17, m18⟩ := hk.out v15 HC15.out
      go_wp2_with fail
      refine (leq_any a (.mk 4 0 [a, b]) _ _ _ (HW1.out.below HC15.out) (HWm.out.below HC15.out) (Nat.le_trans HMA.out (by decide)) (Nat.le_trans HMM.out.1 (by decide)) true F3.out).mono ?_
      rintro e v16 ⟨rfl, hb⟩
      have HC16 := Lib.hid (HC15.out.trans (hb.mono HC15.out.size))
      clear hb
      clear m1 m2 m3 m4 m5 m6 m7 m8 m9 m10 m11 m12 m13 m14 m15 m16 m17 m18
      obtain ⟨m1, m2, m3, m4, m5, m6, m7, m8, m9, m10, m11, m12, m13, m14, m15, m16, m17, m18⟩ := hk.out v16 HC16.out
      go_wp2_with fail
      refine (leq_any b (.mk 4 0 [a, b]) _ _ _ (HW2.out.below HC16.out) (HWm.out.below HC16.out) (Nat.le_trans HMB.out (by decide)) (Nat.le_trans HMM.out.1 (by decide)) true F4.out).mono ?_
      rintro e v17 ⟨rfl, hb⟩
      have HC17 := Lib.hid (HC16.out.trans (hb.mono HC16.out.size))
      clear hb
      clear m1 m2 m3 m4 m5 m6 m7 m8 m9 m10 m11 m12 m13 m14 m15 m16 m17 m18
      obtain ⟨m1, m2, m3, m4, m5, m6, m7, m8, m9, m10, m11, m12, m13, m14, m15, m16, m17, m18⟩ := hk.out v17 HC17.out
      go_wp2_with fail
      refine (leq_any (.mk 5 0 [a, b]) (.mk 4 0 [a, b]) _ _ _ (HWi.out.below HC17.out) (HWm.out.below HC17.out) (Nat.le_trans HMM.out.2.1 (by decide)) (Nat.le_trans HMM.out.1 (by decide)) true F5.out).mono ?_
      rintro e v18 ⟨rfl, hb⟩
      have HC18 := Lib.hid (HC17.out.trans (hb.mono HC17.out.size))
      clear hb
      clear m1 m2 m3 m4 m5 m6 m7 m8 m9 m10 m11 m12 m13 m14 m15 m16 m17 m18
      obtain ⟨m1, m2, m3, m4, m5, m6, m7, m8, m9, m10, m11, m12, m13, m14, m15, m16, m17, m18⟩ := hk.out v18 HC18.out
      go_wp2_with fail
      refine (leq_any b (.mk 5 0 [a, b]) _ _ _ (HW2.out.below HC18.out) (HWi.out.below HC18.out) (Nat.le_trans HMB.out (by decide)) (Nat.le_trans HMM.out.2.1 (by decide)) true F6.out).mono ?_
      rintro e v19 ⟨rfl, hb⟩
      have HC19 := Lib.hid (HC18.out.trans (hb.mono HC18.out.size))
      clear hb
      clear m1 m2 m3 m4 m5 m6 m7 m8 m9 m10 m11 m12 m13 m14 m15 m16 m17 m18
      obtain ⟨m1, m2, m3, m4, m5, m6, m7, m8, m9, m10, m11, m12, m13, m14, m15, m16, m17, m18⟩ := hk.out v19 HC19.out
      go_wp2_with fail
      cases lac
      · refine (leq_any a c _ _ _ (HW1.out.below HC19.out) (HW3.out.below HC19.out) (Nat.le_trans HMA.out (by decide)) (Nat.le_trans HMC.out (by decide)) false HLAC.out).mono ?_
        rintro e v20 ⟨rfl, hb⟩
        have HC20 := Lib.hid (HC19.out.trans (hb.mono HC19.out.size))
        clear hb
        clear m1 m2 m3 m4 m5 m6 m7 m8 m9 m10 m11 m12 m13 m14 m15 m16 m17 m18
        obtain ⟨m1, m2, m3, m4, m5, m6, m7, m8, m9, m10, m11, m12, m13, m14, m15, m16, m17, m18⟩ := hk.out v20 HC20.out
        go_wp2_with fail
        go_ret
        exact ⟨rfl, HB.out.trans (HC20.out.mono HB.out.size)⟩
      · refine (leq_any a c _ _ _ (HW1.out.below HC19.out) (HW3.out.below HC19.out) (Nat.le_trans HMA.out (by decide)) (Nat.le_trans HMC.out (by decide)) true HLAC.out).mono ?_
        rintro e v20 ⟨rfl, hb⟩
        have HC20 := Lib.hid (HC19.out.trans (hb.mono HC19.out.size))
        clear hb
        clear m1 m2 m3 m4 m5 m6 m7 m8 m9 m10 m11 m12 m13 m14 m15 m16 m17 m18
        obtain ⟨m1, m2, m3, m4, m5, m6, m7, m8, m9, m10, m11, m12, m13, m14, m15, m16, m17, m18⟩ := hk.out v20 HC20.out
        go_wp2_with fail
        cases lbc
        · refine (leq_any b c _ _ _ (HW2.out.below HC20.out) (HW3.out.below HC20.out) (Nat.le_trans HMB.out (by decide)) (Nat.le_trans HMC.out (by decide)) false HLBC.out).mono ?_
          rintro e v21 ⟨rfl, hb⟩
          have HC21 := Lib.hid (HC20.out.trans (hb.mono HC20.out.size))
          clear hb
          clear m1 m2 m3 m4 m5 m6 m7 m8 m9 m10 m11 m12 m13 m14 m15 m16 m17 m18
          obtain ⟨m1, m2, m3, m4, m5, m6, m7, m8, m9, m10, m11, m12, m13, m14, m15, m16, m17, m18⟩ := hk.out v21 HC21.out
          go_wp2_with fail
          go_ret
          exact ⟨rfl, HB.out.trans (HC21.out.mono HB.out.size)⟩
        · obtain rfl : lmc = true := F7.out _ _ _ HLAC.out HLBC.out HLMC.out (by trivial) (by trivial)
          refine (leq_any b c _ _ _ (HW2.out.below HC20.out) (HW3.out.below HC20.out) (Nat.le_trans HMB.out (by decide)) (Nat.le_trans HMC.out (by decide)) true HLBC.out).mono ?_
          rintro e v21 ⟨rfl, hb⟩
          have HC21 := Lib.hid (HC20.out.trans (hb.mono HC20.out.size))
          clear hb
          clear m1 m2 m3 m4 m5 m6 m7 m8 m9 m10 m11 m12 m13 m14 m15 m16 m17 m18
          obtain ⟨m1, m2, m3, m4, m5, m6, m7, m8, m9, m10, m11, m12, m13, m14, m15, m16, m17, m18⟩ := hk.out v21 HC21.out
          go_wp2_with fail
          refine (leq_any (.mk 4 0 [a, b]) c _ _ _ (HWm.out.below HC21.out) (HW3.out.below HC21.out) (Nat.le_trans HMM.out.1 (by decide)) (Nat.le_trans HMC.out (by decide)) true HLMC.out).mono ?_
          rintro e v22 ⟨rfl, hb⟩
          have HC22 := Lib.hid (HC21.out.trans (hb.mono HC21.out.size))
          clear hb
          clear m1 m2 m3 m4 m5 m6 m7 m8 m9 m10 m11 m12 m13 m14 m15 m16 m17 m18
          obtain ⟨m1, m2, m3, m4, m5, m6, m7, m8, m9, m10, m11, m12, m13, m14, m15, m16, m17, m18⟩ := hk.out v22 HC22.out
          go_wp2_with fail
          go_ret
          exact ⟨rfl, HB.out.trans (HC22.out.mono HB.out.size)⟩
    · have hmx : max (X : Int) (Y : Int) = (X : Int) := by omega
      rw [Nat.max_eq_left (by omega)] at Fm Fi
      refine (succ_is a _ _ (HW1.out.below HC9.out) (Nat.le_trans HMA.out (by decide))).mono ?_
      rintro e x10 ⟨ss, he, hs9, hb⟩
      obtain rfl : e = Ending.returned (.agg #[.int .i64 3, .int .i64 0, ss]) := he
      obtain ⟨sa, sl, sc, rfl⟩ := lvP_slice hs9
      have hb1 : Below v9.heap.size v9 x10 := hb
      have hb2 : Below v9.heap.size v9 (x10.alloc (.cells #[.int .i64 3, .int .i64 0, .slice sa sl sc] 24)) := hb1.trans ((below_lit x10 (.cells #[.int .i64 3, .int .i64 0, .slice sa sl sc] 24)).mono hb1.size)
      have HC10 := Lib.hid (HC9.out.trans (hb2.mono HC9.out.size))
      have HR9 := Lib.hid (heap_alloc_new x10 (.cells #[.int .i64 3, .int .i64 0, .slice sa sl sc] 24))
      have HZ9 := Lib.hid (show x10.heap.size < (x10.alloc (.cells #[.int .i64 3, .int .i64 0, .slice sa sl sc] 24)).heap.size by simp)
      have HWs : Hid (LvV (x10.alloc (.cells #[.int .i64 3, .int .i64 0, .slice sa sl sc] 24)) (.mk 3 0 [a]) (.agg #[.int .i64 3, .int .i64 0, .slice sa sl sc])) := ⟨_, rfl, lvS_below (below_lit x10 _) _ _ (lvS_of _ _ hs9)⟩
      clear hb hb1 hb2 hs9
      clear m1 m2 m3 m4 m5 m6 m7 m8 m9 m10 m11 m12 m13 m14 m15
      obtain ⟨m1, m2, m3, m4, m5, m6, m7, m8, m9, m10, m11, m12, m13, m14, m15⟩ := hk.out (x10.alloc (.cells #[.int .i64 3, .int .i64 0, .slice sa sl sc] 24)) HC10.out
      go_wp2_with fail
      generalize hvx : x10.alloc (.cells #[.int .i64 3, .int .i64 0, .slice sa sl sc] 24) = v10 at *
      clear hvx
      generalize x10.heap.size = Bs at *
      replace HB := Lib.hid (HB.out.trans (HC10.out.mono HB.out.size))
      replace HS := Lib.hid (HS.out.below HC10.out)
      replace HW1 := Lib.hid (HW1.out.below HC10.out)
      replace HW2 := Lib.hid (HW2.out.below HC10.out)
      replace HW3 := Lib.hid (HW3.out.below HC10.out)
      replace HWm := Lib.hid (HWm.out.below HC10.out)
      replace HWi := Lib.hid (HWi.out.below HC10.out)
      have hk2 : Hid (∀ W', Below v10.heap.size v10 W' → W'.cell? ⟨w.heap.size, 0, none⟩ = some (.int .i64 k1) ∧ W'.cell? ⟨w.heap.size, 1, none⟩ = some (.int .i64 n1) ∧ W'.cell? ⟨w.heap.size, 2, none⟩ = some (s1) ∧ W'.cell? ⟨w.heap.size + 1, 0, none⟩ = some (.int .i64 k2) ∧ W'.cell? ⟨w.heap.size + 1, 1, none⟩ = some (.int .i64 n2) ∧ W'.cell? ⟨w.heap.size + 1, 2, none⟩ = some (s2) ∧ W'.cell? ⟨w.heap.size + 1 + 1, 0, none⟩ = some (.int .i64 k3) ∧ W'.cell? ⟨w.heap.size + 1 + 1, 1, none⟩ = some (.int .i64 n3) ∧ W'.cell? ⟨w.heap.size + 1 + 1, 2, none⟩ = some (s3) ∧ W'.cell? ⟨Bm, 0, none⟩ = some (.int .i64 4) ∧ W'.cell? ⟨Bm, 1, none⟩ = some (.int .i64 0) ∧ W'.cell? ⟨Bm, 2, none⟩ = some (.slice ma ml mc) ∧ W'.cell? ⟨Bi, 0, none⟩ = some (.int .i64 5) ∧ W'.cell? ⟨Bi, 1, none⟩ = some (.int .i64 0) ∧ W'.cell? ⟨Bi, 2, none⟩ = some (.slice ia il ic) ∧ W'.cell? ⟨Bs, 0, none⟩ = some (.int .i64 3) ∧ W'.cell? ⟨Bs, 1, none⟩ = some (.int .i64 0) ∧ W'.cell? ⟨Bs, 2, none⟩ = some (.slice sa sl sc)) := fun W' h => by
        have h9 := hk.out W' (HC10.out.trans (h.mono HC10.out.size))
        have p9 := (h.block Bs HZ9.out).trans HR9.out
        exact ⟨h9.1, h9.2.1, h9.2.2.1, h9.2.2.2.1, h9.2.2.2.2.1, h9.2.2.2.2.2.1, h9.2.2.2.2.2.2.1, h9.2.2.2.2.2.2.2.1, h9.2.2.2.2.2.2.2.2.1, h9.2.2.2.2.2.2.2.2.2.1, h9.2.2.2.2.2.2.2.2.2.2.1, h9.2.2.2.2.2.2.2.2.2.2.2.1, h9.2.2.2.2.2.2.2.2.2.2.2.2.1, h9.2.2.2.2.2.2.2.2.2.2.2.2.2.1, h9.2.2.2.2.2.2.2.2.2.2.2.2.2.2, cell_of_row _ _ 0 _ 24 (0, 0) p9, cell_of_row _ _ 1 _ 24 (0, 0) p9, cell_of_row _ _ 2 _ 24 (0, 0) p9⟩
      clear m1 m2 m3 m4 m5 m6 m7 m8 m9 m10 m11 m12 m13 m14 m15
      clear hk HR9 HZ9 HC10
      have hk := hk2
      clear hk2
      have HC10 := Lib.hid (Below.refl v10.heap.size v10)
      obtain ⟨m1, m2, m3, m4, m5, m6, m7, m8, m9, m10, m11, m12, m13, m14, m15, m16, m17, m18⟩ := hk.out v10 HC10.out
      go_wp2_with fail
      refine (pvalue_any (.mk 4 0 [a, b]) _ _ zs _ (HWm.out.below HC10.out) (HS.out.below HC10.out) HL.out (Nat.le_trans HMM.out.1 (by decide)) X Fm.out).mono ?_
      rintro e v11 ⟨rfl, hb⟩
      have HC11 := Lib.hid (HC10.out.trans (hb.mono HC10.out.size))
      clear hb
      clear m1 m2 m3 m4 m5 m6 m7 m8 m9 m10 m11 m12 m13 m14 m15 m16 m17 m18
      obtain ⟨m1, m2, m3, m4, m5, m6, m7, m8, m9, m10, m11, m12, m13, m14, m15, m16, m17, m18⟩ := hk.out v11 HC11.out
      go_wp2_with fail
      refine (pvalue_any (.mk 5 0 [a, b]) _ _ zs _ (HWi.out.below HC11.out) (HS.out.below HC11.out) HL.out (Nat.le_trans HMM.out.2.1 (by decide)) X Fi.out).mono ?_
      rintro e v12 ⟨rfl, hb⟩
      have HC12 := Lib.hid (HC11.out.trans (hb.mono HC11.out.size))
      clear hb
      clear m1 m2 m3 m4 m5 m6 m7 m8 m9 m10 m11 m12 m13 m14 m15 m16 m17 m18
      obtain ⟨m1, m2, m3, m4, m5, m6, m7, m8, m9, m10, m11, m12, m13, m14, m15, m16, m17, m18⟩ := hk.out v12 HC12.out
      go_wp2_with fail
      refine (pvalue_any (.mk 3 0 [a]) _ _ zs _ (HWs.out.below HC12.out) (HS.out.below HC12.out) HL.out (Nat.le_trans HMM.out.2.2 (by decide)) (X + 1) Fs.out).mono ?_
      rintro e v13 ⟨rfl, hb⟩
      have HC13 := Lib.hid (HC12.out.trans (hb.mono HC12.out.size))
      clear hb
      clear m1 m2 m3 m4 m5 m6 m7 m8 m9 m10 m11 m12 m13 m14 m15 m16 m17 m18
      obtain ⟨m1, m2, m3, m4, m5, m6, m7, m8, m9, m10, m11, m12, m13, m14, m15, m16, m17, m18⟩ := hk.out v13 HC13.out
      go_wp2_with fail
      refine (leq_any a (.mk 3 0 [a]) _ _ _ (HW1.out.below HC13.out) (HWs.out.below HC13.out) (Nat.le_trans HMA.out (by decide)) (Nat.le_trans HMM.out.2.2 (by decide)) true F1.out).mono ?_
      rintro e v14 ⟨rfl, hb⟩
      have HC14 := Lib.hid (HC13.out.trans (hb.mono HC13.out.size))
      clear hb
      clear m1 m2 m3 m4 m5 m6 m7 m8 m9 m10 m11 m12 m13 m14 m15 m16 m17 m18
      obtain ⟨m1, m2, m3, m4, m5, m6, m7, m8, m9, m10, m11, m12, m13, m14, m15, m16, m17, m18⟩ := hk.out v14 HC14.out
      go_wp2_with fail
      refine (leq_any (.mk 3 0 [a]) a _ _ _ (HWs.out.below HC14.out) (HW1.out.below HC14.out) (Nat.le_trans HMM.out.2.2 (by decide)) (Nat.le_trans HMA.out (by decide)) false F2.out).mono ?_
      rintro e v15 ⟨rfl, hb⟩
      have HC15 := Lib.hid (HC14.out.trans (hb.mono HC14.out.size))
      clear hb
      clear m1 m2 m3 m4 m5 m6 m7 m8 m9 m10 m11 m12 m13 m14 m15 m16 m17 m18
      obtain ⟨m1, m2, m3, m4, m5, m6, m7, m8, m9, m10, m11, m12, m13, m14, m15, m16, m17, m18⟩ := hk.out v15 HC15.out
      go_wp2_with fail
      refine (leq_any a (.mk 4 0 [a, b]) _ _ _ (HW1.out.below HC15.out) (HWm.out.below HC15.out) (Nat.le_trans HMA.out (by decide)) (Nat.le_trans HMM.out.1 (by decide)) true F3.out).mono ?_
      rintro e v16 ⟨rfl, hb⟩
      have HC16 := Lib.hid (HC15.out.trans (hb.mono HC15.out.size))
      clear hb
      clear m1 m2 m3 m4 m5 m6 m7 m8 m9 m10 m11 m12 m13 m14 m15 m16 m17 m18
      obtain ⟨m1, m2, m3, m4, m5, m6, m7, m8, m9, m10, m11, m12, m13, m14, m15, m16, m17, m18⟩ := hk.out v16 HC16.out
      go_wp2_with fail
      refine (leq_any b (.mk 4 0 [a, b]) _ _ _ (HW2.out.below HC16.out) (HWm.out.below HC16.out) (Nat.le_trans HMB.out (by decide)) (Nat.le_trans HMM.out.1 (by decide)) true F4.out).mono ?_
      rintro e v17 ⟨rfl, hb⟩
      have HC17 := Lib.hid (HC16.out.trans (hb.mono HC16.out.size))
      clear hb
      clear m1 m2 m3 m4 m5 m6 m7 m8 m9 m10 m11 m12 m13 m14 m15 m16 m17 m18
      obtain ⟨m1, m2, m3, m4, m5, m6, m7, m8, m9, m10, m11, m12, m13, m14, m15, m16, m17, m18⟩ := hk.out v17 HC17.out
      go_wp2_with fail
      refine (leq_any (.mk 5 0 [a, b]) (.mk 4 0 [a, b]) _ _ _ (HWi.out.below HC17.out) (HWm.out.below HC17.out) (Nat.le_trans HMM.out.2.1 (by decide)) (Nat.le_trans HMM.out.1 (by decide)) true F5.out).mono ?_
      rintro e v18 ⟨rfl, hb⟩
      have HC18 := Lib.hid (HC17.out.trans (hb.mono HC17.out.size))
      clear hb
      clear m1 m2 m3 m4 m5 m6 m7 m8 m9 m10 m11 m12 m13 m14 m15 m16 m17 m18
      obtain ⟨m1, m2, m3, m4, m5, m6, m7, m8, m9, m10, m11, m12, m13, m14, m15, m16, m17, m18⟩ := hk.out v18 HC18.out
      go_wp2_with fail
      refine (leq_any b (.mk 5 0 [a, b]) _ _ _ (HW2.out.below HC18.out) (HWi.out.below HC18.out) (Nat.le_trans HMB.out (by decide)) (Nat.le_trans HMM.out.2.1 (by decide)) true F6.out).mono ?_
      rintro e v19 ⟨rfl, hb⟩
      have HC19 := Lib.hid (HC18.out.trans (hb.mono HC18.out.size))
      clear hb
      clear m1 m2 m3 m4 m5 m6 m7 m8 m9 m10 m11 m12 m13 m14 m15 m16 m17 m18
      obtain ⟨m1, m2, m3, m4, m5, m6, m7, m8, m9, m10, m11, m12, m13, m14, m15, m16, m17, m18⟩ := hk.out v19 HC19.out
      go_wp2_with fail
      cases lac
      · refine (leq_any a c _ _ _ (HW1.out.below HC19.out) (HW3.out.below HC19.out) (Nat.le_trans HMA.out (by decide)) (Nat.le_trans HMC.out (by decide)) false HLAC.out).mono ?_
        rintro e v20 ⟨rfl, hb⟩
        have HC20 := Lib.hid (HC19.out.trans (hb.mono HC19.out.size))
        clear hb
        clear m1 m2 m3 m4 m5 m6 m7 m8 m9 m10 m11 m12 m13 m14 m15 m16 m17 m18
        obtain ⟨m1, m2, m3, m4, m5, m6, m7, m8, m9, m10, m11, m12, m13, m14, m15, m16, m17, m18⟩ := hk.out v20 HC20.out
        go_wp2_with fail
        go_ret
        exact ⟨rfl, HB.out.trans (HC20.out.mono HB.out.size)⟩
      · refine (leq_any a c _ _ _ (HW1.out.below HC19.out) (HW3.out.below HC19.out) (Nat.le_trans HMA.out (by decide)) (Nat.le_trans HMC.out (by decide)) true HLAC.out).mono ?_
        rintro e v20 ⟨rfl, hb⟩
        have HC20 := Lib.hid (HC19.out.trans (hb.mono HC19.out.size))
        clear hb
        clear m1 m2 m3 m4 m5 m6 m7 m8 m9 m10 m11 m12 m13 m14 m15 m16 m17 m18
        obtain ⟨m1, m2, m3, m4, m5, m6, m7, m8, m9, m10, m11, m12, m13, m14, m15, m16, m17, m18⟩ := hk.out v20 HC20.out
        go_wp2_with fail
        cases lbc
        · refine (leq_any b c _ _ _ (HW2.out.below HC20.out) (HW3.out.below HC20.out) (Nat.le_trans HMB.out (by decide)) (Nat.le_trans HMC.out (by decide)) false HLBC.out).mono ?_
          rintro e v21 ⟨rfl, hb⟩
          have HC21 := Lib.hid (HC20.out.trans (hb.mono HC20.out.size))
          clear hb
          clear m1 m2 m3 m4 m5 m6 m7 m8 m9 m10 m11 m12 m13 m14 m15 m16 m17 m18
          obtain ⟨m1, m2, m3, m4, m5, m6, m7, m8, m9, m10, m11, m12, m13, m14, m15, m16, m17, m18⟩ := hk.out v21 HC21.out
          go_wp2_with fail
          go_ret
          exact ⟨rfl, HB.out.trans (HC21.out.mono HB.out.size)⟩
        · obtain rfl : lmc = true := F7.out _ _ _ HLAC.out HLBC.out HLMC.out (by trivial) (by trivial)
          refine (leq_any b c _ _ _ (HW2.out.below HC20.out) (HW3.out.below HC20.out) (Nat.le_trans HMB.out (by decide)) (Nat.le_trans HMC.out (by decide)) true HLBC.out).mono ?_
          rintro e v21 ⟨rfl, hb⟩
          have HC21 := Lib.hid (HC20.out.trans (hb.mono HC20.out.size))
          clear hb
          clear m1 m2 m3 m4 m5 m6 m7 m8 m9 m10 m11 m12 m13 m14 m15 m16 m17 m18
          obtain ⟨m1, m2, m3, m4, m5, m6, m7, m8, m9, m10, m11, m12, m13, m14, m15, m16, m17, m18⟩ := hk.out v21 HC21.out
          go_wp2_with fail
          refine (leq_any (.mk 4 0 [a, b]) c _ _ _ (HWm.out.below HC21.out) (HW3.out.below HC21.out) (Nat.le_trans HMM.out.1 (by decide)) (Nat.le_trans HMC.out (by decide)) true HLMC.out).mono ?_
          rintro e v22 ⟨rfl, hb⟩
          have HC22 := Lib.hid (HC21.out.trans (hb.mono HC21.out.size))
          clear hb
          clear m1 m2 m3 m4 m5 m6 m7 m8 m9 m10 m11 m12 m13 m14 m15 m16 m17 m18
          obtain ⟨m1, m2, m3, m4, m5, m6, m7, m8, m9, m10, m11, m12, m13, m14, m15, m16, m17, m18⟩ := hk.out v22 HC22.out
          go_wp2_with fail
          go_ret
          exact ⟨rfl, HB.out.trans (HC22.out.mono HB.out.size)⟩
end Go.Proofs.Yteghldgopidhhaa
