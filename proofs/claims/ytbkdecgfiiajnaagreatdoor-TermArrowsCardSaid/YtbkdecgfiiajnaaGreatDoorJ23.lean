import Derived.Test.YtbkdecgfiiajnaaGreatDoorJ16
/-
  The contract of the program's function Let.
  Conditions: the terms lie in memory as told by 'TmV'; they have at most 100000 nodes each, and their levels at most 1000 each.
-/
namespace Go.Proofs.YtbkdecgfiiajnaaGreatDoor
open Go.RowKit
open Lvl
namespace Trm

set_option maxRecDepth 100000 in
set_option maxHeartbeats 1000000 in
theorem let_is (t1 : Tm) (v1 : Value) (t2 : Tm) (v2 : Value) (t3 : Tm) (v3 : Value) (w : World) (hv1 : TmV w t1 v1) (hm1 : tnodes t1 ≤ 100000) (hl1 : lvOk t1) (hv2 : TmV w t2 v2) (hm2 : tnodes t2 ≤ 100000) (hl2 : lvOk t2) (hv3 : TmV w t3 v3) (hm3 : tnodes t3 ≤ 100000) (hl3 : lvOk t3) :
    Calls Tryz.prog 30 #[v1, v2, v3] w (TmRet w (.mk 7 0 ⟨#[]⟩ [] [t1, t2, t3])) := by
  obtain ⟨i0, hi0, hz0, hz1, hz2⟩ := info_parts infoTm
  obtain ⟨l, s, rfl, ht1⟩ := hv1
  obtain ⟨⟨la1, ll1, lc1, rfl⟩, sa1, sl1, sc1, rfl⟩ := tmP_slices ht1
  obtain ⟨k1, hk1⟩ : ∃ k, tkOf t1 = k := ⟨_, rfl⟩
  obtain ⟨n1, hn1⟩ : ∃ n, tnOf t1 = n := ⟨_, rfl⟩
  obtain ⟨m1, hmm1⟩ : ∃ m, tmOf t1 = m := ⟨_, rfl⟩
  have HN1 := Lib.hid (And.intro hk1 (And.intro hn1 hmm1))
  have HT01 := Lib.hid ht1
  have HM1 := Lib.hid hm1
  have HL1 := Lib.hid hl1
  obtain ⟨l, s, rfl, ht2⟩ := hv2
  obtain ⟨⟨la2, ll2, lc2, rfl⟩, sa2, sl2, sc2, rfl⟩ := tmP_slices ht2
  obtain ⟨k2, hk2⟩ : ∃ k, tkOf t2 = k := ⟨_, rfl⟩
  obtain ⟨n2, hn2⟩ : ∃ n, tnOf t2 = n := ⟨_, rfl⟩
  obtain ⟨m2, hmm2⟩ : ∃ m, tmOf t2 = m := ⟨_, rfl⟩
  have HN2 := Lib.hid (And.intro hk2 (And.intro hn2 hmm2))
  have HT02 := Lib.hid ht2
  have HM2 := Lib.hid hm2
  have HL2 := Lib.hid hl2
  obtain ⟨l, s, rfl, ht3⟩ := hv3
  obtain ⟨⟨la3, ll3, lc3, rfl⟩, sa3, sl3, sc3, rfl⟩ := tmP_slices ht3
  obtain ⟨k3, hk3⟩ : ∃ k, tkOf t3 = k := ⟨_, rfl⟩
  obtain ⟨n3, hn3⟩ : ∃ n, tnOf t3 = n := ⟨_, rfl⟩
  obtain ⟨m3, hmm3⟩ : ∃ m, tmOf t3 = m := ⟨_, rfl⟩
  have HN3 := Lib.hid (And.intro hk3 (And.intro hn3 hmm3))
  have HT03 := Lib.hid ht3
  have HM3 := Lib.hid hm3
  have HL3 := Lib.hid hl3
  dsimp only [tv]
  rw [hk1, hn1, hmm1]
  clear hk1 hn1 hmm1 ht1 hm1 hl1
  rw [hk2, hn2, hmm2]
  clear hk2 hn2 hmm2 ht2 hm2 hl2
  rw [hk3, hn3, hmm3]
  clear hk3 hn3 hmm3 ht3 hm3 hl3
  go_enter Tryz.func30, Tryz.ntmps30
  go_wp2_with fail
  have z1 : (w.alloc (.cells #[.int .i64 k1, .int .i64 n1, .string m1, .slice la1 ll1 lc1, .slice sa1 sl1 sc1] 25)).heap.size = w.heap.size + 1 := by simp
  have z2 : ((w.alloc (.cells #[.int .i64 k1, .int .i64 n1, .string m1, .slice la1 ll1 lc1, .slice sa1 sl1 sc1] 25)).alloc (.cells #[.int .i64 k2, .int .i64 n2, .string m2, .slice la2 ll2 lc2, .slice sa2 sl2 sc2] 25)).heap.size = w.heap.size + 1 + 1 := by simp
  have z3 : (((w.alloc (.cells #[.int .i64 k1, .int .i64 n1, .string m1, .slice la1 ll1 lc1, .slice sa1 sl1 sc1] 25)).alloc (.cells #[.int .i64 k2, .int .i64 n2, .string m2, .slice la2 ll2 lc2, .slice sa2 sl2 sc2] 25)).alloc (.cells #[.int .i64 k3, .int .i64 n3, .string m3, .slice la3 ll3 lc3, .slice sa3 sl3 sc3] 25)).heap.size = w.heap.size + 1 + 1 + 1 := by simp
  have z4 : ((((w.alloc (.cells #[.int .i64 k1, .int .i64 n1, .string m1, .slice la1 ll1 lc1, .slice sa1 sl1 sc1] 25)).alloc (.cells #[.int .i64 k2, .int .i64 n2, .string m2, .slice la2 ll2 lc2, .slice sa2 sl2 sc2] 25)).alloc (.cells #[.int .i64 k3, .int .i64 n3, .string m3, .slice la3 ll3 lc3, .slice sa3 sl3 sc3] 25)).alloc (.cells #[.int .i64 0, .int .i64 0, .string ⟨#[]⟩, .slice none 0 0, .slice none 0 0] 25)).heap.size = w.heap.size + 1 + 1 + 1 + 1 := by simp
  have r0 : (w.alloc (.cells #[.int .i64 k1, .int .i64 n1, .string m1, .slice la1 ll1 lc1, .slice sa1 sl1 sc1] 25)).heap[w.heap.size]? = some (Obj.cells #[.int .i64 k1, .int .i64 n1, .string m1, .slice la1 ll1 lc1, .slice sa1 sl1 sc1] 25 (0, 0)) := by
    have := heap_alloc_new w (.cells #[.int .i64 k1, .int .i64 n1, .string m1, .slice la1 ll1 lc1, .slice sa1 sl1 sc1] 25)
    exact this
  have r1 : ((w.alloc (.cells #[.int .i64 k1, .int .i64 n1, .string m1, .slice la1 ll1 lc1, .slice sa1 sl1 sc1] 25)).alloc (.cells #[.int .i64 k2, .int .i64 n2, .string m2, .slice la2 ll2 lc2, .slice sa2 sl2 sc2] 25)).heap[w.heap.size + 1]? = some (Obj.cells #[.int .i64 k2, .int .i64 n2, .string m2, .slice la2 ll2 lc2, .slice sa2 sl2 sc2] 25 (0, 0)) := by
    have := heap_alloc_new (w.alloc (.cells #[.int .i64 k1, .int .i64 n1, .string m1, .slice la1 ll1 lc1, .slice sa1 sl1 sc1] 25)) (.cells #[.int .i64 k2, .int .i64 n2, .string m2, .slice la2 ll2 lc2, .slice sa2 sl2 sc2] 25)
    rwa [z1] at this
  have r2 : (((w.alloc (.cells #[.int .i64 k1, .int .i64 n1, .string m1, .slice la1 ll1 lc1, .slice sa1 sl1 sc1] 25)).alloc (.cells #[.int .i64 k2, .int .i64 n2, .string m2, .slice la2 ll2 lc2, .slice sa2 sl2 sc2] 25)).alloc (.cells #[.int .i64 k3, .int .i64 n3, .string m3, .slice la3 ll3 lc3, .slice sa3 sl3 sc3] 25)).heap[w.heap.size + 1 + 1]? = some (Obj.cells #[.int .i64 k3, .int .i64 n3, .string m3, .slice la3 ll3 lc3, .slice sa3 sl3 sc3] 25 (0, 0)) := by
    have := heap_alloc_new ((w.alloc (.cells #[.int .i64 k1, .int .i64 n1, .string m1, .slice la1 ll1 lc1, .slice sa1 sl1 sc1] 25)).alloc (.cells #[.int .i64 k2, .int .i64 n2, .string m2, .slice la2 ll2 lc2, .slice sa2 sl2 sc2] 25)) (.cells #[.int .i64 k3, .int .i64 n3, .string m3, .slice la3 ll3 lc3, .slice sa3 sl3 sc3] 25)
    rwa [z2] at this
  have r3 : ((((w.alloc (.cells #[.int .i64 k1, .int .i64 n1, .string m1, .slice la1 ll1 lc1, .slice sa1 sl1 sc1] 25)).alloc (.cells #[.int .i64 k2, .int .i64 n2, .string m2, .slice la2 ll2 lc2, .slice sa2 sl2 sc2] 25)).alloc (.cells #[.int .i64 k3, .int .i64 n3, .string m3, .slice la3 ll3 lc3, .slice sa3 sl3 sc3] 25)).alloc (.cells #[.int .i64 0, .int .i64 0, .string ⟨#[]⟩, .slice none 0 0, .slice none 0 0] 25)).heap[w.heap.size + 1 + 1 + 1]? = some (Obj.cells #[.int .i64 0, .int .i64 0, .string ⟨#[]⟩, .slice none 0 0, .slice none 0 0] 25 (0, 0)) := by
    have := heap_alloc_new (((w.alloc (.cells #[.int .i64 k1, .int .i64 n1, .string m1, .slice la1 ll1 lc1, .slice sa1 sl1 sc1] 25)).alloc (.cells #[.int .i64 k2, .int .i64 n2, .string m2, .slice la2 ll2 lc2, .slice sa2 sl2 sc2] 25)).alloc (.cells #[.int .i64 k3, .int .i64 n3, .string m3, .slice la3 ll3 lc3, .slice sa3 sl3 sc3] 25)) (.cells #[.int .i64 0, .int .i64 0, .string ⟨#[]⟩, .slice none 0 0, .slice none 0 0] 25)
    rwa [z3] at this
  have HB := Lib.hid ((((below_lit w (.cells #[.int .i64 k1, .int .i64 n1, .string m1, .slice la1 ll1 lc1, .slice sa1 sl1 sc1] 25)).trans ((below_lit (w.alloc (.cells #[.int .i64 k1, .int .i64 n1, .string m1, .slice la1 ll1 lc1, .slice sa1 sl1 sc1] 25)) (.cells #[.int .i64 k2, .int .i64 n2, .string m2, .slice la2 ll2 lc2, .slice sa2 sl2 sc2] 25)).mono (below_lit w (.cells #[.int .i64 k1, .int .i64 n1, .string m1, .slice la1 ll1 lc1, .slice sa1 sl1 sc1] 25)).size)).trans ((below_lit ((w.alloc (.cells #[.int .i64 k1, .int .i64 n1, .string m1, .slice la1 ll1 lc1, .slice sa1 sl1 sc1] 25)).alloc (.cells #[.int .i64 k2, .int .i64 n2, .string m2, .slice la2 ll2 lc2, .slice sa2 sl2 sc2] 25)) (.cells #[.int .i64 k3, .int .i64 n3, .string m3, .slice la3 ll3 lc3, .slice sa3 sl3 sc3] 25)).mono ((below_lit w (.cells #[.int .i64 k1, .int .i64 n1, .string m1, .slice la1 ll1 lc1, .slice sa1 sl1 sc1] 25)).trans ((below_lit (w.alloc (.cells #[.int .i64 k1, .int .i64 n1, .string m1, .slice la1 ll1 lc1, .slice sa1 sl1 sc1] 25)) (.cells #[.int .i64 k2, .int .i64 n2, .string m2, .slice la2 ll2 lc2, .slice sa2 sl2 sc2] 25)).mono (below_lit w (.cells #[.int .i64 k1, .int .i64 n1, .string m1, .slice la1 ll1 lc1, .slice sa1 sl1 sc1] 25)).size)).size)).trans ((below_lit (((w.alloc (.cells #[.int .i64 k1, .int .i64 n1, .string m1, .slice la1 ll1 lc1, .slice sa1 sl1 sc1] 25)).alloc (.cells #[.int .i64 k2, .int .i64 n2, .string m2, .slice la2 ll2 lc2, .slice sa2 sl2 sc2] 25)).alloc (.cells #[.int .i64 k3, .int .i64 n3, .string m3, .slice la3 ll3 lc3, .slice sa3 sl3 sc3] 25)) (.cells #[.int .i64 0, .int .i64 0, .string ⟨#[]⟩, .slice none 0 0, .slice none 0 0] 25)).mono (((below_lit w (.cells #[.int .i64 k1, .int .i64 n1, .string m1, .slice la1 ll1 lc1, .slice sa1 sl1 sc1] 25)).trans ((below_lit (w.alloc (.cells #[.int .i64 k1, .int .i64 n1, .string m1, .slice la1 ll1 lc1, .slice sa1 sl1 sc1] 25)) (.cells #[.int .i64 k2, .int .i64 n2, .string m2, .slice la2 ll2 lc2, .slice sa2 sl2 sc2] 25)).mono (below_lit w (.cells #[.int .i64 k1, .int .i64 n1, .string m1, .slice la1 ll1 lc1, .slice sa1 sl1 sc1] 25)).size)).trans ((below_lit ((w.alloc (.cells #[.int .i64 k1, .int .i64 n1, .string m1, .slice la1 ll1 lc1, .slice sa1 sl1 sc1] 25)).alloc (.cells #[.int .i64 k2, .int .i64 n2, .string m2, .slice la2 ll2 lc2, .slice sa2 sl2 sc2] 25)) (.cells #[.int .i64 k3, .int .i64 n3, .string m3, .slice la3 ll3 lc3, .slice sa3 sl3 sc3] 25)).mono ((below_lit w (.cells #[.int .i64 k1, .int .i64 n1, .string m1, .slice la1 ll1 lc1, .slice sa1 sl1 sc1] 25)).trans ((below_lit (w.alloc (.cells #[.int .i64 k1, .int .i64 n1, .string m1, .slice la1 ll1 lc1, .slice sa1 sl1 sc1] 25)) (.cells #[.int .i64 k2, .int .i64 n2, .string m2, .slice la2 ll2 lc2, .slice sa2 sl2 sc2] 25)).mono (below_lit w (.cells #[.int .i64 k1, .int .i64 n1, .string m1, .slice la1 ll1 lc1, .slice sa1 sl1 sc1] 25)).size)).size)).size))
  have HR0 := Lib.hid ((heap_alloc_old (((w.alloc (.cells #[.int .i64 k1, .int .i64 n1, .string m1, .slice la1 ll1 lc1, .slice sa1 sl1 sc1] 25)).alloc (.cells #[.int .i64 k2, .int .i64 n2, .string m2, .slice la2 ll2 lc2, .slice sa2 sl2 sc2] 25)).alloc (.cells #[.int .i64 k3, .int .i64 n3, .string m3, .slice la3 ll3 lc3, .slice sa3 sl3 sc3] 25)) (.cells #[.int .i64 0, .int .i64 0, .string ⟨#[]⟩, .slice none 0 0, .slice none 0 0] 25) (by rw [z3]; omega)).trans ((heap_alloc_old ((w.alloc (.cells #[.int .i64 k1, .int .i64 n1, .string m1, .slice la1 ll1 lc1, .slice sa1 sl1 sc1] 25)).alloc (.cells #[.int .i64 k2, .int .i64 n2, .string m2, .slice la2 ll2 lc2, .slice sa2 sl2 sc2] 25)) (.cells #[.int .i64 k3, .int .i64 n3, .string m3, .slice la3 ll3 lc3, .slice sa3 sl3 sc3] 25) (by rw [z2]; omega)).trans ((heap_alloc_old (w.alloc (.cells #[.int .i64 k1, .int .i64 n1, .string m1, .slice la1 ll1 lc1, .slice sa1 sl1 sc1] 25)) (.cells #[.int .i64 k2, .int .i64 n2, .string m2, .slice la2 ll2 lc2, .slice sa2 sl2 sc2] 25) (by rw [z1]; omega)).trans (r0))))
  have HR1 := Lib.hid ((heap_alloc_old (((w.alloc (.cells #[.int .i64 k1, .int .i64 n1, .string m1, .slice la1 ll1 lc1, .slice sa1 sl1 sc1] 25)).alloc (.cells #[.int .i64 k2, .int .i64 n2, .string m2, .slice la2 ll2 lc2, .slice sa2 sl2 sc2] 25)).alloc (.cells #[.int .i64 k3, .int .i64 n3, .string m3, .slice la3 ll3 lc3, .slice sa3 sl3 sc3] 25)) (.cells #[.int .i64 0, .int .i64 0, .string ⟨#[]⟩, .slice none 0 0, .slice none 0 0] 25) (by rw [z3]; omega)).trans ((heap_alloc_old ((w.alloc (.cells #[.int .i64 k1, .int .i64 n1, .string m1, .slice la1 ll1 lc1, .slice sa1 sl1 sc1] 25)).alloc (.cells #[.int .i64 k2, .int .i64 n2, .string m2, .slice la2 ll2 lc2, .slice sa2 sl2 sc2] 25)) (.cells #[.int .i64 k3, .int .i64 n3, .string m3, .slice la3 ll3 lc3, .slice sa3 sl3 sc3] 25) (by rw [z2]; omega)).trans (r1)))
  have HR2 := Lib.hid ((heap_alloc_old (((w.alloc (.cells #[.int .i64 k1, .int .i64 n1, .string m1, .slice la1 ll1 lc1, .slice sa1 sl1 sc1] 25)).alloc (.cells #[.int .i64 k2, .int .i64 n2, .string m2, .slice la2 ll2 lc2, .slice sa2 sl2 sc2] 25)).alloc (.cells #[.int .i64 k3, .int .i64 n3, .string m3, .slice la3 ll3 lc3, .slice sa3 sl3 sc3] 25)) (.cells #[.int .i64 0, .int .i64 0, .string ⟨#[]⟩, .slice none 0 0, .slice none 0 0] 25) (by rw [z3]; omega)).trans (r2))
  have HR3 := Lib.hid (r3)
  clear r0 r1 r2 r3
  generalize ((((w.alloc (.cells #[.int .i64 k1, .int .i64 n1, .string m1, .slice la1 ll1 lc1, .slice sa1 sl1 sc1] 25)).alloc (.cells #[.int .i64 k2, .int .i64 n2, .string m2, .slice la2 ll2 lc2, .slice sa2 sl2 sc2] 25)).alloc (.cells #[.int .i64 k3, .int .i64 n3, .string m3, .slice la3 ll3 lc3, .slice sa3 sl3 sc3] 25)).alloc (.cells #[.int .i64 0, .int .i64 0, .string ⟨#[]⟩, .slice none 0 0, .slice none 0 0] 25)) = W4 at *
  have HZ := Lib.hid z4
  clear z1 z2 z3 z4
  have hsz4 := HZ.out
  have HO1 : Hid (∀ w', Below W4.heap.size W4 w' → Calls Tryz.prog 41 #[.agg #[.int .i64 k1, .int .i64 n1, .string m1, .slice la1 ll1 lc1, .slice sa1 sl1 sc1]] w' (TmRet w' t1)) := fun w' h => by
    have := own_is t1 _ w' ⟨_, _, rfl, tmP_below (HB.out.trans (h.mono HB.out.size)) HT01.out⟩ HM1.out HL1.out
    dsimp only [tv] at this
    rw [HN1.out.1, HN1.out.2.1, HN1.out.2.2] at this
    exact this
  have HO2 : Hid (∀ w', Below W4.heap.size W4 w' → Calls Tryz.prog 41 #[.agg #[.int .i64 k2, .int .i64 n2, .string m2, .slice la2 ll2 lc2, .slice sa2 sl2 sc2]] w' (TmRet w' t2)) := fun w' h => by
    have := own_is t2 _ w' ⟨_, _, rfl, tmP_below (HB.out.trans (h.mono HB.out.size)) HT02.out⟩ HM2.out HL2.out
    dsimp only [tv] at this
    rw [HN2.out.1, HN2.out.2.1, HN2.out.2.2] at this
    exact this
  have HO3 : Hid (∀ w', Below W4.heap.size W4 w' → Calls Tryz.prog 41 #[.agg #[.int .i64 k3, .int .i64 n3, .string m3, .slice la3 ll3 lc3, .slice sa3 sl3 sc3]] w' (TmRet w' t3)) := fun w' h => by
    have := own_is t3 _ w' ⟨_, _, rfl, tmP_below (HB.out.trans (h.mono HB.out.size)) HT03.out⟩ HM3.out HL3.out
    dsimp only [tv] at this
    rw [HN3.out.1, HN3.out.2.1, HN3.out.2.2] at this
    exact this
  have hk : Hid (∀ W', W4.grownBy W' (some (w.heap.size + 1 + 1 + 1)) → W'.cell? ⟨w.heap.size, 0, none⟩ = some (.int .i64 k1) ∧ W'.cell? ⟨w.heap.size, 1, none⟩ = some (.int .i64 n1) ∧ W'.cell? ⟨w.heap.size, 2, none⟩ = some (.string m1) ∧ W'.cell? ⟨w.heap.size, 3, none⟩ = some (.slice la1 ll1 lc1) ∧ W'.cell? ⟨w.heap.size, 4, none⟩ = some (.slice sa1 sl1 sc1) ∧ W'.cell? ⟨w.heap.size + 1, 0, none⟩ = some (.int .i64 k2) ∧ W'.cell? ⟨w.heap.size + 1, 1, none⟩ = some (.int .i64 n2) ∧ W'.cell? ⟨w.heap.size + 1, 2, none⟩ = some (.string m2) ∧ W'.cell? ⟨w.heap.size + 1, 3, none⟩ = some (.slice la2 ll2 lc2) ∧ W'.cell? ⟨w.heap.size + 1, 4, none⟩ = some (.slice sa2 sl2 sc2) ∧ W'.cell? ⟨w.heap.size + 1 + 1, 0, none⟩ = some (.int .i64 k3) ∧ W'.cell? ⟨w.heap.size + 1 + 1, 1, none⟩ = some (.int .i64 n3) ∧ W'.cell? ⟨w.heap.size + 1 + 1, 2, none⟩ = some (.string m3) ∧ W'.cell? ⟨w.heap.size + 1 + 1, 3, none⟩ = some (.slice la3 ll3 lc3) ∧ W'.cell? ⟨w.heap.size + 1 + 1, 4, none⟩ = some (.slice sa3 sl3 sc3)) := fun W' h => by
    obtain ⟨a0, a1, a2, a3, a4⟩ := five_cells ((h.block w.heap.size (by omega) (by simp; omega)).trans HR0.out)
    obtain ⟨b0, b1, b2, b3, b4⟩ := five_cells ((h.block (w.heap.size + 1) (by omega) (by simp)).trans HR1.out)
    obtain ⟨c0, c1, c2, c3, c4⟩ := five_cells ((h.block (w.heap.size + 1 + 1) (by omega) (by simp)).trans HR2.out)
    exact ⟨a0, a1, a2, a3, a4, b0, b1, b2, b3, b4, c0, c1, c2, c3, c4⟩
  refine wp_region_held_drew (S := fun W' => W'.cell? ⟨w.heap.size, 0, none⟩ = some (.int .i64 k1) ∧ W'.cell? ⟨w.heap.size, 1, none⟩ = some (.int .i64 n1) ∧ W'.cell? ⟨w.heap.size, 2, none⟩ = some (.string m1) ∧ W'.cell? ⟨w.heap.size, 3, none⟩ = some (.slice la1 ll1 lc1) ∧ W'.cell? ⟨w.heap.size, 4, none⟩ = some (.slice sa1 sl1 sc1) ∧ W'.cell? ⟨w.heap.size + 1, 0, none⟩ = some (.int .i64 k2) ∧ W'.cell? ⟨w.heap.size + 1, 1, none⟩ = some (.int .i64 n2) ∧ W'.cell? ⟨w.heap.size + 1, 2, none⟩ = some (.string m2) ∧ W'.cell? ⟨w.heap.size + 1, 3, none⟩ = some (.slice la2 ll2 lc2) ∧ W'.cell? ⟨w.heap.size + 1, 4, none⟩ = some (.slice sa2 sl2 sc2) ∧ W'.cell? ⟨w.heap.size + 1 + 1, 0, none⟩ = some (.int .i64 k3) ∧ W'.cell? ⟨w.heap.size + 1 + 1, 1, none⟩ = some (.int .i64 n3) ∧ W'.cell? ⟨w.heap.size + 1 + 1, 2, none⟩ = some (.string m3) ∧ W'.cell? ⟨w.heap.size + 1 + 1, 3, none⟩ = some (.slice la3 ll3 lc3) ∧ W'.cell? ⟨w.heap.size + 1 + 1, 4, none⟩ = some (.slice sa3 sl3 sc3)) (by kernel_rfl) (hk.out _ (grown_of _ ((Below.refl _ _).drew))) (fun hHeld => ?_)
  refine take_in (i := 0) (v := ?_) rfl (by kernel_rfl) (by kernel_rfl) (by kernel_rfl) (fun _ _ _ h => h) (by rfl) ?_ hHeld ?_
  rotate_left
  · intro w hSw
    (try dsimp only at hSw)
    go_simp
    try with_reducible rfl
  try simp only [Act.put, List.setIfInBounds_toArray, List.set_cons_zero, List.set_cons_succ]
  refine take_in (i := 2) (v := ?_) rfl (by kernel_rfl) (by kernel_rfl) (by kernel_rfl) (fun _ _ _ h => h) (by rfl) ?_ hHeld ?_
  rotate_left
  · intro w hSw
    (try dsimp only at hSw)
    go_simp
    try with_reducible rfl
  try simp only [Act.put, List.setIfInBounds_toArray, List.set_cons_zero, List.set_cons_succ]
  refine take_in (i := 4) (v := ?_) rfl (by kernel_rfl) (by kernel_rfl) (by kernel_rfl) (fun _ _ _ h => h) (by rfl) ?_ hHeld ?_
  rotate_left
  · intro w hSw
    (try dsimp only at hSw)
    go_simp
    try with_reducible rfl
  try simp only [Act.put, List.setIfInBounds_toArray, List.set_cons_zero, List.set_cons_succ]
  refine call_in (i := 1) rfl (by kernel_rfl) (fun K hK => ?_)
  clear hHeld
  go_simp
  go_at_call 41
  refine (HO1.out _ ((Below.refl _ _).drew)).mono ?_
  rintro e x1 ⟨l9, s9, rfl, ht9, hb9⟩
  obtain ⟨⟨ua1, ul1, uc1, rfl⟩, va1, vl1, vc1, rfl⟩ := tmP_slices ht9
  dsimp only [tv]
  rw [HN1.out.1, HN1.out.2.1, HN1.out.2.2]
  have HC1 := Lib.hid ((Below.refl W4.heap.size W4).drew.trans (hb9.mono ((Below.refl W4.heap.size W4).drew).size))
  have HT1 := Lib.hid ht9
  clear ht9 hb9
  try (go_wp2_with fail)
  refine hK.out _ _ (hk.out _ (grown_of _ HC1.out)) (fun hHeld => ?_)
  clear hK K
  try simp only [Act.put, List.setIfInBounds_toArray, List.set_cons_zero, List.set_cons_succ]
  refine call_in (i := 3) rfl (by kernel_rfl) (fun K hK => ?_)
  clear hHeld
  go_simp
  go_at_call 41
  refine (HO2.out _ HC1.out).mono ?_
  rintro e x2 ⟨l9, s9, rfl, ht9, hb9⟩
  obtain ⟨⟨ua2, ul2, uc2, rfl⟩, va2, vl2, vc2, rfl⟩ := tmP_slices ht9
  dsimp only [tv]
  rw [HN2.out.1, HN2.out.2.1, HN2.out.2.2]
  have HD2 := Lib.hid hb9
  have HC2 := Lib.hid (HC1.out.trans (hb9.mono (HC1.out).size))
  have HT2 := Lib.hid ht9
  clear ht9 hb9
  try (go_wp2_with fail)
  refine hK.out _ _ (hk.out _ (grown_of _ HC2.out)) (fun hHeld => ?_)
  clear hK K
  try simp only [Act.put, List.setIfInBounds_toArray, List.set_cons_zero, List.set_cons_succ]
  refine call_in (i := 5) rfl (by kernel_rfl) (fun K hK => ?_)
  clear hHeld
  go_simp
  go_at_call 41
  refine (HO3.out _ HC2.out).mono ?_
  rintro e x3 ⟨l9, s9, rfl, ht9, hb9⟩
  obtain ⟨⟨ua3, ul3, uc3, rfl⟩, va3, vl3, vc3, rfl⟩ := tmP_slices ht9
  dsimp only [tv]
  rw [HN3.out.1, HN3.out.2.1, HN3.out.2.2]
  have HD3 := Lib.hid hb9
  have HC3 := Lib.hid (HC2.out.trans (hb9.mono (HC2.out).size))
  have HT3 := Lib.hid ht9
  clear ht9 hb9
  try (go_wp2_with fail)
  refine hK.out _ _ (hk.out _ (grown_of _ HC3.out)) (fun hHeld => ?_)
  clear hK K
  try simp only [Act.put, List.setIfInBounds_toArray, List.set_cons_zero, List.set_cons_succ]
  refine call_in (i := 6) rfl (by kernel_rfl) (fun K hK => ?_)
  clear hHeld
  go_simp
  try (go_wp2_with fail)
  refine hK.out _ _ (hk.out _ (grown_of _ (HC3.out.trans ((below_lit x3 (.cells #[.int .i64 k1, .int .i64 n1, .string m1, .slice ua1 ul1 uc1, .slice va1 vl1 vc1, .int .i64 k2, .int .i64 n2, .string m2, .slice ua2 ul2 uc2, .slice va2 vl2 vc2, .int .i64 k3, .int .i64 n3, .string m3, .slice ua3 ul3 uc3, .slice va3 vl3 vc3] 25)).mono HC3.out.size)))) (fun hHeld => ?_)
  clear hK K
  try simp only [Act.put, List.setIfInBounds_toArray, List.set_cons_zero, List.set_cons_succ]
  refine call_in (i := 7) rfl (by kernel_rfl) (fun K hK => ?_)
  clear hHeld
  go_simp
  have hb8 := below_lit x3 (.cells #[.int .i64 k1, .int .i64 n1, .string m1, .slice ua1 ul1 uc1, .slice va1 vl1 vc1, .int .i64 k2, .int .i64 n2, .string m2, .slice ua2 ul2 uc2, .slice va2 vl2 vc2, .int .i64 k3, .int .i64 n3, .string m3, .slice ua3 ul3 uc3, .slice va3 vl3 vc3] 25)
  have hr8 := heap_alloc_new x3 (.cells #[.int .i64 k1, .int .i64 n1, .string m1, .slice ua1 ul1 uc1, .slice va1 vl1 vc1, .int .i64 k2, .int .i64 n2, .string m2, .slice ua2 ul2 uc2, .slice va2 vl2 vc2, .int .i64 k3, .int .i64 n3, .string m3, .slice ua3 ul3 uc3, .slice va3 vl3 vc3] 25)
  have hs8 : (x3.alloc (.cells #[.int .i64 k1, .int .i64 n1, .string m1, .slice ua1 ul1 uc1, .slice va1 vl1 vc1, .int .i64 k2, .int .i64 n2, .string m2, .slice ua2 ul2 uc2, .slice va2 vl2 vc2, .int .i64 k3, .int .i64 n3, .string m3, .slice ua3 ul3 uc3, .slice va3 vl3 vc3] 25)).heap.size = x3.heap.size + 1 := by simp
  go_at_call 42
  refine (tnode_is 7 _ 3 3 _).mono ?_
  rintro e w6 ⟨rfl, hb6⟩
  have HC6 := Lib.hid (HC3.out.trans ((hb8.trans (hb6.mono hb8.size)).mono HC3.out.size))
  have HR6 := Lib.hid ((hb6.block x3.heap.size (by omega)).trans hr8)
  have HB36 := Lib.hid (hb8.trans (hb6.mono hb8.size))
  clear hb8 hr8 hs8 hb6
  try (go_wp2_with fail)
  refine hK.out _ _ (hk.out _ (grown_of _ HC6.out)) (fun hHeld => ?_)
  clear hK K
  try simp only [Act.put, List.setIfInBounds_toArray, List.set_cons_zero, List.set_cons_succ]
  refine call_in (i := 8) rfl (by kernel_rfl) (fun K hK => ?_)
  clear hHeld
  have hrz := (HC6.out.block (w.heap.size + 1 + 1 + 1) (by omega)).trans HR3.out
  obtain ⟨e0, e1, e2, e3, e4⟩ := five_cells hrz
  have g0 := frozen0 (p := 0) hrz
  have g1 := frozen0 (p := 1) hrz
  have g2 := frozen0 (p := 2) hrz
  have g3 := frozen0 (p := 3) hrz
  have g4 := frozen0 (p := 4) hrz
  go_simp
  have hx1 := HC1.out.size
  have hx2 := HC2.out.size
  have hx3 := HC3.out.size
  have hx6 := HC6.out.size
  refine hK.out _ _ (hk.out _ (set5_grown (q := 0) (grown_of (some (w.heap.size + 1 + 1 + 1)) HC6.out))) (fun _ => ?_)
  clear hK K
  refine wpAnyH_done (by kernel_rfl) ?_ _
  have hr6 := HR6.out
  rw [← HN1.out.1, ← HN1.out.2.1, ← HN1.out.2.2, ← HN2.out.1, ← HN2.out.2.1, ← HN2.out.2.2, ← HN3.out.1, ← HN3.out.2.1, ← HN3.out.2.2] at hr6
  have HB23 : Below x2.heap.size x2 w6 := HD3.out.trans (HB36.out.mono HD3.out.size)
  have hb13 : Below x1.heap.size x1 w6 := HD2.out.trans (HB23.mono HD2.out.size)
  have hq1 : TmP w6 (fun b => w.heap.size + 1 + 1 + 1 + 1 ≤ b) t1 (.slice ua1 ul1 uc1) (.slice va1 vl1 vc1) := tmP_below hb13 (tmP_weak (fun b hb => by have hb : W4.heap.size ≤ b := hb; omega) HT1.out)
  have hq2 : TmP w6 (fun b => w.heap.size + 1 + 1 + 1 + 1 ≤ b) t2 (.slice ua2 ul2 uc2) (.slice va2 vl2 vc2) := tmP_below HB23 (tmP_weak (fun b (hb : x1.heap.size ≤ b) => by omega) HT2.out)
  have hq3 : TmP w6 (fun b => w.heap.size + 1 + 1 + 1 + 1 ≤ b) t3 (.slice ua3 ul3 uc3) (.slice va3 vl3 vc3) := tmP_below HB36.out (tmP_weak (fun b (hb : x2.heap.size ≤ b) => by omega) HT3.out)
  have htt := tmP_three hr6 (by omega) hq1 hq2 hq3 7 0 ⟨#[]⟩
  have HTT := Lib.hid (tmP_move (w := w6) (w' := (((((w6.setCell ⟨w.heap.size + 1 + 1 + 1, 0, none⟩ (.int .i64 7)).setCell ⟨w.heap.size + 1 + 1 + 1, 1, none⟩ (.int .i64 0)).setCell ⟨w.heap.size + 1 + 1 + 1, 2, none⟩ (.string ⟨#[]⟩)).setCell ⟨w.heap.size + 1 + 1 + 1, 3, none⟩ (.slice none 0 0)).setCell ⟨w.heap.size + 1 + 1 + 1, 4, none⟩ (.slice (some ⟨x3.heap.size, 0, none⟩) 3 3))) (Q := fun b => w.heap.size + 1 + 1 + 1 + 1 ≤ b) (fun b _ hp => ⟨hp, set5_far' w6 (w.heap.size + 1 + 1 + 1) 0 b _ _ _ _ _ (by omega)⟩) (Nat.le_of_eq (set5_sz w6 (w.heap.size + 1 + 1 + 1) 0 _ _ _ _ _).symm) _ _ _ htt)
  have HRZ := Lib.hid (set5_row (y0 := .int .i64 7) (y1 := .int .i64 0) (y2 := .string ⟨#[]⟩) (y3 := .slice none 0 0) (y4 := .slice (some ⟨x3.heap.size, 0, none⟩) 3 3) hrz)
  have HBZ := Lib.hid (set5_below (HB.out.trans (HC6.out.mono HB.out.size)) (w.heap.size + 1 + 1 + 1) 0 (.int .i64 7) (.int .i64 0) (.string ⟨#[]⟩) (.slice none 0 0) (.slice (some ⟨x3.heap.size, 0, none⟩) 3 3) (by omega))
  clear hr6 hq1 hq2 hq3 htt hrz e0 e1 e2 e3 e4 g0 g1 g2 g3 g4
  generalize (((((w6.setCell ⟨w.heap.size + 1 + 1 + 1, 0, none⟩ (.int .i64 7)).setCell ⟨w.heap.size + 1 + 1 + 1, 1, none⟩ (.int .i64 0)).setCell ⟨w.heap.size + 1 + 1 + 1, 2, none⟩ (.string ⟨#[]⟩)).setCell ⟨w.heap.size + 1 + 1 + 1, 3, none⟩ (.slice none 0 0)).setCell ⟨w.heap.size + 1 + 1 + 1, 4, none⟩ (.slice (some ⟨x3.heap.size, 0, none⟩) 3 3)) = w9 at *
  go_wp2_with fail
  refine bodyPost_ret (results_cell_row rfl _ _ (w.heap.size + 1 + 1 + 1) 25 _ (0, 0) _ rfl HRZ.out Tryz.underlying25 rfl (by rw [hi0, Option.map_some, hz1]; rfl)) rfl ?_
  exact ⟨_, _, rfl, tmP_weak (fun b (hb : w.heap.size + 1 + 1 + 1 + 1 ≤ b) => by omega) HTT.out, HBZ.out⟩
end Trm
end Go.Proofs.YtbkdecgfiiajnaaGreatDoor
/-
  The contract of the program's function App: a term applied to others, one behind the other.
  Conditions: the terms lie in memory as told by 'TmV' and 'TsP'; they have at most 100000 nodes each, and their levels at most 1000 each.
-/
namespace Go.Proofs.YtbkdecgfiiajnaaGreatDoor
open Go.RowKit
open Lvl
namespace Trm

set_option maxRecDepth 100000 in
set_option maxHeartbeats 1000000 in
theorem app_is (t : Tm) (v : Value) (us : List Tm) (A : Option Addr) (len cap : Nat) (w : World) (hv : TmV w t v) (hm : tnodes t ≤ 100000) (hl : lvOk t) (hlen : us.length = len) (hlc : len ≤ cap) (hl47 : len ≤ 140737488355328) (hus : TsP w (fun _ => True) A 0 us) (hmu : ∀ a, a ∈ us → tnodes a ≤ 100000 ∧ lvOk a) :
    Calls Tryz.prog 15 #[v, .slice A len cap] w (TmRet w (apps t us)) := by
  obtain ⟨i0, hi0, hz0, hz1, hz2⟩ := info_parts infoTm
  have HLV := Lib.hid hl
  have HLEN := Lib.hid hlen
  have HUS := Lib.hid hus
  have HMU := Lib.hid hmu
  clear hl hlen hus hmu
  obtain ⟨l, s, rfl, ht⟩ := hv
  obtain ⟨⟨la, ll, lc, rfl⟩, sa, sl, sc, rfl⟩ := tmP_slices ht
  have HTT := Lib.hid ht
  obtain ⟨k, hk⟩ : ∃ k, tkOf t = k := ⟨_, rfl⟩
  obtain ⟨n, hn⟩ : ∃ n, tnOf t = n := ⟨_, rfl⟩
  obtain ⟨m, hmm⟩ : ∃ m, tmOf t = m := ⟨_, rfl⟩
  dsimp only [tv]
  rw [hk, hn, hmm]
  have HK := Lib.hid hk
  have HNN := Lib.hid hn
  have HMM := Lib.hid hmm
  have HM := Lib.hid hm
  clear hk hn hmm ht hm
  go_enter Tryz.func15, Tryz.ntmps15
  go_wp2_with fail
  have z1 : (w.alloc (.cells #[.int .i64 k, .int .i64 n, .string m, .slice la ll lc, .slice sa sl sc] 25)).heap.size = w.heap.size + 1 := by simp
  have z2 : ((w.alloc (.cells #[.int .i64 k, .int .i64 n, .string m, .slice la ll lc, .slice sa sl sc] 25)).alloc (.cells #[.int .i64 0, .int .i64 0, .string ⟨#[]⟩, .slice none 0 0, .slice none 0 0] 25)).heap.size = w.heap.size + 1 + 1 := by simp
  have r0 : (w.alloc (.cells #[.int .i64 k, .int .i64 n, .string m, .slice la ll lc, .slice sa sl sc] 25)).heap[w.heap.size]? = some (Obj.cells #[.int .i64 k, .int .i64 n, .string m, .slice la ll lc, .slice sa sl sc] 25 (0, 0)) := by
    have := heap_alloc_new w (.cells #[.int .i64 k, .int .i64 n, .string m, .slice la ll lc, .slice sa sl sc] 25)
    exact this
  have r1 : ((w.alloc (.cells #[.int .i64 k, .int .i64 n, .string m, .slice la ll lc, .slice sa sl sc] 25)).alloc (.cells #[.int .i64 0, .int .i64 0, .string ⟨#[]⟩, .slice none 0 0, .slice none 0 0] 25)).heap[w.heap.size + 1]? = some (Obj.cells #[.int .i64 0, .int .i64 0, .string ⟨#[]⟩, .slice none 0 0, .slice none 0 0] 25 (0, 0)) := by
    have := heap_alloc_new (w.alloc (.cells #[.int .i64 k, .int .i64 n, .string m, .slice la ll lc, .slice sa sl sc] 25)) (.cells #[.int .i64 0, .int .i64 0, .string ⟨#[]⟩, .slice none 0 0, .slice none 0 0] 25)
    rwa [z1] at this
  have HB := Lib.hid ((below_lit w (.cells #[.int .i64 k, .int .i64 n, .string m, .slice la ll lc, .slice sa sl sc] 25)).trans ((below_lit (w.alloc (.cells #[.int .i64 k, .int .i64 n, .string m, .slice la ll lc, .slice sa sl sc] 25)) (.cells #[.int .i64 0, .int .i64 0, .string ⟨#[]⟩, .slice none 0 0, .slice none 0 0] 25)).mono (below_lit w (.cells #[.int .i64 k, .int .i64 n, .string m, .slice la ll lc, .slice sa sl sc] 25)).size))
  have HR0 := Lib.hid ((heap_alloc_old (w.alloc (.cells #[.int .i64 k, .int .i64 n, .string m, .slice la ll lc, .slice sa sl sc] 25)) (.cells #[.int .i64 0, .int .i64 0, .string ⟨#[]⟩, .slice none 0 0, .slice none 0 0] 25) (by rw [z1]; omega)).trans (r0))
  have HR1 := Lib.hid (r1)
  clear r0 r1
  generalize ((w.alloc (.cells #[.int .i64 k, .int .i64 n, .string m, .slice la ll lc, .slice sa sl sc] 25)).alloc (.cells #[.int .i64 0, .int .i64 0, .string ⟨#[]⟩, .slice none 0 0, .slice none 0 0] 25)) = W2 at *
  have HZ := Lib.hid z2
  clear z1 z2
  have hrm := own_is t _ W2 ⟨_, _, rfl, tmP_below HB.out HTT.out⟩ HM.out HLV.out
  dsimp only [tv] at hrm
  rw [HK.out, HNN.out, HMM.out] at hrm
  refine hrm.mono ?_
  clear hrm
  rintro e w3 ⟨l9, s9, rfl, ht9, hb3⟩
  obtain ⟨⟨oa, ol, oc, rfl⟩, pa, pl, pc, rfl⟩ := tmP_slices ht9
  dsimp only [tv]
  rw [HK.out, HNN.out, HMM.out]
  have hsz2 := HZ.out
  have hs3 : w.heap.size + 1 + 1 ≤ w3.heap.size := by rw [← hsz2]; exact hb3.size
  have hbx := below_lit w3 (.cells #[.int .i64 k, .int .i64 n, .string m, .slice oa ol oc, .slice pa pl pc] 25)
  have HB3 := Lib.hid (HB.out.trans ((hb3.trans (hbx.mono hb3.size)).mono HB.out.size))
  have HRO := Lib.hid (heap_alloc_new w3 (.cells #[.int .i64 k, .int .i64 n, .string m, .slice oa ol oc, .slice pa pl pc] 25))
  have HR13 := Lib.hid ((hbx.block (w.heap.size + 1) (by omega)).trans ((hb3.block (w.heap.size + 1) (by omega)).trans HR1.out))
  have HTO := Lib.hid (tmP_move (w := w3) (w' := w3.alloc (.cells #[.int .i64 k, .int .i64 n, .string m, .slice oa ol oc, .slice pa pl pc] 25)) (Q := fun b => w.heap.size + 1 + 1 ≤ b ∧ b ≠ w3.heap.size) (fun b hlt hp => ⟨⟨by omega, by omega⟩, hbx.block b hlt⟩) hbx.size _ _ _ ht9)
  have hsz3 : (w3.alloc (.cells #[.int .i64 k, .int .i64 n, .string m, .slice oa ol oc, .slice pa pl pc] 25)).heap.size = w3.heap.size + 1 := by simp
  clear ht9 hb3 hbx HR0 HR1 HB HZ hsz2
  go_wp2_with fail
  generalize w3.alloc (.cells #[.int .i64 k, .int .i64 n, .string m, .slice oa ol oc, .slice pa pl pc] 25) = W3 at *
  generalize hBo : w3.heap.size = Bo at *
  go_loopw [12] (fun i wr => ∃ (j : Nat) (ko no : Int) (mo : ByteArray) (oa : Option Addr) (ol oc : Nat) (pa : Option Addr) (pl pc : Nat), j ≤ len ∧ i = .int .i64 j ∧ Hid (tkOf (apps t (us.take j)) = ko ∧ tnOf (apps t (us.take j)) = no ∧ tmOf (apps t (us.take j)) = mo) ∧ Hid (wr.heap[Bo]? = some (Obj.cells #[.int .i64 ko, .int .i64 no, .string mo, .slice oa ol oc, .slice pa pl pc] 25 (0, 0))) ∧ Hid (TmP wr (fun b => w.heap.size + 1 + 1 ≤ b ∧ b ≠ Bo) (apps t (us.take j)) (.slice oa ol oc) (.slice pa pl pc)) ∧ Hid (W3.grownBy wr (some Bo))) (fun i _ => len - (intOf i).toNat)
  case atStart => exact ⟨0, k, n, m, oa, ol, oc, pa, pl, pc, Nat.zero_le _, rfl, ⟨HK.out, HNN.out, HMM.out⟩, HRO.out, HTO.out, grown_of _ (Below.refl _ _)⟩
  case round =>
    clear HRO HTO
    obtain ⟨j, ko, no, mo, oa, ol, oc, pa, pl, pc, hj, rfl, hkk, hro, hto, hgr⟩ := hrel
    have hsr := grown_size hgr.out
    have HBr := Lib.hid (HB3.out.grown hgr.out HB3.out.size (fun k e => by cases e; omega))
    have HR1r := Lib.hid ((hgr.out.block (w.heap.size + 1) (by omega) (by simp; omega)).trans HR13.out)
    by_cases hlt : j < len
    · have hx1 : j < us.length := by rw [HLEN.out]; exact hlt
      have hln : decide ((j : Int) < (len : Int)) = true := by simp; omega
      obtain ⟨bk, o, l1, s1, eA, hbs, _, hc0, hc1, hc2, hc3, hc4, htm⟩ := tsP_get HUS.out j hx1
      subst eA
      obtain ⟨⟨xa, xl, xc, rfl⟩, ya, yl, yc, rfl⟩ := tmP_slices htm
      have d0 := (HBr.out.cell (p := ⟨bk, _, none⟩) hbs).trans hc0
      have d1 := (HBr.out.cell (p := ⟨bk, _, none⟩) hbs).trans hc1
      have d2 := (HBr.out.cell (p := ⟨bk, _, none⟩) hbs).trans hc2
      have d3 := (HBr.out.cell (p := ⟨bk, _, none⟩) hbs).trans hc3
      have d4 := (HBr.out.cell (p := ⟨bk, _, none⟩) hbs).trans hc4
      obtain ⟨hmj, hlj⟩ := HMU.out _ (List.getElem_mem hx1)
      have HCALL := Lib.hid (fun (w' : World) (hw : Below w.heap.size w w') => own_is us[j] (tv us[j] (.slice xa xl xc) (.slice ya yl yc)) w' ⟨_, _, rfl, tmP_below hw htm⟩ hmj hlj)
      have HTK := Lib.hid (show us.take (j + 1) = us.take j ++ [us[j]] by rw [List.take_add_one, List.getElem?_eq_getElem hx1]; rfl)
      dsimp only [tv] at HCALL
      obtain ⟨ka, hka⟩ : ∃ q, tkOf us[j] = q := ⟨_, rfl⟩
      obtain ⟨na, hna⟩ : ∃ q, tnOf us[j] = q := ⟨_, rfl⟩
      obtain ⟨ma, hma⟩ : ∃ q, tmOf us[j] = q := ⟨_, rfl⟩
      rw [hka] at d0 HCALL
      rw [hna] at d1 HCALL
      rw [hma] at d2 HCALL
      have HA := Lib.hid (And.intro hka (And.intro hna hma))
      have q1 : (0 : Int) ≤ (j : Int) := by omega
      have q2 : (j : Int) < (len : Int) := by omega
      clear htm hc0 hc1 hc2 hc3 hc4 hka hna hma hmj hlj
      go_wp2_with fail
      have HB7 := Lib.hid (below_lit wr (.cells #[.int .i64 ka, .int .i64 na, .string ma, .slice xa xl xc, .slice ya yl yc] 25))
      have hr7 := heap_alloc_new wr (.cells #[.int .i64 ka, .int .i64 na, .string ma, .slice xa xl xc, .slice ya yl yc] 25)
      have hs7 : (wr.alloc (.cells #[.int .i64 ka, .int .i64 na, .string ma, .slice xa xl xc, .slice ya yl yc] 25)).heap.size = wr.heap.size + 1 := by simp
      have HRO7 := Lib.hid ((HB7.out.block Bo (by omega)).trans hro.out)
      have hk : Hid (∀ W', Below (wr.alloc (.cells #[.int .i64 ka, .int .i64 na, .string ma, .slice xa xl xc, .slice ya yl yc] 25)).heap.size (wr.alloc (.cells #[.int .i64 ka, .int .i64 na, .string ma, .slice xa xl xc, .slice ya yl yc] 25)) W' → W'.cell? ⟨Bo, 0, none⟩ = some (.int .i64 ko) ∧ W'.cell? ⟨Bo, 1, none⟩ = some (.int .i64 no) ∧ W'.cell? ⟨Bo, 2, none⟩ = some (.string mo) ∧ W'.cell? ⟨Bo, 3, none⟩ = some (.slice oa ol oc) ∧ W'.cell? ⟨Bo, 4, none⟩ = some (.slice pa pl pc) ∧ W'.cell? ⟨wr.heap.size, 0, none⟩ = some (.int .i64 ka) ∧ W'.cell? ⟨wr.heap.size, 1, none⟩ = some (.int .i64 na) ∧ W'.cell? ⟨wr.heap.size, 2, none⟩ = some (.string ma) ∧ W'.cell? ⟨wr.heap.size, 3, none⟩ = some (.slice xa xl xc) ∧ W'.cell? ⟨wr.heap.size, 4, none⟩ = some (.slice ya yl yc)) := fun W' h => by
        obtain ⟨a0, a1, a2, a3, a4⟩ := five_cells ((h.block Bo (by omega)).trans HRO7.out)
        obtain ⟨e0, e1, e2, e3, e4⟩ := five_cells ((h.block wr.heap.size (by omega)).trans hr7)
        exact ⟨a0, a1, a2, a3, a4, e0, e1, e2, e3, e4⟩
      generalize wr.alloc (.cells #[.int .i64 ka, .int .i64 na, .string ma, .slice xa xl xc, .slice ya yl yc] 25) = W7 at *
      clear d0 d1 d2 d3 d4 hr7
      refine region_E (S := fun W' => W'.cell? ⟨Bo, 0, none⟩ = some (.int .i64 ko) ∧ W'.cell? ⟨Bo, 1, none⟩ = some (.int .i64 no) ∧ W'.cell? ⟨Bo, 2, none⟩ = some (.string mo) ∧ W'.cell? ⟨Bo, 3, none⟩ = some (.slice oa ol oc) ∧ W'.cell? ⟨Bo, 4, none⟩ = some (.slice pa pl pc) ∧ W'.cell? ⟨wr.heap.size, 0, none⟩ = some (.int .i64 ka) ∧ W'.cell? ⟨wr.heap.size, 1, none⟩ = some (.int .i64 na) ∧ W'.cell? ⟨wr.heap.size, 2, none⟩ = some (.string ma) ∧ W'.cell? ⟨wr.heap.size, 3, none⟩ = some (.slice xa xl xc) ∧ W'.cell? ⟨wr.heap.size, 4, none⟩ = some (.slice ya yl yc)) 5 (by kernel_rfl) ?_
      refine (fun (hHeld : (fun W' : World => W'.cell? ⟨Bo, 0, none⟩ = some (.int .i64 ko) ∧ W'.cell? ⟨Bo, 1, none⟩ = some (.int .i64 no) ∧ W'.cell? ⟨Bo, 2, none⟩ = some (.string mo) ∧ W'.cell? ⟨Bo, 3, none⟩ = some (.slice oa ol oc) ∧ W'.cell? ⟨Bo, 4, none⟩ = some (.slice pa pl pc) ∧ W'.cell? ⟨wr.heap.size, 0, none⟩ = some (.int .i64 ka) ∧ W'.cell? ⟨wr.heap.size, 1, none⟩ = some (.int .i64 na) ∧ W'.cell? ⟨wr.heap.size, 2, none⟩ = some (.string ma) ∧ W'.cell? ⟨wr.heap.size, 3, none⟩ = some (.slice xa xl xc) ∧ W'.cell? ⟨wr.heap.size, 4, none⟩ = some (.slice ya yl yc)) _) => ?_) (hk.out _ ((Below.refl _ _).drew))
      refine take_E (i := 0) (v := ?_) 4 [3, 0] rfl (by kernel_rfl) (by kernel_rfl) (by kernel_rfl) (by kernel_rfl) rfl (by decide) (by kernel_rfl) rfl (fun _ _ _ h => h) (by rfl) ?_ hHeld ?_
      rotate_left
      · intro w hSw
        (try dsimp only at hSw)
        go_simp
        try with_reducible rfl
      try simp only [Act.put, List.setIfInBounds_toArray, List.set_cons_zero, List.set_cons_succ]
      refine take_E (i := 1) (v := ?_) 4 [3, 2, 1] rfl (by kernel_rfl) (by kernel_rfl) (by kernel_rfl) (by kernel_rfl) rfl (by decide) (by kernel_rfl) rfl (fun _ _ _ h => h) (by rfl) ?_ hHeld ?_
      rotate_left
      · intro w hSw
        (try dsimp only at hSw)
        go_simp
        try with_reducible rfl
      try simp only [Act.put, List.setIfInBounds_toArray, List.set_cons_zero, List.set_cons_succ]
      refine only_E (i := 2) rfl (by kernel_rfl) (fun K hK => ?_)
      clear hHeld
      go_simp
      go_at_call 41
      refine (HCALL.out _ (HBr.out.trans ((HB7.out.trans ((Below.refl _ _).drew.mono HB7.out.size)).mono HBr.out.size))).mono ?_
      rintro e w5 ⟨l9, s9, rfl, ht9, hb5⟩
      obtain ⟨⟨ua, ul, uc, rfl⟩, va, vl, vc, rfl⟩ := tmP_slices ht9
      dsimp only [tv]
      rw [HA.out.1, HA.out.2.1, HA.out.2.2]
      have HT9 := Lib.hid ht9
      have HC5 := Lib.hid ((Below.refl W7.heap.size W7).drew.trans hb5)
      clear ht9 hb5

      try (go_wp2_with fail)
      refine (fun (hHeld : (fun W' : World => W'.cell? ⟨Bo, 0, none⟩ = some (.int .i64 ko) ∧ W'.cell? ⟨Bo, 1, none⟩ = some (.int .i64 no) ∧ W'.cell? ⟨Bo, 2, none⟩ = some (.string mo) ∧ W'.cell? ⟨Bo, 3, none⟩ = some (.slice oa ol oc) ∧ W'.cell? ⟨Bo, 4, none⟩ = some (.slice pa pl pc) ∧ W'.cell? ⟨wr.heap.size, 0, none⟩ = some (.int .i64 ka) ∧ W'.cell? ⟨wr.heap.size, 1, none⟩ = some (.int .i64 na) ∧ W'.cell? ⟨wr.heap.size, 2, none⟩ = some (.string ma) ∧ W'.cell? ⟨wr.heap.size, 3, none⟩ = some (.slice xa xl xc) ∧ W'.cell? ⟨wr.heap.size, 4, none⟩ = some (.slice ya yl yc)) _) => hK.out _ _ (fun _ => hHeld) ?_) (hk.out w5 HC5.out)
      clear hK K
      try simp only [Act.put, List.setIfInBounds_toArray, List.set_cons_zero, List.set_cons_succ]
      refine only_E (i := 3) rfl (by kernel_rfl) (fun K hK => ?_)
      clear hHeld
      go_simp

      try (go_wp2_with fail)
      refine (fun (hHeld : (fun W' : World => W'.cell? ⟨Bo, 0, none⟩ = some (.int .i64 ko) ∧ W'.cell? ⟨Bo, 1, none⟩ = some (.int .i64 no) ∧ W'.cell? ⟨Bo, 2, none⟩ = some (.string mo) ∧ W'.cell? ⟨Bo, 3, none⟩ = some (.slice oa ol oc) ∧ W'.cell? ⟨Bo, 4, none⟩ = some (.slice pa pl pc) ∧ W'.cell? ⟨wr.heap.size, 0, none⟩ = some (.int .i64 ka) ∧ W'.cell? ⟨wr.heap.size, 1, none⟩ = some (.int .i64 na) ∧ W'.cell? ⟨wr.heap.size, 2, none⟩ = some (.string ma) ∧ W'.cell? ⟨wr.heap.size, 3, none⟩ = some (.slice xa xl xc) ∧ W'.cell? ⟨wr.heap.size, 4, none⟩ = some (.slice ya yl yc)) _) => hK.out _ _ (fun _ => hHeld) ?_) (hk.out _ (HC5.out.trans ((below_lit w5 (.cells #[.int .i64 ko, .int .i64 no, .string mo, .slice oa ol oc, .slice pa pl pc, .int .i64 ka, .int .i64 na, .string ma, .slice ua ul uc, .slice va vl vc] 25)).mono HC5.out.size)))
      clear hK K
      try simp only [Act.put, List.setIfInBounds_toArray, List.set_cons_zero, List.set_cons_succ]
      refine only_E (i := 4) rfl (by kernel_rfl) (fun K hK => ?_)
      clear hHeld
      go_simp
      have hb8 := below_lit w5 (.cells #[.int .i64 ko, .int .i64 no, .string mo, .slice oa ol oc, .slice pa pl pc, .int .i64 ka, .int .i64 na, .string ma, .slice ua ul uc, .slice va vl vc] 25)
      have hr8 := heap_alloc_new w5 (.cells #[.int .i64 ko, .int .i64 no, .string mo, .slice oa ol oc, .slice pa pl pc, .int .i64 ka, .int .i64 na, .string ma, .slice ua ul uc, .slice va vl vc] 25)
      have hs8 : (w5.alloc (.cells #[.int .i64 ko, .int .i64 no, .string mo, .slice oa ol oc, .slice pa pl pc, .int .i64 ka, .int .i64 na, .string ma, .slice ua ul uc, .slice va vl vc] 25)).heap.size = w5.heap.size + 1 := by simp
      go_at_call 42
      refine (tnode_is 4 _ 2 2 _).mono ?_
      rintro e w6 ⟨rfl, hb6⟩
      have HC6 := Lib.hid (HC5.out.trans ((hb8.trans (hb6.mono hb8.size)).mono HC5.out.size))
      have HR6 := Lib.hid ((hb6.block w5.heap.size (by omega)).trans hr8)
      have HB56 := Lib.hid (hb8.trans (hb6.mono hb8.size))
      clear hb8 hr8 hs8 hb6

      try (go_wp2_with fail)
      refine (fun (hHeld : (fun W' : World => W'.cell? ⟨Bo, 0, none⟩ = some (.int .i64 ko) ∧ W'.cell? ⟨Bo, 1, none⟩ = some (.int .i64 no) ∧ W'.cell? ⟨Bo, 2, none⟩ = some (.string mo) ∧ W'.cell? ⟨Bo, 3, none⟩ = some (.slice oa ol oc) ∧ W'.cell? ⟨Bo, 4, none⟩ = some (.slice pa pl pc) ∧ W'.cell? ⟨wr.heap.size, 0, none⟩ = some (.int .i64 ka) ∧ W'.cell? ⟨wr.heap.size, 1, none⟩ = some (.int .i64 na) ∧ W'.cell? ⟨wr.heap.size, 2, none⟩ = some (.string ma) ∧ W'.cell? ⟨wr.heap.size, 3, none⟩ = some (.slice xa xl xc) ∧ W'.cell? ⟨wr.heap.size, 4, none⟩ = some (.slice ya yl yc)) _) => hK.out _ _ (fun _ => hHeld) ?_) (hk.out w6 HC6.out)
      clear hK K
      try simp only [Act.put, List.setIfInBounds_toArray, List.set_cons_zero, List.set_cons_succ]
      refine only_E (i := 5) rfl (by kernel_rfl) (fun K hK => ?_)
      clear hHeld
      go_simp
      have hro6 := (HC6.out.block Bo (by omega)).trans HRO7.out
      obtain ⟨p0, p1, p2, p3, p4⟩ := five_cells hro6
      have f0 := frozen0 (p := 0) hro6
      have f1 := frozen0 (p := 1) hro6
      have f2 := frozen0 (p := 2) hro6
      have f3 := frozen0 (p := 3) hro6
      have f4 := frozen0 (p := 4) hro6
      go_simp
      have h57 := HC5.out.size
      have h67 := HC6.out.size
      have h56 := HB56.out.size
      have HGR := Lib.hid (set5_grown (q := 0) (x0 := .int .i64 4) (x1 := .int .i64 0) (x2 := .string ⟨#[]⟩) (x3 := .slice none 0 0) (x4 := .slice (some ⟨w5.heap.size, 0, none⟩) 2 2) (grown_below (grown_below hgr.out HB7.out) HC6.out))
      have HROW := Lib.hid (set5_row (y0 := .int .i64 4) (y1 := .int .i64 0) (y2 := .string ⟨#[]⟩) (y3 := .slice none 0 0) (y4 := .slice (some ⟨w5.heap.size, 0, none⟩) 2 2) hro6)
      have ht0 : TmP w6 (fun b => w.heap.size + 1 + 1 ≤ b ∧ b ≠ Bo) (apps t (us.take j)) (.slice oa ol oc) (.slice pa pl pc) := tmP_below HC6.out (tmP_below HB7.out hto.out)
      have ht1 : TmP w6 (fun b => w.heap.size + 1 + 1 ≤ b ∧ b ≠ Bo) us[j] (.slice ua ul uc) (.slice va vl vc) := tmP_weak (fun b (hb : W7.heap.size ≤ b) => ⟨by omega, by omega⟩) (tmP_below HB56.out HT9.out)
      have hr6 := HR6.out
      rw [← hkk.out.1, ← hkk.out.2.1, ← hkk.out.2.2, ← HA.out.1, ← HA.out.2.1, ← HA.out.2.2] at hr6
      have ht2 := tmP_two hr6 ⟨by omega, by omega⟩ ht0 ht1 4 0 ⟨#[]⟩
      have HTN := Lib.hid (tmP_move (w := w6) (w' := ((((w6.setCell ⟨Bo, 0, none⟩ (.int .i64 4)).setCell ⟨Bo, 1, none⟩ (.int .i64 0)).setCell ⟨Bo, 2, none⟩ (.string ⟨#[]⟩)).setCell ⟨Bo, 3, none⟩ (.slice none 0 0)).setCell ⟨Bo, 4, none⟩ (.slice (some ⟨w5.heap.size, 0, none⟩) 2 2)) (Q := fun b => w.heap.size + 1 + 1 ≤ b ∧ b ≠ Bo) (fun b _ hp => ⟨hp, set5_far' w6 Bo 0 b _ _ _ _ _ hp.2⟩) (Nat.le_of_eq (set5_sz w6 Bo 0 _ _ _ _ _).symm) _ _ _ ht2)
      have HAP : Hid (apps t (us.take (j + 1)) = .mk 4 0 ⟨#[]⟩ [] [apps t (us.take j), us[j]]) := by
        have : apps t (us.take (j + 1)) = .mk 4 0 ⟨#[]⟩ [] [apps t (us.take j), us[j]] := by rw [HTK.out, apps_snoc]
        exact this
      refine hK.out _ _ (fun h => by cases h) ?_
      clear hK K p0 p1 p2 p3 p4 f0 f1 f2 f3 f4 hro6 hr6 ht0 ht1 ht2
      try simp only [Act.put, List.setIfInBounds_toArray, List.set_cons_zero, List.set_cons_succ]
      refine done_E (by kernel_rfl) ?_ _
      generalize ((((w6.setCell ⟨Bo, 0, none⟩ (.int .i64 4)).setCell ⟨Bo, 1, none⟩ (.int .i64 0)).setCell ⟨Bo, 2, none⟩ (.string ⟨#[]⟩)).setCell ⟨Bo, 3, none⟩ (.slice none 0 0)).setCell ⟨Bo, 4, none⟩ (.slice (some ⟨w5.heap.size, 0, none⟩) 2 2) = w9 at *
      go_wp2_with fail
      go_roundw
      case rel => exact ⟨j + 1, 4, 0, ⟨#[]⟩, none, 0, 0, some ⟨w5.heap.size, 0, none⟩, 2, 2, by omega, by go_num, by rw [HAP.out]; exact ⟨rfl, rfl, rfl⟩, HROW.out, by rw [HAP.out]; exact HTN.out, HGR.out⟩
      case measure => simp [intOf]; omega
    · obtain rfl : j = len := by omega
      have hln : decide ((j : Int) < (j : Int)) = false := by simp
      obtain ⟨o0, o1, o2, o3, o4⟩ := five_cells hro.out
      have hrz := HR1r.out
      obtain ⟨e0, e1, e2, e3, e4⟩ := five_cells hrz
      have g0 := frozen0 (p := 0) hrz
      have g1 := frozen0 (p := 1) hrz
      have g2 := frozen0 (p := 2) hrz
      have g3 := frozen0 (p := 3) hrz
      have g4 := frozen0 (p := 4) hrz
      go_wp2_with fail
      refine bodyPost_ret (results_cell_row rfl _ _ (w.heap.size + 1) 25 _ (0, 0) _ rfl (set5_row hrz) Tryz.underlying25 rfl (by rw [hi0, Option.map_some, hz1]; rfl)) rfl ?_
      have htk : us.take j = us := List.take_of_length_le (by rw [HLEN.out]; exact Nat.le_refl _)
      have hto9 := hto.out
      have hkk9 := hkk.out
      rw [htk] at hto9 hkk9
      exact ⟨_, _, by dsimp only [tv]; rw [hkk9.1, hkk9.2.1, hkk9.2.2], tmP_move (w := wr) (fun b _ hp => ⟨by omega, set5_far' wr (w.heap.size + 1) 0 b _ _ _ _ _ (by omega)⟩) (Nat.le_of_eq (set5_sz wr (w.heap.size + 1) 0 _ _ _ _ _).symm) _ _ _ hto9, set5_below HBr.out _ 0 _ _ _ _ _ (by omega)⟩
end Trm
end Go.Proofs.YtbkdecgfiiajnaaGreatDoor
