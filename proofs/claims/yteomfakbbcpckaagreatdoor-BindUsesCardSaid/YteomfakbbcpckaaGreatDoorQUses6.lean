/-
 The law BindUses, walked: whatever comes in, it returns true, and nothing that was there turns.
 Conditions: the terms lie in memory as told by 'TmV', their names take at most 2^47 bytes each; name.Right's contract; the laws' own check 'alive' returns true.
-/
import Derived.Test.YteomfakbbcpckaaGreatDoorJ32
import Derived.Test.YteomfakbbcpckaaGreatDoorJ23
import Derived.Test.YteomfakbbcpckaaGreatDoorJ14
import Derived.Test.YteomfakbbcpckaaGreatDoorJ07
namespace Go.Proofs.YteomfakbbcpckaaGreatDoor
open Go.RowKit
open Lvl
open Trm
namespace Bnd
abbrev ct0 (t : Tm) : Nat := cntT (fun n => n == 0) t 0
theorem uses_ok {t a : Tm} (ht : rightT Nm.rightB 4 t 1125899906842624 = true) (ha : rightT Nm.rightB 4 a 1125899906842624 = true) : (rightT Nm.rightB 4 t 1125899906842624 && (areB Nm.rightB [a] && decide (tnodes (subT (instF [a]) t 0) ≤ 2000))) = decide (tnodes t + ct0 t * (tnodes a - 1) ≤ 2000) ∧ tnodes (subT (instF [a]) t 0) = tnodes t + ct0 t * (tnodes a - 1) := by
 obtain ⟨_, h1, h2⟩ := rightT_ok ht
 obtain ⟨_, a1, a2⟩ := rightT_ok ha
 have h := inst1_nodes a _ a2 t _ 0 h2
 have hp := tnodes_pos a
 obtain ⟨p, hp⟩ : ∃ p, tnodes a = p + 1 := ⟨tnodes a - 1, by omega⟩
 have hX : tnodes (subT (instF [a]) t 0) = tnodes t + ct0 t * (tnodes a - 1) := by
  rw [hp, Nat.mul_succ] at h
  rw [hp, Nat.add_sub_cancel]
  show tnodes (subT (instF [a]) t 0) = tnodes t + cntT (fun n => n == 0) t 0 * p
  omega
 refine ⟨?_, hX⟩
 rw [ht, hX]
 simp [areB, ha]
theorem wr3 {x c : Int} (h : x = c) (h0 : 0 ≤ c) (h1 : c ≤ 100000000) : wrap64 x = c ∧ IntKind.i64.wrap x = c := by
 subst h
 exact ⟨IntWalk.wrap64_in _ ⟨by omega, by omega⟩, IntWalk.i64_in _ ⟨by omega, by omega⟩⟩
set_option maxRecDepth 100000 in
set_option maxHeartbeats 4000000 in
theorem bindUses_any (Tt Ta Tb : Tm) (Vt Va Vb : Value) (w : World) (AL : ∀ w', Below w.heap.size w w' → Calls Tryz.prog 9 #[] w' (Ret w' (.bool true))) (CN : NameC w Nm.rightB) (ht : TmV w Tt Vt) (mt9 : nmOk Tt) (ha : TmV w Ta Va) (ma9 : nmOk Ta) (hb : TmV w Tb Vb) (mb9 : nmOk Tb) :
  Calls Tryz.prog 6 #[Vt, Va, Vb] w (Ret w (.bool true)) := by
 have HAL := Lib.hid AL
 have HCN := Lib.hid CN
 clear AL CN
 obtain ⟨kt, nt, mt, t1, t2, t3, t4, t5, t6, rfl⟩ := tmV_open ht
 have HTt := Lib.hid ht
 have HMt := Lib.hid mt9
 clear ht mt9
 obtain ⟨ka, na, ma, a1, a2, a3, a4, a5, a6, rfl⟩ := tmV_open ha
 have HTa := Lib.hid ha
 have HMa := Lib.hid ma9
 clear ha ma9
 obtain ⟨kb, nb, mb, b1, b2, b3, b4, b5, b6, rfl⟩ := tmV_open hb
 have HTb := Lib.hid hb
 have HMb := Lib.hid mb9
 clear hb mb9
 go_enter Tryz.func6, Tryz.ntmps6
 go_wp2_with fail
 have z1 : (w.alloc (.cells #[.int .i64 kt, .int .i64 nt, .string mt, .slice t1 t2 t3, .slice t4 t5 t6] 25)).heap.size = w.heap.size + 1 := by simp
 have z2 : ((w.alloc (.cells #[.int .i64 kt, .int .i64 nt, .string mt, .slice t1 t2 t3, .slice t4 t5 t6] 25)).alloc (.cells #[.int .i64 ka, .int .i64 na, .string ma, .slice a1 a2 a3, .slice a4 a5 a6] 25)).heap.size = w.heap.size + 1 + 1 := by simp
 have z3 : (((w.alloc (.cells #[.int .i64 kt, .int .i64 nt, .string mt, .slice t1 t2 t3, .slice t4 t5 t6] 25)).alloc (.cells #[.int .i64 ka, .int .i64 na, .string ma, .slice a1 a2 a3, .slice a4 a5 a6] 25)).alloc (.cells #[.int .i64 kb, .int .i64 nb, .string mb, .slice b1 b2 b3, .slice b4 b5 b6] 25)).heap.size = w.heap.size + 1 + 1 + 1 := by simp
 have r0 : (w.alloc (.cells #[.int .i64 kt, .int .i64 nt, .string mt, .slice t1 t2 t3, .slice t4 t5 t6] 25)).heap[w.heap.size]? = some (Obj.cells #[.int .i64 kt, .int .i64 nt, .string mt, .slice t1 t2 t3, .slice t4 t5 t6] 25 (0, 0)) := by
  have := heap_alloc_new w (.cells #[.int .i64 kt, .int .i64 nt, .string mt, .slice t1 t2 t3, .slice t4 t5 t6] 25)
  exact this
 have r1 : ((w.alloc (.cells #[.int .i64 kt, .int .i64 nt, .string mt, .slice t1 t2 t3, .slice t4 t5 t6] 25)).alloc (.cells #[.int .i64 ka, .int .i64 na, .string ma, .slice a1 a2 a3, .slice a4 a5 a6] 25)).heap[w.heap.size + 1]? = some (Obj.cells #[.int .i64 ka, .int .i64 na, .string ma, .slice a1 a2 a3, .slice a4 a5 a6] 25 (0, 0)) := by
  have := heap_alloc_new (w.alloc (.cells #[.int .i64 kt, .int .i64 nt, .string mt, .slice t1 t2 t3, .slice t4 t5 t6] 25)) (.cells #[.int .i64 ka, .int .i64 na, .string ma, .slice a1 a2 a3, .slice a4 a5 a6] 25)
  rwa [z1] at this
 have r2 : (((w.alloc (.cells #[.int .i64 kt, .int .i64 nt, .string mt, .slice t1 t2 t3, .slice t4 t5 t6] 25)).alloc (.cells #[.int .i64 ka, .int .i64 na, .string ma, .slice a1 a2 a3, .slice a4 a5 a6] 25)).alloc (.cells #[.int .i64 kb, .int .i64 nb, .string mb, .slice b1 b2 b3, .slice b4 b5 b6] 25)).heap[w.heap.size + 1 + 1]? = some (Obj.cells #[.int .i64 kb, .int .i64 nb, .string mb, .slice b1 b2 b3, .slice b4 b5 b6] 25 (0, 0)) := by
  have := heap_alloc_new ((w.alloc (.cells #[.int .i64 kt, .int .i64 nt, .string mt, .slice t1 t2 t3, .slice t4 t5 t6] 25)).alloc (.cells #[.int .i64 ka, .int .i64 na, .string ma, .slice a1 a2 a3, .slice a4 a5 a6] 25)) (.cells #[.int .i64 kb, .int .i64 nb, .string mb, .slice b1 b2 b3, .slice b4 b5 b6] 25)
  rwa [z2] at this
 have HB := Lib.hid (((below_lit w (.cells #[.int .i64 kt, .int .i64 nt, .string mt, .slice t1 t2 t3, .slice t4 t5 t6] 25)).trans ((below_lit (w.alloc (.cells #[.int .i64 kt, .int .i64 nt, .string mt, .slice t1 t2 t3, .slice t4 t5 t6] 25)) (.cells #[.int .i64 ka, .int .i64 na, .string ma, .slice a1 a2 a3, .slice a4 a5 a6] 25)).mono (below_lit w (.cells #[.int .i64 kt, .int .i64 nt, .string mt, .slice t1 t2 t3, .slice t4 t5 t6] 25)).size)).trans ((below_lit ((w.alloc (.cells #[.int .i64 kt, .int .i64 nt, .string mt, .slice t1 t2 t3, .slice t4 t5 t6] 25)).alloc (.cells #[.int .i64 ka, .int .i64 na, .string ma, .slice a1 a2 a3, .slice a4 a5 a6] 25)) (.cells #[.int .i64 kb, .int .i64 nb, .string mb, .slice b1 b2 b3, .slice b4 b5 b6] 25)).mono ((below_lit w (.cells #[.int .i64 kt, .int .i64 nt, .string mt, .slice t1 t2 t3, .slice t4 t5 t6] 25)).trans ((below_lit (w.alloc (.cells #[.int .i64 kt, .int .i64 nt, .string mt, .slice t1 t2 t3, .slice t4 t5 t6] 25)) (.cells #[.int .i64 ka, .int .i64 na, .string ma, .slice a1 a2 a3, .slice a4 a5 a6] 25)).mono (below_lit w (.cells #[.int .i64 kt, .int .i64 nt, .string mt, .slice t1 t2 t3, .slice t4 t5 t6] 25)).size)).size))
 have HR0 := Lib.hid ((heap_alloc_old ((w.alloc (.cells #[.int .i64 kt, .int .i64 nt, .string mt, .slice t1 t2 t3, .slice t4 t5 t6] 25)).alloc (.cells #[.int .i64 ka, .int .i64 na, .string ma, .slice a1 a2 a3, .slice a4 a5 a6] 25)) (.cells #[.int .i64 kb, .int .i64 nb, .string mb, .slice b1 b2 b3, .slice b4 b5 b6] 25) (by rw [z2]; omega)).trans ((heap_alloc_old (w.alloc (.cells #[.int .i64 kt, .int .i64 nt, .string mt, .slice t1 t2 t3, .slice t4 t5 t6] 25)) (.cells #[.int .i64 ka, .int .i64 na, .string ma, .slice a1 a2 a3, .slice a4 a5 a6] 25) (by rw [z1]; omega)).trans (r0)))
 have HR1 := Lib.hid ((heap_alloc_old ((w.alloc (.cells #[.int .i64 kt, .int .i64 nt, .string mt, .slice t1 t2 t3, .slice t4 t5 t6] 25)).alloc (.cells #[.int .i64 ka, .int .i64 na, .string ma, .slice a1 a2 a3, .slice a4 a5 a6] 25)) (.cells #[.int .i64 kb, .int .i64 nb, .string mb, .slice b1 b2 b3, .slice b4 b5 b6] 25) (by rw [z2]; omega)).trans (r1))
 have HR2 := Lib.hid (r2)
 clear r0 r1 r2
 generalize (((w.alloc (.cells #[.int .i64 kt, .int .i64 nt, .string mt, .slice t1 t2 t3, .slice t4 t5 t6] 25)).alloc (.cells #[.int .i64 ka, .int .i64 na, .string ma, .slice a1 a2 a3, .slice a4 a5 a6] 25)).alloc (.cells #[.int .i64 kb, .int .i64 nb, .string mb, .slice b1 b2 b3, .slice b4 b5 b6] 25)) = W5 at *
 have HZ := Lib.hid z3
 clear z1 z2 z3
 have HC := Lib.hid HB.out
 have HRt := HR0
 have HLt : Hid (w.heap.size < W5.heap.size) := by
  have : w.heap.size < W5.heap.size := by have := HZ.out; omega
  exact this
 replace HTt := Lib.hid (HTt.out.below HB.out)
 have HRa := HR1
 have HLa : Hid (w.heap.size + 1 < W5.heap.size) := by
  have : w.heap.size + 1 < W5.heap.size := by have := HZ.out; omega
  exact this
 replace HTa := Lib.hid (HTa.out.below HB.out)
 have HRb := HR2
 have HLb : Hid (w.heap.size + 1 + 1 < W5.heap.size) := by
  have : w.heap.size + 1 + 1 < W5.heap.size := by have := HZ.out; omega
  exact this
 replace HTb := Lib.hid (HTb.out.below HB.out)
 clear HB HZ HR0 HR1 HR2
 refine (HAL.out _ HC.out).mono ?_
 rintro e v1 ⟨rfl, hbq⟩
 replace HRt := mvR hbq HLt HRt
 replace HLt := mvL hbq HLt
 replace HRa := mvR hbq HLa HRa
 replace HLa := mvL hbq HLa
 replace HRb := mvR hbq HLb HRb
 replace HLb := mvL hbq HLb
 replace HTt := mvT hbq HTt
 replace HTa := mvT hbq HTa
 replace HTb := mvT hbq HTb
 replace HC := mvC hbq HC
 clear hbq
 obtain ⟨ct0, ct1, ct2, ct3, ct4⟩ := five_cells HRt.out
 obtain ⟨ca0, ca1, ca2, ca3, ca4⟩ := five_cells HRa.out
 obtain ⟨cb0, cb1, cb2, cb3, cb4⟩ := five_cells HRb.out
 have hbq := below_lit v1 (.cells #[.int .i64 ka, .int .i64 na, .string ma, .slice a1 a2 a3, .slice a4 a5 a6, .int .i64 kb, .int .i64 nb, .string mb, .slice b1 b2 b3, .slice b4 b5 b6] 25)
 have hts := Lib.hid (tsP_v2 HTa.out HTb.out)
 go_wp2_with fail
 clear ct0 ct1 ct2 ct3 ct4 ca0 ca1 ca2 ca3 ca4 cb0 cb1 cb2 cb3 cb4
 generalize hgw : v1.alloc (.cells #[.int .i64 ka, .int .i64 na, .string ma, .slice a1 a2 a3, .slice a4 a5 a6, .int .i64 kb, .int .i64 nb, .string mb, .slice b1 b2 b3, .slice b4 b5 b6] 25) = v2 at *
 clear hgw
 replace HRt := mvR hbq HLt HRt
 replace HLt := mvL hbq HLt
 replace HRa := mvR hbq HLa HRa
 replace HLa := mvL hbq HLa
 replace HRb := mvR hbq HLb HRb
 replace HLb := mvL hbq HLb
 replace HTt := mvT hbq HTt
 replace HTa := mvT hbq HTa
 replace HTb := mvT hbq HTb
 replace HC := mvC hbq HC
 clear hbq
 refine (great_v Tt _ [Ta, Tb] _ 2 2 _ HTt.out HMt.out hts.out rfl (by decide) (by rw [nmOkL, nmOkL, nmOkL]; exact ⟨HMa.out, HMb.out, trivial⟩)).mono ?_
 rintro e v3 ⟨b9, _, rfl, hbq⟩
 replace HRt := mvR hbq HLt HRt
 replace HLt := mvL hbq HLt
 replace HRa := mvR hbq HLa HRa
 replace HLa := mvL hbq HLa
 replace HRb := mvR hbq HLb HRb
 replace HLb := mvL hbq HLb
 replace HTt := mvT hbq HTt
 replace HTa := mvT hbq HTa
 replace HTb := mvT hbq HTb
 replace HC := mvC hbq HC
 clear hbq hts
 cases b9 with
 | true =>
  obtain ⟨ct0, ct1, ct2, ct3, ct4⟩ := five_cells HRt.out
  obtain ⟨ca0, ca1, ca2, ca3, ca4⟩ := five_cells HRa.out
  obtain ⟨cb0, cb1, cb2, cb3, cb4⟩ := five_cells HRb.out
  go_wp2_with fail
  go_ret
  exact ⟨rfl, HC.out⟩
 | false =>
 obtain ⟨rt, hrt⟩ : ∃ q, rightT Nm.rightB 4 Tt 1125899906842624 = q := ⟨_, rfl⟩
 have HQt := Lib.hid hrt
 clear hrt
 obtain ⟨ra, hra⟩ : ∃ q, rightT Nm.rightB 4 Ta 1125899906842624 = q := ⟨_, rfl⟩
 have HQa := Lib.hid hra
 clear hra
 obtain ⟨rb, hrb⟩ : ∃ q, rightT Nm.rightB 4 Tb 1125899906842624 = q := ⟨_, rfl⟩
 have HQb := Lib.hid hrb
 clear hrb
 obtain ⟨ct0, ct1, ct2, ct3, ct4⟩ := five_cells HRt.out
 go_wp2_with fail
 clear ct0 ct1 ct2 ct3 ct4
 refine (refAny_free Tt _ 4 _ HTt.out HMt.out (by decide) (by decide) rt HQt.out).mono ?_
 rintro e v4 ⟨rfl, hbq⟩
 replace HRt := mvR hbq HLt HRt
 replace HLt := mvL hbq HLt
 replace HRa := mvR hbq HLa HRa
 replace HLa := mvL hbq HLa
 replace HRb := mvR hbq HLb HRb
 replace HLb := mvL hbq HLb
 replace HTt := mvT hbq HTt
 replace HTa := mvT hbq HTa
 replace HTb := mvT hbq HTb
 replace HC := mvC hbq HC
 clear hbq
 cases rt with
 | false =>
  obtain ⟨ct0, ct1, ct2, ct3, ct4⟩ := five_cells HRt.out
  obtain ⟨ca0, ca1, ca2, ca3, ca4⟩ := five_cells HRa.out
  obtain ⟨cb0, cb1, cb2, cb3, cb4⟩ := five_cells HRb.out
  go_wp2_with fail
  go_ret
  exact ⟨rfl, HC.out⟩
 | true =>
 obtain ⟨ca0, ca1, ca2, ca3, ca4⟩ := five_cells HRa.out
 go_wp2_with fail
 clear ca0 ca1 ca2 ca3 ca4
 refine (refAny_free Ta _ 4 _ HTa.out HMa.out (by decide) (by decide) ra HQa.out).mono ?_
 rintro e v5 ⟨rfl, hbq⟩
 replace HRt := mvR hbq HLt HRt
 replace HLt := mvL hbq HLt
 replace HRa := mvR hbq HLa HRa
 replace HLa := mvL hbq HLa
 replace HRb := mvR hbq HLb HRb
 replace HLb := mvL hbq HLb
 replace HTt := mvT hbq HTt
 replace HTa := mvT hbq HTa
 replace HTb := mvT hbq HTb
 replace HC := mvC hbq HC
 clear hbq
 cases ra with
 | false =>
  obtain ⟨ct0, ct1, ct2, ct3, ct4⟩ := five_cells HRt.out
  obtain ⟨ca0, ca1, ca2, ca3, ca4⟩ := five_cells HRa.out
  obtain ⟨cb0, cb1, cb2, cb3, cb4⟩ := five_cells HRb.out
  go_wp2_with fail
  go_ret
  exact ⟨rfl, HC.out⟩
 | true =>
 obtain ⟨cb0, cb1, cb2, cb3, cb4⟩ := five_cells HRb.out
 go_wp2_with fail
 clear cb0 cb1 cb2 cb3 cb4
 refine (refAny_free Tb _ 4 _ HTb.out HMb.out (by decide) (by decide) rb HQb.out).mono ?_
 rintro e v6 ⟨rfl, hbq⟩
 replace HRt := mvR hbq HLt HRt
 replace HLt := mvL hbq HLt
 replace HRa := mvR hbq HLa HRa
 replace HLa := mvL hbq HLa
 replace HRb := mvR hbq HLb HRb
 replace HLb := mvL hbq HLb
 replace HTt := mvT hbq HTt
 replace HTa := mvT hbq HTa
 replace HTb := mvT hbq HTb
 replace HC := mvC hbq HC
 clear hbq
 cases rb with
 | false =>
  obtain ⟨ct0, ct1, ct2, ct3, ct4⟩ := five_cells HRt.out
  obtain ⟨ca0, ca1, ca2, ca3, ca4⟩ := five_cells HRa.out
  obtain ⟨cb0, cb1, cb2, cb3, cb4⟩ := five_cells HRb.out
  go_wp2_with fail
  go_ret
  exact ⟨rfl, HC.out⟩
 | true =>
 have huse := uses_ok HQt.out HQa.out
 have huse2 := uses_ok HQt.out HQb.out
 obtain ⟨_, nt1, nt2⟩ := rightT_ok HQt.out
 obtain ⟨_, na1, na2⟩ := rightT_ok HQa.out
 have na0 := tnodes_pos Ta
 by_cases hc0 : ct0 Tt = 0
 ·have HOX : Hid ((rightT Nm.rightB 4 Tt 1125899906842624 && (areB Nm.rightB [Ta] && decide (tnodes (subT (instF [Ta]) Tt 0) ≤ 2000))) = true) := by
   have := huse.1
   rw [hc0, Nat.zero_mul, Nat.add_zero] at this
   exact Lib.hid (this.trans (decide_eq_true nt1))
  have HOY : Hid ((rightT Nm.rightB 4 Tt 1125899906842624 && (areB Nm.rightB [Tb] && decide (tnodes (subT (instF [Tb]) Tt 0) ≤ 2000))) = true) := by
   have := huse2.1
   rw [hc0, Nat.zero_mul, Nat.add_zero] at this
   exact Lib.hid (this.trans (decide_eq_true nt1))
  have HXY := Lib.hid (inst1_same Ta Tb Tt _ 0 nt2 hc0)
  have HCT : Hid ((if rightT Nm.rightB 4 Tt 1125899906842624 = true then cntT (fun n => n == 0) Tt 0 else 0) = 0) := Lib.hid (by rw [if_pos HQt.out]; exact hc0)
  have HU : Hid (decide (0 < (if rightT Nm.rightB 4 Tt 1125899906842624 = true then cntT (fun n => n == 0) Tt 0 else 0)) = false) := Lib.hid (by rw [HCT.out]; rfl)
  clear huse huse2 nt1 nt2 na1 na2 na0 hc0
  obtain ⟨ct0, ct1, ct2, ct3, ct4⟩ := five_cells HRt.out
  obtain ⟨ca0, ca1, ca2, ca3, ca4⟩ := five_cells HRa.out
  have hbq := below_lit v6 (.cells #[.int .i64 ka, .int .i64 na, .string ma, .slice a1 a2 a3, .slice a4 a5 a6] 25)
  have hts := Lib.hid (tsP_v1 HTa.out)
  go_wp2_with fail
  clear ct0 ct1 ct2 ct3 ct4 ca0 ca1 ca2 ca3 ca4
  generalize hgw : v6.alloc (.cells #[.int .i64 ka, .int .i64 na, .string ma, .slice a1 a2 a3, .slice a4 a5 a6] 25) = v7 at *
  clear hgw
  replace HRt := mvR hbq HLt HRt
  replace HLt := mvL hbq HLt
  replace HRa := mvR hbq HLa HRa
  replace HLa := mvL hbq HLa
  replace HRb := mvR hbq HLb HRb
  replace HLb := mvL hbq HLb
  replace HTt := mvT hbq HTt
  replace HTa := mvT hbq HTa
  replace HTb := mvT hbq HTb
  replace HC := mvC hbq HC
  clear hbq
  refine (inst_v Nm.rightB Tt _ _ 1 1 [Ta] _ HTt.out HMt.out hts.out rfl (by decide) (by rw [nmOkL, nmOkL]; exact ⟨HMa.out, trivial⟩) (HCN.out.below HC.out) true HOX.out).mono ?_
  intro e v8 hret
  obtain ⟨kx, nx, mx, x1, x2, x3, x4, x5, x6, rfl, hbq, hX⟩ := bret_any hret
  clear hret
  replace HRt := mvR hbq HLt HRt
  replace HLt := mvL hbq HLt
  replace HRa := mvR hbq HLa HRa
  replace HLa := mvL hbq HLa
  replace HRb := mvR hbq HLb HRb
  replace HLb := mvL hbq HLb
  replace HTt := mvT hbq HTt
  replace HTa := mvT hbq HTa
  replace HTb := mvT hbq HTb
  replace HC := mvC hbq HC
  have HTx := Lib.hid (hX.out rfl)
  clear hbq hX
  clear hts
  have hbq := below_lit v8 (.cells #[.int .i64 kx, .int .i64 nx, .string mx, .slice x1 x2 x3, .slice x4 x5 x6] 25)
  have hrx := heap_alloc_new v8 (.cells #[.int .i64 kx, .int .i64 nx, .string mx, .slice x1 x2 x3, .slice x4 x5 x6] 25)
  have hlx : v8.heap.size < (v8.alloc (.cells #[.int .i64 kx, .int .i64 nx, .string mx, .slice x1 x2 x3, .slice x4 x5 x6] 25)).heap.size := by simp
  obtain ⟨ct0, ct1, ct2, ct3, ct4⟩ := five_cells ((hbq.block _ HLt.out).trans HRt.out)
  obtain ⟨cb0, cb1, cb2, cb3, cb4⟩ := five_cells ((hbq.block _ HLb.out).trans HRb.out)
  have hb6 := below_lit (v8.alloc (.cells #[.int .i64 kx, .int .i64 nx, .string mx, .slice x1 x2 x3, .slice x4 x5 x6] 25)) (.cells #[.int .i64 kb, .int .i64 nb, .string mb, .slice b1 b2 b3, .slice b4 b5 b6] 25)
  have hts0 := tsP_v1 (HTb.out.below hbq)
  rw [show (v8.alloc (.cells #[.int .i64 kx, .int .i64 nx, .string mx, .slice x1 x2 x3, .slice x4 x5 x6] 25)).heap.size = v8.heap.size + 1 by simp] at hts0
  have hts := Lib.hid hts0
  clear hts0
  go_wp2_with fail
  clear ct0 ct1 ct2 ct3 ct4 cb0 cb1 cb2 cb3 cb4
  generalize hgw : v8.alloc (.cells #[.int .i64 kx, .int .i64 nx, .string mx, .slice x1 x2 x3, .slice x4 x5 x6] 25) = v9 at *
  clear hgw
  replace HRt := mvR hbq HLt HRt
  replace HLt := mvL hbq HLt
  replace HRa := mvR hbq HLa HRa
  replace HLa := mvL hbq HLa
  replace HRb := mvR hbq HLb HRb
  replace HLb := mvL hbq HLb
  replace HTt := mvT hbq HTt
  replace HTa := mvT hbq HTa
  replace HTb := mvT hbq HTb
  replace HTx := mvT hbq HTx
  replace HC := mvC hbq HC
  have HRx := Lib.hid hrx
  have HLx := Lib.hid hlx
  clear hbq hrx hlx
  generalize hgb : v8.heap.size = Bx at *
  clear hgb
  generalize hgw : v9.alloc (.cells #[.int .i64 kb, .int .i64 nb, .string mb, .slice b1 b2 b3, .slice b4 b5 b6] 25) = v10 at *
  clear hgw
  have hbq := hb6
  replace HRt := mvR hbq HLt HRt
  replace HLt := mvL hbq HLt
  replace HRa := mvR hbq HLa HRa
  replace HLa := mvL hbq HLa
  replace HRb := mvR hbq HLb HRb
  replace HLb := mvL hbq HLb
  replace HRx := mvR hbq HLx HRx
  replace HLx := mvL hbq HLx
  replace HTt := mvT hbq HTt
  replace HTa := mvT hbq HTa
  replace HTb := mvT hbq HTb
  replace HTx := mvT hbq HTx
  replace HC := mvC hbq HC
  clear hbq hb6
  refine (inst_v Nm.rightB Tt _ _ 1 1 [Tb] _ HTt.out HMt.out hts.out rfl (by decide) (by rw [nmOkL, nmOkL]; exact ⟨HMb.out, trivial⟩) (HCN.out.below HC.out) true HOY.out).mono ?_
  intro e v11 hret
  obtain ⟨ky, ny, my, y1, y2, y3, y4, y5, y6, rfl, hbq, hX⟩ := bret_any hret
  clear hret
  replace HRt := mvR hbq HLt HRt
  replace HLt := mvL hbq HLt
  replace HRa := mvR hbq HLa HRa
  replace HLa := mvL hbq HLa
  replace HRb := mvR hbq HLb HRb
  replace HLb := mvL hbq HLb
  replace HRx := mvR hbq HLx HRx
  replace HLx := mvL hbq HLx
  replace HTt := mvT hbq HTt
  replace HTa := mvT hbq HTa
  replace HTb := mvT hbq HTb
  replace HTx := mvT hbq HTx
  replace HC := mvC hbq HC
  have HTy := Lib.hid (hX.out rfl)
  clear hbq hX
  clear hts
  have hbq := below_lit v11 (.cells #[.int .i64 ky, .int .i64 ny, .string my, .slice y1 y2 y3, .slice y4 y5 y6] 25)
  have hrx := heap_alloc_new v11 (.cells #[.int .i64 ky, .int .i64 ny, .string my, .slice y1 y2 y3, .slice y4 y5 y6] 25)
  have hlx : v11.heap.size < (v11.alloc (.cells #[.int .i64 ky, .int .i64 ny, .string my, .slice y1 y2 y3, .slice y4 y5 y6] 25)).heap.size := by simp
  obtain ⟨ct0, ct1, ct2, ct3, ct4⟩ := five_cells ((hbq.block _ HLt.out).trans HRt.out)
  go_wp2_with fail
  clear ct0 ct1 ct2 ct3 ct4
  generalize hgw : v11.alloc (.cells #[.int .i64 ky, .int .i64 ny, .string my, .slice y1 y2 y3, .slice y4 y5 y6] 25) = v12 at *
  clear hgw
  replace HRt := mvR hbq HLt HRt
  replace HLt := mvL hbq HLt
  replace HRa := mvR hbq HLa HRa
  replace HLa := mvL hbq HLa
  replace HRb := mvR hbq HLb HRb
  replace HLb := mvL hbq HLb
  replace HRx := mvR hbq HLx HRx
  replace HLx := mvL hbq HLx
  replace HTt := mvT hbq HTt
  replace HTa := mvT hbq HTa
  replace HTb := mvT hbq HTb
  replace HTx := mvT hbq HTx
  replace HTy := mvT hbq HTy
  replace HC := mvC hbq HC
  have HRy := Lib.hid hrx
  have HLy := Lib.hid hlx
  clear hbq hrx hlx
  generalize hgb : v11.heap.size = By at *
  clear hgb
  refine (buses_v Nm.rightB 0 Tt _ _ HTt.out HMt.out (HCN.out.below HC.out) false HU.out).mono ?_
  rintro e v13 ⟨rfl, hbq⟩
  replace HRt := mvR hbq HLt HRt
  replace HLt := mvL hbq HLt
  replace HRa := mvR hbq HLa HRa
  replace HLa := mvL hbq HLa
  replace HRb := mvR hbq HLb HRb
  replace HLb := mvL hbq HLb
  replace HRx := mvR hbq HLx HRx
  replace HLx := mvL hbq HLx
  replace HRy := mvR hbq HLy HRy
  replace HLy := mvL hbq HLy
  replace HTt := mvT hbq HTt
  replace HTa := mvT hbq HTa
  replace HTb := mvT hbq HTb
  replace HTx := mvT hbq HTx
  replace HTy := mvT hbq HTy
  replace HC := mvC hbq HC
  clear hbq
  obtain ⟨cx0, cx1, cx2, cx3, cx4⟩ := five_cells HRx.out
  obtain ⟨cy0, cy1, cy2, cy3, cy4⟩ := five_cells HRy.out
  go_wp2_with fail
  clear cx0 cx1 cx2 cx3 cx4 cy0 cy1 cy2 cy3 cy4
  refine (sameTerm_is (subT (instF [Ta]) Tt 0) _ _ _ HTx.out (by have := HTy.out; rw [← HXY.out] at this; exact this)).mono ?_
  rintro e v14 ⟨rfl, hbq⟩
  replace HRt := mvR hbq HLt HRt
  replace HLt := mvL hbq HLt
  replace HRa := mvR hbq HLa HRa
  replace HLa := mvL hbq HLa
  replace HRb := mvR hbq HLb HRb
  replace HLb := mvL hbq HLb
  replace HRx := mvR hbq HLx HRx
  replace HLx := mvL hbq HLx
  replace HRy := mvR hbq HLy HRy
  replace HLy := mvL hbq HLy
  replace HTt := mvT hbq HTt
  replace HTa := mvT hbq HTa
  replace HTb := mvT hbq HTb
  replace HTx := mvT hbq HTx
  replace HTy := mvT hbq HTy
  replace HC := mvC hbq HC
  clear hbq
  obtain ⟨ct0, ct1, ct2, ct3, ct4⟩ := five_cells HRt.out
  go_wp2_with fail
  clear ct0 ct1 ct2 ct3 ct4
  refine (bcount_v Nm.rightB 0 Tt _ _ HTt.out HMt.out (HCN.out.below HC.out) 0 HCT.out).mono ?_
  rintro e v15 ⟨rfl, hbq⟩
  replace HRt := mvR hbq HLt HRt
  replace HLt := mvL hbq HLt
  replace HRa := mvR hbq HLa HRa
  replace HLa := mvL hbq HLa
  replace HRb := mvR hbq HLb HRb
  replace HLb := mvL hbq HLb
  replace HRx := mvR hbq HLx HRx
  replace HLx := mvL hbq HLx
  replace HRy := mvR hbq HLy HRy
  replace HLy := mvL hbq HLy
  replace HTt := mvT hbq HTt
  replace HTa := mvT hbq HTa
  replace HTb := mvT hbq HTb
  replace HTx := mvT hbq HTx
  replace HTy := mvT hbq HTy
  replace HC := mvC hbq HC
  clear hbq
  go_wp2_with fail
  go_ret
  exact ⟨rfl, HC.out⟩
 ·obtain ⟨CT, hct⟩ : ∃ q, ct0 Tt = q := ⟨_, rfl⟩
  obtain ⟨NT, hnt⟩ : ∃ q, tnodes Tt = q := ⟨_, rfl⟩
  obtain ⟨NA, hna⟩ : ∃ q, tnodes Ta = q := ⟨_, rfl⟩
  obtain ⟨A1, hA1⟩ : ∃ q, NA - 1 = q := ⟨_, rfl⟩
  obtain ⟨PR, hPR⟩ : ∃ q, CT * A1 = q := ⟨_, rfl⟩
  obtain ⟨N9, hN9⟩ : ∃ q, NT + PR = q := ⟨_, rfl⟩
  have hle : ct0 Tt ≤ tnodes Tt := cntT_le _ Tt 0
  rw [hct] at hc0 hle huse
  rw [hnt] at nt1 hle huse
  rw [hna] at na1 na0 huse
  rw [hA1, hPR, hN9] at huse
  have hpl : PR ≤ 2000 * 2000 := by rw [← hPR]; exact Nat.mul_le_mul (by omega) (by omega)
  have HCT : Hid ((if rightT Nm.rightB 4 Tt 1125899906842624 = true then cntT (fun n => n == 0) Tt 0 else 0) = CT) := Lib.hid (by rw [if_pos HQt.out]; exact hct)
  have HU : Hid (decide (0 < (if rightT Nm.rightB 4 Tt 1125899906842624 = true then cntT (fun n => n == 0) Tt 0 else 0)) = true) := Lib.hid (by rw [HCT.out]; exact decide_eq_true (by omega))
  have HNT : Hid (min (tnodes Tt) (2000 + 1) = NT) := Lib.hid (by rw [hnt]; omega)
  have HNA : Hid (min (tnodes Ta) (2000 + 1) = NA) := Lib.hid (by rw [hna]; omega)
  have HW1 := Lib.hid (wr3 (x := (NA : Int) - 1) (c := (A1 : Int)) (by omega) (by omega) (by omega))
  have HW2 := Lib.hid (wr3 (x := (CT : Int) * (A1 : Int)) (c := (PR : Int)) (by rw [← hPR]; exact (Int.natCast_mul CT A1).symm) (by omega) (by omega))
  have HW3 := Lib.hid (wr3 (x := (NT : Int) + (PR : Int)) (c := (N9 : Int)) (by omega) (by omega) (by omega))
  obtain ⟨oy, hoy⟩ : ∃ q, (rightT Nm.rightB 4 Tt 1125899906842624 && (areB Nm.rightB [Tb] && decide (tnodes (subT (instF [Tb]) Tt 0) ≤ 2000))) = q := ⟨_, rfl⟩
  have HOY := Lib.hid hoy
  by_cases h9 : N9 ≤ 2000
  ·have HOX := Lib.hid (huse.1.trans (decide_eq_true h9))
   have HN9 : Hid (min (tnodes (subT (instF [Ta]) Tt 0)) (2000 + 1) = N9) := Lib.hid (by rw [huse.2]; omega)
   have HD9 : Hid (decide ((N9 : Int) ≤ 2000) = true) := Lib.hid (by simp; omega)
   clear huse huse2 nt1 nt2 na1 na2 na0 hc0 hle hpl hct hnt hna hA1 hPR hN9 h9 hoy
   obtain ⟨ct0, ct1, ct2, ct3, ct4⟩ := five_cells HRt.out
   obtain ⟨ca0, ca1, ca2, ca3, ca4⟩ := five_cells HRa.out
   have hbq := below_lit v6 (.cells #[.int .i64 ka, .int .i64 na, .string ma, .slice a1 a2 a3, .slice a4 a5 a6] 25)
   have hts := Lib.hid (tsP_v1 HTa.out)
   go_wp2_with fail
   clear ct0 ct1 ct2 ct3 ct4 ca0 ca1 ca2 ca3 ca4
   generalize hgw : v6.alloc (.cells #[.int .i64 ka, .int .i64 na, .string ma, .slice a1 a2 a3, .slice a4 a5 a6] 25) = v7 at *
   clear hgw
   replace HRt := mvR hbq HLt HRt
   replace HLt := mvL hbq HLt
   replace HRa := mvR hbq HLa HRa
   replace HLa := mvL hbq HLa
   replace HRb := mvR hbq HLb HRb
   replace HLb := mvL hbq HLb
   replace HTt := mvT hbq HTt
   replace HTa := mvT hbq HTa
   replace HTb := mvT hbq HTb
   replace HC := mvC hbq HC
   clear hbq
   refine (inst_v Nm.rightB Tt _ _ 1 1 [Ta] _ HTt.out HMt.out hts.out rfl (by decide) (by rw [nmOkL, nmOkL]; exact ⟨HMa.out, trivial⟩) (HCN.out.below HC.out) true HOX.out).mono ?_
   intro e v8 hret
   obtain ⟨kx, nx, mx, x1, x2, x3, x4, x5, x6, rfl, hbq, hX⟩ := bret_any hret
   clear hret
   replace HRt := mvR hbq HLt HRt
   replace HLt := mvL hbq HLt
   replace HRa := mvR hbq HLa HRa
   replace HLa := mvL hbq HLa
   replace HRb := mvR hbq HLb HRb
   replace HLb := mvL hbq HLb
   replace HTt := mvT hbq HTt
   replace HTa := mvT hbq HTa
   replace HTb := mvT hbq HTb
   replace HC := mvC hbq HC
   have HTx := Lib.hid (hX.out rfl)
   clear hbq hX
   clear hts
   have hbq := below_lit v8 (.cells #[.int .i64 kx, .int .i64 nx, .string mx, .slice x1 x2 x3, .slice x4 x5 x6] 25)
   have hrx := heap_alloc_new v8 (.cells #[.int .i64 kx, .int .i64 nx, .string mx, .slice x1 x2 x3, .slice x4 x5 x6] 25)
   have hlx : v8.heap.size < (v8.alloc (.cells #[.int .i64 kx, .int .i64 nx, .string mx, .slice x1 x2 x3, .slice x4 x5 x6] 25)).heap.size := by simp
   obtain ⟨ct0, ct1, ct2, ct3, ct4⟩ := five_cells ((hbq.block _ HLt.out).trans HRt.out)
   obtain ⟨cb0, cb1, cb2, cb3, cb4⟩ := five_cells ((hbq.block _ HLb.out).trans HRb.out)
   have hb6 := below_lit (v8.alloc (.cells #[.int .i64 kx, .int .i64 nx, .string mx, .slice x1 x2 x3, .slice x4 x5 x6] 25)) (.cells #[.int .i64 kb, .int .i64 nb, .string mb, .slice b1 b2 b3, .slice b4 b5 b6] 25)
   have hts0 := tsP_v1 (HTb.out.below hbq)
   rw [show (v8.alloc (.cells #[.int .i64 kx, .int .i64 nx, .string mx, .slice x1 x2 x3, .slice x4 x5 x6] 25)).heap.size = v8.heap.size + 1 by simp] at hts0
   have hts := Lib.hid hts0
   clear hts0
   go_wp2_with fail
   clear ct0 ct1 ct2 ct3 ct4 cb0 cb1 cb2 cb3 cb4
   generalize hgw : v8.alloc (.cells #[.int .i64 kx, .int .i64 nx, .string mx, .slice x1 x2 x3, .slice x4 x5 x6] 25) = v9 at *
   clear hgw
   replace HRt := mvR hbq HLt HRt
   replace HLt := mvL hbq HLt
   replace HRa := mvR hbq HLa HRa
   replace HLa := mvL hbq HLa
   replace HRb := mvR hbq HLb HRb
   replace HLb := mvL hbq HLb
   replace HTt := mvT hbq HTt
   replace HTa := mvT hbq HTa
   replace HTb := mvT hbq HTb
   replace HTx := mvT hbq HTx
   replace HC := mvC hbq HC
   have HRx := Lib.hid hrx
   have HLx := Lib.hid hlx
   clear hbq hrx hlx
   generalize hgb : v8.heap.size = Bx at *
   clear hgb
   generalize hgw : v9.alloc (.cells #[.int .i64 kb, .int .i64 nb, .string mb, .slice b1 b2 b3, .slice b4 b5 b6] 25) = v10 at *
   clear hgw
   have hbq := hb6
   replace HRt := mvR hbq HLt HRt
   replace HLt := mvL hbq HLt
   replace HRa := mvR hbq HLa HRa
   replace HLa := mvL hbq HLa
   replace HRb := mvR hbq HLb HRb
   replace HLb := mvL hbq HLb
   replace HRx := mvR hbq HLx HRx
   replace HLx := mvL hbq HLx
   replace HTt := mvT hbq HTt
   replace HTa := mvT hbq HTa
   replace HTb := mvT hbq HTb
   replace HTx := mvT hbq HTx
   replace HC := mvC hbq HC
   clear hbq hb6
   refine (inst_v Nm.rightB Tt _ _ 1 1 [Tb] _ HTt.out HMt.out hts.out rfl (by decide) (by rw [nmOkL, nmOkL]; exact ⟨HMb.out, trivial⟩) (HCN.out.below HC.out) oy HOY.out).mono ?_
   intro e v11 hret
   obtain ⟨ky, ny, my, y1, y2, y3, y4, y5, y6, rfl, hbq, hX⟩ := bret_any hret
   clear hret
   replace HRt := mvR hbq HLt HRt
   replace HLt := mvL hbq HLt
   replace HRa := mvR hbq HLa HRa
   replace HLa := mvL hbq HLa
   replace HRb := mvR hbq HLb HRb
   replace HLb := mvL hbq HLb
   replace HRx := mvR hbq HLx HRx
   replace HLx := mvL hbq HLx
   replace HTt := mvT hbq HTt
   replace HTa := mvT hbq HTa
   replace HTb := mvT hbq HTb
   replace HTx := mvT hbq HTx
   replace HC := mvC hbq HC
   clear hbq hX
   clear hts
   have hbq := below_lit v11 (.cells #[.int .i64 ky, .int .i64 ny, .string my, .slice y1 y2 y3, .slice y4 y5 y6] 25)
   have hrx := heap_alloc_new v11 (.cells #[.int .i64 ky, .int .i64 ny, .string my, .slice y1 y2 y3, .slice y4 y5 y6] 25)
   have hlx : v11.heap.size < (v11.alloc (.cells #[.int .i64 ky, .int .i64 ny, .string my, .slice y1 y2 y3, .slice y4 y5 y6] 25)).heap.size := by simp
   obtain ⟨ct0, ct1, ct2, ct3, ct4⟩ := five_cells ((hbq.block _ HLt.out).trans HRt.out)
   go_wp2_with fail
   clear ct0 ct1 ct2 ct3 ct4
   generalize hgw : v11.alloc (.cells #[.int .i64 ky, .int .i64 ny, .string my, .slice y1 y2 y3, .slice y4 y5 y6] 25) = v12 at *
   clear hgw
   replace HRt := mvR hbq HLt HRt
   replace HLt := mvL hbq HLt
   replace HRa := mvR hbq HLa HRa
   replace HLa := mvL hbq HLa
   replace HRb := mvR hbq HLb HRb
   replace HLb := mvL hbq HLb
   replace HRx := mvR hbq HLx HRx
   replace HLx := mvL hbq HLx
   replace HTt := mvT hbq HTt
   replace HTa := mvT hbq HTa
   replace HTb := mvT hbq HTb
   replace HTx := mvT hbq HTx
   replace HC := mvC hbq HC
   have HRy := Lib.hid hrx
   have HLy := Lib.hid hlx
   clear hbq hrx hlx
   generalize hgb : v11.heap.size = By at *
   clear hgb
   refine (buses_v Nm.rightB 0 Tt _ _ HTt.out HMt.out (HCN.out.below HC.out) true HU.out).mono ?_
   rintro e v13 ⟨rfl, hbq⟩
   replace HRt := mvR hbq HLt HRt
   replace HLt := mvL hbq HLt
   replace HRa := mvR hbq HLa HRa
   replace HLa := mvL hbq HLa
   replace HRb := mvR hbq HLb HRb
   replace HLb := mvL hbq HLb
   replace HRx := mvR hbq HLx HRx
   replace HLx := mvL hbq HLx
   replace HRy := mvR hbq HLy HRy
   replace HLy := mvL hbq HLy
   replace HTt := mvT hbq HTt
   replace HTa := mvT hbq HTa
   replace HTb := mvT hbq HTb
   replace HTx := mvT hbq HTx
   replace HC := mvC hbq HC
   clear hbq
   go_upto_region 9 with fail
   have hk : Hid (∀ W', Below v13.heap.size v13 W' → W'.cell? ⟨w.heap.size, 0, none⟩ = some (.int .i64 kt) ∧ W'.cell? ⟨w.heap.size, 1, none⟩ = some (.int .i64 nt) ∧ W'.cell? ⟨w.heap.size, 2, none⟩ = some (.string mt) ∧ W'.cell? ⟨w.heap.size, 3, none⟩ = some (.slice t1 t2 t3) ∧ W'.cell? ⟨w.heap.size, 4, none⟩ = some (.slice t4 t5 t6) ∧ W'.cell? ⟨w.heap.size + 1, 0, none⟩ = some (.int .i64 ka) ∧ W'.cell? ⟨w.heap.size + 1, 1, none⟩ = some (.int .i64 na) ∧ W'.cell? ⟨w.heap.size + 1, 2, none⟩ = some (.string ma) ∧ W'.cell? ⟨w.heap.size + 1, 3, none⟩ = some (.slice a1 a2 a3) ∧ W'.cell? ⟨w.heap.size + 1, 4, none⟩ = some (.slice a4 a5 a6)) := fun W' h => by
    obtain ⟨qt0, qt1, qt2, qt3, qt4⟩ := five_cells ((h.block _ HLt.out).trans HRt.out)
    obtain ⟨qa0, qa1, qa2, qa3, qa4⟩ := five_cells ((h.block _ HLa.out).trans HRa.out)
    exact ⟨qt0, qt1, qt2, qt3, qt4, qa0, qa1, qa2, qa3, qa4⟩
   refine wp_region_held_drew (S := fun W' => W'.cell? ⟨w.heap.size, 0, none⟩ = some (.int .i64 kt) ∧ W'.cell? ⟨w.heap.size, 1, none⟩ = some (.int .i64 nt) ∧ W'.cell? ⟨w.heap.size, 2, none⟩ = some (.string mt) ∧ W'.cell? ⟨w.heap.size, 3, none⟩ = some (.slice t1 t2 t3) ∧ W'.cell? ⟨w.heap.size, 4, none⟩ = some (.slice t4 t5 t6) ∧ W'.cell? ⟨w.heap.size + 1, 0, none⟩ = some (.int .i64 ka) ∧ W'.cell? ⟨w.heap.size + 1, 1, none⟩ = some (.int .i64 na) ∧ W'.cell? ⟨w.heap.size + 1, 2, none⟩ = some (.string ma) ∧ W'.cell? ⟨w.heap.size + 1, 3, none⟩ = some (.slice a1 a2 a3) ∧ W'.cell? ⟨w.heap.size + 1, 4, none⟩ = some (.slice a4 a5 a6)) (by kernel_rfl) (hk.out _ ((Below.refl _ _).drew)) (fun hHeld => ?_)
   have HV := Lib.hid ((Below.refl v13.heap.size v13).drew)
   have hbq := HV.out
   replace HRt := mvR hbq HLt HRt
   replace HLt := mvL hbq HLt
   replace HRa := mvR hbq HLa HRa
   replace HLa := mvL hbq HLa
   replace HRb := mvR hbq HLb HRb
   replace HLb := mvL hbq HLb
   replace HRx := mvR hbq HLx HRx
   replace HLx := mvL hbq HLx
   replace HRy := mvR hbq HLy HRy
   replace HLy := mvL hbq HLy
   replace HTt := mvT hbq HTt
   replace HTa := mvT hbq HTa
   replace HTb := mvT hbq HTb
   replace HTx := mvT hbq HTx
   replace HC := mvC hbq HC
   clear hbq
   generalize v13.drew = v14 at *
   refine take_in (i := 0) (v := ?_) rfl (by kernel_rfl) (by kernel_rfl) (by kernel_rfl) (fun _ _ _ h => h) (by rfl) ?_ hHeld ?_
   rotate_left
   ·intro w hSw
    (try dsimp only at hSw)
    go_simp
    try with_reducible rfl
   try simp only [Act.put, s1q, s2q, s3q]
   refine take_in (i := 2) (v := ?_) rfl (by kernel_rfl) (by kernel_rfl) (by kernel_rfl) (fun _ _ _ h => h) (by rfl) ?_ hHeld ?_
   rotate_left
   ·intro w hSw
    (try dsimp only at hSw)
    go_simp
    try with_reducible rfl
   try simp only [Act.put, s1q, s2q, s3q]
   refine take_in (i := 4) (v := ?_) rfl (by kernel_rfl) (by kernel_rfl) (by kernel_rfl) (fun _ _ _ h => h) (by rfl) ?_ hHeld ?_
   rotate_left
   ·intro w hSw
    (try dsimp only at hSw)
    go_simp
    try with_reducible rfl
   try simp only [Act.put, s1q, s2q, s3q]
   refine call_in (i := 1) rfl (by kernel_rfl) (fun K hK => ?_)
   clear hHeld
   go_simp
   refine (refNodes_is Tt _ 2000 _ HTt.out (by decide) NT HNT.out).mono ?_
   rintro e v15 ⟨rfl, hbq⟩
   replace HRt := mvR hbq HLt HRt
   replace HLt := mvL hbq HLt
   replace HRa := mvR hbq HLa HRa
   replace HLa := mvL hbq HLa
   replace HRb := mvR hbq HLb HRb
   replace HLb := mvL hbq HLb
   replace HRx := mvR hbq HLx HRx
   replace HLx := mvL hbq HLx
   replace HRy := mvR hbq HLy HRy
   replace HLy := mvL hbq HLy
   replace HTt := mvT hbq HTt
   replace HTa := mvT hbq HTa
   replace HTb := mvT hbq HTb
   replace HTx := mvT hbq HTx
   replace HC := mvC hbq HC
   replace HV := mvC hbq HV
   clear hbq
   try (go_wp2_with fail)
   refine hK.out _ _ (hk.out _ HV.out) (fun hHeld => ?_)
   clear hK K
   try simp only [Act.put, s1q, s2q, s3q]
   refine call_in (i := 3) rfl (by kernel_rfl) (fun K hK => ?_)
   clear hHeld
   go_simp
   refine (bcount_v Nm.rightB 0 Tt _ _ HTt.out HMt.out (HCN.out.below HC.out) CT HCT.out).mono ?_
   rintro e v16 ⟨rfl, hbq⟩
   replace HRt := mvR hbq HLt HRt
   replace HLt := mvL hbq HLt
   replace HRa := mvR hbq HLa HRa
   replace HLa := mvL hbq HLa
   replace HRb := mvR hbq HLb HRb
   replace HLb := mvL hbq HLb
   replace HRx := mvR hbq HLx HRx
   replace HLx := mvL hbq HLx
   replace HRy := mvR hbq HLy HRy
   replace HLy := mvL hbq HLy
   replace HTt := mvT hbq HTt
   replace HTa := mvT hbq HTa
   replace HTb := mvT hbq HTb
   replace HTx := mvT hbq HTx
   replace HC := mvC hbq HC
   replace HV := mvC hbq HV
   clear hbq
   try (go_wp2_with fail)
   refine hK.out _ _ (hk.out _ HV.out) (fun hHeld => ?_)
   clear hK K
   try simp only [Act.put, s1q, s2q, s3q]
   refine call_in (i := 5) rfl (by kernel_rfl) (fun K hK => ?_)
   clear hHeld
   go_simp
   refine (refNodes_is Ta _ 2000 _ HTa.out (by decide) NA HNA.out).mono ?_
   rintro e v17 ⟨rfl, hbq⟩
   replace HRt := mvR hbq HLt HRt
   replace HLt := mvL hbq HLt
   replace HRa := mvR hbq HLa HRa
   replace HLa := mvL hbq HLa
   replace HRb := mvR hbq HLb HRb
   replace HLb := mvL hbq HLb
   replace HRx := mvR hbq HLx HRx
   replace HLx := mvL hbq HLx
   replace HRy := mvR hbq HLy HRy
   replace HLy := mvL hbq HLy
   replace HTt := mvT hbq HTt
   replace HTa := mvT hbq HTa
   replace HTb := mvT hbq HTb
   replace HTx := mvT hbq HTx
   replace HC := mvC hbq HC
   replace HV := mvC hbq HV
   clear hbq
   try (go_wp2_with fail)
   refine hK.out _ _ (hk.out _ HV.out) (fun hHeld => ?_)
   clear hK K
   try simp only [Act.put, s1q, s2q, s3q]
   obtain ⟨y1, y1'⟩ := HW1.out
   obtain ⟨y2, y2'⟩ := HW2.out
   obtain ⟨y3, y3'⟩ := HW3.out
   refine take_in (i := 6) (v := ?_) rfl (by kernel_rfl) (by kernel_rfl) (by kernel_rfl) (fun _ _ _ h => h) (by rfl) ?_ hHeld ?_
   rotate_left
   ·intro w hSw
    (try dsimp only at hSw)
    go_simp
    try with_reducible rfl
   try simp only [Act.put, s1q, s2q, s3q]
   refine take_in (i := 7) (v := ?_) rfl (by kernel_rfl) (by kernel_rfl) (by kernel_rfl) (fun _ _ _ h => h) (by rfl) ?_ hHeld ?_
   rotate_left
   ·intro w hSw
    (try dsimp only at hSw)
    go_simp
    try with_reducible rfl
   try simp only [Act.put, s1q, s2q, s3q]
   refine take_in (i := 8) (v := ?_) rfl (by kernel_rfl) (by kernel_rfl) (by kernel_rfl) (fun _ _ _ h => h) (by rfl) ?_ hHeld ?_
   rotate_left
   ·intro w hSw
    (try dsimp only at hSw)
    go_simp
    try with_reducible rfl
   try simp only [Act.put, s1q, s2q, s3q]
   refine take_in (i := 9) (v := ?_) rfl (by kernel_rfl) (by kernel_rfl) (by kernel_rfl) (fun _ _ _ h => h) (by rfl) ?_ hHeld ?_
   rotate_left
   ·intro w hSw
    (try dsimp only at hSw)
    go_simp
    try with_reducible rfl
   try simp only [Act.put, s1q, s2q, s3q]
   refine wpAnyH_done (by kernel_rfl) ?_ _
   clear HV hk
   have d9 := HD9.out
   obtain ⟨cx0, cx1, cx2, cx3, cx4⟩ := five_cells HRx.out
   go_wp2_with fail
   clear cx0 cx1 cx2 cx3 cx4
   refine (refNodes_is (subT (instF [Ta]) Tt 0) _ 2000 _ HTx.out (by decide) N9 HN9.out).mono ?_
   rintro e v18 ⟨rfl, hbq⟩
   replace HRt := mvR hbq HLt HRt
   replace HLt := mvL hbq HLt
   replace HRa := mvR hbq HLa HRa
   replace HLa := mvL hbq HLa
   replace HRb := mvR hbq HLb HRb
   replace HLb := mvL hbq HLb
   replace HRx := mvR hbq HLx HRx
   replace HLx := mvL hbq HLx
   replace HRy := mvR hbq HLy HRy
   replace HLy := mvL hbq HLy
   replace HTt := mvT hbq HTt
   replace HTa := mvT hbq HTa
   replace HTb := mvT hbq HTb
   replace HTx := mvT hbq HTx
   replace HC := mvC hbq HC
   clear hbq
   have hee : ((N9 : Int) == (N9 : Int)) = true := by simp
   go_wp2_with fail
   go_ret
   exact ⟨rfl, HC.out⟩
  ·have HOX := Lib.hid (huse.1.trans (decide_eq_false h9))
   have HD9 : Hid (decide ((N9 : Int) ≤ 2000) = false) := Lib.hid (by simp; omega)
   clear huse huse2 nt1 nt2 na1 na2 na0 hc0 hle hpl hct hnt hna hA1 hPR hN9 h9 hoy
   obtain ⟨ct0, ct1, ct2, ct3, ct4⟩ := five_cells HRt.out
   obtain ⟨ca0, ca1, ca2, ca3, ca4⟩ := five_cells HRa.out
   have hbq := below_lit v6 (.cells #[.int .i64 ka, .int .i64 na, .string ma, .slice a1 a2 a3, .slice a4 a5 a6] 25)
   have hts := Lib.hid (tsP_v1 HTa.out)
   go_wp2_with fail
   clear ct0 ct1 ct2 ct3 ct4 ca0 ca1 ca2 ca3 ca4
   generalize hgw : v6.alloc (.cells #[.int .i64 ka, .int .i64 na, .string ma, .slice a1 a2 a3, .slice a4 a5 a6] 25) = v7 at *
   clear hgw
   replace HRt := mvR hbq HLt HRt
   replace HLt := mvL hbq HLt
   replace HRa := mvR hbq HLa HRa
   replace HLa := mvL hbq HLa
   replace HRb := mvR hbq HLb HRb
   replace HLb := mvL hbq HLb
   replace HTt := mvT hbq HTt
   replace HTa := mvT hbq HTa
   replace HTb := mvT hbq HTb
   replace HC := mvC hbq HC
   clear hbq
   refine (inst_v Nm.rightB Tt _ _ 1 1 [Ta] _ HTt.out HMt.out hts.out rfl (by decide) (by rw [nmOkL, nmOkL]; exact ⟨HMa.out, trivial⟩) (HCN.out.below HC.out) false HOX.out).mono ?_
   intro e v8 hret
   obtain ⟨kx, nx, mx, x1, x2, x3, x4, x5, x6, rfl, hbq, hX⟩ := bret_any hret
   clear hret
   replace HRt := mvR hbq HLt HRt
   replace HLt := mvL hbq HLt
   replace HRa := mvR hbq HLa HRa
   replace HLa := mvL hbq HLa
   replace HRb := mvR hbq HLb HRb
   replace HLb := mvL hbq HLb
   replace HTt := mvT hbq HTt
   replace HTa := mvT hbq HTa
   replace HTb := mvT hbq HTb
   replace HC := mvC hbq HC
   clear hbq hX
   clear hts
   have hbq := below_lit v8 (.cells #[.int .i64 kx, .int .i64 nx, .string mx, .slice x1 x2 x3, .slice x4 x5 x6] 25)
   have hrx := heap_alloc_new v8 (.cells #[.int .i64 kx, .int .i64 nx, .string mx, .slice x1 x2 x3, .slice x4 x5 x6] 25)
   have hlx : v8.heap.size < (v8.alloc (.cells #[.int .i64 kx, .int .i64 nx, .string mx, .slice x1 x2 x3, .slice x4 x5 x6] 25)).heap.size := by simp
   obtain ⟨ct0, ct1, ct2, ct3, ct4⟩ := five_cells ((hbq.block _ HLt.out).trans HRt.out)
   obtain ⟨cb0, cb1, cb2, cb3, cb4⟩ := five_cells ((hbq.block _ HLb.out).trans HRb.out)
   have hb6 := below_lit (v8.alloc (.cells #[.int .i64 kx, .int .i64 nx, .string mx, .slice x1 x2 x3, .slice x4 x5 x6] 25)) (.cells #[.int .i64 kb, .int .i64 nb, .string mb, .slice b1 b2 b3, .slice b4 b5 b6] 25)
   have hts0 := tsP_v1 (HTb.out.below hbq)
   rw [show (v8.alloc (.cells #[.int .i64 kx, .int .i64 nx, .string mx, .slice x1 x2 x3, .slice x4 x5 x6] 25)).heap.size = v8.heap.size + 1 by simp] at hts0
   have hts := Lib.hid hts0
   clear hts0
   go_wp2_with fail
   clear ct0 ct1 ct2 ct3 ct4 cb0 cb1 cb2 cb3 cb4
   generalize hgw : v8.alloc (.cells #[.int .i64 kx, .int .i64 nx, .string mx, .slice x1 x2 x3, .slice x4 x5 x6] 25) = v9 at *
   clear hgw
   replace HRt := mvR hbq HLt HRt
   replace HLt := mvL hbq HLt
   replace HRa := mvR hbq HLa HRa
   replace HLa := mvL hbq HLa
   replace HRb := mvR hbq HLb HRb
   replace HLb := mvL hbq HLb
   replace HTt := mvT hbq HTt
   replace HTa := mvT hbq HTa
   replace HTb := mvT hbq HTb
   replace HC := mvC hbq HC
   have HRx := Lib.hid hrx
   have HLx := Lib.hid hlx
   clear hbq hrx hlx
   generalize hgb : v8.heap.size = Bx at *
   clear hgb
   generalize hgw : v9.alloc (.cells #[.int .i64 kb, .int .i64 nb, .string mb, .slice b1 b2 b3, .slice b4 b5 b6] 25) = v10 at *
   clear hgw
   have hbq := hb6
   replace HRt := mvR hbq HLt HRt
   replace HLt := mvL hbq HLt
   replace HRa := mvR hbq HLa HRa
   replace HLa := mvL hbq HLa
   replace HRb := mvR hbq HLb HRb
   replace HLb := mvL hbq HLb
   replace HRx := mvR hbq HLx HRx
   replace HLx := mvL hbq HLx
   replace HTt := mvT hbq HTt
   replace HTa := mvT hbq HTa
   replace HTb := mvT hbq HTb
   replace HC := mvC hbq HC
   clear hbq hb6
   refine (inst_v Nm.rightB Tt _ _ 1 1 [Tb] _ HTt.out HMt.out hts.out rfl (by decide) (by rw [nmOkL, nmOkL]; exact ⟨HMb.out, trivial⟩) (HCN.out.below HC.out) oy HOY.out).mono ?_
   intro e v11 hret
   obtain ⟨ky, ny, my, y1, y2, y3, y4, y5, y6, rfl, hbq, hX⟩ := bret_any hret
   clear hret
   replace HRt := mvR hbq HLt HRt
   replace HLt := mvL hbq HLt
   replace HRa := mvR hbq HLa HRa
   replace HLa := mvL hbq HLa
   replace HRb := mvR hbq HLb HRb
   replace HLb := mvL hbq HLb
   replace HRx := mvR hbq HLx HRx
   replace HLx := mvL hbq HLx
   replace HTt := mvT hbq HTt
   replace HTa := mvT hbq HTa
   replace HTb := mvT hbq HTb
   replace HC := mvC hbq HC
   clear hbq hX
   clear hts
   have hbq := below_lit v11 (.cells #[.int .i64 ky, .int .i64 ny, .string my, .slice y1 y2 y3, .slice y4 y5 y6] 25)
   have hrx := heap_alloc_new v11 (.cells #[.int .i64 ky, .int .i64 ny, .string my, .slice y1 y2 y3, .slice y4 y5 y6] 25)
   have hlx : v11.heap.size < (v11.alloc (.cells #[.int .i64 ky, .int .i64 ny, .string my, .slice y1 y2 y3, .slice y4 y5 y6] 25)).heap.size := by simp
   obtain ⟨ct0, ct1, ct2, ct3, ct4⟩ := five_cells ((hbq.block _ HLt.out).trans HRt.out)
   go_wp2_with fail
   clear ct0 ct1 ct2 ct3 ct4
   generalize hgw : v11.alloc (.cells #[.int .i64 ky, .int .i64 ny, .string my, .slice y1 y2 y3, .slice y4 y5 y6] 25) = v12 at *
   clear hgw
   replace HRt := mvR hbq HLt HRt
   replace HLt := mvL hbq HLt
   replace HRa := mvR hbq HLa HRa
   replace HLa := mvL hbq HLa
   replace HRb := mvR hbq HLb HRb
   replace HLb := mvL hbq HLb
   replace HRx := mvR hbq HLx HRx
   replace HLx := mvL hbq HLx
   replace HTt := mvT hbq HTt
   replace HTa := mvT hbq HTa
   replace HTb := mvT hbq HTb
   replace HC := mvC hbq HC
   have HRy := Lib.hid hrx
   have HLy := Lib.hid hlx
   clear hbq hrx hlx
   generalize hgb : v11.heap.size = By at *
   clear hgb
   refine (buses_v Nm.rightB 0 Tt _ _ HTt.out HMt.out (HCN.out.below HC.out) true HU.out).mono ?_
   rintro e v13 ⟨rfl, hbq⟩
   replace HRt := mvR hbq HLt HRt
   replace HLt := mvL hbq HLt
   replace HRa := mvR hbq HLa HRa
   replace HLa := mvL hbq HLa
   replace HRb := mvR hbq HLb HRb
   replace HLb := mvL hbq HLb
   replace HRx := mvR hbq HLx HRx
   replace HLx := mvL hbq HLx
   replace HRy := mvR hbq HLy HRy
   replace HLy := mvL hbq HLy
   replace HTt := mvT hbq HTt
   replace HTa := mvT hbq HTa
   replace HTb := mvT hbq HTb
   replace HC := mvC hbq HC
   clear hbq
   go_upto_region 9 with fail
   have hk : Hid (∀ W', Below v13.heap.size v13 W' → W'.cell? ⟨w.heap.size, 0, none⟩ = some (.int .i64 kt) ∧ W'.cell? ⟨w.heap.size, 1, none⟩ = some (.int .i64 nt) ∧ W'.cell? ⟨w.heap.size, 2, none⟩ = some (.string mt) ∧ W'.cell? ⟨w.heap.size, 3, none⟩ = some (.slice t1 t2 t3) ∧ W'.cell? ⟨w.heap.size, 4, none⟩ = some (.slice t4 t5 t6) ∧ W'.cell? ⟨w.heap.size + 1, 0, none⟩ = some (.int .i64 ka) ∧ W'.cell? ⟨w.heap.size + 1, 1, none⟩ = some (.int .i64 na) ∧ W'.cell? ⟨w.heap.size + 1, 2, none⟩ = some (.string ma) ∧ W'.cell? ⟨w.heap.size + 1, 3, none⟩ = some (.slice a1 a2 a3) ∧ W'.cell? ⟨w.heap.size + 1, 4, none⟩ = some (.slice a4 a5 a6)) := fun W' h => by
    obtain ⟨qt0, qt1, qt2, qt3, qt4⟩ := five_cells ((h.block _ HLt.out).trans HRt.out)
    obtain ⟨qa0, qa1, qa2, qa3, qa4⟩ := five_cells ((h.block _ HLa.out).trans HRa.out)
    exact ⟨qt0, qt1, qt2, qt3, qt4, qa0, qa1, qa2, qa3, qa4⟩
   refine wp_region_held_drew (S := fun W' => W'.cell? ⟨w.heap.size, 0, none⟩ = some (.int .i64 kt) ∧ W'.cell? ⟨w.heap.size, 1, none⟩ = some (.int .i64 nt) ∧ W'.cell? ⟨w.heap.size, 2, none⟩ = some (.string mt) ∧ W'.cell? ⟨w.heap.size, 3, none⟩ = some (.slice t1 t2 t3) ∧ W'.cell? ⟨w.heap.size, 4, none⟩ = some (.slice t4 t5 t6) ∧ W'.cell? ⟨w.heap.size + 1, 0, none⟩ = some (.int .i64 ka) ∧ W'.cell? ⟨w.heap.size + 1, 1, none⟩ = some (.int .i64 na) ∧ W'.cell? ⟨w.heap.size + 1, 2, none⟩ = some (.string ma) ∧ W'.cell? ⟨w.heap.size + 1, 3, none⟩ = some (.slice a1 a2 a3) ∧ W'.cell? ⟨w.heap.size + 1, 4, none⟩ = some (.slice a4 a5 a6)) (by kernel_rfl) (hk.out _ ((Below.refl _ _).drew)) (fun hHeld => ?_)
   have HV := Lib.hid ((Below.refl v13.heap.size v13).drew)
   have hbq := HV.out
   replace HRt := mvR hbq HLt HRt
   replace HLt := mvL hbq HLt
   replace HRa := mvR hbq HLa HRa
   replace HLa := mvL hbq HLa
   replace HRb := mvR hbq HLb HRb
   replace HLb := mvL hbq HLb
   replace HRx := mvR hbq HLx HRx
   replace HLx := mvL hbq HLx
   replace HRy := mvR hbq HLy HRy
   replace HLy := mvL hbq HLy
   replace HTt := mvT hbq HTt
   replace HTa := mvT hbq HTa
   replace HTb := mvT hbq HTb
   replace HC := mvC hbq HC
   clear hbq
   generalize v13.drew = v14 at *
   refine take_in (i := 0) (v := ?_) rfl (by kernel_rfl) (by kernel_rfl) (by kernel_rfl) (fun _ _ _ h => h) (by rfl) ?_ hHeld ?_
   rotate_left
   ·intro w hSw
    (try dsimp only at hSw)
    go_simp
    try with_reducible rfl
   try simp only [Act.put, s1q, s2q, s3q]
   refine take_in (i := 2) (v := ?_) rfl (by kernel_rfl) (by kernel_rfl) (by kernel_rfl) (fun _ _ _ h => h) (by rfl) ?_ hHeld ?_
   rotate_left
   ·intro w hSw
    (try dsimp only at hSw)
    go_simp
    try with_reducible rfl
   try simp only [Act.put, s1q, s2q, s3q]
   refine take_in (i := 4) (v := ?_) rfl (by kernel_rfl) (by kernel_rfl) (by kernel_rfl) (fun _ _ _ h => h) (by rfl) ?_ hHeld ?_
   rotate_left
   ·intro w hSw
    (try dsimp only at hSw)
    go_simp
    try with_reducible rfl
   try simp only [Act.put, s1q, s2q, s3q]
   refine call_in (i := 1) rfl (by kernel_rfl) (fun K hK => ?_)
   clear hHeld
   go_simp
   refine (refNodes_is Tt _ 2000 _ HTt.out (by decide) NT HNT.out).mono ?_
   rintro e v15 ⟨rfl, hbq⟩
   replace HRt := mvR hbq HLt HRt
   replace HLt := mvL hbq HLt
   replace HRa := mvR hbq HLa HRa
   replace HLa := mvL hbq HLa
   replace HRb := mvR hbq HLb HRb
   replace HLb := mvL hbq HLb
   replace HRx := mvR hbq HLx HRx
   replace HLx := mvL hbq HLx
   replace HRy := mvR hbq HLy HRy
   replace HLy := mvL hbq HLy
   replace HTt := mvT hbq HTt
   replace HTa := mvT hbq HTa
   replace HTb := mvT hbq HTb
   replace HC := mvC hbq HC
   replace HV := mvC hbq HV
   clear hbq
   try (go_wp2_with fail)
   refine hK.out _ _ (hk.out _ HV.out) (fun hHeld => ?_)
   clear hK K
   try simp only [Act.put, s1q, s2q, s3q]
   refine call_in (i := 3) rfl (by kernel_rfl) (fun K hK => ?_)
   clear hHeld
   go_simp
   refine (bcount_v Nm.rightB 0 Tt _ _ HTt.out HMt.out (HCN.out.below HC.out) CT HCT.out).mono ?_
   rintro e v16 ⟨rfl, hbq⟩
   replace HRt := mvR hbq HLt HRt
   replace HLt := mvL hbq HLt
   replace HRa := mvR hbq HLa HRa
   replace HLa := mvL hbq HLa
   replace HRb := mvR hbq HLb HRb
   replace HLb := mvL hbq HLb
   replace HRx := mvR hbq HLx HRx
   replace HLx := mvL hbq HLx
   replace HRy := mvR hbq HLy HRy
   replace HLy := mvL hbq HLy
   replace HTt := mvT hbq HTt
   replace HTa := mvT hbq HTa
   replace HTb := mvT hbq HTb
   replace HC := mvC hbq HC
   replace HV := mvC hbq HV
   clear hbq
   try (go_wp2_with fail)
   refine hK.out _ _ (hk.out _ HV.out) (fun hHeld => ?_)
   clear hK K
   try simp only [Act.put, s1q, s2q, s3q]
   refine call_in (i := 5) rfl (by kernel_rfl) (fun K hK => ?_)
   clear hHeld
   go_simp
   refine (refNodes_is Ta _ 2000 _ HTa.out (by decide) NA HNA.out).mono ?_
   rintro e v17 ⟨rfl, hbq⟩
   replace HRt := mvR hbq HLt HRt
   replace HLt := mvL hbq HLt
   replace HRa := mvR hbq HLa HRa
   replace HLa := mvL hbq HLa
   replace HRb := mvR hbq HLb HRb
   replace HLb := mvL hbq HLb
   replace HRx := mvR hbq HLx HRx
   replace HLx := mvL hbq HLx
   replace HRy := mvR hbq HLy HRy
   replace HLy := mvL hbq HLy
   replace HTt := mvT hbq HTt
   replace HTa := mvT hbq HTa
   replace HTb := mvT hbq HTb
   replace HC := mvC hbq HC
   replace HV := mvC hbq HV
   clear hbq
   try (go_wp2_with fail)
   refine hK.out _ _ (hk.out _ HV.out) (fun hHeld => ?_)
   clear hK K
   try simp only [Act.put, s1q, s2q, s3q]
   obtain ⟨y1, y1'⟩ := HW1.out
   obtain ⟨y2, y2'⟩ := HW2.out
   obtain ⟨y3, y3'⟩ := HW3.out
   refine take_in (i := 6) (v := ?_) rfl (by kernel_rfl) (by kernel_rfl) (by kernel_rfl) (fun _ _ _ h => h) (by rfl) ?_ hHeld ?_
   rotate_left
   ·intro w hSw
    (try dsimp only at hSw)
    go_simp
    try with_reducible rfl
   try simp only [Act.put, s1q, s2q, s3q]
   refine take_in (i := 7) (v := ?_) rfl (by kernel_rfl) (by kernel_rfl) (by kernel_rfl) (fun _ _ _ h => h) (by rfl) ?_ hHeld ?_
   rotate_left
   ·intro w hSw
    (try dsimp only at hSw)
    go_simp
    try with_reducible rfl
   try simp only [Act.put, s1q, s2q, s3q]
   refine take_in (i := 8) (v := ?_) rfl (by kernel_rfl) (by kernel_rfl) (by kernel_rfl) (fun _ _ _ h => h) (by rfl) ?_ hHeld ?_
   rotate_left
   ·intro w hSw
    (try dsimp only at hSw)
    go_simp
    try with_reducible rfl
   try simp only [Act.put, s1q, s2q, s3q]
   refine take_in (i := 9) (v := ?_) rfl (by kernel_rfl) (by kernel_rfl) (by kernel_rfl) (fun _ _ _ h => h) (by rfl) ?_ hHeld ?_
   rotate_left
   ·intro w hSw
    (try dsimp only at hSw)
    go_simp
    try with_reducible rfl
   try simp only [Act.put, s1q, s2q, s3q]
   refine wpAnyH_done (by kernel_rfl) ?_ _
   clear HV hk
   have d9 := HD9.out
   go_wp2_with fail
   go_ret
   exact ⟨rfl, HC.out⟩
end Bnd
end Go.Proofs.YteomfakbbcpckaaGreatDoor
