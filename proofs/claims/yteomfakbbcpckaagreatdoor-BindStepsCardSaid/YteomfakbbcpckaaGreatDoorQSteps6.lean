/-
 The law BindSteps, walked: whatever comes in, it returns true, and nothing that was there turns.
 Conditions: the terms lie in memory as told by 'TmV', their names take at most 2^47 bytes each; name.Right's contract; the laws' own check 'alive' returns true.
-/
import Derived.Test.YteomfakbbcpckaaGreatDoorJ32
import Derived.Test.YteomfakbbcpckaaGreatDoorJ07
namespace Go.Proofs.YteomfakbbcpckaaGreatDoor
open Go.RowKit
open Lvl
open Trm
namespace Bnd
theorem steps_le {t a b x : Tm} {n : Bool} (hq : (rightT Nm.rightB 4 t 1125899906842624 && (areB Nm.rightB [a, b] && n)) = true) (hx : x = subT (instF [a, b]) t 0) : looseR x ≤ max (max (looseR t - 2) (looseR a)) (looseR b) := by
 obtain ⟨h1, h2, _⟩ := and3 hq
 obtain ⟨ha, hb⟩ := are2 h2
 obtain ⟨_, _, k1⟩ := rightT_ok h1
 obtain ⟨_, _, ka⟩ := rightT_ok ha
 obtain ⟨_, _, kb⟩ := rightT_ok hb
 have := inst_lo [a, b] (max (loT a 0) (loT b 0)) (by have := loT_pos a 0; omega) (fun c hc => by
  rcases List.mem_cons.1 hc with rfl | hc
  ·exact ⟨by omega, _, ka⟩
  ·obtain rfl : c = b := by simpa using hc
   exact ⟨by omega, _, kb⟩) t _ 0 k1
 rw [← hx] at this
 have hl := (looseR_le (x := x)).2.1
 rw [looseR_right h1, looseR_right ha, looseR_right hb]
 simp only [List.length_cons, List.length_nil] at this
 rw [show ((0 : Nat) : Int) = 0 from rfl] at this
 omega
theorem steps_eq {t a b : Tm} {n : Bool} (hq : (rightT Nm.rightB 4 t 1125899906842624 && (areB Nm.rightB [a, b] && n)) = true) : subT (instF [a]) (subT (instF [subT (raF 1 0) b 0]) t 0) 0 = subT (instF [a, b]) t 0 := by
 obtain ⟨h1, h2, _⟩ := and3 hq
 obtain ⟨ha, hb⟩ := are2 h2
 obtain ⟨_, _, k1⟩ := rightT_ok h1
 obtain ⟨_, _, kb⟩ := rightT_ok hb
 exact inst_steps a b k1 kb
set_option maxRecDepth 100000 in
set_option maxHeartbeats 4000000 in
theorem bindSteps_any (Tt Ta Tb : Tm) (Vt Va Vb : Value) (w : World) (AL : ∀ w', Below w.heap.size w w' → Calls Tryz.prog 9 #[] w' (Ret w' (.bool true))) (CN : NameC w Nm.rightB) (ht : TmV w Tt Vt) (mt9 : nmOk Tt) (ha : TmV w Ta Va) (ma9 : nmOk Ta) (hb : TmV w Tb Vb) (mb9 : nmOk Tb) :
  Calls Tryz.prog 4 #[Vt, Va, Vb] w (Ret w (.bool true)) := by
 have HAL := Lib.hid AL
 have HCN := Lib.hid CN
 clear AL CN
 obtain ⟨kt, nt, mt, t1, t2, t3, t4, t5, t6, rfl⟩ := tmV_open ht
 have HTt := Lib.hid ht
 have HMt := Lib.hid mt9
 clear ht mt9
 obtain ⟨ka, na, ma, a1, a2, a3, a4, a5, a6, rfl⟩ := tmV_open ha
 have HTa := Lib.hid ha
 have HMa := Lib.hid ma9
 clear ha ma9
 obtain ⟨kb, nb, mb, b1, b2, b3, b4, b5, b6, rfl⟩ := tmV_open hb
 have HTb := Lib.hid hb
 have HMb := Lib.hid mb9
 clear hb mb9
 go_enter Tryz.func4, Tryz.ntmps4
 go_wp2_with fail
 have z1 : (w.alloc (.cells #[.int .i64 kt, .int .i64 nt, .string mt, .slice t1 t2 t3, .slice t4 t5 t6] 25)).heap.size = w.heap.size + 1 := by simp
 have z2 : ((w.alloc (.cells #[.int .i64 kt, .int .i64 nt, .string mt, .slice t1 t2 t3, .slice t4 t5 t6] 25)).alloc (.cells #[.int .i64 ka, .int .i64 na, .string ma, .slice a1 a2 a3, .slice a4 a5 a6] 25)).heap.size = w.heap.size + 1 + 1 := by simp
 have z3 : (((w.alloc (.cells #[.int .i64 kt, .int .i64 nt, .string mt, .slice t1 t2 t3, .slice t4 t5 t6] 25)).alloc (.cells #[.int .i64 ka, .int .i64 na, .string ma, .slice a1 a2 a3, .slice a4 a5 a6] 25)).alloc (.cells #[.int .i64 kb, .int .i64 nb, .string mb, .slice b1 b2 b3, .slice b4 b5 b6] 25)).heap.size = w.heap.size + 1 + 1 + 1 := by simp
 have r0 : (w.alloc (.cells #[.int .i64 kt, .int .i64 nt, .string mt, .slice t1 t2 t3, .slice t4 t5 t6] 25)).heap[w.heap.size]? = some (Obj.cells #[.int .i64 kt, .int .i64 nt, .string mt, .slice t1 t2 t3, .slice t4 t5 t6] 25 (0, 0)) := by
  have := heap_alloc_new w (.cells #[.int .i64 kt, .int .i64 nt, .string mt, .slice t1 t2 t3, .slice t4 t5 t6] 25)
  exact this
 have r1 : ((w.alloc (.cells #[.int .i64 kt, .int .i64 nt, .string mt, .slice t1 t2 t3, .slice t4 t5 t6] 25)).alloc (.cells #[.int .i64 ka, .int .i64 na, .string ma, .slice a1 a2 a3, .slice a4 a5 a6] 25)).heap[w.heap.size + 1]? = some (Obj.cells #[.int .i64 ka, .int .i64 na, .string ma, .slice a1 a2 a3, .slice a4 a5 a6] 25 (0, 0)) := by
  have := heap_alloc_new (w.alloc (.cells #[.int .i64 kt, .int .i64 nt, .string mt, .slice t1 t2 t3, .slice t4 t5 t6] 25)) (.cells #[.int .i64 ka, .int .i64 na, .string ma, .slice a1 a2 a3, .slice a4 a5 a6] 25)
  rwa [z1] at this
 have r2 : (((w.alloc (.cells #[.int .i64 kt, .int .i64 nt, .string mt, .slice t1 t2 t3, .slice t4 t5 t6] 25)).alloc (.cells #[.int .i64 ka, .int .i64 na, .string ma, .slice a1 a2 a3, .slice a4 a5 a6] 25)).alloc (.cells #[.int .i64 kb, .int .i64 nb, .string mb, .slice b1 b2 b3, .slice b4 b5 b6] 25)).heap[w.heap.size + 1 + 1]? = some (Obj.cells #[.int .i64 kb, .int .i64 nb, .string mb, .slice b1 b2 b3, .slice b4 b5 b6] 25 (0, 0)) := by
  have := heap_alloc_new ((w.alloc (.cells #[.int .i64 kt, .int .i64 nt, .string mt, .slice t1 t2 t3, .slice t4 t5 t6] 25)).alloc (.cells #[.int .i64 ka, .int .i64 na, .string ma, .slice a1 a2 a3, .slice a4 a5 a6] 25)) (.cells #[.int .i64 kb, .int .i64 nb, .string mb, .slice b1 b2 b3, .slice b4 b5 b6] 25)
  rwa [z2] at this
 have HB := Lib.hid (((below_lit w (.cells #[.int .i64 kt, .int .i64 nt, .string mt, .slice t1 t2 t3, .slice t4 t5 t6] 25)).trans ((below_lit (w.alloc (.cells #[.int .i64 kt, .int .i64 nt, .string mt, .slice t1 t2 t3, .slice t4 t5 t6] 25)) (.cells #[.int .i64 ka, .int .i64 na, .string ma, .slice a1 a2 a3, .slice a4 a5 a6] 25)).mono (below_lit w (.cells #[.int .i64 kt, .int .i64 nt, .string mt, .slice t1 t2 t3, .slice t4 t5 t6] 25)).size)).trans ((below_lit ((w.alloc (.cells #[.int .i64 kt, .int .i64 nt, .string mt, .slice t1 t2 t3, .slice t4 t5 t6] 25)).alloc (.cells #[.int .i64 ka, .int .i64 na, .string ma, .slice a1 a2 a3, .slice a4 a5 a6] 25)) (.cells #[.int .i64 kb, .int .i64 nb, .string mb, .slice b1 b2 b3, .slice b4 b5 b6] 25)).mono ((below_lit w (.cells #[.int .i64 kt, .int .i64 nt, .string mt, .slice t1 t2 t3, .slice t4 t5 t6] 25)).trans ((below_lit (w.alloc (.cells #[.int .i64 kt, .int .i64 nt, .string mt, .slice t1 t2 t3, .slice t4 t5 t6] 25)) (.cells #[.int .i64 ka, .int .i64 na, .string ma, .slice a1 a2 a3, .slice a4 a5 a6] 25)).mono (below_lit w (.cells #[.int .i64 kt, .int .i64 nt, .string mt, .slice t1 t2 t3, .slice t4 t5 t6] 25)).size)).size))
 have HR0 := Lib.hid ((heap_alloc_old ((w.alloc (.cells #[.int .i64 kt, .int .i64 nt, .string mt, .slice t1 t2 t3, .slice t4 t5 t6] 25)).alloc (.cells #[.int .i64 ka, .int .i64 na, .string ma, .slice a1 a2 a3, .slice a4 a5 a6] 25)) (.cells #[.int .i64 kb, .int .i64 nb, .string mb, .slice b1 b2 b3, .slice b4 b5 b6] 25) (by rw [z2]; omega)).trans ((heap_alloc_old (w.alloc (.cells #[.int .i64 kt, .int .i64 nt, .string mt, .slice t1 t2 t3, .slice t4 t5 t6] 25)) (.cells #[.int .i64 ka, .int .i64 na, .string ma, .slice a1 a2 a3, .slice a4 a5 a6] 25) (by rw [z1]; omega)).trans (r0)))
 have HR1 := Lib.hid ((heap_alloc_old ((w.alloc (.cells #[.int .i64 kt, .int .i64 nt, .string mt, .slice t1 t2 t3, .slice t4 t5 t6] 25)).alloc (.cells #[.int .i64 ka, .int .i64 na, .string ma, .slice a1 a2 a3, .slice a4 a5 a6] 25)) (.cells #[.int .i64 kb, .int .i64 nb, .string mb, .slice b1 b2 b3, .slice b4 b5 b6] 25) (by rw [z2]; omega)).trans (r1))
 have HR2 := Lib.hid (r2)
 clear r0 r1 r2
 generalize (((w.alloc (.cells #[.int .i64 kt, .int .i64 nt, .string mt, .slice t1 t2 t3, .slice t4 t5 t6] 25)).alloc (.cells #[.int .i64 ka, .int .i64 na, .string ma, .slice a1 a2 a3, .slice a4 a5 a6] 25)).alloc (.cells #[.int .i64 kb, .int .i64 nb, .string mb, .slice b1 b2 b3, .slice b4 b5 b6] 25)) = W5 at *
 have HZ := Lib.hid z3
 clear z1 z2 z3
 have HC := Lib.hid HB.out
 have HRt := HR0
 have HLt : Hid (w.heap.size < W5.heap.size) := by
  have : w.heap.size < W5.heap.size := by have := HZ.out; omega
  exact this
 replace HTt := Lib.hid (HTt.out.below HB.out)
 have HRa := HR1
 have HLa : Hid (w.heap.size + 1 < W5.heap.size) := by
  have : w.heap.size + 1 < W5.heap.size := by have := HZ.out; omega
  exact this
 replace HTa := Lib.hid (HTa.out.below HB.out)
 have HRb := HR2
 have HLb : Hid (w.heap.size + 1 + 1 < W5.heap.size) := by
  have : w.heap.size + 1 + 1 < W5.heap.size := by have := HZ.out; omega
  exact this
 replace HTb := Lib.hid (HTb.out.below HB.out)
 clear HB HZ HR0 HR1 HR2
 refine (HAL.out _ HC.out).mono ?_
 rintro e v1 ⟨rfl, hbq⟩
 replace HRt := mvR hbq HLt HRt
 replace HLt := mvL hbq HLt
 replace HRa := mvR hbq HLa HRa
 replace HLa := mvL hbq HLa
 replace HRb := mvR hbq HLb HRb
 replace HLb := mvL hbq HLb
 replace HTt := mvT hbq HTt
 replace HTa := mvT hbq HTa
 replace HTb := mvT hbq HTb
 replace HC := mvC hbq HC
 clear hbq
 obtain ⟨ct0, ct1, ct2, ct3, ct4⟩ := five_cells HRt.out
 obtain ⟨ca0, ca1, ca2, ca3, ca4⟩ := five_cells HRa.out
 obtain ⟨cb0, cb1, cb2, cb3, cb4⟩ := five_cells HRb.out
 have hbq := below_lit v1 (.cells #[.int .i64 ka, .int .i64 na, .string ma, .slice a1 a2 a3, .slice a4 a5 a6, .int .i64 kb, .int .i64 nb, .string mb, .slice b1 b2 b3, .slice b4 b5 b6] 25)
 have hts := Lib.hid (tsP_v2 HTa.out HTb.out)
 go_wp2_with fail
 clear ct0 ct1 ct2 ct3 ct4 ca0 ca1 ca2 ca3 ca4 cb0 cb1 cb2 cb3 cb4
 generalize hgw : v1.alloc (.cells #[.int .i64 ka, .int .i64 na, .string ma, .slice a1 a2 a3, .slice a4 a5 a6, .int .i64 kb, .int .i64 nb, .string mb, .slice b1 b2 b3, .slice b4 b5 b6] 25) = v2 at *
 clear hgw
 replace HRt := mvR hbq HLt HRt
 replace HLt := mvL hbq HLt
 replace HRa := mvR hbq HLa HRa
 replace HLa := mvL hbq HLa
 replace HRb := mvR hbq HLb HRb
 replace HLb := mvL hbq HLb
 replace HTt := mvT hbq HTt
 replace HTa := mvT hbq HTa
 replace HTb := mvT hbq HTb
 replace HC := mvC hbq HC
 clear hbq
 refine (great_v Tt _ [Ta, Tb] _ 2 2 _ HTt.out HMt.out hts.out rfl (by decide) (by rw [nmOkL, nmOkL, nmOkL]; exact ⟨HMa.out, HMb.out, trivial⟩)).mono ?_
 rintro e v3 ⟨b9, _, rfl, hbq⟩
 replace HRt := mvR hbq HLt HRt
 replace HLt := mvL hbq HLt
 replace HRa := mvR hbq HLa HRa
 replace HLa := mvL hbq HLa
 replace HRb := mvR hbq HLb HRb
 replace HLb := mvL hbq HLb
 replace HTt := mvT hbq HTt
 replace HTa := mvT hbq HTa
 replace HTb := mvT hbq HTb
 replace HC := mvC hbq HC
 clear hbq hts
 cases b9 with
 | true =>
  obtain ⟨ct0, ct1, ct2, ct3, ct4⟩ := five_cells HRt.out
  obtain ⟨ca0, ca1, ca2, ca3, ca4⟩ := five_cells HRa.out
  obtain ⟨cb0, cb1, cb2, cb3, cb4⟩ := five_cells HRb.out
  go_wp2_with fail
  go_ret
  exact ⟨rfl, HC.out⟩
 | false =>
 obtain ⟨q1, hq⟩ : ∃ q, (rightT Nm.rightB 4 Tt 1125899906842624 && (areB Nm.rightB [Ta, Tb] && decide (tnodes (subT (instF [Ta, Tb]) Tt 0) ≤ 2000))) = q := ⟨_, rfl⟩
 have HQ1 := Lib.hid hq
 clear hq
 obtain ⟨ct0, ct1, ct2, ct3, ct4⟩ := five_cells HRt.out
 obtain ⟨ca0, ca1, ca2, ca3, ca4⟩ := five_cells HRa.out
 obtain ⟨cb0, cb1, cb2, cb3, cb4⟩ := five_cells HRb.out
 have hbq := below_lit v3 (.cells #[.int .i64 ka, .int .i64 na, .string ma, .slice a1 a2 a3, .slice a4 a5 a6, .int .i64 kb, .int .i64 nb, .string mb, .slice b1 b2 b3, .slice b4 b5 b6] 25)
 have hts := Lib.hid (tsP_v2 HTa.out HTb.out)
 go_wp2_with fail
 clear ct0 ct1 ct2 ct3 ct4 ca0 ca1 ca2 ca3 ca4 cb0 cb1 cb2 cb3 cb4
 generalize hgw : v3.alloc (.cells #[.int .i64 ka, .int .i64 na, .string ma, .slice a1 a2 a3, .slice a4 a5 a6, .int .i64 kb, .int .i64 nb, .string mb, .slice b1 b2 b3, .slice b4 b5 b6] 25) = v4 at *
 clear hgw
 replace HRt := mvR hbq HLt HRt
 replace HLt := mvL hbq HLt
 replace HRa := mvR hbq HLa HRa
 replace HLa := mvL hbq HLa
 replace HRb := mvR hbq HLb HRb
 replace HLb := mvL hbq HLb
 replace HTt := mvT hbq HTt
 replace HTa := mvT hbq HTa
 replace HTb := mvT hbq HTb
 replace HC := mvC hbq HC
 clear hbq
 refine (inst_v Nm.rightB Tt _ _ 2 2 [Ta, Tb] _ HTt.out HMt.out hts.out rfl (by decide) (by rw [nmOkL, nmOkL, nmOkL]; exact ⟨HMa.out, HMb.out, trivial⟩) (HCN.out.below HC.out) q1 HQ1.out).mono ?_
 intro e v5 hret
 obtain ⟨Tx, kx, nx, mx, x1, x2, x3, x4, x5, x6, rfl, hbq, hX, hN, hE⟩ := bret_tm hret (nm_inst [Ta, Tb] (by rw [nmOkL, nmOkL, nmOkL]; exact ⟨HMa.out, HMb.out, trivial⟩) Tt 0 HMt.out)
 clear hret
 replace HRt := mvR hbq HLt HRt
 replace HLt := mvL hbq HLt
 replace HRa := mvR hbq HLa HRa
 replace HLa := mvL hbq HLa
 replace HRb := mvR hbq HLb HRb
 replace HLb := mvL hbq HLb
 replace HTt := mvT hbq HTt
 replace HTa := mvT hbq HTa
 replace HTb := mvT hbq HTb
 replace HC := mvC hbq HC
 have HTx := Lib.hid hX.out
 have HMx := Lib.hid hN.out
 have HEx := Lib.hid hE.out
 clear hbq hX hN hE hts
 have hbq := below_lit v5 (.cells #[.int .i64 kx, .int .i64 nx, .string mx, .slice x1 x2 x3, .slice x4 x5 x6] 25)
 have hrx := heap_alloc_new v5 (.cells #[.int .i64 kx, .int .i64 nx, .string mx, .slice x1 x2 x3, .slice x4 x5 x6] 25)
 have hlx : v5.heap.size < (v5.alloc (.cells #[.int .i64 kx, .int .i64 nx, .string mx, .slice x1 x2 x3, .slice x4 x5 x6] 25)).heap.size := by simp
 obtain ⟨cb0, cb1, cb2, cb3, cb4⟩ := five_cells ((hbq.block _ HLb.out).trans HRb.out)
 go_wp2_with fail
 clear cb0 cb1 cb2 cb3 cb4
 generalize hgw : v5.alloc (.cells #[.int .i64 kx, .int .i64 nx, .string mx, .slice x1 x2 x3, .slice x4 x5 x6] 25) = v6 at *
 clear hgw
 replace HRt := mvR hbq HLt HRt
 replace HLt := mvL hbq HLt
 replace HRa := mvR hbq HLa HRa
 replace HLa := mvL hbq HLa
 replace HRb := mvR hbq HLb HRb
 replace HLb := mvL hbq HLb
 replace HTt := mvT hbq HTt
 replace HTa := mvT hbq HTa
 replace HTb := mvT hbq HTb
 replace HTx := mvT hbq HTx
 replace HC := mvC hbq HC
 have HRx := Lib.hid hrx
 have HLx := Lib.hid hlx
 clear hbq hrx hlx
 generalize hgb : v5.heap.size = Bx at *
 clear hgb
 obtain ⟨q2, hq⟩ : ∃ q, (!farB 1 && (!farB 0 && rightT Nm.rightB 4 Tb 1125899906842624)) = q := ⟨_, rfl⟩
 have HQ2 := Lib.hid hq
 clear hq
 refine (lift_v Nm.rightB 1 0 Tb _ _ HTb.out HMb.out (HCN.out.below HC.out) q2 HQ2.out).mono ?_
 intro e v7 hret
 obtain ⟨Tu, ku, nu, mu, u1, u2, u3, u4, u5, u6, rfl, hbq, hX, hN, hE⟩ := bret_tm hret (nm_ra 1 0 Tb 0 HMb.out)
 clear hret
 replace HRt := mvR hbq HLt HRt
 replace HLt := mvL hbq HLt
 replace HRa := mvR hbq HLa HRa
 replace HLa := mvL hbq HLa
 replace HRb := mvR hbq HLb HRb
 replace HLb := mvL hbq HLb
 replace HRx := mvR hbq HLx HRx
 replace HLx := mvL hbq HLx
 replace HTt := mvT hbq HTt
 replace HTa := mvT hbq HTa
 replace HTb := mvT hbq HTb
 replace HTx := mvT hbq HTx
 replace HC := mvC hbq HC
 have HTu := Lib.hid hX.out
 have HMu := Lib.hid hN.out
 have HEu := Lib.hid hE.out
 clear hbq hX hN hE 
 have hbq := below_lit v7 (.cells #[.int .i64 ku, .int .i64 nu, .string mu, .slice u1 u2 u3, .slice u4 u5 u6] 25)
 have hrx := heap_alloc_new v7 (.cells #[.int .i64 ku, .int .i64 nu, .string mu, .slice u1 u2 u3, .slice u4 u5 u6] 25)
 have hlx : v7.heap.size < (v7.alloc (.cells #[.int .i64 ku, .int .i64 nu, .string mu, .slice u1 u2 u3, .slice u4 u5 u6] 25)).heap.size := by simp
 obtain ⟨ct0, ct1, ct2, ct3, ct4⟩ := five_cells ((hbq.block _ HLt.out).trans HRt.out)
 obtain ⟨cu0, cu1, cu2, cu3, cu4⟩ := five_cells hrx
 have hb6 := below_lit (v7.alloc (.cells #[.int .i64 ku, .int .i64 nu, .string mu, .slice u1 u2 u3, .slice u4 u5 u6] 25)) (.cells #[.int .i64 ku, .int .i64 nu, .string mu, .slice u1 u2 u3, .slice u4 u5 u6] 25)
 have hts0 := tsP_v1 (HTu.out.below hbq)
 rw [show (v7.alloc (.cells #[.int .i64 ku, .int .i64 nu, .string mu, .slice u1 u2 u3, .slice u4 u5 u6] 25)).heap.size = v7.heap.size + 1 by simp] at hts0
 have hts := Lib.hid hts0
 clear hts0
 go_wp2_with fail
 clear ct0 ct1 ct2 ct3 ct4 cu0 cu1 cu2 cu3 cu4
 generalize hgw : v7.alloc (.cells #[.int .i64 ku, .int .i64 nu, .string mu, .slice u1 u2 u3, .slice u4 u5 u6] 25) = v8 at *
 clear hgw
 replace HRt := mvR hbq HLt HRt
 replace HLt := mvL hbq HLt
 replace HRa := mvR hbq HLa HRa
 replace HLa := mvL hbq HLa
 replace HRb := mvR hbq HLb HRb
 replace HLb := mvL hbq HLb
 replace HRx := mvR hbq HLx HRx
 replace HLx := mvL hbq HLx
 replace HTt := mvT hbq HTt
 replace HTa := mvT hbq HTa
 replace HTb := mvT hbq HTb
 replace HTx := mvT hbq HTx
 replace HTu := mvT hbq HTu
 replace HC := mvC hbq HC
 have HRu := Lib.hid hrx
 have HLu := Lib.hid hlx
 clear hbq hrx hlx
 generalize hgb : v7.heap.size = Bu at *
 clear hgb
 generalize hgw : v8.alloc (.cells #[.int .i64 ku, .int .i64 nu, .string mu, .slice u1 u2 u3, .slice u4 u5 u6] 25) = v9 at *
 clear hgw
 have hbq := hb6
 replace HRt := mvR hbq HLt HRt
 replace HLt := mvL hbq HLt
 replace HRa := mvR hbq HLa HRa
 replace HLa := mvL hbq HLa
 replace HRb := mvR hbq HLb HRb
 replace HLb := mvL hbq HLb
 replace HRx := mvR hbq HLx HRx
 replace HLx := mvL hbq HLx
 replace HRu := mvR hbq HLu HRu
 replace HLu := mvL hbq HLu
 replace HTt := mvT hbq HTt
 replace HTa := mvT hbq HTa
 replace HTb := mvT hbq HTb
 replace HTx := mvT hbq HTx
 replace HTu := mvT hbq HTu
 replace HC := mvC hbq HC
 clear hbq hb6
 obtain ⟨q3, hq⟩ : ∃ q, (rightT Nm.rightB 4 Tt 1125899906842624 && (areB Nm.rightB [Tu] && decide (tnodes (subT (instF [Tu]) Tt 0) ≤ 2000))) = q := ⟨_, rfl⟩
 have HQ3 := Lib.hid hq
 clear hq
 refine (inst_v Nm.rightB Tt _ _ 1 1 [Tu] _ HTt.out HMt.out hts.out rfl (by decide) (by rw [nmOkL, nmOkL]; exact ⟨HMu.out, trivial⟩) (HCN.out.below HC.out) q3 HQ3.out).mono ?_
 intro e v10 hret
 obtain ⟨Tf, kf, nf, mf, f1, f2, f3, f4, f5, f6, rfl, hbq, hX, hN, hE⟩ := bret_tm hret (nm_inst [Tu] (by rw [nmOkL, nmOkL]; exact ⟨HMu.out, trivial⟩) Tt 0 HMt.out)
 clear hret
 replace HRt := mvR hbq HLt HRt
 replace HLt := mvL hbq HLt
 replace HRa := mvR hbq HLa HRa
 replace HLa := mvL hbq HLa
 replace HRb := mvR hbq HLb HRb
 replace HLb := mvL hbq HLb
 replace HRx := mvR hbq HLx HRx
 replace HLx := mvL hbq HLx
 replace HRu := mvR hbq HLu HRu
 replace HLu := mvL hbq HLu
 replace HTt := mvT hbq HTt
 replace HTa := mvT hbq HTa
 replace HTb := mvT hbq HTb
 replace HTx := mvT hbq HTx
 replace HTu := mvT hbq HTu
 replace HC := mvC hbq HC
 have HTf := Lib.hid hX.out
 have HMf := Lib.hid hN.out
 have HEf := Lib.hid hE.out
 clear hbq hX hN hE hts
 have hbq := below_lit v10 (.cells #[.int .i64 kf, .int .i64 nf, .string mf, .slice f1 f2 f3, .slice f4 f5 f6] 25)
 have hrx := heap_alloc_new v10 (.cells #[.int .i64 kf, .int .i64 nf, .string mf, .slice f1 f2 f3, .slice f4 f5 f6] 25)
 have hlx : v10.heap.size < (v10.alloc (.cells #[.int .i64 kf, .int .i64 nf, .string mf, .slice f1 f2 f3, .slice f4 f5 f6] 25)).heap.size := by simp
 obtain ⟨cf0, cf1, cf2, cf3, cf4⟩ := five_cells hrx
 obtain ⟨ca0, ca1, ca2, ca3, ca4⟩ := five_cells ((hbq.block _ HLa.out).trans HRa.out)
 have hb6 := below_lit (v10.alloc (.cells #[.int .i64 kf, .int .i64 nf, .string mf, .slice f1 f2 f3, .slice f4 f5 f6] 25)) (.cells #[.int .i64 ka, .int .i64 na, .string ma, .slice a1 a2 a3, .slice a4 a5 a6] 25)
 have hts0 := tsP_v1 (HTa.out.below hbq)
 rw [show (v10.alloc (.cells #[.int .i64 kf, .int .i64 nf, .string mf, .slice f1 f2 f3, .slice f4 f5 f6] 25)).heap.size = v10.heap.size + 1 by simp] at hts0
 have hts := Lib.hid hts0
 clear hts0
 go_wp2_with fail
 clear cf0 cf1 cf2 cf3 cf4 ca0 ca1 ca2 ca3 ca4
 generalize hgw : v10.alloc (.cells #[.int .i64 kf, .int .i64 nf, .string mf, .slice f1 f2 f3, .slice f4 f5 f6] 25) = v11 at *
 clear hgw
 replace HRt := mvR hbq HLt HRt
 replace HLt := mvL hbq HLt
 replace HRa := mvR hbq HLa HRa
 replace HLa := mvL hbq HLa
 replace HRb := mvR hbq HLb HRb
 replace HLb := mvL hbq HLb
 replace HRx := mvR hbq HLx HRx
 replace HLx := mvL hbq HLx
 replace HRu := mvR hbq HLu HRu
 replace HLu := mvL hbq HLu
 replace HTt := mvT hbq HTt
 replace HTa := mvT hbq HTa
 replace HTb := mvT hbq HTb
 replace HTx := mvT hbq HTx
 replace HTu := mvT hbq HTu
 replace HTf := mvT hbq HTf
 replace HC := mvC hbq HC
 have HRf := Lib.hid hrx
 have HLf := Lib.hid hlx
 clear hbq hrx hlx
 generalize hgb : v10.heap.size = Bf at *
 clear hgb
 generalize hgw : v11.alloc (.cells #[.int .i64 ka, .int .i64 na, .string ma, .slice a1 a2 a3, .slice a4 a5 a6] 25) = v12 at *
 clear hgw
 have hbq := hb6
 replace HRt := mvR hbq HLt HRt
 replace HLt := mvL hbq HLt
 replace HRa := mvR hbq HLa HRa
 replace HLa := mvL hbq HLa
 replace HRb := mvR hbq HLb HRb
 replace HLb := mvL hbq HLb
 replace HRx := mvR hbq HLx HRx
 replace HLx := mvL hbq HLx
 replace HRu := mvR hbq HLu HRu
 replace HLu := mvL hbq HLu
 replace HRf := mvR hbq HLf HRf
 replace HLf := mvL hbq HLf
 replace HTt := mvT hbq HTt
 replace HTa := mvT hbq HTa
 replace HTb := mvT hbq HTb
 replace HTx := mvT hbq HTx
 replace HTu := mvT hbq HTu
 replace HTf := mvT hbq HTf
 replace HC := mvC hbq HC
 clear hbq hb6
 obtain ⟨q4, hq⟩ : ∃ q, (rightT Nm.rightB 4 Tf 1125899906842624 && (areB Nm.rightB [Ta] && decide (tnodes (subT (instF [Ta]) Tf 0) ≤ 2000))) = q := ⟨_, rfl⟩
 have HQ4 := Lib.hid hq
 clear hq
 refine (inst_v Nm.rightB Tf _ _ 1 1 [Ta] _ HTf.out HMf.out hts.out rfl (by decide) (by rw [nmOkL, nmOkL]; exact ⟨HMa.out, trivial⟩) (HCN.out.below HC.out) q4 HQ4.out).mono ?_
 intro e v13 hret
 obtain ⟨Ty, ky, ny, my, y1, y2, y3, y4, y5, y6, rfl, hbq, hX, hN, hE⟩ := bret_tm hret (nm_inst [Ta] (by rw [nmOkL, nmOkL]; exact ⟨HMa.out, trivial⟩) Tf 0 HMf.out)
 clear hret
 replace HRt := mvR hbq HLt HRt
 replace HLt := mvL hbq HLt
 replace HRa := mvR hbq HLa HRa
 replace HLa := mvL hbq HLa
 replace HRb := mvR hbq HLb HRb
 replace HLb := mvL hbq HLb
 replace HRx := mvR hbq HLx HRx
 replace HLx := mvL hbq HLx
 replace HRu := mvR hbq HLu HRu
 replace HLu := mvL hbq HLu
 replace HRf := mvR hbq HLf HRf
 replace HLf := mvL hbq HLf
 replace HTt := mvT hbq HTt
 replace HTa := mvT hbq HTa
 replace HTb := mvT hbq HTb
 replace HTx := mvT hbq HTx
 replace HTu := mvT hbq HTu
 replace HTf := mvT hbq HTf
 replace HC := mvC hbq HC
 have HTy := Lib.hid hX.out
 have HMy := Lib.hid hN.out
 have HEy := Lib.hid hE.out
 clear hbq hX hN hE hts
 cases q1 with
 | false =>
  have hbq := below_lit v13 (.cells #[.int .i64 ky, .int .i64 ny, .string my, .slice y1 y2 y3, .slice y4 y5 y6] 25)
  have hrx := heap_alloc_new v13 (.cells #[.int .i64 ky, .int .i64 ny, .string my, .slice y1 y2 y3, .slice y4 y5 y6] 25)
  have hlx : v13.heap.size < (v13.alloc (.cells #[.int .i64 ky, .int .i64 ny, .string my, .slice y1 y2 y3, .slice y4 y5 y6] 25)).heap.size := by simp
  go_upto_region 11 with fail
  generalize hgw : v13.alloc (.cells #[.int .i64 ky, .int .i64 ny, .string my, .slice y1 y2 y3, .slice y4 y5 y6] 25) = v14 at *
  clear hgw
  replace HRt := mvR hbq HLt HRt
  replace HLt := mvL hbq HLt
  replace HRa := mvR hbq HLa HRa
  replace HLa := mvL hbq HLa
  replace HRb := mvR hbq HLb HRb
  replace HLb := mvL hbq HLb
  replace HRx := mvR hbq HLx HRx
  replace HLx := mvL hbq HLx
  replace HRu := mvR hbq HLu HRu
  replace HLu := mvL hbq HLu
  replace HRf := mvR hbq HLf HRf
  replace HLf := mvL hbq HLf
  replace HTt := mvT hbq HTt
  replace HTa := mvT hbq HTa
  replace HTb := mvT hbq HTb
  replace HTx := mvT hbq HTx
  replace HTu := mvT hbq HTu
  replace HTf := mvT hbq HTf
  replace HTy := mvT hbq HTy
  replace HC := mvC hbq HC
  have HRy := Lib.hid hrx
  have HLy := Lib.hid hlx
  clear hbq hrx hlx
  generalize hgb : v13.heap.size = By at *
  clear hgb
  have hk : Hid (∀ W', Below v14.heap.size v14 W' → W'.cell? ⟨w.heap.size, 0, none⟩ = some (.int .i64 kt) ∧ W'.cell? ⟨w.heap.size, 1, none⟩ = some (.int .i64 nt) ∧ W'.cell? ⟨w.heap.size, 2, none⟩ = some (.string mt) ∧ W'.cell? ⟨w.heap.size, 3, none⟩ = some (.slice t1 t2 t3) ∧ W'.cell? ⟨w.heap.size, 4, none⟩ = some (.slice t4 t5 t6)) := fun W' h => by
   obtain ⟨qt0, qt1, qt2, qt3, qt4⟩ := five_cells ((h.block _ HLt.out).trans HRt.out)
   exact ⟨qt0, qt1, qt2, qt3, qt4⟩
  refine wp_region_held_drew (S := fun W' => W'.cell? ⟨w.heap.size, 0, none⟩ = some (.int .i64 kt) ∧ W'.cell? ⟨w.heap.size, 1, none⟩ = some (.int .i64 nt) ∧ W'.cell? ⟨w.heap.size, 2, none⟩ = some (.string mt) ∧ W'.cell? ⟨w.heap.size, 3, none⟩ = some (.slice t1 t2 t3) ∧ W'.cell? ⟨w.heap.size, 4, none⟩ = some (.slice t4 t5 t6)) (by kernel_rfl) (hk.out _ ((Below.refl _ _).drew)) (fun hHeld => ?_)
  have HV := Lib.hid ((Below.refl v14.heap.size v14).drew)
  have hbq := HV.out
  replace HRt := mvR hbq HLt HRt
  replace HLt := mvL hbq HLt
  replace HRa := mvR hbq HLa HRa
  replace HLa := mvL hbq HLa
  replace HRb := mvR hbq HLb HRb
  replace HLb := mvL hbq HLb
  replace HRx := mvR hbq HLx HRx
  replace HLx := mvL hbq HLx
  replace HRu := mvR hbq HLu HRu
  replace HLu := mvL hbq HLu
  replace HRf := mvR hbq HLf HRf
  replace HLf := mvL hbq HLf
  replace HRy := mvR hbq HLy HRy
  replace HLy := mvL hbq HLy
  replace HTt := mvT hbq HTt
  replace HTa := mvT hbq HTa
  replace HTb := mvT hbq HTb
  replace HTx := mvT hbq HTx
  replace HTu := mvT hbq HTu
  replace HTf := mvT hbq HTf
  replace HTy := mvT hbq HTy
  replace HC := mvC hbq HC
  clear hbq
  generalize v14.drew = v15 at *
  refine take_in (i := 0) (v := ?_) rfl (by kernel_rfl) (by kernel_rfl) (by kernel_rfl) (fun _ _ _ h => h) (by rfl) ?_ hHeld ?_
  rotate_left
  ·intro w hSw
   (try dsimp only at hSw)
   go_simp
   try with_reducible rfl
  try simp only [Act.put, s1q, s2q, s3q]
  refine take_in (i := 1) (v := ?_) rfl (by kernel_rfl) (by kernel_rfl) (by kernel_rfl) (fun _ _ _ h => h) (by rfl) ?_ hHeld ?_
  rotate_left
  ·intro w hSw
   (try dsimp only at hSw)
   go_simp
   try with_reducible rfl
  try simp only [Act.put, s1q, s2q, s3q]
  refine take_in (i := 2) (v := ?_) rfl (by kernel_rfl) (by kernel_rfl) (by kernel_rfl) (fun _ _ _ h => h) (by rfl) ?_ hHeld ?_
  rotate_left
  ·intro w hSw
   (try dsimp only at hSw)
   go_simp
   try with_reducible rfl
  try simp only [Act.put, s1q, s2q, s3q]
  refine skip_in (i := 3) rfl (by kernel_rfl) (by kernel_rfl) (by kernel_rfl) (fun _ _ _ h => h) (by rfl) hHeld ?_
  try simp only [Act.put, s1q, s2q, s3q]
  refine skip_in (i := 4) rfl (by kernel_rfl) (by kernel_rfl) (by kernel_rfl) (fun _ _ _ h => h) (by rfl) hHeld ?_
  try simp only [Act.put, s1q, s2q, s3q]
  refine take_in (i := 5) (v := ?_) rfl (by kernel_rfl) (by kernel_rfl) (by kernel_rfl) (fun _ _ _ h => h) (by rfl) ?_ hHeld ?_
  rotate_left
  ·intro w hSw
   (try dsimp only at hSw)
   go_simp
   try with_reducible rfl
  try simp only [Act.put, s1q, s2q, s3q]
  refine take_in (i := 6) (v := ?_) rfl (by kernel_rfl) (by kernel_rfl) (by kernel_rfl) (fun _ _ _ h => h) (by rfl) ?_ hHeld ?_
  rotate_left
  ·intro w hSw
   (try dsimp only at hSw)
   go_simp
   try with_reducible rfl
  try simp only [Act.put, s1q, s2q, s3q]
  refine skip_in (i := 7) rfl (by kernel_rfl) (by kernel_rfl) (by kernel_rfl) (fun _ _ _ h => h) (by rfl) hHeld ?_
  try simp only [Act.put, s1q, s2q, s3q]
  refine skip_in (i := 8) rfl (by kernel_rfl) (by kernel_rfl) (by kernel_rfl) (fun _ _ _ h => h) (by rfl) hHeld ?_
  try simp only [Act.put, s1q, s2q, s3q]
  refine skip_in (i := 9) rfl (by kernel_rfl) (by kernel_rfl) (by kernel_rfl) (fun _ _ _ h => h) (by rfl) hHeld ?_
  try simp only [Act.put, s1q, s2q, s3q]
  refine skip_in (i := 10) rfl (by kernel_rfl) (by kernel_rfl) (by kernel_rfl) (fun _ _ _ h => h) (by rfl) hHeld ?_
  try simp only [Act.put, s1q, s2q, s3q]
  refine skip_in (i := 11) rfl (by kernel_rfl) (by kernel_rfl) (by kernel_rfl) (fun _ _ _ h => h) (by rfl) hHeld ?_
  try simp only [Act.put, s1q, s2q, s3q]
  refine skip_in (i := 12) rfl (by kernel_rfl) (by kernel_rfl) (by kernel_rfl) (fun _ _ _ h => h) (by rfl) hHeld ?_
  try simp only [Act.put, s1q, s2q, s3q]
  refine skip_in (i := 13) rfl (by kernel_rfl) (by kernel_rfl) (by kernel_rfl) (fun _ _ _ h => h) (by rfl) hHeld ?_
  try simp only [Act.put, s1q, s2q, s3q]
  refine skip_in (i := 14) rfl (by kernel_rfl) (by kernel_rfl) (by kernel_rfl) (fun _ _ _ h => h) (by rfl) hHeld ?_
  try simp only [Act.put, s1q, s2q, s3q]
  refine skip_in (i := 15) rfl (by kernel_rfl) (by kernel_rfl) (by kernel_rfl) (fun _ _ _ h => h) (by rfl) hHeld ?_
  try simp only [Act.put, s1q, s2q, s3q]
  refine skip_in (i := 16) rfl (by kernel_rfl) (by kernel_rfl) (by kernel_rfl) (fun _ _ _ h => h) (by rfl) hHeld ?_
  try simp only [Act.put, s1q, s2q, s3q]
  refine skip_in (i := 17) rfl (by kernel_rfl) (by kernel_rfl) (by kernel_rfl) (fun _ _ _ h => h) (by rfl) hHeld ?_
  try simp only [Act.put, s1q, s2q, s3q]
  refine skip_in (i := 18) rfl (by kernel_rfl) (by kernel_rfl) (by kernel_rfl) (fun _ _ _ h => h) (by rfl) hHeld ?_
  try simp only [Act.put, s1q, s2q, s3q]
  refine take_in (i := 19) (v := ?_) rfl (by kernel_rfl) (by kernel_rfl) (by kernel_rfl) (fun _ _ _ h => h) (by rfl) ?_ hHeld ?_
  rotate_left
  ·intro w hSw
   (try dsimp only at hSw)
   go_simp
   try with_reducible rfl
  try simp only [Act.put, s1q, s2q, s3q]
  refine take_in (i := 20) (v := ?_) rfl (by kernel_rfl) (by kernel_rfl) (by kernel_rfl) (fun _ _ _ h => h) (by rfl) ?_ hHeld ?_
  rotate_left
  ·intro w hSw
   (try dsimp only at hSw)
   go_simp
   try with_reducible rfl
  try simp only [Act.put, s1q, s2q, s3q]
  refine wpAnyH_done (by kernel_rfl) ?_ _
  clear HV hk
  go_wp2_with fail
  go_ret
  exact ⟨rfl, HC.out⟩
 | true =>
 cases q2 with
 | false =>
  have hbq := below_lit v13 (.cells #[.int .i64 ky, .int .i64 ny, .string my, .slice y1 y2 y3, .slice y4 y5 y6] 25)
  have hrx := heap_alloc_new v13 (.cells #[.int .i64 ky, .int .i64 ny, .string my, .slice y1 y2 y3, .slice y4 y5 y6] 25)
  have hlx : v13.heap.size < (v13.alloc (.cells #[.int .i64 ky, .int .i64 ny, .string my, .slice y1 y2 y3, .slice y4 y5 y6] 25)).heap.size := by simp
  go_upto_region 11 with fail
  generalize hgw : v13.alloc (.cells #[.int .i64 ky, .int .i64 ny, .string my, .slice y1 y2 y3, .slice y4 y5 y6] 25) = v14 at *
  clear hgw
  replace HRt := mvR hbq HLt HRt
  replace HLt := mvL hbq HLt
  replace HRa := mvR hbq HLa HRa
  replace HLa := mvL hbq HLa
  replace HRb := mvR hbq HLb HRb
  replace HLb := mvL hbq HLb
  replace HRx := mvR hbq HLx HRx
  replace HLx := mvL hbq HLx
  replace HRu := mvR hbq HLu HRu
  replace HLu := mvL hbq HLu
  replace HRf := mvR hbq HLf HRf
  replace HLf := mvL hbq HLf
  replace HTt := mvT hbq HTt
  replace HTa := mvT hbq HTa
  replace HTb := mvT hbq HTb
  replace HTx := mvT hbq HTx
  replace HTu := mvT hbq HTu
  replace HTf := mvT hbq HTf
  replace HTy := mvT hbq HTy
  replace HC := mvC hbq HC
  have HRy := Lib.hid hrx
  have HLy := Lib.hid hlx
  clear hbq hrx hlx
  generalize hgb : v13.heap.size = By at *
  clear hgb
  have hk : Hid (∀ W', Below v14.heap.size v14 W' → W'.cell? ⟨w.heap.size, 0, none⟩ = some (.int .i64 kt) ∧ W'.cell? ⟨w.heap.size, 1, none⟩ = some (.int .i64 nt) ∧ W'.cell? ⟨w.heap.size, 2, none⟩ = some (.string mt) ∧ W'.cell? ⟨w.heap.size, 3, none⟩ = some (.slice t1 t2 t3) ∧ W'.cell? ⟨w.heap.size, 4, none⟩ = some (.slice t4 t5 t6)) := fun W' h => by
   obtain ⟨qt0, qt1, qt2, qt3, qt4⟩ := five_cells ((h.block _ HLt.out).trans HRt.out)
   exact ⟨qt0, qt1, qt2, qt3, qt4⟩
  refine wp_region_held_drew (S := fun W' => W'.cell? ⟨w.heap.size, 0, none⟩ = some (.int .i64 kt) ∧ W'.cell? ⟨w.heap.size, 1, none⟩ = some (.int .i64 nt) ∧ W'.cell? ⟨w.heap.size, 2, none⟩ = some (.string mt) ∧ W'.cell? ⟨w.heap.size, 3, none⟩ = some (.slice t1 t2 t3) ∧ W'.cell? ⟨w.heap.size, 4, none⟩ = some (.slice t4 t5 t6)) (by kernel_rfl) (hk.out _ ((Below.refl _ _).drew)) (fun hHeld => ?_)
  have HV := Lib.hid ((Below.refl v14.heap.size v14).drew)
  have hbq := HV.out
  replace HRt := mvR hbq HLt HRt
  replace HLt := mvL hbq HLt
  replace HRa := mvR hbq HLa HRa
  replace HLa := mvL hbq HLa
  replace HRb := mvR hbq HLb HRb
  replace HLb := mvL hbq HLb
  replace HRx := mvR hbq HLx HRx
  replace HLx := mvL hbq HLx
  replace HRu := mvR hbq HLu HRu
  replace HLu := mvL hbq HLu
  replace HRf := mvR hbq HLf HRf
  replace HLf := mvL hbq HLf
  replace HRy := mvR hbq HLy HRy
  replace HLy := mvL hbq HLy
  replace HTt := mvT hbq HTt
  replace HTa := mvT hbq HTa
  replace HTb := mvT hbq HTb
  replace HTx := mvT hbq HTx
  replace HTu := mvT hbq HTu
  replace HTf := mvT hbq HTf
  replace HTy := mvT hbq HTy
  replace HC := mvC hbq HC
  clear hbq
  generalize v14.drew = v15 at *
  refine take_in (i := 0) (v := ?_) rfl (by kernel_rfl) (by kernel_rfl) (by kernel_rfl) (fun _ _ _ h => h) (by rfl) ?_ hHeld ?_
  rotate_left
  ·intro w hSw
   (try dsimp only at hSw)
   go_simp
   try with_reducible rfl
  try simp only [Act.put, s1q, s2q, s3q]
  refine take_in (i := 1) (v := ?_) rfl (by kernel_rfl) (by kernel_rfl) (by kernel_rfl) (fun _ _ _ h => h) (by rfl) ?_ hHeld ?_
  rotate_left
  ·intro w hSw
   (try dsimp only at hSw)
   go_simp
   try with_reducible rfl
  try simp only [Act.put, s1q, s2q, s3q]
  refine take_in (i := 2) (v := ?_) rfl (by kernel_rfl) (by kernel_rfl) (by kernel_rfl) (fun _ _ _ h => h) (by rfl) ?_ hHeld ?_
  rotate_left
  ·intro w hSw
   (try dsimp only at hSw)
   go_simp
   try with_reducible rfl
  try simp only [Act.put, s1q, s2q, s3q]
  refine take_in (i := 3) (v := ?_) rfl (by kernel_rfl) (by kernel_rfl) (by kernel_rfl) (fun _ _ _ h => h) (by rfl) ?_ hHeld ?_
  rotate_left
  ·intro w hSw
   (try dsimp only at hSw)
   go_simp
   try with_reducible rfl
  try simp only [Act.put, s1q, s2q, s3q]
  refine take_in (i := 4) (v := ?_) rfl (by kernel_rfl) (by kernel_rfl) (by kernel_rfl) (fun _ _ _ h => h) (by rfl) ?_ hHeld ?_
  rotate_left
  ·intro w hSw
   (try dsimp only at hSw)
   go_simp
   try with_reducible rfl
  try simp only [Act.put, s1q, s2q, s3q]
  refine take_in (i := 5) (v := ?_) rfl (by kernel_rfl) (by kernel_rfl) (by kernel_rfl) (fun _ _ _ h => h) (by rfl) ?_ hHeld ?_
  rotate_left
  ·intro w hSw
   (try dsimp only at hSw)
   go_simp
   try with_reducible rfl
  try simp only [Act.put, s1q, s2q, s3q]
  refine take_in (i := 6) (v := ?_) rfl (by kernel_rfl) (by kernel_rfl) (by kernel_rfl) (fun _ _ _ h => h) (by rfl) ?_ hHeld ?_
  rotate_left
  ·intro w hSw
   (try dsimp only at hSw)
   go_simp
   try with_reducible rfl
  try simp only [Act.put, s1q, s2q, s3q]
  refine skip_in (i := 7) rfl (by kernel_rfl) (by kernel_rfl) (by kernel_rfl) (fun _ _ _ h => h) (by rfl) hHeld ?_
  try simp only [Act.put, s1q, s2q, s3q]
  refine skip_in (i := 8) rfl (by kernel_rfl) (by kernel_rfl) (by kernel_rfl) (fun _ _ _ h => h) (by rfl) hHeld ?_
  try simp only [Act.put, s1q, s2q, s3q]
  refine skip_in (i := 9) rfl (by kernel_rfl) (by kernel_rfl) (by kernel_rfl) (fun _ _ _ h => h) (by rfl) hHeld ?_
  try simp only [Act.put, s1q, s2q, s3q]
  refine skip_in (i := 10) rfl (by kernel_rfl) (by kernel_rfl) (by kernel_rfl) (fun _ _ _ h => h) (by rfl) hHeld ?_
  try simp only [Act.put, s1q, s2q, s3q]
  refine skip_in (i := 11) rfl (by kernel_rfl) (by kernel_rfl) (by kernel_rfl) (fun _ _ _ h => h) (by rfl) hHeld ?_
  try simp only [Act.put, s1q, s2q, s3q]
  refine skip_in (i := 12) rfl (by kernel_rfl) (by kernel_rfl) (by kernel_rfl) (fun _ _ _ h => h) (by rfl) hHeld ?_
  try simp only [Act.put, s1q, s2q, s3q]
  refine skip_in (i := 13) rfl (by kernel_rfl) (by kernel_rfl) (by kernel_rfl) (fun _ _ _ h => h) (by rfl) hHeld ?_
  try simp only [Act.put, s1q, s2q, s3q]
  refine skip_in (i := 14) rfl (by kernel_rfl) (by kernel_rfl) (by kernel_rfl) (fun _ _ _ h => h) (by rfl) hHeld ?_
  try simp only [Act.put, s1q, s2q, s3q]
  refine skip_in (i := 15) rfl (by kernel_rfl) (by kernel_rfl) (by kernel_rfl) (fun _ _ _ h => h) (by rfl) hHeld ?_
  try simp only [Act.put, s1q, s2q, s3q]
  refine skip_in (i := 16) rfl (by kernel_rfl) (by kernel_rfl) (by kernel_rfl) (fun _ _ _ h => h) (by rfl) hHeld ?_
  try simp only [Act.put, s1q, s2q, s3q]
  refine skip_in (i := 17) rfl (by kernel_rfl) (by kernel_rfl) (by kernel_rfl) (fun _ _ _ h => h) (by rfl) hHeld ?_
  try simp only [Act.put, s1q, s2q, s3q]
  refine skip_in (i := 18) rfl (by kernel_rfl) (by kernel_rfl) (by kernel_rfl) (fun _ _ _ h => h) (by rfl) hHeld ?_
  try simp only [Act.put, s1q, s2q, s3q]
  refine take_in (i := 19) (v := ?_) rfl (by kernel_rfl) (by kernel_rfl) (by kernel_rfl) (fun _ _ _ h => h) (by rfl) ?_ hHeld ?_
  rotate_left
  ·intro w hSw
   (try dsimp only at hSw)
   go_simp
   try with_reducible rfl
  try simp only [Act.put, s1q, s2q, s3q]
  refine take_in (i := 20) (v := ?_) rfl (by kernel_rfl) (by kernel_rfl) (by kernel_rfl) (fun _ _ _ h => h) (by rfl) ?_ hHeld ?_
  rotate_left
  ·intro w hSw
   (try dsimp only at hSw)
   go_simp
   try with_reducible rfl
  try simp only [Act.put, s1q, s2q, s3q]
  refine wpAnyH_done (by kernel_rfl) ?_ _
  clear HV hk
  go_wp2_with fail
  go_ret
  exact ⟨rfl, HC.out⟩
 | true =>
 cases q3 with
 | false =>
  obtain ⟨R0, hR0⟩ : ∃ q, looseR Tx = q := ⟨_, rfl⟩
  obtain ⟨R1, hR1⟩ : ∃ q, looseR Tt = q := ⟨_, rfl⟩
  obtain ⟨R2, hR2⟩ : ∃ q, looseR Ta = q := ⟨_, rfl⟩
  obtain ⟨R3, hR3⟩ : ∃ q, looseR Tb = q := ⟨_, rfl⟩
  obtain ⟨D, hD⟩ : ∃ q, R1 - 2 = q := ⟨_, rfl⟩
  obtain ⟨M1, hM1⟩ : ∃ q, max D R2 = q := ⟨_, rfl⟩
  obtain ⟨M2, hM2⟩ : ∃ q, max M1 R3 = q := ⟨_, rfl⟩
  have hle := steps_le HQ1.out (HEx.out rfl)
  have hb1 := looseR_le (x := Tt)
  rw [hR1] at hb1
  rw [hR0, hR1, hR2, hR3, hD, hM1, hM2] at hle
  have HWD := Lib.hid (wrI hD (by omega) (by omega))
  have HD9 : Hid (decide (R0 ≤ M2) = true) := Lib.hid (decide_eq_true hle)
  have HR00 := Lib.hid hR0
  have HR10 := Lib.hid hR1
  have HR20 := Lib.hid hR2
  have HR30 := Lib.hid hR3
  have HO1 := Lib.hid hM1
  have HO2 := Lib.hid hM2
  have HO3 : Hid (True) := Lib.hid trivial
  clear hR0 hR1 hR2 hR3 hD hM1 hM2 hle hb1
  have hbq := below_lit v13 (.cells #[.int .i64 ky, .int .i64 ny, .string my, .slice y1 y2 y3, .slice y4 y5 y6] 25)
  have hrx := heap_alloc_new v13 (.cells #[.int .i64 ky, .int .i64 ny, .string my, .slice y1 y2 y3, .slice y4 y5 y6] 25)
  have hlx : v13.heap.size < (v13.alloc (.cells #[.int .i64 ky, .int .i64 ny, .string my, .slice y1 y2 y3, .slice y4 y5 y6] 25)).heap.size := by simp
  go_upto_region 11 with fail
  generalize hgw : v13.alloc (.cells #[.int .i64 ky, .int .i64 ny, .string my, .slice y1 y2 y3, .slice y4 y5 y6] 25) = v14 at *
  clear hgw
  replace HRt := mvR hbq HLt HRt
  replace HLt := mvL hbq HLt
  replace HRa := mvR hbq HLa HRa
  replace HLa := mvL hbq HLa
  replace HRb := mvR hbq HLb HRb
  replace HLb := mvL hbq HLb
  replace HRx := mvR hbq HLx HRx
  replace HLx := mvL hbq HLx
  replace HRu := mvR hbq HLu HRu
  replace HLu := mvL hbq HLu
  replace HRf := mvR hbq HLf HRf
  replace HLf := mvL hbq HLf
  replace HTt := mvT hbq HTt
  replace HTa := mvT hbq HTa
  replace HTb := mvT hbq HTb
  replace HTx := mvT hbq HTx
  replace HTu := mvT hbq HTu
  replace HTf := mvT hbq HTf
  replace HTy := mvT hbq HTy
  replace HC := mvC hbq HC
  have HRy := Lib.hid hrx
  have HLy := Lib.hid hlx
  clear hbq hrx hlx
  generalize hgb : v13.heap.size = By at *
  clear hgb
  have hk : Hid (∀ W', Below v14.heap.size v14 W' → W'.cell? ⟨Bx, 0, none⟩ = some (.int .i64 kx) ∧ W'.cell? ⟨Bx, 1, none⟩ = some (.int .i64 nx) ∧ W'.cell? ⟨Bx, 2, none⟩ = some (.string mx) ∧ W'.cell? ⟨Bx, 3, none⟩ = some (.slice x1 x2 x3) ∧ W'.cell? ⟨Bx, 4, none⟩ = some (.slice x4 x5 x6) ∧ W'.cell? ⟨w.heap.size, 0, none⟩ = some (.int .i64 kt) ∧ W'.cell? ⟨w.heap.size, 1, none⟩ = some (.int .i64 nt) ∧ W'.cell? ⟨w.heap.size, 2, none⟩ = some (.string mt) ∧ W'.cell? ⟨w.heap.size, 3, none⟩ = some (.slice t1 t2 t3) ∧ W'.cell? ⟨w.heap.size, 4, none⟩ = some (.slice t4 t5 t6) ∧ W'.cell? ⟨w.heap.size + 1, 0, none⟩ = some (.int .i64 ka) ∧ W'.cell? ⟨w.heap.size + 1, 1, none⟩ = some (.int .i64 na) ∧ W'.cell? ⟨w.heap.size + 1, 2, none⟩ = some (.string ma) ∧ W'.cell? ⟨w.heap.size + 1, 3, none⟩ = some (.slice a1 a2 a3) ∧ W'.cell? ⟨w.heap.size + 1, 4, none⟩ = some (.slice a4 a5 a6) ∧ W'.cell? ⟨w.heap.size + 1 + 1, 0, none⟩ = some (.int .i64 kb) ∧ W'.cell? ⟨w.heap.size + 1 + 1, 1, none⟩ = some (.int .i64 nb) ∧ W'.cell? ⟨w.heap.size + 1 + 1, 2, none⟩ = some (.string mb) ∧ W'.cell? ⟨w.heap.size + 1 + 1, 3, none⟩ = some (.slice b1 b2 b3) ∧ W'.cell? ⟨w.heap.size + 1 + 1, 4, none⟩ = some (.slice b4 b5 b6)) := fun W' h => by
   obtain ⟨qx0, qx1, qx2, qx3, qx4⟩ := five_cells ((h.block _ HLx.out).trans HRx.out)
   obtain ⟨qt0, qt1, qt2, qt3, qt4⟩ := five_cells ((h.block _ HLt.out).trans HRt.out)
   obtain ⟨qa0, qa1, qa2, qa3, qa4⟩ := five_cells ((h.block _ HLa.out).trans HRa.out)
   obtain ⟨qb0, qb1, qb2, qb3, qb4⟩ := five_cells ((h.block _ HLb.out).trans HRb.out)
   exact ⟨qx0, qx1, qx2, qx3, qx4, qt0, qt1, qt2, qt3, qt4, qa0, qa1, qa2, qa3, qa4, qb0, qb1, qb2, qb3, qb4⟩
  refine wp_region_held_drew (S := fun W' => W'.cell? ⟨Bx, 0, none⟩ = some (.int .i64 kx) ∧ W'.cell? ⟨Bx, 1, none⟩ = some (.int .i64 nx) ∧ W'.cell? ⟨Bx, 2, none⟩ = some (.string mx) ∧ W'.cell? ⟨Bx, 3, none⟩ = some (.slice x1 x2 x3) ∧ W'.cell? ⟨Bx, 4, none⟩ = some (.slice x4 x5 x6) ∧ W'.cell? ⟨w.heap.size, 0, none⟩ = some (.int .i64 kt) ∧ W'.cell? ⟨w.heap.size, 1, none⟩ = some (.int .i64 nt) ∧ W'.cell? ⟨w.heap.size, 2, none⟩ = some (.string mt) ∧ W'.cell? ⟨w.heap.size, 3, none⟩ = some (.slice t1 t2 t3) ∧ W'.cell? ⟨w.heap.size, 4, none⟩ = some (.slice t4 t5 t6) ∧ W'.cell? ⟨w.heap.size + 1, 0, none⟩ = some (.int .i64 ka) ∧ W'.cell? ⟨w.heap.size + 1, 1, none⟩ = some (.int .i64 na) ∧ W'.cell? ⟨w.heap.size + 1, 2, none⟩ = some (.string ma) ∧ W'.cell? ⟨w.heap.size + 1, 3, none⟩ = some (.slice a1 a2 a3) ∧ W'.cell? ⟨w.heap.size + 1, 4, none⟩ = some (.slice a4 a5 a6) ∧ W'.cell? ⟨w.heap.size + 1 + 1, 0, none⟩ = some (.int .i64 kb) ∧ W'.cell? ⟨w.heap.size + 1 + 1, 1, none⟩ = some (.int .i64 nb) ∧ W'.cell? ⟨w.heap.size + 1 + 1, 2, none⟩ = some (.string mb) ∧ W'.cell? ⟨w.heap.size + 1 + 1, 3, none⟩ = some (.slice b1 b2 b3) ∧ W'.cell? ⟨w.heap.size + 1 + 1, 4, none⟩ = some (.slice b4 b5 b6)) (by kernel_rfl) (hk.out _ ((Below.refl _ _).drew)) (fun hHeld => ?_)
  have HV := Lib.hid ((Below.refl v14.heap.size v14).drew)
  have hbq := HV.out
  replace HRt := mvR hbq HLt HRt
  replace HLt := mvL hbq HLt
  replace HRa := mvR hbq HLa HRa
  replace HLa := mvL hbq HLa
  replace HRb := mvR hbq HLb HRb
  replace HLb := mvL hbq HLb
  replace HRx := mvR hbq HLx HRx
  replace HLx := mvL hbq HLx
  replace HRu := mvR hbq HLu HRu
  replace HLu := mvL hbq HLu
  replace HRf := mvR hbq HLf HRf
  replace HLf := mvL hbq HLf
  replace HRy := mvR hbq HLy HRy
  replace HLy := mvL hbq HLy
  replace HTt := mvT hbq HTt
  replace HTa := mvT hbq HTa
  replace HTb := mvT hbq HTb
  replace HTx := mvT hbq HTx
  replace HTu := mvT hbq HTu
  replace HTf := mvT hbq HTf
  replace HTy := mvT hbq HTy
  replace HC := mvC hbq HC
  clear hbq
  generalize v14.drew = v15 at *
  refine take_in (i := 0) (v := ?_) rfl (by kernel_rfl) (by kernel_rfl) (by kernel_rfl) (fun _ _ _ h => h) (by rfl) ?_ hHeld ?_
  rotate_left
  ·intro w hSw
   (try dsimp only at hSw)
   go_simp
   try with_reducible rfl
  try simp only [Act.put, s1q, s2q, s3q]
  refine take_in (i := 1) (v := ?_) rfl (by kernel_rfl) (by kernel_rfl) (by kernel_rfl) (fun _ _ _ h => h) (by rfl) ?_ hHeld ?_
  rotate_left
  ·intro w hSw
   (try dsimp only at hSw)
   go_simp
   try with_reducible rfl
  try simp only [Act.put, s1q, s2q, s3q]
  refine take_in (i := 2) (v := ?_) rfl (by kernel_rfl) (by kernel_rfl) (by kernel_rfl) (fun _ _ _ h => h) (by rfl) ?_ hHeld ?_
  rotate_left
  ·intro w hSw
   (try dsimp only at hSw)
   go_simp
   try with_reducible rfl
  try simp only [Act.put, s1q, s2q, s3q]
  refine take_in (i := 3) (v := ?_) rfl (by kernel_rfl) (by kernel_rfl) (by kernel_rfl) (fun _ _ _ h => h) (by rfl) ?_ hHeld ?_
  rotate_left
  ·intro w hSw
   (try dsimp only at hSw)
   go_simp
   try with_reducible rfl
  try simp only [Act.put, s1q, s2q, s3q]
  refine take_in (i := 4) (v := ?_) rfl (by kernel_rfl) (by kernel_rfl) (by kernel_rfl) (fun _ _ _ h => h) (by rfl) ?_ hHeld ?_
  rotate_left
  ·intro w hSw
   (try dsimp only at hSw)
   go_simp
   try with_reducible rfl
  try simp only [Act.put, s1q, s2q, s3q]
  refine take_in (i := 5) (v := ?_) rfl (by kernel_rfl) (by kernel_rfl) (by kernel_rfl) (fun _ _ _ h => h) (by rfl) ?_ hHeld ?_
  rotate_left
  ·intro w hSw
   (try dsimp only at hSw)
   go_simp
   try with_reducible rfl
  try simp only [Act.put, s1q, s2q, s3q]
  refine take_in (i := 6) (v := ?_) rfl (by kernel_rfl) (by kernel_rfl) (by kernel_rfl) (fun _ _ _ h => h) (by rfl) ?_ hHeld ?_
  rotate_left
  ·intro w hSw
   (try dsimp only at hSw)
   go_simp
   try with_reducible rfl
  try simp only [Act.put, s1q, s2q, s3q]
  refine take_in (i := 7) (v := ?_) rfl (by kernel_rfl) (by kernel_rfl) (by kernel_rfl) (fun _ _ _ h => h) (by rfl) ?_ hHeld ?_
  rotate_left
  ·intro w hSw
   (try dsimp only at hSw)
   go_simp
   try with_reducible rfl
  try simp only [Act.put, s1q, s2q, s3q]
  refine take_in (i := 9) (v := ?_) rfl (by kernel_rfl) (by kernel_rfl) (by kernel_rfl) (fun _ _ _ h => h) (by rfl) ?_ hHeld ?_
  rotate_left
  ·intro w hSw
   (try dsimp only at hSw)
   go_simp
   try with_reducible rfl
  try simp only [Act.put, s1q, s2q, s3q]
  refine take_in (i := 12) (v := ?_) rfl (by kernel_rfl) (by kernel_rfl) (by kernel_rfl) (fun _ _ _ h => h) (by rfl) ?_ hHeld ?_
  rotate_left
  ·intro w hSw
   (try dsimp only at hSw)
   go_simp
   try with_reducible rfl
  try simp only [Act.put, s1q, s2q, s3q]
  refine take_in (i := 15) (v := ?_) rfl (by kernel_rfl) (by kernel_rfl) (by kernel_rfl) (fun _ _ _ h => h) (by rfl) ?_ hHeld ?_
  rotate_left
  ·intro w hSw
   (try dsimp only at hSw)
   go_simp
   try with_reducible rfl
  try simp only [Act.put, s1q, s2q, s3q]
  refine call_in (i := 8) rfl (by kernel_rfl) (fun K hK => ?_)
  clear hHeld
  go_simp
  refine (refLoose_free Tx _ _ HTx.out HMx.out R0 HR00.out).mono ?_
  rintro e v16 ⟨rfl, hbq⟩
  replace HRt := mvR hbq HLt HRt
  replace HLt := mvL hbq HLt
  replace HRa := mvR hbq HLa HRa
  replace HLa := mvL hbq HLa
  replace HRb := mvR hbq HLb HRb
  replace HLb := mvL hbq HLb
  replace HRx := mvR hbq HLx HRx
  replace HLx := mvL hbq HLx
  replace HRu := mvR hbq HLu HRu
  replace HLu := mvL hbq HLu
  replace HRf := mvR hbq HLf HRf
  replace HLf := mvL hbq HLf
  replace HRy := mvR hbq HLy HRy
  replace HLy := mvL hbq HLy
  replace HTt := mvT hbq HTt
  replace HTa := mvT hbq HTa
  replace HTb := mvT hbq HTb
  replace HTx := mvT hbq HTx
  replace HTu := mvT hbq HTu
  replace HTf := mvT hbq HTf
  replace HTy := mvT hbq HTy
  replace HC := mvC hbq HC
  replace HV := mvC hbq HV
  clear hbq
  try (go_wp2_with fail)
  refine hK.out _ _ (hk.out _ HV.out) (fun hHeld => ?_)
  clear hK K
  try simp only [Act.put, s1q, s2q, s3q]
  refine call_in (i := 10) rfl (by kernel_rfl) (fun K hK => ?_)
  clear hHeld
  go_simp
  refine (refLoose_free Tt _ _ HTt.out HMt.out R1 HR10.out).mono ?_
  rintro e v17 ⟨rfl, hbq⟩
  replace HRt := mvR hbq HLt HRt
  replace HLt := mvL hbq HLt
  replace HRa := mvR hbq HLa HRa
  replace HLa := mvL hbq HLa
  replace HRb := mvR hbq HLb HRb
  replace HLb := mvL hbq HLb
  replace HRx := mvR hbq HLx HRx
  replace HLx := mvL hbq HLx
  replace HRu := mvR hbq HLu HRu
  replace HLu := mvL hbq HLu
  replace HRf := mvR hbq HLf HRf
  replace HLf := mvL hbq HLf
  replace HRy := mvR hbq HLy HRy
  replace HLy := mvL hbq HLy
  replace HTt := mvT hbq HTt
  replace HTa := mvT hbq HTa
  replace HTb := mvT hbq HTb
  replace HTx := mvT hbq HTx
  replace HTu := mvT hbq HTu
  replace HTf := mvT hbq HTf
  replace HTy := mvT hbq HTy
  replace HC := mvC hbq HC
  replace HV := mvC hbq HV
  clear hbq
  try (go_wp2_with fail)
  refine hK.out _ _ (hk.out _ HV.out) (fun hHeld => ?_)
  clear hK K
  try simp only [Act.put, s1q, s2q, s3q]
  obtain ⟨w1, w2⟩ := HWD.out
  refine take_in (i := 11) (v := ?_) rfl (by kernel_rfl) (by kernel_rfl) (by kernel_rfl) (fun _ _ _ h => h) (by rfl) ?_ hHeld ?_
  rotate_left
  ·intro w hSw
   (try dsimp only at hSw)
   go_simp
   try with_reducible rfl
  try simp only [Act.put, s1q, s2q, s3q]
  refine call_in (i := 13) rfl (by kernel_rfl) (fun K hK => ?_)
  clear hHeld
  go_simp
  refine (refLoose_free Ta _ _ HTa.out HMa.out R2 HR20.out).mono ?_
  rintro e v18 ⟨rfl, hbq⟩
  replace HRt := mvR hbq HLt HRt
  replace HLt := mvL hbq HLt
  replace HRa := mvR hbq HLa HRa
  replace HLa := mvL hbq HLa
  replace HRb := mvR hbq HLb HRb
  replace HLb := mvL hbq HLb
  replace HRx := mvR hbq HLx HRx
  replace HLx := mvL hbq HLx
  replace HRu := mvR hbq HLu HRu
  replace HLu := mvL hbq HLu
  replace HRf := mvR hbq HLf HRf
  replace HLf := mvL hbq HLf
  replace HRy := mvR hbq HLy HRy
  replace HLy := mvL hbq HLy
  replace HTt := mvT hbq HTt
  replace HTa := mvT hbq HTa
  replace HTb := mvT hbq HTb
  replace HTx := mvT hbq HTx
  replace HTu := mvT hbq HTu
  replace HTf := mvT hbq HTf
  replace HTy := mvT hbq HTy
  replace HC := mvC hbq HC
  replace HV := mvC hbq HV
  clear hbq
  try (go_wp2_with fail)
  refine hK.out _ _ (hk.out _ HV.out) (fun hHeld => ?_)
  clear hK K
  try simp only [Act.put, s1q, s2q, s3q]
  have o1 := HO1.out
  have o2 := HO2.out
  have o3 := HO3.out
  refine take_in (i := 14) (v := ?_) rfl (by kernel_rfl) (by kernel_rfl) (by kernel_rfl) (fun _ _ _ h => h) (by rfl) ?_ hHeld ?_
  rotate_left
  ·intro w hSw
   (try dsimp only at hSw)
   go_simp
   try with_reducible rfl
  try simp only [Act.put, s1q, s2q, s3q]
  refine call_in (i := 16) rfl (by kernel_rfl) (fun K hK => ?_)
  clear hHeld
  go_simp
  refine (refLoose_free Tb _ _ HTb.out HMb.out R3 HR30.out).mono ?_
  rintro e v19 ⟨rfl, hbq⟩
  replace HRt := mvR hbq HLt HRt
  replace HLt := mvL hbq HLt
  replace HRa := mvR hbq HLa HRa
  replace HLa := mvL hbq HLa
  replace HRb := mvR hbq HLb HRb
  replace HLb := mvL hbq HLb
  replace HRx := mvR hbq HLx HRx
  replace HLx := mvL hbq HLx
  replace HRu := mvR hbq HLu HRu
  replace HLu := mvL hbq HLu
  replace HRf := mvR hbq HLf HRf
  replace HLf := mvL hbq HLf
  replace HRy := mvR hbq HLy HRy
  replace HLy := mvL hbq HLy
  replace HTt := mvT hbq HTt
  replace HTa := mvT hbq HTa
  replace HTb := mvT hbq HTb
  replace HTx := mvT hbq HTx
  replace HTu := mvT hbq HTu
  replace HTf := mvT hbq HTf
  replace HTy := mvT hbq HTy
  replace HC := mvC hbq HC
  replace HV := mvC hbq HV
  clear hbq
  try (go_wp2_with fail)
  refine hK.out _ _ (hk.out _ HV.out) (fun hHeld => ?_)
  clear hK K
  try simp only [Act.put, s1q, s2q, s3q]
  refine take_in (i := 17) (v := ?_) rfl (by kernel_rfl) (by kernel_rfl) (by kernel_rfl) (fun _ _ _ h => h) (by rfl) ?_ hHeld ?_
  rotate_left
  ·intro w hSw
   (try dsimp only at hSw)
   go_simp
   try with_reducible rfl
  try simp only [Act.put, s1q, s2q, s3q]
  have d9 := HD9.out
  refine take_in (i := 18) (v := ?_) rfl (by kernel_rfl) (by kernel_rfl) (by kernel_rfl) (fun _ _ _ h => h) (by rfl) ?_ hHeld ?_
  rotate_left
  ·intro w hSw
   (try dsimp only at hSw)
   go_simp
   try with_reducible rfl
  try simp only [Act.put, s1q, s2q, s3q]
  refine take_in (i := 19) (v := ?_) rfl (by kernel_rfl) (by kernel_rfl) (by kernel_rfl) (fun _ _ _ h => h) (by rfl) ?_ hHeld ?_
  rotate_left
  ·intro w hSw
   (try dsimp only at hSw)
   go_simp
   try with_reducible rfl
  try simp only [Act.put, s1q, s2q, s3q]
  refine take_in (i := 20) (v := ?_) rfl (by kernel_rfl) (by kernel_rfl) (by kernel_rfl) (fun _ _ _ h => h) (by rfl) ?_ hHeld ?_
  rotate_left
  ·intro w hSw
   (try dsimp only at hSw)
   go_simp
   try with_reducible rfl
  try simp only [Act.put, s1q, s2q, s3q]
  refine wpAnyH_done (by kernel_rfl) ?_ _
  clear HV hk
  go_wp2_with fail
  go_ret
  exact ⟨rfl, HC.out⟩
 | true =>
 cases q4 with
 | false =>
  obtain ⟨R0, hR0⟩ : ∃ q, looseR Tx = q := ⟨_, rfl⟩
  obtain ⟨R1, hR1⟩ : ∃ q, looseR Tt = q := ⟨_, rfl⟩
  obtain ⟨R2, hR2⟩ : ∃ q, looseR Ta = q := ⟨_, rfl⟩
  obtain ⟨R3, hR3⟩ : ∃ q, looseR Tb = q := ⟨_, rfl⟩
  obtain ⟨D, hD⟩ : ∃ q, R1 - 2 = q := ⟨_, rfl⟩
  obtain ⟨M1, hM1⟩ : ∃ q, max D R2 = q := ⟨_, rfl⟩
  obtain ⟨M2, hM2⟩ : ∃ q, max M1 R3 = q := ⟨_, rfl⟩
  have hle := steps_le HQ1.out (HEx.out rfl)
  have hb1 := looseR_le (x := Tt)
  rw [hR1] at hb1
  rw [hR0, hR1, hR2, hR3, hD, hM1, hM2] at hle
  have HWD := Lib.hid (wrI hD (by omega) (by omega))
  have HD9 : Hid (decide (R0 ≤ M2) = true) := Lib.hid (decide_eq_true hle)
  have HR00 := Lib.hid hR0
  have HR10 := Lib.hid hR1
  have HR20 := Lib.hid hR2
  have HR30 := Lib.hid hR3
  have HO1 := Lib.hid hM1
  have HO2 := Lib.hid hM2
  have HO3 : Hid (True) := Lib.hid trivial
  clear hR0 hR1 hR2 hR3 hD hM1 hM2 hle hb1
  have hbq := below_lit v13 (.cells #[.int .i64 ky, .int .i64 ny, .string my, .slice y1 y2 y3, .slice y4 y5 y6] 25)
  have hrx := heap_alloc_new v13 (.cells #[.int .i64 ky, .int .i64 ny, .string my, .slice y1 y2 y3, .slice y4 y5 y6] 25)
  have hlx : v13.heap.size < (v13.alloc (.cells #[.int .i64 ky, .int .i64 ny, .string my, .slice y1 y2 y3, .slice y4 y5 y6] 25)).heap.size := by simp
  go_upto_region 11 with fail
  generalize hgw : v13.alloc (.cells #[.int .i64 ky, .int .i64 ny, .string my, .slice y1 y2 y3, .slice y4 y5 y6] 25) = v14 at *
  clear hgw
  replace HRt := mvR hbq HLt HRt
  replace HLt := mvL hbq HLt
  replace HRa := mvR hbq HLa HRa
  replace HLa := mvL hbq HLa
  replace HRb := mvR hbq HLb HRb
  replace HLb := mvL hbq HLb
  replace HRx := mvR hbq HLx HRx
  replace HLx := mvL hbq HLx
  replace HRu := mvR hbq HLu HRu
  replace HLu := mvL hbq HLu
  replace HRf := mvR hbq HLf HRf
  replace HLf := mvL hbq HLf
  replace HTt := mvT hbq HTt
  replace HTa := mvT hbq HTa
  replace HTb := mvT hbq HTb
  replace HTx := mvT hbq HTx
  replace HTu := mvT hbq HTu
  replace HTf := mvT hbq HTf
  replace HTy := mvT hbq HTy
  replace HC := mvC hbq HC
  have HRy := Lib.hid hrx
  have HLy := Lib.hid hlx
  clear hbq hrx hlx
  generalize hgb : v13.heap.size = By at *
  clear hgb
  have hk : Hid (∀ W', Below v14.heap.size v14 W' → W'.cell? ⟨Bx, 0, none⟩ = some (.int .i64 kx) ∧ W'.cell? ⟨Bx, 1, none⟩ = some (.int .i64 nx) ∧ W'.cell? ⟨Bx, 2, none⟩ = some (.string mx) ∧ W'.cell? ⟨Bx, 3, none⟩ = some (.slice x1 x2 x3) ∧ W'.cell? ⟨Bx, 4, none⟩ = some (.slice x4 x5 x6) ∧ W'.cell? ⟨w.heap.size, 0, none⟩ = some (.int .i64 kt) ∧ W'.cell? ⟨w.heap.size, 1, none⟩ = some (.int .i64 nt) ∧ W'.cell? ⟨w.heap.size, 2, none⟩ = some (.string mt) ∧ W'.cell? ⟨w.heap.size, 3, none⟩ = some (.slice t1 t2 t3) ∧ W'.cell? ⟨w.heap.size, 4, none⟩ = some (.slice t4 t5 t6) ∧ W'.cell? ⟨w.heap.size + 1, 0, none⟩ = some (.int .i64 ka) ∧ W'.cell? ⟨w.heap.size + 1, 1, none⟩ = some (.int .i64 na) ∧ W'.cell? ⟨w.heap.size + 1, 2, none⟩ = some (.string ma) ∧ W'.cell? ⟨w.heap.size + 1, 3, none⟩ = some (.slice a1 a2 a3) ∧ W'.cell? ⟨w.heap.size + 1, 4, none⟩ = some (.slice a4 a5 a6) ∧ W'.cell? ⟨w.heap.size + 1 + 1, 0, none⟩ = some (.int .i64 kb) ∧ W'.cell? ⟨w.heap.size + 1 + 1, 1, none⟩ = some (.int .i64 nb) ∧ W'.cell? ⟨w.heap.size + 1 + 1, 2, none⟩ = some (.string mb) ∧ W'.cell? ⟨w.heap.size + 1 + 1, 3, none⟩ = some (.slice b1 b2 b3) ∧ W'.cell? ⟨w.heap.size + 1 + 1, 4, none⟩ = some (.slice b4 b5 b6)) := fun W' h => by
   obtain ⟨qx0, qx1, qx2, qx3, qx4⟩ := five_cells ((h.block _ HLx.out).trans HRx.out)
   obtain ⟨qt0, qt1, qt2, qt3, qt4⟩ := five_cells ((h.block _ HLt.out).trans HRt.out)
   obtain ⟨qa0, qa1, qa2, qa3, qa4⟩ := five_cells ((h.block _ HLa.out).trans HRa.out)
   obtain ⟨qb0, qb1, qb2, qb3, qb4⟩ := five_cells ((h.block _ HLb.out).trans HRb.out)
   exact ⟨qx0, qx1, qx2, qx3, qx4, qt0, qt1, qt2, qt3, qt4, qa0, qa1, qa2, qa3, qa4, qb0, qb1, qb2, qb3, qb4⟩
  refine wp_region_held_drew (S := fun W' => W'.cell? ⟨Bx, 0, none⟩ = some (.int .i64 kx) ∧ W'.cell? ⟨Bx, 1, none⟩ = some (.int .i64 nx) ∧ W'.cell? ⟨Bx, 2, none⟩ = some (.string mx) ∧ W'.cell? ⟨Bx, 3, none⟩ = some (.slice x1 x2 x3) ∧ W'.cell? ⟨Bx, 4, none⟩ = some (.slice x4 x5 x6) ∧ W'.cell? ⟨w.heap.size, 0, none⟩ = some (.int .i64 kt) ∧ W'.cell? ⟨w.heap.size, 1, none⟩ = some (.int .i64 nt) ∧ W'.cell? ⟨w.heap.size, 2, none⟩ = some (.string mt) ∧ W'.cell? ⟨w.heap.size, 3, none⟩ = some (.slice t1 t2 t3) ∧ W'.cell? ⟨w.heap.size, 4, none⟩ = some (.slice t4 t5 t6) ∧ W'.cell? ⟨w.heap.size + 1, 0, none⟩ = some (.int .i64 ka) ∧ W'.cell? ⟨w.heap.size + 1, 1, none⟩ = some (.int .i64 na) ∧ W'.cell? ⟨w.heap.size + 1, 2, none⟩ = some (.string ma) ∧ W'.cell? ⟨w.heap.size + 1, 3, none⟩ = some (.slice a1 a2 a3) ∧ W'.cell? ⟨w.heap.size + 1, 4, none⟩ = some (.slice a4 a5 a6) ∧ W'.cell? ⟨w.heap.size + 1 + 1, 0, none⟩ = some (.int .i64 kb) ∧ W'.cell? ⟨w.heap.size + 1 + 1, 1, none⟩ = some (.int .i64 nb) ∧ W'.cell? ⟨w.heap.size + 1 + 1, 2, none⟩ = some (.string mb) ∧ W'.cell? ⟨w.heap.size + 1 + 1, 3, none⟩ = some (.slice b1 b2 b3) ∧ W'.cell? ⟨w.heap.size + 1 + 1, 4, none⟩ = some (.slice b4 b5 b6)) (by kernel_rfl) (hk.out _ ((Below.refl _ _).drew)) (fun hHeld => ?_)
  have HV := Lib.hid ((Below.refl v14.heap.size v14).drew)
  have hbq := HV.out
  replace HRt := mvR hbq HLt HRt
  replace HLt := mvL hbq HLt
  replace HRa := mvR hbq HLa HRa
  replace HLa := mvL hbq HLa
  replace HRb := mvR hbq HLb HRb
  replace HLb := mvL hbq HLb
  replace HRx := mvR hbq HLx HRx
  replace HLx := mvL hbq HLx
  replace HRu := mvR hbq HLu HRu
  replace HLu := mvL hbq HLu
  replace HRf := mvR hbq HLf HRf
  replace HLf := mvL hbq HLf
  replace HRy := mvR hbq HLy HRy
  replace HLy := mvL hbq HLy
  replace HTt := mvT hbq HTt
  replace HTa := mvT hbq HTa
  replace HTb := mvT hbq HTb
  replace HTx := mvT hbq HTx
  replace HTu := mvT hbq HTu
  replace HTf := mvT hbq HTf
  replace HTy := mvT hbq HTy
  replace HC := mvC hbq HC
  clear hbq
  generalize v14.drew = v15 at *
  refine take_in (i := 0) (v := ?_) rfl (by kernel_rfl) (by kernel_rfl) (by kernel_rfl) (fun _ _ _ h => h) (by rfl) ?_ hHeld ?_
  rotate_left
  ·intro w hSw
   (try dsimp only at hSw)
   go_simp
   try with_reducible rfl
  try simp only [Act.put, s1q, s2q, s3q]
  refine take_in (i := 1) (v := ?_) rfl (by kernel_rfl) (by kernel_rfl) (by kernel_rfl) (fun _ _ _ h => h) (by rfl) ?_ hHeld ?_
  rotate_left
  ·intro w hSw
   (try dsimp only at hSw)
   go_simp
   try with_reducible rfl
  try simp only [Act.put, s1q, s2q, s3q]
  refine take_in (i := 2) (v := ?_) rfl (by kernel_rfl) (by kernel_rfl) (by kernel_rfl) (fun _ _ _ h => h) (by rfl) ?_ hHeld ?_
  rotate_left
  ·intro w hSw
   (try dsimp only at hSw)
   go_simp
   try with_reducible rfl
  try simp only [Act.put, s1q, s2q, s3q]
  refine take_in (i := 3) (v := ?_) rfl (by kernel_rfl) (by kernel_rfl) (by kernel_rfl) (fun _ _ _ h => h) (by rfl) ?_ hHeld ?_
  rotate_left
  ·intro w hSw
   (try dsimp only at hSw)
   go_simp
   try with_reducible rfl
  try simp only [Act.put, s1q, s2q, s3q]
  refine take_in (i := 4) (v := ?_) rfl (by kernel_rfl) (by kernel_rfl) (by kernel_rfl) (fun _ _ _ h => h) (by rfl) ?_ hHeld ?_
  rotate_left
  ·intro w hSw
   (try dsimp only at hSw)
   go_simp
   try with_reducible rfl
  try simp only [Act.put, s1q, s2q, s3q]
  refine take_in (i := 5) (v := ?_) rfl (by kernel_rfl) (by kernel_rfl) (by kernel_rfl) (fun _ _ _ h => h) (by rfl) ?_ hHeld ?_
  rotate_left
  ·intro w hSw
   (try dsimp only at hSw)
   go_simp
   try with_reducible rfl
  try simp only [Act.put, s1q, s2q, s3q]
  refine take_in (i := 6) (v := ?_) rfl (by kernel_rfl) (by kernel_rfl) (by kernel_rfl) (fun _ _ _ h => h) (by rfl) ?_ hHeld ?_
  rotate_left
  ·intro w hSw
   (try dsimp only at hSw)
   go_simp
   try with_reducible rfl
  try simp only [Act.put, s1q, s2q, s3q]
  refine take_in (i := 7) (v := ?_) rfl (by kernel_rfl) (by kernel_rfl) (by kernel_rfl) (fun _ _ _ h => h) (by rfl) ?_ hHeld ?_
  rotate_left
  ·intro w hSw
   (try dsimp only at hSw)
   go_simp
   try with_reducible rfl
  try simp only [Act.put, s1q, s2q, s3q]
  refine take_in (i := 9) (v := ?_) rfl (by kernel_rfl) (by kernel_rfl) (by kernel_rfl) (fun _ _ _ h => h) (by rfl) ?_ hHeld ?_
  rotate_left
  ·intro w hSw
   (try dsimp only at hSw)
   go_simp
   try with_reducible rfl
  try simp only [Act.put, s1q, s2q, s3q]
  refine take_in (i := 12) (v := ?_) rfl (by kernel_rfl) (by kernel_rfl) (by kernel_rfl) (fun _ _ _ h => h) (by rfl) ?_ hHeld ?_
  rotate_left
  ·intro w hSw
   (try dsimp only at hSw)
   go_simp
   try with_reducible rfl
  try simp only [Act.put, s1q, s2q, s3q]
  refine take_in (i := 15) (v := ?_) rfl (by kernel_rfl) (by kernel_rfl) (by kernel_rfl) (fun _ _ _ h => h) (by rfl) ?_ hHeld ?_
  rotate_left
  ·intro w hSw
   (try dsimp only at hSw)
   go_simp
   try with_reducible rfl
  try simp only [Act.put, s1q, s2q, s3q]
  refine call_in (i := 8) rfl (by kernel_rfl) (fun K hK => ?_)
  clear hHeld
  go_simp
  refine (refLoose_free Tx _ _ HTx.out HMx.out R0 HR00.out).mono ?_
  rintro e v16 ⟨rfl, hbq⟩
  replace HRt := mvR hbq HLt HRt
  replace HLt := mvL hbq HLt
  replace HRa := mvR hbq HLa HRa
  replace HLa := mvL hbq HLa
  replace HRb := mvR hbq HLb HRb
  replace HLb := mvL hbq HLb
  replace HRx := mvR hbq HLx HRx
  replace HLx := mvL hbq HLx
  replace HRu := mvR hbq HLu HRu
  replace HLu := mvL hbq HLu
  replace HRf := mvR hbq HLf HRf
  replace HLf := mvL hbq HLf
  replace HRy := mvR hbq HLy HRy
  replace HLy := mvL hbq HLy
  replace HTt := mvT hbq HTt
  replace HTa := mvT hbq HTa
  replace HTb := mvT hbq HTb
  replace HTx := mvT hbq HTx
  replace HTu := mvT hbq HTu
  replace HTf := mvT hbq HTf
  replace HTy := mvT hbq HTy
  replace HC := mvC hbq HC
  replace HV := mvC hbq HV
  clear hbq
  try (go_wp2_with fail)
  refine hK.out _ _ (hk.out _ HV.out) (fun hHeld => ?_)
  clear hK K
  try simp only [Act.put, s1q, s2q, s3q]
  refine call_in (i := 10) rfl (by kernel_rfl) (fun K hK => ?_)
  clear hHeld
  go_simp
  refine (refLoose_free Tt _ _ HTt.out HMt.out R1 HR10.out).mono ?_
  rintro e v17 ⟨rfl, hbq⟩
  replace HRt := mvR hbq HLt HRt
  replace HLt := mvL hbq HLt
  replace HRa := mvR hbq HLa HRa
  replace HLa := mvL hbq HLa
  replace HRb := mvR hbq HLb HRb
  replace HLb := mvL hbq HLb
  replace HRx := mvR hbq HLx HRx
  replace HLx := mvL hbq HLx
  replace HRu := mvR hbq HLu HRu
  replace HLu := mvL hbq HLu
  replace HRf := mvR hbq HLf HRf
  replace HLf := mvL hbq HLf
  replace HRy := mvR hbq HLy HRy
  replace HLy := mvL hbq HLy
  replace HTt := mvT hbq HTt
  replace HTa := mvT hbq HTa
  replace HTb := mvT hbq HTb
  replace HTx := mvT hbq HTx
  replace HTu := mvT hbq HTu
  replace HTf := mvT hbq HTf
  replace HTy := mvT hbq HTy
  replace HC := mvC hbq HC
  replace HV := mvC hbq HV
  clear hbq
  try (go_wp2_with fail)
  refine hK.out _ _ (hk.out _ HV.out) (fun hHeld => ?_)
  clear hK K
  try simp only [Act.put, s1q, s2q, s3q]
  obtain ⟨w1, w2⟩ := HWD.out
  refine take_in (i := 11) (v := ?_) rfl (by kernel_rfl) (by kernel_rfl) (by kernel_rfl) (fun _ _ _ h => h) (by rfl) ?_ hHeld ?_
  rotate_left
  ·intro w hSw
   (try dsimp only at hSw)
   go_simp
   try with_reducible rfl
  try simp only [Act.put, s1q, s2q, s3q]
  refine call_in (i := 13) rfl (by kernel_rfl) (fun K hK => ?_)
  clear hHeld
  go_simp
  refine (refLoose_free Ta _ _ HTa.out HMa.out R2 HR20.out).mono ?_
  rintro e v18 ⟨rfl, hbq⟩
  replace HRt := mvR hbq HLt HRt
  replace HLt := mvL hbq HLt
  replace HRa := mvR hbq HLa HRa
  replace HLa := mvL hbq HLa
  replace HRb := mvR hbq HLb HRb
  replace HLb := mvL hbq HLb
  replace HRx := mvR hbq HLx HRx
  replace HLx := mvL hbq HLx
  replace HRu := mvR hbq HLu HRu
  replace HLu := mvL hbq HLu
  replace HRf := mvR hbq HLf HRf
  replace HLf := mvL hbq HLf
  replace HRy := mvR hbq HLy HRy
  replace HLy := mvL hbq HLy
  replace HTt := mvT hbq HTt
  replace HTa := mvT hbq HTa
  replace HTb := mvT hbq HTb
  replace HTx := mvT hbq HTx
  replace HTu := mvT hbq HTu
  replace HTf := mvT hbq HTf
  replace HTy := mvT hbq HTy
  replace HC := mvC hbq HC
  replace HV := mvC hbq HV
  clear hbq
  try (go_wp2_with fail)
  refine hK.out _ _ (hk.out _ HV.out) (fun hHeld => ?_)
  clear hK K
  try simp only [Act.put, s1q, s2q, s3q]
  have o1 := HO1.out
  have o2 := HO2.out
  have o3 := HO3.out
  refine take_in (i := 14) (v := ?_) rfl (by kernel_rfl) (by kernel_rfl) (by kernel_rfl) (fun _ _ _ h => h) (by rfl) ?_ hHeld ?_
  rotate_left
  ·intro w hSw
   (try dsimp only at hSw)
   go_simp
   try with_reducible rfl
  try simp only [Act.put, s1q, s2q, s3q]
  refine call_in (i := 16) rfl (by kernel_rfl) (fun K hK => ?_)
  clear hHeld
  go_simp
  refine (refLoose_free Tb _ _ HTb.out HMb.out R3 HR30.out).mono ?_
  rintro e v19 ⟨rfl, hbq⟩
  replace HRt := mvR hbq HLt HRt
  replace HLt := mvL hbq HLt
  replace HRa := mvR hbq HLa HRa
  replace HLa := mvL hbq HLa
  replace HRb := mvR hbq HLb HRb
  replace HLb := mvL hbq HLb
  replace HRx := mvR hbq HLx HRx
  replace HLx := mvL hbq HLx
  replace HRu := mvR hbq HLu HRu
  replace HLu := mvL hbq HLu
  replace HRf := mvR hbq HLf HRf
  replace HLf := mvL hbq HLf
  replace HRy := mvR hbq HLy HRy
  replace HLy := mvL hbq HLy
  replace HTt := mvT hbq HTt
  replace HTa := mvT hbq HTa
  replace HTb := mvT hbq HTb
  replace HTx := mvT hbq HTx
  replace HTu := mvT hbq HTu
  replace HTf := mvT hbq HTf
  replace HTy := mvT hbq HTy
  replace HC := mvC hbq HC
  replace HV := mvC hbq HV
  clear hbq
  try (go_wp2_with fail)
  refine hK.out _ _ (hk.out _ HV.out) (fun hHeld => ?_)
  clear hK K
  try simp only [Act.put, s1q, s2q, s3q]
  refine take_in (i := 17) (v := ?_) rfl (by kernel_rfl) (by kernel_rfl) (by kernel_rfl) (fun _ _ _ h => h) (by rfl) ?_ hHeld ?_
  rotate_left
  ·intro w hSw
   (try dsimp only at hSw)
   go_simp
   try with_reducible rfl
  try simp only [Act.put, s1q, s2q, s3q]
  have d9 := HD9.out
  refine take_in (i := 18) (v := ?_) rfl (by kernel_rfl) (by kernel_rfl) (by kernel_rfl) (fun _ _ _ h => h) (by rfl) ?_ hHeld ?_
  rotate_left
  ·intro w hSw
   (try dsimp only at hSw)
   go_simp
   try with_reducible rfl
  try simp only [Act.put, s1q, s2q, s3q]
  refine take_in (i := 19) (v := ?_) rfl (by kernel_rfl) (by kernel_rfl) (by kernel_rfl) (fun _ _ _ h => h) (by rfl) ?_ hHeld ?_
  rotate_left
  ·intro w hSw
   (try dsimp only at hSw)
   go_simp
   try with_reducible rfl
  try simp only [Act.put, s1q, s2q, s3q]
  refine take_in (i := 20) (v := ?_) rfl (by kernel_rfl) (by kernel_rfl) (by kernel_rfl) (fun _ _ _ h => h) (by rfl) ?_ hHeld ?_
  rotate_left
  ·intro w hSw
   (try dsimp only at hSw)
   go_simp
   try with_reducible rfl
  try simp only [Act.put, s1q, s2q, s3q]
  refine wpAnyH_done (by kernel_rfl) ?_ _
  clear HV hk
  go_wp2_with fail
  go_ret
  exact ⟨rfl, HC.out⟩
 | true =>
  obtain ⟨R0, hR0⟩ : ∃ q, looseR Tx = q := ⟨_, rfl⟩
  obtain ⟨R1, hR1⟩ : ∃ q, looseR Tt = q := ⟨_, rfl⟩
  obtain ⟨R2, hR2⟩ : ∃ q, looseR Ta = q := ⟨_, rfl⟩
  obtain ⟨R3, hR3⟩ : ∃ q, looseR Tb = q := ⟨_, rfl⟩
  obtain ⟨D, hD⟩ : ∃ q, R1 - 2 = q := ⟨_, rfl⟩
  obtain ⟨M1, hM1⟩ : ∃ q, max D R2 = q := ⟨_, rfl⟩
  obtain ⟨M2, hM2⟩ : ∃ q, max M1 R3 = q := ⟨_, rfl⟩
  have hle := steps_le HQ1.out (HEx.out rfl)
  have hb1 := looseR_le (x := Tt)
  rw [hR1] at hb1
  rw [hR0, hR1, hR2, hR3, hD, hM1, hM2] at hle
  have HWD := Lib.hid (wrI hD (by omega) (by omega))
  have HD9 : Hid (decide (R0 ≤ M2) = true) := Lib.hid (decide_eq_true hle)
  have HR00 := Lib.hid hR0
  have HR10 := Lib.hid hR1
  have HR20 := Lib.hid hR2
  have HR30 := Lib.hid hR3
  have HO1 := Lib.hid hM1
  have HO2 := Lib.hid hM2
  have HO3 : Hid (True) := Lib.hid trivial
  clear hR0 hR1 hR2 hR3 hD hM1 hM2 hle hb1
  have HXY : Hid (Ty = Tx) := Lib.hid (by
   rw [HEy.out rfl, HEf.out rfl, HEu.out rfl, HEx.out rfl]
   exact steps_eq HQ1.out)
  have hbq := below_lit v13 (.cells #[.int .i64 ky, .int .i64 ny, .string my, .slice y1 y2 y3, .slice y4 y5 y6] 25)
  have hrx := heap_alloc_new v13 (.cells #[.int .i64 ky, .int .i64 ny, .string my, .slice y1 y2 y3, .slice y4 y5 y6] 25)
  have hlx : v13.heap.size < (v13.alloc (.cells #[.int .i64 ky, .int .i64 ny, .string my, .slice y1 y2 y3, .slice y4 y5 y6] 25)).heap.size := by simp
  obtain ⟨cx0, cx1, cx2, cx3, cx4⟩ := five_cells ((hbq.block _ HLx.out).trans HRx.out)
  obtain ⟨cy0, cy1, cy2, cy3, cy4⟩ := five_cells hrx
  go_wp2_with fail
  clear cx0 cx1 cx2 cx3 cx4 cy0 cy1 cy2 cy3 cy4
  generalize hgw : v13.alloc (.cells #[.int .i64 ky, .int .i64 ny, .string my, .slice y1 y2 y3, .slice y4 y5 y6] 25) = v14 at *
  clear hgw
  replace HRt := mvR hbq HLt HRt
  replace HLt := mvL hbq HLt
  replace HRa := mvR hbq HLa HRa
  replace HLa := mvL hbq HLa
  replace HRb := mvR hbq HLb HRb
  replace HLb := mvL hbq HLb
  replace HRx := mvR hbq HLx HRx
  replace HLx := mvL hbq HLx
  replace HRu := mvR hbq HLu HRu
  replace HLu := mvL hbq HLu
  replace HRf := mvR hbq HLf HRf
  replace HLf := mvL hbq HLf
  replace HTt := mvT hbq HTt
  replace HTa := mvT hbq HTa
  replace HTb := mvT hbq HTb
  replace HTx := mvT hbq HTx
  replace HTu := mvT hbq HTu
  replace HTf := mvT hbq HTf
  replace HTy := mvT hbq HTy
  replace HC := mvC hbq HC
  have HRy := Lib.hid hrx
  have HLy := Lib.hid hlx
  clear hbq hrx hlx
  generalize hgb : v13.heap.size = By at *
  clear hgb
  refine (sameTerm_is Tx _ _ _ HTx.out (by have := HTy.out; rw [HXY.out] at this; exact this)).mono ?_
  rintro e v15 ⟨rfl, hbq⟩
  replace HRt := mvR hbq HLt HRt
  replace HLt := mvL hbq HLt
  replace HRa := mvR hbq HLa HRa
  replace HLa := mvL hbq HLa
  replace HRb := mvR hbq HLb HRb
  replace HLb := mvL hbq HLb
  replace HRx := mvR hbq HLx HRx
  replace HLx := mvL hbq HLx
  replace HRu := mvR hbq HLu HRu
  replace HLu := mvL hbq HLu
  replace HRf := mvR hbq HLf HRf
  replace HLf := mvL hbq HLf
  replace HRy := mvR hbq HLy HRy
  replace HLy := mvL hbq HLy
  replace HTt := mvT hbq HTt
  replace HTa := mvT hbq HTa
  replace HTb := mvT hbq HTb
  replace HTx := mvT hbq HTx
  replace HTu := mvT hbq HTu
  replace HTf := mvT hbq HTf
  replace HTy := mvT hbq HTy
  replace HC := mvC hbq HC
  clear hbq
  go_upto_region 11 with fail
  have hk : Hid (∀ W', Below v15.heap.size v15 W' → W'.cell? ⟨Bx, 0, none⟩ = some (.int .i64 kx) ∧ W'.cell? ⟨Bx, 1, none⟩ = some (.int .i64 nx) ∧ W'.cell? ⟨Bx, 2, none⟩ = some (.string mx) ∧ W'.cell? ⟨Bx, 3, none⟩ = some (.slice x1 x2 x3) ∧ W'.cell? ⟨Bx, 4, none⟩ = some (.slice x4 x5 x6) ∧ W'.cell? ⟨w.heap.size, 0, none⟩ = some (.int .i64 kt) ∧ W'.cell? ⟨w.heap.size, 1, none⟩ = some (.int .i64 nt) ∧ W'.cell? ⟨w.heap.size, 2, none⟩ = some (.string mt) ∧ W'.cell? ⟨w.heap.size, 3, none⟩ = some (.slice t1 t2 t3) ∧ W'.cell? ⟨w.heap.size, 4, none⟩ = some (.slice t4 t5 t6) ∧ W'.cell? ⟨w.heap.size + 1, 0, none⟩ = some (.int .i64 ka) ∧ W'.cell? ⟨w.heap.size + 1, 1, none⟩ = some (.int .i64 na) ∧ W'.cell? ⟨w.heap.size + 1, 2, none⟩ = some (.string ma) ∧ W'.cell? ⟨w.heap.size + 1, 3, none⟩ = some (.slice a1 a2 a3) ∧ W'.cell? ⟨w.heap.size + 1, 4, none⟩ = some (.slice a4 a5 a6) ∧ W'.cell? ⟨w.heap.size + 1 + 1, 0, none⟩ = some (.int .i64 kb) ∧ W'.cell? ⟨w.heap.size + 1 + 1, 1, none⟩ = some (.int .i64 nb) ∧ W'.cell? ⟨w.heap.size + 1 + 1, 2, none⟩ = some (.string mb) ∧ W'.cell? ⟨w.heap.size + 1 + 1, 3, none⟩ = some (.slice b1 b2 b3) ∧ W'.cell? ⟨w.heap.size + 1 + 1, 4, none⟩ = some (.slice b4 b5 b6)) := fun W' h => by
   obtain ⟨qx0, qx1, qx2, qx3, qx4⟩ := five_cells ((h.block _ HLx.out).trans HRx.out)
   obtain ⟨qt0, qt1, qt2, qt3, qt4⟩ := five_cells ((h.block _ HLt.out).trans HRt.out)
   obtain ⟨qa0, qa1, qa2, qa3, qa4⟩ := five_cells ((h.block _ HLa.out).trans HRa.out)
   obtain ⟨qb0, qb1, qb2, qb3, qb4⟩ := five_cells ((h.block _ HLb.out).trans HRb.out)
   exact ⟨qx0, qx1, qx2, qx3, qx4, qt0, qt1, qt2, qt3, qt4, qa0, qa1, qa2, qa3, qa4, qb0, qb1, qb2, qb3, qb4⟩
  refine wp_region_held_drew (S := fun W' => W'.cell? ⟨Bx, 0, none⟩ = some (.int .i64 kx) ∧ W'.cell? ⟨Bx, 1, none⟩ = some (.int .i64 nx) ∧ W'.cell? ⟨Bx, 2, none⟩ = some (.string mx) ∧ W'.cell? ⟨Bx, 3, none⟩ = some (.slice x1 x2 x3) ∧ W'.cell? ⟨Bx, 4, none⟩ = some (.slice x4 x5 x6) ∧ W'.cell? ⟨w.heap.size, 0, none⟩ = some (.int .i64 kt) ∧ W'.cell? ⟨w.heap.size, 1, none⟩ = some (.int .i64 nt) ∧ W'.cell? ⟨w.heap.size, 2, none⟩ = some (.string mt) ∧ W'.cell? ⟨w.heap.size, 3, none⟩ = some (.slice t1 t2 t3) ∧ W'.cell? ⟨w.heap.size, 4, none⟩ = some (.slice t4 t5 t6) ∧ W'.cell? ⟨w.heap.size + 1, 0, none⟩ = some (.int .i64 ka) ∧ W'.cell? ⟨w.heap.size + 1, 1, none⟩ = some (.int .i64 na) ∧ W'.cell? ⟨w.heap.size + 1, 2, none⟩ = some (.string ma) ∧ W'.cell? ⟨w.heap.size + 1, 3, none⟩ = some (.slice a1 a2 a3) ∧ W'.cell? ⟨w.heap.size + 1, 4, none⟩ = some (.slice a4 a5 a6) ∧ W'.cell? ⟨w.heap.size + 1 + 1, 0, none⟩ = some (.int .i64 kb) ∧ W'.cell? ⟨w.heap.size + 1 + 1, 1, none⟩ = some (.int .i64 nb) ∧ W'.cell? ⟨w.heap.size + 1 + 1, 2, none⟩ = some (.string mb) ∧ W'.cell? ⟨w.heap.size + 1 + 1, 3, none⟩ = some (.slice b1 b2 b3) ∧ W'.cell? ⟨w.heap.size + 1 + 1, 4, none⟩ = some (.slice b4 b5 b6)) (by kernel_rfl) (hk.out _ ((Below.refl _ _).drew)) (fun hHeld => ?_)
  have HV := Lib.hid ((Below.refl v15.heap.size v15).drew)
  have hbq := HV.out
  replace HRt := mvR hbq HLt HRt
  replace HLt := mvL hbq HLt
  replace HRa := mvR hbq HLa HRa
  replace HLa := mvL hbq HLa
  replace HRb := mvR hbq HLb HRb
  replace HLb := mvL hbq HLb
  replace HRx := mvR hbq HLx HRx
  replace HLx := mvL hbq HLx
  replace HRu := mvR hbq HLu HRu
  replace HLu := mvL hbq HLu
  replace HRf := mvR hbq HLf HRf
  replace HLf := mvL hbq HLf
  replace HRy := mvR hbq HLy HRy
  replace HLy := mvL hbq HLy
  replace HTt := mvT hbq HTt
  replace HTa := mvT hbq HTa
  replace HTb := mvT hbq HTb
  replace HTx := mvT hbq HTx
  replace HTu := mvT hbq HTu
  replace HTf := mvT hbq HTf
  replace HTy := mvT hbq HTy
  replace HC := mvC hbq HC
  clear hbq
  generalize v15.drew = v16 at *
  refine take_in (i := 0) (v := ?_) rfl (by kernel_rfl) (by kernel_rfl) (by kernel_rfl) (fun _ _ _ h => h) (by rfl) ?_ hHeld ?_
  rotate_left
  ·intro w hSw
   (try dsimp only at hSw)
   go_simp
   try with_reducible rfl
  try simp only [Act.put, s1q, s2q, s3q]
  refine take_in (i := 1) (v := ?_) rfl (by kernel_rfl) (by kernel_rfl) (by kernel_rfl) (fun _ _ _ h => h) (by rfl) ?_ hHeld ?_
  rotate_left
  ·intro w hSw
   (try dsimp only at hSw)
   go_simp
   try with_reducible rfl
  try simp only [Act.put, s1q, s2q, s3q]
  refine take_in (i := 2) (v := ?_) rfl (by kernel_rfl) (by kernel_rfl) (by kernel_rfl) (fun _ _ _ h => h) (by rfl) ?_ hHeld ?_
  rotate_left
  ·intro w hSw
   (try dsimp only at hSw)
   go_simp
   try with_reducible rfl
  try simp only [Act.put, s1q, s2q, s3q]
  refine take_in (i := 3) (v := ?_) rfl (by kernel_rfl) (by kernel_rfl) (by kernel_rfl) (fun _ _ _ h => h) (by rfl) ?_ hHeld ?_
  rotate_left
  ·intro w hSw
   (try dsimp only at hSw)
   go_simp
   try with_reducible rfl
  try simp only [Act.put, s1q, s2q, s3q]
  refine take_in (i := 4) (v := ?_) rfl (by kernel_rfl) (by kernel_rfl) (by kernel_rfl) (fun _ _ _ h => h) (by rfl) ?_ hHeld ?_
  rotate_left
  ·intro w hSw
   (try dsimp only at hSw)
   go_simp
   try with_reducible rfl
  try simp only [Act.put, s1q, s2q, s3q]
  refine take_in (i := 5) (v := ?_) rfl (by kernel_rfl) (by kernel_rfl) (by kernel_rfl) (fun _ _ _ h => h) (by rfl) ?_ hHeld ?_
  rotate_left
  ·intro w hSw
   (try dsimp only at hSw)
   go_simp
   try with_reducible rfl
  try simp only [Act.put, s1q, s2q, s3q]
  refine take_in (i := 6) (v := ?_) rfl (by kernel_rfl) (by kernel_rfl) (by kernel_rfl) (fun _ _ _ h => h) (by rfl) ?_ hHeld ?_
  rotate_left
  ·intro w hSw
   (try dsimp only at hSw)
   go_simp
   try with_reducible rfl
  try simp only [Act.put, s1q, s2q, s3q]
  refine take_in (i := 7) (v := ?_) rfl (by kernel_rfl) (by kernel_rfl) (by kernel_rfl) (fun _ _ _ h => h) (by rfl) ?_ hHeld ?_
  rotate_left
  ·intro w hSw
   (try dsimp only at hSw)
   go_simp
   try with_reducible rfl
  try simp only [Act.put, s1q, s2q, s3q]
  refine take_in (i := 9) (v := ?_) rfl (by kernel_rfl) (by kernel_rfl) (by kernel_rfl) (fun _ _ _ h => h) (by rfl) ?_ hHeld ?_
  rotate_left
  ·intro w hSw
   (try dsimp only at hSw)
   go_simp
   try with_reducible rfl
  try simp only [Act.put, s1q, s2q, s3q]
  refine take_in (i := 12) (v := ?_) rfl (by kernel_rfl) (by kernel_rfl) (by kernel_rfl) (fun _ _ _ h => h) (by rfl) ?_ hHeld ?_
  rotate_left
  ·intro w hSw
   (try dsimp only at hSw)
   go_simp
   try with_reducible rfl
  try simp only [Act.put, s1q, s2q, s3q]
  refine take_in (i := 15) (v := ?_) rfl (by kernel_rfl) (by kernel_rfl) (by kernel_rfl) (fun _ _ _ h => h) (by rfl) ?_ hHeld ?_
  rotate_left
  ·intro w hSw
   (try dsimp only at hSw)
   go_simp
   try with_reducible rfl
  try simp only [Act.put, s1q, s2q, s3q]
  refine call_in (i := 8) rfl (by kernel_rfl) (fun K hK => ?_)
  clear hHeld
  go_simp
  refine (refLoose_free Tx _ _ HTx.out HMx.out R0 HR00.out).mono ?_
  rintro e v17 ⟨rfl, hbq⟩
  replace HRt := mvR hbq HLt HRt
  replace HLt := mvL hbq HLt
  replace HRa := mvR hbq HLa HRa
  replace HLa := mvL hbq HLa
  replace HRb := mvR hbq HLb HRb
  replace HLb := mvL hbq HLb
  replace HRx := mvR hbq HLx HRx
  replace HLx := mvL hbq HLx
  replace HRu := mvR hbq HLu HRu
  replace HLu := mvL hbq HLu
  replace HRf := mvR hbq HLf HRf
  replace HLf := mvL hbq HLf
  replace HRy := mvR hbq HLy HRy
  replace HLy := mvL hbq HLy
  replace HTt := mvT hbq HTt
  replace HTa := mvT hbq HTa
  replace HTb := mvT hbq HTb
  replace HTx := mvT hbq HTx
  replace HTu := mvT hbq HTu
  replace HTf := mvT hbq HTf
  replace HTy := mvT hbq HTy
  replace HC := mvC hbq HC
  replace HV := mvC hbq HV
  clear hbq
  try (go_wp2_with fail)
  refine hK.out _ _ (hk.out _ HV.out) (fun hHeld => ?_)
  clear hK K
  try simp only [Act.put, s1q, s2q, s3q]
  refine call_in (i := 10) rfl (by kernel_rfl) (fun K hK => ?_)
  clear hHeld
  go_simp
  refine (refLoose_free Tt _ _ HTt.out HMt.out R1 HR10.out).mono ?_
  rintro e v18 ⟨rfl, hbq⟩
  replace HRt := mvR hbq HLt HRt
  replace HLt := mvL hbq HLt
  replace HRa := mvR hbq HLa HRa
  replace HLa := mvL hbq HLa
  replace HRb := mvR hbq HLb HRb
  replace HLb := mvL hbq HLb
  replace HRx := mvR hbq HLx HRx
  replace HLx := mvL hbq HLx
  replace HRu := mvR hbq HLu HRu
  replace HLu := mvL hbq HLu
  replace HRf := mvR hbq HLf HRf
  replace HLf := mvL hbq HLf
  replace HRy := mvR hbq HLy HRy
  replace HLy := mvL hbq HLy
  replace HTt := mvT hbq HTt
  replace HTa := mvT hbq HTa
  replace HTb := mvT hbq HTb
  replace HTx := mvT hbq HTx
  replace HTu := mvT hbq HTu
  replace HTf := mvT hbq HTf
  replace HTy := mvT hbq HTy
  replace HC := mvC hbq HC
  replace HV := mvC hbq HV
  clear hbq
  try (go_wp2_with fail)
  refine hK.out _ _ (hk.out _ HV.out) (fun hHeld => ?_)
  clear hK K
  try simp only [Act.put, s1q, s2q, s3q]
  obtain ⟨w1, w2⟩ := HWD.out
  refine take_in (i := 11) (v := ?_) rfl (by kernel_rfl) (by kernel_rfl) (by kernel_rfl) (fun _ _ _ h => h) (by rfl) ?_ hHeld ?_
  rotate_left
  ·intro w hSw
   (try dsimp only at hSw)
   go_simp
   try with_reducible rfl
  try simp only [Act.put, s1q, s2q, s3q]
  refine call_in (i := 13) rfl (by kernel_rfl) (fun K hK => ?_)
  clear hHeld
  go_simp
  refine (refLoose_free Ta _ _ HTa.out HMa.out R2 HR20.out).mono ?_
  rintro e v19 ⟨rfl, hbq⟩
  replace HRt := mvR hbq HLt HRt
  replace HLt := mvL hbq HLt
  replace HRa := mvR hbq HLa HRa
  replace HLa := mvL hbq HLa
  replace HRb := mvR hbq HLb HRb
  replace HLb := mvL hbq HLb
  replace HRx := mvR hbq HLx HRx
  replace HLx := mvL hbq HLx
  replace HRu := mvR hbq HLu HRu
  replace HLu := mvL hbq HLu
  replace HRf := mvR hbq HLf HRf
  replace HLf := mvL hbq HLf
  replace HRy := mvR hbq HLy HRy
  replace HLy := mvL hbq HLy
  replace HTt := mvT hbq HTt
  replace HTa := mvT hbq HTa
  replace HTb := mvT hbq HTb
  replace HTx := mvT hbq HTx
  replace HTu := mvT hbq HTu
  replace HTf := mvT hbq HTf
  replace HTy := mvT hbq HTy
  replace HC := mvC hbq HC
  replace HV := mvC hbq HV
  clear hbq
  try (go_wp2_with fail)
  refine hK.out _ _ (hk.out _ HV.out) (fun hHeld => ?_)
  clear hK K
  try simp only [Act.put, s1q, s2q, s3q]
  have o1 := HO1.out
  have o2 := HO2.out
  have o3 := HO3.out
  refine take_in (i := 14) (v := ?_) rfl (by kernel_rfl) (by kernel_rfl) (by kernel_rfl) (fun _ _ _ h => h) (by rfl) ?_ hHeld ?_
  rotate_left
  ·intro w hSw
   (try dsimp only at hSw)
   go_simp
   try with_reducible rfl
  try simp only [Act.put, s1q, s2q, s3q]
  refine call_in (i := 16) rfl (by kernel_rfl) (fun K hK => ?_)
  clear hHeld
  go_simp
  refine (refLoose_free Tb _ _ HTb.out HMb.out R3 HR30.out).mono ?_
  rintro e v20 ⟨rfl, hbq⟩
  replace HRt := mvR hbq HLt HRt
  replace HLt := mvL hbq HLt
  replace HRa := mvR hbq HLa HRa
  replace HLa := mvL hbq HLa
  replace HRb := mvR hbq HLb HRb
  replace HLb := mvL hbq HLb
  replace HRx := mvR hbq HLx HRx
  replace HLx := mvL hbq HLx
  replace HRu := mvR hbq HLu HRu
  replace HLu := mvL hbq HLu
  replace HRf := mvR hbq HLf HRf
  replace HLf := mvL hbq HLf
  replace HRy := mvR hbq HLy HRy
  replace HLy := mvL hbq HLy
  replace HTt := mvT hbq HTt
  replace HTa := mvT hbq HTa
  replace HTb := mvT hbq HTb
  replace HTx := mvT hbq HTx
  replace HTu := mvT hbq HTu
  replace HTf := mvT hbq HTf
  replace HTy := mvT hbq HTy
  replace HC := mvC hbq HC
  replace HV := mvC hbq HV
  clear hbq
  try (go_wp2_with fail)
  refine hK.out _ _ (hk.out _ HV.out) (fun hHeld => ?_)
  clear hK K
  try simp only [Act.put, s1q, s2q, s3q]
  refine take_in (i := 17) (v := ?_) rfl (by kernel_rfl) (by kernel_rfl) (by kernel_rfl) (fun _ _ _ h => h) (by rfl) ?_ hHeld ?_
  rotate_left
  ·intro w hSw
   (try dsimp only at hSw)
   go_simp
   try with_reducible rfl
  try simp only [Act.put, s1q, s2q, s3q]
  have d9 := HD9.out
  refine take_in (i := 18) (v := ?_) rfl (by kernel_rfl) (by kernel_rfl) (by kernel_rfl) (fun _ _ _ h => h) (by rfl) ?_ hHeld ?_
  rotate_left
  ·intro w hSw
   (try dsimp only at hSw)
   go_simp
   try with_reducible rfl
  try simp only [Act.put, s1q, s2q, s3q]
  refine take_in (i := 19) (v := ?_) rfl (by kernel_rfl) (by kernel_rfl) (by kernel_rfl) (fun _ _ _ h => h) (by rfl) ?_ hHeld ?_
  rotate_left
  ·intro w hSw
   (try dsimp only at hSw)
   go_simp
   try with_reducible rfl
  try simp only [Act.put, s1q, s2q, s3q]
  refine take_in (i := 20) (v := ?_) rfl (by kernel_rfl) (by kernel_rfl) (by kernel_rfl) (fun _ _ _ h => h) (by rfl) ?_ hHeld ?_
  rotate_left
  ·intro w hSw
   (try dsimp only at hSw)
   go_simp
   try with_reducible rfl
  try simp only [Act.put, s1q, s2q, s3q]
  refine wpAnyH_done (by kernel_rfl) ?_ _
  clear HV hk
  go_wp2_with fail
  go_ret
  exact ⟨rfl, HC.out⟩
end Bnd
end Go.Proofs.YteomfakbbcpckaaGreatDoor
