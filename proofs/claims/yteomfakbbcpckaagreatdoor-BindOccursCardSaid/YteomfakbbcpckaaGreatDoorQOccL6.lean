/-
 The law BindOccurs, walked: whatever comes in, it returns true, and nothing that was there turns.
 Conditions: the terms lie in memory as told by 'TmV', their names take at most 2^47 bytes each; name.Right's contract; the laws' own check 'alive' returns true.
-/
import Derived.Test.YteomfakbbcpckaaGreatDoorQOccF
import Derived.Test.YteomfakbbcpckaaGreatDoorJ32
namespace Go.Proofs.YteomfakbbcpckaaGreatDoor
open Go.RowKit
open Lvl
open Trm
namespace Bnd
set_option maxRecDepth 100000 in
set_option maxHeartbeats 4000000 in
theorem bindOccurs_any (Tt Tb : Tm) (Vt Vb : Value) (nm : ByteArray) (w : World) (AL : ∀ w', Below w.heap.size w w' → Calls Tryz.prog 9 #[] w' (Ret w' (.bool true))) (CN : NameC w Nm.rightB) (ht : TmV w Tt Vt) (mt9 : nmOk Tt) (hb : TmV w Tb Vb) (mb9 : nmOk Tb) :
  Calls Tryz.prog 7 #[Vt, Vb, .string nm] w (Ret w (.bool true)) := by
 have HAL := Lib.hid AL
 have HCN := Lib.hid CN
 clear AL CN
 obtain ⟨kt, nt, mt, t1, t2, t3, t4, t5, t6, rfl⟩ := tmV_open ht
 have HTt := Lib.hid ht
 have HMt := Lib.hid mt9
 clear ht mt9
 obtain ⟨kb, nb, mb, b1, b2, b3, b4, b5, b6, rfl⟩ := tmV_open hb
 have HTb := Lib.hid hb
 have HMb := Lib.hid mb9
 clear hb mb9
 go_enter Tryz.func7, Tryz.ntmps7
 go_wp2_with fail
 have z1 : (w.alloc (.cells #[.int .i64 kt, .int .i64 nt, .string mt, .slice t1 t2 t3, .slice t4 t5 t6] 25)).heap.size = w.heap.size + 1 := by simp
 have z2 : ((w.alloc (.cells #[.int .i64 kt, .int .i64 nt, .string mt, .slice t1 t2 t3, .slice t4 t5 t6] 25)).alloc (.cells #[.int .i64 kb, .int .i64 nb, .string mb, .slice b1 b2 b3, .slice b4 b5 b6] 25)).heap.size = w.heap.size + 1 + 1 := by simp
 have r0 : (w.alloc (.cells #[.int .i64 kt, .int .i64 nt, .string mt, .slice t1 t2 t3, .slice t4 t5 t6] 25)).heap[w.heap.size]? = some (Obj.cells #[.int .i64 kt, .int .i64 nt, .string mt, .slice t1 t2 t3, .slice t4 t5 t6] 25 (0, 0)) := by
  have := heap_alloc_new w (.cells #[.int .i64 kt, .int .i64 nt, .string mt, .slice t1 t2 t3, .slice t4 t5 t6] 25)
  exact this
 have r1 : ((w.alloc (.cells #[.int .i64 kt, .int .i64 nt, .string mt, .slice t1 t2 t3, .slice t4 t5 t6] 25)).alloc (.cells #[.int .i64 kb, .int .i64 nb, .string mb, .slice b1 b2 b3, .slice b4 b5 b6] 25)).heap[w.heap.size + 1]? = some (Obj.cells #[.int .i64 kb, .int .i64 nb, .string mb, .slice b1 b2 b3, .slice b4 b5 b6] 25 (0, 0)) := by
  have := heap_alloc_new (w.alloc (.cells #[.int .i64 kt, .int .i64 nt, .string mt, .slice t1 t2 t3, .slice t4 t5 t6] 25)) (.cells #[.int .i64 kb, .int .i64 nb, .string mb, .slice b1 b2 b3, .slice b4 b5 b6] 25)
  rwa [z1] at this
 have HB := Lib.hid ((below_lit w (.cells #[.int .i64 kt, .int .i64 nt, .string mt, .slice t1 t2 t3, .slice t4 t5 t6] 25)).trans ((below_lit (w.alloc (.cells #[.int .i64 kt, .int .i64 nt, .string mt, .slice t1 t2 t3, .slice t4 t5 t6] 25)) (.cells #[.int .i64 kb, .int .i64 nb, .string mb, .slice b1 b2 b3, .slice b4 b5 b6] 25)).mono (below_lit w (.cells #[.int .i64 kt, .int .i64 nt, .string mt, .slice t1 t2 t3, .slice t4 t5 t6] 25)).size))
 have HR0 := Lib.hid ((heap_alloc_old (w.alloc (.cells #[.int .i64 kt, .int .i64 nt, .string mt, .slice t1 t2 t3, .slice t4 t5 t6] 25)) (.cells #[.int .i64 kb, .int .i64 nb, .string mb, .slice b1 b2 b3, .slice b4 b5 b6] 25) (by rw [z1]; omega)).trans (r0))
 have HR1 := Lib.hid (r1)
 clear r0 r1
 generalize ((w.alloc (.cells #[.int .i64 kt, .int .i64 nt, .string mt, .slice t1 t2 t3, .slice t4 t5 t6] 25)).alloc (.cells #[.int .i64 kb, .int .i64 nb, .string mb, .slice b1 b2 b3, .slice b4 b5 b6] 25)) = W5 at *
 have HZ := Lib.hid z2
 clear z1 z2
 have HC := Lib.hid HB.out
 have HRt := HR0
 have HLt : Hid (w.heap.size < W5.heap.size) := by
  have : w.heap.size < W5.heap.size := by have := HZ.out; omega
  exact this
 replace HTt := Lib.hid (HTt.out.below HB.out)
 have HRb := HR1
 have HLb : Hid (w.heap.size + 1 < W5.heap.size) := by
  have : w.heap.size + 1 < W5.heap.size := by have := HZ.out; omega
  exact this
 replace HTb := Lib.hid (HTb.out.below HB.out)
 clear HB HZ HR0 HR1
 refine (HAL.out _ HC.out).mono ?_
 rintro e v1 ⟨rfl, hbq⟩
 replace HRt := mvR hbq HLt HRt
 replace HLt := mvL hbq HLt
 replace HRb := mvR hbq HLb HRb
 replace HLb := mvL hbq HLb
 replace HTt := mvT hbq HTt
 replace HTb := mvT hbq HTb
 replace HC := mvC hbq HC
 clear hbq
 obtain ⟨ct0, ct1, ct2, ct3, ct4⟩ := five_cells HRt.out
 obtain ⟨cb0, cb1, cb2, cb3, cb4⟩ := five_cells HRb.out
 have hbq := below_lit v1 (.cells #[.int .i64 kb, .int .i64 nb, .string mb, .slice b1 b2 b3, .slice b4 b5 b6] 25)
 have hts := Lib.hid (tsP_v1 HTb.out)
 go_wp2_with fail
 clear ct0 ct1 ct2 ct3 ct4 cb0 cb1 cb2 cb3 cb4
 generalize hgw : v1.alloc (.cells #[.int .i64 kb, .int .i64 nb, .string mb, .slice b1 b2 b3, .slice b4 b5 b6] 25) = v2 at *
 clear hgw
 replace HRt := mvR hbq HLt HRt
 replace HLt := mvL hbq HLt
 replace HRb := mvR hbq HLb HRb
 replace HLb := mvL hbq HLb
 replace HTt := mvT hbq HTt
 replace HTb := mvT hbq HTb
 replace HC := mvC hbq HC
 clear hbq
 refine (great_v Tt _ [Tb] _ 1 1 _ HTt.out HMt.out hts.out rfl (by decide) (by rw [nmOkL, nmOkL]; exact ⟨HMb.out, trivial⟩)).mono ?_
 rintro e v3 ⟨b9, h20, rfl, hbq⟩
 replace HRt := mvR hbq HLt HRt
 replace HLt := mvL hbq HLt
 replace HRb := mvR hbq HLb HRb
 replace HLb := mvL hbq HLb
 replace HTt := mvT hbq HTt
 replace HTb := mvT hbq HTb
 replace HC := mvC hbq HC
 clear hbq hts
 cases b9 with
 | true =>
  clear h20
  obtain ⟨ct0, ct1, ct2, ct3, ct4⟩ := five_cells HRt.out
  obtain ⟨cb0, cb1, cb2, cb3, cb4⟩ := five_cells HRb.out
  go_wp2_with fail
  go_ret
  exact ⟨rfl, HC.out⟩
 | false =>
 have HRN := Lib.hid (h20 rfl).1
 clear h20
 by_cases h40 : 40 < nm.size
 ·have d4 : decide (40 < (nm.size : Int)) = true := by simp; omega
  have d5 : decide (40 < nm.size) = true := by simp; omega
  clear h40
  obtain ⟨ct0, ct1, ct2, ct3, ct4⟩ := five_cells HRt.out
  obtain ⟨cb0, cb1, cb2, cb3, cb4⟩ := five_cells HRb.out
  go_wp2_with fail
  go_ret
  exact ⟨rfl, HC.out⟩
 have d4 : decide (40 < (nm.size : Int)) = false := by simp; omega
 have d5 : decide (40 < nm.size) = false := by simp; omega
 have HSN : Hid (nm.size ≤ 140737488355328) := by
  have : nm.size ≤ 140737488355328 := by omega
  exact this
 clear h40
 have HMN := Lib.hid (show tnodes Tt ≤ 100000 by have := HRN.out; have := tn_rn Tt; omega)
 obtain ⟨q1, hq⟩ : ∃ q, (areB Nm.rightB [Tt, Tb] && decide (tnodes (subT (replF nm Tb) Tt 0) ≤ 2000)) = q := ⟨_, rfl⟩
 have HQ1 := Lib.hid hq
 clear hq
 obtain ⟨bt, hbt⟩ : ∃ q, occB Nm.rightB Tt nm = q := ⟨_, rfl⟩
 have HBT := Lib.hid hbt
 clear hbt
 obtain ⟨ct0, ct1, ct2, ct3, ct4⟩ := five_cells HRt.out
 obtain ⟨cb0, cb1, cb2, cb3, cb4⟩ := five_cells HRb.out
 go_wp2_with fail
 clear ct0 ct1 ct2 ct3 ct4 cb0 cb1 cb2 cb3 cb4
 clear d4 d5
 refine (repl_v Nm.rightB Tt _ nm Tb _ _ HTt.out HMt.out HTb.out HMb.out (HCN.out.below HC.out) q1 HQ1.out).mono ?_
 intro e v4 hret
 obtain ⟨Tx, kx, nx, mx, x1, x2, x3, x4, x5, x6, rfl, hbq, hX, hN, hE⟩ := bret_tm hret (nm_repl nm Tb HMb.out Tt 0 HMt.out)
 clear hret
 replace HRt := mvR hbq HLt HRt
 replace HLt := mvL hbq HLt
 replace HRb := mvR hbq HLb HRb
 replace HLb := mvL hbq HLb
 replace HTt := mvT hbq HTt
 replace HTb := mvT hbq HTb
 replace HC := mvC hbq HC
 have HTx := Lib.hid hX.out
 have HMx := Lib.hid hN.out
 have HEx := Lib.hid hE.out
 clear hbq hX hN hE 
 have hbq := below_lit v4 (.cells #[.int .i64 kx, .int .i64 nx, .string mx, .slice x1 x2 x3, .slice x4 x5 x6] 25)
 have hrx := heap_alloc_new v4 (.cells #[.int .i64 kx, .int .i64 nx, .string mx, .slice x1 x2 x3, .slice x4 x5 x6] 25)
 have hlx : v4.heap.size < (v4.alloc (.cells #[.int .i64 kx, .int .i64 nx, .string mx, .slice x1 x2 x3, .slice x4 x5 x6] 25)).heap.size := by simp
 go_upto_region 6 with fail
 generalize hgw : v4.alloc (.cells #[.int .i64 kx, .int .i64 nx, .string mx, .slice x1 x2 x3, .slice x4 x5 x6] 25) = v5 at *
 clear hgw
 replace HRt := mvR hbq HLt HRt
 replace HLt := mvL hbq HLt
 replace HRb := mvR hbq HLb HRb
 replace HLb := mvL hbq HLb
 replace HTt := mvT hbq HTt
 replace HTb := mvT hbq HTb
 replace HTx := mvT hbq HTx
 replace HC := mvC hbq HC
 have HRx := Lib.hid hrx
 have HLx := Lib.hid hlx
 clear hbq hrx hlx
 generalize hgb : v4.heap.size = Bx at *
 clear hgb
 refine wp_mono (Q := fun e a' W' => e = .normal ∧ ∃ (y29 y30 y31 y32 y33 y34 y35 y36 y37 y38 y39 y40 y41 y42 y43 y44 y45 y46 y47 y48 y49 y50 y51 y52 : Value), Below v5.heap.size v5 W' ∧ a' = { tmps := #[.agg #[.int .i64 kt, .int .i64 nt, .string mt, .slice t1 t2 t3, .slice t4 t5 t6], .agg #[.int .i64 kb, .int .i64 nb, .string mb, .slice b1 b2 b3, .slice b4 b5 b6], .string nm, .pointer (some ⟨w.heap.size, 0, none⟩), .pointer (some ⟨w.heap.size + 1, 0, none⟩), undef, .bool false, .pointer (some ⟨Bx, 0, none⟩), .bool q1, undef, undef, .bool true, .bool false, .agg #[.int .i64 kt, .int .i64 nt, .string mt, .slice t1 t2 t3, .slice t4 t5 t6], .agg #[.int .i64 kb, .int .i64 nb, .string mb, .slice b1 b2 b3, .slice b4 b5 b6], .slice (some ⟨v1.heap.size, 0, none⟩) 1 1, .bool false, .bool false, .string nm, .int .i64 (nm.size : Nat), .bool false, .bool false, .tuple #[.agg #[.int .i64 kx, .int .i64 nx, .string mx, .slice x1 x2 x3, .slice x4 x5 x6], .bool q1], .agg #[.int .i64 kt, .int .i64 nt, .string mt, .slice t1 t2 t3, .slice t4 t5 t6], .string nm, .agg #[.int .i64 kb, .int .i64 nb, .string mb, .slice b1 b2 b3, .slice b4 b5 b6], .tuple #[.agg #[.int .i64 kx, .int .i64 nx, .string mx, .slice x1 x2 x3, .slice x4 x5 x6], .bool q1], .agg #[.int .i64 kx, .int .i64 nx, .string mx, .slice x1 x2 x3, .slice x4 x5 x6], .bool q1, y29, y30, y31, y32, y33, y34, y35, y36, y37, y38, y39, y40, y41, y42, y43, y44, y45, y46, y47, y48, y49, y50, y51, y52, .bool false, undef, undef, undef, undef, undef, undef, undef, undef, undef, undef, undef, undef, undef, undef, undef, undef, undef, undef, undef, undef, undef, undef, undef, undef, undef, undef, undef, undef, undef, undef], defers := [] }) ?region ?rest
 case region =>
  have hk : Hid (∀ W', Below v5.heap.size v5 W' → W'.cell? ⟨Bx, 0, none⟩ = some (.int .i64 kx) ∧ W'.cell? ⟨Bx, 1, none⟩ = some (.int .i64 nx) ∧ W'.cell? ⟨Bx, 2, none⟩ = some (.string mx) ∧ W'.cell? ⟨Bx, 3, none⟩ = some (.slice x1 x2 x3) ∧ W'.cell? ⟨Bx, 4, none⟩ = some (.slice x4 x5 x6) ∧ W'.cell? ⟨w.heap.size, 0, none⟩ = some (.int .i64 kt) ∧ W'.cell? ⟨w.heap.size, 1, none⟩ = some (.int .i64 nt) ∧ W'.cell? ⟨w.heap.size, 2, none⟩ = some (.string mt) ∧ W'.cell? ⟨w.heap.size, 3, none⟩ = some (.slice t1 t2 t3) ∧ W'.cell? ⟨w.heap.size, 4, none⟩ = some (.slice t4 t5 t6) ∧ W'.cell? ⟨w.heap.size + 1, 0, none⟩ = some (.int .i64 kb) ∧ W'.cell? ⟨w.heap.size + 1, 1, none⟩ = some (.int .i64 nb) ∧ W'.cell? ⟨w.heap.size + 1, 2, none⟩ = some (.string mb) ∧ W'.cell? ⟨w.heap.size + 1, 3, none⟩ = some (.slice b1 b2 b3) ∧ W'.cell? ⟨w.heap.size + 1, 4, none⟩ = some (.slice b4 b5 b6)) := fun W' h => by
   obtain ⟨qx0, qx1, qx2, qx3, qx4⟩ := five_cells ((h.block _ HLx.out).trans HRx.out)
   obtain ⟨qt0, qt1, qt2, qt3, qt4⟩ := five_cells ((h.block _ HLt.out).trans HRt.out)
   obtain ⟨qb0, qb1, qb2, qb3, qb4⟩ := five_cells ((h.block _ HLb.out).trans HRb.out)
   exact ⟨qx0, qx1, qx2, qx3, qx4, qt0, qt1, qt2, qt3, qt4, qb0, qb1, qb2, qb3, qb4⟩
  refine wp_region_held_drew (S := fun W' => W'.cell? ⟨Bx, 0, none⟩ = some (.int .i64 kx) ∧ W'.cell? ⟨Bx, 1, none⟩ = some (.int .i64 nx) ∧ W'.cell? ⟨Bx, 2, none⟩ = some (.string mx) ∧ W'.cell? ⟨Bx, 3, none⟩ = some (.slice x1 x2 x3) ∧ W'.cell? ⟨Bx, 4, none⟩ = some (.slice x4 x5 x6) ∧ W'.cell? ⟨w.heap.size, 0, none⟩ = some (.int .i64 kt) ∧ W'.cell? ⟨w.heap.size, 1, none⟩ = some (.int .i64 nt) ∧ W'.cell? ⟨w.heap.size, 2, none⟩ = some (.string mt) ∧ W'.cell? ⟨w.heap.size, 3, none⟩ = some (.slice t1 t2 t3) ∧ W'.cell? ⟨w.heap.size, 4, none⟩ = some (.slice t4 t5 t6) ∧ W'.cell? ⟨w.heap.size + 1, 0, none⟩ = some (.int .i64 kb) ∧ W'.cell? ⟨w.heap.size + 1, 1, none⟩ = some (.int .i64 nb) ∧ W'.cell? ⟨w.heap.size + 1, 2, none⟩ = some (.string mb) ∧ W'.cell? ⟨w.heap.size + 1, 3, none⟩ = some (.slice b1 b2 b3) ∧ W'.cell? ⟨w.heap.size + 1, 4, none⟩ = some (.slice b4 b5 b6)) (by kernel_rfl) (hk.out _ ((Below.refl _ _).drew)) (fun hHeld => ?_)
  have HV := Lib.hid ((Below.refl v5.heap.size v5).drew)
  have hbq := HV.out
  replace HRt := mvR hbq HLt HRt
  replace HLt := mvL hbq HLt
  replace HRb := mvR hbq HLb HRb
  replace HLb := mvL hbq HLb
  replace HRx := mvR hbq HLx HRx
  replace HLx := mvL hbq HLx
  replace HTt := mvT hbq HTt
  replace HTb := mvT hbq HTb
  replace HTx := mvT hbq HTx
  replace HC := mvC hbq HC
  clear hbq
  generalize v5.drew = v6 at *
  refine take_in (i := 0) (v := ?_) rfl (by kernel_rfl) (by kernel_rfl) (by kernel_rfl) (fun _ _ _ h => by cases h.1) (by rfl) ?_ hHeld ?_
  rotate_left
  ·intro w hSw
   (try dsimp only at hSw)
   go_simp
   try with_reducible rfl
  try simp only [Act.put, s1q, s2q, s3q]
  refine take_in (i := 1) (v := ?_) rfl (by kernel_rfl) (by kernel_rfl) (by kernel_rfl) (fun _ _ _ h => by cases h.1) (by rfl) ?_ hHeld ?_
  rotate_left
  ·intro w hSw
   (try dsimp only at hSw)
   go_simp
   try with_reducible rfl
  try simp only [Act.put, s1q, s2q, s3q]
  cases q1 with
  | false =>
   refine skip_in (i := 2) rfl (by kernel_rfl) (by kernel_rfl) (by kernel_rfl) (fun _ _ _ h => by cases h.1) (by rfl) hHeld ?_
   try simp only [Act.put, s1q, s2q, s3q]
   refine skip_in (i := 3) rfl (by kernel_rfl) (by kernel_rfl) (by kernel_rfl) (fun _ _ _ h => by cases h.1) (by rfl) hHeld ?_
   try simp only [Act.put, s1q, s2q, s3q]
   refine skip_in (i := 4) rfl (by kernel_rfl) (by kernel_rfl) (by kernel_rfl) (fun _ _ _ h => by cases h.1) (by rfl) hHeld ?_
   try simp only [Act.put, s1q, s2q, s3q]
   refine take_in (i := 5) (v := ?_) rfl (by kernel_rfl) (by kernel_rfl) (by kernel_rfl) (fun _ _ _ h => by cases h.1) (by rfl) ?_ hHeld ?_
   rotate_left
   ·intro w hSw
    (try dsimp only at hSw)
    go_simp
    try with_reducible rfl
   try simp only [Act.put, s1q, s2q, s3q]
   refine take_in (i := 6) (v := ?_) rfl (by kernel_rfl) (by kernel_rfl) (by kernel_rfl) (fun _ _ _ h => by cases h.1) (by rfl) ?_ hHeld ?_
   rotate_left
   ·intro w hSw
    (try dsimp only at hSw)
    go_simp
    try with_reducible rfl
   try simp only [Act.put, s1q, s2q, s3q]
   refine skip_in (i := 7) rfl (by kernel_rfl) (by kernel_rfl) (by kernel_rfl) (fun _ _ _ h => by cases h.1) (by rfl) hHeld ?_
   try simp only [Act.put, s1q, s2q, s3q]
   refine skip_in (i := 8) rfl (by kernel_rfl) (by kernel_rfl) (by kernel_rfl) (fun _ _ _ h => by cases h.1) (by rfl) hHeld ?_
   try simp only [Act.put, s1q, s2q, s3q]
   refine skip_in (i := 9) rfl (by kernel_rfl) (by kernel_rfl) (by kernel_rfl) (fun _ _ _ h => by cases h.1) (by rfl) hHeld ?_
   try simp only [Act.put, s1q, s2q, s3q]
   refine take_in (i := 10) (v := ?_) rfl (by kernel_rfl) (by kernel_rfl) (by kernel_rfl) (fun _ _ _ h => by cases h.1) (by rfl) ?_ hHeld ?_
   rotate_left
   ·intro w hSw
    (try dsimp only at hSw)
    go_simp
    try with_reducible rfl
   try simp only [Act.put, s1q, s2q, s3q]
   refine take_in (i := 11) (v := ?_) rfl (by kernel_rfl) (by kernel_rfl) (by kernel_rfl) (fun _ _ _ h => by cases h.1) (by rfl) ?_ hHeld ?_
   rotate_left
   ·intro w hSw
    (try dsimp only at hSw)
    go_simp
    try with_reducible rfl
   try simp only [Act.put, s1q, s2q, s3q]
   refine skip_in (i := 12) rfl (by kernel_rfl) (by kernel_rfl) (by kernel_rfl) (fun _ _ _ h => by cases h.1) (by rfl) hHeld ?_
   try simp only [Act.put, s1q, s2q, s3q]
   refine skip_in (i := 13) rfl (by kernel_rfl) (by kernel_rfl) (by kernel_rfl) (fun _ _ _ h => by cases h.1) (by rfl) hHeld ?_
   try simp only [Act.put, s1q, s2q, s3q]
   refine skip_in (i := 14) rfl (by kernel_rfl) (by kernel_rfl) (by kernel_rfl) (fun _ _ _ h => by cases h.1) (by rfl) hHeld ?_
   try simp only [Act.put, s1q, s2q, s3q]
   refine skip_in (i := 15) rfl (by kernel_rfl) (by kernel_rfl) (by kernel_rfl) (fun _ _ _ h => by cases h.1) (by rfl) hHeld ?_
   try simp only [Act.put, s1q, s2q, s3q]
   refine skip_in (i := 16) rfl (by kernel_rfl) (by kernel_rfl) (by kernel_rfl) (fun _ _ _ h => by cases h.1) (by rfl) hHeld ?_
   try simp only [Act.put, s1q, s2q, s3q]
   refine skip_in (i := 17) rfl (by kernel_rfl) (by kernel_rfl) (by kernel_rfl) (fun _ _ _ h => by cases h.1) (by rfl) hHeld ?_
   try simp only [Act.put, s1q, s2q, s3q]
   refine skip_in (i := 18) rfl (by kernel_rfl) (by kernel_rfl) (by kernel_rfl) (fun _ _ _ h => by cases h.1) (by rfl) hHeld ?_
   try simp only [Act.put, s1q, s2q, s3q]
   refine skip_in (i := 19) rfl (by kernel_rfl) (by kernel_rfl) (by kernel_rfl) (fun _ _ _ h => by cases h.1) (by rfl) hHeld ?_
   try simp only [Act.put, s1q, s2q, s3q]
   refine skip_in (i := 20) rfl (by kernel_rfl) (by kernel_rfl) (by kernel_rfl) (fun _ _ _ h => by cases h.1) (by rfl) hHeld ?_
   try simp only [Act.put, s1q, s2q, s3q]
   refine skip_in (i := 21) rfl (by kernel_rfl) (by kernel_rfl) (by kernel_rfl) (fun _ _ _ h => by cases h.1) (by rfl) hHeld ?_
   try simp only [Act.put, s1q, s2q, s3q]
   refine skip_in (i := 22) rfl (by kernel_rfl) (by kernel_rfl) (by kernel_rfl) (fun _ _ _ h => by cases h.1) (by rfl) hHeld ?_
   try simp only [Act.put, s1q, s2q, s3q]
   refine skip_in (i := 23) rfl (by kernel_rfl) (by kernel_rfl) (by kernel_rfl) (fun _ _ _ h => by cases h.1) (by rfl) hHeld ?_
   try simp only [Act.put, s1q, s2q, s3q]
   refine take_in (i := 24) (v := ?_) rfl (by kernel_rfl) (by kernel_rfl) (by kernel_rfl) (fun _ _ _ h => by cases h.1) (by rfl) ?_ hHeld ?_
   rotate_left
   ·intro w hSw
    (try dsimp only at hSw)
    go_simp
    try with_reducible rfl
   try simp only [Act.put, s1q, s2q, s3q]
   refine wpAnyH_done (by kernel_rfl) ?_ _
   exact ⟨rfl, _, _, _, _, _, _, _, _, _, _, _, _, _, _, _, _, _, _, _, _, _, _, _, _, HV.out, rfl⟩
  | true =>
  obtain ⟨R2, hR2⟩ : ∃ q, looseR Tb = q := ⟨_, rfl⟩
  obtain ⟨R1, hR1⟩ : ∃ q, looseR Tt = q := ⟨_, rfl⟩
  have HR2 := Lib.hid hR2
  have HR1 := Lib.hid hR1
  clear hR1 hR2
  refine take_in (i := 2) (v := ?_) rfl (by kernel_rfl) (by kernel_rfl) (by kernel_rfl) (fun _ _ _ h => by cases h.1) (by rfl) ?_ hHeld ?_
  rotate_left
  ·intro w hSw
   (try dsimp only at hSw)
   go_simp
   try with_reducible rfl
  try simp only [Act.put, s1q, s2q, s3q]
  refine call_in (i := 3) rfl (by kernel_rfl) (fun K hK => ?_)
  clear hHeld
  go_simp
  refine (refLoose_free Tb _ _ HTb.out HMb.out R2 HR2.out).mono ?_
  rintro e v7 ⟨rfl, hbq⟩
  replace HRt := mvR hbq HLt HRt
  replace HLt := mvL hbq HLt
  replace HRb := mvR hbq HLb HRb
  replace HLb := mvL hbq HLb
  replace HRx := mvR hbq HLx HRx
  replace HLx := mvL hbq HLx
  replace HTt := mvT hbq HTt
  replace HTb := mvT hbq HTb
  replace HTx := mvT hbq HTx
  replace HC := mvC hbq HC
  replace HV := mvC hbq HV
  clear hbq
  try (go_wp2_with fail)
  refine hK.out _ _ (hk.out _ HV.out) (fun hHeld => ?_)
  clear hK K
  try simp only [Act.put, s1q, s2q, s3q]
  by_cases h2 : R2 < 1099511627776
  ·have o2 : decide (R2 < 1099511627776) = true := decide_eq_true h2
   refine take_in (i := 4) (v := ?_) rfl (by kernel_rfl) (by kernel_rfl) (by kernel_rfl) (fun _ _ _ h => by cases h.1) (by rfl) ?_ hHeld ?_
   rotate_left
   ·intro w hSw
    (try dsimp only at hSw)
    go_simp
    try with_reducible rfl
   try simp only [Act.put, s1q, s2q, s3q]
   refine take_in (i := 5) (v := ?_) rfl (by kernel_rfl) (by kernel_rfl) (by kernel_rfl) (fun _ _ _ h => by cases h.1) (by rfl) ?_ hHeld ?_
   rotate_left
   ·intro w hSw
    (try dsimp only at hSw)
    go_simp
    try with_reducible rfl
   try simp only [Act.put, s1q, s2q, s3q]
   refine take_in (i := 6) (v := ?_) rfl (by kernel_rfl) (by kernel_rfl) (by kernel_rfl) (fun _ _ _ h => by cases h.1) (by rfl) ?_ hHeld ?_
   rotate_left
   ·intro w hSw
    (try dsimp only at hSw)
    go_simp
    try with_reducible rfl
   try simp only [Act.put, s1q, s2q, s3q]
   clear o2
   refine take_in (i := 7) (v := ?_) rfl (by kernel_rfl) (by kernel_rfl) (by kernel_rfl) (fun _ _ _ h => by cases h.1) (by rfl) ?_ hHeld ?_
   rotate_left
   ·intro w hSw
    (try dsimp only at hSw)
    go_simp
    try with_reducible rfl
   try simp only [Act.put, s1q, s2q, s3q]
   refine call_in (i := 8) rfl (by kernel_rfl) (fun K hK => ?_)
   clear hHeld
   go_simp
   refine (refLoose_free Tt _ _ HTt.out HMt.out R1 HR1.out).mono ?_
   rintro e v8 ⟨rfl, hbq⟩
   replace HRt := mvR hbq HLt HRt
   replace HLt := mvL hbq HLt
   replace HRb := mvR hbq HLb HRb
   replace HLb := mvL hbq HLb
   replace HRx := mvR hbq HLx HRx
   replace HLx := mvL hbq HLx
   replace HTt := mvT hbq HTt
   replace HTb := mvT hbq HTb
   replace HTx := mvT hbq HTx
   replace HC := mvC hbq HC
   replace HV := mvC hbq HV
   clear hbq
   try (go_wp2_with fail)
   refine hK.out _ _ (hk.out _ HV.out) (fun hHeld => ?_)
   clear hK K
   try simp only [Act.put, s1q, s2q, s3q]
   by_cases h1 : R1 < 1099511627776
   ·have o1 : decide (R1 < 1099511627776) = true := decide_eq_true h1
    refine take_in (i := 9) (v := ?_) rfl (by kernel_rfl) (by kernel_rfl) (by kernel_rfl) (fun _ _ _ h => by cases h.1) (by rfl) ?_ hHeld ?_
    rotate_left
    ·intro w hSw
     (try dsimp only at hSw)
     go_simp
     try with_reducible rfl
    try simp only [Act.put, s1q, s2q, s3q]
    refine take_in (i := 10) (v := ?_) rfl (by kernel_rfl) (by kernel_rfl) (by kernel_rfl) (fun _ _ _ h => by cases h.1) (by rfl) ?_ hHeld ?_
    rotate_left
    ·intro w hSw
     (try dsimp only at hSw)
     go_simp
     try with_reducible rfl
    try simp only [Act.put, s1q, s2q, s3q]
    refine take_in (i := 11) (v := ?_) rfl (by kernel_rfl) (by kernel_rfl) (by kernel_rfl) (fun _ _ _ h => by cases h.1) (by rfl) ?_ hHeld ?_
    rotate_left
    ·intro w hSw
     (try dsimp only at hSw)
     go_simp
     try with_reducible rfl
    try simp only [Act.put, s1q, s2q, s3q]
    clear o1
    have hoq := occ_eq HQ1.out (by rw [HR1.out]; exact h1) (by rw [HR2.out]; exact h2)
    rw [← HEx.out (by trivial), HBT.out] at hoq
    obtain ⟨bb, hbb⟩ : ∃ q, occB Nm.rightB Tb nm = q := ⟨_, rfl⟩
    rw [hbb] at hoq
    have HBB := Lib.hid hbb
    have HOQ := Lib.hid hoq
    have HXN : Hid (tnodes Tx ≤ 100000) := Lib.hid (by
     have := HQ1.out
     rw [Bool.and_eq_true, decide_eq_true_iff] at this
     rw [HEx.out (by trivial)]
     omega)
    have HBN : Hid (tnodes Tb ≤ 100000) := Lib.hid (by
     have := HQ1.out
     rw [Bool.and_eq_true] at this
     have := (rightT_ok (are2' this.1).2).2.1
     omega)
    clear hoq hbb h1 h2
    refine take_in (i := 12) (v := ?_) rfl (by kernel_rfl) (by kernel_rfl) (by kernel_rfl) (fun _ _ _ h => by cases h.1) (by rfl) ?_ hHeld ?_
    rotate_left
    ·intro w hSw
     (try dsimp only at hSw)
     go_simp
     try with_reducible rfl
    try simp only [Act.put, s1q, s2q, s3q]
    refine take_in (i := 13) (v := ?_) rfl (by kernel_rfl) (by kernel_rfl) (by kernel_rfl) (fun _ _ _ h => by cases h.1) (by rfl) ?_ hHeld ?_
    rotate_left
    ·intro w hSw
     (try dsimp only at hSw)
     go_simp
     try with_reducible rfl
    try simp only [Act.put, s1q, s2q, s3q]
    refine take_in (i := 15) (v := ?_) rfl (by kernel_rfl) (by kernel_rfl) (by kernel_rfl) (fun _ _ _ h => by cases h.1) (by rfl) ?_ hHeld ?_
    rotate_left
    ·intro w hSw
     (try dsimp only at hSw)
     go_simp
     try with_reducible rfl
    try simp only [Act.put, s1q, s2q, s3q]
    refine take_in (i := 16) (v := ?_) rfl (by kernel_rfl) (by kernel_rfl) (by kernel_rfl) (fun _ _ _ h => by cases h.1) (by rfl) ?_ hHeld ?_
    rotate_left
    ·intro w hSw
     (try dsimp only at hSw)
     go_simp
     try with_reducible rfl
    try simp only [Act.put, s1q, s2q, s3q]
    obtain ⟨bx, hbx⟩ : ∃ q, (bt && bb) = q := ⟨_, rfl⟩
    have HBX : Hid (occB Nm.rightB Tx nm = bx) := Lib.hid (HOQ.out.trans hbx)
    have HBX2 := Lib.hid hbx
    clear hbx
    refine call_in (i := 14) rfl (by kernel_rfl) (fun K hK => ?_)
    clear hHeld
    go_simp
    refine (occ_v Nm.rightB Tx _ nm _ HTx.out HXN.out HMx.out (HCN.out.below HC.out) bx HBX.out).mono ?_
    rintro e v9 ⟨rfl, hbq⟩
    replace HRt := mvR hbq HLt HRt
    replace HLt := mvL hbq HLt
    replace HRb := mvR hbq HLb HRb
    replace HLb := mvL hbq HLb
    replace HRx := mvR hbq HLx HRx
    replace HLx := mvL hbq HLx
    replace HTt := mvT hbq HTt
    replace HTb := mvT hbq HTb
    replace HTx := mvT hbq HTx
    replace HC := mvC hbq HC
    replace HV := mvC hbq HV
    clear hbq
    try (go_wp2_with fail)
    refine hK.out _ _ (hk.out _ HV.out) (fun hHeld => ?_)
    clear hK K
    try simp only [Act.put, s1q, s2q, s3q]
    refine call_in (i := 17) rfl (by kernel_rfl) (fun K hK => ?_)
    clear hHeld
    go_simp
    refine (occ_v Nm.rightB Tt _ nm _ HTt.out HMN.out HMt.out (HCN.out.below HC.out) bt HBT.out).mono ?_
    rintro e v10 ⟨rfl, hbq⟩
    replace HRt := mvR hbq HLt HRt
    replace HLt := mvL hbq HLt
    replace HRb := mvR hbq HLb HRb
    replace HLb := mvL hbq HLb
    replace HRx := mvR hbq HLx HRx
    replace HLx := mvL hbq HLx
    replace HTt := mvT hbq HTt
    replace HTb := mvT hbq HTb
    replace HTx := mvT hbq HTx
    replace HC := mvC hbq HC
    replace HV := mvC hbq HV
    clear hbq
    try (go_wp2_with fail)
    refine hK.out _ _ (hk.out _ HV.out) (fun hHeld => ?_)
    clear hK K
    try simp only [Act.put, s1q, s2q, s3q]
    refine take_in (i := 18) (v := ?_) rfl (by kernel_rfl) (by kernel_rfl) (by kernel_rfl) (fun _ _ _ h => by cases h.1) (by rfl) ?_ hHeld ?_
    rotate_left
    ·intro w hSw
     (try dsimp only at hSw)
     go_simp
     try with_reducible rfl
    try simp only [Act.put, s1q, s2q, s3q]
    cases bt with
    | false =>
     obtain rfl : false = bx := HBX2.out
     refine skip_in (i := 19) rfl (by kernel_rfl) (by kernel_rfl) (by kernel_rfl) (fun _ _ _ h => by cases h.1) (by rfl) hHeld ?_
     try simp only [Act.put, s1q, s2q, s3q]
     refine skip_in (i := 20) rfl (by kernel_rfl) (by kernel_rfl) (by kernel_rfl) (fun _ _ _ h => by cases h.1) (by rfl) hHeld ?_
     try simp only [Act.put, s1q, s2q, s3q]
     refine skip_in (i := 21) rfl (by kernel_rfl) (by kernel_rfl) (by kernel_rfl) (fun _ _ _ h => by cases h.1) (by rfl) hHeld ?_
     try simp only [Act.put, s1q, s2q, s3q]
     refine take_in (i := 22) (v := ?_) rfl (by kernel_rfl) (by kernel_rfl) (by kernel_rfl) (fun _ _ _ h => by cases h.1) (by rfl) ?_ hHeld ?_
     rotate_left
     ·intro w hSw
      (try dsimp only at hSw)
      go_simp
      try with_reducible rfl
     try simp only [Act.put, s1q, s2q, s3q]
     refine take_in (i := 23) (v := ?_) rfl (by kernel_rfl) (by kernel_rfl) (by kernel_rfl) (fun _ _ _ h => by cases h.1) (by rfl) ?_ hHeld ?_
     rotate_left
     ·intro w hSw
      (try dsimp only at hSw)
      go_simp
      try with_reducible rfl
     try simp only [Act.put, s1q, s2q, s3q]
     refine take_in (i := 24) (v := ?_) rfl (by kernel_rfl) (by kernel_rfl) (by kernel_rfl) (fun _ _ _ h => by cases h.1) (by rfl) ?_ hHeld ?_
     rotate_left
     ·intro w hSw
      (try dsimp only at hSw)
      go_simp
      try with_reducible rfl
     try simp only [Act.put, s1q, s2q, s3q]
     refine wpAnyH_done (by kernel_rfl) ?_ _
     exact ⟨rfl, _, _, _, _, _, _, _, _, _, _, _, _, _, _, _, _, _, _, _, _, _, _, _, _, HV.out, rfl⟩
    | true =>
     obtain rfl : bb = bx := HBX2.out
     refine take_in (i := 19) (v := ?_) rfl (by kernel_rfl) (by kernel_rfl) (by kernel_rfl) (fun _ _ _ h => by cases h.1) (by rfl) ?_ hHeld ?_
     rotate_left
     ·intro w hSw
      (try dsimp only at hSw)
      go_simp
      try with_reducible rfl
     try simp only [Act.put, s1q, s2q, s3q]
     refine take_in (i := 20) (v := ?_) rfl (by kernel_rfl) (by kernel_rfl) (by kernel_rfl) (fun _ _ _ h => by cases h.1) (by rfl) ?_ hHeld ?_
     rotate_left
     ·intro w hSw
      (try dsimp only at hSw)
      go_simp
      try with_reducible rfl
     try simp only [Act.put, s1q, s2q, s3q]
     refine call_in (i := 21) rfl (by kernel_rfl) (fun K hK => ?_)
     clear hHeld
     go_simp
     refine (occ_v Nm.rightB Tb _ nm _ HTb.out HBN.out HMb.out (HCN.out.below HC.out) bb HBB.out).mono ?_
     rintro e v11 ⟨rfl, hbq⟩
     replace HRt := mvR hbq HLt HRt
     replace HLt := mvL hbq HLt
     replace HRb := mvR hbq HLb HRb
     replace HLb := mvL hbq HLb
     replace HRx := mvR hbq HLx HRx
     replace HLx := mvL hbq HLx
     replace HTt := mvT hbq HTt
     replace HTb := mvT hbq HTb
     replace HTx := mvT hbq HTx
     replace HC := mvC hbq HC
     replace HV := mvC hbq HV
     clear hbq
     try (go_wp2_with fail)
     refine hK.out _ _ (hk.out _ HV.out) (fun hHeld => ?_)
     clear hK K
     try simp only [Act.put, s1q, s2q, s3q]
     cases bb with
     | false =>
      refine take_in (i := 22) (v := ?_) rfl (by kernel_rfl) (by kernel_rfl) (by kernel_rfl) (fun _ _ _ h => by cases h.1) (by rfl) ?_ hHeld ?_
      rotate_left
      ·intro w hSw
       (try dsimp only at hSw)
       go_simp
       try with_reducible rfl
      try simp only [Act.put, s1q, s2q, s3q]
      refine take_in (i := 23) (v := ?_) rfl (by kernel_rfl) (by kernel_rfl) (by kernel_rfl) (fun _ _ _ h => by cases h.1) (by rfl) ?_ hHeld ?_
      rotate_left
      ·intro w hSw
       (try dsimp only at hSw)
       go_simp
       try with_reducible rfl
      try simp only [Act.put, s1q, s2q, s3q]
      refine take_in (i := 24) (v := ?_) rfl (by kernel_rfl) (by kernel_rfl) (by kernel_rfl) (fun _ _ _ h => by cases h.1) (by rfl) ?_ hHeld ?_
      rotate_left
      ·intro w hSw
       (try dsimp only at hSw)
       go_simp
       try with_reducible rfl
      try simp only [Act.put, s1q, s2q, s3q]
      refine wpAnyH_done (by kernel_rfl) ?_ _
      exact ⟨rfl, _, _, _, _, _, _, _, _, _, _, _, _, _, _, _, _, _, _, _, _, _, _, _, _, HV.out, rfl⟩
     | true =>
      refine take_in (i := 22) (v := ?_) rfl (by kernel_rfl) (by kernel_rfl) (by kernel_rfl) (fun _ _ _ h => by cases h.1) (by rfl) ?_ hHeld ?_
      rotate_left
      ·intro w hSw
       (try dsimp only at hSw)
       go_simp
       try with_reducible rfl
      try simp only [Act.put, s1q, s2q, s3q]
      refine take_in (i := 23) (v := ?_) rfl (by kernel_rfl) (by kernel_rfl) (by kernel_rfl) (fun _ _ _ h => by cases h.1) (by rfl) ?_ hHeld ?_
      rotate_left
      ·intro w hSw
       (try dsimp only at hSw)
       go_simp
       try with_reducible rfl
      try simp only [Act.put, s1q, s2q, s3q]
      refine take_in (i := 24) (v := ?_) rfl (by kernel_rfl) (by kernel_rfl) (by kernel_rfl) (fun _ _ _ h => by cases h.1) (by rfl) ?_ hHeld ?_
      rotate_left
      ·intro w hSw
       (try dsimp only at hSw)
       go_simp
       try with_reducible rfl
      try simp only [Act.put, s1q, s2q, s3q]
      refine wpAnyH_done (by kernel_rfl) ?_ _
      exact ⟨rfl, _, _, _, _, _, _, _, _, _, _, _, _, _, _, _, _, _, _, _, _, _, _, _, _, HV.out, rfl⟩
   ·have o1 : decide (R1 < 1099511627776) = false := decide_eq_false h1
    clear h1 h2
    refine take_in (i := 9) (v := ?_) rfl (by kernel_rfl) (by kernel_rfl) (by kernel_rfl) (fun _ _ _ h => by cases h.1) (by rfl) ?_ hHeld ?_
    rotate_left
    ·intro w hSw
     (try dsimp only at hSw)
     go_simp
     try with_reducible rfl
    try simp only [Act.put, s1q, s2q, s3q]
    refine take_in (i := 10) (v := ?_) rfl (by kernel_rfl) (by kernel_rfl) (by kernel_rfl) (fun _ _ _ h => by cases h.1) (by rfl) ?_ hHeld ?_
    rotate_left
    ·intro w hSw
     (try dsimp only at hSw)
     go_simp
     try with_reducible rfl
    try simp only [Act.put, s1q, s2q, s3q]
    refine take_in (i := 11) (v := ?_) rfl (by kernel_rfl) (by kernel_rfl) (by kernel_rfl) (fun _ _ _ h => by cases h.1) (by rfl) ?_ hHeld ?_
    rotate_left
    ·intro w hSw
     (try dsimp only at hSw)
     go_simp
     try with_reducible rfl
    try simp only [Act.put, s1q, s2q, s3q]
    refine skip_in (i := 12) rfl (by kernel_rfl) (by kernel_rfl) (by kernel_rfl) (fun _ _ _ h => by cases h.1) (by rfl) hHeld ?_
    try simp only [Act.put, s1q, s2q, s3q]
    refine skip_in (i := 13) rfl (by kernel_rfl) (by kernel_rfl) (by kernel_rfl) (fun _ _ _ h => by cases h.1) (by rfl) hHeld ?_
    try simp only [Act.put, s1q, s2q, s3q]
    refine skip_in (i := 14) rfl (by kernel_rfl) (by kernel_rfl) (by kernel_rfl) (fun _ _ _ h => by cases h.1) (by rfl) hHeld ?_
    try simp only [Act.put, s1q, s2q, s3q]
    refine skip_in (i := 15) rfl (by kernel_rfl) (by kernel_rfl) (by kernel_rfl) (fun _ _ _ h => by cases h.1) (by rfl) hHeld ?_
    try simp only [Act.put, s1q, s2q, s3q]
    refine skip_in (i := 16) rfl (by kernel_rfl) (by kernel_rfl) (by kernel_rfl) (fun _ _ _ h => by cases h.1) (by rfl) hHeld ?_
    try simp only [Act.put, s1q, s2q, s3q]
    refine skip_in (i := 17) rfl (by kernel_rfl) (by kernel_rfl) (by kernel_rfl) (fun _ _ _ h => by cases h.1) (by rfl) hHeld ?_
    try simp only [Act.put, s1q, s2q, s3q]
    refine skip_in (i := 18) rfl (by kernel_rfl) (by kernel_rfl) (by kernel_rfl) (fun _ _ _ h => by cases h.1) (by rfl) hHeld ?_
    try simp only [Act.put, s1q, s2q, s3q]
    refine skip_in (i := 19) rfl (by kernel_rfl) (by kernel_rfl) (by kernel_rfl) (fun _ _ _ h => by cases h.1) (by rfl) hHeld ?_
    try simp only [Act.put, s1q, s2q, s3q]
    refine skip_in (i := 20) rfl (by kernel_rfl) (by kernel_rfl) (by kernel_rfl) (fun _ _ _ h => by cases h.1) (by rfl) hHeld ?_
    try simp only [Act.put, s1q, s2q, s3q]
    refine skip_in (i := 21) rfl (by kernel_rfl) (by kernel_rfl) (by kernel_rfl) (fun _ _ _ h => by cases h.1) (by rfl) hHeld ?_
    try simp only [Act.put, s1q, s2q, s3q]
    refine skip_in (i := 22) rfl (by kernel_rfl) (by kernel_rfl) (by kernel_rfl) (fun _ _ _ h => by cases h.1) (by rfl) hHeld ?_
    try simp only [Act.put, s1q, s2q, s3q]
    refine skip_in (i := 23) rfl (by kernel_rfl) (by kernel_rfl) (by kernel_rfl) (fun _ _ _ h => by cases h.1) (by rfl) hHeld ?_
    try simp only [Act.put, s1q, s2q, s3q]
    refine take_in (i := 24) (v := ?_) rfl (by kernel_rfl) (by kernel_rfl) (by kernel_rfl) (fun _ _ _ h => by cases h.1) (by rfl) ?_ hHeld ?_
    rotate_left
    ·intro w hSw
     (try dsimp only at hSw)
     go_simp
     try with_reducible rfl
    try simp only [Act.put, s1q, s2q, s3q]
    refine wpAnyH_done (by kernel_rfl) ?_ _
    exact ⟨rfl, _, _, _, _, _, _, _, _, _, _, _, _, _, _, _, _, _, _, _, _, _, _, _, _, HV.out, rfl⟩
  ·have o2 : decide (R2 < 1099511627776) = false := decide_eq_false h2
   clear h2
   refine take_in (i := 4) (v := ?_) rfl (by kernel_rfl) (by kernel_rfl) (by kernel_rfl) (fun _ _ _ h => by cases h.1) (by rfl) ?_ hHeld ?_
   rotate_left
   ·intro w hSw
    (try dsimp only at hSw)
    go_simp
    try with_reducible rfl
   try simp only [Act.put, s1q, s2q, s3q]
   refine take_in (i := 5) (v := ?_) rfl (by kernel_rfl) (by kernel_rfl) (by kernel_rfl) (fun _ _ _ h => by cases h.1) (by rfl) ?_ hHeld ?_
   rotate_left
   ·intro w hSw
    (try dsimp only at hSw)
    go_simp
    try with_reducible rfl
   try simp only [Act.put, s1q, s2q, s3q]
   refine take_in (i := 6) (v := ?_) rfl (by kernel_rfl) (by kernel_rfl) (by kernel_rfl) (fun _ _ _ h => by cases h.1) (by rfl) ?_ hHeld ?_
   rotate_left
   ·intro w hSw
    (try dsimp only at hSw)
    go_simp
    try with_reducible rfl
   try simp only [Act.put, s1q, s2q, s3q]
   refine skip_in (i := 7) rfl (by kernel_rfl) (by kernel_rfl) (by kernel_rfl) (fun _ _ _ h => by cases h.1) (by rfl) hHeld ?_
   try simp only [Act.put, s1q, s2q, s3q]
   refine skip_in (i := 8) rfl (by kernel_rfl) (by kernel_rfl) (by kernel_rfl) (fun _ _ _ h => by cases h.1) (by rfl) hHeld ?_
   try simp only [Act.put, s1q, s2q, s3q]
   refine skip_in (i := 9) rfl (by kernel_rfl) (by kernel_rfl) (by kernel_rfl) (fun _ _ _ h => by cases h.1) (by rfl) hHeld ?_
   try simp only [Act.put, s1q, s2q, s3q]
   refine take_in (i := 10) (v := ?_) rfl (by kernel_rfl) (by kernel_rfl) (by kernel_rfl) (fun _ _ _ h => by cases h.1) (by rfl) ?_ hHeld ?_
   rotate_left
   ·intro w hSw
    (try dsimp only at hSw)
    go_simp
    try with_reducible rfl
   try simp only [Act.put, s1q, s2q, s3q]
   refine take_in (i := 11) (v := ?_) rfl (by kernel_rfl) (by kernel_rfl) (by kernel_rfl) (fun _ _ _ h => by cases h.1) (by rfl) ?_ hHeld ?_
   rotate_left
   ·intro w hSw
    (try dsimp only at hSw)
    go_simp
    try with_reducible rfl
   try simp only [Act.put, s1q, s2q, s3q]
   refine skip_in (i := 12) rfl (by kernel_rfl) (by kernel_rfl) (by kernel_rfl) (fun _ _ _ h => by cases h.1) (by rfl) hHeld ?_
   try simp only [Act.put, s1q, s2q, s3q]
   refine skip_in (i := 13) rfl (by kernel_rfl) (by kernel_rfl) (by kernel_rfl) (fun _ _ _ h => by cases h.1) (by rfl) hHeld ?_
   try simp only [Act.put, s1q, s2q, s3q]
   refine skip_in (i := 14) rfl (by kernel_rfl) (by kernel_rfl) (by kernel_rfl) (fun _ _ _ h => by cases h.1) (by rfl) hHeld ?_
   try simp only [Act.put, s1q, s2q, s3q]
   refine skip_in (i := 15) rfl (by kernel_rfl) (by kernel_rfl) (by kernel_rfl) (fun _ _ _ h => by cases h.1) (by rfl) hHeld ?_
   try simp only [Act.put, s1q, s2q, s3q]
   refine skip_in (i := 16) rfl (by kernel_rfl) (by kernel_rfl) (by kernel_rfl) (fun _ _ _ h => by cases h.1) (by rfl) hHeld ?_
   try simp only [Act.put, s1q, s2q, s3q]
   refine skip_in (i := 17) rfl (by kernel_rfl) (by kernel_rfl) (by kernel_rfl) (fun _ _ _ h => by cases h.1) (by rfl) hHeld ?_
   try simp only [Act.put, s1q, s2q, s3q]
   refine skip_in (i := 18) rfl (by kernel_rfl) (by kernel_rfl) (by kernel_rfl) (fun _ _ _ h => by cases h.1) (by rfl) hHeld ?_
   try simp only [Act.put, s1q, s2q, s3q]
   refine skip_in (i := 19) rfl (by kernel_rfl) (by kernel_rfl) (by kernel_rfl) (fun _ _ _ h => by cases h.1) (by rfl) hHeld ?_
   try simp only [Act.put, s1q, s2q, s3q]
   refine skip_in (i := 20) rfl (by kernel_rfl) (by kernel_rfl) (by kernel_rfl) (fun _ _ _ h => by cases h.1) (by rfl) hHeld ?_
   try simp only [Act.put, s1q, s2q, s3q]
   refine skip_in (i := 21) rfl (by kernel_rfl) (by kernel_rfl) (by kernel_rfl) (fun _ _ _ h => by cases h.1) (by rfl) hHeld ?_
   try simp only [Act.put, s1q, s2q, s3q]
   refine skip_in (i := 22) rfl (by kernel_rfl) (by kernel_rfl) (by kernel_rfl) (fun _ _ _ h => by cases h.1) (by rfl) hHeld ?_
   try simp only [Act.put, s1q, s2q, s3q]
   refine skip_in (i := 23) rfl (by kernel_rfl) (by kernel_rfl) (by kernel_rfl) (fun _ _ _ h => by cases h.1) (by rfl) hHeld ?_
   try simp only [Act.put, s1q, s2q, s3q]
   refine take_in (i := 24) (v := ?_) rfl (by kernel_rfl) (by kernel_rfl) (by kernel_rfl) (fun _ _ _ h => by cases h.1) (by rfl) ?_ hHeld ?_
   rotate_left
   ·intro w hSw
    (try dsimp only at hSw)
    go_simp
    try with_reducible rfl
   try simp only [Act.put, s1q, s2q, s3q]
   refine wpAnyH_done (by kernel_rfl) ?_ _
   exact ⟨rfl, _, _, _, _, _, _, _, _, _, _, _, _, _, _, _, _, _, _, _, _, _, _, _, _, HV.out, rfl⟩
 case rest =>
  rintro e a7 wR ⟨rfl, y29, y30, y31, y32, y33, y34, y35, y36, y37, y38, y39, y40, y41, y42, y43, y44, y45, y46, y47, y48, y49, y50, y51, y52, hb9, rfl⟩
  have hbq := hb9
  replace HRt := mvR hbq HLt HRt
  replace HLt := mvL hbq HLt
  replace HRb := mvR hbq HLb HRb
  replace HLb := mvL hbq HLb
  replace HRx := mvR hbq HLx HRx
  replace HLx := mvL hbq HLx
  replace HTt := mvT hbq HTt
  replace HTb := mvT hbq HTb
  replace HTx := mvT hbq HTx
  replace HC := mvC hbq HC
  clear hb9 hbq
  cases bt with
  | false =>
   cases q1 with
   | false =>
    obtain ⟨ct0, ct1, ct2, ct3, ct4⟩ := five_cells HRt.out
    go_wp2_with fail
    clear ct0 ct1 ct2 ct3 ct4
    refine (occ_v Nm.rightB Tt _ nm _ HTt.out HMN.out HMt.out (HCN.out.below HC.out) false HBT.out).mono ?_
    rintro e v301 ⟨rfl, hbq⟩
    replace HRt := mvR hbq HLt HRt
    replace HLt := mvL hbq HLt
    replace HRb := mvR hbq HLb HRb
    replace HLb := mvL hbq HLb
    replace HRx := mvR hbq HLx HRx
    replace HLx := mvL hbq HLx
    replace HTt := mvT hbq HTt
    replace HTb := mvT hbq HTb
    replace HTx := mvT hbq HTx
    replace HC := mvC hbq HC
    clear hbq
    go_wp2_with fail
    go_ret
    exact ⟨rfl, HC.out⟩
   | true =>
    obtain ⟨ct0, ct1, ct2, ct3, ct4⟩ := five_cells HRt.out
    go_wp2_with fail
    clear ct0 ct1 ct2 ct3 ct4
    refine (occ_v Nm.rightB Tt _ nm _ HTt.out HMN.out HMt.out (HCN.out.below HC.out) false HBT.out).mono ?_
    rintro e v301 ⟨rfl, hbq⟩
    replace HRt := mvR hbq HLt HRt
    replace HLt := mvL hbq HLt
    replace HRb := mvR hbq HLb HRb
    replace HLb := mvL hbq HLb
    replace HRx := mvR hbq HLx HRx
    replace HLx := mvL hbq HLx
    replace HTt := mvT hbq HTt
    replace HTb := mvT hbq HTb
    replace HTx := mvT hbq HTx
    replace HC := mvC hbq HC
    clear hbq
    have hxt := (HEx.out (by trivial)).trans (occ_none HQ1.out HBT.out)
    replace HTx := Lib.hid (show TmV _ Tt _ by have := HTx.out; rwa [hxt] at this)
    clear hxt
    obtain ⟨cx0, cx1, cx2, cx3, cx4⟩ := five_cells HRx.out
    obtain ⟨ct0, ct1, ct2, ct3, ct4⟩ := five_cells HRt.out
    go_wp2_with fail
    clear cx0 cx1 cx2 cx3 cx4 ct0 ct1 ct2 ct3 ct4
    refine (sameTerm_is Tt _ _ _ HTx.out HTt.out).mono ?_
    rintro e v302 ⟨rfl, hbq⟩
    replace HRt := mvR hbq HLt HRt
    replace HLt := mvL hbq HLt
    replace HRb := mvR hbq HLb HRb
    replace HLb := mvL hbq HLb
    replace HRx := mvR hbq HLx HRx
    replace HLx := mvL hbq HLx
    replace HTt := mvT hbq HTt
    replace HTb := mvT hbq HTb
    replace HTx := mvT hbq HTx
    replace HC := mvC hbq HC
    clear hbq
    go_wp2_with fail
    go_ret
    exact ⟨rfl, HC.out⟩
  | true =>
   obtain ⟨ct0, ct1, ct2, ct3, ct4⟩ := five_cells HRt.out
   go_wp2_with fail
   clear ct0 ct1 ct2 ct3 ct4
   refine (occ_v Nm.rightB Tt _ nm _ HTt.out HMN.out HMt.out (HCN.out.below HC.out) true HBT.out).mono ?_
   rintro e v301 ⟨rfl, hbq⟩
   replace HRt := mvR hbq HLt HRt
   replace HLt := mvL hbq HLt
   replace HRb := mvR hbq HLb HRb
   replace HLb := mvL hbq HLb
   replace HRx := mvR hbq HLx HRx
   replace HLx := mvL hbq HLx
   replace HTt := mvT hbq HTt
   replace HTb := mvT hbq HTb
   replace HTx := mvT hbq HTx
   replace HC := mvC hbq HC
   clear hbq
   go_upto_region 10 with fail
   have HT0 := Lib.hid HTt.out
   have HR00 := Lib.hid HRt.out
   have HL00 := Lib.hid HLt.out
   have HC0 := Lib.hid HC.out
   obtain ⟨q2, hq⟩ : ∃ q, (areB Nm.rightB [Tt, tcn nm] && decide (tnodes (subT (replF nm (tcn nm)) Tt 0) ≤ 2000)) = q := ⟨_, rfl⟩
   have HQ2 := Lib.hid hq
   clear hq
   have hk : Hid (∀ W', Below v301.heap.size v301 W' → W'.cell? ⟨w.heap.size, 0, none⟩ = some (.int .i64 kt) ∧ W'.cell? ⟨w.heap.size, 1, none⟩ = some (.int .i64 nt) ∧ W'.cell? ⟨w.heap.size, 2, none⟩ = some (.string mt) ∧ W'.cell? ⟨w.heap.size, 3, none⟩ = some (.slice t1 t2 t3) ∧ W'.cell? ⟨w.heap.size, 4, none⟩ = some (.slice t4 t5 t6)) := fun W' h => by
    obtain ⟨qt0, qt1, qt2, qt3, qt4⟩ := five_cells ((h.block _ HLt.out).trans HRt.out)
    exact ⟨qt0, qt1, qt2, qt3, qt4⟩
   refine wp_region_held_drew (S := fun W' => W'.cell? ⟨w.heap.size, 0, none⟩ = some (.int .i64 kt) ∧ W'.cell? ⟨w.heap.size, 1, none⟩ = some (.int .i64 nt) ∧ W'.cell? ⟨w.heap.size, 2, none⟩ = some (.string mt) ∧ W'.cell? ⟨w.heap.size, 3, none⟩ = some (.slice t1 t2 t3) ∧ W'.cell? ⟨w.heap.size, 4, none⟩ = some (.slice t4 t5 t6)) (by kernel_rfl) (hk.out _ ((Below.refl _ _).drew)) (fun hHeld => ?_)
   have HV := Lib.hid ((Below.refl v301.heap.size v301).drew)
   have hbq := HV.out
   replace HRt := mvR hbq HLt HRt
   replace HLt := mvL hbq HLt
   replace HRb := mvR hbq HLb HRb
   replace HLb := mvL hbq HLb
   replace HRx := mvR hbq HLx HRx
   replace HLx := mvL hbq HLx
   replace HTt := mvT hbq HTt
   replace HTb := mvT hbq HTb
   replace HTx := mvT hbq HTx
   replace HC := mvC hbq HC
   clear hbq
   generalize v301.drew = v302 at *
   refine take_in (i := 0) (v := ?_) rfl (by kernel_rfl) (by kernel_rfl) (by kernel_rfl) (fun _ _ _ h => h) (by rfl) ?_ hHeld ?_
   rotate_left
   ·intro w hSw
    (try dsimp only at hSw)
    go_simp
    try with_reducible rfl
   try simp only [Act.put, s1q, s2q, s3q]
   refine take_in (i := 1) (v := ?_) rfl (by kernel_rfl) (by kernel_rfl) (by kernel_rfl) (fun _ _ _ h => h) (by rfl) ?_ hHeld ?_
   rotate_left
   ·intro w hSw
    (try dsimp only at hSw)
    go_simp
    try with_reducible rfl
   try simp only [Act.put, s1q, s2q, s3q]
   refine take_in (i := 2) (v := ?_) rfl (by kernel_rfl) (by kernel_rfl) (by kernel_rfl) (fun _ _ _ h => h) (by rfl) ?_ hHeld ?_
   rotate_left
   ·intro w hSw
    (try dsimp only at hSw)
    go_simp
    try with_reducible rfl
   try simp only [Act.put, s1q, s2q, s3q]
   refine two_in (i := 3) (j := 8) rfl rfl (by kernel_rfl) (fun K hK => ?_) (fun K hK => ?_)
   ·clear hHeld
    go_simp
    refine (h6_constant nm _).mono ?_
    rintro e v303 ⟨rfl, _, hbq⟩
    replace HRt := mvR hbq HLt HRt
    replace HLt := mvL hbq HLt
    replace HRb := mvR hbq HLb HRb
    replace HLb := mvL hbq HLb
    replace HRx := mvR hbq HLx HRx
    replace HLx := mvL hbq HLx
    replace HTt := mvT hbq HTt
    replace HTb := mvT hbq HTb
    replace HTx := mvT hbq HTx
    replace HC := mvC hbq HC
    replace HV := mvC hbq HV
    clear hbq
    dsimp only [tv, tkOf, tnOf, tmOf]
    try (go_wp2_with fail)
    refine hK.out _ _ (hk.out _ HV.out) (fun hHeld => ?_)
    clear hK K
    try simp only [Act.put, s1q, s2q, s3q]
    refine two_in (i := 4) (j := 8) rfl rfl (by kernel_rfl) (fun K hK => ?_) (fun K hK => ?_)
    ·clear hHeld
     go_simp
     refine (repl_v Nm.rightB Tt _ nm (tcn nm) _ _ HTt.out HMt.out ⟨_, _, rfl, leaf_tm 3 0 nm _⟩ (nm_mk 3 0 [] HSN.out) (HCN.out.below HC.out) q2 HQ2.out).mono ?_
     intro e v304 hret
     obtain ⟨Ty, ky, ny, my, y1, y2, y3, y4, y5, y6, rfl, hbq, hY, hP, hE⟩ := bret_loc hret
     clear hret
     replace HRt := mvR hbq HLt HRt
     replace HLt := mvL hbq HLt
     replace HRb := mvR hbq HLb HRb
     replace HLb := mvL hbq HLb
     replace HRx := mvR hbq HLx HRx
     replace HLx := mvL hbq HLx
     replace HTt := mvT hbq HTt
     replace HTb := mvT hbq HTb
     replace HTx := mvT hbq HTx
     replace HC := mvC hbq HC
     replace HV := mvC hbq HV
     have HYP := Lib.hid hY.out
     have HYK := Lib.hid hP.out
     have HEy := Lib.hid hE.out
     clear hbq hY hP hE
     try (go_wp2_with fail)
     refine hK.out _ _ (hk.out _ HV.out) (fun hHeld => ?_)
     clear hK K
     try simp only [Act.put, s1q, s2q, s3q]
     refine take_in (i := 5) (v := ?_) rfl (by kernel_rfl) (by kernel_rfl) (by kernel_rfl) (fun _ _ _ h => h) (by rfl) ?_ hHeld ?_
     rotate_left
     ·intro w hSw
      (try dsimp only at hSw)
      go_simp
      try with_reducible rfl
     try simp only [Act.put, s1q, s2q, s3q]
     refine take_in (i := 6) (v := ?_) rfl (by kernel_rfl) (by kernel_rfl) (by kernel_rfl) (fun _ _ _ h => h) (by rfl) ?_ hHeld ?_
     rotate_left
     ·intro w hSw
      (try dsimp only at hSw)
      go_simp
      try with_reducible rfl
     try simp only [Act.put, s1q, s2q, s3q]
     refine take_in (i := 7) (v := ?_) rfl (by kernel_rfl) (by kernel_rfl) (by kernel_rfl) (fun _ _ _ h => h) (by rfl) ?_ hHeld ?_
     rotate_left
     ·intro w hSw
      (try dsimp only at hSw)
      go_simp
      try with_reducible rfl
     try simp only [Act.put, s1q, s2q, s3q]
     refine call_in (i := 8) rfl (by kernel_rfl) (fun K hK => ?_)
     clear hHeld
     go_simp
     have hb7 := below_lit v304 (.cells #[.int .i64 0, .int .i64 0, .string ⟨#[]⟩, .slice none 0 0, .slice none 0 0] 25)
     have n0 := heap_alloc_new v304 (.cells #[.int .i64 0, .int .i64 0, .string ⟨#[]⟩, .slice none 0 0, .slice none 0 0] 25)
     try (go_wp2_with fail)
     refine hK.out _ _ (hk.out _ (HV.out.trans (hb7.mono HV.out.size))) (fun hHeld => ?_)
     clear hK K
     try simp only [Act.put, s1q, s2q, s3q]
     refine call_in (i := 9) rfl (by kernel_rfl) (fun K hK => ?_)
     clear hHeld
     go_simp
     have hb8 := below_lit v304 (.cells #[.int .i64 ky, .int .i64 ny, .string my, .slice y1 y2 y3, .slice y4 y5 y6] 25)
     refine hK.out _ _ (hk.out _ (HV.out.trans (hb8.mono HV.out.size))) (fun hHeld => ?_)
     clear hK K
     try simp only [Act.put, s1q, s2q, s3q]
     refine take_in (i := 10) (v := ?_) rfl (by kernel_rfl) (by kernel_rfl) (by kernel_rfl) (fun _ _ _ h => h) (by rfl) ?_ hHeld ?_
     rotate_left
     ·intro w hSw
      (try dsimp only at hSw)
      go_simp
      try with_reducible rfl
     try simp only [Act.put, s1q, s2q, s3q]
     refine wpAnyH_done (by kernel_rfl) ?_ _
     have HB9 := Lib.hid (HV.out.trans (hb8.mono HV.out.size))
     have hry := heap_alloc_new v304 (.cells #[.int .i64 ky, .int .i64 ny, .string my, .slice y1 y2 y3, .slice y4 y5 y6] 25)
     have hly : v304.heap.size < (v304.alloc (.cells #[.int .i64 ky, .int .i64 ny, .string my, .slice y1 y2 y3, .slice y4 y5 y6] 25)).heap.size := by simp
     have HTy := Lib.hid (show TmV _ Ty (.agg #[.int .i64 ky, .int .i64 ny, .string my, .slice y1 y2 y3, .slice y4 y5 y6]) from ⟨_, _, by dsimp only [tv]; rw [HYK.out.1, HYK.out.2.1, HYK.out.2.2], tmP_weak (fun _ _ => trivial) (tmP_below hb8 HYP.out)⟩)
     clear HV hk hb8 hb7 n0 HYP
     generalize hgw : v304.alloc (.cells #[.int .i64 ky, .int .i64 ny, .string my, .slice y1 y2 y3, .slice y4 y5 y6] 25) = wN at *
     clear hgw
     have HRy := Lib.hid hry
     have HLy := Lib.hid hly
     clear hry hly
     generalize hgb : v304.heap.size = By at *
     clear hgb
     replace HTt := Lib.hid (HT0.out.below HB9.out)
     replace HRt := Lib.hid ((HB9.out.block _ HL00.out).trans HR00.out)
     replace HLt := Lib.hid (Nat.lt_of_lt_of_le HL00.out HB9.out.size)
     replace HC := Lib.hid (HC0.out.trans (HB9.out.mono HC0.out.size))
     obtain ⟨lb, hlb⟩ : ∃ q, levC nm Tt = q := ⟨_, rfl⟩
     have HLB := Lib.hid hlb
     clear hlb
     obtain ⟨ct0, ct1, ct2, ct3, ct4⟩ := five_cells HRt.out
     go_wp2_with fail
     clear ct0 ct1 ct2 ct3 ct4
     refine (leveled_is nm Tt _ _ HTt.out lb HLB.out).mono ?_
     rintro e v501 ⟨rfl, hbq⟩
     replace HRt := mvR hbq HLt HRt
     replace HLt := mvL hbq HLt
     replace HRy := mvR hbq HLy HRy
     replace HLy := mvL hbq HLy
     replace HTt := mvT hbq HTt
     replace HTy := mvT hbq HTy
     replace HC := mvC hbq HC
     clear hbq
     cases lb with
     | true =>
      go_wp2_with fail
      go_ret
      exact ⟨rfl, HC.out⟩
     | false =>
     have hself := occ_self HBT.out HLB.out
     obtain rfl : q2 = true := HQ2.out.symm.trans hself.1
     have hyt := (HEy.out (by trivial)).trans hself.2
     replace HTy := Lib.hid (show TmV _ Tt _ by have := HTy.out; rwa [hyt] at this)
     clear hself hyt
     obtain ⟨cy0, cy1, cy2, cy3, cy4⟩ := five_cells HRy.out
     obtain ⟨ct0, ct1, ct2, ct3, ct4⟩ := five_cells HRt.out
     go_wp2_with fail
     clear cy0 cy1 cy2 cy3 cy4 ct0 ct1 ct2 ct3 ct4
     refine (sameTerm_is Tt _ _ _ HTy.out HTt.out).mono ?_
     rintro e v502 ⟨rfl, hbq⟩
     replace HRt := mvR hbq HLt HRt
     replace HLt := mvL hbq HLt
     replace HRy := mvR hbq HLy HRy
     replace HLy := mvL hbq HLy
     replace HTt := mvT hbq HTt
     replace HTy := mvT hbq HTy
     replace HC := mvC hbq HC
     clear hbq
     go_wp2_with fail
     go_ret
     exact ⟨rfl, HC.out⟩
    ·clear hHeld
     go_simp
     have hbq := below_lit v303 (.cells #[.int .i64 0, .int .i64 0, .string ⟨#[]⟩, .slice none 0 0, .slice none 0 0] 25)
     have hrx := heap_alloc_new v303 (.cells #[.int .i64 0, .int .i64 0, .string ⟨#[]⟩, .slice none 0 0, .slice none 0 0] 25)
     have hlx : v303.heap.size < (v303.alloc (.cells #[.int .i64 0, .int .i64 0, .string ⟨#[]⟩, .slice none 0 0, .slice none 0 0] 25)).heap.size := by simp
     have hsx : v301.heap.size ≤ v303.heap.size := HV.out.size
     try (go_wp2_with fail)
     generalize hgw : v303.alloc (.cells #[.int .i64 0, .int .i64 0, .string ⟨#[]⟩, .slice none 0 0, .slice none 0 0] 25) = v304 at *
     clear hgw
     replace HRt := mvR hbq HLt HRt
     replace HLt := mvL hbq HLt
     replace HRb := mvR hbq HLb HRb
     replace HLb := mvL hbq HLb
     replace HRx := mvR hbq HLx HRx
     replace HLx := mvL hbq HLx
     replace HTt := mvT hbq HTt
     replace HTb := mvT hbq HTb
     replace HTx := mvT hbq HTx
     replace HC := mvC hbq HC
     replace HV := mvC hbq HV
     have HRz := Lib.hid hrx
     have HLz := Lib.hid hlx
     clear hbq hrx hlx
     generalize hgb : v303.heap.size = Bz at *
     clear hgb
     have HSz := Lib.hid hsx
     clear hsx
     refine hK.out _ _ (hk.out _ HV.out) (fun hHeld => ?_)
     clear hK K
     try simp only [Act.put, s1q, s2q, s3q]
     refine call_in (i := 4) rfl (by kernel_rfl) (fun K hK => ?_)
     clear hHeld
     go_simp
     have HLE := Lib.hid HLz.out
     refine (repl_v Nm.rightB Tt _ nm (tcn nm) _ _ HTt.out HMt.out ⟨_, _, rfl, leaf_tm 3 0 nm _⟩ (nm_mk 3 0 [] HSN.out) (HCN.out.below HC.out) q2 HQ2.out).mono ?_
     intro e v305 hret
     obtain ⟨Ty, ky, ny, my, y1, y2, y3, y4, y5, y6, rfl, hbq, hY, hP, hE⟩ := bret_loc hret
     clear hret
     replace HRt := mvR hbq HLt HRt
     replace HLt := mvL hbq HLt
     replace HRb := mvR hbq HLb HRb
     replace HLb := mvL hbq HLb
     replace HRx := mvR hbq HLx HRx
     replace HLx := mvL hbq HLx
     replace HRz := mvR hbq HLz HRz
     replace HLz := mvL hbq HLz
     replace HTt := mvT hbq HTt
     replace HTb := mvT hbq HTb
     replace HTx := mvT hbq HTx
     replace HC := mvC hbq HC
     replace HV := mvC hbq HV
     have HYP := Lib.hid hY.out
     have HYK := Lib.hid hP.out
     have HEy := Lib.hid hE.out
     clear hbq hY hP hE
     try (go_wp2_with fail)
     refine hK.out _ _ (hk.out _ HV.out) (fun hHeld => ?_)
     clear hK K
     try simp only [Act.put, s1q, s2q, s3q]
     refine take_in (i := 5) (v := ?_) rfl (by kernel_rfl) (by kernel_rfl) (by kernel_rfl) (fun _ _ _ h => h) (by rfl) ?_ hHeld ?_
     rotate_left
     ·intro w hSw
      (try dsimp only at hSw)
      go_simp
      try with_reducible rfl
     try simp only [Act.put, s1q, s2q, s3q]
     refine take_in (i := 6) (v := ?_) rfl (by kernel_rfl) (by kernel_rfl) (by kernel_rfl) (fun _ _ _ h => h) (by rfl) ?_ hHeld ?_
     rotate_left
     ·intro w hSw
      (try dsimp only at hSw)
      go_simp
      try with_reducible rfl
     try simp only [Act.put, s1q, s2q, s3q]
     refine take_in (i := 7) (v := ?_) rfl (by kernel_rfl) (by kernel_rfl) (by kernel_rfl) (fun _ _ _ h => h) (by rfl) ?_ hHeld ?_
     rotate_left
     ·intro w hSw
      (try dsimp only at hSw)
      go_simp
      try with_reducible rfl
     try simp only [Act.put, s1q, s2q, s3q]
     refine call_in (i := 9) rfl (by kernel_rfl) (fun K hK => ?_)
     clear hHeld
     obtain ⟨n0, n1, n2, n3, n4⟩ := five_cells HRz.out
     have m0 := frozen0 (p := 0) HRz.out
     have m1 := frozen0 (p := 1) HRz.out
     have m2 := frozen0 (p := 2) HRz.out
     have m3 := frozen0 (p := 3) HRz.out
     have m4 := frozen0 (p := 4) HRz.out
     go_simp
     have hb8 : Below v301.heap.size v301 (((((World.setCell v305 ⟨Bz, 0, none⟩ (.int .i64 ky)).setCell ⟨Bz, 1, none⟩ (.int .i64 ny)).setCell ⟨Bz, 2, none⟩ (.string my)).setCell ⟨Bz, 3, none⟩ (.slice y1 y2 y3)).setCell ⟨Bz, 4, none⟩ (.slice y4 y5 y6)) := set5_below (n₀ := v301.heap.size) HV.out Bz 0 (.int .i64 ky) (.int .i64 ny) (.string my) (.slice y1 y2 y3) (.slice y4 y5 y6) HSz.out
     refine hK.out _ _ (hk.out _ hb8) (fun hHeld => ?_)
     clear hK K
     try simp only [Act.put, s1q, s2q, s3q]
     refine take_in (i := 10) (v := ?_) rfl (by kernel_rfl) (by kernel_rfl) (by kernel_rfl) (fun _ _ _ h => h) (by rfl) ?_ hHeld ?_
     rotate_left
     ·intro w hSw
      (try dsimp only at hSw)
      go_simp
      try with_reducible rfl
     try simp only [Act.put, s1q, s2q, s3q]
     refine wpAnyH_done (by kernel_rfl) ?_ _
     have HB9 := Lib.hid hb8
     have hry : (((((World.setCell v305 ⟨Bz, 0, none⟩ (.int .i64 ky)).setCell ⟨Bz, 1, none⟩ (.int .i64 ny)).setCell ⟨Bz, 2, none⟩ (.string my)).setCell ⟨Bz, 3, none⟩ (.slice y1 y2 y3)).setCell ⟨Bz, 4, none⟩ (.slice y4 y5 y6)).heap[Bz]? = some (.cells #[.int .i64 ky, .int .i64 ny, .string my, .slice y1 y2 y3, .slice y4 y5 y6] 25 (0, 0)) := set5_row HRz.out
     have hly : Bz < (((((World.setCell v305 ⟨Bz, 0, none⟩ (.int .i64 ky)).setCell ⟨Bz, 1, none⟩ (.int .i64 ny)).setCell ⟨Bz, 2, none⟩ (.string my)).setCell ⟨Bz, 3, none⟩ (.slice y1 y2 y3)).setCell ⟨Bz, 4, none⟩ (.slice y4 y5 y6)).heap.size := by rw [set5_sz]; exact HLz.out
     have htp : TmP (((((World.setCell v305 ⟨Bz, 0, none⟩ (.int .i64 ky)).setCell ⟨Bz, 1, none⟩ (.int .i64 ny)).setCell ⟨Bz, 2, none⟩ (.string my)).setCell ⟨Bz, 3, none⟩ (.slice y1 y2 y3)).setCell ⟨Bz, 4, none⟩ (.slice y4 y5 y6)) (fun _ => True) Ty (.slice y1 y2 y3) (.slice y4 y5 y6) := tmP_move (w := v305) (fun b _ hp => ⟨trivial, set5_far' v305 Bz 0 b _ _ _ _ _ (by have := HLE.out; omega)⟩) (by rw [set5_sz]; exact Nat.le_refl _) _ _ _ HYP.out
     have HTy := Lib.hid (show TmV (((((World.setCell v305 ⟨Bz, 0, none⟩ (.int .i64 ky)).setCell ⟨Bz, 1, none⟩ (.int .i64 ny)).setCell ⟨Bz, 2, none⟩ (.string my)).setCell ⟨Bz, 3, none⟩ (.slice y1 y2 y3)).setCell ⟨Bz, 4, none⟩ (.slice y4 y5 y6)) Ty (.agg #[.int .i64 ky, .int .i64 ny, .string my, .slice y1 y2 y3, .slice y4 y5 y6]) from ⟨_, _, by dsimp only [tv]; rw [HYK.out.1, HYK.out.2.1, HYK.out.2.2], htp⟩)
     clear HV hk hb8 n0 n1 n2 n3 n4 m0 m1 m2 m3 m4 HYP htp
     generalize hgw : (((((World.setCell v305 ⟨Bz, 0, none⟩ (.int .i64 ky)).setCell ⟨Bz, 1, none⟩ (.int .i64 ny)).setCell ⟨Bz, 2, none⟩ (.string my)).setCell ⟨Bz, 3, none⟩ (.slice y1 y2 y3)).setCell ⟨Bz, 4, none⟩ (.slice y4 y5 y6)) = wN at *
     clear hgw
     have HRy := Lib.hid hry
     have HLy := Lib.hid hly
     clear hry hly
     generalize hgb : Bz = By at *
     clear hgb
     replace HTt := Lib.hid (HT0.out.below HB9.out)
     replace HRt := Lib.hid ((HB9.out.block _ HL00.out).trans HR00.out)
     replace HLt := Lib.hid (Nat.lt_of_lt_of_le HL00.out HB9.out.size)
     replace HC := Lib.hid (HC0.out.trans (HB9.out.mono HC0.out.size))
     obtain ⟨lb, hlb⟩ : ∃ q, levC nm Tt = q := ⟨_, rfl⟩
     have HLB := Lib.hid hlb
     clear hlb
     obtain ⟨ct0, ct1, ct2, ct3, ct4⟩ := five_cells HRt.out
     go_wp2_with fail
     clear ct0 ct1 ct2 ct3 ct4
     refine (leveled_is nm Tt _ _ HTt.out lb HLB.out).mono ?_
     rintro e v501 ⟨rfl, hbq⟩
     replace HRt := mvR hbq HLt HRt
     replace HLt := mvL hbq HLt
     replace HRy := mvR hbq HLy HRy
     replace HLy := mvL hbq HLy
     replace HTt := mvT hbq HTt
     replace HTy := mvT hbq HTy
     replace HC := mvC hbq HC
     clear hbq
     cases lb with
     | true =>
      go_wp2_with fail
      go_ret
      exact ⟨rfl, HC.out⟩
     | false =>
     have hself := occ_self HBT.out HLB.out
     obtain rfl : q2 = true := HQ2.out.symm.trans hself.1
     have hyt := (HEy.out (by trivial)).trans hself.2
     replace HTy := Lib.hid (show TmV _ Tt _ by have := HTy.out; rwa [hyt] at this)
     clear hself hyt
     obtain ⟨cy0, cy1, cy2, cy3, cy4⟩ := five_cells HRy.out
     obtain ⟨ct0, ct1, ct2, ct3, ct4⟩ := five_cells HRt.out
     go_wp2_with fail
     clear cy0 cy1 cy2 cy3 cy4 ct0 ct1 ct2 ct3 ct4
     refine (sameTerm_is Tt _ _ _ HTy.out HTt.out).mono ?_
     rintro e v502 ⟨rfl, hbq⟩
     replace HRt := mvR hbq HLt HRt
     replace HLt := mvL hbq HLt
     replace HRy := mvR hbq HLy HRy
     replace HLy := mvL hbq HLy
     replace HTt := mvT hbq HTt
     replace HTy := mvT hbq HTy
     replace HC := mvC hbq HC
     clear hbq
     go_wp2_with fail
     go_ret
     exact ⟨rfl, HC.out⟩
   ·clear hHeld
    go_simp
    have hbq := below_lit v302 (.cells #[.int .i64 0, .int .i64 0, .string ⟨#[]⟩, .slice none 0 0, .slice none 0 0] 25)
    have hrx := heap_alloc_new v302 (.cells #[.int .i64 0, .int .i64 0, .string ⟨#[]⟩, .slice none 0 0, .slice none 0 0] 25)
    have hlx : v302.heap.size < (v302.alloc (.cells #[.int .i64 0, .int .i64 0, .string ⟨#[]⟩, .slice none 0 0, .slice none 0 0] 25)).heap.size := by simp
    have hsx : v301.heap.size ≤ v302.heap.size := HV.out.size
    try (go_wp2_with fail)
    generalize hgw : v302.alloc (.cells #[.int .i64 0, .int .i64 0, .string ⟨#[]⟩, .slice none 0 0, .slice none 0 0] 25) = v303 at *
    clear hgw
    replace HRt := mvR hbq HLt HRt
    replace HLt := mvL hbq HLt
    replace HRb := mvR hbq HLb HRb
    replace HLb := mvL hbq HLb
    replace HRx := mvR hbq HLx HRx
    replace HLx := mvL hbq HLx
    replace HTt := mvT hbq HTt
    replace HTb := mvT hbq HTb
    replace HTx := mvT hbq HTx
    replace HC := mvC hbq HC
    replace HV := mvC hbq HV
    have HRz := Lib.hid hrx
    have HLz := Lib.hid hlx
    clear hbq hrx hlx
    generalize hgb : v302.heap.size = Bz at *
    clear hgb
    have HSz := Lib.hid hsx
    clear hsx
    refine hK.out _ _ (hk.out _ HV.out) (fun hHeld => ?_)
    clear hK K
    try simp only [Act.put, s1q, s2q, s3q]
    refine call_in (i := 3) rfl (by kernel_rfl) (fun K hK => ?_)
    clear hHeld
    go_simp
    refine (h6_constant nm _).mono ?_
    rintro e v304 ⟨rfl, _, hbq⟩
    replace HRt := mvR hbq HLt HRt
    replace HLt := mvL hbq HLt
    replace HRb := mvR hbq HLb HRb
    replace HLb := mvL hbq HLb
    replace HRx := mvR hbq HLx HRx
    replace HLx := mvL hbq HLx
    replace HRz := mvR hbq HLz HRz
    replace HLz := mvL hbq HLz
    replace HTt := mvT hbq HTt
    replace HTb := mvT hbq HTb
    replace HTx := mvT hbq HTx
    replace HC := mvC hbq HC
    replace HV := mvC hbq HV
    clear hbq
    dsimp only [tv, tkOf, tnOf, tmOf]
    try (go_wp2_with fail)
    refine hK.out _ _ (hk.out _ HV.out) (fun hHeld => ?_)
    clear hK K
    try simp only [Act.put, s1q, s2q, s3q]
    refine call_in (i := 4) rfl (by kernel_rfl) (fun K hK => ?_)
    clear hHeld
    go_simp
    have HLE := Lib.hid HLz.out
    refine (repl_v Nm.rightB Tt _ nm (tcn nm) _ _ HTt.out HMt.out ⟨_, _, rfl, leaf_tm 3 0 nm _⟩ (nm_mk 3 0 [] HSN.out) (HCN.out.below HC.out) q2 HQ2.out).mono ?_
    intro e v305 hret
    obtain ⟨Ty, ky, ny, my, y1, y2, y3, y4, y5, y6, rfl, hbq, hY, hP, hE⟩ := bret_loc hret
    clear hret
    replace HRt := mvR hbq HLt HRt
    replace HLt := mvL hbq HLt
    replace HRb := mvR hbq HLb HRb
    replace HLb := mvL hbq HLb
    replace HRx := mvR hbq HLx HRx
    replace HLx := mvL hbq HLx
    replace HRz := mvR hbq HLz HRz
    replace HLz := mvL hbq HLz
    replace HTt := mvT hbq HTt
    replace HTb := mvT hbq HTb
    replace HTx := mvT hbq HTx
    replace HC := mvC hbq HC
    replace HV := mvC hbq HV
    have HYP := Lib.hid hY.out
    have HYK := Lib.hid hP.out
    have HEy := Lib.hid hE.out
    clear hbq hY hP hE
    try (go_wp2_with fail)
    refine hK.out _ _ (hk.out _ HV.out) (fun hHeld => ?_)
    clear hK K
    try simp only [Act.put, s1q, s2q, s3q]
    refine take_in (i := 5) (v := ?_) rfl (by kernel_rfl) (by kernel_rfl) (by kernel_rfl) (fun _ _ _ h => h) (by rfl) ?_ hHeld ?_
    rotate_left
    ·intro w hSw
     (try dsimp only at hSw)
     go_simp
     try with_reducible rfl
    try simp only [Act.put, s1q, s2q, s3q]
    refine take_in (i := 6) (v := ?_) rfl (by kernel_rfl) (by kernel_rfl) (by kernel_rfl) (fun _ _ _ h => h) (by rfl) ?_ hHeld ?_
    rotate_left
    ·intro w hSw
     (try dsimp only at hSw)
     go_simp
     try with_reducible rfl
    try simp only [Act.put, s1q, s2q, s3q]
    refine take_in (i := 7) (v := ?_) rfl (by kernel_rfl) (by kernel_rfl) (by kernel_rfl) (fun _ _ _ h => h) (by rfl) ?_ hHeld ?_
    rotate_left
    ·intro w hSw
     (try dsimp only at hSw)
     go_simp
     try with_reducible rfl
    try simp only [Act.put, s1q, s2q, s3q]
    refine call_in (i := 9) rfl (by kernel_rfl) (fun K hK => ?_)
    clear hHeld
    obtain ⟨n0, n1, n2, n3, n4⟩ := five_cells HRz.out
    have m0 := frozen0 (p := 0) HRz.out
    have m1 := frozen0 (p := 1) HRz.out
    have m2 := frozen0 (p := 2) HRz.out
    have m3 := frozen0 (p := 3) HRz.out
    have m4 := frozen0 (p := 4) HRz.out
    go_simp
    have hb8 : Below v301.heap.size v301 (((((World.setCell v305 ⟨Bz, 0, none⟩ (.int .i64 ky)).setCell ⟨Bz, 1, none⟩ (.int .i64 ny)).setCell ⟨Bz, 2, none⟩ (.string my)).setCell ⟨Bz, 3, none⟩ (.slice y1 y2 y3)).setCell ⟨Bz, 4, none⟩ (.slice y4 y5 y6)) := set5_below (n₀ := v301.heap.size) HV.out Bz 0 (.int .i64 ky) (.int .i64 ny) (.string my) (.slice y1 y2 y3) (.slice y4 y5 y6) HSz.out
    refine hK.out _ _ (hk.out _ hb8) (fun hHeld => ?_)
    clear hK K
    try simp only [Act.put, s1q, s2q, s3q]
    refine take_in (i := 10) (v := ?_) rfl (by kernel_rfl) (by kernel_rfl) (by kernel_rfl) (fun _ _ _ h => h) (by rfl) ?_ hHeld ?_
    rotate_left
    ·intro w hSw
     (try dsimp only at hSw)
     go_simp
     try with_reducible rfl
    try simp only [Act.put, s1q, s2q, s3q]
    refine wpAnyH_done (by kernel_rfl) ?_ _
    have HB9 := Lib.hid hb8
    have hry : (((((World.setCell v305 ⟨Bz, 0, none⟩ (.int .i64 ky)).setCell ⟨Bz, 1, none⟩ (.int .i64 ny)).setCell ⟨Bz, 2, none⟩ (.string my)).setCell ⟨Bz, 3, none⟩ (.slice y1 y2 y3)).setCell ⟨Bz, 4, none⟩ (.slice y4 y5 y6)).heap[Bz]? = some (.cells #[.int .i64 ky, .int .i64 ny, .string my, .slice y1 y2 y3, .slice y4 y5 y6] 25 (0, 0)) := set5_row HRz.out
    have hly : Bz < (((((World.setCell v305 ⟨Bz, 0, none⟩ (.int .i64 ky)).setCell ⟨Bz, 1, none⟩ (.int .i64 ny)).setCell ⟨Bz, 2, none⟩ (.string my)).setCell ⟨Bz, 3, none⟩ (.slice y1 y2 y3)).setCell ⟨Bz, 4, none⟩ (.slice y4 y5 y6)).heap.size := by rw [set5_sz]; exact HLz.out
    have htp : TmP (((((World.setCell v305 ⟨Bz, 0, none⟩ (.int .i64 ky)).setCell ⟨Bz, 1, none⟩ (.int .i64 ny)).setCell ⟨Bz, 2, none⟩ (.string my)).setCell ⟨Bz, 3, none⟩ (.slice y1 y2 y3)).setCell ⟨Bz, 4, none⟩ (.slice y4 y5 y6)) (fun _ => True) Ty (.slice y1 y2 y3) (.slice y4 y5 y6) := tmP_move (w := v305) (fun b _ hp => ⟨trivial, set5_far' v305 Bz 0 b _ _ _ _ _ (by have := HLE.out; omega)⟩) (by rw [set5_sz]; exact Nat.le_refl _) _ _ _ HYP.out
    have HTy := Lib.hid (show TmV (((((World.setCell v305 ⟨Bz, 0, none⟩ (.int .i64 ky)).setCell ⟨Bz, 1, none⟩ (.int .i64 ny)).setCell ⟨Bz, 2, none⟩ (.string my)).setCell ⟨Bz, 3, none⟩ (.slice y1 y2 y3)).setCell ⟨Bz, 4, none⟩ (.slice y4 y5 y6)) Ty (.agg #[.int .i64 ky, .int .i64 ny, .string my, .slice y1 y2 y3, .slice y4 y5 y6]) from ⟨_, _, by dsimp only [tv]; rw [HYK.out.1, HYK.out.2.1, HYK.out.2.2], htp⟩)
    clear HV hk hb8 n0 n1 n2 n3 n4 m0 m1 m2 m3 m4 HYP htp
    generalize hgw : (((((World.setCell v305 ⟨Bz, 0, none⟩ (.int .i64 ky)).setCell ⟨Bz, 1, none⟩ (.int .i64 ny)).setCell ⟨Bz, 2, none⟩ (.string my)).setCell ⟨Bz, 3, none⟩ (.slice y1 y2 y3)).setCell ⟨Bz, 4, none⟩ (.slice y4 y5 y6)) = wN at *
    clear hgw
    have HRy := Lib.hid hry
    have HLy := Lib.hid hly
    clear hry hly
    generalize hgb : Bz = By at *
    clear hgb
    replace HTt := Lib.hid (HT0.out.below HB9.out)
    replace HRt := Lib.hid ((HB9.out.block _ HL00.out).trans HR00.out)
    replace HLt := Lib.hid (Nat.lt_of_lt_of_le HL00.out HB9.out.size)
    replace HC := Lib.hid (HC0.out.trans (HB9.out.mono HC0.out.size))
    obtain ⟨lb, hlb⟩ : ∃ q, levC nm Tt = q := ⟨_, rfl⟩
    have HLB := Lib.hid hlb
    clear hlb
    obtain ⟨ct0, ct1, ct2, ct3, ct4⟩ := five_cells HRt.out
    go_wp2_with fail
    clear ct0 ct1 ct2 ct3 ct4
    refine (leveled_is nm Tt _ _ HTt.out lb HLB.out).mono ?_
    rintro e v501 ⟨rfl, hbq⟩
    replace HRt := mvR hbq HLt HRt
    replace HLt := mvL hbq HLt
    replace HRy := mvR hbq HLy HRy
    replace HLy := mvL hbq HLy
    replace HTt := mvT hbq HTt
    replace HTy := mvT hbq HTy
    replace HC := mvC hbq HC
    clear hbq
    cases lb with
    | true =>
     go_wp2_with fail
     go_ret
     exact ⟨rfl, HC.out⟩
    | false =>
    have hself := occ_self HBT.out HLB.out
    obtain rfl : q2 = true := HQ2.out.symm.trans hself.1
    have hyt := (HEy.out (by trivial)).trans hself.2
    replace HTy := Lib.hid (show TmV _ Tt _ by have := HTy.out; rwa [hyt] at this)
    clear hself hyt
    obtain ⟨cy0, cy1, cy2, cy3, cy4⟩ := five_cells HRy.out
    obtain ⟨ct0, ct1, ct2, ct3, ct4⟩ := five_cells HRt.out
    go_wp2_with fail
    clear cy0 cy1 cy2 cy3 cy4 ct0 ct1 ct2 ct3 ct4
    refine (sameTerm_is Tt _ _ _ HTy.out HTt.out).mono ?_
    rintro e v502 ⟨rfl, hbq⟩
    replace HRt := mvR hbq HLt HRt
    replace HLt := mvL hbq HLt
    replace HRy := mvR hbq HLy HRy
    replace HLy := mvL hbq HLy
    replace HTt := mvT hbq HTt
    replace HTy := mvT hbq HTy
    replace HC := mvC hbq HC
    clear hbq
    go_wp2_with fail
    go_ret
    exact ⟨rfl, HC.out⟩
end Bnd
end Go.Proofs.YteomfakbbcpckaaGreatDoor
