/-
 The law BindNames, walked: whatever comes in, it returns true, and nothing that was there turns.
 Conditions: the term and the names lie in memory as told by 'TmV' and 'Txt', all names take at most 2^47 bytes each; name.Right's contract; the laws' own check 'alive' returns true.
-/
import Derived.Test.YteomfakbbcpckaaGreatDoorQNamF
import Derived.Test.YteomfakbbcpckaaGreatDoorJ23
import Derived.Test.YteomfakbbcpckaaGreatDoorQTmOpen
namespace Go.Proofs.YteomfakbbcpckaaGreatDoor
open Go.RowKit
open Lvl
open Trm
namespace Bnd
set_option maxRecDepth 100000 in
set_option maxHeartbeats 4000000 in
theorem bindNames_any (Tt : Tm) (Vt : Value) (names : List ByteArray) (A : Option Addr) (len cap : Nat) (w : World) (AL : ∀ w', Below w.heap.size w w' → Calls Tryz.prog 9 #[] w' (Ret w' (.bool true))) (CN : NameC w Nm.rightB) (ht : TmV w Tt Vt) (mt9 : nmOk Tt) (hx : Txt w A names) (hlen : names.length = len) (hl47 : len ≤ 140737488355328) (hsz : ∀ x ∈ names, x.size ≤ 140737488355328) :
  Calls Tryz.prog 5 #[Vt, .slice A len cap] w (Ret w (.bool true)) := by
 obtain ⟨i0, hi0, hz0, hz1, hz2⟩ := info_parts infoTm
 have HAL := Lib.hid AL
 have HCN := Lib.hid CN
 have HTX := Lib.hid hx
 have HN := Lib.hid hlen
 have HSZ := Lib.hid hsz
 clear AL CN hx hlen hsz
 obtain ⟨kt, nt, mt, t1, t2, t3, t4, t5, t6, rfl⟩ := tmV_open ht
 have HTt := Lib.hid ht
 have HMt := Lib.hid mt9
 clear ht mt9
 go_enter Tryz.func5, Tryz.ntmps5
 go_wp2_with fail
 have z1 : (w.alloc (.cells #[.int .i64 kt, .int .i64 nt, .string mt, .slice t1 t2 t3, .slice t4 t5 t6] 25)).heap.size = w.heap.size + 1 := by simp
 have r0 : (w.alloc (.cells #[.int .i64 kt, .int .i64 nt, .string mt, .slice t1 t2 t3, .slice t4 t5 t6] 25)).heap[w.heap.size]? = some (Obj.cells #[.int .i64 kt, .int .i64 nt, .string mt, .slice t1 t2 t3, .slice t4 t5 t6] 25 (0, 0)) := by
  have := heap_alloc_new w (.cells #[.int .i64 kt, .int .i64 nt, .string mt, .slice t1 t2 t3, .slice t4 t5 t6] 25)
  exact this
 have HB := Lib.hid (below_lit w (.cells #[.int .i64 kt, .int .i64 nt, .string mt, .slice t1 t2 t3, .slice t4 t5 t6] 25))
 have HR0 := Lib.hid (r0)
 clear r0
 generalize (w.alloc (.cells #[.int .i64 kt, .int .i64 nt, .string mt, .slice t1 t2 t3, .slice t4 t5 t6] 25)) = W5 at *
 have HZ := Lib.hid z1
 clear z1
 have HC := Lib.hid HB.out
 have HRt := HR0
 have HLt : Hid (w.heap.size < W5.heap.size) := by
  have : w.heap.size < W5.heap.size := by have := HZ.out; omega
  exact this
 replace HTt := Lib.hid (HTt.out.below HB.out)
 clear HB HZ HR0
 refine (HAL.out _ HC.out).mono ?_
 rintro e v1 ⟨rfl, hbq⟩
 replace HRt := mvR hbq HLt HRt
 replace HLt := mvL hbq HLt
 replace HTt := mvT hbq HTt
 replace HC := mvC hbq HC
 clear hbq
 obtain ⟨b9, hb9⟩ : ∃ q, decide (2500 < rn Tt) = q := ⟨_, rfl⟩
 have HB9 := Lib.hid hb9
 clear hb9
 obtain ⟨ct0, ct1, ct2, ct3, ct4⟩ := five_cells HRt.out
 go_wp2_with fail
 clear ct0 ct1 ct2 ct3 ct4
 refine (great_is Tt _ _ HTt.out HMt.out b9 HB9.out).mono ?_
 rintro e v2 ⟨rfl, hbq⟩
 replace HRt := mvR hbq HLt HRt
 replace HLt := mvL hbq HLt
 replace HTt := mvT hbq HTt
 replace HC := mvC hbq HC
 clear hbq
 cases b9 with
 | true =>
  obtain ⟨ct0, ct1, ct2, ct3, ct4⟩ := five_cells HRt.out
  go_wp2_with fail
  go_ret
  exact ⟨rfl, HC.out⟩
 | false =>
 obtain ⟨ct0, ct1, ct2, ct3, ct4⟩ := five_cells HRt.out
 go_wp2_with fail
 clear ct0 ct1 ct2 ct3 ct4
 refine (lengths200 A cap len names _ (HTX.out.below HC.out) hl47 HN HSZ.out).mono ?_
 rintro e w9 ⟨⟨r, rfl, hr⟩, rfl⟩
 have HRR := Lib.hid hr
 clear hr
 by_cases h200 : 200 < r
 ·have d3 : decide (200 < (r : Int)) = true := by simp; omega
  clear h200
  obtain ⟨ct0, ct1, ct2, ct3, ct4⟩ := five_cells HRt.out
  go_wp2_with fail
  go_ret
  exact ⟨rfl, HC.out⟩
 have d3 : decide (200 < (r : Int)) = false := by simp; omega
 have HLN : Hid (len ≤ 200 ∧ ∀ x ∈ names, x.size ≤ 200) := Lib.hid (by have := HRR.out (by omega); rw [HN.out] at this; exact this)
 clear h200 HRR
 obtain ⟨R, hR⟩ : ∃ q, looseR Tt = q := ⟨_, rfl⟩
 have HRR := Lib.hid hR
 clear hR
 obtain ⟨ct0, ct1, ct2, ct3, ct4⟩ := five_cells HRt.out
 go_wp2_with fail
 clear ct0 ct1 ct2 ct3 ct4
 clear d3
 refine (refLoose_free Tt _ _ HTt.out HMt.out R HRR.out).mono ?_
 rintro e v3 ⟨rfl, hbq⟩
 replace HRt := mvR hbq HLt HRt
 replace HLt := mvL hbq HLt
 replace HTt := mvT hbq HTt
 replace HC := mvC hbq HC
 clear hbq
 by_cases hbig : 1099511627776 < R
 ·have d9 : decide (1099511627776 < R) = true := by simp; omega
  clear hbig
  obtain ⟨ct0, ct1, ct2, ct3, ct4⟩ := five_cells HRt.out
  go_wp2_with fail
  go_ret
  exact ⟨rfl, HC.out⟩
 have d9 : decide (1099511627776 < R) = false := by simp; omega
 have HRS := Lib.hid (show R ≤ 1099511627776 by omega)
 clear hbig
 obtain ⟨q1, hq⟩ : ∃ q, (rightT Nm.rightB 4 Tt 1125899906842624 && decide (tnodes (subT (absF names) Tt 0) ≤ 2000)) = q := ⟨_, rfl⟩
 have HQ1 := Lib.hid hq
 clear hq
 obtain ⟨ct0, ct1, ct2, ct3, ct4⟩ := five_cells HRt.out
 go_wp2_with fail
 clear ct0 ct1 ct2 ct3 ct4
 clear d9
 refine (abstract_v Nm.rightB Tt _ A len cap names _ HTt.out HMt.out (HTX.out.below HC.out) (fun x hx => by have := HLN.out.2 x hx; omega) HN.out (by have := HLN.out.1; omega) (HCN.out.below HC.out) q1 HQ1.out).mono ?_
 intro e v4 hret
 obtain ⟨Tx, kx, nx, mx, x1, x2, x3, x4, x5, x6, rfl, hbq, hX, hN, hE⟩ := bret_tm hret (nm_abs names Tt 0 HMt.out)
 clear hret
 replace HRt := mvR hbq HLt HRt
 replace HLt := mvL hbq HLt
 replace HTt := mvT hbq HTt
 replace HC := mvC hbq HC
 have HTx := Lib.hid hX.out
 have HMx := Lib.hid hN.out
 have HEx := Lib.hid hE.out
 clear hbq hX hN hE 
 cases q1 with
 | false =>
  have hbq := below_lit v4 (.cells #[.int .i64 kx, .int .i64 nx, .string mx, .slice x1 x2 x3, .slice x4 x5 x6] 25)
  have hrx := heap_alloc_new v4 (.cells #[.int .i64 kx, .int .i64 nx, .string mx, .slice x1 x2 x3, .slice x4 x5 x6] 25)
  have hlx : v4.heap.size < (v4.alloc (.cells #[.int .i64 kx, .int .i64 nx, .string mx, .slice x1 x2 x3, .slice x4 x5 x6] 25)).heap.size := by simp
  go_wp2_with fail
  generalize hgw : v4.alloc (.cells #[.int .i64 kx, .int .i64 nx, .string mx, .slice x1 x2 x3, .slice x4 x5 x6] 25) = v5 at *
  clear hgw
  replace HRt := mvR hbq HLt HRt
  replace HLt := mvL hbq HLt
  replace HTt := mvT hbq HTt
  replace HTx := mvT hbq HTx
  replace HC := mvC hbq HC
  have HRx := Lib.hid hrx
  have HLx := Lib.hid hlx
  clear hbq hrx hlx
  generalize hgb : v4.heap.size = Bx at *
  clear hgb
  go_ret
  exact ⟨rfl, HC.out⟩
 | true =>
 have hex := HEx.out (by trivial)
 subst hex
 clear HEx
 have hbq := below_lit v4 (.cells #[.int .i64 kx, .int .i64 nx, .string mx, .slice x1 x2 x3, .slice x4 x5 x6] 25)
 have hrx := heap_alloc_new v4 (.cells #[.int .i64 kx, .int .i64 nx, .string mx, .slice x1 x2 x3, .slice x4 x5 x6] 25)
 have hlx : v4.heap.size < (v4.alloc (.cells #[.int .i64 kx, .int .i64 nx, .string mx, .slice x1 x2 x3, .slice x4 x5 x6] 25)).heap.size := by simp
 have hs5 : (v4.alloc (.cells #[.int .i64 kx, .int .i64 nx, .string mx, .slice x1 x2 x3, .slice x4 x5 x6] 25)).heap.size = v4.heap.size + 1 := by simp
 go_wp2_with fail
 generalize hgw : v4.alloc (.cells #[.int .i64 kx, .int .i64 nx, .string mx, .slice x1 x2 x3, .slice x4 x5 x6] 25) = v500 at *
 clear hgw
 replace HRt := mvR hbq HLt HRt
 replace HLt := mvL hbq HLt
 replace HTt := mvT hbq HTt
 replace HTx := mvT hbq HTx
 replace HC := mvC hbq HC
 have HRx := Lib.hid hrx
 have HLx := Lib.hid hlx
 have HS5 := Lib.hid hs5
 clear hbq hrx hlx hs5
 generalize hgb : v4.heap.size = Bx at *
 clear hgb
 have hno := nmO_empty v500
 rw [HS5.out] at hno
 have HNO := Lib.hid hno
 clear hno
 go_loopw [7, 8] (fun LV i wr => ∃ j : Nat, j ≤ len ∧ i = .int .i64 j ∧ Hid (NmO wr (Bx + 1) LV (names.take j)) ∧ Hid (∀ nm ∈ names.take j, Nm.rightB nm = true ∧ levC nm Tt = false) ∧ Hid (Below v500.heap.size v500 wr)) (fun _ i _ => len - (intOf i).toNat)
 case atStart => exact ⟨0, Nat.zero_le _, rfl, HNO.out, (by have : ∀ nm ∈ names.take 0, Nm.rightB nm = true ∧ levC nm Tt = false := (fun nm h => by rw [List.take_zero] at h; cases h); exact this), below_lit v500 (.cells #[] 25)⟩
 case round =>
  obtain ⟨j, hj, rfl, hno, hal, hgr⟩ := hrel
  by_cases hlt : j < len
  ·have hx1 : j < names.length := by rw [HN.out]; exact hlt
   have hln : decide ((j : Int) < (len : Int)) = true := by simp; omega
   obtain ⟨bn, on, eA, hcn0⟩ := HTX.out.at_ hx1
   subst eA
   have HBN0 := Lib.hid (cell_in hcn0)
   have HTK : Hid (names.take (j + 1) = names.take j ++ [names[j]]) := Lib.hid (by rw [List.take_add_one, List.getElem?_eq_getElem hx1]; rfl)
   have HJL : Hid ((names.take j).length = j) := Lib.hid (by rw [List.length_take]; omega)
   have HOB := Lib.hid (nam_none HQ1.out (List.getElem_mem hx1))
   have HSJ := Lib.hid (HSZ.out _ (List.getElem_mem hx1))
   have HXN : Hid (tnodes (subT (absF names) Tt 0) ≤ 100000) := Lib.hid (by
    have := HQ1.out
    rw [Bool.and_eq_true, decide_eq_true_iff] at this
    omega)
   have HCN0 := Lib.hid hcn0
   clear hcn0
   obtain ⟨nj, hnj⟩ : ∃ q, names[j] = q := ⟨_, rfl⟩
   simp only [hnj] at *
   clear hnj hx1
   have q1 : (0 : Int) ≤ (j : Int) := by omega
   have q2 : (j : Int) < (len : Int) := by omega
   have hbo1 : j + 1 ≤ maxLen := by have := HLN.out.1; unfold maxLen; omega
   have hbo2 : (j + 1) * 80 ≤ 140737488355328 := by have := HLN.out.1; omega
   have HTt0 := Lib.hid HTt.out
   have HTx0 := Lib.hid HTx.out
   have HRt0 := Lib.hid HRt.out
   have HLt0 := Lib.hid HLt.out
   have HRx0 := Lib.hid HRx.out
   have HLx0 := Lib.hid HLx.out
   have HC0 := Lib.hid HC.out
   have hbq := hgr.out
   replace HRt := mvR hbq HLt HRt
   replace HLt := mvL hbq HLt
   replace HRx := mvR hbq HLx HRx
   replace HLx := mvL hbq HLx
   replace HTt := mvT hbq HTt
   replace HTx := mvT hbq HTx
   replace HC := mvC hbq HC
   clear hbq
   have hcn := (HC.out.cell (p := ⟨bn, _, none⟩) HBN0.out).trans HCN0.out
   have hbn := Nat.lt_of_lt_of_le HBN0.out HC.out.size
   go_upto_region 12 with fail
   have hk : Hid (∀ W', Below wr.heap.size wr W' → W'.cell? ⟨Bx, 0, none⟩ = some (.int .i64 kx) ∧ W'.cell? ⟨Bx, 1, none⟩ = some (.int .i64 nx) ∧ W'.cell? ⟨Bx, 2, none⟩ = some (.string mx) ∧ W'.cell? ⟨Bx, 3, none⟩ = some (.slice x1 x2 x3) ∧ W'.cell? ⟨Bx, 4, none⟩ = some (.slice x4 x5 x6) ∧ W'.cell? ⟨bn, on + j, none⟩ = some (.string nj)) := fun W' h => by
    obtain ⟨qx0, qx1, qx2, qx3, qx4⟩ := five_cells ((h.block _ HLx.out).trans HRx.out)
    exact ⟨qx0, qx1, qx2, qx3, qx4, (h.cell (p := ⟨bn, _, none⟩) hbn).trans hcn⟩
   refine wp_region_held_drew (S := fun W' => W'.cell? ⟨Bx, 0, none⟩ = some (.int .i64 kx) ∧ W'.cell? ⟨Bx, 1, none⟩ = some (.int .i64 nx) ∧ W'.cell? ⟨Bx, 2, none⟩ = some (.string mx) ∧ W'.cell? ⟨Bx, 3, none⟩ = some (.slice x1 x2 x3) ∧ W'.cell? ⟨Bx, 4, none⟩ = some (.slice x4 x5 x6) ∧ W'.cell? ⟨bn, on + j, none⟩ = some (.string nj)) (by kernel_rfl) (hk.out _ ((Below.refl _ _).drew)) (fun hHeld => ?_)
   have HV := Lib.hid ((Below.refl wr.heap.size wr).drew)
   have hbq := HV.out
   replace HRt := mvR hbq HLt HRt
   replace HLt := mvL hbq HLt
   replace HRx := mvR hbq HLx HRx
   replace HLx := mvL hbq HLx
   replace HTt := mvT hbq HTt
   replace HTx := mvT hbq HTx
   replace HC := mvC hbq HC
   clear hbq
   generalize wr.drew = v601 at *
   clear hcn hbn
   refine take_in (i := 0) (v := ?_) rfl (by kernel_rfl) (by kernel_rfl) (by kernel_rfl) (fun _ _ _ h => h) (by rfl) ?_ hHeld ?_
   rotate_left
   ·intro w hSw
    (try dsimp only at hSw)
    go_simp
    try with_reducible rfl
   try simp only [Act.put, s1q, s2q, s3q]
   refine take_in (i := 1) (v := ?_) rfl (by kernel_rfl) (by kernel_rfl) (by kernel_rfl) (fun _ _ _ h => h) (by rfl) ?_ hHeld ?_
   rotate_left
   ·intro w hSw
    (try dsimp only at hSw)
    go_simp
    try with_reducible rfl
   try simp only [Act.put, s1q, s2q, s3q]
   refine take_in (i := 2) (v := ?_) rfl (by kernel_rfl) (by kernel_rfl) (by kernel_rfl) (fun _ _ _ h => h) (by rfl) ?_ hHeld ?_
   rotate_left
   ·intro w hSw
    (try dsimp only at hSw)
    go_simp
    try with_reducible rfl
   try simp only [Act.put, s1q, s2q, s3q]
   refine take_in (i := 3) (v := ?_) rfl (by kernel_rfl) (by kernel_rfl) (by kernel_rfl) (fun _ _ _ h => h) (by rfl) ?_ hHeld ?_
   rotate_left
   ·intro w hSw
    (try dsimp only at hSw)
    go_simp
    try with_reducible rfl
   try simp only [Act.put, s1q, s2q, s3q]
   refine take_in (i := 4) (v := ?_) rfl (by kernel_rfl) (by kernel_rfl) (by kernel_rfl) (fun _ _ _ h => h) (by rfl) ?_ hHeld ?_
   rotate_left
   ·intro w hSw
    (try dsimp only at hSw)
    go_simp
    try with_reducible rfl
   try simp only [Act.put, s1q, s2q, s3q]
   refine call_in (i := 5) rfl (by kernel_rfl) (fun K hK => ?_)
   clear hHeld
   go_simp
   refine (occ_v Nm.rightB (subT (absF names) Tt 0) _ nj _ HTx.out HXN.out HMx.out (HCN.out.below HC.out) false HOB.out).mono ?_
   rintro e v602 ⟨rfl, hbq⟩
   replace HRt := mvR hbq HLt HRt
   replace HLt := mvL hbq HLt
   replace HRx := mvR hbq HLx HRx
   replace HLx := mvL hbq HLx
   replace HTt := mvT hbq HTt
   replace HTx := mvT hbq HTx
   replace HC := mvC hbq HC
   replace HV := mvC hbq HV
   clear hbq
   try (go_wp2_with fail)
   refine hK.out _ _ (hk.out _ HV.out) (fun hHeld => ?_)
   clear hK K
   try simp only [Act.put, s1q, s2q, s3q]
   refine wpAnyH_done (by kernel_rfl) ?_ _
   have HG := Lib.hid HV.out
   clear HV hk
   have hcn := (HC.out.cell (p := ⟨bn, _, none⟩) HBN0.out).trans HCN0.out
   have hbn := Nat.lt_of_lt_of_le HBN0.out HC.out.size
   go_wp2_with fail
   clear hcn hbn
   refine (h6_constant nj _).mono ?_
   rintro e v603 ⟨rfl, _, hbq⟩
   replace HG := Lib.hid (HG.out.trans (hbq.mono HG.out.size))
   replace HRt := mvR hbq HLt HRt
   replace HLt := mvL hbq HLt
   replace HRx := mvR hbq HLx HRx
   replace HLx := mvL hbq HLx
   replace HTt := mvT hbq HTt
   replace HTx := mvT hbq HTx
   replace HC := mvC hbq HC
   clear hbq
   dsimp only [tv, tkOf, tnOf, tmOf]
   have HO := Lib.hid (own_below hno.out HG.out)
   have HAB := Lib.hid (hgr.out.trans (HG.out.mono hgr.out.size))
   have HAS : Hid (Bx + 1 ≤ v603.heap.size) := Lib.hid (by rw [← HS5.out]; exact HAB.out.size)
   have ho9 := HO.out
   rw [HJL.out] at ho9
   have HO9 := Lib.hid ho9
   clear ho9
   go_upto_region 15 with (first | (refine wpList_append_lies _ rfl (.tmp 46) (.tmp 52) 23 rfl (Bx + 1) 25 i0 (.agg #[.int .i64 0, .int .i64 0, .string ⟨#[]⟩, .slice none 0 0, .slice none 0 0]) 5 80 Tryz.underlying23 hi0 hz0 hz1 hz2 rfl (by decide) u7 j (cellsN (names.take j)) (by simp [Act.eval]) (own_alloc HO9.out _) ⟨v603.heap.size, 0, none⟩ 1 1 [.int .i64 3, .int .i64 0, .string nj, .slice none 0 0, .slice none 0 0] (by simp [Act.eval]) rfl (World.news_of_block (heap_alloc_new v603 _)) (five_oneCell rfl rfl) (by decide) hbo1 hbo2 (by have := HAS.out; simp; omega) (v603.heap.size + 1) (by simp) ?_; intro g9 cap' w2 hown2 hgrow hat hlt2))
   have hB2 : Below v500.heap.size v500 w2 := (HAB.out.alloc HAB.out.size _).grown hgrow (by have := HAB.out.size; simp; omega) (fun k e => by have := own_block HO9.out k e; have := HS5.out; omega)
   have HB2 := Lib.hid hB2
   have HNO2 := Lib.hid (nmO_step HJL.out hown2)
   have HLC := Lib.hid (nmO_last HJL.out hown2)
   clear hB2 hown2 hgrow hat HO HO9 HAB HAS
   replace HTt := Lib.hid (HTt0.out.below HB2.out)
   replace HTx := Lib.hid (HTx0.out.below HB2.out)
   replace HRt := Lib.hid ((HB2.out.block _ HLt0.out).trans HRt0.out)
   replace HLt := Lib.hid (Nat.lt_of_lt_of_le HLt0.out HB2.out.size)
   replace HRx := Lib.hid ((HB2.out.block _ HLx0.out).trans HRx0.out)
   replace HLx := Lib.hid (Nat.lt_of_lt_of_le HLx0.out HB2.out.size)
   replace HC := Lib.hid (HC0.out.trans (HB2.out.mono HC0.out.size))
   obtain ⟨rb, hrb⟩ : ∃ q, Nm.rightB nj = q := ⟨_, rfl⟩
   have HRB := Lib.hid ((right_tcn (RN := Nm.rightB) nj 0).trans hrb)
   have HRB2 := Lib.hid hrb
   clear hrb
   obtain ⟨lb, hlb⟩ : ∃ q, levC nj Tt = q := ⟨_, rfl⟩
   have HLB := Lib.hid hlb
   clear hlb
   obtain ⟨_, l0, l1, l2, l3, l4⟩ := HLC.out
   have q3 : (j : Int) < (((j + 1 : Nat)) : Int) := by omega
   have q4 : (j : Int) < (j : Int) + 1 := by omega
   have hcn := (HC.out.cell (p := ⟨bn, _, none⟩) HBN0.out).trans HCN0.out
   have hbn := Nat.lt_of_lt_of_le HBN0.out HC.out.size
   have hk : Hid (∀ W', Below w2.heap.size w2 W' → W'.cell? ⟨w.heap.size, 0, none⟩ = some (.int .i64 kt) ∧ W'.cell? ⟨w.heap.size, 1, none⟩ = some (.int .i64 nt) ∧ W'.cell? ⟨w.heap.size, 2, none⟩ = some (.string mt) ∧ W'.cell? ⟨w.heap.size, 3, none⟩ = some (.slice t1 t2 t3) ∧ W'.cell? ⟨w.heap.size, 4, none⟩ = some (.slice t4 t5 t6) ∧ W'.cell? ⟨g9, j * 5, none⟩ = some (.int .i64 3) ∧ W'.cell? ⟨g9, j * 5 + 1, none⟩ = some (.int .i64 0) ∧ W'.cell? ⟨g9, j * 5 + 2, none⟩ = some (.string nj) ∧ W'.cell? ⟨g9, j * 5 + 3, none⟩ = some (.slice none 0 0) ∧ W'.cell? ⟨g9, j * 5 + 4, none⟩ = some (.slice none 0 0) ∧ W'.cell? ⟨bn, on + j, none⟩ = some (.string nj)) := fun W' h => by
    obtain ⟨qt0, qt1, qt2, qt3, qt4⟩ := five_cells ((h.block _ HLt.out).trans HRt.out)
    exact ⟨qt0, qt1, qt2, qt3, qt4, (h.cell (p := ⟨g9, _, none⟩) HLC.out.1).trans l0, (h.cell (p := ⟨g9, _, none⟩) HLC.out.1).trans l1, (h.cell (p := ⟨g9, _, none⟩) HLC.out.1).trans l2, (h.cell (p := ⟨g9, _, none⟩) HLC.out.1).trans l3, (h.cell (p := ⟨g9, _, none⟩) HLC.out.1).trans l4, (h.cell (p := ⟨bn, _, none⟩) hbn).trans hcn⟩
   refine wp_region_held_drew (S := fun W' => W'.cell? ⟨w.heap.size, 0, none⟩ = some (.int .i64 kt) ∧ W'.cell? ⟨w.heap.size, 1, none⟩ = some (.int .i64 nt) ∧ W'.cell? ⟨w.heap.size, 2, none⟩ = some (.string mt) ∧ W'.cell? ⟨w.heap.size, 3, none⟩ = some (.slice t1 t2 t3) ∧ W'.cell? ⟨w.heap.size, 4, none⟩ = some (.slice t4 t5 t6) ∧ W'.cell? ⟨g9, j * 5, none⟩ = some (.int .i64 3) ∧ W'.cell? ⟨g9, j * 5 + 1, none⟩ = some (.int .i64 0) ∧ W'.cell? ⟨g9, j * 5 + 2, none⟩ = some (.string nj) ∧ W'.cell? ⟨g9, j * 5 + 3, none⟩ = some (.slice none 0 0) ∧ W'.cell? ⟨g9, j * 5 + 4, none⟩ = some (.slice none 0 0) ∧ W'.cell? ⟨bn, on + j, none⟩ = some (.string nj)) (by kernel_rfl) (hk.out _ ((Below.refl _ _).drew)) (fun hHeld => ?_)
   have HV := Lib.hid ((Below.refl w2.heap.size w2).drew)
   have hbq := HV.out
   replace HRt := mvR hbq HLt HRt
   replace HLt := mvL hbq HLt
   replace HRx := mvR hbq HLx HRx
   replace HLx := mvL hbq HLx
   replace HTt := mvT hbq HTt
   replace HTx := mvT hbq HTx
   replace HC := mvC hbq HC
   clear hbq
   generalize w2.drew = v604 at *
   clear hcn hbn l0 l1 l2 l3 l4
   refine take_in (i := 0) (v := ?_) rfl (by kernel_rfl) (by kernel_rfl) (by kernel_rfl) (fun _ _ _ h => h) (by rfl) ?_ hHeld ?_
   rotate_left
   ·intro w hSw
    (try dsimp only at hSw)
    go_simp
    try with_reducible rfl
   try simp only [Act.put, s1q, s2q, s3q]
   refine take_in (i := 1) (v := ?_) rfl (by kernel_rfl) (by kernel_rfl) (by kernel_rfl) (fun _ _ _ h => h) (by rfl) ?_ hHeld ?_
   rotate_left
   ·intro w hSw
    (try dsimp only at hSw)
    go_simp
    try with_reducible rfl
   try simp only [Act.put, s1q, s2q, s3q]
   refine take_in (i := 2) (v := ?_) rfl (by kernel_rfl) (by kernel_rfl) (by kernel_rfl) (fun _ _ _ h => h) (by rfl) ?_ hHeld ?_
   rotate_left
   ·intro w hSw
    (try dsimp only at hSw)
    go_simp
    try with_reducible rfl
   try simp only [Act.put, s1q, s2q, s3q]
   refine take_in (i := 3) (v := ?_) rfl (by kernel_rfl) (by kernel_rfl) (by kernel_rfl) (fun _ _ _ h => h) (by rfl) ?_ hHeld ?_
   rotate_left
   ·intro w hSw
    (try dsimp only at hSw)
    go_simp
    try with_reducible rfl
   try simp only [Act.put, s1q, s2q, s3q]
   refine call_in (i := 4) rfl (by kernel_rfl) (fun K hK => ?_)
   clear hHeld
   go_simp
   refine (refAny_free (tcn nj) _ 0 _ ⟨_, _, rfl, leaf_at _ 3 0 _ _⟩ (nm_mk 3 0 [] HSJ.out) (by decide) (by decide) rb HRB.out).mono ?_
   rintro e v605 ⟨rfl, hbq⟩
   replace HRt := mvR hbq HLt HRt
   replace HLt := mvL hbq HLt
   replace HRx := mvR hbq HLx HRx
   replace HLx := mvL hbq HLx
   replace HTt := mvT hbq HTt
   replace HTx := mvT hbq HTx
   replace HC := mvC hbq HC
   replace HV := mvC hbq HV
   clear hbq
   try (go_wp2_with fail)
   refine hK.out _ _ (hk.out _ HV.out) (fun hHeld => ?_)
   clear hK K
   try simp only [Act.put, s1q, s2q, s3q]
   refine take_in (i := 5) (v := ?_) rfl (by kernel_rfl) (by kernel_rfl) (by kernel_rfl) (fun _ _ _ h => h) (by rfl) ?_ hHeld ?_
   rotate_left
   ·intro w hSw
    (try dsimp only at hSw)
    go_simp
    try with_reducible rfl
   try simp only [Act.put, s1q, s2q, s3q]
   refine take_in (i := 6) (v := ?_) rfl (by kernel_rfl) (by kernel_rfl) (by kernel_rfl) (fun _ _ _ h => h) (by rfl) ?_ hHeld ?_
   rotate_left
   ·intro w hSw
    (try dsimp only at hSw)
    go_simp
    try with_reducible rfl
   try simp only [Act.put, s1q, s2q, s3q]
   cases rb with
   | false =>
    refine skip_in (i := 7) rfl (by kernel_rfl) (by kernel_rfl) (by kernel_rfl) (fun _ _ _ h => h) (by rfl) hHeld ?_
    try simp only [Act.put, s1q, s2q, s3q]
    refine skip_in (i := 8) rfl (by kernel_rfl) (by kernel_rfl) (by kernel_rfl) (fun _ _ _ h => h) (by rfl) hHeld ?_
    try simp only [Act.put, s1q, s2q, s3q]
    refine skip_in (i := 9) rfl (by kernel_rfl) (by kernel_rfl) (by kernel_rfl) (fun _ _ _ h => h) (by rfl) hHeld ?_
    try simp only [Act.put, s1q, s2q, s3q]
    refine skip_in (i := 10) rfl (by kernel_rfl) (by kernel_rfl) (by kernel_rfl) (fun _ _ _ h => h) (by rfl) hHeld ?_
    try simp only [Act.put, s1q, s2q, s3q]
    refine skip_in (i := 11) rfl (by kernel_rfl) (by kernel_rfl) (by kernel_rfl) (fun _ _ _ h => h) (by rfl) hHeld ?_
    try simp only [Act.put, s1q, s2q, s3q]
    refine skip_in (i := 12) rfl (by kernel_rfl) (by kernel_rfl) (by kernel_rfl) (fun _ _ _ h => h) (by rfl) hHeld ?_
    try simp only [Act.put, s1q, s2q, s3q]
    refine take_in (i := 13) (v := ?_) rfl (by kernel_rfl) (by kernel_rfl) (by kernel_rfl) (fun _ _ _ h => h) (by rfl) ?_ hHeld ?_
    rotate_left
    ·intro w hSw
     (try dsimp only at hSw)
     go_simp
     try with_reducible rfl
    try simp only [Act.put, s1q, s2q, s3q]
    refine wpAnyH_done (by kernel_rfl) ?_ _
    clear HV hk
    go_wp2_with fail
    go_ret
    exact ⟨rfl, HC.out⟩
   | true =>
   refine take_in (i := 7) (v := ?_) rfl (by kernel_rfl) (by kernel_rfl) (by kernel_rfl) (fun _ _ _ h => h) (by rfl) ?_ hHeld ?_
   rotate_left
   ·intro w hSw
    (try dsimp only at hSw)
    go_simp
    try with_reducible rfl
   try simp only [Act.put, s1q, s2q, s3q]
   refine take_in (i := 8) (v := ?_) rfl (by kernel_rfl) (by kernel_rfl) (by kernel_rfl) (fun _ _ _ h => h) (by rfl) ?_ hHeld ?_
   rotate_left
   ·intro w hSw
    (try dsimp only at hSw)
    go_simp
    try with_reducible rfl
   try simp only [Act.put, s1q, s2q, s3q]
   refine take_in (i := 9) (v := ?_) rfl (by kernel_rfl) (by kernel_rfl) (by kernel_rfl) (fun _ _ _ h => h) (by rfl) ?_ hHeld ?_
   rotate_left
   ·intro w hSw
    (try dsimp only at hSw)
    go_simp
    try with_reducible rfl
   try simp only [Act.put, s1q, s2q, s3q]
   refine take_in (i := 10) (v := ?_) rfl (by kernel_rfl) (by kernel_rfl) (by kernel_rfl) (fun _ _ _ h => h) (by rfl) ?_ hHeld ?_
   rotate_left
   ·intro w hSw
    (try dsimp only at hSw)
    go_simp
    try with_reducible rfl
   try simp only [Act.put, s1q, s2q, s3q]
   refine take_in (i := 11) (v := ?_) rfl (by kernel_rfl) (by kernel_rfl) (by kernel_rfl) (fun _ _ _ h => h) (by rfl) ?_ hHeld ?_
   rotate_left
   ·intro w hSw
    (try dsimp only at hSw)
    go_simp
    try with_reducible rfl
   try simp only [Act.put, s1q, s2q, s3q]
   refine call_in (i := 12) rfl (by kernel_rfl) (fun K hK => ?_)
   clear hHeld
   go_simp
   refine (leveled_is nj Tt _ _ HTt.out lb HLB.out).mono ?_
   rintro e v606 ⟨rfl, hbq⟩
   replace HRt := mvR hbq HLt HRt
   replace HLt := mvL hbq HLt
   replace HRx := mvR hbq HLx HRx
   replace HLx := mvL hbq HLx
   replace HTt := mvT hbq HTt
   replace HTx := mvT hbq HTx
   replace HC := mvC hbq HC
   replace HV := mvC hbq HV
   clear hbq
   try (go_wp2_with fail)
   refine hK.out _ _ (hk.out _ HV.out) (fun hHeld => ?_)
   clear hK K
   try simp only [Act.put, s1q, s2q, s3q]
   refine take_in (i := 13) (v := ?_) rfl (by kernel_rfl) (by kernel_rfl) (by kernel_rfl) (fun _ _ _ h => h) (by rfl) ?_ hHeld ?_
   rotate_left
   ·intro w hSw
    (try dsimp only at hSw)
    go_simp
    try with_reducible rfl
   try simp only [Act.put, s1q, s2q, s3q]
   refine wpAnyH_done (by kernel_rfl) ?_ _
   cases lb with
   | true =>
    clear HV hk
    go_wp2_with fail
    go_ret
    exact ⟨rfl, HC.out⟩
   | false =>
   have HNO3 := Lib.hid (own_below HNO2.out HV.out)
   have HB3 := Lib.hid (HB2.out.trans (HV.out.mono HB2.out.size))
   have HT9 : Hid (∀ nm ∈ names.take (j + 1), Nm.rightB nm = true ∧ levC nm Tt = false) := Lib.hid (fun nm h => by
    rw [HTK.out] at h
    rcases List.mem_append.1 h with h | h
    ·exact hal.out nm h
    ·obtain rfl : nm = nj := by simpa using h
     exact ⟨HRB2.out, HLB.out⟩)
   rw [← HTK.out] at HNO3
   clear HV hk
   go_wp2_with fail
   go_roundw
   case rel => exact ⟨j + 1, by omega, by go_num, HNO3.out, HT9.out, HB3.out⟩
   case measure => simp [intOf]; omega
  ·obtain rfl : len = j := by omega
   have hln : decide ((len : Int) < (len : Int)) = false := by simp
   have hno9 := hno.out
   have hal9 := hal.out
   rw [List.take_of_length_le (by rw [HN.out]; exact Nat.le_refl _)] at hno9 hal9
   have HBK := Lib.hid (nam_back HQ1.out (by rw [HRR.out]; exact HRS.out) (by rw [HN.out]; exact HLN.out.1) hal9)
   obtain ⟨A2, l2, c2, e7, hl2, _, _, hts2⟩ := ownT_tsP (nmO_own hno9)
   subst e7
   have HTS := Lib.hid (show TsP _ (fun _ => True) A2 0 (names.map tcn) from tsP_move (fun b _ _ => ⟨trivial, rfl⟩) (Nat.le_refl _) _ _ _ hts2)
   have HL2 := Lib.hid hl2
   have HL3 : Hid (l2 ≤ 140737488355328) := Lib.hid (by rw [← hl2, List.length_map, HN.out]; have := HLN.out.1; omega)
   have HNL : Hid (nmOkL (names.map tcn)) := Lib.hid (nmOkL_of fun a ha => by
    obtain ⟨x, hx, rfl⟩ := List.mem_map.1 ha
    exact nm_mk 3 0 [] (HSZ.out x hx))
   have hbq := hgr.out
   replace HRt := mvR hbq HLt HRt
   replace HLt := mvL hbq HLt
   replace HRx := mvR hbq HLx HRx
   replace HLx := mvL hbq HLx
   replace HTt := mvT hbq HTt
   replace HTx := mvT hbq HTx
   replace HC := mvC hbq HC
   clear hal hal9 hno hno9 hl2 hts2 hgr hbq
   generalize wr = v701 at *
   obtain ⟨cx0, cx1, cx2, cx3, cx4⟩ := five_cells HRx.out
   go_wp2_with fail
   clear cx0 cx1 cx2 cx3 cx4
   refine (inst_v Nm.rightB (subT (absF names) Tt 0) _ A2 l2 c2 (names.map tcn) _ HTx.out HMx.out HTS.out HL2.out HL3.out HNL.out (HCN.out.below HC.out) true HBK.out.1).mono ?_
   intro e v701 hret
   obtain ⟨ky, ny, my, y1, y2, y3, y4, y5, y6, rfl, hbq, hX⟩ := bret_any hret
   clear hret
   replace HRt := mvR hbq HLt HRt
   replace HLt := mvL hbq HLt
   replace HRx := mvR hbq HLx HRx
   replace HLx := mvL hbq HLx
   replace HTt := mvT hbq HTt
   replace HTx := mvT hbq HTx
   replace HC := mvC hbq HC
   have HTy := Lib.hid (hX.out rfl)
   clear hbq hX
   rw [HBK.out.2] at HTy
   have hbq := below_lit v701 (.cells #[.int .i64 ky, .int .i64 ny, .string my, .slice y1 y2 y3, .slice y4 y5 y6] 25)
   have hrx := heap_alloc_new v701 (.cells #[.int .i64 ky, .int .i64 ny, .string my, .slice y1 y2 y3, .slice y4 y5 y6] 25)
   have hlx : v701.heap.size < (v701.alloc (.cells #[.int .i64 ky, .int .i64 ny, .string my, .slice y1 y2 y3, .slice y4 y5 y6] 25)).heap.size := by simp
   obtain ⟨cy0, cy1, cy2, cy3, cy4⟩ := five_cells hrx
   obtain ⟨ct0, ct1, ct2, ct3, ct4⟩ := five_cells ((hbq.block _ HLt.out).trans HRt.out)
   go_wp2_with fail
   clear cy0 cy1 cy2 cy3 cy4 ct0 ct1 ct2 ct3 ct4
   generalize hgw : v701.alloc (.cells #[.int .i64 ky, .int .i64 ny, .string my, .slice y1 y2 y3, .slice y4 y5 y6] 25) = v702 at *
   clear hgw
   replace HRt := mvR hbq HLt HRt
   replace HLt := mvL hbq HLt
   replace HRx := mvR hbq HLx HRx
   replace HLx := mvL hbq HLx
   replace HTt := mvT hbq HTt
   replace HTx := mvT hbq HTx
   replace HTy := mvT hbq HTy
   replace HC := mvC hbq HC
   have HRy := Lib.hid hrx
   have HLy := Lib.hid hlx
   clear hbq hrx hlx
   generalize hgb : v701.heap.size = By at *
   clear hgb
   refine (sameTerm_is Tt _ _ _ HTy.out HTt.out).mono ?_
   rintro e v703 ⟨rfl, hbq⟩
   replace HRt := mvR hbq HLt HRt
   replace HLt := mvL hbq HLt
   replace HRx := mvR hbq HLx HRx
   replace HLx := mvL hbq HLx
   replace HRy := mvR hbq HLy HRy
   replace HLy := mvL hbq HLy
   replace HTt := mvT hbq HTt
   replace HTx := mvT hbq HTx
   replace HTy := mvT hbq HTy
   replace HC := mvC hbq HC
   clear hbq
   go_wp2_with fail
   go_ret
   exact ⟨rfl, HC.out⟩
end Bnd
end Go.Proofs.YteomfakbbcpckaaGreatDoor
