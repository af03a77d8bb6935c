/-
 The law BindBack, walked: whatever comes in, it returns true, and nothing that was there turns.
 Conditions: the terms lie in memory as told by 'TmV' and 'TsP', their names take at most 2^47 bytes each; name.Right's contract; the laws' own check 'alive' returns true.
-/
import Derived.Test.YteomfakbbcpckaaGreatDoorJ32
import Derived.Test.YteomfakbbcpckaaGreatDoorJ23
import Derived.Test.YteomfakbbcpckaaGreatDoorJ07
namespace Go.Proofs.YteomfakbbcpckaaGreatDoor
open Go.RowKit
open Lvl
open Trm
namespace Bnd
theorem far_no {c : Int} (h0 : 0 ≤ c) (h1 : c ≤ 1000000) : farB c = false := by
 unfold farB
 exact decide_eq_false (by omega)
theorem lift_ok {t : Tm} {c : Int} (h0 : 0 ≤ c) (h1 : c ≤ 1000000) (h : rightT Nm.rightB 4 t 1125899906842624 = true) : (!farB c && (!farB 0 && rightT Nm.rightB 4 t 1125899906842624)) = true := by
 rw [far_no h0 h1, far_no (c := 0) (by omega) (by omega), h]
 rfl
theorem back_ok {t : Tm} {ts : List Tm} {len : Nat} (hl : ts.length = len) (h20 : len ≤ 20) (h : rightT Nm.rightB 4 t 1125899906842624 = true) (hr : looseR t ≤ 1099511627776) (ha : areB Nm.rightB ts = true) : (rightT Nm.rightB 4 (subT (raF len 0) t 0) 1125899906842624 && (areB Nm.rightB ts && decide (tnodes (subT (instF ts) (subT (raF len 0) t 0) 0) ≤ 2000))) = true ∧ subT (instF ts) (subT (raF len 0) t 0) 0 = t := by
 obtain ⟨_, hn, k1⟩ := rightT_ok h
 have hb := inst_raise ts k1
 rw [hl] at hb
 rw [looseR_right h] at hr
 rw [raised_right (len : Int) (by omega) (by omega) h (by omega), ha, hb, decide_eq_true hn]
 exact ⟨rfl, rfl⟩
theorem raise_ok {t : Tm} {c : Int} (h0 : 0 ≤ c) (h1 : c ≤ 100000) (h : rightT Nm.rightB 4 t 1125899906842624 = true) (hr : looseR t ≤ 1099511627776 + 100000) : rightT Nm.rightB 4 (subT (raF c 0) t 0) 1125899906842624 = true := by
 rw [looseR_right h] at hr
 exact raised_right c h0 (by omega) h (by omega)
theorem raise_lo {t : Tm} {c : Int} (h0 : 0 ≤ c) (h1 : c ≤ 100000) (h : rightT Nm.rightB 4 t 1125899906842624 = true) (hr : looseR t ≤ 1099511627776) : looseR (subT (raF c 0) t 0) = if looseR t = 0 then 0 else looseR t + c := by
 have hx := raise_ok h0 h1 h (by omega)
 rw [looseR_right hx, looseR_right h]
 exact raised_lo c h0 h
theorem low_ok {t : Tm} {c : Int} (h0 : 0 ≤ c) (h1 : c ≤ 100000) (h : rightT Nm.rightB 4 t 1125899906842624 = true) (hr : looseR t ≤ 1099511627776) : (!farB c && (rightT Nm.rightB 4 (subT (raF c 0) t 0) 1125899906842624 && decide (cntT (fun n => decide (n < c)) (subT (raF c 0) t 0) 0 = 0))) = true := by
 obtain ⟨_, _, k1⟩ := rightT_ok h
 rw [far_no h0 (by omega), raise_ok h0 h1 h (by omega), decide_eq_true (cnt_raised c h0 t _ 0 k1)]
 rfl
theorem back_mul {L c : Int} (h0 : 0 ≤ c) (hL : 0 ≤ L) : (max (L + c) 0) * (min L 1) = if L = 0 then 0 else L + c := by
 by_cases h : L = 0
 ·rw [if_pos h, h, show min (0 : Int) 1 = 0 by omega, Int.mul_zero]
 ·rw [if_neg h, show min L 1 = 1 by omega, Int.mul_one]
  omega
set_option maxRecDepth 100000 in
set_option maxHeartbeats 4000000 in
theorem bindBack_any (Tt : Tm) (Vt : Value) (ts : List Tm) (A : Option Addr) (len cap : Nat) (c d : Int) (w : World) (AL : ∀ w', Below w.heap.size w w' → Calls Tryz.prog 9 #[] w' (Ret w' (.bool true))) (CN : NameC w Nm.rightB) (ht : TmV w Tt Vt) (mt9 : nmOk Tt) (hts : TsP w (fun _ => True) A 0 ts) (hlen : ts.length = len) (hl47 : len ≤ 140737488355328) (hnm : nmOkL ts) :
  Calls Tryz.prog 3 #[Vt, .slice A len cap, .int .i64 c, .int .i64 d] w (Ret w (.bool true)) := by
 have HAL := Lib.hid AL
 have HCN := Lib.hid CN
 have HTS := Lib.hid hts
 have HN := Lib.hid hlen
 have HNM := Lib.hid hnm
 clear AL CN hts hlen hnm
 obtain ⟨kt, nt, mt, t1, t2, t3, t4, t5, t6, rfl⟩ := tmV_open ht
 have HTt := Lib.hid ht
 have HMt := Lib.hid mt9
 clear ht mt9
 go_enter Tryz.func3, Tryz.ntmps3
 go_wp2_with fail
 have z1 : (w.alloc (.cells #[.int .i64 kt, .int .i64 nt, .string mt, .slice t1 t2 t3, .slice t4 t5 t6] 25)).heap.size = w.heap.size + 1 := by simp
 have r0 : (w.alloc (.cells #[.int .i64 kt, .int .i64 nt, .string mt, .slice t1 t2 t3, .slice t4 t5 t6] 25)).heap[w.heap.size]? = some (Obj.cells #[.int .i64 kt, .int .i64 nt, .string mt, .slice t1 t2 t3, .slice t4 t5 t6] 25 (0, 0)) := by
  have := heap_alloc_new w (.cells #[.int .i64 kt, .int .i64 nt, .string mt, .slice t1 t2 t3, .slice t4 t5 t6] 25)
  exact this
 have HB := Lib.hid (below_lit w (.cells #[.int .i64 kt, .int .i64 nt, .string mt, .slice t1 t2 t3, .slice t4 t5 t6] 25))
 have HR0 := Lib.hid (r0)
 clear r0
 generalize (w.alloc (.cells #[.int .i64 kt, .int .i64 nt, .string mt, .slice t1 t2 t3, .slice t4 t5 t6] 25)) = W5 at *
 have HZ := Lib.hid z1
 clear z1
 have HC := Lib.hid HB.out
 have HRt := HR0
 have HLt : Hid (w.heap.size < W5.heap.size) := by
  have : w.heap.size < W5.heap.size := by have := HZ.out; omega
  exact this
 replace HTt := Lib.hid (HTt.out.below HB.out)
 clear HB HZ HR0
 refine (HAL.out _ HC.out).mono ?_
 rintro e v1 ⟨rfl, hbq⟩
 replace HRt := mvR hbq HLt HRt
 replace HLt := mvL hbq HLt
 replace HTt := mvT hbq HTt
 replace HC := mvC hbq HC
 clear hbq
 obtain ⟨ct0, ct1, ct2, ct3, ct4⟩ := five_cells HRt.out
 go_wp2_with fail
 clear ct0 ct1 ct2 ct3 ct4
 refine (great_v Tt _ ts A len cap _ HTt.out HMt.out (tsP_below HC.out HTS.out) HN.out hl47 HNM.out).mono ?_
 rintro e v2 ⟨b9, h20, rfl, hbq⟩
 replace HRt := mvR hbq HLt HRt
 replace HLt := mvL hbq HLt
 replace HTt := mvT hbq HTt
 replace HC := mvC hbq HC
 clear hbq
 cases b9 with
 | true =>
  clear h20
  obtain ⟨ct0, ct1, ct2, ct3, ct4⟩ := five_cells HRt.out
  go_wp2_with fail
  go_ret
  exact ⟨rfl, HC.out⟩
 | false =>
 have H20 := Lib.hid (h20 rfl).2
 clear h20
 obtain ⟨r, hr⟩ : ∃ q, rightT Nm.rightB 4 Tt 1125899906842624 = q := ⟨_, rfl⟩
 have HQt := Lib.hid hr
 clear hr
 obtain ⟨ct0, ct1, ct2, ct3, ct4⟩ := five_cells HRt.out
 go_wp2_with fail
 clear ct0 ct1 ct2 ct3 ct4
 refine (refAny_free Tt _ 4 _ HTt.out HMt.out (by decide) (by decide) r HQt.out).mono ?_
 rintro e v3 ⟨rfl, hbq⟩
 replace HRt := mvR hbq HLt HRt
 replace HLt := mvL hbq HLt
 replace HTt := mvT hbq HTt
 replace HC := mvC hbq HC
 clear hbq
 cases r with
 | false =>
  obtain ⟨ct0, ct1, ct2, ct3, ct4⟩ := five_cells HRt.out
  go_wp2_with fail
  go_ret
  exact ⟨rfl, HC.out⟩
 | true =>
 obtain ⟨R, hR⟩ : ∃ q, looseR Tt = q := ⟨_, rfl⟩
 have HRR := Lib.hid hR
 have HR9 := Lib.hid (looseR_le (x := Tt)).1
 rw [hR] at HR9
 clear hR
 obtain ⟨ct0, ct1, ct2, ct3, ct4⟩ := five_cells HRt.out
 go_wp2_with fail
 clear ct0 ct1 ct2 ct3 ct4
 refine (refLoose_free Tt _ _ HTt.out HMt.out R HRR.out).mono ?_
 rintro e v4 ⟨rfl, hbq⟩
 replace HRt := mvR hbq HLt HRt
 replace HLt := mvL hbq HLt
 replace HTt := mvT hbq HTt
 replace HC := mvC hbq HC
 clear hbq
 by_cases hbig : 1099511627776 < R
 ·have d9 : decide (1099511627776 < R) = true := by simp; omega
  clear hbig
  obtain ⟨ct0, ct1, ct2, ct3, ct4⟩ := five_cells HRt.out
  go_wp2_with fail
  go_ret
  exact ⟨rfl, HC.out⟩
 have d9 : decide (1099511627776 < R) = false := by simp; omega
 have HRS := Lib.hid (show R ≤ 1099511627776 by omega)
 clear hbig
 go_wp2_with fail
 clear d9
 go_loopw [9] (fun i wr => ∃ j : Nat, j ≤ len ∧ i = .int .i64 j ∧ Hid (areB Nm.rightB (ts.take j) = true) ∧ Hid (Below v4.heap.size v4 wr)) (fun i _ => len - (intOf i).toNat)
 case atStart => exact ⟨0, Nat.zero_le _, rfl, (by have : areB Nm.rightB (ts.take 0) = true := (by rw [List.take_zero]; rfl); exact this), Below.refl _ _⟩
 case round =>
  obtain ⟨j, hj, rfl, hal, hgr⟩ := hrel
  by_cases hlt : j < len
  ·have hx1 : j < ts.length := by rw [HN.out]; exact hlt
   have hln : decide ((j : Int) < (len : Int)) = true := by simp; omega
   obtain ⟨bq, o, l1, s1, rfl, hbs, _, hc0, hc1, hc2, hc3, hc4, htm⟩ := tsP_get HTS.out j hx1
   obtain ⟨⟨xa, xl, xc, rfl⟩, ya, yl, yc, rfl⟩ := tmP_slices htm
   have hgr0 := HC.out.trans (hgr.out.mono HC.out.size)
   have e0 := (hgr0.cell (p := ⟨bq, _, none⟩) hbs).trans hc0
   have e1 := (hgr0.cell (p := ⟨bq, _, none⟩) hbs).trans hc1
   have e2 := (hgr0.cell (p := ⟨bq, _, none⟩) hbs).trans hc2
   have e3 := (hgr0.cell (p := ⟨bq, _, none⟩) hbs).trans hc3
   have e4 := (hgr0.cell (p := ⟨bq, _, none⟩) hbs).trans hc4
   have hnj := nmOkL_mem HNM.out (List.getElem_mem hx1)
   have q1 : (0 : Int) ≤ (j : Int) := by omega
   have q2 : (j : Int) < (len : Int) := by omega
   obtain ⟨rj, hrj⟩ : ∃ q, rightT Nm.rightB 4 ts[j] 1125899906842624 = q := ⟨_, rfl⟩
   have han := refAny_free ts[j] _ 4 wr ⟨_, _, rfl, tmP_below hgr0 htm⟩ hnj (by decide) (by decide) rj hrj
   dsimp only [tv] at han
   have HAN := Lib.hid han
   have HTK : Hid (rj = true → areB Nm.rightB (ts.take (j + 1)) = true) := by
    have : rj = true → areB Nm.rightB (ts.take (j + 1)) = true := fun h => by rw [areB_take hx1, hal.out, hrj, h]; rfl
    exact this
   clear han htm hnj hc0 hc1 hc2 hc3 hc4 hrj hgr0
   generalize tkOf ts[j] = ka at *
   generalize tnOf ts[j] = na at *
   generalize tmOf ts[j] = ma at *
   cases rj with
   | false =>
    go_wp2_with fail
    refine HAN.out.mono ?_
    rintro e w1 ⟨rfl, hb1⟩
    have HB1 := Lib.hid (hgr.out.trans (hb1.mono hgr.out.size))
    clear hb1 e0 e1 e2 e3 e4
    go_wp2_with fail
    go_ret
    exact ⟨rfl, HC.out.trans (HB1.out.mono HC.out.size)⟩
   | true =>
    have HT9 := Lib.hid (HTK.out rfl)
    clear HTK
    go_wp2_with fail
    refine HAN.out.mono ?_
    rintro e w1 ⟨rfl, hb1⟩
    have HB1 := Lib.hid (hgr.out.trans (hb1.mono hgr.out.size))
    clear hb1 e0 e1 e2 e3 e4
    go_wp2_with fail
    go_roundw
    case rel => exact ⟨j + 1, by omega, by go_num, HT9.out, HB1.out⟩
    case measure => simp [intOf]; omega
  ·obtain rfl : len = j := by omega
   have hln : decide ((len : Int) < (len : Int)) = false := by simp
   have HAR : Hid (areB Nm.rightB ts = true) := by
    have := hal.out
    rw [List.take_of_length_le (by rw [HN.out]; exact Nat.le_refl _)] at this
    exact this
   have hbq := hgr.out
   replace HRt := mvR hbq HLt HRt
   replace HLt := mvL hbq HLt
   replace HTt := mvT hbq HTt
   replace HC := mvC hbq HC
   clear hal hgr hbq
   generalize wr = v5 at *
   have HOX := Lib.hid (lift_ok (c := (len : Int)) (by omega) (by have := H20.out; omega) HQt.out)
   have HBK := Lib.hid (back_ok HN.out H20.out HQt.out (by rw [HRR.out]; exact HRS.out) HAR.out)
   obtain ⟨ct0, ct1, ct2, ct3, ct4⟩ := five_cells HRt.out
   go_wp2_with fail
   clear ct0 ct1 ct2 ct3 ct4
   refine (lift_v Nm.rightB (len : Int) 0 Tt _ _ HTt.out HMt.out (HCN.out.below HC.out) true HOX.out).mono ?_
   intro e v6 hret
   obtain ⟨kx, nx, mx, x1, x2, x3, x4, x5, x6, rfl, hbq, hX⟩ := bret_any hret
   clear hret
   replace HRt := mvR hbq HLt HRt
   replace HLt := mvL hbq HLt
   replace HTt := mvT hbq HTt
   replace HC := mvC hbq HC
   have HTx := Lib.hid (hX.out rfl)
   clear hbq hX
   have hbq := below_lit v6 (.cells #[.int .i64 kx, .int .i64 nx, .string mx, .slice x1 x2 x3, .slice x4 x5 x6] 25)
   have hrx := heap_alloc_new v6 (.cells #[.int .i64 kx, .int .i64 nx, .string mx, .slice x1 x2 x3, .slice x4 x5 x6] 25)
   have hlx : v6.heap.size < (v6.alloc (.cells #[.int .i64 kx, .int .i64 nx, .string mx, .slice x1 x2 x3, .slice x4 x5 x6] 25)).heap.size := by simp
   obtain ⟨cx0, cx1, cx2, cx3, cx4⟩ := five_cells hrx
   go_wp2_with fail
   clear cx0 cx1 cx2 cx3 cx4
   generalize hgw : v6.alloc (.cells #[.int .i64 kx, .int .i64 nx, .string mx, .slice x1 x2 x3, .slice x4 x5 x6] 25) = v7 at *
   clear hgw
   replace HRt := mvR hbq HLt HRt
   replace HLt := mvL hbq HLt
   replace HTt := mvT hbq HTt
   replace HTx := mvT hbq HTx
   replace HC := mvC hbq HC
   have HRx := Lib.hid hrx
   have HLx := Lib.hid hlx
   clear hbq hrx hlx
   generalize hgb : v6.heap.size = Bx at *
   clear hgb
   refine (inst_v Nm.rightB (subT (raF (len : Int) 0) Tt 0) _ A len cap ts _ HTx.out (nm_ra (len : Int) 0 Tt 0 HMt.out) (tsP_below HC.out HTS.out) HN.out hl47 HNM.out (HCN.out.below HC.out) true HBK.out.1).mono ?_
   intro e v8 hret
   obtain ⟨ky, ny, my, y1, y2, y3, y4, y5, y6, rfl, hbq, hX⟩ := bret_any hret
   clear hret
   replace HRt := mvR hbq HLt HRt
   replace HLt := mvL hbq HLt
   replace HRx := mvR hbq HLx HRx
   replace HLx := mvL hbq HLx
   replace HTt := mvT hbq HTt
   replace HTx := mvT hbq HTx
   replace HC := mvC hbq HC
   have HTy := Lib.hid (hX.out rfl)
   clear hbq hX
   rw [HBK.out.2] at HTy
   have hbq := below_lit v8 (.cells #[.int .i64 ky, .int .i64 ny, .string my, .slice y1 y2 y3, .slice y4 y5 y6] 25)
   have hrx := heap_alloc_new v8 (.cells #[.int .i64 ky, .int .i64 ny, .string my, .slice y1 y2 y3, .slice y4 y5 y6] 25)
   have hlx : v8.heap.size < (v8.alloc (.cells #[.int .i64 ky, .int .i64 ny, .string my, .slice y1 y2 y3, .slice y4 y5 y6] 25)).heap.size := by simp
   obtain ⟨cy0, cy1, cy2, cy3, cy4⟩ := five_cells hrx
   obtain ⟨ct0, ct1, ct2, ct3, ct4⟩ := five_cells ((hbq.block _ HLt.out).trans HRt.out)
   go_wp2_with fail
   clear cy0 cy1 cy2 cy3 cy4 ct0 ct1 ct2 ct3 ct4
   generalize hgw : v8.alloc (.cells #[.int .i64 ky, .int .i64 ny, .string my, .slice y1 y2 y3, .slice y4 y5 y6] 25) = v9 at *
   clear hgw
   replace HRt := mvR hbq HLt HRt
   replace HLt := mvL hbq HLt
   replace HRx := mvR hbq HLx HRx
   replace HLx := mvL hbq HLx
   replace HTt := mvT hbq HTt
   replace HTx := mvT hbq HTx
   replace HTy := mvT hbq HTy
   replace HC := mvC hbq HC
   have HRy := Lib.hid hrx
   have HLy := Lib.hid hlx
   clear hbq hrx hlx
   generalize hgb : v8.heap.size = By at *
   clear hgb
   refine (sameTerm_is Tt _ _ _ HTy.out HTt.out).mono ?_
   rintro e v10 ⟨rfl, hbq⟩
   replace HRt := mvR hbq HLt HRt
   replace HLt := mvL hbq HLt
   replace HRx := mvR hbq HLx HRx
   replace HLx := mvL hbq HLx
   replace HRy := mvR hbq HLy HRy
   replace HLy := mvL hbq HLy
   replace HTt := mvT hbq HTt
   replace HTx := mvT hbq HTx
   replace HTy := mvT hbq HTy
   replace HC := mvC hbq HC
   clear hbq
   by_cases c0 : c < 0
   ·have d1 : decide (c < 0) = true := by simp; omega
    go_wp2_with fail
    go_ret
    exact ⟨rfl, HC.out⟩
   have d1 : decide (c < 0) = false := by simp; omega
   by_cases c1 : 1000 < c
   ·have d2 : decide (1000 < c) = true := by simp; omega
    go_wp2_with fail
    go_ret
    exact ⟨rfl, HC.out⟩
   have d2 : decide (1000 < c) = false := by simp; omega
   by_cases c2 : d < 0
   ·have d3 : decide (d < 0) = true := by simp; omega
    go_wp2_with fail
    go_ret
    exact ⟨rfl, HC.out⟩
   have d3 : decide (d < 0) = false := by simp; omega
   by_cases c3 : 1000 < d
   ·have d4 : decide (1000 < d) = true := by simp; omega
    go_wp2_with fail
    go_ret
    exact ⟨rfl, HC.out⟩
   have d4 : decide (1000 < d) = false := by simp; omega
   obtain ⟨D, hD⟩ : ∃ q, c + d = q := ⟨_, rfl⟩
   have HWD := Lib.hid (wrI hD (by omega) (by omega))
   have HKD := Lib.hid hD
   have HLP := Lib.hid (lift_ok (c := c) (by omega) (by omega) HQt.out)
   have HXP := Lib.hid (raise_ok (c := c) (by omega) (by omega) HQt.out (by rw [HRR.out]; have := HRS.out; omega))
   have HLO := Lib.hid (low_ok (c := c) (by omega) (by omega) HQt.out (by rw [HRR.out]; exact HRS.out))
   have HLR := Lib.hid (lift_ok (c := d) (by omega) (by omega) HXP.out)
   have HLS := Lib.hid (lift_ok (c := D) (by omega) (by omega) HQt.out)
   have HSQ : Hid (subT (raF (-c) c) (subT (raF c 0) Tt 0) 0 = Tt) := Lib.hid (by
    obtain ⟨_, _, k1⟩ := rightT_ok HQt.out
    exact lower_raise c (by omega) k1)
   have HSR : Hid (subT (raF d 0) (subT (raF c 0) Tt 0) 0 = subT (raF D 0) Tt 0) := Lib.hid (by
    obtain ⟨_, _, k1⟩ := rightT_ok HQt.out
    rw [← HKD.out]
    exact raise_raise c d (by omega) k1)
   obtain ⟨RP, hRP⟩ : ∃ q, looseR (subT (raF c 0) Tt 0) = q := ⟨_, rfl⟩
   have hrp := raise_lo (c := c) (by omega) (by omega) HQt.out (by rw [HRR.out]; exact HRS.out)
   rw [HRR.out, hRP, ← back_mul (c := c) (by omega) HR9.out] at hrp
   obtain ⟨S1, hS1⟩ : ∃ q, R + c = q := ⟨_, rfl⟩
   obtain ⟨M1, hM1⟩ : ∃ q, max S1 0 = q := ⟨_, rfl⟩
   obtain ⟨M2, hM2⟩ : ∃ q, min R 1 = q := ⟨_, rfl⟩
   rw [hS1, hM1, hM2] at hrp
   have hRP9 := looseR_le (x := subT (raF c 0) Tt 0)
   rw [hRP] at hRP9
   have HW1 := Lib.hid (wrI hS1 (by have := HR9.out; omega) (by have := HRS.out; omega))
   have HW2 := Lib.hid (wrI hrp.symm (by omega) (by omega))
   have HM1 := Lib.hid hM1
   have HM2 := Lib.hid hM2
   have HRP := Lib.hid hRP
   clear hD hRP hrp hS1 hM1 hM2 hRP9 c0 c1 c2 c3
   obtain ⟨ct0, ct1, ct2, ct3, ct4⟩ := five_cells HRt.out
   go_wp2_with fail
   clear ct0 ct1 ct2 ct3 ct4
   clear d1 d2 d3 d4
   refine (lift_v Nm.rightB c 0 Tt _ _ HTt.out HMt.out (HCN.out.below HC.out) true HLP.out).mono ?_
   intro e v11 hret
   obtain ⟨kp, np, mp, p1, p2, p3, p4, p5, p6, rfl, hbq, hX⟩ := bret_any hret
   clear hret
   replace HRt := mvR hbq HLt HRt
   replace HLt := mvL hbq HLt
   replace HRx := mvR hbq HLx HRx
   replace HLx := mvL hbq HLx
   replace HRy := mvR hbq HLy HRy
   replace HLy := mvL hbq HLy
   replace HTt := mvT hbq HTt
   replace HTx := mvT hbq HTx
   replace HTy := mvT hbq HTy
   replace HC := mvC hbq HC
   have HTp := Lib.hid (hX.out rfl)
   clear hbq hX
   have hbq := below_lit v11 (.cells #[.int .i64 kp, .int .i64 np, .string mp, .slice p1 p2 p3, .slice p4 p5 p6] 25)
   have hrx := heap_alloc_new v11 (.cells #[.int .i64 kp, .int .i64 np, .string mp, .slice p1 p2 p3, .slice p4 p5 p6] 25)
   have hlx : v11.heap.size < (v11.alloc (.cells #[.int .i64 kp, .int .i64 np, .string mp, .slice p1 p2 p3, .slice p4 p5 p6] 25)).heap.size := by simp
   obtain ⟨cp0, cp1, cp2, cp3, cp4⟩ := five_cells hrx
   go_wp2_with fail
   clear cp0 cp1 cp2 cp3 cp4
   generalize hgw : v11.alloc (.cells #[.int .i64 kp, .int .i64 np, .string mp, .slice p1 p2 p3, .slice p4 p5 p6] 25) = v12 at *
   clear hgw
   replace HRt := mvR hbq HLt HRt
   replace HLt := mvL hbq HLt
   replace HRx := mvR hbq HLx HRx
   replace HLx := mvL hbq HLx
   replace HRy := mvR hbq HLy HRy
   replace HLy := mvL hbq HLy
   replace HTt := mvT hbq HTt
   replace HTx := mvT hbq HTx
   replace HTy := mvT hbq HTy
   replace HTp := mvT hbq HTp
   replace HC := mvC hbq HC
   have HRp := Lib.hid hrx
   have HLp := Lib.hid hlx
   clear hbq hrx hlx
   generalize hgb : v11.heap.size = Bp at *
   clear hgb
   refine (lower_v Nm.rightB c (subT (raF c 0) Tt 0) _ _ HTp.out (nm_ra c 0 Tt 0 HMt.out) (HCN.out.below HC.out) true HLO.out).mono ?_
   intro e v13 hret
   obtain ⟨kq, nq, mq, q1, q2, q3, q4, q5, q6, rfl, hbq, hX⟩ := bret_any hret
   clear hret
   replace HRt := mvR hbq HLt HRt
   replace HLt := mvL hbq HLt
   replace HRx := mvR hbq HLx HRx
   replace HLx := mvL hbq HLx
   replace HRy := mvR hbq HLy HRy
   replace HLy := mvL hbq HLy
   replace HRp := mvR hbq HLp HRp
   replace HLp := mvL hbq HLp
   replace HTt := mvT hbq HTt
   replace HTx := mvT hbq HTx
   replace HTy := mvT hbq HTy
   replace HTp := mvT hbq HTp
   replace HC := mvC hbq HC
   have HTq := Lib.hid (hX.out rfl)
   clear hbq hX
   rw [HSQ.out] at HTq
   have hbq := below_lit v13 (.cells #[.int .i64 kq, .int .i64 nq, .string mq, .slice q1 q2 q3, .slice q4 q5 q6] 25)
   have hrx := heap_alloc_new v13 (.cells #[.int .i64 kq, .int .i64 nq, .string mq, .slice q1 q2 q3, .slice q4 q5 q6] 25)
   have hlx : v13.heap.size < (v13.alloc (.cells #[.int .i64 kq, .int .i64 nq, .string mq, .slice q1 q2 q3, .slice q4 q5 q6] 25)).heap.size := by simp
   obtain ⟨cp0, cp1, cp2, cp3, cp4⟩ := five_cells ((hbq.block _ HLp.out).trans HRp.out)
   go_wp2_with fail
   clear cp0 cp1 cp2 cp3 cp4
   generalize hgw : v13.alloc (.cells #[.int .i64 kq, .int .i64 nq, .string mq, .slice q1 q2 q3, .slice q4 q5 q6] 25) = v14 at *
   clear hgw
   replace HRt := mvR hbq HLt HRt
   replace HLt := mvL hbq HLt
   replace HRx := mvR hbq HLx HRx
   replace HLx := mvL hbq HLx
   replace HRy := mvR hbq HLy HRy
   replace HLy := mvL hbq HLy
   replace HRp := mvR hbq HLp HRp
   replace HLp := mvL hbq HLp
   replace HTt := mvT hbq HTt
   replace HTx := mvT hbq HTx
   replace HTy := mvT hbq HTy
   replace HTp := mvT hbq HTp
   replace HTq := mvT hbq HTq
   replace HC := mvC hbq HC
   have HRq := Lib.hid hrx
   have HLq := Lib.hid hlx
   clear hbq hrx hlx
   generalize hgb : v13.heap.size = Bq at *
   clear hgb
   refine (lift_v Nm.rightB d 0 (subT (raF c 0) Tt 0) _ _ HTp.out (nm_ra c 0 Tt 0 HMt.out) (HCN.out.below HC.out) true HLR.out).mono ?_
   intro e v15 hret
   obtain ⟨kr, nr, mr, r1, r2, r3, r4, r5, r6, rfl, hbq, hX⟩ := bret_any hret
   clear hret
   replace HRt := mvR hbq HLt HRt
   replace HLt := mvL hbq HLt
   replace HRx := mvR hbq HLx HRx
   replace HLx := mvL hbq HLx
   replace HRy := mvR hbq HLy HRy
   replace HLy := mvL hbq HLy
   replace HRp := mvR hbq HLp HRp
   replace HLp := mvL hbq HLp
   replace HRq := mvR hbq HLq HRq
   replace HLq := mvL hbq HLq
   replace HTt := mvT hbq HTt
   replace HTx := mvT hbq HTx
   replace HTy := mvT hbq HTy
   replace HTp := mvT hbq HTp
   replace HTq := mvT hbq HTq
   replace HC := mvC hbq HC
   have HTr := Lib.hid (hX.out rfl)
   clear hbq hX
   rw [HSR.out] at HTr
   obtain ⟨w1, w2⟩ := HWD.out
   have hbq := below_lit v15 (.cells #[.int .i64 kr, .int .i64 nr, .string mr, .slice r1 r2 r3, .slice r4 r5 r6] 25)
   have hrx := heap_alloc_new v15 (.cells #[.int .i64 kr, .int .i64 nr, .string mr, .slice r1 r2 r3, .slice r4 r5 r6] 25)
   have hlx : v15.heap.size < (v15.alloc (.cells #[.int .i64 kr, .int .i64 nr, .string mr, .slice r1 r2 r3, .slice r4 r5 r6] 25)).heap.size := by simp
   obtain ⟨ct0, ct1, ct2, ct3, ct4⟩ := five_cells ((hbq.block _ HLt.out).trans HRt.out)
   go_wp2_with fail
   clear ct0 ct1 ct2 ct3 ct4
   generalize hgw : v15.alloc (.cells #[.int .i64 kr, .int .i64 nr, .string mr, .slice r1 r2 r3, .slice r4 r5 r6] 25) = v16 at *
   clear hgw
   replace HRt := mvR hbq HLt HRt
   replace HLt := mvL hbq HLt
   replace HRx := mvR hbq HLx HRx
   replace HLx := mvL hbq HLx
   replace HRy := mvR hbq HLy HRy
   replace HLy := mvL hbq HLy
   replace HRp := mvR hbq HLp HRp
   replace HLp := mvL hbq HLp
   replace HRq := mvR hbq HLq HRq
   replace HLq := mvL hbq HLq
   replace HTt := mvT hbq HTt
   replace HTx := mvT hbq HTx
   replace HTy := mvT hbq HTy
   replace HTp := mvT hbq HTp
   replace HTq := mvT hbq HTq
   replace HTr := mvT hbq HTr
   replace HC := mvC hbq HC
   have HRr := Lib.hid hrx
   have HLr := Lib.hid hlx
   clear hbq hrx hlx
   generalize hgb : v15.heap.size = Br at *
   clear hgb
   clear w1 w2
   refine (lift_v Nm.rightB D 0 Tt _ _ HTt.out HMt.out (HCN.out.below HC.out) true HLS.out).mono ?_
   intro e v17 hret
   obtain ⟨ks, ns, ms, s1, s2, s3, s4, s5, s6, rfl, hbq, hX⟩ := bret_any hret
   clear hret
   replace HRt := mvR hbq HLt HRt
   replace HLt := mvL hbq HLt
   replace HRx := mvR hbq HLx HRx
   replace HLx := mvL hbq HLx
   replace HRy := mvR hbq HLy HRy
   replace HLy := mvL hbq HLy
   replace HRp := mvR hbq HLp HRp
   replace HLp := mvL hbq HLp
   replace HRq := mvR hbq HLq HRq
   replace HLq := mvL hbq HLq
   replace HRr := mvR hbq HLr HRr
   replace HLr := mvL hbq HLr
   replace HTt := mvT hbq HTt
   replace HTx := mvT hbq HTx
   replace HTy := mvT hbq HTy
   replace HTp := mvT hbq HTp
   replace HTq := mvT hbq HTq
   replace HTr := mvT hbq HTr
   replace HC := mvC hbq HC
   have HTs := Lib.hid (hX.out rfl)
   clear hbq hX
   have hbq := below_lit v17 (.cells #[.int .i64 ks, .int .i64 ns, .string ms, .slice s1 s2 s3, .slice s4 s5 s6] 25)
   have hrx := heap_alloc_new v17 (.cells #[.int .i64 ks, .int .i64 ns, .string ms, .slice s1 s2 s3, .slice s4 s5 s6] 25)
   have hlx : v17.heap.size < (v17.alloc (.cells #[.int .i64 ks, .int .i64 ns, .string ms, .slice s1 s2 s3, .slice s4 s5 s6] 25)).heap.size := by simp
   go_upto_region 20 with fail
   generalize hgw : v17.alloc (.cells #[.int .i64 ks, .int .i64 ns, .string ms, .slice s1 s2 s3, .slice s4 s5 s6] 25) = v18 at *
   clear hgw
   replace HRt := mvR hbq HLt HRt
   replace HLt := mvL hbq HLt
   replace HRx := mvR hbq HLx HRx
   replace HLx := mvL hbq HLx
   replace HRy := mvR hbq HLy HRy
   replace HLy := mvL hbq HLy
   replace HRp := mvR hbq HLp HRp
   replace HLp := mvL hbq HLp
   replace HRq := mvR hbq HLq HRq
   replace HLq := mvL hbq HLq
   replace HRr := mvR hbq HLr HRr
   replace HLr := mvL hbq HLr
   replace HTt := mvT hbq HTt
   replace HTx := mvT hbq HTx
   replace HTy := mvT hbq HTy
   replace HTp := mvT hbq HTp
   replace HTq := mvT hbq HTq
   replace HTr := mvT hbq HTr
   replace HTs := mvT hbq HTs
   replace HC := mvC hbq HC
   have HRs := Lib.hid hrx
   have HLs := Lib.hid hlx
   clear hbq hrx hlx
   generalize hgb : v17.heap.size = Bs at *
   clear hgb
   have hk : Hid (∀ W', Below v18.heap.size v18 W' → W'.cell? ⟨Bp, 0, none⟩ = some (.int .i64 kp) ∧ W'.cell? ⟨Bp, 1, none⟩ = some (.int .i64 np) ∧ W'.cell? ⟨Bp, 2, none⟩ = some (.string mp) ∧ W'.cell? ⟨Bp, 3, none⟩ = some (.slice p1 p2 p3) ∧ W'.cell? ⟨Bp, 4, none⟩ = some (.slice p4 p5 p6) ∧ W'.cell? ⟨Bq, 0, none⟩ = some (.int .i64 kq) ∧ W'.cell? ⟨Bq, 1, none⟩ = some (.int .i64 nq) ∧ W'.cell? ⟨Bq, 2, none⟩ = some (.string mq) ∧ W'.cell? ⟨Bq, 3, none⟩ = some (.slice q1 q2 q3) ∧ W'.cell? ⟨Bq, 4, none⟩ = some (.slice q4 q5 q6) ∧ W'.cell? ⟨Br, 0, none⟩ = some (.int .i64 kr) ∧ W'.cell? ⟨Br, 1, none⟩ = some (.int .i64 nr) ∧ W'.cell? ⟨Br, 2, none⟩ = some (.string mr) ∧ W'.cell? ⟨Br, 3, none⟩ = some (.slice r1 r2 r3) ∧ W'.cell? ⟨Br, 4, none⟩ = some (.slice r4 r5 r6) ∧ W'.cell? ⟨Bs, 0, none⟩ = some (.int .i64 ks) ∧ W'.cell? ⟨Bs, 1, none⟩ = some (.int .i64 ns) ∧ W'.cell? ⟨Bs, 2, none⟩ = some (.string ms) ∧ W'.cell? ⟨Bs, 3, none⟩ = some (.slice s1 s2 s3) ∧ W'.cell? ⟨Bs, 4, none⟩ = some (.slice s4 s5 s6) ∧ W'.cell? ⟨w.heap.size, 0, none⟩ = some (.int .i64 kt) ∧ W'.cell? ⟨w.heap.size, 1, none⟩ = some (.int .i64 nt) ∧ W'.cell? ⟨w.heap.size, 2, none⟩ = some (.string mt) ∧ W'.cell? ⟨w.heap.size, 3, none⟩ = some (.slice t1 t2 t3) ∧ W'.cell? ⟨w.heap.size, 4, none⟩ = some (.slice t4 t5 t6)) := fun W' h => by
    obtain ⟨qp0, qp1, qp2, qp3, qp4⟩ := five_cells ((h.block _ HLp.out).trans HRp.out)
    obtain ⟨qq0, qq1, qq2, qq3, qq4⟩ := five_cells ((h.block _ HLq.out).trans HRq.out)
    obtain ⟨qr0, qr1, qr2, qr3, qr4⟩ := five_cells ((h.block _ HLr.out).trans HRr.out)
    obtain ⟨qs0, qs1, qs2, qs3, qs4⟩ := five_cells ((h.block _ HLs.out).trans HRs.out)
    obtain ⟨qt0, qt1, qt2, qt3, qt4⟩ := five_cells ((h.block _ HLt.out).trans HRt.out)
    exact ⟨qp0, qp1, qp2, qp3, qp4, qq0, qq1, qq2, qq3, qq4, qr0, qr1, qr2, qr3, qr4, qs0, qs1, qs2, qs3, qs4, qt0, qt1, qt2, qt3, qt4⟩
   refine wp_region_held_drew (S := fun W' => W'.cell? ⟨Bp, 0, none⟩ = some (.int .i64 kp) ∧ W'.cell? ⟨Bp, 1, none⟩ = some (.int .i64 np) ∧ W'.cell? ⟨Bp, 2, none⟩ = some (.string mp) ∧ W'.cell? ⟨Bp, 3, none⟩ = some (.slice p1 p2 p3) ∧ W'.cell? ⟨Bp, 4, none⟩ = some (.slice p4 p5 p6) ∧ W'.cell? ⟨Bq, 0, none⟩ = some (.int .i64 kq) ∧ W'.cell? ⟨Bq, 1, none⟩ = some (.int .i64 nq) ∧ W'.cell? ⟨Bq, 2, none⟩ = some (.string mq) ∧ W'.cell? ⟨Bq, 3, none⟩ = some (.slice q1 q2 q3) ∧ W'.cell? ⟨Bq, 4, none⟩ = some (.slice q4 q5 q6) ∧ W'.cell? ⟨Br, 0, none⟩ = some (.int .i64 kr) ∧ W'.cell? ⟨Br, 1, none⟩ = some (.int .i64 nr) ∧ W'.cell? ⟨Br, 2, none⟩ = some (.string mr) ∧ W'.cell? ⟨Br, 3, none⟩ = some (.slice r1 r2 r3) ∧ W'.cell? ⟨Br, 4, none⟩ = some (.slice r4 r5 r6) ∧ W'.cell? ⟨Bs, 0, none⟩ = some (.int .i64 ks) ∧ W'.cell? ⟨Bs, 1, none⟩ = some (.int .i64 ns) ∧ W'.cell? ⟨Bs, 2, none⟩ = some (.string ms) ∧ W'.cell? ⟨Bs, 3, none⟩ = some (.slice s1 s2 s3) ∧ W'.cell? ⟨Bs, 4, none⟩ = some (.slice s4 s5 s6) ∧ W'.cell? ⟨w.heap.size, 0, none⟩ = some (.int .i64 kt) ∧ W'.cell? ⟨w.heap.size, 1, none⟩ = some (.int .i64 nt) ∧ W'.cell? ⟨w.heap.size, 2, none⟩ = some (.string mt) ∧ W'.cell? ⟨w.heap.size, 3, none⟩ = some (.slice t1 t2 t3) ∧ W'.cell? ⟨w.heap.size, 4, none⟩ = some (.slice t4 t5 t6)) (by kernel_rfl) (hk.out _ ((Below.refl _ _).drew)) (fun hHeld => ?_)
   have HV := Lib.hid ((Below.refl v18.heap.size v18).drew)
   have hbq := HV.out
   replace HRt := mvR hbq HLt HRt
   replace HLt := mvL hbq HLt
   replace HRx := mvR hbq HLx HRx
   replace HLx := mvL hbq HLx
   replace HRy := mvR hbq HLy HRy
   replace HLy := mvL hbq HLy
   replace HRp := mvR hbq HLp HRp
   replace HLp := mvL hbq HLp
   replace HRq := mvR hbq HLq HRq
   replace HLq := mvL hbq HLq
   replace HRr := mvR hbq HLr HRr
   replace HLr := mvL hbq HLr
   replace HRs := mvR hbq HLs HRs
   replace HLs := mvL hbq HLs
   replace HTt := mvT hbq HTt
   replace HTx := mvT hbq HTx
   replace HTy := mvT hbq HTy
   replace HTp := mvT hbq HTp
   replace HTq := mvT hbq HTq
   replace HTr := mvT hbq HTr
   replace HTs := mvT hbq HTs
   replace HC := mvC hbq HC
   clear hbq
   generalize v18.drew = v19 at *
   refine take_in (i := 0) (v := ?_) rfl (by kernel_rfl) (by kernel_rfl) (by kernel_rfl) (fun _ _ _ h => h) (by rfl) ?_ hHeld ?_
   rotate_left
   ·intro w hSw
    (try dsimp only at hSw)
    go_simp
    try with_reducible rfl
   try simp only [Act.put, s1q, s2q, s3q]
   refine take_in (i := 1) (v := ?_) rfl (by kernel_rfl) (by kernel_rfl) (by kernel_rfl) (fun _ _ _ h => h) (by rfl) ?_ hHeld ?_
   rotate_left
   ·intro w hSw
    (try dsimp only at hSw)
    go_simp
    try with_reducible rfl
   try simp only [Act.put, s1q, s2q, s3q]
   refine take_in (i := 2) (v := ?_) rfl (by kernel_rfl) (by kernel_rfl) (by kernel_rfl) (fun _ _ _ h => h) (by rfl) ?_ hHeld ?_
   rotate_left
   ·intro w hSw
    (try dsimp only at hSw)
    go_simp
    try with_reducible rfl
   try simp only [Act.put, s1q, s2q, s3q]
   refine take_in (i := 3) (v := ?_) rfl (by kernel_rfl) (by kernel_rfl) (by kernel_rfl) (fun _ _ _ h => h) (by rfl) ?_ hHeld ?_
   rotate_left
   ·intro w hSw
    (try dsimp only at hSw)
    go_simp
    try with_reducible rfl
   try simp only [Act.put, s1q, s2q, s3q]
   refine take_in (i := 4) (v := ?_) rfl (by kernel_rfl) (by kernel_rfl) (by kernel_rfl) (fun _ _ _ h => h) (by rfl) ?_ hHeld ?_
   rotate_left
   ·intro w hSw
    (try dsimp only at hSw)
    go_simp
    try with_reducible rfl
   try simp only [Act.put, s1q, s2q, s3q]
   refine take_in (i := 5) (v := ?_) rfl (by kernel_rfl) (by kernel_rfl) (by kernel_rfl) (fun _ _ _ h => h) (by rfl) ?_ hHeld ?_
   rotate_left
   ·intro w hSw
    (try dsimp only at hSw)
    go_simp
    try with_reducible rfl
   try simp only [Act.put, s1q, s2q, s3q]
   refine take_in (i := 6) (v := ?_) rfl (by kernel_rfl) (by kernel_rfl) (by kernel_rfl) (fun _ _ _ h => h) (by rfl) ?_ hHeld ?_
   rotate_left
   ·intro w hSw
    (try dsimp only at hSw)
    go_simp
    try with_reducible rfl
   try simp only [Act.put, s1q, s2q, s3q]
   refine take_in (i := 7) (v := ?_) rfl (by kernel_rfl) (by kernel_rfl) (by kernel_rfl) (fun _ _ _ h => h) (by rfl) ?_ hHeld ?_
   rotate_left
   ·intro w hSw
    (try dsimp only at hSw)
    go_simp
    try with_reducible rfl
   try simp only [Act.put, s1q, s2q, s3q]
   refine take_in (i := 8) (v := ?_) rfl (by kernel_rfl) (by kernel_rfl) (by kernel_rfl) (fun _ _ _ h => h) (by rfl) ?_ hHeld ?_
   rotate_left
   ·intro w hSw
    (try dsimp only at hSw)
    go_simp
    try with_reducible rfl
   try simp only [Act.put, s1q, s2q, s3q]
   refine take_in (i := 9) (v := ?_) rfl (by kernel_rfl) (by kernel_rfl) (by kernel_rfl) (fun _ _ _ h => h) (by rfl) ?_ hHeld ?_
   rotate_left
   ·intro w hSw
    (try dsimp only at hSw)
    go_simp
    try with_reducible rfl
   try simp only [Act.put, s1q, s2q, s3q]
   refine take_in (i := 10) (v := ?_) rfl (by kernel_rfl) (by kernel_rfl) (by kernel_rfl) (fun _ _ _ h => h) (by rfl) ?_ hHeld ?_
   rotate_left
   ·intro w hSw
    (try dsimp only at hSw)
    go_simp
    try with_reducible rfl
   try simp only [Act.put, s1q, s2q, s3q]
   refine take_in (i := 11) (v := ?_) rfl (by kernel_rfl) (by kernel_rfl) (by kernel_rfl) (fun _ _ _ h => h) (by rfl) ?_ hHeld ?_
   rotate_left
   ·intro w hSw
    (try dsimp only at hSw)
    go_simp
    try with_reducible rfl
   try simp only [Act.put, s1q, s2q, s3q]
   refine take_in (i := 12) (v := ?_) rfl (by kernel_rfl) (by kernel_rfl) (by kernel_rfl) (fun _ _ _ h => h) (by rfl) ?_ hHeld ?_
   rotate_left
   ·intro w hSw
    (try dsimp only at hSw)
    go_simp
    try with_reducible rfl
   try simp only [Act.put, s1q, s2q, s3q]
   refine call_in (i := 13) rfl (by kernel_rfl) (fun K hK => ?_)
   clear hHeld
   go_simp
   refine (sameTerm_is Tt _ _ _ HTq.out HTt.out).mono ?_
   rintro e v20 ⟨rfl, hbq⟩
   replace HRt := mvR hbq HLt HRt
   replace HLt := mvL hbq HLt
   replace HRx := mvR hbq HLx HRx
   replace HLx := mvL hbq HLx
   replace HRy := mvR hbq HLy HRy
   replace HLy := mvL hbq HLy
   replace HRp := mvR hbq HLp HRp
   replace HLp := mvL hbq HLp
   replace HRq := mvR hbq HLq HRq
   replace HLq := mvL hbq HLq
   replace HRr := mvR hbq HLr HRr
   replace HLr := mvL hbq HLr
   replace HRs := mvR hbq HLs HRs
   replace HLs := mvL hbq HLs
   replace HTt := mvT hbq HTt
   replace HTx := mvT hbq HTx
   replace HTy := mvT hbq HTy
   replace HTp := mvT hbq HTp
   replace HTq := mvT hbq HTq
   replace HTr := mvT hbq HTr
   replace HTs := mvT hbq HTs
   replace HC := mvC hbq HC
   replace HV := mvC hbq HV
   clear hbq
   try (go_wp2_with fail)
   refine hK.out _ _ (hk.out _ HV.out) (fun hHeld => ?_)
   clear hK K
   try simp only [Act.put, s1q, s2q, s3q]
   refine take_in (i := 14) (v := ?_) rfl (by kernel_rfl) (by kernel_rfl) (by kernel_rfl) (fun _ _ _ h => h) (by rfl) ?_ hHeld ?_
   rotate_left
   ·intro w hSw
    (try dsimp only at hSw)
    go_simp
    try with_reducible rfl
   try simp only [Act.put, s1q, s2q, s3q]
   refine take_in (i := 15) (v := ?_) rfl (by kernel_rfl) (by kernel_rfl) (by kernel_rfl) (fun _ _ _ h => h) (by rfl) ?_ hHeld ?_
   rotate_left
   ·intro w hSw
    (try dsimp only at hSw)
    go_simp
    try with_reducible rfl
   try simp only [Act.put, s1q, s2q, s3q]
   refine take_in (i := 16) (v := ?_) rfl (by kernel_rfl) (by kernel_rfl) (by kernel_rfl) (fun _ _ _ h => h) (by rfl) ?_ hHeld ?_
   rotate_left
   ·intro w hSw
    (try dsimp only at hSw)
    go_simp
    try with_reducible rfl
   try simp only [Act.put, s1q, s2q, s3q]
   refine take_in (i := 17) (v := ?_) rfl (by kernel_rfl) (by kernel_rfl) (by kernel_rfl) (fun _ _ _ h => h) (by rfl) ?_ hHeld ?_
   rotate_left
   ·intro w hSw
    (try dsimp only at hSw)
    go_simp
    try with_reducible rfl
   try simp only [Act.put, s1q, s2q, s3q]
   refine call_in (i := 18) rfl (by kernel_rfl) (fun K hK => ?_)
   clear hHeld
   go_simp
   refine (sameTerm_is (subT (raF D 0) Tt 0) _ _ _ HTr.out HTs.out).mono ?_
   rintro e v21 ⟨rfl, hbq⟩
   replace HRt := mvR hbq HLt HRt
   replace HLt := mvL hbq HLt
   replace HRx := mvR hbq HLx HRx
   replace HLx := mvL hbq HLx
   replace HRy := mvR hbq HLy HRy
   replace HLy := mvL hbq HLy
   replace HRp := mvR hbq HLp HRp
   replace HLp := mvL hbq HLp
   replace HRq := mvR hbq HLq HRq
   replace HLq := mvL hbq HLq
   replace HRr := mvR hbq HLr HRr
   replace HLr := mvL hbq HLr
   replace HRs := mvR hbq HLs HRs
   replace HLs := mvL hbq HLs
   replace HTt := mvT hbq HTt
   replace HTx := mvT hbq HTx
   replace HTy := mvT hbq HTy
   replace HTp := mvT hbq HTp
   replace HTq := mvT hbq HTq
   replace HTr := mvT hbq HTr
   replace HTs := mvT hbq HTs
   replace HC := mvC hbq HC
   replace HV := mvC hbq HV
   clear hbq
   try (go_wp2_with fail)
   refine hK.out _ _ (hk.out _ HV.out) (fun hHeld => ?_)
   clear hK K
   try simp only [Act.put, s1q, s2q, s3q]
   refine take_in (i := 19) (v := ?_) rfl (by kernel_rfl) (by kernel_rfl) (by kernel_rfl) (fun _ _ _ h => h) (by rfl) ?_ hHeld ?_
   rotate_left
   ·intro w hSw
    (try dsimp only at hSw)
    go_simp
    try with_reducible rfl
   try simp only [Act.put, s1q, s2q, s3q]
   refine take_in (i := 20) (v := ?_) rfl (by kernel_rfl) (by kernel_rfl) (by kernel_rfl) (fun _ _ _ h => h) (by rfl) ?_ hHeld ?_
   rotate_left
   ·intro w hSw
    (try dsimp only at hSw)
    go_simp
    try with_reducible rfl
   try simp only [Act.put, s1q, s2q, s3q]
   refine take_in (i := 21) (v := ?_) rfl (by kernel_rfl) (by kernel_rfl) (by kernel_rfl) (fun _ _ _ h => h) (by rfl) ?_ hHeld ?_
   rotate_left
   ·intro w hSw
    (try dsimp only at hSw)
    go_simp
    try with_reducible rfl
   try simp only [Act.put, s1q, s2q, s3q]
   refine take_in (i := 23) (v := ?_) rfl (by kernel_rfl) (by kernel_rfl) (by kernel_rfl) (fun _ _ _ h => h) (by rfl) ?_ hHeld ?_
   rotate_left
   ·intro w hSw
    (try dsimp only at hSw)
    go_simp
    try with_reducible rfl
   try simp only [Act.put, s1q, s2q, s3q]
   refine take_in (i := 25) (v := ?_) rfl (by kernel_rfl) (by kernel_rfl) (by kernel_rfl) (fun _ _ _ h => h) (by rfl) ?_ hHeld ?_
   rotate_left
   ·intro w hSw
    (try dsimp only at hSw)
    go_simp
    try with_reducible rfl
   try simp only [Act.put, s1q, s2q, s3q]
   refine take_in (i := 28) (v := ?_) rfl (by kernel_rfl) (by kernel_rfl) (by kernel_rfl) (fun _ _ _ h => h) (by rfl) ?_ hHeld ?_
   rotate_left
   ·intro w hSw
    (try dsimp only at hSw)
    go_simp
    try with_reducible rfl
   try simp only [Act.put, s1q, s2q, s3q]
   refine call_in (i := 22) rfl (by kernel_rfl) (fun K hK => ?_)
   clear hHeld
   go_simp
   refine (refLoose_free (subT (raF c 0) Tt 0) _ _ HTp.out (nm_ra c 0 Tt 0 HMt.out) RP HRP.out).mono ?_
   rintro e v22 ⟨rfl, hbq⟩
   replace HRt := mvR hbq HLt HRt
   replace HLt := mvL hbq HLt
   replace HRx := mvR hbq HLx HRx
   replace HLx := mvL hbq HLx
   replace HRy := mvR hbq HLy HRy
   replace HLy := mvL hbq HLy
   replace HRp := mvR hbq HLp HRp
   replace HLp := mvL hbq HLp
   replace HRq := mvR hbq HLq HRq
   replace HLq := mvL hbq HLq
   replace HRr := mvR hbq HLr HRr
   replace HLr := mvL hbq HLr
   replace HRs := mvR hbq HLs HRs
   replace HLs := mvL hbq HLs
   replace HTt := mvT hbq HTt
   replace HTx := mvT hbq HTx
   replace HTy := mvT hbq HTy
   replace HTp := mvT hbq HTp
   replace HTq := mvT hbq HTq
   replace HTr := mvT hbq HTr
   replace HTs := mvT hbq HTs
   replace HC := mvC hbq HC
   replace HV := mvC hbq HV
   clear hbq
   try (go_wp2_with fail)
   refine hK.out _ _ (hk.out _ HV.out) (fun hHeld => ?_)
   clear hK K
   try simp only [Act.put, s1q, s2q, s3q]
   refine call_in (i := 24) rfl (by kernel_rfl) (fun K hK => ?_)
   clear hHeld
   go_simp
   refine (refLoose_free Tt _ _ HTt.out HMt.out R HRR.out).mono ?_
   rintro e v23 ⟨rfl, hbq⟩
   replace HRt := mvR hbq HLt HRt
   replace HLt := mvL hbq HLt
   replace HRx := mvR hbq HLx HRx
   replace HLx := mvL hbq HLx
   replace HRy := mvR hbq HLy HRy
   replace HLy := mvL hbq HLy
   replace HRp := mvR hbq HLp HRp
   replace HLp := mvL hbq HLp
   replace HRq := mvR hbq HLq HRq
   replace HLq := mvL hbq HLq
   replace HRr := mvR hbq HLr HRr
   replace HLr := mvL hbq HLr
   replace HRs := mvR hbq HLs HRs
   replace HLs := mvL hbq HLs
   replace HTt := mvT hbq HTt
   replace HTx := mvT hbq HTx
   replace HTy := mvT hbq HTy
   replace HTp := mvT hbq HTp
   replace HTq := mvT hbq HTq
   replace HTr := mvT hbq HTr
   replace HTs := mvT hbq HTs
   replace HC := mvC hbq HC
   replace HV := mvC hbq HV
   clear hbq
   try (go_wp2_with fail)
   refine hK.out _ _ (hk.out _ HV.out) (fun hHeld => ?_)
   clear hK K
   try simp only [Act.put, s1q, s2q, s3q]
   obtain ⟨w1, w2⟩ := HW1.out
   obtain ⟨w3, w4⟩ := HW2.out
   have o1 := HM1.out
   have o2 := HM2.out
   refine take_in (i := 26) (v := ?_) rfl (by kernel_rfl) (by kernel_rfl) (by kernel_rfl) (fun _ _ _ h => h) (by rfl) ?_ hHeld ?_
   rotate_left
   ·intro w hSw
    (try dsimp only at hSw)
    go_simp
    try with_reducible rfl
   try simp only [Act.put, s1q, s2q, s3q]
   refine take_in (i := 27) (v := ?_) rfl (by kernel_rfl) (by kernel_rfl) (by kernel_rfl) (fun _ _ _ h => h) (by rfl) ?_ hHeld ?_
   rotate_left
   ·intro w hSw
    (try dsimp only at hSw)
    go_simp
    try with_reducible rfl
   try simp only [Act.put, s1q, s2q, s3q]
   refine call_in (i := 29) rfl (by kernel_rfl) (fun K hK => ?_)
   clear hHeld
   go_simp
   refine (refLoose_free Tt _ _ HTt.out HMt.out R HRR.out).mono ?_
   rintro e v24 ⟨rfl, hbq⟩
   replace HRt := mvR hbq HLt HRt
   replace HLt := mvL hbq HLt
   replace HRx := mvR hbq HLx HRx
   replace HLx := mvL hbq HLx
   replace HRy := mvR hbq HLy HRy
   replace HLy := mvL hbq HLy
   replace HRp := mvR hbq HLp HRp
   replace HLp := mvL hbq HLp
   replace HRq := mvR hbq HLq HRq
   replace HLq := mvL hbq HLq
   replace HRr := mvR hbq HLr HRr
   replace HLr := mvL hbq HLr
   replace HRs := mvR hbq HLs HRs
   replace HLs := mvL hbq HLs
   replace HTt := mvT hbq HTt
   replace HTx := mvT hbq HTx
   replace HTy := mvT hbq HTy
   replace HTp := mvT hbq HTp
   replace HTq := mvT hbq HTq
   replace HTr := mvT hbq HTr
   replace HTs := mvT hbq HTs
   replace HC := mvC hbq HC
   replace HV := mvC hbq HV
   clear hbq
   try (go_wp2_with fail)
   refine hK.out _ _ (hk.out _ HV.out) (fun hHeld => ?_)
   clear hK K
   try simp only [Act.put, s1q, s2q, s3q]
   refine take_in (i := 30) (v := ?_) rfl (by kernel_rfl) (by kernel_rfl) (by kernel_rfl) (fun _ _ _ h => h) (by rfl) ?_ hHeld ?_
   rotate_left
   ·intro w hSw
    (try dsimp only at hSw)
    go_simp
    try with_reducible rfl
   try simp only [Act.put, s1q, s2q, s3q]
   refine take_in (i := 31) (v := ?_) rfl (by kernel_rfl) (by kernel_rfl) (by kernel_rfl) (fun _ _ _ h => h) (by rfl) ?_ hHeld ?_
   rotate_left
   ·intro w hSw
    (try dsimp only at hSw)
    go_simp
    try with_reducible rfl
   try simp only [Act.put, s1q, s2q, s3q]
   have hee : (RP == RP) = true := by simp
   refine take_in (i := 32) (v := ?_) rfl (by kernel_rfl) (by kernel_rfl) (by kernel_rfl) (fun _ _ _ h => h) (by rfl) ?_ hHeld ?_
   rotate_left
   ·intro w hSw
    (try dsimp only at hSw)
    go_simp
    try with_reducible rfl
   try simp only [Act.put, s1q, s2q, s3q]
   refine take_in (i := 33) (v := ?_) rfl (by kernel_rfl) (by kernel_rfl) (by kernel_rfl) (fun _ _ _ h => h) (by rfl) ?_ hHeld ?_
   rotate_left
   ·intro w hSw
    (try dsimp only at hSw)
    go_simp
    try with_reducible rfl
   try simp only [Act.put, s1q, s2q, s3q]
   refine take_in (i := 34) (v := ?_) rfl (by kernel_rfl) (by kernel_rfl) (by kernel_rfl) (fun _ _ _ h => h) (by rfl) ?_ hHeld ?_
   rotate_left
   ·intro w hSw
    (try dsimp only at hSw)
    go_simp
    try with_reducible rfl
   try simp only [Act.put, s1q, s2q, s3q]
   refine wpAnyH_done (by kernel_rfl) ?_ _
   clear HV hk
   go_wp2_with fail
   go_ret
   exact ⟨rfl, HC.out⟩
end Bnd
end Go.Proofs.YteomfakbbcpckaaGreatDoor
