/-
 The laws' helper leveled: does a constant of a name stand with levels in a term?
 Conditions: the term lies in memory as told by 'TmV'.
-/
import Derived.Test.YteomfakbbcpckaaGreatDoorJ25
import Derived.Test.YteomfakbbcpckaaGreatDoorJ04
import Derived.Test.YteomfakbbcpckaaGreatDoorJ21
namespace Go.Proofs.YteomfakbbcpckaaGreatDoor
open Go.RowKit
open Lvl
open Trm
namespace Bnd
theorem levCL_take (nm : ByteArray) : ∀ {ts : List Tm} {j : Nat} (h : j < ts.length), levCL nm (ts.take (j + 1)) = (levCL nm (ts.take j) || levC nm ts[j])
 | a :: ts, 0, _ => by simp [levCL]
 | a :: ts, j + 1, h => by
  have := levCL_take nm (ts := ts) (j := j) (by simpa using h)
  simp only [List.take_succ_cons, levCL, List.getElem_cons_succ, this, Bool.or_assoc]
theorem levCL_mem (nm : ByteArray) {a : Tm} : ∀ {ts : List Tm}, a ∈ ts → levC nm a = true → levCL nm ts = true
 | b :: ts, hm, h => by
  rw [levCL]
  rcases List.mem_cons.1 hm with rfl | hm
  ·rw [h, Bool.true_or]
  ·rw [levCL_mem nm hm h, Bool.or_true]
set_option maxRecDepth 100000 in
set_option maxHeartbeats 1000000 in
theorem leveled_up (nm : ByteArray) : ∀ (N : Nat) (t : Tm) (v : Value) (w : World) (b : Bool), tnodes t ≤ N → TmV w t v → levC nm t = b →
  Calls Tryz.prog 22 #[v, .string nm] w (Ret w (.bool b)) := by
 intro N
 induction N with
 | zero => intro t v w b h _ _; have := tnodes_pos t; omega
 | succ N ih =>
 intro t v w b hN hv hb0
 obtain ⟨l, s, rfl, ht⟩ := hv
 obtain ⟨⟨la, ll, lc, rfl⟩, sa, sl, sc, rfl⟩ := tmP_slices ht
 cases t with
 | mk k n m ls ts =>
 rw [TmP] at ht
 obtain ⟨hlv, A', len', cap', e9, hlen, hlc', hl47, hnone, hts⟩ := ht
 cases e9
 have h2 := lvS_of _ _ hlv
 rw [LvS] at h2
 obtain ⟨C, lcn, cc, e8, hll, _, hll47, _, hls⟩ := h2
 cases e8
 rw [tnodes] at hN
 rw [levC] at hb0
 have IH := Lib.hid ih
 have HTS := Lib.hid hts
 have HLEN := Lib.hid hlen
 have HLL := Lib.hid hll
 have HBB := Lib.hid hb0
 have HTN : Hid (tnodesL ts ≤ N) := by
  have : tnodesL ts ≤ N := by omega
  exact this
 show Calls _ _ #[.agg #[.int .i64 k, .int .i64 n, .string m, .slice la ll lc, .slice sa sl sc], .string nm] w _
 clear ih hts hls hlen hll hlv hN hb0 hnone hlc'
 by_cases hk : k = 3
 ·have hk3 : (k == 3) = true := by simp [hk]
  by_cases hm : m = nm
  ·have he : (m.toList == nm.toList) = true := by rw [bytes_eqb, decide_eq_true hm]
   by_cases hl : 0 < ll
   ·have hd : decide ((ll : Int) > 0) = true := by simp; omega
    have hd2 : decide ((0 : Int) < (ll : Int)) = true := by simp; omega
    have hbt : true = b := by
     rw [← HBB.out, decide_eq_true hk, decide_eq_true hm, decide_eq_true (by rw [HLL.out]; exact hl : 0 < ls.length)]
     rfl
    subst hbt
    clear hm hk
    have z1 : (w.alloc (.cells #[.int .i64 k, .int .i64 n, .string m, .slice la ll lc, .slice sa sl sc] 25)).heap.size = w.heap.size + 1 := by simp
    have r0 : (w.alloc (.cells #[.int .i64 k, .int .i64 n, .string m, .slice la ll lc, .slice sa sl sc] 25)).heap[w.heap.size]? = some (Obj.cells #[.int .i64 k, .int .i64 n, .string m, .slice la ll lc, .slice sa sl sc] 25 (0, 0)) := by
     have := heap_alloc_new w (.cells #[.int .i64 k, .int .i64 n, .string m, .slice la ll lc, .slice sa sl sc] 25)
     exact this
    have HB := Lib.hid (below_lit w (.cells #[.int .i64 k, .int .i64 n, .string m, .slice la ll lc, .slice sa sl sc] 25))
    have HR0 := Lib.hid (r0)
    clear r0
    have HZ := Lib.hid z1
    clear z1
    obtain ⟨a0, a1, a2, a3, a4⟩ := five_cells HR0.out
    go_enter Tryz.func22, Tryz.ntmps22
    go_wp2_with fail
    generalize (w.alloc (.cells #[.int .i64 k, .int .i64 n, .string m, .slice la ll lc, .slice sa sl sc] 25)) = W at *
    go_ret
    exact ⟨rfl, HB.out⟩
   ·have hd : decide ((ll : Int) > 0) = false := by simp; omega
    have hd2 : decide ((0 : Int) < (ll : Int)) = false := by simp; omega
    have HNO : Hid ((decide (k = 3) && decide (m = nm) && decide (0 < ls.length)) = false) := by
     have : (decide (k = 3) && decide (m = nm) && decide (0 < ls.length)) = false := by rw [decide_eq_false (by rw [HLL.out]; exact hl : ¬ 0 < ls.length), Bool.and_false]
     exact this
    clear hm hk
    have z1 : (w.alloc (.cells #[.int .i64 k, .int .i64 n, .string m, .slice la ll lc, .slice sa sl sc] 25)).heap.size = w.heap.size + 1 := by simp
    have r0 : (w.alloc (.cells #[.int .i64 k, .int .i64 n, .string m, .slice la ll lc, .slice sa sl sc] 25)).heap[w.heap.size]? = some (Obj.cells #[.int .i64 k, .int .i64 n, .string m, .slice la ll lc, .slice sa sl sc] 25 (0, 0)) := by
     have := heap_alloc_new w (.cells #[.int .i64 k, .int .i64 n, .string m, .slice la ll lc, .slice sa sl sc] 25)
     exact this
    have HB := Lib.hid (below_lit w (.cells #[.int .i64 k, .int .i64 n, .string m, .slice la ll lc, .slice sa sl sc] 25))
    have HR0 := Lib.hid (r0)
    clear r0
    have HZ := Lib.hid z1
    clear z1
    obtain ⟨a0, a1, a2, a3, a4⟩ := five_cells HR0.out
    go_enter Tryz.func22, Tryz.ntmps22
    go_wp2_with fail
    generalize (w.alloc (.cells #[.int .i64 k, .int .i64 n, .string m, .slice la ll lc, .slice sa sl sc] 25)) = W at *
    clear a0 a1 a2 a3 a4
    have hsz1 := HZ.out
    have hw0 : w.heap.size < W.heap.size := by omega
    go_loopw [5] (fun i wr => ∃ j : Nat, j ≤ sl ∧ i = .int .i64 j ∧ Hid (levCL nm (ts.take j) = false) ∧ Hid (Below W.heap.size W wr)) (fun i _ => sl - (intOf i).toNat)
    case atStart => exact ⟨0, Nat.zero_le _, rfl, (by have : levCL nm (ts.take 0) = false := (by rw [List.take_zero, levCL]); exact this), Below.refl _ _⟩
    case round =>
     obtain ⟨j, hj, rfl, hc, hb⟩ := hrel
     have HBW := hb
     obtain ⟨a0, a1, a2, a3, a4⟩ := five_cells ((hb.out.block w.heap.size hw0).trans HR0.out)
     by_cases hlt : j < sl
     ·have hx1 : j < ts.length := by rw [HLEN.out]; exact hlt
      have hln : decide ((j : Int) < (sl : Int)) = true := by simp; omega
      obtain ⟨bk, o, l1, s1, eA, hbs, _, hc0, hc1, hc2, hc3, hc4, htm⟩ := tsP_get HTS.out j hx1
      subst eA
      obtain ⟨⟨xa, xl, xc, rfl⟩, ya, yl, yc, rfl⟩ := tmP_slices htm
      have hBw := HB.out.trans (hb.out.mono HB.out.size)
      have d0 := (hBw.cell (p := ⟨bk, _, none⟩) hbs).trans hc0
      have d1 := (hBw.cell (p := ⟨bk, _, none⟩) hbs).trans hc1
      have d2 := (hBw.cell (p := ⟨bk, _, none⟩) hbs).trans hc2
      have d3 := (hBw.cell (p := ⟨bk, _, none⟩) hbs).trans hc3
      have d4 := (hBw.cell (p := ⟨bk, _, none⟩) hbs).trans hc4
      obtain ⟨bj, hbj⟩ : ∃ q, levC nm ts[j] = q := ⟨_, rfl⟩
      have hcall := IH.out ts[j] (tv ts[j] (.slice xa xl xc) (.slice ya yl yc)) wr bj (Nat.le_trans (tnodes_mem (List.getElem_mem hx1)) HTN.out) ⟨_, _, rfl, tmP_below hBw htm⟩ hbj
      have HCALL := Lib.hid hcall
      dsimp only [tv] at HCALL
      have HT9 : Hid (bj = false → levCL nm (ts.take (j + 1)) = false) := by
       have : bj = false → levCL nm (ts.take (j + 1)) = false := fun h => by rw [levCL_take nm hx1, hc.out, hbj, h]; rfl
       exact this
      have HT8 : Hid (bj = true → b = true) := by
       have : bj = true → b = true := fun h => by rw [← HBB.out, levCL_mem nm (List.getElem_mem hx1) (hbj.trans h), Bool.or_true]
       exact this
      have q1 : (0 : Int) ≤ (j : Int) := by omega
      have q2 : (j : Int) < (sl : Int) := by omega
      generalize tkOf ts[j] = ka at *
      generalize tnOf ts[j] = na at *
      generalize tmOf ts[j] = ma at *
      clear hcall hc0 hc1 hc2 hc3 hc4 htm hBw hbj
      cases bj with
      | true =>
       have h8 := HT8.out rfl
       subst h8
       go_wp2_with fail
       refine HCALL.out.mono ?_
       rintro e w2 ⟨rfl, hb2⟩
       have HBW2 := Lib.hid (HBW.out.trans (hb2.mono HBW.out.size))
       clear hb2
       go_wp2_with fail
       go_ret
       exact ⟨rfl, HB.out.trans (HBW2.out.mono HB.out.size)⟩
      | false =>
       have h9 := Lib.hid (HT9.out rfl)
       go_wp2_with fail
       refine HCALL.out.mono ?_
       rintro e w2 ⟨rfl, hb2⟩
       have HBW2 := Lib.hid (HBW.out.trans (hb2.mono HBW.out.size))
       clear hb2
       go_wp2_with fail
       go_roundw
       case rel => exact ⟨j + 1, by omega, by go_num, h9.out, HBW2.out⟩
       case measure => simp [intOf]; omega
     ·obtain rfl : sl = j := by omega
      have hln : decide ((sl : Int) < (sl : Int)) = false := by simp
      have h7 : false = b := by
       have h1 := hc.out
       rw [List.take_of_length_le (by rw [HLEN.out]; exact Nat.le_refl _)] at h1
       rw [← HBB.out, h1, HNO.out]
       rfl
      subst h7
      go_wp2_with fail
      go_ret
      exact ⟨rfl, HB.out.trans (hb.out.mono HB.out.size)⟩
  ·have he : (m.toList == nm.toList) = false := by rw [bytes_eqb, decide_eq_false hm]
   have HNO : Hid ((decide (k = 3) && decide (m = nm) && decide (0 < ls.length)) = false) := by
    have : (decide (k = 3) && decide (m = nm) && decide (0 < ls.length)) = false := by rw [decide_eq_false hm, Bool.and_false, Bool.false_and]
    exact this
   clear hm hk
   have z1 : (w.alloc (.cells #[.int .i64 k, .int .i64 n, .string m, .slice la ll lc, .slice sa sl sc] 25)).heap.size = w.heap.size + 1 := by simp
   have r0 : (w.alloc (.cells #[.int .i64 k, .int .i64 n, .string m, .slice la ll lc, .slice sa sl sc] 25)).heap[w.heap.size]? = some (Obj.cells #[.int .i64 k, .int .i64 n, .string m, .slice la ll lc, .slice sa sl sc] 25 (0, 0)) := by
    have := heap_alloc_new w (.cells #[.int .i64 k, .int .i64 n, .string m, .slice la ll lc, .slice sa sl sc] 25)
    exact this
   have HB := Lib.hid (below_lit w (.cells #[.int .i64 k, .int .i64 n, .string m, .slice la ll lc, .slice sa sl sc] 25))
   have HR0 := Lib.hid (r0)
   clear r0
   have HZ := Lib.hid z1
   clear z1
   obtain ⟨a0, a1, a2, a3, a4⟩ := five_cells HR0.out
   go_enter Tryz.func22, Tryz.ntmps22
   go_wp2_with fail
   generalize (w.alloc (.cells #[.int .i64 k, .int .i64 n, .string m, .slice la ll lc, .slice sa sl sc] 25)) = W at *
   clear a0 a1 a2 a3 a4
   have hsz1 := HZ.out
   have hw0 : w.heap.size < W.heap.size := by omega
   go_loopw [5] (fun i wr => ∃ j : Nat, j ≤ sl ∧ i = .int .i64 j ∧ Hid (levCL nm (ts.take j) = false) ∧ Hid (Below W.heap.size W wr)) (fun i _ => sl - (intOf i).toNat)
   case atStart => exact ⟨0, Nat.zero_le _, rfl, (by have : levCL nm (ts.take 0) = false := (by rw [List.take_zero, levCL]); exact this), Below.refl _ _⟩
   case round =>
    obtain ⟨j, hj, rfl, hc, hb⟩ := hrel
    have HBW := hb
    obtain ⟨a0, a1, a2, a3, a4⟩ := five_cells ((hb.out.block w.heap.size hw0).trans HR0.out)
    by_cases hlt : j < sl
    ·have hx1 : j < ts.length := by rw [HLEN.out]; exact hlt
     have hln : decide ((j : Int) < (sl : Int)) = true := by simp; omega
     obtain ⟨bk, o, l1, s1, eA, hbs, _, hc0, hc1, hc2, hc3, hc4, htm⟩ := tsP_get HTS.out j hx1
     subst eA
     obtain ⟨⟨xa, xl, xc, rfl⟩, ya, yl, yc, rfl⟩ := tmP_slices htm
     have hBw := HB.out.trans (hb.out.mono HB.out.size)
     have d0 := (hBw.cell (p := ⟨bk, _, none⟩) hbs).trans hc0
     have d1 := (hBw.cell (p := ⟨bk, _, none⟩) hbs).trans hc1
     have d2 := (hBw.cell (p := ⟨bk, _, none⟩) hbs).trans hc2
     have d3 := (hBw.cell (p := ⟨bk, _, none⟩) hbs).trans hc3
     have d4 := (hBw.cell (p := ⟨bk, _, none⟩) hbs).trans hc4
     obtain ⟨bj, hbj⟩ : ∃ q, levC nm ts[j] = q := ⟨_, rfl⟩
     have hcall := IH.out ts[j] (tv ts[j] (.slice xa xl xc) (.slice ya yl yc)) wr bj (Nat.le_trans (tnodes_mem (List.getElem_mem hx1)) HTN.out) ⟨_, _, rfl, tmP_below hBw htm⟩ hbj
     have HCALL := Lib.hid hcall
     dsimp only [tv] at HCALL
     have HT9 : Hid (bj = false → levCL nm (ts.take (j + 1)) = false) := by
      have : bj = false → levCL nm (ts.take (j + 1)) = false := fun h => by rw [levCL_take nm hx1, hc.out, hbj, h]; rfl
      exact this
     have HT8 : Hid (bj = true → b = true) := by
      have : bj = true → b = true := fun h => by rw [← HBB.out, levCL_mem nm (List.getElem_mem hx1) (hbj.trans h), Bool.or_true]
      exact this
     have q1 : (0 : Int) ≤ (j : Int) := by omega
     have q2 : (j : Int) < (sl : Int) := by omega
     generalize tkOf ts[j] = ka at *
     generalize tnOf ts[j] = na at *
     generalize tmOf ts[j] = ma at *
     clear hcall hc0 hc1 hc2 hc3 hc4 htm hBw hbj
     cases bj with
     | true =>
      have h8 := HT8.out rfl
      subst h8
      go_wp2_with fail
      refine HCALL.out.mono ?_
      rintro e w2 ⟨rfl, hb2⟩
      have HBW2 := Lib.hid (HBW.out.trans (hb2.mono HBW.out.size))
      clear hb2
      go_wp2_with fail
      go_ret
      exact ⟨rfl, HB.out.trans (HBW2.out.mono HB.out.size)⟩
     | false =>
      have h9 := Lib.hid (HT9.out rfl)
      go_wp2_with fail
      refine HCALL.out.mono ?_
      rintro e w2 ⟨rfl, hb2⟩
      have HBW2 := Lib.hid (HBW.out.trans (hb2.mono HBW.out.size))
      clear hb2
      go_wp2_with fail
      go_roundw
      case rel => exact ⟨j + 1, by omega, by go_num, h9.out, HBW2.out⟩
      case measure => simp [intOf]; omega
    ·obtain rfl : sl = j := by omega
     have hln : decide ((sl : Int) < (sl : Int)) = false := by simp
     have h7 : false = b := by
      have h1 := hc.out
      rw [List.take_of_length_le (by rw [HLEN.out]; exact Nat.le_refl _)] at h1
      rw [← HBB.out, h1, HNO.out]
      rfl
     subst h7
     go_wp2_with fail
     go_ret
     exact ⟨rfl, HB.out.trans (hb.out.mono HB.out.size)⟩
 ·have hk3 : (k == 3) = false := by simp [hk]
  have HNO : Hid ((decide (k = 3) && decide (m = nm) && decide (0 < ls.length)) = false) := by
   have : (decide (k = 3) && decide (m = nm) && decide (0 < ls.length)) = false := by rw [decide_eq_false hk, Bool.false_and, Bool.false_and]
   exact this
  clear hk
  have z1 : (w.alloc (.cells #[.int .i64 k, .int .i64 n, .string m, .slice la ll lc, .slice sa sl sc] 25)).heap.size = w.heap.size + 1 := by simp
  have r0 : (w.alloc (.cells #[.int .i64 k, .int .i64 n, .string m, .slice la ll lc, .slice sa sl sc] 25)).heap[w.heap.size]? = some (Obj.cells #[.int .i64 k, .int .i64 n, .string m, .slice la ll lc, .slice sa sl sc] 25 (0, 0)) := by
   have := heap_alloc_new w (.cells #[.int .i64 k, .int .i64 n, .string m, .slice la ll lc, .slice sa sl sc] 25)
   exact this
  have HB := Lib.hid (below_lit w (.cells #[.int .i64 k, .int .i64 n, .string m, .slice la ll lc, .slice sa sl sc] 25))
  have HR0 := Lib.hid (r0)
  clear r0
  have HZ := Lib.hid z1
  clear z1
  obtain ⟨a0, a1, a2, a3, a4⟩ := five_cells HR0.out
  go_enter Tryz.func22, Tryz.ntmps22
  go_wp2_with fail
  generalize (w.alloc (.cells #[.int .i64 k, .int .i64 n, .string m, .slice la ll lc, .slice sa sl sc] 25)) = W at *
  clear a0 a1 a2 a3 a4
  have hsz1 := HZ.out
  have hw0 : w.heap.size < W.heap.size := by omega
  go_loopw [5] (fun i wr => ∃ j : Nat, j ≤ sl ∧ i = .int .i64 j ∧ Hid (levCL nm (ts.take j) = false) ∧ Hid (Below W.heap.size W wr)) (fun i _ => sl - (intOf i).toNat)
  case atStart => exact ⟨0, Nat.zero_le _, rfl, (by have : levCL nm (ts.take 0) = false := (by rw [List.take_zero, levCL]); exact this), Below.refl _ _⟩
  case round =>
   obtain ⟨j, hj, rfl, hc, hb⟩ := hrel
   have HBW := hb
   obtain ⟨a0, a1, a2, a3, a4⟩ := five_cells ((hb.out.block w.heap.size hw0).trans HR0.out)
   by_cases hlt : j < sl
   ·have hx1 : j < ts.length := by rw [HLEN.out]; exact hlt
    have hln : decide ((j : Int) < (sl : Int)) = true := by simp; omega
    obtain ⟨bk, o, l1, s1, eA, hbs, _, hc0, hc1, hc2, hc3, hc4, htm⟩ := tsP_get HTS.out j hx1
    subst eA
    obtain ⟨⟨xa, xl, xc, rfl⟩, ya, yl, yc, rfl⟩ := tmP_slices htm
    have hBw := HB.out.trans (hb.out.mono HB.out.size)
    have d0 := (hBw.cell (p := ⟨bk, _, none⟩) hbs).trans hc0
    have d1 := (hBw.cell (p := ⟨bk, _, none⟩) hbs).trans hc1
    have d2 := (hBw.cell (p := ⟨bk, _, none⟩) hbs).trans hc2
    have d3 := (hBw.cell (p := ⟨bk, _, none⟩) hbs).trans hc3
    have d4 := (hBw.cell (p := ⟨bk, _, none⟩) hbs).trans hc4
    obtain ⟨bj, hbj⟩ : ∃ q, levC nm ts[j] = q := ⟨_, rfl⟩
    have hcall := IH.out ts[j] (tv ts[j] (.slice xa xl xc) (.slice ya yl yc)) wr bj (Nat.le_trans (tnodes_mem (List.getElem_mem hx1)) HTN.out) ⟨_, _, rfl, tmP_below hBw htm⟩ hbj
    have HCALL := Lib.hid hcall
    dsimp only [tv] at HCALL
    have HT9 : Hid (bj = false → levCL nm (ts.take (j + 1)) = false) := by
     have : bj = false → levCL nm (ts.take (j + 1)) = false := fun h => by rw [levCL_take nm hx1, hc.out, hbj, h]; rfl
     exact this
    have HT8 : Hid (bj = true → b = true) := by
     have : bj = true → b = true := fun h => by rw [← HBB.out, levCL_mem nm (List.getElem_mem hx1) (hbj.trans h), Bool.or_true]
     exact this
    have q1 : (0 : Int) ≤ (j : Int) := by omega
    have q2 : (j : Int) < (sl : Int) := by omega
    generalize tkOf ts[j] = ka at *
    generalize tnOf ts[j] = na at *
    generalize tmOf ts[j] = ma at *
    clear hcall hc0 hc1 hc2 hc3 hc4 htm hBw hbj
    cases bj with
    | true =>
     have h8 := HT8.out rfl
     subst h8
     go_wp2_with fail
     refine HCALL.out.mono ?_
     rintro e w2 ⟨rfl, hb2⟩
     have HBW2 := Lib.hid (HBW.out.trans (hb2.mono HBW.out.size))
     clear hb2
     go_wp2_with fail
     go_ret
     exact ⟨rfl, HB.out.trans (HBW2.out.mono HB.out.size)⟩
    | false =>
     have h9 := Lib.hid (HT9.out rfl)
     go_wp2_with fail
     refine HCALL.out.mono ?_
     rintro e w2 ⟨rfl, hb2⟩
     have HBW2 := Lib.hid (HBW.out.trans (hb2.mono HBW.out.size))
     clear hb2
     go_wp2_with fail
     go_roundw
     case rel => exact ⟨j + 1, by omega, by go_num, h9.out, HBW2.out⟩
     case measure => simp [intOf]; omega
   ·obtain rfl : sl = j := by omega
    have hln : decide ((sl : Int) < (sl : Int)) = false := by simp
    have h7 : false = b := by
     have h1 := hc.out
     rw [List.take_of_length_le (by rw [HLEN.out]; exact Nat.le_refl _)] at h1
     rw [← HBB.out, h1, HNO.out]
     rfl
    subst h7
    go_wp2_with fail
    go_ret
    exact ⟨rfl, HB.out.trans (hb.out.mono HB.out.size)⟩
theorem leveled_is (nm : ByteArray) (t : Tm) (v : Value) (w : World) (hv : TmV w t v) (b : Bool) (hb : levC nm t = b) : Calls Tryz.prog 22 #[v, .string nm] w (Ret w (.bool b)) :=
 leveled_up nm (tnodes t) t v w b (Nat.le_refl _) hv hb
end Bnd
end Go.Proofs.YteomfakbbcpckaaGreatDoor
