/-
  Plain facts and contracts that the law's proof stands on, joined.
  Conditions: each fact's own.
-/
import Derived.Test.YteomfakbbcpckaaGreatDoorJ14
import Derived.Test.YteomfakbbcpckaaGreatDoorJ19
import Derived.Test.YteomfakbbcpckaaGreatDoorJ12
import Derived.Test.YteomfakbbcpckaaGreatDoorJ08
import Derived.Test.YteomfakbbcpckaaGreatDoorJ09
import Derived.Test.YteomfakbbcpckaaGreatDoorJ06
namespace Go.Proofs.YteomfakbbcpckaaGreatDoor
open Go.RowKit
open Lvl
namespace Trm
set_option maxRecDepth 100000 in
set_option maxHeartbeats 1000000 in
theorem refBinds_is (k : Int) (i : Nat) (w : World) (b : Bool) (hb : binds k i = b) : Calls Tryz.prog 63 #[.int .i64 k, .int .i64 i] w (Ret w (.bool b)) := by
 by_cases h5 : k = 5
 ·subst h5
  by_cases i1 : i = 1
  ·subst i1
   obtain rfl : b = true := by rw [← hb]; rfl
   clear hb
   go_enter Tryz.func63, Tryz.ntmps63
   go_wp2_with fail
   go_ret
   exact ⟨rfl, Below.refl _ _⟩
  ·obtain rfl : b = false := by rw [← hb]; simp [binds, i1]
   have d1 : ((i : Int) == 1) = false := by simp; omega
   clear hb
   go_enter Tryz.func63, Tryz.ntmps63
   go_wp2_with fail
   go_ret
   exact ⟨rfl, Below.refl _ _⟩
 by_cases h6 : k = 6
 ·subst h6
  by_cases i1 : i = 1
  ·subst i1
   obtain rfl : b = true := by rw [← hb]; rfl
   clear hb
   go_enter Tryz.func63, Tryz.ntmps63
   go_wp2_with fail
   go_ret
   exact ⟨rfl, Below.refl _ _⟩
  ·obtain rfl : b = false := by rw [← hb]; simp [binds, i1]
   have d1 : ((i : Int) == 1) = false := by simp; omega
   clear hb
   go_enter Tryz.func63, Tryz.ntmps63
   go_wp2_with fail
   go_ret
   exact ⟨rfl, Below.refl _ _⟩
 by_cases h7 : k = 7
 ·subst h7
  by_cases i2 : i = 2
  ·subst i2
   obtain rfl : b = true := by rw [← hb]; rfl
   clear hb
   go_enter Tryz.func63, Tryz.ntmps63
   go_wp2_with fail
   go_ret
   exact ⟨rfl, Below.refl _ _⟩
  ·obtain rfl : b = false := by rw [← hb]; simp [binds, i2]
   have d1 : ((i : Int) == 2) = false := by simp; omega
   clear hb
   go_enter Tryz.func63, Tryz.ntmps63
   go_wp2_with fail
   go_ret
   exact ⟨rfl, Below.refl _ _⟩
 obtain rfl : b = false := by rw [← hb]; simp [binds, h5, h6, h7]
 have d5 : (k == 5) = false := by simp; omega
 have d6 : (k == 6) = false := by simp; omega
 have d7 : (k == 7) = false := by simp; omega
 clear hb
 go_enter Tryz.func63, Tryz.ntmps63
 go_wp2_with fail
 go_ret
 exact ⟨rfl, Below.refl _ _⟩
theorem okTL_append (RN : ByteArray → Bool) (RL : Lv → Bool) (kd : Int) : ∀ (l r : List Tm) (i : Nat) (k : Int), okTL RN RL kd (l ++ r) i k = (okTL RN RL kd l i k && okTL RN RL kd r (i + l.length) k)
 | [], r, i, k => by rw [List.nil_append, okTL, Bool.true_and, List.length_nil, Nat.add_zero]
 | a :: l, r, i, k => by rw [List.cons_append, okTL, okTL, okTL_append RN RL kd l r, Bool.and_assoc, List.length_cons, show i + 1 + l.length = i + (l.length + 1) by omega]
theorem okTL_take (RN : ByteArray → Bool) (RL : Lv → Bool) (kd : Int) {ts : List Tm} {j : Nat} (h : j < ts.length) (k : Int) : okTL RN RL kd (ts.take (j + 1)) 0 k = (okTL RN RL kd (ts.take j) 0 k && okT RN RL ts[j] (under kd j k)) := by
 rw [List.take_add_one, List.getElem?_eq_getElem h, okTL_append, Nat.zero_add, List.length_take, Nat.min_eq_left (by omega)]
 simp [okTL]
theorem okTL_no (RN : ByteArray → Bool) (RL : Lv → Bool) (kd : Int) {ts : List Tm} {j : Nat} {k : Int} (h : okTL RN RL kd (ts.take j) 0 k = false) : okTL RN RL kd ts 0 k = false := by
 have := okTL_append RN RL kd (ts.take j) (ts.drop j) 0 k
 rw [List.take_append_drop] at this
 rw [this, h, Bool.false_and]
theorem all_take {RL : Lv → Bool} {ls : List Lv} {j : Nat} (h : j < ls.length) : (ls.take (j + 1)).all RL = ((ls.take j).all RL && RL ls[j]) := by
 rw [List.take_add_one, List.getElem?_eq_getElem h, List.all_append]
 simp
theorem all_no {RL : Lv → Bool} {ls : List Lv} {j : Nat} (hj : j < ls.length) (h : RL ls[j] = false) : ls.all RL = false := by
 rw [Bool.eq_false_iff]
 intro hall
 have := List.all_eq_true.1 hall ls[j] (List.getElem_mem hj)
 rw [h] at this
 cases this
set_option maxRecDepth 100000 in
set_option maxHeartbeats 4000000 in
theorem refRightT_up (nn : Int) : ∀ (N : Nat) (t : Tm) (v : Value) (kk : Int) (w : World) (b : Bool), tnodes t ≤ N → nmOk t → TmV w t v → 0 ≤ kk → kk + N ≤ 1125899907842624 → okT Nm.rightB (rightB nn) t kk = b →
  Calls Tryz.prog 62 #[v, .int .i64 nn, .int .i64 kk] w (Ret w (.bool b)) := by
 intro N
 induction N with
 | zero => intro t v kk w b h _ _ _ _ _; have := tnodes_pos t; omega
 | succ N ih =>
 intro t v kk w b hN hnm hv hk0 hk1 hb
 obtain ⟨l, s, rfl, ht⟩ := hv
 cases t with
 | mk k n m ls ts =>
 rw [TmP, LvP] at ht
 obtain ⟨⟨LA, ll, lc, rfl, l1, l2, l3, l4, l5⟩, A, len, cap, rfl, h1, h2, h2b, h3, h4⟩ := ht
 rw [nmOk] at hnm
 rw [okT] at hb
 have IH := Lib.hid ih
 have HLS := Lib.hid l5
 have HTS := Lib.hid h4
 have HLN := Lib.hid l1
 have HN := Lib.hid h1
 have HNM := Lib.hid hnm.2
 have hms := hnm.1
 have HV := Lib.hid hb
 have HNN : Hid (tnodesL ts ≤ N) := by
  rw [tnodes] at hN
  have : tnodesL ts ≤ N := by omega
  exact this
 clear h4 h1 h3 l5 l1 l4 hN ih hnm hb
 show Calls Tryz.prog 62 #[.agg #[.int .i64 k, .int .i64 n, .string m, .slice LA ll lc, .slice A len cap], .int .i64 nn, .int .i64 kk] w (Ret w (.bool b))
 go_enter Tryz.func62, Tryz.ntmps62
 go_wp2_with fail
 have z1 : (w.alloc (.cells #[.int .i64 k, .int .i64 n, .string m, .slice LA ll lc, .slice A len cap] 25)).heap.size = w.heap.size + 1 := by simp
 have r0 : (w.alloc (.cells #[.int .i64 k, .int .i64 n, .string m, .slice LA ll lc, .slice A len cap] 25)).heap[w.heap.size]? = some (Obj.cells #[.int .i64 k, .int .i64 n, .string m, .slice LA ll lc, .slice A len cap] 25 (0, 0)) := by
  have := heap_alloc_new w (.cells #[.int .i64 k, .int .i64 n, .string m, .slice LA ll lc, .slice A len cap] 25)
  exact this
 have HB := Lib.hid (below_lit w (.cells #[.int .i64 k, .int .i64 n, .string m, .slice LA ll lc, .slice A len cap] 25))
 have HR0 := Lib.hid (r0)
 clear r0
 generalize (w.alloc (.cells #[.int .i64 k, .int .i64 n, .string m, .slice LA ll lc, .slice A len cap] 25)) = W at *
 have HZ := Lib.hid z1
 clear z1
 have hz := HZ.out
 have hk : Hid (∀ W', Below W.heap.size W W' → W'.cell? ⟨w.heap.size, 0, none⟩ = some (.int .i64 k) ∧ W'.cell? ⟨w.heap.size, 1, none⟩ = some (.int .i64 n) ∧ W'.cell? ⟨w.heap.size, 2, none⟩ = some (.string m) ∧ W'.cell? ⟨w.heap.size, 3, none⟩ = some (.slice LA ll lc) ∧ W'.cell? ⟨w.heap.size, 4, none⟩ = some (.slice A len cap)) := fun W' h => five_cells ((h.block w.heap.size (by omega)).trans HR0.out)
 clear HR0
 go_loopw [7] (fun i wr => ∃ j : Nat, j ≤ ll ∧ i = .int .i64 j ∧ Hid ((ls.take j).all (rightB nn) = true) ∧ Hid (Below W.heap.size W wr)) (fun i _ => ll - (intOf i).toNat)
 case atStart => exact ⟨0, Nat.zero_le _, rfl, by rw [List.take_zero]; exact rfl, Below.refl _ _⟩
 case round =>
  obtain ⟨j, hj, rfl, hal, hgr⟩ := hrel
  obtain ⟨a0, a1, a2, a3, a4⟩ := hk.out wr hgr.out
  by_cases hlt : j < ll
  ·have hx1 : j < ls.length := by rw [HLN.out]; exact hlt
   have hln : decide ((j : Int) < (ll : Int)) = true := by simp; omega
   obtain ⟨bq, o, s, rfl, hbs, _, hc0, hc1, hc2, hls⟩ := lsP_get HLS.out j hx1
   have HB2 := Lib.hid (HB.out.trans (hgr.out.mono HB.out.size))
   have hc0 := (HB2.out.cell (p := ⟨bq, _, none⟩) hbs).trans hc0
   have hc1 := (HB2.out.cell (p := ⟨bq, _, none⟩) hbs).trans hc1
   have hc2 := (HB2.out.cell (p := ⟨bq, _, none⟩) hbs).trans hc2
   obtain ⟨br, hbr⟩ : ∃ b, rightB nn ls[j] = b := ⟨_, rfl⟩
   have HCALL := Lib.hid (refRight_any ls[j] (.agg #[.int .i64 (kindOf ls[j]), .int .i64 (numOf ls[j]), s]) nn wr ⟨s, rfl, lvS_below HB2.out _ _ (lvS_of _ _ hls)⟩ br hbr)
   have HBR := Lib.hid hbr
   have HAT := Lib.hid (all_take (RL := rightB nn) hx1)
   have HX1 := Lib.hid hx1
   have q1 : (0 : Int) ≤ (j : Int) := by omega
   have q2 : (j : Int) < (ll : Int) := by omega
   generalize kindOf ls[j] = ki at *
   generalize numOf ls[j] = nu at *
   clear hls hbr
   go_wp2_with fail
   refine HCALL.out.mono ?_
   rintro e w5 ⟨rfl, hb5⟩
   have HB5 := Lib.hid hb5
   clear hb5 a0 a1 a2 a3 a4 hc0 hc1 hc2
   cases br with
   | false =>
    have hbf : b = false := by
     rw [← HV.out]
     unfold shape
     rw [all_no HX1.out HBR.out, Bool.false_and, Bool.false_and]
    subst hbf
    go_wp2_with fail
    go_ret
    exact ⟨rfl, HB.out.trans ((hgr.out.trans (HB5.out.mono hgr.out.size)).mono HB.out.size)⟩
   | true =>
    have HAL : Hid ((ls.take (j + 1)).all (rightB nn) = true) := by
     have : (ls.take (j + 1)).all (rightB nn) = true := by rw [HAT.out, hal.out, HBR.out, Bool.and_self]
     exact this
    go_wp2_with fail
    go_roundw
    case rel => exact ⟨j + 1, by omega, by go_num, HAL.out, hgr.out.trans (HB5.out.mono hgr.out.size)⟩
    case measure => simp [intOf]; omega
  ·obtain rfl : j = ll := by omega
   have hln : decide ((j : Int) < (j : Int)) = false := by simp
   have HAL : Hid (ls.all (rightB nn) = true) := by
    have h1 := hal.out
    rw [List.take_of_length_le (by rw [HLN.out]; exact Nat.le_refl _)] at h1
    exact h1
   have HLL := Lib.hid HLN.out
   clear hal HLS HLN hln
   by_cases k1 : k = 1
   ·subst k1
    by_cases n0 : n < 0
    ·have d0 : decide (n < 0) = true := by simp; omega
     have hbf : b = false := by
      rw [← HV.out]
      have hl := HLL.out
      have ht := HN.out
      unfold shape
      simp [show ¬ 0 ≤ n by omega]
     subst hbf
     go_wp2_with fail
     go_ret
     exact ⟨rfl, HB.out.trans (hgr.out.mono HB.out.size)⟩
    have d0 : decide (n < 0) = false := by simp; omega
    by_cases n1 : kk ≤ n
    ·have d1 : decide (kk ≤ n) = true := by simp; omega
     have hbf : b = false := by
      rw [← HV.out]
      have hl := HLL.out
      have ht := HN.out
      unfold shape
      simp [show ¬ n < kk by omega]
     subst hbf
     go_wp2_with fail
     go_ret
     exact ⟨rfl, HB.out.trans (hgr.out.mono HB.out.size)⟩
    have d1 : decide (kk ≤ n) = false := by simp; omega
    by_cases hm0 : ¬ m.size = 0
    ·have hnm : m.toList.isEmpty = false := isEmpty_no hm0
     have hbf : b = false := by
      rw [← HV.out]
      have hl := HLL.out
      have ht := HN.out
      unfold shape
      simp [hm0]
     subst hbf
     go_wp2_with fail
     go_ret
     exact ⟨rfl, HB.out.trans (hgr.out.mono HB.out.size)⟩
    have hm0 := Classical.not_not.1 hm0
    have hnm : m.toList.isEmpty = true := isEmpty_yes hm0
    by_cases hl0 : ¬ j = 0
    ·have dl : ((j : Int) == 0) = false := by simp; omega
     have dl2 : ((j : Int) != 0) = true := by simp; omega
     have hbf : b = false := by
      rw [← HV.out]
      have hl := HLL.out
      have ht := HN.out
      unfold shape
      simp [hl, show ¬ j = 0 from hl0]
     subst hbf
     go_wp2_with fail
     go_ret
     exact ⟨rfl, HB.out.trans (hgr.out.mono HB.out.size)⟩
    have hl0 := Classical.not_not.1 hl0
    subst hl0
    by_cases ha0 : ¬ len = 0
    ·have da : ((len : Int) == 0) = false := by simp; omega
     have da2 : ((len : Int) != 0) = true := by simp; omega
     have hbf : b = false := by
      rw [← HV.out]
      have hl := HLL.out
      have ht := HN.out
      unfold shape
      simp [ht, show ¬ len = 0 from ha0]
     subst hbf
     go_wp2_with fail
     go_ret
     exact ⟨rfl, HB.out.trans (hgr.out.mono HB.out.size)⟩
    have ha0 := Classical.not_not.1 ha0
    subst ha0
    have hts : ts = [] := List.length_eq_zero_iff.1 HN.out
    have hbt : b = true := by
     have h2 := HAL.out
     have h3 := HLL.out
     rw [← HV.out, hts, okTL, Bool.and_true]
     unfold shape
     simp [h2, h3, show 0 ≤ n by omega, show n < kk by omega, hm0]
    subst hbt
    go_wp2_with fail
    generalize wr = W1 at *
    go_loopw [10] (fun i wr => i = .int .i64 0 ∧ Hid (Below W.heap.size W wr)) (fun _ _ => 0)
    case atStart => exact ⟨rfl, hgr.out⟩
    case round =>
     obtain ⟨rfl, hgr⟩ := hrel
     go_wp2_with fail
     go_ret
     exact ⟨rfl, HB.out.trans (hgr.out.mono HB.out.size)⟩
   by_cases k2 : k = 2
   ·subst k2
    by_cases hn : ¬ n = 0
    ·have dn : (n != 0) = true := by simp [hn]
     have dn2 : (!(n == 0)) = true := by simp [hn]
     have dn3 : (n == 0) = false := by simp [hn]
     have hbf : b = false := by
      rw [← HV.out]
      have hl := HLL.out
      have ht := HN.out
      unfold shape
      simp [hn]
     subst hbf
     go_wp2_with fail
     go_ret
     exact ⟨rfl, HB.out.trans (hgr.out.mono HB.out.size)⟩
    have hn := Classical.not_not.1 hn
    subst hn
    by_cases hm0 : ¬ m.size = 0
    ·have hnm : m.toList.isEmpty = false := isEmpty_no hm0
     have hbf : b = false := by
      rw [← HV.out]
      have hl := HLL.out
      have ht := HN.out
      unfold shape
      simp [hm0]
     subst hbf
     go_wp2_with fail
     go_ret
     exact ⟨rfl, HB.out.trans (hgr.out.mono HB.out.size)⟩
    have hm0 := Classical.not_not.1 hm0
    have hnm : m.toList.isEmpty = true := isEmpty_yes hm0
    by_cases hl0 : ¬ j = 1
    ·have dl : ((j : Int) == 1) = false := by simp; omega
     have dl2 : ((j : Int) != 1) = true := by simp; omega
     have hbf : b = false := by
      rw [← HV.out]
      have hl := HLL.out
      have ht := HN.out
      unfold shape
      simp [hl, show ¬ j = 1 from hl0]
     subst hbf
     go_wp2_with fail
     go_ret
     exact ⟨rfl, HB.out.trans (hgr.out.mono HB.out.size)⟩
    have hl0 := Classical.not_not.1 hl0
    subst hl0
    by_cases ha0 : ¬ len = 0
    ·have da : ((len : Int) == 0) = false := by simp; omega
     have da2 : ((len : Int) != 0) = true := by simp; omega
     have hbf : b = false := by
      rw [← HV.out]
      have hl := HLL.out
      have ht := HN.out
      unfold shape
      simp [ht, show ¬ len = 0 from ha0]
     subst hbf
     go_wp2_with fail
     go_ret
     exact ⟨rfl, HB.out.trans (hgr.out.mono HB.out.size)⟩
    have ha0 := Classical.not_not.1 ha0
    subst ha0
    have hts : ts = [] := List.length_eq_zero_iff.1 HN.out
    have hbt : b = true := by
     have h2 := HAL.out
     have h3 := HLL.out
     rw [← HV.out, hts, okTL, Bool.and_true]
     unfold shape
     simp [h2, h3, hm0]
    subst hbt
    go_wp2_with fail
    generalize wr = W1 at *
    go_loopw [10] (fun i wr => i = .int .i64 0 ∧ Hid (Below W.heap.size W wr)) (fun _ _ => 0)
    case atStart => exact ⟨rfl, hgr.out⟩
    case round =>
     obtain ⟨rfl, hgr⟩ := hrel
     go_wp2_with fail
     go_ret
     exact ⟨rfl, HB.out.trans (hgr.out.mono HB.out.size)⟩
   by_cases k3 : k = 3
   ·subst k3
    obtain ⟨bn, hbn⟩ : ∃ b, Nm.rightB m = b := ⟨_, rfl⟩
    have HBN := Lib.hid hbn
    have HCN := Lib.hid (refName_any m wr hms)
    rw [hbn] at HCN
    clear hbn
    go_wp2_with fail
    refine HCN.out.mono ?_
    rintro e w5 ⟨rfl, rfl⟩
    cases bn with
    | false =>
     have hbf : b = false := by
      rw [← HV.out]
      have hl := HLL.out
      have ht := HN.out
      unfold shape
      simp [HBN.out]
     subst hbf
     go_wp2_with fail
     go_ret
     exact ⟨rfl, HB.out.trans (hgr.out.mono HB.out.size)⟩
    | true =>
     by_cases h4 : 4 < j
     ·have d4 : decide ((4 : Int) < (j : Int)) = true := by simp; omega
      have hbf : b = false := by
       rw [← HV.out]
       have hl := HLL.out
       have ht := HN.out
       unfold shape
       simp [hl, show ¬ j ≤ 4 by omega]
      subst hbf
      go_wp2_with fail
      go_ret
      exact ⟨rfl, HB.out.trans (hgr.out.mono HB.out.size)⟩
     have d4 : decide ((4 : Int) < (j : Int)) = false := by simp; omega
     by_cases hn : ¬ n = 0
     ·have dn : (n != 0) = true := by simp [hn]
      have dn2 : (!(n == 0)) = true := by simp [hn]
      have dn3 : (n == 0) = false := by simp [hn]
      have hbf : b = false := by
       rw [← HV.out]
       have hl := HLL.out
       have ht := HN.out
       unfold shape
       simp [hn]
      subst hbf
      go_wp2_with fail
      go_ret
      exact ⟨rfl, HB.out.trans (hgr.out.mono HB.out.size)⟩
     have hn := Classical.not_not.1 hn
     subst hn
     by_cases ha0 : ¬ len = 0
     ·have da : ((len : Int) == 0) = false := by simp; omega
      have da2 : ((len : Int) != 0) = true := by simp; omega
      have hbf : b = false := by
       rw [← HV.out]
       have hl := HLL.out
       have ht := HN.out
       unfold shape
       simp [ht, show ¬ len = 0 from ha0]
      subst hbf
      go_wp2_with fail
      go_ret
      exact ⟨rfl, HB.out.trans (hgr.out.mono HB.out.size)⟩
     have ha0 := Classical.not_not.1 ha0
     subst ha0
     have hts : ts = [] := List.length_eq_zero_iff.1 HN.out
     have hbt : b = true := by
      have h2 := HAL.out
      have h3 := HLL.out
      rw [← HV.out, hts, okTL, Bool.and_true]
      unfold shape
      simp [h2, h3, HBN.out, show j ≤ 4 by omega]
     subst hbt
     go_wp2_with fail
     generalize wr = W1 at *
     go_loopw [10] (fun i wr => i = .int .i64 0 ∧ Hid (Below W.heap.size W wr)) (fun _ _ => 0)
     case atStart => exact ⟨rfl, hgr.out⟩
     case round =>
      obtain ⟨rfl, hgr⟩ := hrel
      go_wp2_with fail
      go_ret
      exact ⟨rfl, HB.out.trans (hgr.out.mono HB.out.size)⟩
   by_cases k4 : k = 4
   ·subst k4
    by_cases hn : ¬ n = 0
    ·have dn : (n != 0) = true := by simp [hn]
     have dn2 : (!(n == 0)) = true := by simp [hn]
     have dn3 : (n == 0) = false := by simp [hn]
     have hbf : b = false := by
      rw [← HV.out]
      have hl := HLL.out
      have ht := HN.out
      unfold shape
      simp [hn]
     subst hbf
     go_wp2_with fail
     go_ret
     exact ⟨rfl, HB.out.trans (hgr.out.mono HB.out.size)⟩
    have hn := Classical.not_not.1 hn
    subst hn
    by_cases hm0 : ¬ m.size = 0
    ·have hnm : m.toList.isEmpty = false := isEmpty_no hm0
     have hbf : b = false := by
      rw [← HV.out]
      have hl := HLL.out
      have ht := HN.out
      unfold shape
      simp [hm0]
     subst hbf
     go_wp2_with fail
     go_ret
     exact ⟨rfl, HB.out.trans (hgr.out.mono HB.out.size)⟩
    have hm0 := Classical.not_not.1 hm0
    have hnm : m.toList.isEmpty = true := isEmpty_yes hm0
    by_cases hl0 : ¬ j = 0
    ·have dl : ((j : Int) == 0) = false := by simp; omega
     have dl2 : ((j : Int) != 0) = true := by simp; omega
     have hbf : b = false := by
      rw [← HV.out]
      have hl := HLL.out
      have ht := HN.out
      unfold shape
      simp [hl, show ¬ j = 0 from hl0]
     subst hbf
     go_wp2_with fail
     go_ret
     exact ⟨rfl, HB.out.trans (hgr.out.mono HB.out.size)⟩
    have hl0 := Classical.not_not.1 hl0
    subst hl0
    by_cases ha0 : ¬ len = 2
    ·have da : ((len : Int) == 2) = false := by simp; omega
     have da2 : ((len : Int) != 2) = true := by simp; omega
     have hbf : b = false := by
      rw [← HV.out]
      have hl := HLL.out
      have ht := HN.out
      unfold shape
      simp [ht, show ¬ len = 2 from ha0]
     subst hbf
     go_wp2_with fail
     go_ret
     exact ⟨rfl, HB.out.trans (hgr.out.mono HB.out.size)⟩
    have ha0 := Classical.not_not.1 ha0
    subst ha0
    go_wp2_with fail
    generalize wr = W1 at *
    go_loopw [10] (fun i wr => ∃ j : Nat, j ≤ 2 ∧ i = .int .i64 j ∧ Hid (okTL Nm.rightB (rightB nn) 4 (ts.take j) 0 kk = true) ∧ Hid (Below W.heap.size W wr)) (fun i _ => 2 - (intOf i).toNat)
    case atStart => exact ⟨0, Nat.zero_le _, rfl, by rw [List.take_zero, okTL]; exact rfl, hgr.out⟩
    case round =>
     obtain ⟨j, hj, rfl, hal, hgr⟩ := hrel
     obtain ⟨a0, a1, a2, a3, a4⟩ := hk.out wr hgr.out
     by_cases hlt : j < 2
     ·have hx1 : j < ts.length := by rw [HN.out]; exact hlt
      have hln : decide ((j : Int) < 2) = true := by simp; omega
      obtain ⟨bq, o, l1, s1, rfl, hbs, _, hc0, hc1, hc2, hc3, hc4, htm⟩ := tsP_get HTS.out j hx1
      obtain ⟨⟨xa, xl, xc, rfl⟩, ya, yl, yc, rfl⟩ := tmP_slices htm
      have HB2 := Lib.hid (HB.out.trans (hgr.out.mono HB.out.size))
      obtain ⟨br, hbr⟩ : ∃ b, okT Nm.rightB (rightB nn) ts[j] (under 4 j kk) = b := ⟨_, rfl⟩
      have hcall := fun (w' : World) (hw : Below w.heap.size w w') => IH.out ts[j] (tv ts[j] (.slice xa xl xc) (.slice ya yl yc)) (under 4 j kk) w' br (Nat.le_trans (tnodes_mem (List.getElem_mem hx1)) HNN.out) (nmOkL_mem HNM.out (List.getElem_mem hx1)) ⟨_, _, rfl, tmP_below hw htm⟩ (by unfold under; split <;> omega) (by unfold under; split <;> omega) hbr
      have HCALL := Lib.hid hcall
      dsimp only [tv] at HCALL
      have HBR := Lib.hid hbr
      have HOT := Lib.hid (okTL_take Nm.rightB (rightB nn) 4 hx1 kk)
      have hke : Hid (∀ W', Below w.heap.size w W' → W'.cell? ⟨bq, o + j * 5, none⟩ = some (.int .i64 (tkOf ts[j])) ∧ W'.cell? ⟨bq, o + j * 5 + 1, none⟩ = some (.int .i64 (tnOf ts[j])) ∧ W'.cell? ⟨bq, o + j * 5 + 2, none⟩ = some (.string (tmOf ts[j])) ∧ W'.cell? ⟨bq, o + j * 5 + 3, none⟩ = some (.slice xa xl xc) ∧ W'.cell? ⟨bq, o + j * 5 + 4, none⟩ = some (.slice ya yl yc)) := fun W' h => ⟨(h.cell (p := ⟨bq, _, none⟩) hbs).trans hc0, (h.cell (p := ⟨bq, _, none⟩) hbs).trans hc1, (h.cell (p := ⟨bq, _, none⟩) hbs).trans hc2, (h.cell (p := ⟨bq, _, none⟩) hbs).trans hc3, (h.cell (p := ⟨bq, _, none⟩) hbs).trans hc4⟩
      have q1 : (0 : Int) ≤ (j : Int) := by omega
      have q2 : (j : Int) < 2 := by omega
      generalize tkOf ts[j] = ka at *
      generalize tnOf ts[j] = na at *
      generalize tmOf ts[j] = ma at *
      clear htm hcall hbr hc0 hc1 hc2 hc3 hc4
      obtain ⟨bb, hbb⟩ : ∃ b, binds 4 j = b := ⟨_, rfl⟩
      go_wp2_with fail
      refine (refBinds_is 4 j wr bb hbb).mono ?_
      rintro e w5 ⟨rfl, hb5⟩
      have HB5 := Lib.hid (hgr.out.trans (hb5.mono hgr.out.size))
      clear hb5 a0 a1 a2 a3 a4
      obtain ⟨a0, a1, a2, a3, a4⟩ := hk.out w5 HB5.out
      have HB6 := Lib.hid (HB.out.trans (HB5.out.mono HB.out.size))
      obtain ⟨e0, e1, e2, e3, e4⟩ := hke.out w5 HB6.out
      cases bb with
      | false =>
       have hu : under 4 j kk = kk := by unfold under; rw [hbb]; rfl
       rw [hu] at HCALL
       go_wp2_with fail
       refine (HCALL.out w5 HB6.out).mono ?_
       rintro e w7 ⟨rfl, hb7⟩
       have HB7 := Lib.hid (HB5.out.trans (hb7.mono HB5.out.size))
       clear hb7 a0 a1 a2 a3 a4 e0 e1 e2 e3 e4
       cases br with
       | false =>
        have hbf : b = false := by
         rw [← HV.out, okTL_no Nm.rightB (rightB nn) 4 (j := j + 1) (by rw [HOT.out, HBR.out, Bool.and_false]), Bool.and_false]
        subst hbf
        go_wp2_with fail
        go_ret
        exact ⟨rfl, HB.out.trans (HB7.out.mono HB.out.size)⟩
       | true =>
        have HAL : Hid (okTL Nm.rightB (rightB nn) 4 (ts.take (j + 1)) 0 kk = true) := by
         have : okTL Nm.rightB (rightB nn) 4 (ts.take (j + 1)) 0 kk = true := by rw [HOT.out, hal.out, HBR.out, Bool.and_self]
         exact this
        go_wp2_with fail
        go_roundw
        case rel => exact ⟨j + 1, by omega, by go_num, HAL.out, HB7.out⟩
        case measure => simp [intOf]; omega
      | true =>
       have hu : under 4 j kk = (kk + 1) := by unfold under; rw [hbb]; rfl
       rw [hu] at HCALL
       go_wp2_with fail
       refine (HCALL.out w5 HB6.out).mono ?_
       rintro e w7 ⟨rfl, hb7⟩
       have HB7 := Lib.hid (HB5.out.trans (hb7.mono HB5.out.size))
       clear hb7 a0 a1 a2 a3 a4 e0 e1 e2 e3 e4
       cases br with
       | false =>
        have hbf : b = false := by
         rw [← HV.out, okTL_no Nm.rightB (rightB nn) 4 (j := j + 1) (by rw [HOT.out, HBR.out, Bool.and_false]), Bool.and_false]
        subst hbf
        go_wp2_with fail
        go_ret
        exact ⟨rfl, HB.out.trans (HB7.out.mono HB.out.size)⟩
       | true =>
        have HAL : Hid (okTL Nm.rightB (rightB nn) 4 (ts.take (j + 1)) 0 kk = true) := by
         have : okTL Nm.rightB (rightB nn) 4 (ts.take (j + 1)) 0 kk = true := by rw [HOT.out, hal.out, HBR.out, Bool.and_self]
         exact this
        go_wp2_with fail
        go_roundw
        case rel => exact ⟨j + 1, by omega, by go_num, HAL.out, HB7.out⟩
        case measure => simp [intOf]; omega
     ·have hln : decide ((j : Int) < 2) = false := by simp; omega
      have hbt : b = true := by
       have h1 := hal.out
       have h2 := HAL.out
       have h3 := HLL.out
       have h4 := HN.out
       rw [List.take_of_length_le (by omega)] at h1
       rw [← HV.out, h1]
       unfold shape
       simp [h2, h3, h4, hm0]
      subst hbt
      go_wp2_with fail
      go_ret
      exact ⟨rfl, HB.out.trans (hgr.out.mono HB.out.size)⟩
   by_cases k5 : k = 5
   ·subst k5
    by_cases hn : ¬ n = 0
    ·have dn : (n != 0) = true := by simp [hn]
     have dn2 : (!(n == 0)) = true := by simp [hn]
     have dn3 : (n == 0) = false := by simp [hn]
     have hbf : b = false := by
      rw [← HV.out]
      have hl := HLL.out
      have ht := HN.out
      unfold shape
      simp [hn]
     subst hbf
     go_wp2_with fail
     go_ret
     exact ⟨rfl, HB.out.trans (hgr.out.mono HB.out.size)⟩
    have hn := Classical.not_not.1 hn
    subst hn
    by_cases hm0 : ¬ m.size = 0
    ·have hnm : m.toList.isEmpty = false := isEmpty_no hm0
     have hbf : b = false := by
      rw [← HV.out]
      have hl := HLL.out
      have ht := HN.out
      unfold shape
      simp [hm0]
     subst hbf
     go_wp2_with fail
     go_ret
     exact ⟨rfl, HB.out.trans (hgr.out.mono HB.out.size)⟩
    have hm0 := Classical.not_not.1 hm0
    have hnm : m.toList.isEmpty = true := isEmpty_yes hm0
    by_cases hl0 : ¬ j = 0
    ·have dl : ((j : Int) == 0) = false := by simp; omega
     have dl2 : ((j : Int) != 0) = true := by simp; omega
     have hbf : b = false := by
      rw [← HV.out]
      have hl := HLL.out
      have ht := HN.out
      unfold shape
      simp [hl, show ¬ j = 0 from hl0]
     subst hbf
     go_wp2_with fail
     go_ret
     exact ⟨rfl, HB.out.trans (hgr.out.mono HB.out.size)⟩
    have hl0 := Classical.not_not.1 hl0
    subst hl0
    by_cases ha0 : ¬ len = 2
    ·have da : ((len : Int) == 2) = false := by simp; omega
     have da2 : ((len : Int) != 2) = true := by simp; omega
     have hbf : b = false := by
      rw [← HV.out]
      have hl := HLL.out
      have ht := HN.out
      unfold shape
      simp [ht, show ¬ len = 2 from ha0]
     subst hbf
     go_wp2_with fail
     go_ret
     exact ⟨rfl, HB.out.trans (hgr.out.mono HB.out.size)⟩
    have ha0 := Classical.not_not.1 ha0
    subst ha0
    go_wp2_with fail
    generalize wr = W1 at *
    go_loopw [10] (fun i wr => ∃ j : Nat, j ≤ 2 ∧ i = .int .i64 j ∧ Hid (okTL Nm.rightB (rightB nn) 5 (ts.take j) 0 kk = true) ∧ Hid (Below W.heap.size W wr)) (fun i _ => 2 - (intOf i).toNat)
    case atStart => exact ⟨0, Nat.zero_le _, rfl, by rw [List.take_zero, okTL]; exact rfl, hgr.out⟩
    case round =>
     obtain ⟨j, hj, rfl, hal, hgr⟩ := hrel
     obtain ⟨a0, a1, a2, a3, a4⟩ := hk.out wr hgr.out
     by_cases hlt : j < 2
     ·have hx1 : j < ts.length := by rw [HN.out]; exact hlt
      have hln : decide ((j : Int) < 2) = true := by simp; omega
      obtain ⟨bq, o, l1, s1, rfl, hbs, _, hc0, hc1, hc2, hc3, hc4, htm⟩ := tsP_get HTS.out j hx1
      obtain ⟨⟨xa, xl, xc, rfl⟩, ya, yl, yc, rfl⟩ := tmP_slices htm
      have HB2 := Lib.hid (HB.out.trans (hgr.out.mono HB.out.size))
      obtain ⟨br, hbr⟩ : ∃ b, okT Nm.rightB (rightB nn) ts[j] (under 5 j kk) = b := ⟨_, rfl⟩
      have hcall := fun (w' : World) (hw : Below w.heap.size w w') => IH.out ts[j] (tv ts[j] (.slice xa xl xc) (.slice ya yl yc)) (under 5 j kk) w' br (Nat.le_trans (tnodes_mem (List.getElem_mem hx1)) HNN.out) (nmOkL_mem HNM.out (List.getElem_mem hx1)) ⟨_, _, rfl, tmP_below hw htm⟩ (by unfold under; split <;> omega) (by unfold under; split <;> omega) hbr
      have HCALL := Lib.hid hcall
      dsimp only [tv] at HCALL
      have HBR := Lib.hid hbr
      have HOT := Lib.hid (okTL_take Nm.rightB (rightB nn) 5 hx1 kk)
      have hke : Hid (∀ W', Below w.heap.size w W' → W'.cell? ⟨bq, o + j * 5, none⟩ = some (.int .i64 (tkOf ts[j])) ∧ W'.cell? ⟨bq, o + j * 5 + 1, none⟩ = some (.int .i64 (tnOf ts[j])) ∧ W'.cell? ⟨bq, o + j * 5 + 2, none⟩ = some (.string (tmOf ts[j])) ∧ W'.cell? ⟨bq, o + j * 5 + 3, none⟩ = some (.slice xa xl xc) ∧ W'.cell? ⟨bq, o + j * 5 + 4, none⟩ = some (.slice ya yl yc)) := fun W' h => ⟨(h.cell (p := ⟨bq, _, none⟩) hbs).trans hc0, (h.cell (p := ⟨bq, _, none⟩) hbs).trans hc1, (h.cell (p := ⟨bq, _, none⟩) hbs).trans hc2, (h.cell (p := ⟨bq, _, none⟩) hbs).trans hc3, (h.cell (p := ⟨bq, _, none⟩) hbs).trans hc4⟩
      have q1 : (0 : Int) ≤ (j : Int) := by omega
      have q2 : (j : Int) < 2 := by omega
      generalize tkOf ts[j] = ka at *
      generalize tnOf ts[j] = na at *
      generalize tmOf ts[j] = ma at *
      clear htm hcall hbr hc0 hc1 hc2 hc3 hc4
      obtain ⟨bb, hbb⟩ : ∃ b, binds 5 j = b := ⟨_, rfl⟩
      go_wp2_with fail
      refine (refBinds_is 5 j wr bb hbb).mono ?_
      rintro e w5 ⟨rfl, hb5⟩
      have HB5 := Lib.hid (hgr.out.trans (hb5.mono hgr.out.size))
      clear hb5 a0 a1 a2 a3 a4
      obtain ⟨a0, a1, a2, a3, a4⟩ := hk.out w5 HB5.out
      have HB6 := Lib.hid (HB.out.trans (HB5.out.mono HB.out.size))
      obtain ⟨e0, e1, e2, e3, e4⟩ := hke.out w5 HB6.out
      cases bb with
      | false =>
       have hu : under 5 j kk = kk := by unfold under; rw [hbb]; rfl
       rw [hu] at HCALL
       go_wp2_with fail
       refine (HCALL.out w5 HB6.out).mono ?_
       rintro e w7 ⟨rfl, hb7⟩
       have HB7 := Lib.hid (HB5.out.trans (hb7.mono HB5.out.size))
       clear hb7 a0 a1 a2 a3 a4 e0 e1 e2 e3 e4
       cases br with
       | false =>
        have hbf : b = false := by
         rw [← HV.out, okTL_no Nm.rightB (rightB nn) 5 (j := j + 1) (by rw [HOT.out, HBR.out, Bool.and_false]), Bool.and_false]
        subst hbf
        go_wp2_with fail
        go_ret
        exact ⟨rfl, HB.out.trans (HB7.out.mono HB.out.size)⟩
       | true =>
        have HAL : Hid (okTL Nm.rightB (rightB nn) 5 (ts.take (j + 1)) 0 kk = true) := by
         have : okTL Nm.rightB (rightB nn) 5 (ts.take (j + 1)) 0 kk = true := by rw [HOT.out, hal.out, HBR.out, Bool.and_self]
         exact this
        go_wp2_with fail
        go_roundw
        case rel => exact ⟨j + 1, by omega, by go_num, HAL.out, HB7.out⟩
        case measure => simp [intOf]; omega
      | true =>
       have hu : under 5 j kk = (kk + 1) := by unfold under; rw [hbb]; rfl
       rw [hu] at HCALL
       go_wp2_with fail
       refine (HCALL.out w5 HB6.out).mono ?_
       rintro e w7 ⟨rfl, hb7⟩
       have HB7 := Lib.hid (HB5.out.trans (hb7.mono HB5.out.size))
       clear hb7 a0 a1 a2 a3 a4 e0 e1 e2 e3 e4
       cases br with
       | false =>
        have hbf : b = false := by
         rw [← HV.out, okTL_no Nm.rightB (rightB nn) 5 (j := j + 1) (by rw [HOT.out, HBR.out, Bool.and_false]), Bool.and_false]
        subst hbf
        go_wp2_with fail
        go_ret
        exact ⟨rfl, HB.out.trans (HB7.out.mono HB.out.size)⟩
       | true =>
        have HAL : Hid (okTL Nm.rightB (rightB nn) 5 (ts.take (j + 1)) 0 kk = true) := by
         have : okTL Nm.rightB (rightB nn) 5 (ts.take (j + 1)) 0 kk = true := by rw [HOT.out, hal.out, HBR.out, Bool.and_self]
         exact this
        go_wp2_with fail
        go_roundw
        case rel => exact ⟨j + 1, by omega, by go_num, HAL.out, HB7.out⟩
        case measure => simp [intOf]; omega
     ·have hln : decide ((j : Int) < 2) = false := by simp; omega
      have hbt : b = true := by
       have h1 := hal.out
       have h2 := HAL.out
       have h3 := HLL.out
       have h4 := HN.out
       rw [List.take_of_length_le (by omega)] at h1
       rw [← HV.out, h1]
       unfold shape
       simp [h2, h3, h4, hm0]
      subst hbt
      go_wp2_with fail
      go_ret
      exact ⟨rfl, HB.out.trans (hgr.out.mono HB.out.size)⟩
   by_cases k6 : k = 6
   ·subst k6
    by_cases hn : ¬ n = 0
    ·have dn : (n != 0) = true := by simp [hn]
     have dn2 : (!(n == 0)) = true := by simp [hn]
     have dn3 : (n == 0) = false := by simp [hn]
     have hbf : b = false := by
      rw [← HV.out]
      have hl := HLL.out
      have ht := HN.out
      unfold shape
      simp [hn]
     subst hbf
     go_wp2_with fail
     go_ret
     exact ⟨rfl, HB.out.trans (hgr.out.mono HB.out.size)⟩
    have hn := Classical.not_not.1 hn
    subst hn
    by_cases hm0 : ¬ m.size = 0
    ·have hnm : m.toList.isEmpty = false := isEmpty_no hm0
     have hbf : b = false := by
      rw [← HV.out]
      have hl := HLL.out
      have ht := HN.out
      unfold shape
      simp [hm0]
     subst hbf
     go_wp2_with fail
     go_ret
     exact ⟨rfl, HB.out.trans (hgr.out.mono HB.out.size)⟩
    have hm0 := Classical.not_not.1 hm0
    have hnm : m.toList.isEmpty = true := isEmpty_yes hm0
    by_cases hl0 : ¬ j = 0
    ·have dl : ((j : Int) == 0) = false := by simp; omega
     have dl2 : ((j : Int) != 0) = true := by simp; omega
     have hbf : b = false := by
      rw [← HV.out]
      have hl := HLL.out
      have ht := HN.out
      unfold shape
      simp [hl, show ¬ j = 0 from hl0]
     subst hbf
     go_wp2_with fail
     go_ret
     exact ⟨rfl, HB.out.trans (hgr.out.mono HB.out.size)⟩
    have hl0 := Classical.not_not.1 hl0
    subst hl0
    by_cases ha0 : ¬ len = 2
    ·have da : ((len : Int) == 2) = false := by simp; omega
     have da2 : ((len : Int) != 2) = true := by simp; omega
     have hbf : b = false := by
      rw [← HV.out]
      have hl := HLL.out
      have ht := HN.out
      unfold shape
      simp [ht, show ¬ len = 2 from ha0]
     subst hbf
     go_wp2_with fail
     go_ret
     exact ⟨rfl, HB.out.trans (hgr.out.mono HB.out.size)⟩
    have ha0 := Classical.not_not.1 ha0
    subst ha0
    go_wp2_with fail
    generalize wr = W1 at *
    go_loopw [10] (fun i wr => ∃ j : Nat, j ≤ 2 ∧ i = .int .i64 j ∧ Hid (okTL Nm.rightB (rightB nn) 6 (ts.take j) 0 kk = true) ∧ Hid (Below W.heap.size W wr)) (fun i _ => 2 - (intOf i).toNat)
    case atStart => exact ⟨0, Nat.zero_le _, rfl, by rw [List.take_zero, okTL]; exact rfl, hgr.out⟩
    case round =>
     obtain ⟨j, hj, rfl, hal, hgr⟩ := hrel
     obtain ⟨a0, a1, a2, a3, a4⟩ := hk.out wr hgr.out
     by_cases hlt : j < 2
     ·have hx1 : j < ts.length := by rw [HN.out]; exact hlt
      have hln : decide ((j : Int) < 2) = true := by simp; omega
      obtain ⟨bq, o, l1, s1, rfl, hbs, _, hc0, hc1, hc2, hc3, hc4, htm⟩ := tsP_get HTS.out j hx1
      obtain ⟨⟨xa, xl, xc, rfl⟩, ya, yl, yc, rfl⟩ := tmP_slices htm
      have HB2 := Lib.hid (HB.out.trans (hgr.out.mono HB.out.size))
      obtain ⟨br, hbr⟩ : ∃ b, okT Nm.rightB (rightB nn) ts[j] (under 6 j kk) = b := ⟨_, rfl⟩
      have hcall := fun (w' : World) (hw : Below w.heap.size w w') => IH.out ts[j] (tv ts[j] (.slice xa xl xc) (.slice ya yl yc)) (under 6 j kk) w' br (Nat.le_trans (tnodes_mem (List.getElem_mem hx1)) HNN.out) (nmOkL_mem HNM.out (List.getElem_mem hx1)) ⟨_, _, rfl, tmP_below hw htm⟩ (by unfold under; split <;> omega) (by unfold under; split <;> omega) hbr
      have HCALL := Lib.hid hcall
      dsimp only [tv] at HCALL
      have HBR := Lib.hid hbr
      have HOT := Lib.hid (okTL_take Nm.rightB (rightB nn) 6 hx1 kk)
      have hke : Hid (∀ W', Below w.heap.size w W' → W'.cell? ⟨bq, o + j * 5, none⟩ = some (.int .i64 (tkOf ts[j])) ∧ W'.cell? ⟨bq, o + j * 5 + 1, none⟩ = some (.int .i64 (tnOf ts[j])) ∧ W'.cell? ⟨bq, o + j * 5 + 2, none⟩ = some (.string (tmOf ts[j])) ∧ W'.cell? ⟨bq, o + j * 5 + 3, none⟩ = some (.slice xa xl xc) ∧ W'.cell? ⟨bq, o + j * 5 + 4, none⟩ = some (.slice ya yl yc)) := fun W' h => ⟨(h.cell (p := ⟨bq, _, none⟩) hbs).trans hc0, (h.cell (p := ⟨bq, _, none⟩) hbs).trans hc1, (h.cell (p := ⟨bq, _, none⟩) hbs).trans hc2, (h.cell (p := ⟨bq, _, none⟩) hbs).trans hc3, (h.cell (p := ⟨bq, _, none⟩) hbs).trans hc4⟩
      have q1 : (0 : Int) ≤ (j : Int) := by omega
      have q2 : (j : Int) < 2 := by omega
      generalize tkOf ts[j] = ka at *
      generalize tnOf ts[j] = na at *
      generalize tmOf ts[j] = ma at *
      clear htm hcall hbr hc0 hc1 hc2 hc3 hc4
      obtain ⟨bb, hbb⟩ : ∃ b, binds 6 j = b := ⟨_, rfl⟩
      go_wp2_with fail
      refine (refBinds_is 6 j wr bb hbb).mono ?_
      rintro e w5 ⟨rfl, hb5⟩
      have HB5 := Lib.hid (hgr.out.trans (hb5.mono hgr.out.size))
      clear hb5 a0 a1 a2 a3 a4
      obtain ⟨a0, a1, a2, a3, a4⟩ := hk.out w5 HB5.out
      have HB6 := Lib.hid (HB.out.trans (HB5.out.mono HB.out.size))
      obtain ⟨e0, e1, e2, e3, e4⟩ := hke.out w5 HB6.out
      cases bb with
      | false =>
       have hu : under 6 j kk = kk := by unfold under; rw [hbb]; rfl
       rw [hu] at HCALL
       go_wp2_with fail
       refine (HCALL.out w5 HB6.out).mono ?_
       rintro e w7 ⟨rfl, hb7⟩
       have HB7 := Lib.hid (HB5.out.trans (hb7.mono HB5.out.size))
       clear hb7 a0 a1 a2 a3 a4 e0 e1 e2 e3 e4
       cases br with
       | false =>
        have hbf : b = false := by
         rw [← HV.out, okTL_no Nm.rightB (rightB nn) 6 (j := j + 1) (by rw [HOT.out, HBR.out, Bool.and_false]), Bool.and_false]
        subst hbf
        go_wp2_with fail
        go_ret
        exact ⟨rfl, HB.out.trans (HB7.out.mono HB.out.size)⟩
       | true =>
        have HAL : Hid (okTL Nm.rightB (rightB nn) 6 (ts.take (j + 1)) 0 kk = true) := by
         have : okTL Nm.rightB (rightB nn) 6 (ts.take (j + 1)) 0 kk = true := by rw [HOT.out, hal.out, HBR.out, Bool.and_self]
         exact this
        go_wp2_with fail
        go_roundw
        case rel => exact ⟨j + 1, by omega, by go_num, HAL.out, HB7.out⟩
        case measure => simp [intOf]; omega
      | true =>
       have hu : under 6 j kk = (kk + 1) := by unfold under; rw [hbb]; rfl
       rw [hu] at HCALL
       go_wp2_with fail
       refine (HCALL.out w5 HB6.out).mono ?_
       rintro e w7 ⟨rfl, hb7⟩
       have HB7 := Lib.hid (HB5.out.trans (hb7.mono HB5.out.size))
       clear hb7 a0 a1 a2 a3 a4 e0 e1 e2 e3 e4
       cases br with
       | false =>
        have hbf : b = false := by
         rw [← HV.out, okTL_no Nm.rightB (rightB nn) 6 (j := j + 1) (by rw [HOT.out, HBR.out, Bool.and_false]), Bool.and_false]
        subst hbf
        go_wp2_with fail
        go_ret
        exact ⟨rfl, HB.out.trans (HB7.out.mono HB.out.size)⟩
       | true =>
        have HAL : Hid (okTL Nm.rightB (rightB nn) 6 (ts.take (j + 1)) 0 kk = true) := by
         have : okTL Nm.rightB (rightB nn) 6 (ts.take (j + 1)) 0 kk = true := by rw [HOT.out, hal.out, HBR.out, Bool.and_self]
         exact this
        go_wp2_with fail
        go_roundw
        case rel => exact ⟨j + 1, by omega, by go_num, HAL.out, HB7.out⟩
        case measure => simp [intOf]; omega
     ·have hln : decide ((j : Int) < 2) = false := by simp; omega
      have hbt : b = true := by
       have h1 := hal.out
       have h2 := HAL.out
       have h3 := HLL.out
       have h4 := HN.out
       rw [List.take_of_length_le (by omega)] at h1
       rw [← HV.out, h1]
       unfold shape
       simp [h2, h3, h4, hm0]
      subst hbt
      go_wp2_with fail
      go_ret
      exact ⟨rfl, HB.out.trans (hgr.out.mono HB.out.size)⟩
   by_cases k7 : k = 7
   ·subst k7
    by_cases hn : ¬ n = 0
    ·have dn : (n != 0) = true := by simp [hn]
     have dn2 : (!(n == 0)) = true := by simp [hn]
     have dn3 : (n == 0) = false := by simp [hn]
     have hbf : b = false := by
      rw [← HV.out]
      have hl := HLL.out
      have ht := HN.out
      unfold shape
      simp [hn]
     subst hbf
     go_wp2_with fail
     go_ret
     exact ⟨rfl, HB.out.trans (hgr.out.mono HB.out.size)⟩
    have hn := Classical.not_not.1 hn
    subst hn
    by_cases hm0 : ¬ m.size = 0
    ·have hnm : m.toList.isEmpty = false := isEmpty_no hm0
     have hbf : b = false := by
      rw [← HV.out]
      have hl := HLL.out
      have ht := HN.out
      unfold shape
      simp [hm0]
     subst hbf
     go_wp2_with fail
     go_ret
     exact ⟨rfl, HB.out.trans (hgr.out.mono HB.out.size)⟩
    have hm0 := Classical.not_not.1 hm0
    have hnm : m.toList.isEmpty = true := isEmpty_yes hm0
    by_cases hl0 : ¬ j = 0
    ·have dl : ((j : Int) == 0) = false := by simp; omega
     have dl2 : ((j : Int) != 0) = true := by simp; omega
     have hbf : b = false := by
      rw [← HV.out]
      have hl := HLL.out
      have ht := HN.out
      unfold shape
      simp [hl, show ¬ j = 0 from hl0]
     subst hbf
     go_wp2_with fail
     go_ret
     exact ⟨rfl, HB.out.trans (hgr.out.mono HB.out.size)⟩
    have hl0 := Classical.not_not.1 hl0
    subst hl0
    by_cases ha0 : ¬ len = 3
    ·have da : ((len : Int) == 3) = false := by simp; omega
     have da2 : ((len : Int) != 3) = true := by simp; omega
     have hbf : b = false := by
      rw [← HV.out]
      have hl := HLL.out
      have ht := HN.out
      unfold shape
      simp [ht, show ¬ len = 3 from ha0]
     subst hbf
     go_wp2_with fail
     go_ret
     exact ⟨rfl, HB.out.trans (hgr.out.mono HB.out.size)⟩
    have ha0 := Classical.not_not.1 ha0
    subst ha0
    go_wp2_with fail
    generalize wr = W1 at *
    go_loopw [10] (fun i wr => ∃ j : Nat, j ≤ 3 ∧ i = .int .i64 j ∧ Hid (okTL Nm.rightB (rightB nn) 7 (ts.take j) 0 kk = true) ∧ Hid (Below W.heap.size W wr)) (fun i _ => 3 - (intOf i).toNat)
    case atStart => exact ⟨0, Nat.zero_le _, rfl, by rw [List.take_zero, okTL]; exact rfl, hgr.out⟩
    case round =>
     obtain ⟨j, hj, rfl, hal, hgr⟩ := hrel
     obtain ⟨a0, a1, a2, a3, a4⟩ := hk.out wr hgr.out
     by_cases hlt : j < 3
     ·have hx1 : j < ts.length := by rw [HN.out]; exact hlt
      have hln : decide ((j : Int) < 3) = true := by simp; omega
      obtain ⟨bq, o, l1, s1, rfl, hbs, _, hc0, hc1, hc2, hc3, hc4, htm⟩ := tsP_get HTS.out j hx1
      obtain ⟨⟨xa, xl, xc, rfl⟩, ya, yl, yc, rfl⟩ := tmP_slices htm
      have HB2 := Lib.hid (HB.out.trans (hgr.out.mono HB.out.size))
      obtain ⟨br, hbr⟩ : ∃ b, okT Nm.rightB (rightB nn) ts[j] (under 7 j kk) = b := ⟨_, rfl⟩
      have hcall := fun (w' : World) (hw : Below w.heap.size w w') => IH.out ts[j] (tv ts[j] (.slice xa xl xc) (.slice ya yl yc)) (under 7 j kk) w' br (Nat.le_trans (tnodes_mem (List.getElem_mem hx1)) HNN.out) (nmOkL_mem HNM.out (List.getElem_mem hx1)) ⟨_, _, rfl, tmP_below hw htm⟩ (by unfold under; split <;> omega) (by unfold under; split <;> omega) hbr
      have HCALL := Lib.hid hcall
      dsimp only [tv] at HCALL
      have HBR := Lib.hid hbr
      have HOT := Lib.hid (okTL_take Nm.rightB (rightB nn) 7 hx1 kk)
      have hke : Hid (∀ W', Below w.heap.size w W' → W'.cell? ⟨bq, o + j * 5, none⟩ = some (.int .i64 (tkOf ts[j])) ∧ W'.cell? ⟨bq, o + j * 5 + 1, none⟩ = some (.int .i64 (tnOf ts[j])) ∧ W'.cell? ⟨bq, o + j * 5 + 2, none⟩ = some (.string (tmOf ts[j])) ∧ W'.cell? ⟨bq, o + j * 5 + 3, none⟩ = some (.slice xa xl xc) ∧ W'.cell? ⟨bq, o + j * 5 + 4, none⟩ = some (.slice ya yl yc)) := fun W' h => ⟨(h.cell (p := ⟨bq, _, none⟩) hbs).trans hc0, (h.cell (p := ⟨bq, _, none⟩) hbs).trans hc1, (h.cell (p := ⟨bq, _, none⟩) hbs).trans hc2, (h.cell (p := ⟨bq, _, none⟩) hbs).trans hc3, (h.cell (p := ⟨bq, _, none⟩) hbs).trans hc4⟩
      have q1 : (0 : Int) ≤ (j : Int) := by omega
      have q2 : (j : Int) < 3 := by omega
      generalize tkOf ts[j] = ka at *
      generalize tnOf ts[j] = na at *
      generalize tmOf ts[j] = ma at *
      clear htm hcall hbr hc0 hc1 hc2 hc3 hc4
      obtain ⟨bb, hbb⟩ : ∃ b, binds 7 j = b := ⟨_, rfl⟩
      go_wp2_with fail
      refine (refBinds_is 7 j wr bb hbb).mono ?_
      rintro e w5 ⟨rfl, hb5⟩
      have HB5 := Lib.hid (hgr.out.trans (hb5.mono hgr.out.size))
      clear hb5 a0 a1 a2 a3 a4
      obtain ⟨a0, a1, a2, a3, a4⟩ := hk.out w5 HB5.out
      have HB6 := Lib.hid (HB.out.trans (HB5.out.mono HB.out.size))
      obtain ⟨e0, e1, e2, e3, e4⟩ := hke.out w5 HB6.out
      cases bb with
      | false =>
       have hu : under 7 j kk = kk := by unfold under; rw [hbb]; rfl
       rw [hu] at HCALL
       go_wp2_with fail
       refine (HCALL.out w5 HB6.out).mono ?_
       rintro e w7 ⟨rfl, hb7⟩
       have HB7 := Lib.hid (HB5.out.trans (hb7.mono HB5.out.size))
       clear hb7 a0 a1 a2 a3 a4 e0 e1 e2 e3 e4
       cases br with
       | false =>
        have hbf : b = false := by
         rw [← HV.out, okTL_no Nm.rightB (rightB nn) 7 (j := j + 1) (by rw [HOT.out, HBR.out, Bool.and_false]), Bool.and_false]
        subst hbf
        go_wp2_with fail
        go_ret
        exact ⟨rfl, HB.out.trans (HB7.out.mono HB.out.size)⟩
       | true =>
        have HAL : Hid (okTL Nm.rightB (rightB nn) 7 (ts.take (j + 1)) 0 kk = true) := by
         have : okTL Nm.rightB (rightB nn) 7 (ts.take (j + 1)) 0 kk = true := by rw [HOT.out, hal.out, HBR.out, Bool.and_self]
         exact this
        go_wp2_with fail
        go_roundw
        case rel => exact ⟨j + 1, by omega, by go_num, HAL.out, HB7.out⟩
        case measure => simp [intOf]; omega
      | true =>
       have hu : under 7 j kk = (kk + 1) := by unfold under; rw [hbb]; rfl
       rw [hu] at HCALL
       go_wp2_with fail
       refine (HCALL.out w5 HB6.out).mono ?_
       rintro e w7 ⟨rfl, hb7⟩
       have HB7 := Lib.hid (HB5.out.trans (hb7.mono HB5.out.size))
       clear hb7 a0 a1 a2 a3 a4 e0 e1 e2 e3 e4
       cases br with
       | false =>
        have hbf : b = false := by
         rw [← HV.out, okTL_no Nm.rightB (rightB nn) 7 (j := j + 1) (by rw [HOT.out, HBR.out, Bool.and_false]), Bool.and_false]
        subst hbf
        go_wp2_with fail
        go_ret
        exact ⟨rfl, HB.out.trans (HB7.out.mono HB.out.size)⟩
       | true =>
        have HAL : Hid (okTL Nm.rightB (rightB nn) 7 (ts.take (j + 1)) 0 kk = true) := by
         have : okTL Nm.rightB (rightB nn) 7 (ts.take (j + 1)) 0 kk = true := by rw [HOT.out, hal.out, HBR.out, Bool.and_self]
         exact this
        go_wp2_with fail
        go_roundw
        case rel => exact ⟨j + 1, by omega, by go_num, HAL.out, HB7.out⟩
        case measure => simp [intOf]; omega
     ·have hln : decide ((j : Int) < 3) = false := by simp; omega
      have hbt : b = true := by
       have h1 := hal.out
       have h2 := HAL.out
       have h3 := HLL.out
       have h4 := HN.out
       rw [List.take_of_length_le (by omega)] at h1
       rw [← HV.out, h1]
       unfold shape
       simp [h2, h3, h4, hm0]
      subst hbt
      go_wp2_with fail
      go_ret
      exact ⟨rfl, HB.out.trans (hgr.out.mono HB.out.size)⟩
   have e1 : (k == 1) = false := by simp; omega
   have e2 : (k == 2) = false := by simp; omega
   have e3 : (k == 3) = false := by simp; omega
   have e4 : (k == 4) = false := by simp; omega
   have e5 : (k == 5) = false := by simp; omega
   have e6 : (k == 6) = false := by simp; omega
   have e7 : (k == 7) = false := by simp; omega
   have hbf : b = false := by
    rw [← HV.out]
    have hl := HLL.out
    have ht := HN.out
    unfold shape
    simp [k1, k2, k3, k4, k5, k6, k7]
   subst hbf
   go_wp2_with fail
   go_ret
   exact ⟨rfl, HB.out.trans (hgr.out.mono HB.out.size)⟩
end Trm
end Go.Proofs.YteomfakbbcpckaaGreatDoor
namespace Go.Proofs.YteomfakbbcpckaaGreatDoor
open Go.RowKit
open Lvl
namespace Trm
theorem ok_child {RN : ByteArray → Bool} {RL : Lv → Bool} {kd : Int} : ∀ {ts : List Tm} {i : Nat} {K : Int}, okTL RN RL kd ts i K = true → ∀ (j : Nat) (h : j < ts.length), okT RN RL ts[j] (under kd (i + j) K) = true
 | a :: ts, i, K, h, 0, _ => by
  rw [okTL, Bool.and_eq_true] at h
  exact h.1
 | a :: ts, i, K, h, j + 1, hj => by
  rw [okTL, Bool.and_eq_true] at h
  have := ok_child h.2 j (by simpa using hj)
  rw [show i + 1 + j = i + (j + 1) by omega] at this
  exact this
theorem ok_node {RN : ByteArray → Bool} {RL : Lv → Bool} {k n : Int} {m : ByteArray} {ls : List Lv} {ts : List Tm} {K : Int} (h : okT RN RL (.mk k n m ls ts) K = true) : (ts = [] ∨ ls = []) ∧ (k = 1 → ts = [] ∧ 0 ≤ n ∧ n < K) := by
 rw [okT, Bool.and_eq_true] at h
 have h1 := h.1
 unfold shape at h1
 rw [Bool.and_eq_true] at h1
 have h2 := h1.2
 by_cases k1 : k = 1
 ·rw [if_pos k1] at h2
  simp only [Bool.and_eq_true, decide_eq_true_eq] at h2
  have hts : ts = [] := List.length_eq_zero_iff.1 h2.1.2
  exact ⟨.inl hts, fun _ => ⟨hts, h2.1.1.1.1, h2.1.1.1.2⟩⟩
 ·refine ⟨?_, fun e => absurd e k1⟩
  rw [if_neg k1, Bool.and_eq_true] at h2
  have h3 := h2.2
  by_cases k2 : k = 2
  ·rw [if_pos k2] at h3
   simp only [Bool.and_eq_true, decide_eq_true_eq] at h3
   exact .inl (List.length_eq_zero_iff.1 h3.1.2)
  ·rw [if_neg k2] at h3
   by_cases k3 : k = 3
   ·rw [if_pos k3] at h3
    simp only [Bool.and_eq_true, decide_eq_true_eq] at h3
    exact .inl (List.length_eq_zero_iff.1 h3.2)
   ·rw [if_neg k3] at h3
    simp only [Bool.and_eq_true, decide_eq_true_eq] at h3
    exact .inr (List.length_eq_zero_iff.1 h3.1.1)
end Trm
end Go.Proofs.YteomfakbbcpckaaGreatDoor
namespace Go.Proofs.YteomfakbbcpckaaGreatDoor
open Lvl
open Trm
namespace Bnd
mutual
def subT (F : Tm → Nat → Tm) : Tm → Nat → Tm
 | .mk k n m ls ts, d => if ts.length = 0 then F (.mk k n m ls []) d else .mk k 0 ⟨#[]⟩ [] (subL F k ts.length ts 0 d)
def subL (F : Tm → Nat → Tm) (k : Int) (len : Nat) : List Tm → Nat → Nat → List Tm
 | [], _, _ => []
 | a :: ts, i, d => subT F a (d + bndP k len i) :: subL F k len ts (i + 1) d
end
theorem subL_length (F : Tm → Nat → Tm) (k : Int) (len : Nat) : ∀ (ts : List Tm) (i d : Nat), (subL F k len ts i d).length = ts.length
 | [], _, _ => by rw [subL]
 | a :: ts, i, d => by rw [subL, List.length_cons, List.length_cons, subL_length F k len ts]
theorem subL_get (F : Tm → Nat → Tm) (k : Int) (len : Nat) : ∀ (ts : List Tm) (i d j : Nat) (h : j < ts.length) (h2 : j < (subL F k len ts i d).length), (subL F k len ts i d)[j] = subT F ts[j] (d + bndP k len (i + j))
 | a :: ts, i, d, 0, _, _ => by simp only [subL, List.getElem_cons_zero, Nat.add_zero]
 | a :: ts, i, d, j + 1, h, h2 => by
  simp only [subL, List.getElem_cons_succ]
  rw [show i + (j + 1) = i + 1 + j by omega]
  exact subL_get F k len ts (i + 1) d j (by simpa using h) (by simpa [subL] using h2)
mutual
def allT (P : Tm → Nat → Prop) : Tm → Nat → Prop
 | .mk k n m ls ts, d => (ts.length = 0 → P (.mk k n m ls []) d) ∧ allL P k ts.length ts 0 d
def allL (P : Tm → Nat → Prop) (k : Int) (len : Nat) : List Tm → Nat → Nat → Prop
 | [], _, _ => True
 | a :: ts, i, d => allT P a (d + bndP k len i) ∧ allL P k len ts (i + 1) d
end
theorem allL_get (P : Tm → Nat → Prop) (k : Int) (len : Nat) : ∀ (ts : List Tm) (i d : Nat), allL P k len ts i d → ∀ (j : Nat) (h : j < ts.length), allT P ts[j] (d + bndP k len (i + j))
 | a :: ts, i, d, h, 0, _ => by
  rw [allL] at h
  exact h.1
 | a :: ts, i, d, h, j + 1, hj => by
  rw [allL] at h
  rw [show i + (j + 1) = i + 1 + j by omega]
  exact allL_get P k len ts (i + 1) d h.2 j (by simpa using hj)
mutual
theorem allT_mono {P Q : Tm → Nat → Prop} (h : ∀ l e, P l e → Q l e) : ∀ (t : Tm) (d : Nat), allT P t d → allT Q t d
 | .mk k n m ls ts, d, ht => by
  rw [allT] at ht ⊢
  exact ⟨fun e => h _ _ (ht.1 e), allL_mono h k ts.length ts 0 d ht.2⟩
theorem allL_mono {P Q : Tm → Nat → Prop} (h : ∀ l e, P l e → Q l e) (k : Int) (len : Nat) : ∀ (ts : List Tm) (i d : Nat), allL P k len ts i d → allL Q k len ts i d
 | [], _, _, _ => by rw [allL]; trivial
 | a :: ts, i, d, ht => by
  rw [allL] at ht ⊢
  exact ⟨allT_mono h a _ ht.1, allL_mono h k len ts (i + 1) d ht.2⟩
end
mutual
theorem subT_congr {F G : Tm → Nat → Tm} : ∀ (t : Tm) (d : Nat), allT (fun l e => F l e = G l e) t d → subT F t d = subT G t d
 | .mk k n m ls ts, d, h => by
  rw [allT] at h
  rw [subT, subT]
  by_cases h0 : ts.length = 0
  ·rw [if_pos h0, if_pos h0]
   exact h.1 h0
  ·rw [if_neg h0, if_neg h0, subL_congr k ts.length ts 0 d h.2]
theorem subL_congr {F G : Tm → Nat → Tm} (k : Int) (len : Nat) : ∀ (ts : List Tm) (i d : Nat), allL (fun l e => F l e = G l e) k len ts i d → subL F k len ts i d = subL G k len ts i d
 | [], _, _, _ => by rw [subL, subL]
 | a :: ts, i, d, h => by
  rw [allL] at h
  rw [subL, subL, subT_congr a _ h.1, subL_congr k len ts (i + 1) d h.2]
end
mutual
theorem subT_sub (F G : Tm → Nat → Tm) (c : Nat) : ∀ (t : Tm) (d : Nat), subT G (subT F t d) (c + d) = subT (fun l e => subT G (F l e) (c + e)) t d
 | .mk k n m ls ts, d => by
  rw [subT, subT]
  by_cases h0 : ts.length = 0
  ·rw [if_pos h0, if_pos h0]
  ·rw [if_neg h0, if_neg h0, subT, if_neg (by rw [subL_length]; exact h0), subL_length, subL_sub F G c k ts.length ts 0 d]
theorem subL_sub (F G : Tm → Nat → Tm) (c : Nat) (k : Int) (len : Nat) : ∀ (ts : List Tm) (i d : Nat), subL G k len (subL F k len ts i d) i (c + d) = subL (fun l e => subT G (F l e) (c + e)) k len ts i d
 | [], _, _ => by rw [subL, subL, subL]
 | a :: ts, i, d => by
  rw [subL, subL, subL, Nat.add_assoc, subT_sub F G c a, subL_sub F G c k len ts (i + 1) d]
end
section
variable {RN : ByteArray → Bool} {RL : Lv → Bool}
theorem empty_of {m : ByteArray} (h : m.size = 0) : m = ⟨#[]⟩ := by
 obtain ⟨a⟩ := m
 have : a = #[] := Array.size_eq_zero_iff.1 h
 rw [this]
theorem ok_leaf {k n : Int} {m : ByteArray} {ls : List Lv} {K : Int} (h : okT RN RL (.mk k n m ls []) K = true) : (k = 1 ∧ 0 ≤ n ∧ n < K ∧ m = ⟨#[]⟩ ∧ ls = []) ∨ (k = 2 ∧ n = 0 ∧ m = ⟨#[]⟩ ∧ ∃ l, ls = [l] ∧ RL l = true) ∨ (k = 3 ∧ n = 0 ∧ RN m = true ∧ ls.length ≤ 4 ∧ ∀ l ∈ ls, RL l = true) := by
 rw [okT, okTL, Bool.and_true] at h
 unfold Trm.shape at h
 rw [Bool.and_eq_true] at h
 obtain ⟨h0, h1⟩ := h
 by_cases k1 : k = 1
 ·rw [if_pos k1] at h1
  simp only [Bool.and_eq_true, decide_eq_true_eq] at h1
  exact .inl ⟨k1, h1.1.1.1.1, h1.1.1.1.2, empty_of h1.2, List.length_eq_zero_iff.1 h1.1.1.2⟩
 rw [if_neg k1, Bool.and_eq_true, decide_eq_true_eq] at h1
 by_cases k2 : k = 2
 ·rw [if_pos k2] at h1
  simp only [Bool.and_eq_true, decide_eq_true_eq] at h1
  obtain ⟨l, rfl⟩ := List.length_eq_one_iff.1 h1.2.1.1
  exact .inr (.inl ⟨k2, h1.1, empty_of h1.2.2, l, rfl, by simpa using h0⟩)
 rw [if_neg k2] at h1
 by_cases k3 : k = 3
 ·rw [if_pos k3] at h1
  simp only [Bool.and_eq_true, decide_eq_true_eq] at h1
  exact .inr (.inr ⟨k3, h1.1, h1.2.1.1, h1.2.1.2, fun l hl => List.all_eq_true.1 h0 l hl⟩)
 rw [if_neg k3] at h1
 simp only [Bool.and_eq_true, decide_eq_true_eq, List.length_nil] at h1
 split at h1
 ·simp at h1
 ·simp at h1
theorem ok_inner {k n : Int} {m : ByteArray} {ls : List Lv} {ts : List Tm} {K : Int} (h : okT RN RL (.mk k n m ls ts) K = true) (h0 : ts.length ≠ 0) : n = 0 ∧ m = ⟨#[]⟩ ∧ ls = [] ∧ k ≠ 1 := by
 rw [okT, Bool.and_eq_true] at h
 have h1 := h.1
 unfold Trm.shape at h1
 rw [Bool.and_eq_true] at h1
 have h1 := h1.2
 by_cases k1 : k = 1
 ·rw [if_pos k1] at h1
  simp only [Bool.and_eq_true, decide_eq_true_eq] at h1
  exact absurd h1.1.2 h0
 rw [if_neg k1, Bool.and_eq_true, decide_eq_true_eq] at h1
 by_cases k2 : k = 2
 ·rw [if_pos k2] at h1
  simp only [Bool.and_eq_true, decide_eq_true_eq] at h1
  exact absurd h1.2.1.2 h0
 rw [if_neg k2] at h1
 by_cases k3 : k = 3
 ·rw [if_pos k3] at h1
  simp only [Bool.and_eq_true, decide_eq_true_eq] at h1
  exact absurd h1.2.2 h0
 rw [if_neg k3] at h1
 simp only [Bool.and_eq_true, decide_eq_true_eq] at h1
 exact ⟨h1.1, empty_of h1.2.1.2, List.length_eq_zero_iff.1 h1.2.1.1, k1⟩
mutual
theorem ok_leaves (K : Int) : ∀ (t : Tm) (d : Nat), okT RN RL t (K + d) = true → allT (fun l e => okT RN RL l (K + e) = true) t d
 | .mk k n m ls ts, d, h => by
  rw [allT]
  have h' := h
  rw [okT, Bool.and_eq_true] at h'
  refine ⟨fun h0 => ?_, ok_leavesL K k n m ls ts.length h'.1 ts 0 d (by omega) h'.2⟩
  have : ts = [] := List.length_eq_zero_iff.1 h0
  subst this
  exact h
theorem ok_leavesL (K : Int) (kd n : Int) (nm : ByteArray) (ls : List Lv) (m : Nat) {k : Int} (h : Trm.shape RN RL kd n nm ls m k = true) : ∀ (ts : List Tm) (i d : Nat), i + ts.length ≤ m → okTL RN RL kd ts i (K + d) = true → allL (fun l e => okT RN RL l (K + e) = true) kd m ts i d
 | [], _, _, _, _ => by rw [allL]; trivial
 | a :: ts, i, d, hi, ho => by
  rw [List.length_cons] at hi
  rw [okTL, Bool.and_eq_true] at ho
  rw [allL]
  refine ⟨ok_leaves K a _ ?_, ok_leavesL K kd n nm ls m h ts (i + 1) d (by omega) ho.2⟩
  have := ho.1
  rw [bndP_under h i (by omega)] at this
  rw [show K + ((d + bndP kd m i : Nat) : Int) = K + (d : Int) + ((bndP kd m i : Nat) : Int) by omega]
  exact this
end
mutual
theorem subT_id {F : Tm → Nat → Tm} : ∀ (t : Tm) (K : Int) (d : Nat), okT RN RL t K = true → allT (fun l e => F l e = l) t d → subT F t d = t
 | .mk k n m ls ts, K, d, h, ha => by
  rw [allT] at ha
  rw [subT]
  by_cases h0 : ts.length = 0
  ·have : ts = [] := List.length_eq_zero_iff.1 h0
   subst this
   rw [if_pos List.length_nil]
   exact ha.1 rfl
  ·obtain ⟨rfl, rfl, rfl, _⟩ := ok_inner h h0
   rw [okT, Bool.and_eq_true] at h
   rw [if_neg h0, subL_id k ts.length ts 0 K d h.2 ha.2]
theorem subL_id {F : Tm → Nat → Tm} (k : Int) (len : Nat) : ∀ (ts : List Tm) (i : Nat) (K : Int) (d : Nat), okTL RN RL k ts i K = true → allL (fun l e => F l e = l) k len ts i d → subL F k len ts i d = ts
 | [], _, _, _, _, _ => by rw [subL]
 | a :: ts, i, K, d, h, ha => by
  rw [okTL, Bool.and_eq_true] at h
  rw [allL] at ha
  rw [subL, subT_id a _ _ h.1 ha.1, subL_id k len ts (i + 1) K d h.2 ha.2]
end
end
abbrev tvr (n : Int) : Tm := .mk 1 n ⟨#[]⟩ [] []
def raF (by' fr : Int) : Tm → Nat → Tm
 | .mk k n m ls ts, d => if k = 1 ∧ (d : Int) ≤ n ∧ fr ≤ n - d then tvr (n + by') else .mk k n m ls ts
mutual
theorem raF_li {RN : ByteArray → Bool} {RL : Lv → Bool} (c : Int) : ∀ (t : Tm) (K : Int) (d : Nat), okT RN RL t K = true → subT (raF c 0) t d = liT c t d
 | .mk k n m ls ts, K, d, h => by
  rw [subT, liT]
  by_cases h0 : ts.length = 0
  ·have : ts = [] := List.length_eq_zero_iff.1 h0
   subst this
   rw [if_pos List.length_nil, raF, liTL]
   rcases ok_leaf h with ⟨rfl, _, _, rfl, rfl⟩ | ⟨rfl, rfl, rfl, l, rfl, _⟩ | ⟨rfl, rfl, _⟩
   ·by_cases hd : (d : Int) ≤ n
    ·rw [if_pos ⟨rfl, hd, by omega⟩, if_pos ⟨rfl, hd⟩]
    ·rw [if_neg (fun h => hd h.2.1), if_neg (fun h => hd h.2)]
   ·rw [if_neg (fun h => by have := h.1; omega), if_neg (fun h => by have := h.1; omega)]
   ·rw [if_neg (fun h => by have := h.1; omega), if_neg (fun h => by have := h.1; omega)]
  ·obtain ⟨rfl, rfl, rfl, k1⟩ := ok_inner h h0
   rw [okT, Bool.and_eq_true] at h
   rw [if_neg h0, if_neg (fun h => k1 h.1), raF_liL c k 0 ⟨#[]⟩ [] ts.length h.1 ts 0 K d (by omega) h.2]
theorem raF_liL {RN : ByteArray → Bool} {RL : Lv → Bool} (c kd n : Int) (nm : ByteArray) (ls : List Lv) (m : Nat) {k : Int} (h : Trm.shape RN RL kd n nm ls m k = true) : ∀ (ts : List Tm) (i : Nat) (K : Int) (d : Nat), i + ts.length ≤ m → okTL RN RL kd ts i K = true → subL (raF c 0) kd m ts i d = liTL c kd ts i d
 | [], _, _, _, _, _ => by rw [subL, liTL]
 | a :: ts, i, K, d, hi, ho => by
  rw [List.length_cons] at hi
  rw [okTL, Bool.and_eq_true] at ho
  rw [subL, liTL, raF_li c a _ _ ho.1, raF_liL c kd n nm ls m h ts (i + 1) K d (by omega) ho.2, bndP_under h i (by omega)]
  rfl
end
def instF (args : List Tm) : Tm → Nat → Tm
 | .mk k n m ls ts, d => if k = 1 ∧ (d : Int) ≤ n then (if n - d < args.length then subT (raF d 0) (args.getD (args.length - 1 - (n - d).toNat) (tvr 0)) 0 else tvr (n - args.length)) else .mk k n m ls ts
def replF (name : ByteArray) (t : Tm) : Tm → Nat → Tm
 | .mk k n m ls ts, d => if k = 3 ∧ m = name then subT (raF d 0) t 0 else .mk k n m ls ts
def fstI (m : ByteArray) : List ByteArray → Nat
 | [] => 0
 | a :: l => if a = m then 0 else fstI m l + 1
def absF (names : List ByteArray) : Tm → Nat → Tm
 | .mk k n m ls ts, d => if k = 3 ∧ fstI m names < names.length then tvr (d + names.length - 1 - fstI m names) else raF names.length 0 (.mk k n m ls ts) d
end Bnd
end Go.Proofs.YteomfakbbcpckaaGreatDoor
namespace Go.Proofs.YteomfakbbcpckaaGreatDoor
open Lvl
open Trm
namespace Bnd
mutual
theorem allT_deep {P Q : Tm → Nat → Prop} (B : Nat) (h : ∀ l e, e ≤ B → P l e → Q l e) : ∀ (t : Tm) (d : Nat), d + tnodes t ≤ B + 1 → allT P t d → allT Q t d
 | .mk k n m ls ts, d, hb, ht => by
  rw [allT] at ht ⊢
  rw [tnodes] at hb
  exact ⟨fun e => h _ _ (by omega) (ht.1 e), allL_deep B h k ts.length ts 0 d (by omega) ht.2⟩
theorem allL_deep {P Q : Tm → Nat → Prop} (B : Nat) (h : ∀ l e, e ≤ B → P l e → Q l e) (k : Int) (len : Nat) : ∀ (ts : List Tm) (i d : Nat), d + tnodesL ts ≤ B → allL P k len ts i d → allL Q k len ts i d
 | [], _, _, _, _ => by rw [allL]; trivial
 | a :: ts, i, d, hb, ht => by
  rw [allL] at ht ⊢
  rw [tnodesL] at hb
  have := bndP_le k len i
  exact ⟨allT_deep B h a _ (by omega) ht.1, allL_deep B h k len ts (i + 1) d (by omega) ht.2⟩
end
theorem nodesL_few : ∀ (ls : List Lv) (b : Nat), (∀ l ∈ ls, nodes l ≤ b) → nodesL ls ≤ ls.length * b
 | [], b, _ => by rw [nodesL]; omega
 | l :: ls, b, h => by
  rw [nodesL, List.length_cons, Nat.succ_mul]
  have h1 := h l (by simp)
  have h2 := nodesL_few ls b fun x hx => h x (by simp [hx])
  omega
theorem leaf_few {RN : ByteArray → Bool} {k n : Int} {m : ByteArray} {ls : List Lv} {K : Int} (h : okT RN (rightB 4) (.mk k n m ls []) K = true) : tnodes (.mk k n m ls []) ≤ 4001 := by
 have h' := h
 rw [okT, Bool.and_eq_true] at h'
 have h1 := lv_of_ok h'.1
 have h2 := nodesL_few ls 1000 h1
 rw [tnodes, tnodesL]
 rcases ok_leaf h with ⟨_, _, _, _, rfl⟩ | ⟨_, _, _, l, rfl, _⟩ | ⟨_, _, _, h3, _⟩
 ·rw [nodesL]; omega
 ·rw [List.length_singleton] at h2; omega
 ·have : ls.length * 1000 ≤ 4 * 1000 := Nat.mul_le_mul_right _ h3
  omega
theorem right_leaves {RN : ByteArray → Bool} {t : Tm} (h : rightT RN 4 t 1125899906842624 = true) : allT (fun l e => e ≤ 2000 ∧ okT RN (rightB 4) l (1125899906842624 + e) = true) t 0 := by
 obtain ⟨h0, h1, h2⟩ := rightT_ok h
 rw [show min (1125899906842624 : Int) 1125899906842624 = 1125899906842624 by omega] at h2
 exact allT_deep 2000 (fun l e he hl => ⟨he, hl⟩) t 0 (by omega) (ok_leaves 1125899906842624 t 0 (by simpa using h2))
theorem raised_nodes {RN : ByteArray → Bool} {RL : Lv → Bool} (c : Int) {t : Tm} {K : Int} (d : Nat) (h : okT RN RL t K = true) : tnodes (subT (raF c 0) t d) = tnodes t := by
 rw [raF_li c t K d h, liT_nodes]
mutual
theorem subT_nodes {F : Tm → Nat → Tm} {RN : ByteArray → Bool} {RL : Lv → Bool} : ∀ (t : Tm) (K : Int) (d : Nat), okT RN RL t K = true → allT (fun l e => tnodes (F l e) = tnodes l) t d → tnodes (subT F t d) = tnodes t
 | .mk k n m ls ts, K, d, h, ha => by
  rw [allT] at ha
  rw [subT]
  by_cases h0 : ts.length = 0
  ·have : ts = [] := List.length_eq_zero_iff.1 h0
   subst this
   rw [if_pos List.length_nil]
   exact ha.1 rfl
  ·obtain ⟨_, _, rfl, _⟩ := ok_inner h h0
   rw [okT, Bool.and_eq_true] at h
   rw [if_neg h0, tnodes, tnodes, subL_nodes k ts.length ts 0 K d h.2 ha.2]
theorem subL_nodes {F : Tm → Nat → Tm} {RN : ByteArray → Bool} {RL : Lv → Bool} (k : Int) (len : Nat) : ∀ (ts : List Tm) (i : Nat) (K : Int) (d : Nat), okTL RN RL k ts i K = true → allL (fun l e => tnodes (F l e) = tnodes l) k len ts i d → tnodesL (subL F k len ts i d) = tnodesL ts
 | [], _, _, _, _, _ => by rw [subL]
 | a :: ts, i, K, d, h, ha => by
  rw [okTL, Bool.and_eq_true] at h
  rw [allL] at ha
  rw [subL, tnodesL, tnodesL, subT_nodes a _ _ h.1 ha.1, subL_nodes k len ts (i + 1) K d h.2 ha.2]
end
def cRa (RN : ByteArray → Bool) : Tm → Nat → Prop := fun l _ => ∃ K : Int, K ≤ 2251799813685248 ∧ okT RN (rightB 4) l K = true ∧ (∃ k n m ls, l = .mk k n m ls [])
mutual
theorem allT_leaf {P : Tm → Nat → Prop} : ∀ (t : Tm) (d : Nat), allT P t d → allT (fun l e => P l e ∧ ∃ k n m ls, l = .mk k n m ls []) t d
 | .mk k n m ls ts, d, h => by
  rw [allT] at h ⊢
  exact ⟨fun e => ⟨h.1 e, k, n, m, ls, rfl⟩, allL_leaf k ts.length ts 0 d h.2⟩
theorem allL_leaf {P : Tm → Nat → Prop} (k : Int) (len : Nat) : ∀ (ts : List Tm) (i d : Nat), allL P k len ts i d → allL (fun l e => P l e ∧ ∃ k n m ls, l = .mk k n m ls []) k len ts i d
 | [], _, _, _ => by rw [allL]; trivial
 | a :: ts, i, d, h => by
  rw [allL] at h ⊢
  exact ⟨allT_leaf a _ h.1, allL_leaf k len ts (i + 1) d h.2⟩
end
theorem ra_leaves {RN : ByteArray → Bool} {t : Tm} (h : rightT RN 4 t 1125899906842624 = true) : allT (cRa RN) t 0 :=
 allT_mono (fun l e hl => ⟨1125899906842624 + e, by omega, hl.1.2, hl.2⟩) t 0 (allT_leaf t 0 (right_leaves h))
theorem ra_nodes {RN : ByteArray → Bool} (by' fr : Int) {l : Tm} {d : Nat} (h : cRa RN l d) : tnodes (raF by' fr l d) = tnodes l := by
 obtain ⟨K, _, hok, k, n, m, ls, rfl⟩ := h
 rw [raF]
 split
 ·rename_i hc
  rcases ok_leaf hok with ⟨_, _, _, _, rfl⟩ | ⟨hk, _⟩ | ⟨hk, _⟩
  ·rfl
  ·omega
  ·omega
 ·rfl
theorem ra_few {RN : ByteArray → Bool} (by' fr : Int) (l : Tm) (d : Nat) (h : cRa RN l d) : tnodes (raF by' fr l d) ≤ 100000 := by
 rw [ra_nodes by' fr h]
 obtain ⟨K, _, hok, k, n, m, ls, rfl⟩ := h
 have := leaf_few hok
 omega
theorem right_nodes {RN : ByteArray → Bool} {t : Tm} (by' fr : Int) (h : rightT RN 4 t 1125899906842624 = true) : tnodes (subT (raF by' fr) t 0) = tnodes t := by
 obtain ⟨h0, h1, h2⟩ := rightT_ok h
 exact subT_nodes t _ 0 h2 (allT_mono (fun l e hl => ra_nodes by' fr hl) t 0 (ra_leaves h))
end Bnd
end Go.Proofs.YteomfakbbcpckaaGreatDoor
namespace Go.Proofs.YteomfakbbcpckaaGreatDoor
open Go.RowKit
open Lvl
open Trm
namespace Bnd
theorem run_store_fn (P : Program) (a : Addr) (fn : Fn) (first captured : Array Value) (m : Mode) (w : World) : (store a (.func fn first captured) m).run P w = stored P w a (.func fn first captured) m := run_store P w a _ m rfl
def PutC (w0 : World) (f : Nat) (lb : Array Value) (F : Tm → Nat → Tm) (C : Tm → Nat → Prop) : Prop :=
 ∀ (w1 : World) (k n : Int) (m : ByteArray) (ls : List Lv) (l : Value) (sa : Option Addr) (sc d : Nat), Below w0.heap.size w0 w1 → LvP w1 (fun _ => True) (.mk 0 0 ls) l → d ≤ 1000000 → C (.mk k n m ls []) d →
  Calls Tryz.prog f (#[.agg #[.int .i64 k, .int .i64 n, .string m, l, .slice sa 0 sc, .int .i64 d]] ++ lb) w1 (TmRet w1 (F (.mk k n m ls []) d))
def MkB (w : World) (B : Nat) (fv : Value) (r : Int) : Prop := w.heap[B]? = some (.cells #[fv, .int .i64 r] 83 (0, 0))
theorem MkB.cells {w : World} {B : Nat} {fv : Value} {r : Int} (h : MkB w B fv r) : w.cell? ⟨B, 0, none⟩ = some fv ∧ w.cell? ⟨B, 1, none⟩ = some (.int .i64 r) ∧ w.frozen? ⟨B, 1, none⟩ = false :=
 ⟨cell_of_row _ _ 0 _ 83 (0, 0) h, cell_of_row _ _ 1 _ 83 (0, 0) h, frozen0 (p := 1) h⟩
theorem MkB.set {w : World} {B : Nat} {fv : Value} {r : Int} (h : MkB w B fv r) (q : Int) : MkB (w.setCell ⟨B, 1, none⟩ (.int .i64 q)) B fv q := by
 unfold MkB at h ⊢
 unfold World.setCell
 simp [Array.getElem?_modify, h]
def MadeRet (B : Nat) (fv : Value) (w : World) (r : Int) (T : Tm) (e : Ending) (w' : World) : Prop :=
 ∃ t l s q, e = .returned (tv t l s) ∧ TmP w' (fun b => w.heap.size ≤ b) t l s ∧ MkB w' B fv q ∧ w.grownBy w' (some B) ∧ -2001 ≤ q ∧ q ≤ r ∧ ((tnodes T : Int) ≤ r → t = T ∧ q = r - tnodes T) ∧ (r < (tnodes T : Int) → q < 0)
def WithRet (T : Tm) (w : World) (e : Ending) (w' : World) : Prop :=
 Below w.heap.size w w' ∧ if tnodes T ≤ 2000 then ∃ l s, e = .returned (.tuple #[tv T l s, .bool true]) ∧ TmP w' (fun b => w.heap.size ≤ b) T l s else e = .returned (.tuple #[.agg #[.int .i64 0, .int .i64 0, .string ⟨#[]⟩, .slice none 0 0, .slice none 0 0], .bool false])
abbrev tz : Tm := .mk 0 0 ⟨#[]⟩ [] []
theorem tmP_tz (w : World) (P : Nat → Prop) : TmP w P tz (.slice none 0 0) (.slice none 0 0) := by
 rw [TmP]
 exact ⟨lvP_nil w P, none, 0, 0, rfl, rfl, Nat.le_refl _, by omega, fun _ => rfl, by rw [TsP]; trivial⟩
theorem doneTo_set {S b j : Nat} {wr w8 : World} {arr : Array Value} {us : List Tm} {u : Tm} {k n : Int} {m : ByteArray} {l s : Value} (hd : DoneTo S wr arr us us.length) (hu : j < us.length) (hb8 : ∀ q, q < wr.heap.size → S ≤ q → w8.heap[q]? = wr.heap[q]?) (hs8 : wr.heap.size ≤ w8.heap.size) (hS : b < S) (hk : tkOf u = k) (hn : tnOf u = n) (hm : tmOf u = m) (hz : j * 5 + 4 < arr.size) (ht : TmP w8 (fun q => S ≤ q) u l s) :
  DoneTo S (((((w8.setCell ⟨b, j * 5, none⟩ (.int .i64 k)).setCell ⟨b, j * 5 + 1, none⟩ (.int .i64 n)).setCell ⟨b, j * 5 + 2, none⟩ (.string m)).setCell ⟨b, j * 5 + 3, none⟩ l).setCell ⟨b, j * 5 + 4, none⟩ s) (set5 arr (j * 5) (.int .i64 k) (.int .i64 n) (.string m) l s) (us.set j u) (us.set j u).length := by
 intro i h _
 by_cases hij : i = j
 ·subst hij
  obtain ⟨c0, c1, c2, c3, c4⟩ := set5_at (x0 := .int .i64 k) (x1 := .int .i64 n) (x2 := .string m) (x3 := l) (x4 := s) hz
  rw [List.getElem_set_self]
  exact ⟨l, s, by rw [hk]; exact c0, by rw [hn]; exact c1, by rw [hm]; exact c2, c3, c4, tmP_move (fun q _ hp => ⟨hp, set5_far' w8 b (i * 5) q _ _ _ _ _ (by omega)⟩) (by rw [set5_sz]; exact Nat.le_refl _) _ _ _ ht⟩
 ·rw [List.length_set] at h
  obtain ⟨l', s', c0, c1, c2, c3, c4, ht'⟩ := hd i h h
  rw [List.getElem_set_ne (fun e => hij e.symm)]
  refine ⟨l', s', by rw [set5_far (by omega)]; exact c0, by rw [set5_far (by omega)]; exact c1, by rw [set5_far (by omega)]; exact c2, by rw [set5_far (by omega)]; exact c3, by rw [set5_far (by omega)]; exact c4, ?_⟩
  exact tmP_move (fun q hq hp => ⟨hp, (set5_far' w8 b (j * 5) q _ _ _ _ _ (by omega)).trans (hb8 q hq hp)⟩) (by rw [set5_sz]; exact hs8) _ _ _ ht'
theorem doneTo_new (S : Nat) (w : World) (sl : Nat) : DoneTo S w (madeCells (Value.agg #[.int .i64 0, .int .i64 0, .string ⟨#[]⟩, .slice none 0 0, .slice none 0 0]).cells (sl * 5)) (List.replicate sl tz) (List.replicate sl tz).length := by
 intro i h _
 rw [List.length_replicate] at h
 have hc : ∀ c, c < 5 → (madeCells (Value.agg #[.int .i64 0, .int .i64 0, .string ⟨#[]⟩, .slice none 0 0, .slice none 0 0]).cells (sl * 5))[i * 5 + c]? = (#[Value.int .i64 0, .int .i64 0, .string ⟨#[]⟩, .slice none 0 0, .slice none 0 0])[c]? := fun c hcc => by
  have hz : (Value.agg #[.int .i64 0, .int .i64 0, .string ⟨#[]⟩, .slice none 0 0, .slice none 0 0]).cells = #[Value.int .i64 0, .int .i64 0, .string ⟨#[]⟩, .slice none 0 0, .slice none 0 0] := rfl
  rw [hz]
  unfold madeCells
  rw [Array.getElem?_map, Array.getElem?_range, if_pos (by omega), Option.map_some]
  have h5 : (i * 5 + c) % 5 = c := by omega
  show some ((#[Value.int .i64 0, .int .i64 0, .string ⟨#[]⟩, .slice none 0 0, .slice none 0 0])[(i * 5 + c) % 5]!) = _
  rw [h5]
  match c, hcc with
  | 0, _ => rfl
  | 1, _ => rfl
  | 2, _ => rfl
  | 3, _ => rfl
  | 4, _ => rfl
 rw [List.getElem_replicate]
 exact ⟨_, _, hc 0 (by omega), hc 1 (by omega), hc 2 (by omega), hc 3 (by omega), hc 4 (by omega), tmP_tz _ _⟩
theorem take_set {α : Type} {l r : List α} {j : Nat} {a : α} (h : l.take j = r.take j) (hj : j < l.length) (hr : j < r.length) (ha : r[j] = a) : (l.set j a).take (j + 1) = r.take (j + 1) := by
 rw [List.take_add_one, List.take_add_one, List.take_set_of_le (Nat.le_refl j), h, List.getElem?_set_self hj, List.getElem?_eq_getElem hr, ha]
theorem grown_from {W w5 w8 : World} {Bm : Nat} (hb : Below W.heap.size W w5) (hg : w5.grownBy w8 (some Bm)) : W.grownBy w8 (some Bm) := by
 have hs := hb.size
 obtain ⟨h1, h2, h3, h4, h5⟩ := hg
 exact ⟨h1.trans hb.os, h2.trans hb.tape, h3.trans hb.output, by omega, fun k hk hne => (h5 k (by omega) hne).trans (hb.block k hk)⟩
theorem set1_own {w W : World} {b p : Nat} {x : Value} {r : Option Nat} (h : w.grownBy W r) (hb : w.heap.size ≤ b) : w.grownBy (W.setCell ⟨b, p, none⟩ x) r := by
 obtain ⟨h1, h2, h3, h4, h5⟩ := h
 exact ⟨h1, h2, h3, by rw [setCell_size]; exact h4, fun k hk hne => (setCell_far W ⟨b, p, none⟩ x k (by show k ≠ b; omega)).trans (h5 k hk hne)⟩
theorem grown6 {w W : World} {b : Nat} {Bm : Nat} {x0 x1 x2 x3 x4 : Value} (hg : w.grownBy W (some Bm)) (h : w.heap.size ≤ b) : w.grownBy (((((W.setCell ⟨b, 0, none⟩ x0).setCell ⟨b, 0 + 1, none⟩ x1).setCell ⟨b, 0 + 2, none⟩ x2).setCell ⟨b, 0 + 3, none⟩ x3).setCell ⟨b, 0 + 4, none⟩ x4) (some Bm) :=
 set1_own (set1_own (set1_own (set1_own (set1_own hg h) h) h) h) h
theorem grown5 (w W3 W7 : World) (b Bm : Nat) (x0 x1 x2 x3 x4 : Value) (hb : Below w.heap.size w W3) (hg : W3.grownBy W7 (some Bm)) (h : w.heap.size ≤ b) : w.grownBy (((((W7.setCell ⟨b, 0, none⟩ x0).setCell ⟨b, 0 + 1, none⟩ x1).setCell ⟨b, 0 + 2, none⟩ x2).setCell ⟨b, 0 + 3, none⟩ x3).setCell ⟨b, 0 + 4, none⟩ x4) (some Bm) :=
 grown6 (grown_from hb hg) h
structure KpM (w w' : World) (Bm BA : Nat) : Prop where
 os : w'.os = w.os
 tape : w'.tape = w.tape
 output : w'.output = w.output
 size : w.heap.size ≤ w'.heap.size
 block : ∀ k, k < w.heap.size → k ≠ Bm → k ≠ BA → w'.heap[k]? = w.heap[k]?
theorem KpM.refl (w : World) (Bm BA : Nat) : KpM w w Bm BA := ⟨rfl, rfl, rfl, Nat.le_refl _, fun _ _ _ _ => rfl⟩
theorem kpm_grown {w wr W7 w8 : World} {Bm BA : Nat} (h : KpM w wr Bm BA) (hb : Below wr.heap.size wr W7) (hg : W7.grownBy w8 (some Bm)) : KpM w w8 Bm BA := by
 have hs := hb.size
 have hs1 := h.size
 obtain ⟨h1, h2, h3, h4, h5⟩ := hg
 exact ⟨(h1.trans hb.os).trans h.os, (h2.trans hb.tape).trans h.tape, (h3.trans hb.output).trans h.output, by omega, fun k hk n1 n2 => (h5 k (by omega) (by simp; omega)).trans ((hb.block k (by omega)).trans (h.block k hk n1 n2))⟩
theorem kpm_set1 {w w8 : World} {Bm BA q : Nat} {x : Value} (h : KpM w w8 Bm BA) : KpM w (w8.setCell ⟨BA, q, none⟩ x) Bm BA :=
 ⟨h.os, h.tape, h.output, by rw [setCell_size]; exact h.size, fun k hk n1 n2 => (setCell_far w8 ⟨BA, q, none⟩ x k n2).trans (h.block k hk n1 n2)⟩
theorem kpm_set {w w8 : World} {Bm BA q : Nat} {x0 x1 x2 x3 x4 : Value} (h : KpM w w8 Bm BA) : KpM w (((((w8.setCell ⟨BA, q, none⟩ x0).setCell ⟨BA, q + 1, none⟩ x1).setCell ⟨BA, q + 2, none⟩ x2).setCell ⟨BA, q + 3, none⟩ x3).setCell ⟨BA, q + 4, none⟩ x4) Bm BA :=
 kpm_set1 (kpm_set1 (kpm_set1 (kpm_set1 (kpm_set1 h))))
theorem grown_kpm {w W2 W4 wr : World} {Bm BA : Nat} (hb : Below w.heap.size w W2) (hg : W2.grownBy W4 (some Bm)) (h : KpM W4 wr Bm BA) (h1 : w.heap.size ≤ BA) (h2 : W2.heap.size ≤ W4.heap.size) : w.grownBy wr (some Bm) := by
 have hs := hb.size
 obtain ⟨g1, g2, g3, g4, g5⟩ := hg
 exact ⟨(h.os.trans g1).trans hb.os, (h.tape.trans g2).trans hb.tape, (h.output.trans g3).trans hb.output, by have := h.size; omega, fun k hk hne => (h.block k (by omega) (fun e => hne (by rw [e])) (by omega)).trans ((g5 k (by omega) hne).trans (hb.block k hk))⟩
end Bnd
end Go.Proofs.YteomfakbbcpckaaGreatDoor
