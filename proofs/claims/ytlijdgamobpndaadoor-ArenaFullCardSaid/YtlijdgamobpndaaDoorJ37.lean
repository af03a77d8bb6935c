import Derived.Test.YtlijdgamobpndaaDoorJ21
import Derived.Test.YtlijdgamobpndaaDoorJ07
import Derived.Test.YtlijdgamobpndaaDoorJ30
/-
  The contracts of the reference's binds, right, Right and Any: is a term right for so many parameters and variables.
  Conditions: the term lies in memory as told by 'TmV', its names take at most 2^47 bytes each.
-/
namespace Go.Proofs.YtlijdgamobpndaaDoor
open Go.RowKit
open Lvl
namespace Trm

set_option maxRecDepth 100000 in
set_option maxHeartbeats 1000000 in
theorem refBinds_is (k : Int) (i : Nat) (w : World) (b : Bool) (hb : binds k i = b) : Calls Tryd.prog 39 #[.int .i64 k, .int .i64 i] w (Ret w (.bool b)) := by
  by_cases h5 : k = 5
  · subst h5
    by_cases i1 : i = 1
    · subst i1
      obtain rfl : b = true := by rw [← hb]; rfl
      clear hb
      go_enter Tryd.func39, Tryd.ntmps39
      go_wp2_with fail
      go_ret
      exact ⟨rfl, Below.refl _ _⟩
    · obtain rfl : b = false := by rw [← hb]; simp [binds, i1]
      have d1 : ((i : Int) == 1) = false := by simp; omega
      clear hb
      go_enter Tryd.func39, Tryd.ntmps39
      go_wp2_with fail
      go_ret
      exact ⟨rfl, Below.refl _ _⟩
  by_cases h6 : k = 6
  · subst h6
    by_cases i1 : i = 1
    · subst i1
      obtain rfl : b = true := by rw [← hb]; rfl
      clear hb
      go_enter Tryd.func39, Tryd.ntmps39
      go_wp2_with fail
      go_ret
      exact ⟨rfl, Below.refl _ _⟩
    · obtain rfl : b = false := by rw [← hb]; simp [binds, i1]
      have d1 : ((i : Int) == 1) = false := by simp; omega
      clear hb
      go_enter Tryd.func39, Tryd.ntmps39
      go_wp2_with fail
      go_ret
      exact ⟨rfl, Below.refl _ _⟩
  by_cases h7 : k = 7
  · subst h7
    by_cases i2 : i = 2
    · subst i2
      obtain rfl : b = true := by rw [← hb]; rfl
      clear hb
      go_enter Tryd.func39, Tryd.ntmps39
      go_wp2_with fail
      go_ret
      exact ⟨rfl, Below.refl _ _⟩
    · obtain rfl : b = false := by rw [← hb]; simp [binds, i2]
      have d1 : ((i : Int) == 2) = false := by simp; omega
      clear hb
      go_enter Tryd.func39, Tryd.ntmps39
      go_wp2_with fail
      go_ret
      exact ⟨rfl, Below.refl _ _⟩
  obtain rfl : b = false := by rw [← hb]; simp [binds, h5, h6, h7]
  have d5 : (k == 5) = false := by simp; omega
  have d6 : (k == 6) = false := by simp; omega
  have d7 : (k == 7) = false := by simp; omega
  clear hb
  go_enter Tryd.func39, Tryd.ntmps39
  go_wp2_with fail
  go_ret
  exact ⟨rfl, Below.refl _ _⟩

theorem okTL_append (RN : ByteArray → Bool) (RL : Lv → Bool) (kd : Int) : ∀ (l r : List Tm) (i : Nat) (k : Int), okTL RN RL kd (l ++ r) i k = (okTL RN RL kd l i k && okTL RN RL kd r (i + l.length) k)
  | [], r, i, k => by rw [List.nil_append, okTL, Bool.true_and, List.length_nil, Nat.add_zero]
  | a :: l, r, i, k => by rw [List.cons_append, okTL, okTL, okTL_append RN RL kd l r, Bool.and_assoc, List.length_cons, show i + 1 + l.length = i + (l.length + 1) by omega]
theorem okTL_take (RN : ByteArray → Bool) (RL : Lv → Bool) (kd : Int) {ts : List Tm} {j : Nat} (h : j < ts.length) (k : Int) : okTL RN RL kd (ts.take (j + 1)) 0 k = (okTL RN RL kd (ts.take j) 0 k && okT RN RL ts[j] (under kd j k)) := by
  rw [List.take_add_one, List.getElem?_eq_getElem h, okTL_append, Nat.zero_add, List.length_take, Nat.min_eq_left (by omega)]
  simp [okTL]
theorem okTL_no (RN : ByteArray → Bool) (RL : Lv → Bool) (kd : Int) {ts : List Tm} {j : Nat} {k : Int} (h : okTL RN RL kd (ts.take j) 0 k = false) : okTL RN RL kd ts 0 k = false := by
  have := okTL_append RN RL kd (ts.take j) (ts.drop j) 0 k
  rw [List.take_append_drop] at this
  rw [this, h, Bool.false_and]
theorem all_take {RL : Lv → Bool} {ls : List Lv} {j : Nat} (h : j < ls.length) : (ls.take (j + 1)).all RL = ((ls.take j).all RL && RL ls[j]) := by
  rw [List.take_add_one, List.getElem?_eq_getElem h, List.all_append]
  simp
theorem all_no {RL : Lv → Bool} {ls : List Lv} {j : Nat} (hj : j < ls.length) (h : RL ls[j] = false) : ls.all RL = false := by
  rw [Bool.eq_false_iff]
  intro hall
  have := List.all_eq_true.1 hall ls[j] (List.getElem_mem hj)
  rw [h] at this
  cases this

set_option maxRecDepth 100000 in
set_option maxHeartbeats 4000000 in
theorem refRightT_up (nn : Int) : ∀ (N : Nat) (t : Tm) (v : Value) (kk : Int) (w : World) (b : Bool), tnodes t ≤ N → nmOk t → TmV w t v → 0 ≤ kk → kk + N ≤ 1125899907842624 → okT Nm.rightB (rightB nn) t kk = b →
    Calls Tryd.prog 32 #[v, .int .i64 nn, .int .i64 kk] w (Ret w (.bool b)) := by
  intro N
  induction N with
  | zero => intro t v kk w b h _ _ _ _ _; have := tnodes_pos t; omega
  | succ N ih =>
  intro t v kk w b hN hnm hv hk0 hk1 hb
  obtain ⟨l, s, rfl, ht⟩ := hv
  cases t with
  | mk k n m ls ts =>
  rw [TmP, LvP] at ht
  obtain ⟨⟨LA, ll, lc, rfl, l1, l2, l3, l4, l5⟩, A, len, cap, rfl, h1, h2, h2b, h3, h4⟩ := ht
  rw [nmOk] at hnm
  rw [okT] at hb
  have IH := Lib.hid ih
  have HLS := Lib.hid l5
  have HTS := Lib.hid h4
  have HLN := Lib.hid l1
  have HN := Lib.hid h1
  have HNM := Lib.hid hnm.2
  have hms := hnm.1
  have HV := Lib.hid hb
  have HNN : Hid (tnodesL ts ≤ N) := by
    rw [tnodes] at hN
    have : tnodesL ts ≤ N := by omega
    exact this
  clear h4 h1 h3 l5 l1 l4 hN ih hnm hb
  show Calls Tryd.prog 32 #[.agg #[.int .i64 k, .int .i64 n, .string m, .slice LA ll lc, .slice A len cap], .int .i64 nn, .int .i64 kk] w (Ret w (.bool b))
  go_enter Tryd.func32, Tryd.ntmps32
  go_wp2_with fail
  have z1 : (w.alloc (.cells #[.int .i64 k, .int .i64 n, .string m, .slice LA ll lc, .slice A len cap] 25)).heap.size = w.heap.size + 1 := by simp
  have r0 : (w.alloc (.cells #[.int .i64 k, .int .i64 n, .string m, .slice LA ll lc, .slice A len cap] 25)).heap[w.heap.size]? = some (Obj.cells #[.int .i64 k, .int .i64 n, .string m, .slice LA ll lc, .slice A len cap] 25 (0, 0)) := by
    have := heap_alloc_new w (.cells #[.int .i64 k, .int .i64 n, .string m, .slice LA ll lc, .slice A len cap] 25)
    exact this
  have HB := Lib.hid (below_lit w (.cells #[.int .i64 k, .int .i64 n, .string m, .slice LA ll lc, .slice A len cap] 25))
  have HR0 := Lib.hid (r0)
  clear r0
  generalize (w.alloc (.cells #[.int .i64 k, .int .i64 n, .string m, .slice LA ll lc, .slice A len cap] 25)) = W at *
  have HZ := Lib.hid z1
  clear z1
  have hz := HZ.out
  have hk : Hid (∀ W', Below W.heap.size W W' → W'.cell? ⟨w.heap.size, 0, none⟩ = some (.int .i64 k) ∧ W'.cell? ⟨w.heap.size, 1, none⟩ = some (.int .i64 n) ∧ W'.cell? ⟨w.heap.size, 2, none⟩ = some (.string m) ∧ W'.cell? ⟨w.heap.size, 3, none⟩ = some (.slice LA ll lc) ∧ W'.cell? ⟨w.heap.size, 4, none⟩ = some (.slice A len cap)) := fun W' h => five_cells ((h.block w.heap.size (by omega)).trans HR0.out)
  clear HR0
  go_loopw [7] (fun i wr => ∃ j : Nat, j ≤ ll ∧ i = .int .i64 j ∧ Hid ((ls.take j).all (rightB nn) = true) ∧ Hid (Below W.heap.size W wr)) (fun i _ => ll - (intOf i).toNat)
  case atStart => exact ⟨0, Nat.zero_le _, rfl, by rw [List.take_zero]; exact rfl, Below.refl _ _⟩
  case round =>
    obtain ⟨j, hj, rfl, hal, hgr⟩ := hrel
    obtain ⟨a0, a1, a2, a3, a4⟩ := hk.out wr hgr.out
    by_cases hlt : j < ll
    · have hx1 : j < ls.length := by rw [HLN.out]; exact hlt
      have hln : decide ((j : Int) < (ll : Int)) = true := by simp; omega
      obtain ⟨bq, o, s, rfl, hbs, _, hc0, hc1, hc2, hls⟩ := lsP_get HLS.out j hx1
      have HB2 := Lib.hid (HB.out.trans (hgr.out.mono HB.out.size))
      have hc0 := (HB2.out.cell (p := ⟨bq, _, none⟩) hbs).trans hc0
      have hc1 := (HB2.out.cell (p := ⟨bq, _, none⟩) hbs).trans hc1
      have hc2 := (HB2.out.cell (p := ⟨bq, _, none⟩) hbs).trans hc2
      obtain ⟨br, hbr⟩ : ∃ b, rightB nn ls[j] = b := ⟨_, rfl⟩
      have HCALL := Lib.hid (refRight_any ls[j] (.agg #[.int .i64 (kindOf ls[j]), .int .i64 (numOf ls[j]), s]) nn wr ⟨s, rfl, lvS_below HB2.out _ _ (lvS_of _ _ hls)⟩ br hbr)
      have HBR := Lib.hid hbr
      have HAT := Lib.hid (all_take (RL := rightB nn) hx1)
      have HX1 := Lib.hid hx1
      have q1 : (0 : Int) ≤ (j : Int) := by omega
      have q2 : (j : Int) < (ll : Int) := by omega
      generalize kindOf ls[j] = ki at *
      generalize numOf ls[j] = nu at *
      clear hls hbr
      go_wp2_with fail
      refine HCALL.out.mono ?_
      rintro e w5 ⟨rfl, hb5⟩
      have HB5 := Lib.hid hb5
      clear hb5 a0 a1 a2 a3 a4 hc0 hc1 hc2
      cases br with
      | false =>
        have hbf : b = false := by
          rw [← HV.out]
          unfold shape
          rw [all_no HX1.out HBR.out, Bool.false_and, Bool.false_and]
        subst hbf
        go_wp2_with fail
        go_ret
        exact ⟨rfl, HB.out.trans ((hgr.out.trans (HB5.out.mono hgr.out.size)).mono HB.out.size)⟩
      | true =>
        have HAL : Hid ((ls.take (j + 1)).all (rightB nn) = true) := by
          have : (ls.take (j + 1)).all (rightB nn) = true := by rw [HAT.out, hal.out, HBR.out, Bool.and_self]
          exact this
        go_wp2_with fail
        go_roundw
        case rel => exact ⟨j + 1, by omega, by go_num, HAL.out, hgr.out.trans (HB5.out.mono hgr.out.size)⟩
        case measure => simp [intOf]; omega
    · obtain rfl : j = ll := by omega
      have hln : decide ((j : Int) < (j : Int)) = false := by simp
      have HAL : Hid (ls.all (rightB nn) = true) := by
        have h1 := hal.out
        rw [List.take_of_length_le (by rw [HLN.out]; exact Nat.le_refl _)] at h1
        exact h1
      have HLL := Lib.hid HLN.out
      clear hal HLS HLN hln
      by_cases k1 : k = 1
      · subst k1
        by_cases n0 : n < 0
        · have d0 : decide (n < 0) = true := by simp; omega
          have hbf : b = false := by
            rw [← HV.out]
            have hl := HLL.out
            have ht := HN.out
            unfold shape
            simp [show ¬ 0 ≤ n by omega]
          subst hbf
          go_wp2_with fail
          go_ret
          exact ⟨rfl, HB.out.trans (hgr.out.mono HB.out.size)⟩
        have d0 : decide (n < 0) = false := by simp; omega
        by_cases n1 : kk ≤ n
        · have d1 : decide (kk ≤ n) = true := by simp; omega
          have hbf : b = false := by
            rw [← HV.out]
            have hl := HLL.out
            have ht := HN.out
            unfold shape
            simp [show ¬ n < kk by omega]
          subst hbf
          go_wp2_with fail
          go_ret
          exact ⟨rfl, HB.out.trans (hgr.out.mono HB.out.size)⟩
        have d1 : decide (kk ≤ n) = false := by simp; omega
        by_cases hm0 : ¬ m.size = 0
        · have hnm : m.toList.isEmpty = false := isEmpty_no hm0
          have hbf : b = false := by
            rw [← HV.out]
            have hl := HLL.out
            have ht := HN.out
            unfold shape
            simp [hm0]
          subst hbf
          go_wp2_with fail
          go_ret
          exact ⟨rfl, HB.out.trans (hgr.out.mono HB.out.size)⟩
        have hm0 := Classical.not_not.1 hm0
        have hnm : m.toList.isEmpty = true := isEmpty_yes hm0
        by_cases hl0 : ¬ j = 0
        · have dl : ((j : Int) == 0) = false := by simp; omega
          have dl2 : ((j : Int) != 0) = true := by simp; omega
          have hbf : b = false := by
            rw [← HV.out]
            have hl := HLL.out
            have ht := HN.out
            unfold shape
            simp [hl, show ¬ j = 0 from hl0]
          subst hbf
          go_wp2_with fail
          go_ret
          exact ⟨rfl, HB.out.trans (hgr.out.mono HB.out.size)⟩
        have hl0 := Classical.not_not.1 hl0
        subst hl0
        by_cases ha0 : ¬ len = 0
        · have da : ((len : Int) == 0) = false := by simp; omega
          have da2 : ((len : Int) != 0) = true := by simp; omega
          have hbf : b = false := by
            rw [← HV.out]
            have hl := HLL.out
            have ht := HN.out
            unfold shape
            simp [ht, show ¬ len = 0 from ha0]
          subst hbf
          go_wp2_with fail
          go_ret
          exact ⟨rfl, HB.out.trans (hgr.out.mono HB.out.size)⟩
        have ha0 := Classical.not_not.1 ha0
        subst ha0
        have hts : ts = [] := List.length_eq_zero_iff.1 HN.out
        have hbt : b = true := by
          have h2 := HAL.out
          have h3 := HLL.out
          rw [← HV.out, hts, okTL, Bool.and_true]
          unfold shape
          simp [h2, h3, show 0 ≤ n by omega, show n < kk by omega, hm0]
        subst hbt
        go_wp2_with fail
        generalize wr = W1 at *
        go_loopw [10] (fun i wr => i = .int .i64 0 ∧ Hid (Below W.heap.size W wr)) (fun _ _ => 0)
        case atStart => exact ⟨rfl, hgr.out⟩
        case round =>
          obtain ⟨rfl, hgr⟩ := hrel
          go_wp2_with fail
          go_ret
          exact ⟨rfl, HB.out.trans (hgr.out.mono HB.out.size)⟩
      by_cases k2 : k = 2
      · subst k2
        by_cases hn : ¬ n = 0
        · have dn : (n != 0) = true := by simp [hn]
          have dn2 : (!(n == 0)) = true := by simp [hn]
          have dn3 : (n == 0) = false := by simp [hn]
          have hbf : b = false := by
            rw [← HV.out]
            have hl := HLL.out
            have ht := HN.out
            unfold shape
            simp [hn]
          subst hbf
          go_wp2_with fail
          go_ret
          exact ⟨rfl, HB.out.trans (hgr.out.mono HB.out.size)⟩
        have hn := Classical.not_not.1 hn
        subst hn
        by_cases hm0 : ¬ m.size = 0
        · have hnm : m.toList.isEmpty = false := isEmpty_no hm0
          have hbf : b = false := by
            rw [← HV.out]
            have hl := HLL.out
            have ht := HN.out
            unfold shape
            simp [hm0]
          subst hbf
          go_wp2_with fail
          go_ret
          exact ⟨rfl, HB.out.trans (hgr.out.mono HB.out.size)⟩
        have hm0 := Classical.not_not.1 hm0
        have hnm : m.toList.isEmpty = true := isEmpty_yes hm0
        by_cases hl0 : ¬ j = 1
        · have dl : ((j : Int) == 1) = false := by simp; omega
          have dl2 : ((j : Int) != 1) = true := by simp; omega
          have hbf : b = false := by
            rw [← HV.out]
            have hl := HLL.out
            have ht := HN.out
            unfold shape
            simp [hl, show ¬ j = 1 from hl0]
          subst hbf
          go_wp2_with fail
          go_ret
          exact ⟨rfl, HB.out.trans (hgr.out.mono HB.out.size)⟩
        have hl0 := Classical.not_not.1 hl0
        subst hl0
        by_cases ha0 : ¬ len = 0
        · have da : ((len : Int) == 0) = false := by simp; omega
          have da2 : ((len : Int) != 0) = true := by simp; omega
          have hbf : b = false := by
            rw [← HV.out]
            have hl := HLL.out
            have ht := HN.out
            unfold shape
            simp [ht, show ¬ len = 0 from ha0]
          subst hbf
          go_wp2_with fail
          go_ret
          exact ⟨rfl, HB.out.trans (hgr.out.mono HB.out.size)⟩
        have ha0 := Classical.not_not.1 ha0
        subst ha0
        have hts : ts = [] := List.length_eq_zero_iff.1 HN.out
        have hbt : b = true := by
          have h2 := HAL.out
          have h3 := HLL.out
          rw [← HV.out, hts, okTL, Bool.and_true]
          unfold shape
          simp [h2, h3, hm0]
        subst hbt
        go_wp2_with fail
        generalize wr = W1 at *
        go_loopw [10] (fun i wr => i = .int .i64 0 ∧ Hid (Below W.heap.size W wr)) (fun _ _ => 0)
        case atStart => exact ⟨rfl, hgr.out⟩
        case round =>
          obtain ⟨rfl, hgr⟩ := hrel
          go_wp2_with fail
          go_ret
          exact ⟨rfl, HB.out.trans (hgr.out.mono HB.out.size)⟩
      by_cases k3 : k = 3
      · subst k3
        obtain ⟨bn, hbn⟩ : ∃ b, Nm.rightB m = b := ⟨_, rfl⟩
        have HBN := Lib.hid hbn
        have HCN := Lib.hid (refName_any m wr hms)
        rw [hbn] at HCN
        clear hbn
        go_wp2_with fail
        refine HCN.out.mono ?_
        rintro e w5 ⟨rfl, rfl⟩
        cases bn with
        | false =>
          have hbf : b = false := by
            rw [← HV.out]
            have hl := HLL.out
            have ht := HN.out
            unfold shape
            simp [HBN.out]
          subst hbf
          go_wp2_with fail
          go_ret
          exact ⟨rfl, HB.out.trans (hgr.out.mono HB.out.size)⟩
        | true =>
          by_cases h4 : 4 < j
          · have d4 : decide ((4 : Int) < (j : Int)) = true := by simp; omega
            have hbf : b = false := by
              rw [← HV.out]
              have hl := HLL.out
              have ht := HN.out
              unfold shape
              simp [hl, show ¬ j ≤ 4 by omega]
            subst hbf
            go_wp2_with fail
            go_ret
            exact ⟨rfl, HB.out.trans (hgr.out.mono HB.out.size)⟩
          have d4 : decide ((4 : Int) < (j : Int)) = false := by simp; omega
          by_cases hn : ¬ n = 0
          · have dn : (n != 0) = true := by simp [hn]
            have dn2 : (!(n == 0)) = true := by simp [hn]
            have dn3 : (n == 0) = false := by simp [hn]
            have hbf : b = false := by
              rw [← HV.out]
              have hl := HLL.out
              have ht := HN.out
              unfold shape
              simp [hn]
            subst hbf
            go_wp2_with fail
            go_ret
            exact ⟨rfl, HB.out.trans (hgr.out.mono HB.out.size)⟩
          have hn := Classical.not_not.1 hn
          subst hn
          by_cases ha0 : ¬ len = 0
          · have da : ((len : Int) == 0) = false := by simp; omega
            have da2 : ((len : Int) != 0) = true := by simp; omega
            have hbf : b = false := by
              rw [← HV.out]
              have hl := HLL.out
              have ht := HN.out
              unfold shape
              simp [ht, show ¬ len = 0 from ha0]
            subst hbf
            go_wp2_with fail
            go_ret
            exact ⟨rfl, HB.out.trans (hgr.out.mono HB.out.size)⟩
          have ha0 := Classical.not_not.1 ha0
          subst ha0
          have hts : ts = [] := List.length_eq_zero_iff.1 HN.out
          have hbt : b = true := by
            have h2 := HAL.out
            have h3 := HLL.out
            rw [← HV.out, hts, okTL, Bool.and_true]
            unfold shape
            simp [h2, h3, HBN.out, show j ≤ 4 by omega]
          subst hbt
          go_wp2_with fail
          generalize wr = W1 at *
          go_loopw [10] (fun i wr => i = .int .i64 0 ∧ Hid (Below W.heap.size W wr)) (fun _ _ => 0)
          case atStart => exact ⟨rfl, hgr.out⟩
          case round =>
            obtain ⟨rfl, hgr⟩ := hrel
            go_wp2_with fail
            go_ret
            exact ⟨rfl, HB.out.trans (hgr.out.mono HB.out.size)⟩
      by_cases k4 : k = 4
      · subst k4
        by_cases hn : ¬ n = 0
        · have dn : (n != 0) = true := by simp [hn]
          have dn2 : (!(n == 0)) = true := by simp [hn]
          have dn3 : (n == 0) = false := by simp [hn]
          have hbf : b = false := by
            rw [← HV.out]
            have hl := HLL.out
            have ht := HN.out
            unfold shape
            simp [hn]
          subst hbf
          go_wp2_with fail
          go_ret
          exact ⟨rfl, HB.out.trans (hgr.out.mono HB.out.size)⟩
        have hn := Classical.not_not.1 hn
        subst hn
        by_cases hm0 : ¬ m.size = 0
        · have hnm : m.toList.isEmpty = false := isEmpty_no hm0
          have hbf : b = false := by
            rw [← HV.out]
            have hl := HLL.out
            have ht := HN.out
            unfold shape
            simp [hm0]
          subst hbf
          go_wp2_with fail
          go_ret
          exact ⟨rfl, HB.out.trans (hgr.out.mono HB.out.size)⟩
        have hm0 := Classical.not_not.1 hm0
        have hnm : m.toList.isEmpty = true := isEmpty_yes hm0
        by_cases hl0 : ¬ j = 0
        · have dl : ((j : Int) == 0) = false := by simp; omega
          have dl2 : ((j : Int) != 0) = true := by simp; omega
          have hbf : b = false := by
            rw [← HV.out]
            have hl := HLL.out
            have ht := HN.out
            unfold shape
            simp [hl, show ¬ j = 0 from hl0]
          subst hbf
          go_wp2_with fail
          go_ret
          exact ⟨rfl, HB.out.trans (hgr.out.mono HB.out.size)⟩
        have hl0 := Classical.not_not.1 hl0
        subst hl0
        by_cases ha0 : ¬ len = 2
        · have da : ((len : Int) == 2) = false := by simp; omega
          have da2 : ((len : Int) != 2) = true := by simp; omega
          have hbf : b = false := by
            rw [← HV.out]
            have hl := HLL.out
            have ht := HN.out
            unfold shape
            simp [ht, show ¬ len = 2 from ha0]
          subst hbf
          go_wp2_with fail
          go_ret
          exact ⟨rfl, HB.out.trans (hgr.out.mono HB.out.size)⟩
        have ha0 := Classical.not_not.1 ha0
        subst ha0
        go_wp2_with fail
        generalize wr = W1 at *
        go_loopw [10] (fun i wr => ∃ j : Nat, j ≤ 2 ∧ i = .int .i64 j ∧ Hid (okTL Nm.rightB (rightB nn) 4 (ts.take j) 0 kk = true) ∧ Hid (Below W.heap.size W wr)) (fun i _ => 2 - (intOf i).toNat)
        case atStart => exact ⟨0, Nat.zero_le _, rfl, by rw [List.take_zero, okTL]; exact rfl, hgr.out⟩
        case round =>
          obtain ⟨j, hj, rfl, hal, hgr⟩ := hrel
          obtain ⟨a0, a1, a2, a3, a4⟩ := hk.out wr hgr.out
          by_cases hlt : j < 2
          · have hx1 : j < ts.length := by rw [HN.out]; exact hlt
            have hln : decide ((j : Int) < 2) = true := by simp; omega
            obtain ⟨bq, o, l1, s1, rfl, hbs, _, hc0, hc1, hc2, hc3, hc4, htm⟩ := tsP_get HTS.out j hx1
            obtain ⟨⟨xa, xl, xc, rfl⟩, ya, yl, yc, rfl⟩ := tmP_slices htm
            have HB2 := Lib.hid (HB.out.trans (hgr.out.mono HB.out.size))
            obtain ⟨br, hbr⟩ : ∃ b, okT Nm.rightB (rightB nn) ts[j] (under 4 j kk) = b := ⟨_, rfl⟩
            have hcall := fun (w' : World) (hw : Below w.heap.size w w') => IH.out ts[j] (tv ts[j] (.slice xa xl xc) (.slice ya yl yc)) (under 4 j kk) w' br (Nat.le_trans (tnodes_mem (List.getElem_mem hx1)) HNN.out) (nmOkL_mem HNM.out (List.getElem_mem hx1)) ⟨_, _, rfl, tmP_below hw htm⟩ (by unfold under; split <;> omega) (by unfold under; split <;> omega) hbr
            have HCALL := Lib.hid hcall
            dsimp only [tv] at HCALL
            have HBR := Lib.hid hbr
            have HOT := Lib.hid (okTL_take Nm.rightB (rightB nn) 4 hx1 kk)
            have hke : Hid (∀ W', Below w.heap.size w W' → W'.cell? ⟨bq, o + j * 5, none⟩ = some (.int .i64 (tkOf ts[j])) ∧ W'.cell? ⟨bq, o + j * 5 + 1, none⟩ = some (.int .i64 (tnOf ts[j])) ∧ W'.cell? ⟨bq, o + j * 5 + 2, none⟩ = some (.string (tmOf ts[j])) ∧ W'.cell? ⟨bq, o + j * 5 + 3, none⟩ = some (.slice xa xl xc) ∧ W'.cell? ⟨bq, o + j * 5 + 4, none⟩ = some (.slice ya yl yc)) := fun W' h => ⟨(h.cell (p := ⟨bq, _, none⟩) hbs).trans hc0, (h.cell (p := ⟨bq, _, none⟩) hbs).trans hc1, (h.cell (p := ⟨bq, _, none⟩) hbs).trans hc2, (h.cell (p := ⟨bq, _, none⟩) hbs).trans hc3, (h.cell (p := ⟨bq, _, none⟩) hbs).trans hc4⟩
            have q1 : (0 : Int) ≤ (j : Int) := by omega
            have q2 : (j : Int) < 2 := by omega
            generalize tkOf ts[j] = ka at *
            generalize tnOf ts[j] = na at *
            generalize tmOf ts[j] = ma at *
            clear htm hcall hbr hc0 hc1 hc2 hc3 hc4
            obtain ⟨bb, hbb⟩ : ∃ b, binds 4 j = b := ⟨_, rfl⟩
            go_wp2_with fail
            refine (refBinds_is 4 j wr bb hbb).mono ?_
            rintro e w5 ⟨rfl, hb5⟩
            have HB5 := Lib.hid (hgr.out.trans (hb5.mono hgr.out.size))
            clear hb5 a0 a1 a2 a3 a4
            obtain ⟨a0, a1, a2, a3, a4⟩ := hk.out w5 HB5.out
            have HB6 := Lib.hid (HB.out.trans (HB5.out.mono HB.out.size))
            obtain ⟨e0, e1, e2, e3, e4⟩ := hke.out w5 HB6.out
            cases bb with
            | false =>
              have hu : under 4 j kk = kk := by unfold under; rw [hbb]; rfl
              rw [hu] at HCALL
              go_wp2_with fail
              refine (HCALL.out w5 HB6.out).mono ?_
              rintro e w7 ⟨rfl, hb7⟩
              have HB7 := Lib.hid (HB5.out.trans (hb7.mono HB5.out.size))
              clear hb7 a0 a1 a2 a3 a4 e0 e1 e2 e3 e4
              cases br with
              | false =>
                have hbf : b = false := by
                  rw [← HV.out, okTL_no Nm.rightB (rightB nn) 4 (j := j + 1) (by rw [HOT.out, HBR.out, Bool.and_false]), Bool.and_false]
                subst hbf
                go_wp2_with fail
                go_ret
                exact ⟨rfl, HB.out.trans (HB7.out.mono HB.out.size)⟩
              | true =>
                have HAL : Hid (okTL Nm.rightB (rightB nn) 4 (ts.take (j + 1)) 0 kk = true) := by
                  have : okTL Nm.rightB (rightB nn) 4 (ts.take (j + 1)) 0 kk = true := by rw [HOT.out, hal.out, HBR.out, Bool.and_self]
                  exact this
                go_wp2_with fail
                go_roundw
                case rel => exact ⟨j + 1, by omega, by go_num, HAL.out, HB7.out⟩
                case measure => simp [intOf]; omega
            | true =>
              have hu : under 4 j kk = (kk + 1) := by unfold under; rw [hbb]; rfl
              rw [hu] at HCALL
              go_wp2_with fail
              refine (HCALL.out w5 HB6.out).mono ?_
              rintro e w7 ⟨rfl, hb7⟩
              have HB7 := Lib.hid (HB5.out.trans (hb7.mono HB5.out.size))
              clear hb7 a0 a1 a2 a3 a4 e0 e1 e2 e3 e4
              cases br with
              | false =>
                have hbf : b = false := by
                  rw [← HV.out, okTL_no Nm.rightB (rightB nn) 4 (j := j + 1) (by rw [HOT.out, HBR.out, Bool.and_false]), Bool.and_false]
                subst hbf
                go_wp2_with fail
                go_ret
                exact ⟨rfl, HB.out.trans (HB7.out.mono HB.out.size)⟩
              | true =>
                have HAL : Hid (okTL Nm.rightB (rightB nn) 4 (ts.take (j + 1)) 0 kk = true) := by
                  have : okTL Nm.rightB (rightB nn) 4 (ts.take (j + 1)) 0 kk = true := by rw [HOT.out, hal.out, HBR.out, Bool.and_self]
                  exact this
                go_wp2_with fail
                go_roundw
                case rel => exact ⟨j + 1, by omega, by go_num, HAL.out, HB7.out⟩
                case measure => simp [intOf]; omega
          · have hln : decide ((j : Int) < 2) = false := by simp; omega
            have hbt : b = true := by
              have h1 := hal.out
              have h2 := HAL.out
              have h3 := HLL.out
              have h4 := HN.out
              rw [List.take_of_length_le (by omega)] at h1
              rw [← HV.out, h1]
              unfold shape
              simp [h2, h3, h4, hm0]
            subst hbt
            go_wp2_with fail
            go_ret
            exact ⟨rfl, HB.out.trans (hgr.out.mono HB.out.size)⟩
      by_cases k5 : k = 5
      · subst k5
        by_cases hn : ¬ n = 0
        · have dn : (n != 0) = true := by simp [hn]
          have dn2 : (!(n == 0)) = true := by simp [hn]
          have dn3 : (n == 0) = false := by simp [hn]
          have hbf : b = false := by
            rw [← HV.out]
            have hl := HLL.out
            have ht := HN.out
            unfold shape
            simp [hn]
          subst hbf
          go_wp2_with fail
          go_ret
          exact ⟨rfl, HB.out.trans (hgr.out.mono HB.out.size)⟩
        have hn := Classical.not_not.1 hn
        subst hn
        by_cases hm0 : ¬ m.size = 0
        · have hnm : m.toList.isEmpty = false := isEmpty_no hm0
          have hbf : b = false := by
            rw [← HV.out]
            have hl := HLL.out
            have ht := HN.out
            unfold shape
            simp [hm0]
          subst hbf
          go_wp2_with fail
          go_ret
          exact ⟨rfl, HB.out.trans (hgr.out.mono HB.out.size)⟩
        have hm0 := Classical.not_not.1 hm0
        have hnm : m.toList.isEmpty = true := isEmpty_yes hm0
        by_cases hl0 : ¬ j = 0
        · have dl : ((j : Int) == 0) = false := by simp; omega
          have dl2 : ((j : Int) != 0) = true := by simp; omega
          have hbf : b = false := by
            rw [← HV.out]
            have hl := HLL.out
            have ht := HN.out
            unfold shape
            simp [hl, show ¬ j = 0 from hl0]
          subst hbf
          go_wp2_with fail
          go_ret
          exact ⟨rfl, HB.out.trans (hgr.out.mono HB.out.size)⟩
        have hl0 := Classical.not_not.1 hl0
        subst hl0
        by_cases ha0 : ¬ len = 2
        · have da : ((len : Int) == 2) = false := by simp; omega
          have da2 : ((len : Int) != 2) = true := by simp; omega
          have hbf : b = false := by
            rw [← HV.out]
            have hl := HLL.out
            have ht := HN.out
            unfold shape
            simp [ht, show ¬ len = 2 from ha0]
          subst hbf
          go_wp2_with fail
          go_ret
          exact ⟨rfl, HB.out.trans (hgr.out.mono HB.out.size)⟩
        have ha0 := Classical.not_not.1 ha0
        subst ha0
        go_wp2_with fail
        generalize wr = W1 at *
        go_loopw [10] (fun i wr => ∃ j : Nat, j ≤ 2 ∧ i = .int .i64 j ∧ Hid (okTL Nm.rightB (rightB nn) 5 (ts.take j) 0 kk = true) ∧ Hid (Below W.heap.size W wr)) (fun i _ => 2 - (intOf i).toNat)
        case atStart => exact ⟨0, Nat.zero_le _, rfl, by rw [List.take_zero, okTL]; exact rfl, hgr.out⟩
        case round =>
          obtain ⟨j, hj, rfl, hal, hgr⟩ := hrel
          obtain ⟨a0, a1, a2, a3, a4⟩ := hk.out wr hgr.out
          by_cases hlt : j < 2
          · have hx1 : j < ts.length := by rw [HN.out]; exact hlt
            have hln : decide ((j : Int) < 2) = true := by simp; omega
            obtain ⟨bq, o, l1, s1, rfl, hbs, _, hc0, hc1, hc2, hc3, hc4, htm⟩ := tsP_get HTS.out j hx1
            obtain ⟨⟨xa, xl, xc, rfl⟩, ya, yl, yc, rfl⟩ := tmP_slices htm
            have HB2 := Lib.hid (HB.out.trans (hgr.out.mono HB.out.size))
            obtain ⟨br, hbr⟩ : ∃ b, okT Nm.rightB (rightB nn) ts[j] (under 5 j kk) = b := ⟨_, rfl⟩
            have hcall := fun (w' : World) (hw : Below w.heap.size w w') => IH.out ts[j] (tv ts[j] (.slice xa xl xc) (.slice ya yl yc)) (under 5 j kk) w' br (Nat.le_trans (tnodes_mem (List.getElem_mem hx1)) HNN.out) (nmOkL_mem HNM.out (List.getElem_mem hx1)) ⟨_, _, rfl, tmP_below hw htm⟩ (by unfold under; split <;> omega) (by unfold under; split <;> omega) hbr
            have HCALL := Lib.hid hcall
            dsimp only [tv] at HCALL
            have HBR := Lib.hid hbr
            have HOT := Lib.hid (okTL_take Nm.rightB (rightB nn) 5 hx1 kk)
            have hke : Hid (∀ W', Below w.heap.size w W' → W'.cell? ⟨bq, o + j * 5, none⟩ = some (.int .i64 (tkOf ts[j])) ∧ W'.cell? ⟨bq, o + j * 5 + 1, none⟩ = some (.int .i64 (tnOf ts[j])) ∧ W'.cell? ⟨bq, o + j * 5 + 2, none⟩ = some (.string (tmOf ts[j])) ∧ W'.cell? ⟨bq, o + j * 5 + 3, none⟩ = some (.slice xa xl xc) ∧ W'.cell? ⟨bq, o + j * 5 + 4, none⟩ = some (.slice ya yl yc)) := fun W' h => ⟨(h.cell (p := ⟨bq, _, none⟩) hbs).trans hc0, (h.cell (p := ⟨bq, _, none⟩) hbs).trans hc1, (h.cell (p := ⟨bq, _, none⟩) hbs).trans hc2, (h.cell (p := ⟨bq, _, none⟩) hbs).trans hc3, (h.cell (p := ⟨bq, _, none⟩) hbs).trans hc4⟩
            have q1 : (0 : Int) ≤ (j : Int) := by omega
            have q2 : (j : Int) < 2 := by omega
            generalize tkOf ts[j] = ka at *
            generalize tnOf ts[j] = na at *
            generalize tmOf ts[j] = ma at *
            clear htm hcall hbr hc0 hc1 hc2 hc3 hc4
            obtain ⟨bb, hbb⟩ : ∃ b, binds 5 j = b := ⟨_, rfl⟩
            go_wp2_with fail
            refine (refBinds_is 5 j wr bb hbb).mono ?_
            rintro e w5 ⟨rfl, hb5⟩
            have HB5 := Lib.hid (hgr.out.trans (hb5.mono hgr.out.size))
            clear hb5 a0 a1 a2 a3 a4
            obtain ⟨a0, a1, a2, a3, a4⟩ := hk.out w5 HB5.out
            have HB6 := Lib.hid (HB.out.trans (HB5.out.mono HB.out.size))
            obtain ⟨e0, e1, e2, e3, e4⟩ := hke.out w5 HB6.out
            cases bb with
            | false =>
              have hu : under 5 j kk = kk := by unfold under; rw [hbb]; rfl
              rw [hu] at HCALL
              go_wp2_with fail
              refine (HCALL.out w5 HB6.out).mono ?_
              rintro e w7 ⟨rfl, hb7⟩
              have HB7 := Lib.hid (HB5.out.trans (hb7.mono HB5.out.size))
              clear hb7 a0 a1 a2 a3 a4 e0 e1 e2 e3 e4
              cases br with
              | false =>
                have hbf : b = false := by
                  rw [← HV.out, okTL_no Nm.rightB (rightB nn) 5 (j := j + 1) (by rw [HOT.out, HBR.out, Bool.and_false]), Bool.and_false]
                subst hbf
                go_wp2_with fail
                go_ret
                exact ⟨rfl, HB.out.trans (HB7.out.mono HB.out.size)⟩
              | true =>
                have HAL : Hid (okTL Nm.rightB (rightB nn) 5 (ts.take (j + 1)) 0 kk = true) := by
                  have : okTL Nm.rightB (rightB nn) 5 (ts.take (j + 1)) 0 kk = true := by rw [HOT.out, hal.out, HBR.out, Bool.and_self]
                  exact this
                go_wp2_with fail
                go_roundw
                case rel => exact ⟨j + 1, by omega, by go_num, HAL.out, HB7.out⟩
                case measure => simp [intOf]; omega
            | true =>
              have hu : under 5 j kk = (kk + 1) := by unfold under; rw [hbb]; rfl
              rw [hu] at HCALL
              go_wp2_with fail
              refine (HCALL.out w5 HB6.out).mono ?_
              rintro e w7 ⟨rfl, hb7⟩
              have HB7 := Lib.hid (HB5.out.trans (hb7.mono HB5.out.size))
              clear hb7 a0 a1 a2 a3 a4 e0 e1 e2 e3 e4
              cases br with
              | false =>
                have hbf : b = false := by
                  rw [← HV.out, okTL_no Nm.rightB (rightB nn) 5 (j := j + 1) (by rw [HOT.out, HBR.out, Bool.and_false]), Bool.and_false]
                subst hbf
                go_wp2_with fail
                go_ret
                exact ⟨rfl, HB.out.trans (HB7.out.mono HB.out.size)⟩
              | true =>
                have HAL : Hid (okTL Nm.rightB (rightB nn) 5 (ts.take (j + 1)) 0 kk = true) := by
                  have : okTL Nm.rightB (rightB nn) 5 (ts.take (j + 1)) 0 kk = true := by rw [HOT.out, hal.out, HBR.out, Bool.and_self]
                  exact this
                go_wp2_with fail
                go_roundw
                case rel => exact ⟨j + 1, by omega, by go_num, HAL.out, HB7.out⟩
                case measure => simp [intOf]; omega
          · have hln : decide ((j : Int) < 2) = false := by simp; omega
            have hbt : b = true := by
              have h1 := hal.out
              have h2 := HAL.out
              have h3 := HLL.out
              have h4 := HN.out
              rw [List.take_of_length_le (by omega)] at h1
              rw [← HV.out, h1]
              unfold shape
              simp [h2, h3, h4, hm0]
            subst hbt
            go_wp2_with fail
            go_ret
            exact ⟨rfl, HB.out.trans (hgr.out.mono HB.out.size)⟩
      by_cases k6 : k = 6
      · subst k6
        by_cases hn : ¬ n = 0
        · have dn : (n != 0) = true := by simp [hn]
          have dn2 : (!(n == 0)) = true := by simp [hn]
          have dn3 : (n == 0) = false := by simp [hn]
          have hbf : b = false := by
            rw [← HV.out]
            have hl := HLL.out
            have ht := HN.out
            unfold shape
            simp [hn]
          subst hbf
          go_wp2_with fail
          go_ret
          exact ⟨rfl, HB.out.trans (hgr.out.mono HB.out.size)⟩
        have hn := Classical.not_not.1 hn
        subst hn
        by_cases hm0 : ¬ m.size = 0
        · have hnm : m.toList.isEmpty = false := isEmpty_no hm0
          have hbf : b = false := by
            rw [← HV.out]
            have hl := HLL.out
            have ht := HN.out
            unfold shape
            simp [hm0]
          subst hbf
          go_wp2_with fail
          go_ret
          exact ⟨rfl, HB.out.trans (hgr.out.mono HB.out.size)⟩
        have hm0 := Classical.not_not.1 hm0
        have hnm : m.toList.isEmpty = true := isEmpty_yes hm0
        by_cases hl0 : ¬ j = 0
        · have dl : ((j : Int) == 0) = false := by simp; omega
          have dl2 : ((j : Int) != 0) = true := by simp; omega
          have hbf : b = false := by
            rw [← HV.out]
            have hl := HLL.out
            have ht := HN.out
            unfold shape
            simp [hl, show ¬ j = 0 from hl0]
          subst hbf
          go_wp2_with fail
          go_ret
          exact ⟨rfl, HB.out.trans (hgr.out.mono HB.out.size)⟩
        have hl0 := Classical.not_not.1 hl0
        subst hl0
        by_cases ha0 : ¬ len = 2
        · have da : ((len : Int) == 2) = false := by simp; omega
          have da2 : ((len : Int) != 2) = true := by simp; omega
          have hbf : b = false := by
            rw [← HV.out]
            have hl := HLL.out
            have ht := HN.out
            unfold shape
            simp [ht, show ¬ len = 2 from ha0]
          subst hbf
          go_wp2_with fail
          go_ret
          exact ⟨rfl, HB.out.trans (hgr.out.mono HB.out.size)⟩
        have ha0 := Classical.not_not.1 ha0
        subst ha0
        go_wp2_with fail
        generalize wr = W1 at *
        go_loopw [10] (fun i wr => ∃ j : Nat, j ≤ 2 ∧ i = .int .i64 j ∧ Hid (okTL Nm.rightB (rightB nn) 6 (ts.take j) 0 kk = true) ∧ Hid (Below W.heap.size W wr)) (fun i _ => 2 - (intOf i).toNat)
        case atStart => exact ⟨0, Nat.zero_le _, rfl, by rw [List.take_zero, okTL]; exact rfl, hgr.out⟩
        case round =>
          obtain ⟨j, hj, rfl, hal, hgr⟩ := hrel
          obtain ⟨a0, a1, a2, a3, a4⟩ := hk.out wr hgr.out
          by_cases hlt : j < 2
          · have hx1 : j < ts.length := by rw [HN.out]; exact hlt
            have hln : decide ((j : Int) < 2) = true := by simp; omega
            obtain ⟨bq, o, l1, s1, rfl, hbs, _, hc0, hc1, hc2, hc3, hc4, htm⟩ := tsP_get HTS.out j hx1
            obtain ⟨⟨xa, xl, xc, rfl⟩, ya, yl, yc, rfl⟩ := tmP_slices htm
            have HB2 := Lib.hid (HB.out.trans (hgr.out.mono HB.out.size))
            obtain ⟨br, hbr⟩ : ∃ b, okT Nm.rightB (rightB nn) ts[j] (under 6 j kk) = b := ⟨_, rfl⟩
            have hcall := fun (w' : World) (hw : Below w.heap.size w w') => IH.out ts[j] (tv ts[j] (.slice xa xl xc) (.slice ya yl yc)) (under 6 j kk) w' br (Nat.le_trans (tnodes_mem (List.getElem_mem hx1)) HNN.out) (nmOkL_mem HNM.out (List.getElem_mem hx1)) ⟨_, _, rfl, tmP_below hw htm⟩ (by unfold under; split <;> omega) (by unfold under; split <;> omega) hbr
            have HCALL := Lib.hid hcall
            dsimp only [tv] at HCALL
            have HBR := Lib.hid hbr
            have HOT := Lib.hid (okTL_take Nm.rightB (rightB nn) 6 hx1 kk)
            have hke : Hid (∀ W', Below w.heap.size w W' → W'.cell? ⟨bq, o + j * 5, none⟩ = some (.int .i64 (tkOf ts[j])) ∧ W'.cell? ⟨bq, o + j * 5 + 1, none⟩ = some (.int .i64 (tnOf ts[j])) ∧ W'.cell? ⟨bq, o + j * 5 + 2, none⟩ = some (.string (tmOf ts[j])) ∧ W'.cell? ⟨bq, o + j * 5 + 3, none⟩ = some (.slice xa xl xc) ∧ W'.cell? ⟨bq, o + j * 5 + 4, none⟩ = some (.slice ya yl yc)) := fun W' h => ⟨(h.cell (p := ⟨bq, _, none⟩) hbs).trans hc0, (h.cell (p := ⟨bq, _, none⟩) hbs).trans hc1, (h.cell (p := ⟨bq, _, none⟩) hbs).trans hc2, (h.cell (p := ⟨bq, _, none⟩) hbs).trans hc3, (h.cell (p := ⟨bq, _, none⟩) hbs).trans hc4⟩
            have q1 : (0 : Int) ≤ (j : Int) := by omega
            have q2 : (j : Int) < 2 := by omega
            generalize tkOf ts[j] = ka at *
            generalize tnOf ts[j] = na at *
            generalize tmOf ts[j] = ma at *
            clear htm hcall hbr hc0 hc1 hc2 hc3 hc4
            obtain ⟨bb, hbb⟩ : ∃ b, binds 6 j = b := ⟨_, rfl⟩
            go_wp2_with fail
            refine (refBinds_is 6 j wr bb hbb).mono ?_
            rintro e w5 ⟨rfl, hb5⟩
            have HB5 := Lib.hid (hgr.out.trans (hb5.mono hgr.out.size))
            clear hb5 a0 a1 a2 a3 a4
            obtain ⟨a0, a1, a2, a3, a4⟩ := hk.out w5 HB5.out
            have HB6 := Lib.hid (HB.out.trans (HB5.out.mono HB.out.size))
            obtain ⟨e0, e1, e2, e3, e4⟩ := hke.out w5 HB6.out
            cases bb with
            | false =>
              have hu : under 6 j kk = kk := by unfold under; rw [hbb]; rfl
              rw [hu] at HCALL
              go_wp2_with fail
              refine (HCALL.out w5 HB6.out).mono ?_
              rintro e w7 ⟨rfl, hb7⟩
              have HB7 := Lib.hid (HB5.out.trans (hb7.mono HB5.out.size))
              clear hb7 a0 a1 a2 a3 a4 e0 e1 e2 e3 e4
              cases br with
              | false =>
                have hbf : b = false := by
                  rw [← HV.out, okTL_no Nm.rightB (rightB nn) 6 (j := j + 1) (by rw [HOT.out, HBR.out, Bool.and_false]), Bool.and_false]
                subst hbf
                go_wp2_with fail
                go_ret
                exact ⟨rfl, HB.out.trans (HB7.out.mono HB.out.size)⟩
              | true =>
                have HAL : Hid (okTL Nm.rightB (rightB nn) 6 (ts.take (j + 1)) 0 kk = true) := by
                  have : okTL Nm.rightB (rightB nn) 6 (ts.take (j + 1)) 0 kk = true := by rw [HOT.out, hal.out, HBR.out, Bool.and_self]
                  exact this
                go_wp2_with fail
                go_roundw
                case rel => exact ⟨j + 1, by omega, by go_num, HAL.out, HB7.out⟩
                case measure => simp [intOf]; omega
            | true =>
              have hu : under 6 j kk = (kk + 1) := by unfold under; rw [hbb]; rfl
              rw [hu] at HCALL
              go_wp2_with fail
              refine (HCALL.out w5 HB6.out).mono ?_
              rintro e w7 ⟨rfl, hb7⟩
              have HB7 := Lib.hid (HB5.out.trans (hb7.mono HB5.out.size))
              clear hb7 a0 a1 a2 a3 a4 e0 e1 e2 e3 e4
              cases br with
              | false =>
                have hbf : b = false := by
                  rw [← HV.out, okTL_no Nm.rightB (rightB nn) 6 (j := j + 1) (by rw [HOT.out, HBR.out, Bool.and_false]), Bool.and_false]
                subst hbf
                go_wp2_with fail
                go_ret
                exact ⟨rfl, HB.out.trans (HB7.out.mono HB.out.size)⟩
              | true =>
                have HAL : Hid (okTL Nm.rightB (rightB nn) 6 (ts.take (j + 1)) 0 kk = true) := by
                  have : okTL Nm.rightB (rightB nn) 6 (ts.take (j + 1)) 0 kk = true := by rw [HOT.out, hal.out, HBR.out, Bool.and_self]
                  exact this
                go_wp2_with fail
                go_roundw
                case rel => exact ⟨j + 1, by omega, by go_num, HAL.out, HB7.out⟩
                case measure => simp [intOf]; omega
          · have hln : decide ((j : Int) < 2) = false := by simp; omega
            have hbt : b = true := by
              have h1 := hal.out
              have h2 := HAL.out
              have h3 := HLL.out
              have h4 := HN.out
              rw [List.take_of_length_le (by omega)] at h1
              rw [← HV.out, h1]
              unfold shape
              simp [h2, h3, h4, hm0]
            subst hbt
            go_wp2_with fail
            go_ret
            exact ⟨rfl, HB.out.trans (hgr.out.mono HB.out.size)⟩
      by_cases k7 : k = 7
      · subst k7
        by_cases hn : ¬ n = 0
        · have dn : (n != 0) = true := by simp [hn]
          have dn2 : (!(n == 0)) = true := by simp [hn]
          have dn3 : (n == 0) = false := by simp [hn]
          have hbf : b = false := by
            rw [← HV.out]
            have hl := HLL.out
            have ht := HN.out
            unfold shape
            simp [hn]
          subst hbf
          go_wp2_with fail
          go_ret
          exact ⟨rfl, HB.out.trans (hgr.out.mono HB.out.size)⟩
        have hn := Classical.not_not.1 hn
        subst hn
        by_cases hm0 : ¬ m.size = 0
        · have hnm : m.toList.isEmpty = false := isEmpty_no hm0
          have hbf : b = false := by
            rw [← HV.out]
            have hl := HLL.out
            have ht := HN.out
            unfold shape
            simp [hm0]
          subst hbf
          go_wp2_with fail
          go_ret
          exact ⟨rfl, HB.out.trans (hgr.out.mono HB.out.size)⟩
        have hm0 := Classical.not_not.1 hm0
        have hnm : m.toList.isEmpty = true := isEmpty_yes hm0
        by_cases hl0 : ¬ j = 0
        · have dl : ((j : Int) == 0) = false := by simp; omega
          have dl2 : ((j : Int) != 0) = true := by simp; omega
          have hbf : b = false := by
            rw [← HV.out]
            have hl := HLL.out
            have ht := HN.out
            unfold shape
            simp [hl, show ¬ j = 0 from hl0]
          subst hbf
          go_wp2_with fail
          go_ret
          exact ⟨rfl, HB.out.trans (hgr.out.mono HB.out.size)⟩
        have hl0 := Classical.not_not.1 hl0
        subst hl0
        by_cases ha0 : ¬ len = 3
        · have da : ((len : Int) == 3) = false := by simp; omega
          have da2 : ((len : Int) != 3) = true := by simp; omega
          have hbf : b = false := by
            rw [← HV.out]
            have hl := HLL.out
            have ht := HN.out
            unfold shape
            simp [ht, show ¬ len = 3 from ha0]
          subst hbf
          go_wp2_with fail
          go_ret
          exact ⟨rfl, HB.out.trans (hgr.out.mono HB.out.size)⟩
        have ha0 := Classical.not_not.1 ha0
        subst ha0
        go_wp2_with fail
        generalize wr = W1 at *
        go_loopw [10] (fun i wr => ∃ j : Nat, j ≤ 3 ∧ i = .int .i64 j ∧ Hid (okTL Nm.rightB (rightB nn) 7 (ts.take j) 0 kk = true) ∧ Hid (Below W.heap.size W wr)) (fun i _ => 3 - (intOf i).toNat)
        case atStart => exact ⟨0, Nat.zero_le _, rfl, by rw [List.take_zero, okTL]; exact rfl, hgr.out⟩
        case round =>
          obtain ⟨j, hj, rfl, hal, hgr⟩ := hrel
          obtain ⟨a0, a1, a2, a3, a4⟩ := hk.out wr hgr.out
          by_cases hlt : j < 3
          · have hx1 : j < ts.length := by rw [HN.out]; exact hlt
            have hln : decide ((j : Int) < 3) = true := by simp; omega
            obtain ⟨bq, o, l1, s1, rfl, hbs, _, hc0, hc1, hc2, hc3, hc4, htm⟩ := tsP_get HTS.out j hx1
            obtain ⟨⟨xa, xl, xc, rfl⟩, ya, yl, yc, rfl⟩ := tmP_slices htm
            have HB2 := Lib.hid (HB.out.trans (hgr.out.mono HB.out.size))
            obtain ⟨br, hbr⟩ : ∃ b, okT Nm.rightB (rightB nn) ts[j] (under 7 j kk) = b := ⟨_, rfl⟩
            have hcall := fun (w' : World) (hw : Below w.heap.size w w') => IH.out ts[j] (tv ts[j] (.slice xa xl xc) (.slice ya yl yc)) (under 7 j kk) w' br (Nat.le_trans (tnodes_mem (List.getElem_mem hx1)) HNN.out) (nmOkL_mem HNM.out (List.getElem_mem hx1)) ⟨_, _, rfl, tmP_below hw htm⟩ (by unfold under; split <;> omega) (by unfold under; split <;> omega) hbr
            have HCALL := Lib.hid hcall
            dsimp only [tv] at HCALL
            have HBR := Lib.hid hbr
            have HOT := Lib.hid (okTL_take Nm.rightB (rightB nn) 7 hx1 kk)
            have hke : Hid (∀ W', Below w.heap.size w W' → W'.cell? ⟨bq, o + j * 5, none⟩ = some (.int .i64 (tkOf ts[j])) ∧ W'.cell? ⟨bq, o + j * 5 + 1, none⟩ = some (.int .i64 (tnOf ts[j])) ∧ W'.cell? ⟨bq, o + j * 5 + 2, none⟩ = some (.string (tmOf ts[j])) ∧ W'.cell? ⟨bq, o + j * 5 + 3, none⟩ = some (.slice xa xl xc) ∧ W'.cell? ⟨bq, o + j * 5 + 4, none⟩ = some (.slice ya yl yc)) := fun W' h => ⟨(h.cell (p := ⟨bq, _, none⟩) hbs).trans hc0, (h.cell (p := ⟨bq, _, none⟩) hbs).trans hc1, (h.cell (p := ⟨bq, _, none⟩) hbs).trans hc2, (h.cell (p := ⟨bq, _, none⟩) hbs).trans hc3, (h.cell (p := ⟨bq, _, none⟩) hbs).trans hc4⟩
            have q1 : (0 : Int) ≤ (j : Int) := by omega
            have q2 : (j : Int) < 3 := by omega
            generalize tkOf ts[j] = ka at *
            generalize tnOf ts[j] = na at *
            generalize tmOf ts[j] = ma at *
            clear htm hcall hbr hc0 hc1 hc2 hc3 hc4
            obtain ⟨bb, hbb⟩ : ∃ b, binds 7 j = b := ⟨_, rfl⟩
            go_wp2_with fail
            refine (refBinds_is 7 j wr bb hbb).mono ?_
            rintro e w5 ⟨rfl, hb5⟩
            have HB5 := Lib.hid (hgr.out.trans (hb5.mono hgr.out.size))
            clear hb5 a0 a1 a2 a3 a4
            obtain ⟨a0, a1, a2, a3, a4⟩ := hk.out w5 HB5.out
            have HB6 := Lib.hid (HB.out.trans (HB5.out.mono HB.out.size))
            obtain ⟨e0, e1, e2, e3, e4⟩ := hke.out w5 HB6.out
            cases bb with
            | false =>
              have hu : under 7 j kk = kk := by unfold under; rw [hbb]; rfl
              rw [hu] at HCALL
              go_wp2_with fail
              refine (HCALL.out w5 HB6.out).mono ?_
              rintro e w7 ⟨rfl, hb7⟩
              have HB7 := Lib.hid (HB5.out.trans (hb7.mono HB5.out.size))
              clear hb7 a0 a1 a2 a3 a4 e0 e1 e2 e3 e4
              cases br with
              | false =>
                have hbf : b = false := by
                  rw [← HV.out, okTL_no Nm.rightB (rightB nn) 7 (j := j + 1) (by rw [HOT.out, HBR.out, Bool.and_false]), Bool.and_false]
                subst hbf
                go_wp2_with fail
                go_ret
                exact ⟨rfl, HB.out.trans (HB7.out.mono HB.out.size)⟩
              | true =>
                have HAL : Hid (okTL Nm.rightB (rightB nn) 7 (ts.take (j + 1)) 0 kk = true) := by
                  have : okTL Nm.rightB (rightB nn) 7 (ts.take (j + 1)) 0 kk = true := by rw [HOT.out, hal.out, HBR.out, Bool.and_self]
                  exact this
                go_wp2_with fail
                go_roundw
                case rel => exact ⟨j + 1, by omega, by go_num, HAL.out, HB7.out⟩
                case measure => simp [intOf]; omega
            | true =>
              have hu : under 7 j kk = (kk + 1) := by unfold under; rw [hbb]; rfl
              rw [hu] at HCALL
              go_wp2_with fail
              refine (HCALL.out w5 HB6.out).mono ?_
              rintro e w7 ⟨rfl, hb7⟩
              have HB7 := Lib.hid (HB5.out.trans (hb7.mono HB5.out.size))
              clear hb7 a0 a1 a2 a3 a4 e0 e1 e2 e3 e4
              cases br with
              | false =>
                have hbf : b = false := by
                  rw [← HV.out, okTL_no Nm.rightB (rightB nn) 7 (j := j + 1) (by rw [HOT.out, HBR.out, Bool.and_false]), Bool.and_false]
                subst hbf
                go_wp2_with fail
                go_ret
                exact ⟨rfl, HB.out.trans (HB7.out.mono HB.out.size)⟩
              | true =>
                have HAL : Hid (okTL Nm.rightB (rightB nn) 7 (ts.take (j + 1)) 0 kk = true) := by
                  have : okTL Nm.rightB (rightB nn) 7 (ts.take (j + 1)) 0 kk = true := by rw [HOT.out, hal.out, HBR.out, Bool.and_self]
                  exact this
                go_wp2_with fail
                go_roundw
                case rel => exact ⟨j + 1, by omega, by go_num, HAL.out, HB7.out⟩
                case measure => simp [intOf]; omega
          · have hln : decide ((j : Int) < 3) = false := by simp; omega
            have hbt : b = true := by
              have h1 := hal.out
              have h2 := HAL.out
              have h3 := HLL.out
              have h4 := HN.out
              rw [List.take_of_length_le (by omega)] at h1
              rw [← HV.out, h1]
              unfold shape
              simp [h2, h3, h4, hm0]
            subst hbt
            go_wp2_with fail
            go_ret
            exact ⟨rfl, HB.out.trans (hgr.out.mono HB.out.size)⟩
      have e1 : (k == 1) = false := by simp; omega
      have e2 : (k == 2) = false := by simp; omega
      have e3 : (k == 3) = false := by simp; omega
      have e4 : (k == 4) = false := by simp; omega
      have e5 : (k == 5) = false := by simp; omega
      have e6 : (k == 6) = false := by simp; omega
      have e7 : (k == 7) = false := by simp; omega
      have hbf : b = false := by
        rw [← HV.out]
        have hl := HLL.out
        have ht := HN.out
        unfold shape
        simp [k1, k2, k3, k4, k5, k6, k7]
      subst hbf
      go_wp2_with fail
      go_ret
      exact ⟨rfl, HB.out.trans (hgr.out.mono HB.out.size)⟩

set_option maxRecDepth 100000 in
set_option maxHeartbeats 2000000 in
theorem refRightT_is (t : Tm) (v : Value) (nn kk : Int) (w : World) (hv : TmV w t v) (hm : tnodes t ≤ 100000) (hnm : nmOk t) (h0 : 0 ≤ nn) (h4 : nn ≤ 4) (b : Bool) (hb : rightT Nm.rightB nn t kk = b) :
    Calls Tryd.prog 23 #[v, .int .i64 nn, .int .i64 kk] w (Ret w (.bool b)) := by
  have HNK := Lib.hid hnm
  have HV := Lib.hid hb
  clear hnm hb
  obtain ⟨l, s, rfl, ht⟩ := hv
  obtain ⟨⟨la, ll, lc, rfl⟩, sa, sl, sc, rfl⟩ := tmP_slices ht
  have HTT := Lib.hid ht
  obtain ⟨k, hk⟩ : ∃ k, tkOf t = k := ⟨_, rfl⟩
  obtain ⟨n, hn⟩ : ∃ n, tnOf t = n := ⟨_, rfl⟩
  obtain ⟨m, hmm⟩ : ∃ m, tmOf t = m := ⟨_, rfl⟩
  dsimp only [tv]
  rw [hk, hn, hmm]
  have HK := Lib.hid hk
  have HNN := Lib.hid hn
  have HMM := Lib.hid hmm
  have HM := Lib.hid hm
  clear hk hn hmm ht hm
  have d1 : decide (0 ≤ nn) = true := by simp; omega
  have d2 : decide (nn ≤ 4) = true := by simp; omega
  by_cases hk0 : 0 ≤ kk
  · have d0 : decide (0 ≤ kk) = true := by simp; omega
    go_enter Tryd.func23, Tryd.ntmps23
    go_wp2_with fail
    have z1 : (w.alloc (.cells #[.int .i64 k, .int .i64 n, .string m, .slice la ll lc, .slice sa sl sc] 25)).heap.size = w.heap.size + 1 := by simp
    have r0 : (w.alloc (.cells #[.int .i64 k, .int .i64 n, .string m, .slice la ll lc, .slice sa sl sc] 25)).heap[w.heap.size]? = some (Obj.cells #[.int .i64 k, .int .i64 n, .string m, .slice la ll lc, .slice sa sl sc] 25 (0, 0)) := by
      have := heap_alloc_new w (.cells #[.int .i64 k, .int .i64 n, .string m, .slice la ll lc, .slice sa sl sc] 25)
      exact this
    have HB := Lib.hid (below_lit w (.cells #[.int .i64 k, .int .i64 n, .string m, .slice la ll lc, .slice sa sl sc] 25))
    have HR0 := Lib.hid (r0)
    clear r0
    generalize (w.alloc (.cells #[.int .i64 k, .int .i64 n, .string m, .slice la ll lc, .slice sa sl sc] 25)) = W at *
    have HZ := Lib.hid z1
    clear z1
    have HT : Hid (TmV W t (.agg #[.int .i64 k, .int .i64 n, .string m, .slice la ll lc, .slice sa sl sc])) := by
      have : TmV W t (.agg #[.int .i64 k, .int .i64 n, .string m, .slice la ll lc, .slice sa sl sc]) := ⟨_, _, by rw [← HK.out, ← HNN.out, ← HMM.out], tmP_below HB.out HTT.out⟩
      exact this
    have hz := HZ.out
    have hk : Hid (∀ W', Below W.heap.size W W' → W'.cell? ⟨w.heap.size, 0, none⟩ = some (.int .i64 k) ∧ W'.cell? ⟨w.heap.size, 1, none⟩ = some (.int .i64 n) ∧ W'.cell? ⟨w.heap.size, 2, none⟩ = some (.string m) ∧ W'.cell? ⟨w.heap.size, 3, none⟩ = some (.slice la ll lc) ∧ W'.cell? ⟨w.heap.size, 4, none⟩ = some (.slice sa sl sc)) := fun W' h => five_cells ((h.block w.heap.size (by omega)).trans HR0.out)
    clear HR0 HTT
    obtain ⟨R, hR⟩ : ∃ R, min (tnodes t) (2000 + 1) = R := ⟨_, rfl⟩
    have HR := Lib.hid hR
    refine (refNodes_is t _ 2000 W HT.out (by omega) R hR).mono ?_
    rintro e w2 ⟨rfl, hb2⟩
    have HB2 := Lib.hid hb2
    clear hb2 hR
    obtain ⟨a0, a1, a2, a3, a4⟩ := hk.out w2 HB2.out
    by_cases hR0 : R ≤ 2000
    · have d3 : decide ((R : Int) ≤ 2000) = true := by simp; omega
      have HO : Hid (okT Nm.rightB (rightB nn) t (min kk 1125899906842624) = b) := by
        have : okT Nm.rightB (rightB nn) t (min kk 1125899906842624) = b := by
          have h1 := HR.out
          rw [← HV.out, rightT, decide_eq_true hk0, decide_eq_true (show tnodes t ≤ 2000 by omega), Bool.true_and, Bool.true_and]
        exact this
      by_cases hk5 : kk ≤ 1125899906842624
      · have e5 : min kk 1125899906842624 = kk := by omega
        rw [e5] at HO
        go_wp2_with fail
        refine (refRightT_up nn (tnodes t) t _ kk w2 b (Nat.le_refl _) HNK.out (HT.out.below HB2.out) hk0 (by have := HM.out; omega) HO.out).mono ?_
        rintro e w3 ⟨rfl, hb3⟩
        have HB3 := Lib.hid (HB2.out.trans (hb3.mono HB2.out.size))
        clear hb3
        cases b <;> (go_wp2_with fail; go_ret; exact ⟨rfl, HB.out.trans (HB3.out.mono HB.out.size)⟩)
      · have e5 : min kk 1125899906842624 = 1125899906842624 := by omega
        rw [e5] at HO
        go_wp2_with fail
        refine (refRightT_up nn (tnodes t) t _ 1125899906842624 w2 b (Nat.le_refl _) HNK.out (HT.out.below HB2.out) (by omega) (by have := HM.out; omega) HO.out).mono ?_
        rintro e w3 ⟨rfl, hb3⟩
        have HB3 := Lib.hid (HB2.out.trans (hb3.mono HB2.out.size))
        clear hb3
        cases b <;> (go_wp2_with fail; go_ret; exact ⟨rfl, HB.out.trans (HB3.out.mono HB.out.size)⟩)
    · have d3 : decide ((R : Int) ≤ 2000) = false := by simp; omega
      have hbf : b = false := by
        have h1 := HR.out
        rw [← HV.out, rightT, decide_eq_false (show ¬ tnodes t ≤ 2000 by omega), Bool.and_false, Bool.false_and]
      subst hbf
      go_wp2_with fail
      go_ret
      exact ⟨rfl, HB.out.trans (HB2.out.mono HB.out.size)⟩
  · have d0 : decide (0 ≤ kk) = false := by simp; omega
    have hbf : b = false := by rw [← HV.out, rightT, decide_eq_false hk0, Bool.false_and, Bool.false_and]
    subst hbf
    go_enter Tryd.func23, Tryd.ntmps23
    go_wp2_with fail
    go_ret
    exact ⟨rfl, below_lit w _⟩
set_option maxRecDepth 100000 in
set_option maxHeartbeats 2000000 in
theorem refAny_is (t : Tm) (v : Value) (nn : Int) (w : World) (hv : TmV w t v) (hm : tnodes t ≤ 100000) (hnm : nmOk t) (h0 : 0 ≤ nn) (h4 : nn ≤ 4) (b : Bool) (hb : rightT Nm.rightB nn t 1125899906842624 = b) :
    Calls Tryd.prog 8 #[v, .int .i64 nn] w (Ret w (.bool b)) := by
  have HNK := Lib.hid hnm
  have HV := Lib.hid hb
  clear hnm hb
  obtain ⟨l, s, rfl, ht⟩ := hv
  obtain ⟨⟨la, ll, lc, rfl⟩, sa, sl, sc, rfl⟩ := tmP_slices ht
  have HTT := Lib.hid ht
  obtain ⟨k, hk⟩ : ∃ k, tkOf t = k := ⟨_, rfl⟩
  obtain ⟨n, hn⟩ : ∃ n, tnOf t = n := ⟨_, rfl⟩
  obtain ⟨m, hmm⟩ : ∃ m, tmOf t = m := ⟨_, rfl⟩
  dsimp only [tv]
  rw [hk, hn, hmm]
  have HK := Lib.hid hk
  have HNN := Lib.hid hn
  have HMM := Lib.hid hmm
  have HM := Lib.hid hm
  clear hk hn hmm ht hm
  go_enter Tryd.func8, Tryd.ntmps8
  go_wp2_with fail
  have z1 : (w.alloc (.cells #[.int .i64 k, .int .i64 n, .string m, .slice la ll lc, .slice sa sl sc] 25)).heap.size = w.heap.size + 1 := by simp
  have r0 : (w.alloc (.cells #[.int .i64 k, .int .i64 n, .string m, .slice la ll lc, .slice sa sl sc] 25)).heap[w.heap.size]? = some (Obj.cells #[.int .i64 k, .int .i64 n, .string m, .slice la ll lc, .slice sa sl sc] 25 (0, 0)) := by
    have := heap_alloc_new w (.cells #[.int .i64 k, .int .i64 n, .string m, .slice la ll lc, .slice sa sl sc] 25)
    exact this
  have HB := Lib.hid (below_lit w (.cells #[.int .i64 k, .int .i64 n, .string m, .slice la ll lc, .slice sa sl sc] 25))
  have HR0 := Lib.hid (r0)
  clear r0
  generalize (w.alloc (.cells #[.int .i64 k, .int .i64 n, .string m, .slice la ll lc, .slice sa sl sc] 25)) = W at *
  have HZ := Lib.hid z1
  clear z1
  have HT : Hid (TmV W t (.agg #[.int .i64 k, .int .i64 n, .string m, .slice la ll lc, .slice sa sl sc])) := by
    have : TmV W t (.agg #[.int .i64 k, .int .i64 n, .string m, .slice la ll lc, .slice sa sl sc]) := ⟨_, _, by rw [← HK.out, ← HNN.out, ← HMM.out], tmP_below HB.out HTT.out⟩
    exact this
  clear HR0 HTT
  refine (refRightT_is t _ nn _ W HT.out HM.out HNK.out h0 h4 b HV.out).mono ?_
  rintro e w3 ⟨rfl, hb3⟩
  have HB3 := Lib.hid (HB.out.trans (hb3.mono HB.out.size))
  clear hb3
  go_wp2_with fail
  go_ret
  exact ⟨rfl, HB3.out⟩
end Trm
end Go.Proofs.YtlijdgamobpndaaDoor
