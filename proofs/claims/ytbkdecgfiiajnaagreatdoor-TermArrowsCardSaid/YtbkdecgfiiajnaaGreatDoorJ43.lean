import Derived.Test.YtbkdecgfiiajnaaGreatDoorJ38
import Derived.Test.YtbkdecgfiiajnaaGreatDoorJ42
import Derived.Test.YtbkdecgfiiajnaaGreatDoorJ13
/-
  The contract of the statements' helper SameTerm at two terms that are one tree: true.
  Conditions: both lie in memory as told by 'TmV'.
-/
namespace Go.Proofs.YtbkdecgfiiajnaaGreatDoor
open Go.RowKit
open Lvl
namespace Trm

set_option maxRecDepth 100000 in
set_option maxHeartbeats 2000000 in
theorem sameTerm_up : ∀ (N : Nat) (t : Tm) (v v' : Value) (w : World), tnodes t ≤ N → TmV w t v → TmV w t v' →
    Calls Tryz.prog 12 #[v, v'] w (Ret w (.bool true)) := by
  intro N
  induction N with
  | zero => intro t v v' w h _ _; have := tnodes_pos t; omega
  | succ N ih =>
  intro t v v' w hN hv hv'
  obtain ⟨l, s, rfl, ht⟩ := hv
  obtain ⟨l', s', rfl, ht'⟩ := hv'
  cases t with
  | mk k n m ls ts =>
  rw [TmP, LvP] at ht ht'
  obtain ⟨⟨LA, ll, lc, rfl, l1, l2, l3, l4, l5⟩, A, len, cap, rfl, h1, h2, h2b, h3, h4⟩ := ht
  obtain ⟨⟨LA', ll', lc', rfl, l1', l2', l3', l4', l5'⟩, A', len', cap', rfl, h1', h2', h2b', h3', h4'⟩ := ht'
  obtain rfl : len = len' := h1.symm.trans h1'
  obtain rfl : ll = ll' := l1.symm.trans l1'
  have IH := Lib.hid ih
  have HLS := Lib.hid l5
  have HLS' := Lib.hid l5'
  have HTS := Lib.hid h4
  have HTS' := Lib.hid h4'
  have HLN := Lib.hid l1
  have HN := Lib.hid h1
  have HNN : Hid (tnodesL ts ≤ N) := by
    rw [tnodes] at hN
    have : tnodesL ts ≤ N := by omega
    exact this
  clear h4 h1 h3 l5 l1 l4 hN ih h4' h1' h3' h2b' l5' l1' l4' l3'
  show Calls Tryz.prog 12 #[.agg #[.int .i64 k, .int .i64 n, .string m, .slice LA ll lc, .slice A len cap], .agg #[.int .i64 k, .int .i64 n, .string m, .slice LA' ll lc', .slice A' len cap']] w (Ret w (.bool true))
  go_enter Tryz.func12, Tryz.ntmps12
  go_wp2_with fail
  have z1 : (w.alloc (.cells #[.int .i64 k, .int .i64 n, .string m, .slice LA ll lc, .slice A len cap] 25)).heap.size = w.heap.size + 1 := by simp
  have z2 : ((w.alloc (.cells #[.int .i64 k, .int .i64 n, .string m, .slice LA ll lc, .slice A len cap] 25)).alloc (.cells #[.int .i64 k, .int .i64 n, .string m, .slice LA' ll lc', .slice A' len cap'] 25)).heap.size = w.heap.size + 1 + 1 := by simp
  have r0 : (w.alloc (.cells #[.int .i64 k, .int .i64 n, .string m, .slice LA ll lc, .slice A len cap] 25)).heap[w.heap.size]? = some (Obj.cells #[.int .i64 k, .int .i64 n, .string m, .slice LA ll lc, .slice A len cap] 25 (0, 0)) := by
    have := heap_alloc_new w (.cells #[.int .i64 k, .int .i64 n, .string m, .slice LA ll lc, .slice A len cap] 25)
    exact this
  have r1 : ((w.alloc (.cells #[.int .i64 k, .int .i64 n, .string m, .slice LA ll lc, .slice A len cap] 25)).alloc (.cells #[.int .i64 k, .int .i64 n, .string m, .slice LA' ll lc', .slice A' len cap'] 25)).heap[w.heap.size + 1]? = some (Obj.cells #[.int .i64 k, .int .i64 n, .string m, .slice LA' ll lc', .slice A' len cap'] 25 (0, 0)) := by
    have := heap_alloc_new (w.alloc (.cells #[.int .i64 k, .int .i64 n, .string m, .slice LA ll lc, .slice A len cap] 25)) (.cells #[.int .i64 k, .int .i64 n, .string m, .slice LA' ll lc', .slice A' len cap'] 25)
    rwa [z1] at this
  have HB := Lib.hid ((below_lit w (.cells #[.int .i64 k, .int .i64 n, .string m, .slice LA ll lc, .slice A len cap] 25)).trans ((below_lit (w.alloc (.cells #[.int .i64 k, .int .i64 n, .string m, .slice LA ll lc, .slice A len cap] 25)) (.cells #[.int .i64 k, .int .i64 n, .string m, .slice LA' ll lc', .slice A' len cap'] 25)).mono (below_lit w (.cells #[.int .i64 k, .int .i64 n, .string m, .slice LA ll lc, .slice A len cap] 25)).size))
  have HR0 := Lib.hid ((heap_alloc_old (w.alloc (.cells #[.int .i64 k, .int .i64 n, .string m, .slice LA ll lc, .slice A len cap] 25)) (.cells #[.int .i64 k, .int .i64 n, .string m, .slice LA' ll lc', .slice A' len cap'] 25) (by rw [z1]; omega)).trans (r0))
  have HR1 := Lib.hid (r1)
  clear r0 r1
  generalize ((w.alloc (.cells #[.int .i64 k, .int .i64 n, .string m, .slice LA ll lc, .slice A len cap] 25)).alloc (.cells #[.int .i64 k, .int .i64 n, .string m, .slice LA' ll lc', .slice A' len cap'] 25)) = W at *
  have HZ := Lib.hid z2
  clear z1 z2
  have HZ9 := Lib.hid (show W.heap.size = w.heap.size + 2 from HZ.out)
  have hk : Hid (∀ W', Below W.heap.size W W' → W'.cell? ⟨w.heap.size, 3, none⟩ = some (.slice LA ll lc) ∧ W'.cell? ⟨w.heap.size + 1, 3, none⟩ = some (.slice LA' ll lc') ∧ W'.cell? ⟨w.heap.size, 4, none⟩ = some (.slice A len cap) ∧ W'.cell? ⟨w.heap.size + 1, 4, none⟩ = some (.slice A' len cap')) := fun W' h => by
    obtain ⟨_, _, _, a3, a4⟩ := five_cells ((h.block w.heap.size (by rw [HZ.out]; omega)).trans HR0.out)
    obtain ⟨_, _, _, b3, b4⟩ := five_cells ((h.block (w.heap.size + 1) (by rw [HZ.out]; omega)).trans HR1.out)
    exact ⟨a3, b3, a4, b4⟩
  obtain ⟨a0, a1, a2, a3, a4⟩ := five_cells HR0.out
  obtain ⟨b0, b1, b2, b3, b4⟩ := five_cells HR1.out
  go_wp2_with fail
  clear a0 a1 a2 a3 a4 b0 b1 b2 b3 b4
  go_loopw [5] (fun i wr => ∃ j : Nat, j ≤ ll ∧ i = .int .i64 j ∧ Hid (Below W.heap.size W wr)) (fun i _ => ll - (intOf i).toNat)
  case atStart => exact ⟨0, Nat.zero_le _, rfl, Below.refl _ _⟩
  case round =>
    obtain ⟨j, hj, rfl, hbw⟩ := hrel
    have HB2 := Lib.hid (HB.out.trans (hbw.out.mono HB.out.size))
    have hsz : w.heap.size + 2 ≤ wr.heap.size := by rw [← HZ9.out]; exact hbw.out.size
    obtain ⟨x3, y3, x4, y4⟩ := hk.out wr hbw.out
    by_cases hlt : j < ll
    · have hx1 : j < ls.length := by rw [HLN.out]; exact hlt
      have hln : decide ((j : Int) < (ll : Int)) = true := by simp; omega
      obtain ⟨b, o, s, rfl, hbs, _, hc0, hc1, hc2, hls⟩ := lsP_get HLS.out j hx1
      obtain ⟨b', o', s', rfl, hbs', _, hc0', hc1', hc2', hls'⟩ := lsP_get HLS'.out j hx1
      have hbs2 := Nat.lt_of_lt_of_le hbs HB2.out.size
      have hbs2' := Nat.lt_of_lt_of_le hbs' HB2.out.size
      have hc0 := (HB2.out.cell (p := ⟨b, _, none⟩) hbs).trans hc0
      have hc1 := (HB2.out.cell (p := ⟨b, _, none⟩) hbs).trans hc1
      have hc2 := (HB2.out.cell (p := ⟨b, _, none⟩) hbs).trans hc2
      have hc0' := (HB2.out.cell (p := ⟨b', _, none⟩) hbs').trans hc0'
      have hc1' := (HB2.out.cell (p := ⟨b', _, none⟩) hbs').trans hc1'
      have hc2' := (HB2.out.cell (p := ⟨b', _, none⟩) hbs').trans hc2'
      have HLS0 : Hid (LvV wr ls[j] (.agg #[.int .i64 (kindOf ls[j]), .int .i64 (numOf ls[j]), s])) := ⟨s, rfl, lvS_below HB2.out _ _ (lvS_of _ _ hls)⟩
      have HLS0' : Hid (LvV wr ls[j] (.agg #[.int .i64 (kindOf ls[j]), .int .i64 (numOf ls[j]), s'])) := ⟨s', rfl, lvS_below HB2.out _ _ (lvS_of _ _ hls')⟩
      generalize kindOf ls[j] = ki at *
      generalize numOf ls[j] = nu at *
      generalize ls[j] = tj at *
      have hk9 : Hid (∀ W', Below wr.heap.size wr W' → W'.cell? ⟨w.heap.size, 3, none⟩ = some (.slice (some ⟨b, o, none⟩) ll lc) ∧ W'.cell? ⟨w.heap.size + 1, 3, none⟩ = some (.slice (some ⟨b', o', none⟩) ll lc') ∧ W'.cell? ⟨b, o + j * 3, none⟩ = some (.int .i64 ki) ∧ W'.cell? ⟨b, o + j * 3 + 1, none⟩ = some (.int .i64 nu) ∧ W'.cell? ⟨b, o + j * 3 + 2, none⟩ = some (s) ∧ W'.cell? ⟨b', o' + j * 3, none⟩ = some (.int .i64 ki) ∧ W'.cell? ⟨b', o' + j * 3 + 1, none⟩ = some (.int .i64 nu) ∧ W'.cell? ⟨b', o' + j * 3 + 2, none⟩ = some (s')) := fun W' h => by
        obtain ⟨x3, y3, x4, y4⟩ := hk.out W' (hbw.out.trans (h.mono hbw.out.size))
        exact ⟨x3, y3, (h.cell (p := ⟨b, _, none⟩) hbs2).trans hc0, (h.cell (p := ⟨b, _, none⟩) hbs2).trans hc1, (h.cell (p := ⟨b, _, none⟩) hbs2).trans hc2, (h.cell (p := ⟨b', _, none⟩) hbs2').trans hc0', (h.cell (p := ⟨b', _, none⟩) hbs2').trans hc1', (h.cell (p := ⟨b', _, none⟩) hbs2').trans hc2'⟩
      have h0 : (0 : Int) ≤ (j : Int) := by omega
      have hji : (j : Int) < (ll : Int) := by omega
      clear hls hls' hbs hbs'
      go_wp2_with fail
      refine wp_region_held_drew (S := fun W' => W'.cell? ⟨w.heap.size, 3, none⟩ = some (.slice (some ⟨b, o, none⟩) ll lc) ∧ W'.cell? ⟨w.heap.size + 1, 3, none⟩ = some (.slice (some ⟨b', o', none⟩) ll lc') ∧ W'.cell? ⟨b, o + j * 3, none⟩ = some (.int .i64 ki) ∧ W'.cell? ⟨b, o + j * 3 + 1, none⟩ = some (.int .i64 nu) ∧ W'.cell? ⟨b, o + j * 3 + 2, none⟩ = some (s) ∧ W'.cell? ⟨b', o' + j * 3, none⟩ = some (.int .i64 ki) ∧ W'.cell? ⟨b', o' + j * 3 + 1, none⟩ = some (.int .i64 nu) ∧ W'.cell? ⟨b', o' + j * 3 + 2, none⟩ = some (s')) (by kernel_rfl) (hk9.out _ (Below.refl _ _).drew) (fun hHeld => ?_)
      refine take_in (i := 0) (v := ?_) rfl (by kernel_rfl) (by kernel_rfl) (by kernel_rfl) (fun _ _ _ h => h) (by rfl) ?_ hHeld ?_
      rotate_left
      · intro w hSw
        (try dsimp only at hSw)
        go_simp
        try with_reducible rfl
      try simp only [Act.put, List.setIfInBounds_toArray, List.set_cons_zero, List.set_cons_succ]
      refine take_in (i := 1) (v := ?_) rfl (by kernel_rfl) (by kernel_rfl) (by kernel_rfl) (fun _ _ _ h => h) (by rfl) ?_ hHeld ?_
      rotate_left
      · intro w hSw
        (try dsimp only at hSw)
        go_simp
        try with_reducible rfl
      try simp only [Act.put, List.setIfInBounds_toArray, List.set_cons_zero, List.set_cons_succ]
      refine take_in (i := 2) (v := ?_) rfl (by kernel_rfl) (by kernel_rfl) (by kernel_rfl) (fun _ _ _ h => h) (by rfl) ?_ hHeld ?_
      rotate_left
      · intro w hSw
        (try dsimp only at hSw)
        go_simp
        try with_reducible rfl
      try simp only [Act.put, List.setIfInBounds_toArray, List.set_cons_zero, List.set_cons_succ]
      refine take_in (i := 3) (v := ?_) rfl (by kernel_rfl) (by kernel_rfl) (by kernel_rfl) (fun _ _ _ h => h) (by rfl) ?_ hHeld ?_
      rotate_left
      · intro w hSw
        (try dsimp only at hSw)
        go_simp
        try with_reducible rfl
      try simp only [Act.put, List.setIfInBounds_toArray, List.set_cons_zero, List.set_cons_succ]
      refine take_in (i := 4) (v := ?_) rfl (by kernel_rfl) (by kernel_rfl) (by kernel_rfl) (fun _ _ _ h => h) (by rfl) ?_ hHeld ?_
      rotate_left
      · intro w hSw
        (try dsimp only at hSw)
        go_simp
        try with_reducible rfl
      try simp only [Act.put, List.setIfInBounds_toArray, List.set_cons_zero, List.set_cons_succ]
      refine take_in (i := 5) (v := ?_) rfl (by kernel_rfl) (by kernel_rfl) (by kernel_rfl) (fun _ _ _ h => h) (by rfl) ?_ hHeld ?_
      rotate_left
      · intro w hSw
        (try dsimp only at hSw)
        go_simp
        try with_reducible rfl
      try simp only [Act.put, List.setIfInBounds_toArray, List.set_cons_zero, List.set_cons_succ]
      refine take_in (i := 6) (v := ?_) rfl (by kernel_rfl) (by kernel_rfl) (by kernel_rfl) (fun _ _ _ h => h) (by rfl) ?_ hHeld ?_
      rotate_left
      · intro w hSw
        (try dsimp only at hSw)
        go_simp
        try with_reducible rfl
      try simp only [Act.put, List.setIfInBounds_toArray, List.set_cons_zero, List.set_cons_succ]
      refine take_in (i := 7) (v := ?_) rfl (by kernel_rfl) (by kernel_rfl) (by kernel_rfl) (fun _ _ _ h => h) (by rfl) ?_ hHeld ?_
      rotate_left
      · intro w hSw
        (try dsimp only at hSw)
        go_simp
        try with_reducible rfl
      try simp only [Act.put, List.setIfInBounds_toArray, List.set_cons_zero, List.set_cons_succ]
      refine take_in (i := 8) (v := ?_) rfl (by kernel_rfl) (by kernel_rfl) (by kernel_rfl) (fun _ _ _ h => h) (by rfl) ?_ hHeld ?_
      rotate_left
      · intro w hSw
        (try dsimp only at hSw)
        go_simp
        try with_reducible rfl
      try simp only [Act.put, List.setIfInBounds_toArray, List.set_cons_zero, List.set_cons_succ]
      refine take_in (i := 9) (v := ?_) rfl (by kernel_rfl) (by kernel_rfl) (by kernel_rfl) (fun _ _ _ h => h) (by rfl) ?_ hHeld ?_
      rotate_left
      · intro w hSw
        (try dsimp only at hSw)
        go_simp
        try with_reducible rfl
      try simp only [Act.put, List.setIfInBounds_toArray, List.set_cons_zero, List.set_cons_succ]
      refine call_in (i := 10) rfl (by kernel_rfl) (fun K hK => ?_)
      clear hHeld
      go_simp
      go_at_call 39
      refine (sameLevel_same tj _ _ _ (HLS0.out.below (Below.refl _ _).drew) (HLS0'.out.below (Below.refl _ _).drew)).mono ?_
      rintro e w9 ⟨rfl, hb9⟩
      have H9 := Lib.hid ((Below.refl _ _).drew.trans hb9)
      clear hb9

      try (go_wp2_with fail)
      refine hK.out _ _ (hk9.out _ H9.out) (fun hHeld => ?_)
      clear hK K
      try simp only [Act.put, List.setIfInBounds_toArray, List.set_cons_zero, List.set_cons_succ]
      refine take_in (i := 11) (v := ?_) rfl (by kernel_rfl) (by kernel_rfl) (by kernel_rfl) (fun _ _ _ h => h) (by rfl) ?_ hHeld ?_
      rotate_left
      · intro w hSw
        (try dsimp only at hSw)
        go_simp
        try with_reducible rfl
      try simp only [Act.put, List.setIfInBounds_toArray, List.set_cons_zero, List.set_cons_succ]
      refine wpAnyH_done (by kernel_rfl) ?_ _
      go_wp2_with fail
      go_roundw
      case rel => exact ⟨j + 1, by omega, by go_num, hbw.out.trans (H9.out.mono hbw.out.size)⟩
      case measure => simp [intOf]; omega
    · obtain rfl : j = ll := by omega
      have hln : decide ((j : Int) < (j : Int)) = false := by simp
      go_wp2_with fail
      clear hlt hln x3 y3 x4 y4 hsz
      go_loopw [6] (fun i wr => ∃ j : Nat, j ≤ len ∧ i = .int .i64 j ∧ Hid (Below W.heap.size W wr)) (fun i _ => len - (intOf i).toNat)
      case atStart => exact ⟨0, Nat.zero_le _, rfl, hbw.out⟩
      case round =>
        obtain ⟨j, hj, rfl, hbw2⟩ := hrel
        have HB3 := Lib.hid (HB.out.trans (hbw2.out.mono HB.out.size))
        have hsz : w.heap.size + 2 ≤ wr.heap.size := by rw [← HZ9.out]; exact hbw2.out.size
        obtain ⟨x3, y3, x4, y4⟩ := hk.out wr hbw2.out
        by_cases hlt : j < len
        · have hx1 : j < ts.length := by rw [HN.out]; exact hlt
          have hln : decide ((j : Int) < (len : Int)) = true := by simp; omega
          obtain ⟨b, o, l, s, rfl, hbs, _, hc0, hc1, hc2, hc3, hc4, hls⟩ := tsP_get HTS.out j hx1
          obtain ⟨b', o', l', s', rfl, hbs', _, hc0', hc1', hc2', hc3', hc4', hls'⟩ := tsP_get HTS'.out j hx1
          have hbs2 := Nat.lt_of_lt_of_le hbs HB3.out.size
          have hbs2' := Nat.lt_of_lt_of_le hbs' HB3.out.size
          have hc0 := (HB3.out.cell (p := ⟨b, _, none⟩) hbs).trans hc0
          have hc1 := (HB3.out.cell (p := ⟨b, _, none⟩) hbs).trans hc1
          have hc2 := (HB3.out.cell (p := ⟨b, _, none⟩) hbs).trans hc2
          have hc3 := (HB3.out.cell (p := ⟨b, _, none⟩) hbs).trans hc3
          have hc4 := (HB3.out.cell (p := ⟨b, _, none⟩) hbs).trans hc4
          have hc0' := (HB3.out.cell (p := ⟨b', _, none⟩) hbs').trans hc0'
          have hc1' := (HB3.out.cell (p := ⟨b', _, none⟩) hbs').trans hc1'
          have hc2' := (HB3.out.cell (p := ⟨b', _, none⟩) hbs').trans hc2'
          have hc3' := (HB3.out.cell (p := ⟨b', _, none⟩) hbs').trans hc3'
          have hc4' := (HB3.out.cell (p := ⟨b', _, none⟩) hbs').trans hc4'
          obtain ⟨⟨xa, xl, xc, rfl⟩, ya, yl, yc, rfl⟩ := tmP_slices hls
          obtain ⟨⟨xa', xl', xc', rfl⟩, ya', yl', yc', rfl⟩ := tmP_slices hls'
          have HLS0 : Hid (TmV wr ts[j] (tv ts[j] (.slice xa xl xc) (.slice ya yl yc))) := ⟨_, _, rfl, tmP_below HB3.out hls⟩
          have HLS0' : Hid (TmV wr ts[j] (tv ts[j] (.slice xa' xl' xc') (.slice ya' yl' yc'))) := ⟨_, _, rfl, tmP_below HB3.out hls'⟩
          dsimp only [tv] at HLS0 HLS0'
          have HTN : Hid (tnodes ts[j] ≤ N) := Nat.le_trans (tnodes_mem (List.getElem_mem hx1)) HNN.out
          generalize tkOf ts[j] = ki at *
          generalize tnOf ts[j] = nu at *
          generalize tmOf ts[j] = mo at *
          generalize ts[j] = tj at *
          have hk8 : Hid (∀ W', Below wr.heap.size wr W' → W'.cell? ⟨w.heap.size, 4, none⟩ = some (.slice (some ⟨b, o, none⟩) len cap) ∧ W'.cell? ⟨w.heap.size + 1, 4, none⟩ = some (.slice (some ⟨b', o', none⟩) len cap') ∧ W'.cell? ⟨b, o + j * 5, none⟩ = some (.int .i64 ki) ∧ W'.cell? ⟨b, o + j * 5 + 1, none⟩ = some (.int .i64 nu) ∧ W'.cell? ⟨b, o + j * 5 + 2, none⟩ = some (.string mo) ∧ W'.cell? ⟨b, o + j * 5 + 3, none⟩ = some (.slice xa xl xc) ∧ W'.cell? ⟨b, o + j * 5 + 4, none⟩ = some (.slice ya yl yc) ∧ W'.cell? ⟨b', o' + j * 5, none⟩ = some (.int .i64 ki) ∧ W'.cell? ⟨b', o' + j * 5 + 1, none⟩ = some (.int .i64 nu) ∧ W'.cell? ⟨b', o' + j * 5 + 2, none⟩ = some (.string mo) ∧ W'.cell? ⟨b', o' + j * 5 + 3, none⟩ = some (.slice xa' xl' xc') ∧ W'.cell? ⟨b', o' + j * 5 + 4, none⟩ = some (.slice ya' yl' yc')) := fun W' h => by
            obtain ⟨x3, y3, x4, y4⟩ := hk.out W' (hbw2.out.trans (h.mono hbw2.out.size))
            exact ⟨x4, y4, (h.cell (p := ⟨b, _, none⟩) hbs2).trans hc0, (h.cell (p := ⟨b, _, none⟩) hbs2).trans hc1, (h.cell (p := ⟨b, _, none⟩) hbs2).trans hc2, (h.cell (p := ⟨b, _, none⟩) hbs2).trans hc3, (h.cell (p := ⟨b, _, none⟩) hbs2).trans hc4, (h.cell (p := ⟨b', _, none⟩) hbs2').trans hc0', (h.cell (p := ⟨b', _, none⟩) hbs2').trans hc1', (h.cell (p := ⟨b', _, none⟩) hbs2').trans hc2', (h.cell (p := ⟨b', _, none⟩) hbs2').trans hc3', (h.cell (p := ⟨b', _, none⟩) hbs2').trans hc4'⟩
          have h0 : (0 : Int) ≤ (j : Int) := by omega
          have hji : (j : Int) < (len : Int) := by omega
          clear hls hls' hbs hbs'
          go_wp2_with fail
          refine wp_region_held_drew (S := fun W' => W'.cell? ⟨w.heap.size, 4, none⟩ = some (.slice (some ⟨b, o, none⟩) len cap) ∧ W'.cell? ⟨w.heap.size + 1, 4, none⟩ = some (.slice (some ⟨b', o', none⟩) len cap') ∧ W'.cell? ⟨b, o + j * 5, none⟩ = some (.int .i64 ki) ∧ W'.cell? ⟨b, o + j * 5 + 1, none⟩ = some (.int .i64 nu) ∧ W'.cell? ⟨b, o + j * 5 + 2, none⟩ = some (.string mo) ∧ W'.cell? ⟨b, o + j * 5 + 3, none⟩ = some (.slice xa xl xc) ∧ W'.cell? ⟨b, o + j * 5 + 4, none⟩ = some (.slice ya yl yc) ∧ W'.cell? ⟨b', o' + j * 5, none⟩ = some (.int .i64 ki) ∧ W'.cell? ⟨b', o' + j * 5 + 1, none⟩ = some (.int .i64 nu) ∧ W'.cell? ⟨b', o' + j * 5 + 2, none⟩ = some (.string mo) ∧ W'.cell? ⟨b', o' + j * 5 + 3, none⟩ = some (.slice xa' xl' xc') ∧ W'.cell? ⟨b', o' + j * 5 + 4, none⟩ = some (.slice ya' yl' yc')) (by kernel_rfl) (hk8.out _ (Below.refl _ _).drew) (fun hHeld => ?_)
          refine take_in (i := 0) (v := ?_) rfl (by kernel_rfl) (by kernel_rfl) (by kernel_rfl) (fun _ _ _ h => h) (by rfl) ?_ hHeld ?_
          rotate_left
          · intro w hSw
            (try dsimp only at hSw)
            go_simp
            try with_reducible rfl
          try simp only [Act.put, List.setIfInBounds_toArray, List.set_cons_zero, List.set_cons_succ]
          refine take_in (i := 1) (v := ?_) rfl (by kernel_rfl) (by kernel_rfl) (by kernel_rfl) (fun _ _ _ h => h) (by rfl) ?_ hHeld ?_
          rotate_left
          · intro w hSw
            (try dsimp only at hSw)
            go_simp
            try with_reducible rfl
          try simp only [Act.put, List.setIfInBounds_toArray, List.set_cons_zero, List.set_cons_succ]
          refine take_in (i := 2) (v := ?_) rfl (by kernel_rfl) (by kernel_rfl) (by kernel_rfl) (fun _ _ _ h => h) (by rfl) ?_ hHeld ?_
          rotate_left
          · intro w hSw
            (try dsimp only at hSw)
            go_simp
            try with_reducible rfl
          try simp only [Act.put, List.setIfInBounds_toArray, List.set_cons_zero, List.set_cons_succ]
          refine take_in (i := 3) (v := ?_) rfl (by kernel_rfl) (by kernel_rfl) (by kernel_rfl) (fun _ _ _ h => h) (by rfl) ?_ hHeld ?_
          rotate_left
          · intro w hSw
            (try dsimp only at hSw)
            go_simp
            try with_reducible rfl
          try simp only [Act.put, List.setIfInBounds_toArray, List.set_cons_zero, List.set_cons_succ]
          refine take_in (i := 4) (v := ?_) rfl (by kernel_rfl) (by kernel_rfl) (by kernel_rfl) (fun _ _ _ h => h) (by rfl) ?_ hHeld ?_
          rotate_left
          · intro w hSw
            (try dsimp only at hSw)
            go_simp
            try with_reducible rfl
          try simp only [Act.put, List.setIfInBounds_toArray, List.set_cons_zero, List.set_cons_succ]
          refine take_in (i := 5) (v := ?_) rfl (by kernel_rfl) (by kernel_rfl) (by kernel_rfl) (fun _ _ _ h => h) (by rfl) ?_ hHeld ?_
          rotate_left
          · intro w hSw
            (try dsimp only at hSw)
            go_simp
            try with_reducible rfl
          try simp only [Act.put, List.setIfInBounds_toArray, List.set_cons_zero, List.set_cons_succ]
          refine take_in (i := 6) (v := ?_) rfl (by kernel_rfl) (by kernel_rfl) (by kernel_rfl) (fun _ _ _ h => h) (by rfl) ?_ hHeld ?_
          rotate_left
          · intro w hSw
            (try dsimp only at hSw)
            go_simp
            try with_reducible rfl
          try simp only [Act.put, List.setIfInBounds_toArray, List.set_cons_zero, List.set_cons_succ]
          refine take_in (i := 7) (v := ?_) rfl (by kernel_rfl) (by kernel_rfl) (by kernel_rfl) (fun _ _ _ h => h) (by rfl) ?_ hHeld ?_
          rotate_left
          · intro w hSw
            (try dsimp only at hSw)
            go_simp
            try with_reducible rfl
          try simp only [Act.put, List.setIfInBounds_toArray, List.set_cons_zero, List.set_cons_succ]
          refine take_in (i := 8) (v := ?_) rfl (by kernel_rfl) (by kernel_rfl) (by kernel_rfl) (fun _ _ _ h => h) (by rfl) ?_ hHeld ?_
          rotate_left
          · intro w hSw
            (try dsimp only at hSw)
            go_simp
            try with_reducible rfl
          try simp only [Act.put, List.setIfInBounds_toArray, List.set_cons_zero, List.set_cons_succ]
          refine take_in (i := 9) (v := ?_) rfl (by kernel_rfl) (by kernel_rfl) (by kernel_rfl) (fun _ _ _ h => h) (by rfl) ?_ hHeld ?_
          rotate_left
          · intro w hSw
            (try dsimp only at hSw)
            go_simp
            try with_reducible rfl
          try simp only [Act.put, List.setIfInBounds_toArray, List.set_cons_zero, List.set_cons_succ]
          refine call_in (i := 10) rfl (by kernel_rfl) (fun K hK => ?_)
          clear hHeld
          go_simp
          go_at_call 12
          refine (IH.out tj _ _ _ HTN.out (HLS0.out.below (Below.refl _ _).drew) (HLS0'.out.below (Below.refl _ _).drew)).mono ?_
          rintro e w9 ⟨rfl, hb9⟩
          have H8 := Lib.hid ((Below.refl _ _).drew.trans hb9)
          clear hb9

          try (go_wp2_with fail)
          refine hK.out _ _ (hk8.out _ H8.out) (fun hHeld => ?_)
          clear hK K
          try simp only [Act.put, List.setIfInBounds_toArray, List.set_cons_zero, List.set_cons_succ]
          refine take_in (i := 11) (v := ?_) rfl (by kernel_rfl) (by kernel_rfl) (by kernel_rfl) (fun _ _ _ h => h) (by rfl) ?_ hHeld ?_
          rotate_left
          · intro w hSw
            (try dsimp only at hSw)
            go_simp
            try with_reducible rfl
          try simp only [Act.put, List.setIfInBounds_toArray, List.set_cons_zero, List.set_cons_succ]
          refine wpAnyH_done (by kernel_rfl) ?_ _
          go_wp2_with fail
          go_roundw
          case rel => exact ⟨j + 1, by omega, by go_num, hbw2.out.trans (H8.out.mono hbw2.out.size)⟩
          case measure => simp [intOf]; omega
        · obtain rfl : j = len := by omega
          have hln : decide ((j : Int) < (j : Int)) = false := by simp
          go_wp2_with fail
          go_ret
          exact ⟨rfl, HB3.out⟩
theorem sameTerm_is (t : Tm) (v v' : Value) (w : World) (hv : TmV w t v) (hv' : TmV w t v') : Calls Tryz.prog 12 #[v, v'] w (Ret w (.bool true)) :=
  sameTerm_up (tnodes t) t v v' w (Nat.le_refl _) hv hv'
end Trm
end Go.Proofs.YtbkdecgfiiajnaaGreatDoor
