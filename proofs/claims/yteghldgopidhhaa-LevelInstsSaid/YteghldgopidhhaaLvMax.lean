/-
  The contract of the program's function Max, of two.
  Conditions: each text's own.
-/
import Derived.Test.YteghldgopidhhaaLvMake
import Derived.Deep.RegionLaw
namespace Go.Proofs.Yteghldgopidhhaa
open Go.RowKit
open Lvl

set_option maxRecDepth 100000 in
set_option maxHeartbeats 2000000 in
theorem max_is (t u : Lv) (B : Nat) (w : World) (hs : LsV w (some ⟨B, 0, none⟩) 0 [t, u]) (hm : nodes t ≤ 1000) (hm' : nodes u ≤ 1000) : Calls Try.prog 26 #[.slice (some ⟨B, 0, none⟩) 2 2] w (LvRet w (.mk 4 0 [t, u])) := by
  obtain ⟨i0, hi0, hz0, hz1, hz2⟩ := info_parts infoLv
  obtain ⟨b, o, s1, e9, hbs, hc0, hc1, hc2, hls1⟩ := lsV_get hs 1 (by simp)
  obtain ⟨b', o', s0, e9', hbs', hd0, hd1, hd2, hls0⟩ := lsV_get hs 0 (by simp)
  cases e9
  cases e9'
  simp only [Nat.zero_mul, Nat.one_mul, Nat.add_zero, Nat.zero_add, List.getElem_cons_zero, List.getElem_cons_succ] at hc0 hc1 hc2 hd0 hd1 hd2
  change World.cell? _ ⟨B, 4, none⟩ = _ at hc1
  change World.cell? _ ⟨B, 5, none⟩ = _ at hc2
  have HLS1 := Lib.hid (show LvV _ u (.agg #[.int .i64 (kindOf u), .int .i64 (numOf u), s1]) from ⟨s1, rfl, hls1⟩)
  have HLS0 := Lib.hid (show LvV _ t (.agg #[.int .i64 (kindOf t), .int .i64 (numOf t), s0]) from ⟨s0, rfl, hls0⟩)
  obtain ⟨k1, hk1⟩ : ∃ k, kindOf t = k := ⟨_, rfl⟩
  obtain ⟨n1, hn1⟩ : ∃ n, numOf t = n := ⟨_, rfl⟩
  obtain ⟨k2, hk2⟩ : ∃ k, kindOf u = k := ⟨_, rfl⟩
  obtain ⟨n2, hn2⟩ : ∃ n, numOf u = n := ⟨_, rfl⟩
  have CA : Hid (∀ w' v, LvV w' t v → Calls Try.prog 44 #[v] w' (fun e w9 => ∃ s, e = .returned (.agg #[.int .i64 k1, .int .i64 n1, s]) ∧ LvP w9 (fun b => w'.heap.size ≤ b) t s ∧ Below w'.heap.size w' w9)) := fun w' v h => by
    have := own_any t v w' h hm
    unfold LvRet at this
    rwa [hk1, hn1] at this
  have CB : Hid (∀ w' v, LvV w' u v → Calls Try.prog 44 #[v] w' (fun e w9 => ∃ s, e = .returned (.agg #[.int .i64 k2, .int .i64 n2, s]) ∧ LvP w9 (fun b => w'.heap.size ≤ b) u s ∧ Below w'.heap.size w' w9)) := fun w' v h => by
    have := own_any u v w' h hm'
    unfold LvRet at this
    rwa [hk2, hn2] at this
  rw [hk1, hn1] at HLS0
  rw [hk1] at hd0
  rw [hn1] at hd1
  rw [hk2, hn2] at HLS1
  rw [hk2] at hc0
  rw [hn2] at hc1
  have HKK := Lib.hid hk1
  have HNN := Lib.hid hn1
  have HKK' := Lib.hid hk2
  have HNN' := Lib.hid hn2
  clear hs hls0 hls1 hm hm' hk1 hn1 hk2 hn2 hbs'
  have HB := Lib.hid (below_lit w (.cells #[.int .i64 0, .int .i64 0, .slice none 0 0] 24))
  have hr0 := heap_alloc_new w (.cells #[.int .i64 0, .int .i64 0, .slice none 0 0] 24)
  have hz : (w.alloc (.cells #[.int .i64 0, .int .i64 0, .slice none 0 0] 24)).heap.size = w.heap.size + 1 := by simp
  have q0 := (HB.out.cell (p := ⟨B, 3, none⟩) hbs).trans hc0
  have q1 := (HB.out.cell (p := ⟨B, 4, none⟩) hbs).trans hc1
  have q2 := (HB.out.cell (p := ⟨B, 5, none⟩) hbs).trans hc2
  go_enter Try.func26, Try.ntmps26
  go_wp2_with fail
  generalize w.alloc (.cells #[.int .i64 0, .int .i64 0, .slice none 0 0] 24) = W at *
  refine (CB.out W _ (HLS1.out.below HB.out)).mono ?_
  rintro e wA ⟨sU, rfl, hsU, hb⟩
  obtain ⟨ua, ul, uc, rfl⟩ := lvP_slice hsU
  have hN := below_lit wA (.cells #[.int .i64 k2, .int .i64 n2, .slice ua ul uc] 24)
  have hb2 := hb.trans (hN.mono hb.size)
  have HB2 := Lib.hid (HB.out.trans (hb2.mono HB.out.size))
  have HPU := Lib.hid (lvP_move (w := wA) (Q := fun b => w.heap.size + 1 ≤ b ∧ b ≠ wA.heap.size) (fun b hlt hp => ⟨⟨by omega, by omega⟩, hN.block b hlt⟩) hN.size _ _ hsU)
  have hr4 := heap_alloc_new wA (.cells #[.int .i64 k2, .int .i64 n2, .slice ua ul uc] 24)
  have HR0 := Lib.hid ((hb2.block w.heap.size (by omega)).trans hr0)
  have HZA : Hid (w.heap.size + 1 ≤ wA.heap.size) := by have := hb.size; rw [hz] at this; exact this
  have HZ4 := Lib.hid (show wA.heap.size < (wA.alloc (.cells #[.int .i64 k2, .int .i64 n2, .slice ua ul uc] 24)).heap.size by simp)
  have HLT := Lib.hid (HLS0.out.below HB2.out)
  clear hb hb2 hN hsU hr0 hz q0 q1 q2 hc0 hc1 hc2
  go_wp2_with fail
  generalize wA.alloc (.cells #[.int .i64 k2, .int .i64 n2, .slice ua ul uc] 24) = W4 at *
  have HR4 := Lib.hid hr4
  have HW4 := Lib.hid (Nat.le_trans HZA.out (Nat.le_of_lt HZ4.out))
  clear hr4
  have HD0 := Lib.hid hd0
  have HD1 := Lib.hid hd1
  have HD2 := Lib.hid hd2
  clear hd0 hd1 hd2
  go_loopw [5] (fun i wr => (i = .int .i64 0 ∧ wr = W4) ∨ (i = .int .i64 (-1) ∧ ∃ a l c, wr.heap[wA.heap.size]? = some (.cells #[.int .i64 4, .int .i64 0, .slice a l c] 24 (0, 0)) ∧ wr.heap[w.heap.size]? = some (.cells #[.int .i64 0, .int .i64 0, .slice none 0 0] 24 (0, 0)) ∧ LvP wr (fun b => w.heap.size + 1 ≤ b ∧ b ≠ wA.heap.size) (.mk 4 0 [t, u]) (.slice a l c) ∧ Below w.heap.size w wr)) (fun i _ => (intOf i + 1).toNat)
  case atStart => exact .inl ⟨rfl, rfl⟩
  case round =>
    rcases hrel with ⟨rfl, rfl⟩ | ⟨rfl, a, l, c, hra, hrz, hp, hb⟩
    · have hk : Hid (∀ W', Below wr.heap.size wr W' → W'.cell? ⟨B, 0, none⟩ = some (.int .i64 k1) ∧ W'.cell? ⟨B, 1, none⟩ = some (.int .i64 n1) ∧ W'.cell? ⟨B, 2, none⟩ = some s0 ∧ W'.heap[wA.heap.size]? = some (.cells #[.int .i64 k2, .int .i64 n2, .slice ua ul uc] 24 (0, 0)) ∧ W'.heap[w.heap.size]? = some (.cells #[.int .i64 0, .int .i64 0, .slice none 0 0] 24 (0, 0))) := fun W' h => by
        have q2 := HB2.out.trans (h.mono HB2.out.size)
        exact ⟨(q2.cell (p := ⟨B, 0, none⟩) hbs).trans HD0.out, (q2.cell (p := ⟨B, 1, none⟩) hbs).trans HD1.out, (q2.cell (p := ⟨B, 2, none⟩) hbs).trans HD2.out, (h.block wA.heap.size HZ4.out).trans HR4.out, (h.block w.heap.size (by have := HW4.out; omega)).trans HR0.out⟩
      have hd : Below wr.heap.size wr wr.drew := (Below.refl _ _).drew
      have HD := Lib.hid hd
      obtain ⟨m1, m2, m3, hm4, _⟩ := hk.out wr (Below.refl _ _)
      have m4 := cell_of_row wr _ 0 _ 24 (0, 0) hm4
      have m5 := cell_of_row wr _ 1 _ 24 (0, 0) hm4
      have m6 := cell_of_row wr _ 2 _ 24 (0, 0) hm4
      clear hd hm4
      go_wp2_with fail
      go_region_law (first | (go_simp; go_at_call 44; refine (CA.out _ _ (HLT.out.below HD.out)).mono ?_; rintro e wC ⟨sT, rfl, hsT, hbC⟩; have hcC : Hid (Below wr.heap.size wr wC) := HD.out.trans (hbC.mono HD.out.size); have pC : Hid (LvP wC (fun b => w.heap.size + 1 ≤ b ∧ b ≠ wA.heap.size) t sT) := lvP_weak hsT (fun b hb => by have h1 : wr.heap.size ≤ b := hb; have h2 := HW4.out; have h3 := HZ4.out; omega); have pU : Hid (LvP wC (fun b => w.heap.size + 1 ≤ b ∧ b ≠ wA.heap.size) u (.slice ua ul uc)) := lvP_below HPU.out hcC.out; clear hsT hbC; obtain ⟨a1, a2, a3, ha4, _⟩ := hk.out wC hcC.out; have a4 := cell_of_row wC _ 0 _ 24 (0, 0) ha4; have a5 := cell_of_row wC _ 1 _ 24 (0, 0) ha4; have a6 := cell_of_row wC _ 2 _ 24 (0, 0) ha4; clear ha4) | (go_simp; go_at_call 45; refine (node_is 4 _ _ _ _).mono ?_; rintro e w3 ⟨rfl, hb3⟩; have hc3 : Hid (Below wr.heap.size wr w3) := below_more hcC.out hb3; obtain ⟨_, _, _, hrz, hr09⟩ := hk.out w3 hc3.out; have e0 := cell_of_row w3 _ 0 #[.int .i64 k2, .int .i64 n2, .slice ua ul uc] 24 (0, 0) hrz; have g0 := frozen0 (p := 0) hrz; have e1 := cell_of_row w3 _ 1 #[.int .i64 k2, .int .i64 n2, .slice ua ul uc] 24 (0, 0) hrz; have g1 := frozen0 (p := 1) hrz; have e2 := cell_of_row w3 _ 2 #[.int .i64 k2, .int .i64 n2, .slice ua ul uc] 24 (0, 0) hrz; have g2 := frozen0 (p := 2) hrz; have hP := Lib.hid (two_done pC.out pU.out (by have h1 := hcC.out.size; have h2 := HW4.out; have h3 := HZ4.out; omega) HKK.out HNN.out HKK'.out HNN'.out hb3 4); clear hb3))
      all_goals (
        have HS4 := Lib.hid (set3_row (x' := .int .i64 4) (y' := .int .i64 0) (z' := .slice (some ⟨wC.heap.size, 0, none⟩) 2 2) hrz)
        have HS0 := Lib.hid ((setCell_far ((w3.setCell ⟨wA.heap.size, 0, none⟩ (.int .i64 4)).setCell ⟨wA.heap.size, 1, none⟩ (.int .i64 0)) ⟨wA.heap.size, 2, none⟩ (.slice (some ⟨wC.heap.size, 0, none⟩) 2 2) w.heap.size (by show w.heap.size ≠ wA.heap.size; have := HZA.out; omega)).trans ((setCell_far (w3.setCell ⟨wA.heap.size, 0, none⟩ (.int .i64 4)) ⟨wA.heap.size, 1, none⟩ (.int .i64 0) w.heap.size (by show w.heap.size ≠ wA.heap.size; have := HZA.out; omega)).trans ((setCell_far w3 ⟨wA.heap.size, 0, none⟩ (.int .i64 4) w.heap.size (by show w.heap.size ≠ wA.heap.size; have := HZA.out; omega)).trans hr09)))
        have HP9 : Hid (LvP (((w3.setCell ⟨wA.heap.size, 0, none⟩ (.int .i64 4)).setCell ⟨wA.heap.size, 1, none⟩ (.int .i64 0)).setCell ⟨wA.heap.size, 2, none⟩ (.slice (some ⟨wC.heap.size, 0, none⟩) 2 2)) (fun b => w.heap.size + 1 ≤ b ∧ b ≠ wA.heap.size) (.mk 4 0 [t, u]) (.slice (some ⟨wC.heap.size, 0, none⟩) 2 2)) := by
          refine lvP_move (w := w3) (fun b _ hp => ⟨hp, ?_⟩) ?_ _ _ hP.out
          · rw [setCell_far _ _ _ _ ?_, setCell_far _ _ _ _ ?_, setCell_far _ _ _ _ ?_] <;> exact hp.2
          · rw [setCell_size, setCell_size, setCell_size]; exact Nat.le_refl _
        have HB9 := Lib.hid (below_set (below_set (below_set (HB2.out.trans (hc3.out.mono HB2.out.size)) ⟨wA.heap.size, 0, none⟩ (.int .i64 4) (by show w.heap.size ≤ wA.heap.size; have := HZA.out; omega)) ⟨wA.heap.size, 1, none⟩ (.int .i64 0) (by show w.heap.size ≤ wA.heap.size; have := HZA.out; omega)) ⟨wA.heap.size, 2, none⟩ (.slice (some ⟨wC.heap.size, 0, none⟩) 2 2) (by show w.heap.size ≤ wA.heap.size; have := HZA.out; omega))
        clear hrz hr09 e0 e1 e2 g0 g1 g2 hP hc3
        generalize ((w3.setCell ⟨wA.heap.size, 0, none⟩ (.int .i64 4)).setCell ⟨wA.heap.size, 1, none⟩ (.int .i64 0)).setCell ⟨wA.heap.size, 2, none⟩ (.slice (some ⟨wC.heap.size, 0, none⟩) 2 2) = w9 at *
        go_wp2_with fail
        go_roundw
        case rel => exact .inr ⟨rfl, _, _, _, HS4.out, HS0.out, HP9.out, HB9.out⟩
        case measure => simp [intOf])
    · have c0 := cell_of_row wr _ 0 _ 24 (0, 0) hra
      have c1 := cell_of_row wr _ 1 _ 24 (0, 0) hra
      have c2 := cell_of_row wr _ 2 _ 24 (0, 0) hra
      have e0 := cell_of_row wr _ 0 _ 24 (0, 0) hrz
      have g0 := frozen0 (p := 0) hrz
      have e1 := cell_of_row wr _ 1 _ 24 (0, 0) hrz
      have g1 := frozen0 (p := 1) hrz
      have e2 := cell_of_row wr _ 2 _ 24 (0, 0) hrz
      have g2 := frozen0 (p := 2) hrz
      go_wp2_with fail
      refine bodyPost_ret (results_cell_row rfl _ _ (w.heap.size) 24 _ (0, 0) _ rfl (set3_row hrz) Try.underlying24 rfl (by rw [hi0, Option.map_some, hz1]; rfl)) rfl ?_
      refine ⟨_, rfl, lvP_move (w := wr) (fun b _ hp => ⟨by omega, ?_⟩) ?_ _ _ hp, below_set (below_set (below_set hb _ _ ?_) _ _ ?_) _ _ ?_⟩
      · rw [setCell_far _ _ _ _ ?_, setCell_far _ _ _ _ ?_, setCell_far _ _ _ _ ?_] <;> (show b ≠ w.heap.size; omega)
      · rw [setCell_size, setCell_size, setCell_size]; exact Nat.le_refl _
      all_goals (show w.heap.size ≤ w.heap.size; omega)
end Go.Proofs.Yteghldgopidhhaa
