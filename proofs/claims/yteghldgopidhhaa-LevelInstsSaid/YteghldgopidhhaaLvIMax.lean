/-
  The contract of the program's function IMax.
  Conditions: each text's own.
-/
import Derived.Test.YteghldgopidhhaaLvMake
import Derived.Deep.RegionLaw
namespace Go.Proofs.Yteghldgopidhhaa
open Go.RowKit
open Lvl
set_option maxRecDepth 100000 in
set_option maxHeartbeats 2000000 in
theorem imax_is (t u : Lv) (v v' : Value) (w : World) (hv : LvV w t v) (hv' : LvV w u v') (hm : nodes t ≤ 1000) (hm' : nodes u ≤ 1000) : Calls Try.prog 27 #[v, v'] w (LvRet w (.mk 5 0 [t, u])) := by
  obtain ⟨i0, hi0, hz0, hz1, hz2⟩ := info_parts infoLv
  have HM := Lib.hid hm
  have HM' := Lib.hid hm'
  obtain ⟨s, rfl, hs⟩ := hv
  obtain ⟨s', rfl, hs'⟩ := hv'
  have HVA := Lib.hid (show LvV w t _ from ⟨s, rfl, hs⟩)
  have HVB := Lib.hid (show LvV w u _ from ⟨s', rfl, hs'⟩)
  obtain ⟨k1, hk1⟩ : ∃ k, kindOf t = k := ⟨_, rfl⟩
  obtain ⟨n1, hn1⟩ : ∃ n, numOf t = n := ⟨_, rfl⟩
  obtain ⟨k2, hk2⟩ : ∃ k, kindOf u = k := ⟨_, rfl⟩
  obtain ⟨n2, hn2⟩ : ∃ n, numOf u = n := ⟨_, rfl⟩
  have CA : Hid (∀ w' v, LvV w' t v → Calls Try.prog 44 #[v] w' (fun e w9 => ∃ s, e = .returned (.agg #[.int .i64 k1, .int .i64 n1, s]) ∧ LvP w9 (fun b => w'.heap.size ≤ b) t s ∧ Below w'.heap.size w' w9)) := fun w' v h => by
    have := own_any t v w' h hm
    unfold LvRet at this
    rwa [hk1, hn1] at this
  have CB : Hid (∀ w' v, LvV w' u v → Calls Try.prog 44 #[v] w' (fun e w9 => ∃ s, e = .returned (.agg #[.int .i64 k2, .int .i64 n2, s]) ∧ LvP w9 (fun b => w'.heap.size ≤ b) u s ∧ Below w'.heap.size w' w9)) := fun w' v h => by
    have := own_any u v w' h hm'
    unfold LvRet at this
    rwa [hk2, hn2] at this
  rw [hk1, hn1] at HVA ⊢
  rw [hk2, hn2] at HVB ⊢
  have HKK := Lib.hid hk1
  have HNN := Lib.hid hn1
  have HKK' := Lib.hid hk2
  have HNN' := Lib.hid hn2
  clear hs hs' hm hm' hk1 hn1 hk2 hn2
  go_enter Try.func27, Try.ntmps27
  go_wp2_with fail
  have HB := Lib.hid ((below_2 w (.cells #[.int .i64 k1, .int .i64 n1, s] 24) (.cells #[.int .i64 k2, .int .i64 n2, s'] 24)).trans ((below_lit _ (.cells #[.int .i64 0, .int .i64 0, .slice none 0 0] 24)).mono (by simp; omega)))
  have hz : (((w.alloc (.cells #[.int .i64 k1, .int .i64 n1, s] 24)).alloc (.cells #[.int .i64 k2, .int .i64 n2, s'] 24)).alloc (.cells #[.int .i64 0, .int .i64 0, .slice none 0 0] 24)).heap.size = w.heap.size + 1 + 1 + 1 := by simp
  have hr0 : (((w.alloc (.cells #[.int .i64 k1, .int .i64 n1, s] 24)).alloc (.cells #[.int .i64 k2, .int .i64 n2, s'] 24)).alloc (.cells #[.int .i64 0, .int .i64 0, .slice none 0 0] 24)).heap[w.heap.size]? = some (.cells #[.int .i64 k1, .int .i64 n1, s] 24) := (heap_alloc_old _ _ (by simp; omega)).trans ((heap_alloc_old _ _ (by simp)).trans (heap_alloc_new w _))
  have hr1 : (((w.alloc (.cells #[.int .i64 k1, .int .i64 n1, s] 24)).alloc (.cells #[.int .i64 k2, .int .i64 n2, s'] 24)).alloc (.cells #[.int .i64 0, .int .i64 0, .slice none 0 0] 24)).heap[w.heap.size + 1]? = some (.cells #[.int .i64 k2, .int .i64 n2, s'] 24) := (heap_alloc_old _ _ (by simp)).trans (row_2 w _ _)
  have hr2 : (((w.alloc (.cells #[.int .i64 k1, .int .i64 n1, s] 24)).alloc (.cells #[.int .i64 k2, .int .i64 n2, s'] 24)).alloc (.cells #[.int .i64 0, .int .i64 0, .slice none 0 0] 24)).heap[w.heap.size + 1 + 1]? = some (.cells #[.int .i64 0, .int .i64 0, .slice none 0 0] 24) := by
    have := heap_alloc_new ((w.alloc (.cells #[.int .i64 k1, .int .i64 n1, s] 24)).alloc (.cells #[.int .i64 k2, .int .i64 n2, s'] 24)) (.cells #[.int .i64 0, .int .i64 0, .slice none 0 0] 24)
    rwa [show ((w.alloc (.cells #[.int .i64 k1, .int .i64 n1, s] 24)).alloc (.cells #[.int .i64 k2, .int .i64 n2, s'] 24)).heap.size = w.heap.size + 1 + 1 by simp] at this
  generalize ((w.alloc (.cells #[.int .i64 k1, .int .i64 n1, s] 24)).alloc (.cells #[.int .i64 k2, .int .i64 n2, s'] 24)).alloc (.cells #[.int .i64 0, .int .i64 0, .slice none 0 0] 24) = W at *
  have hk : Hid (∀ W', Below W.heap.size W W' → W'.cell? ⟨w.heap.size, 0, none⟩ = some (.int .i64 k1) ∧ W'.cell? ⟨w.heap.size, 1, none⟩ = some (.int .i64 n1) ∧ W'.cell? ⟨w.heap.size, 2, none⟩ = some s ∧ W'.cell? ⟨w.heap.size + 1, 0, none⟩ = some (.int .i64 k2) ∧ W'.cell? ⟨w.heap.size + 1, 1, none⟩ = some (.int .i64 n2) ∧ W'.cell? ⟨w.heap.size + 1, 2, none⟩ = some s' ∧ W'.heap[w.heap.size + 1 + 1]? = some (.cells #[.int .i64 0, .int .i64 0, .slice none 0 0] 24 (0, 0))) := fun W' h => by
    have p0 := (h.block w.heap.size (by omega)).trans hr0
    have p1 := (h.block (w.heap.size + 1) (by omega)).trans hr1
    have p2 := (h.block (w.heap.size + 1 + 1) (by omega)).trans hr2
    exact ⟨cell_of_row _ _ 0 _ 24 (0, 0) p0, cell_of_row _ _ 1 _ 24 (0, 0) p0, cell_of_row _ _ 2 _ 24 (0, 0) p0, cell_of_row _ _ 0 _ 24 (0, 0) p1, cell_of_row _ _ 1 _ 24 (0, 0) p1, cell_of_row _ _ 2 _ 24 (0, 0) p1, p2⟩
  have HZ := Lib.hid hz
  have HVA2 := Lib.hid (HVA.out.below HB.out)
  have HVB2 := Lib.hid (HVB.out.below HB.out)
  obtain ⟨m1, m2, m3, m4, m5, m6, m7⟩ := hk.out W (Below.refl _ _)
  have hd : Below W.heap.size W W.drew := (Below.refl _ _).drew
  have HD := Lib.hid hd
  clear hr0 hr1 hr2 hz m7 hd
  go_region_law (first | (go_simp; go_at_call 44; (first | refine (CA.out _ _ (HVA2.out.below HD.out)).mono ?_ | refine (CA.out _ _ (HVA2.out.below hcB.out)).mono ?_); rintro e wA ⟨sA, rfl, hsA, hbA⟩; have hcA : Hid (Below W.heap.size W wA) := (by first | exact HD.out.trans (hbA.mono HD.out.size) | exact hcB.out.trans (hbA.mono hcB.out.size)); have pA : Hid (LvP wA (fun b => W.heap.size ≤ b) t sA) := (by first | exact lvP_weak hsA (fun b hb => Nat.le_trans HD.out.size hb) | exact lvP_weak hsA (fun b hb => Nat.le_trans hcB.out.size hb)); (try have pB' : Hid (LvP wA (fun b => W.heap.size ≤ b) u sB) := lvP_below pB.out hbA); clear hsA hbA; obtain ⟨a1, a2, a3, a4, a5, a6, a7⟩ := hk.out wA hcA.out; clear a7) | (go_simp; go_at_call 44; (first | refine (CB.out _ _ (HVB2.out.below HD.out)).mono ?_ | refine (CB.out _ _ (HVB2.out.below hcA.out)).mono ?_); rintro e wB ⟨sB, rfl, hsB, hbB⟩; have hcB : Hid (Below W.heap.size W wB) := (by first | exact HD.out.trans (hbB.mono HD.out.size) | exact hcA.out.trans (hbB.mono hcA.out.size)); have pB : Hid (LvP wB (fun b => W.heap.size ≤ b) u sB) := (by first | exact lvP_weak hsB (fun b hb => Nat.le_trans HD.out.size hb) | exact lvP_weak hsB (fun b hb => Nat.le_trans hcA.out.size hb)); (try have pA' : Hid (LvP wB (fun b => W.heap.size ≤ b) t sA) := lvP_below pA.out hbB); clear hsB hbB; obtain ⟨b1, b2, b3, b4, b5, b6, b7⟩ := hk.out wB hcB.out; clear b7) | (go_simp; go_at_call 45; refine (node_is 5 _ _ _ _).mono ?_; rintro e w3 ⟨rfl, hb3⟩; have hc3 : Hid (Below W.heap.size W w3) := (by first | exact below_more hcB.out hb3 | exact below_more hcA.out hb3); obtain ⟨_, _, _, _, _, _, hrz⟩ := hk.out w3 hc3.out; have e0 := cell_of_row w3 _ 0 #[.int .i64 0, .int .i64 0, .slice none 0 0] 24 (0, 0) hrz; have g0 := frozen0 (p := 0) hrz; have e1 := cell_of_row w3 _ 1 #[.int .i64 0, .int .i64 0, .slice none 0 0] 24 (0, 0) hrz; have g1 := frozen0 (p := 1) hrz; have e2 := cell_of_row w3 _ 2 #[.int .i64 0, .int .i64 0, .slice none 0 0] 24 (0, 0) hrz; have g2 := frozen0 (p := 2) hrz; (first | have hP := Lib.hid (two_done pA'.out pB.out hcB.out.size HKK.out HNN.out HKK'.out HNN'.out hb3 5) | have hP := Lib.hid (two_done pA.out pB'.out hcA.out.size HKK.out HNN.out HKK'.out HNN'.out hb3 5)); clear hb3))
  all_goals (
    go_wp2_with fail
    refine bodyPost_ret (results_cell_row rfl _ _ (w.heap.size + 1 + 1) 24 _ (0, 0) _ rfl (set3_row hrz) Try.underlying24 rfl (by rw [hi0, Option.map_some, hz1]; rfl)) rfl ?_
    have hzz := HZ.out
    refine ⟨_, rfl, lvP_move (w := w3) (fun b _ hp => ⟨by omega, ?_⟩) ?_ _ _ hP.out, below_set (below_set (below_set (HB.out.trans (hc3.out.mono HB.out.size)) _ _ ?_) _ _ ?_) _ _ ?_⟩
    · rw [setCell_far _ _ _ _ ?_, setCell_far _ _ _ _ ?_, setCell_far _ _ _ _ ?_] <;> (show b ≠ w.heap.size + 1 + 1; omega)
    · rw [setCell_size, setCell_size, setCell_size]; exact Nat.le_refl _
    all_goals (show w.heap.size ≤ w.heap.size + 1 + 1; omega))
end Go.Proofs.Yteghldgopidhhaa
