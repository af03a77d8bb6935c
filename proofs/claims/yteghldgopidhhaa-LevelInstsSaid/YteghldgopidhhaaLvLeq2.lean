/-
  The contract of the reference's function Leq at any two levels: at right ones by all values, else false.
  Conditions: the levels lie in memory as told by 'LvV'.
-/
import Derived.Test.YteghldgopidhhaaLvLeq
namespace Go.Proofs.Yteghldgopidhhaa
open Go.RowKit
open Lvl

/-- Is one level at most another one? Of levels that aren't right for 4: no. -/
def LeqIs (t u : Lv) (b : Bool) : Prop :=
  (rightB 4 t = true ∧ rightB 4 u = true ∧ ∃ x y, IsL 4 t x ∧ IsL 4 u y ∧ (b = true ↔ Lvl.Leq x y)) ∨ ((rightB 4 t = false ∨ rightB 4 u = false) ∧ b = false)
theorem leqIs_ex (t u : Lv) : ∃ b, LeqIs t u b := by
  cases ht : rightB 4 t
  · exact ⟨false, .inr ⟨.inl ht, rfl⟩⟩
  · cases hu : rightB 4 u
    · exact ⟨false, .inr ⟨.inr hu, rfl⟩⟩
    · obtain ⟨_, x, hx⟩ := rightB_is ht
      obtain ⟨_, y, hy⟩ := rightB_is hu
      by_cases h : Lvl.Leq x y
      · exact ⟨true, .inl ⟨ht, hu, x, y, hx, hy, fun _ => h, fun _ => rfl⟩⟩
      · exact ⟨false, .inl ⟨ht, hu, x, y, hx, hy, (fun e => by cases e), fun h' => absurd h' h⟩⟩
theorem LeqIs.one {t u : Lv} {b b' : Bool} (h : LeqIs t u b) (h' : LeqIs t u b') : b = b' := by
  rcases h with ⟨h1, h2, x, y, hx, hy, h3⟩ | ⟨h1, h2⟩ <;> rcases h' with ⟨h1', h2', x', y', hx', hy', h3'⟩ | ⟨h1', h2'⟩
  · rw [isL_one hx' hx, isL_one hy' hy] at h3'
    exact Bool.eq_iff_iff.2 (h3.trans h3'.symm)
  · rcases h1' with h | h
    · rw [h1] at h; cases h
    · rw [h2] at h; cases h
  · rcases h1 with h | h
    · rw [h1'] at h; cases h
    · rw [h2'] at h; cases h
  · rw [h2, h2']

set_option maxRecDepth 100000 in
set_option maxHeartbeats 2000000 in
theorem refLeq_no (t u : Lv) (v v' : Value) (w : World) (hv : LvV w t v) (hv' : LvV w u v') (hno : rightB 4 t = false ∨ rightB 4 u = false) :
    Calls Try.prog 11 #[v, v'] w (Ret w (.bool false)) := by
  obtain ⟨s, rfl, hs⟩ := hv
  obtain ⟨s', rfl, hs'⟩ := hv'
  have HVT := Lib.hid (show LvV w t _ from ⟨s, rfl, hs⟩)
  have HVU := Lib.hid (show LvV w u _ from ⟨s', rfl, hs'⟩)
  obtain ⟨r1, hr1⟩ : ∃ r, rightB 4 t = r := ⟨_, rfl⟩
  have HR := Lib.hid hr1
  have HNO : Hid (r1 = true → rightB 4 u = false) := fun h => by
    rcases hno with h' | h'
    · rw [hr1, h] at h'; cases h'
    · exact h'
  generalize kindOf t = k1 at *
  generalize numOf t = n1 at *
  generalize kindOf u = k2 at *
  generalize numOf u = n2 at *
  clear hs hs' hr1 hno
  go_enter Try.func11, Try.ntmps11
  go_wp2_with fail
  have HB0 := Lib.hid (below_lit w (.cells #[.int .i64 k1, .int .i64 n1, s] 24))
  have hz0 : (w.alloc (.cells #[.int .i64 k1, .int .i64 n1, s] 24)).heap.size = w.heap.size + 1 := by simp
  generalize w.alloc (.cells #[.int .i64 k1, .int .i64 n1, s] 24) = W0 at *
  have HB1 := Lib.hid (below_lit W0 (.cells #[.int .i64 k2, .int .i64 n2, s'] 24))
  obtain ⟨b0, b1, b2⟩ := box_cells W0 (.int .i64 k2) (.int .i64 n2) s' 24
  have hz1 : (W0.alloc (.cells #[.int .i64 k2, .int .i64 n2, s'] 24)).heap.size = w.heap.size + 2 := by simp [hz0]
  rw [hz0] at b0 b1 b2
  generalize W0.alloc (.cells #[.int .i64 k2, .int .i64 n2, s'] 24) = W at *
  have HB := Lib.hid (HB0.out.trans (HB1.out.mono HB0.out.size))
  have l2 : w.heap.size + 1 < W.heap.size := by omega
  clear hz0 HB0 HB1
  refine (refRight_any t _ 4 _ (HVT.out.below HB.out) r1 HR.out).mono ?_
  rintro e w2 ⟨rfl, hb2⟩
  have HW2 := Lib.hid (HB.out.trans (hb2.mono HB.out.size))
  have c3 := (hb2.cell (p := ⟨w.heap.size + 1, 0, none⟩) l2).trans b0
  have c4 := (hb2.cell (p := ⟨w.heap.size + 1, 1, none⟩) l2).trans b1
  have c5 := (hb2.cell (p := ⟨w.heap.size + 1, 2, none⟩) l2).trans b2
  clear hb2 b0 b1 b2 hz1
  cases r1
  · go_wp2_with fail
    go_ret
    exact ⟨rfl, HW2.out⟩
  · go_wp2_with fail
    refine (refRight_any u _ 4 _ (HVU.out.below HW2.out) false (HNO.out trivial)).mono ?_
    rintro e w3 ⟨rfl, hb3⟩
    have HW3 := Lib.hid (HW2.out.trans (hb3.mono HW2.out.size))
    clear hb3
    go_wp2_with fail
    go_ret
    exact ⟨rfl, HW3.out⟩
theorem refLeq_any (t u : Lv) (v v' : Value) (w : World) (hv : LvV w t v) (hv' : LvV w u v') (b : Bool) (hb : LeqIs t u b) :
    Calls Try.prog 11 #[v, v'] w (Ret w (.bool b)) := by
  rcases hb with ⟨h1, h2, x, y, hx, hy, h3⟩ | ⟨h1, rfl⟩
  · exact refLeq_yes t u v v' x y w hv hv' h1 h2 hx hy b h3
  · exact refLeq_no t u v v' w hv hv' h1
end Go.Proofs.Yteghldgopidhhaa
