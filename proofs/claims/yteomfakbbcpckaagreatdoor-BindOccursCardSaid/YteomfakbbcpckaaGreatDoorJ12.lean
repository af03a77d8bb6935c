/-
  Plain facts and contracts that the law's proof stands on, joined.
  Conditions: each fact's own.
-/
import Derived.Test.YteomfakbbcpckaaGreatDoorJ09
import Derived.Test.YteomfakbbcpckaaGreatDoorJ04
import Derived.Test.YteomfakbbcpckaaGreatDoorJ08
import Derived.Deep.RegionLaw
namespace Go.Proofs.YteomfakbbcpckaaGreatDoor
open Go.RowKit Go.Shelf
open Lvl
namespace Trm
attribute [local go_sem] Oper.semAt_some
def fitB (RN : ByteArray → Bool) (RL : Lv → Bool) (K : Int) (q : Tm × Nat × Nat) : Bool := shape RN RL (tkOf q.1) (tnOf q.1) (tmOf q.1) (tlOf q.1) (taOf q.1).length (K + q.2.2)
theorem bndP_under {kd n : Int} {nm : ByteArray} {ls : List Lv} {RN : ByteArray → Bool} {RL : Lv → Bool} {m : Nat} {k : Int} (h : shape RN RL kd n nm ls m k = true) (i : Nat) (hi : i < m) (d : Int) : under kd i d = d + (bndP kd m i : Nat) := by
 unfold shape at h
 unfold under binds bndP
 by_cases h1 : kd = 1
 ·subst h1; simp
 ·rw [if_neg h1] at h
  by_cases h2 : kd = 2
  ·subst h2; simp
  ·rw [if_neg h2] at h
   by_cases h3 : kd = 3
   ·subst h3; simp
   ·rw [if_neg h3] at h
    by_cases h4 : kd = 4 ∨ kd = 5 ∨ kd = 6
    ·rw [if_pos h4] at h
     simp at h
     obtain ⟨_, _, _, h5⟩ := h
     subst h5
     rcases h4 with rfl | rfl | rfl
     ·simp
     ·rcases (show i = 0 ∨ i = 1 by omega) with rfl | rfl <;> simp
     ·rcases (show i = 0 ∨ i = 1 by omega) with rfl | rfl <;> simp
    ·rw [if_neg h4] at h
     simp at h
     obtain ⟨_, _, _, h5, h6⟩ := h
     subst h5
     subst h6
     rcases (show i = 0 ∨ i = 1 ∨ i = 2 by omega) with rfl | rfl | rfl <;> simp
mutual
theorem fit_all (RN : ByteArray → Bool) (RL : Lv → Bool) (K : Int) : ∀ (t : Tm) (d b : Nat), (pre t d b).all (fitB RN RL K) = okT RN RL t (K + b)
 | .mk kd n nm ls ts, d, b => by
  rw [pre, List.all_cons, okT]
  show (shape RN RL kd n nm ls ts.length (K + b) && _) = _
  cases h : shape RN RL kd n nm ls ts.length (K + b) with
  | false => rfl
  | true => rw [Bool.true_and, Bool.true_and, fit_allL RN RL K kd n nm ls ts.length h ts 0 (d + 1) b (by omega)]
theorem fit_allL (RN : ByteArray → Bool) (RL : Lv → Bool) (K : Int) (kd n : Int) (nm : ByteArray) (ls : List Lv) (m : Nat) {k : Int} (h : shape RN RL kd n nm ls m k = true) : ∀ (ts : List Tm) (i d b : Nat), i + ts.length ≤ m → (preL kd m ts i d b).all (fitB RN RL K) = okTL RN RL kd ts i (K + b)
 | [], _, _, _, _ => by rw [preL, okTL]; rfl
 | a :: ts, i, d, b, hi => by
  rw [List.length_cons] at hi
  rw [preL, okTL, List.all_append, fit_all RN RL K a, fit_allL RN RL K kd n nm ls m h ts (i + 1) d b (by omega), bndP_under h i (by omega)]
  congr 2
  omega
end
def rightT (RN : ByteArray → Bool) (nn : Int) (t : Tm) (kk : Int) : Bool := decide (0 ≤ kk) && decide (tnodes t ≤ 2000) && okT RN (rightB nn) t (min kk 1125899906842624)
def NameC (w : World) (RN : ByteArray → Bool) : Prop := ∀ w', Below w.heap.size w w' → ∀ m : ByteArray, m.size ≤ 140737488355328 → Calls Tryz.prog 126 #[.string m] w' (Ret w' (.bool (RN m)))
theorem NameC.below {w w' : World} {RN : ByteArray → Bool} (h : NameC w RN) (hb : Below w.heap.size w w') : NameC w' RN := fun w2 h2 => h w2 (hb.trans (h2.mono hb.size))
set_option maxRecDepth 100000 in
set_option maxHeartbeats 4000000 in
theorem right_is (RN : ByteArray → Bool) (t : Tm) (v : Value) (w : World) (hv : TmV w t v) (hm : tnodes t ≤ 100000) (hnm : ∀ q, q ∈ pre t 0 0 → (tmOf q.1).size ≤ 140737488355328) (CN : NameC w RN) (nn kk : Int) (b : Bool) (hb : rightT RN nn t kk = b) :
  Calls Tryz.prog 60 #[v, .int .i64 nn, .int .i64 kk] w (Ret w (.bool b)) := by
 obtain ⟨l, s, rfl, ht⟩ := hv
 obtain ⟨⟨la, ll, lc, rfl⟩, sa, sl, sc, rfl⟩ := tmP_slices ht
 have HTT := Lib.hid ht
 obtain ⟨k, hk⟩ : ∃ k, tkOf t = k := ⟨_, rfl⟩
 obtain ⟨n, hn⟩ : ∃ n, tnOf t = n := ⟨_, rfl⟩
 obtain ⟨m, hmm⟩ : ∃ m, tmOf t = m := ⟨_, rfl⟩
 dsimp only [tv]
 rw [hk, hn, hmm]
 have HK := Lib.hid hk
 have HNN := Lib.hid hn
 have HMM := Lib.hid hmm
 have HM := Lib.hid hm
 clear hk hn hmm ht hm
 have HCN := Lib.hid CN
 have HNM := Lib.hid hnm
 have HV := Lib.hid hb
 clear CN hnm hb
 obtain ⟨R, hR⟩ : ∃ R, min (tnodes t) 2001 = R := ⟨_, rfl⟩
 have HR := Lib.hid hR
 by_cases hk0 : kk < 0
 ·have hd0 : decide (kk < 0) = true := by simp; omega
  obtain rfl : b = false := by rw [← HV.out]; simp [rightT]; omega
  refine (callsIn_wide (n := 13)).1 (callsIn_of_wp_marks Tryz.func60 rfl trivial ?_ rfl)
  simp only [Tryz.ntmps60, List.size_toArray, List.length_cons, List.length_nil, Nat.reduceAdd, Nat.reduceSub, Array.replicate_succ, Array.replicate_zero, List.push_toArray, List.append_toArray, List.nil_append, List.cons_append]
  gi_wp2
  have z1 : (w.alloc (.cells #[.int .i64 k, .int .i64 n, .string m, .slice la ll lc, .slice sa sl sc] 25)).heap.size = w.heap.size + 1 := by simp
  have z2 : ((w.alloc (.cells #[.int .i64 k, .int .i64 n, .string m, .slice la ll lc, .slice sa sl sc] 25)).alloc (.cells #[.int .i64 nn] 3)).heap.size = w.heap.size + 1 + 1 := by simp
  have z3 : (((w.alloc (.cells #[.int .i64 k, .int .i64 n, .string m, .slice la ll lc, .slice sa sl sc] 25)).alloc (.cells #[.int .i64 nn] 3)).alloc (.cells #[.int .i64 kk] 3)).heap.size = w.heap.size + 1 + 1 + 1 := by simp
  have z4 : ((((w.alloc (.cells #[.int .i64 k, .int .i64 n, .string m, .slice la ll lc, .slice sa sl sc] 25)).alloc (.cells #[.int .i64 nn] 3)).alloc (.cells #[.int .i64 kk] 3)).alloc (.cells #[.bool false] 4)).heap.size = w.heap.size + 1 + 1 + 1 + 1 := by simp
  have r0 : (w.alloc (.cells #[.int .i64 k, .int .i64 n, .string m, .slice la ll lc, .slice sa sl sc] 25)).heap[w.heap.size]? = some (Obj.cells #[.int .i64 k, .int .i64 n, .string m, .slice la ll lc, .slice sa sl sc] 25 (0, 0)) := by
   have := heap_alloc_new w (.cells #[.int .i64 k, .int .i64 n, .string m, .slice la ll lc, .slice sa sl sc] 25)
   exact this
  have r1 : ((w.alloc (.cells #[.int .i64 k, .int .i64 n, .string m, .slice la ll lc, .slice sa sl sc] 25)).alloc (.cells #[.int .i64 nn] 3)).heap[w.heap.size + 1]? = some (Obj.cells #[.int .i64 nn] 3 (0, 0)) := by
   have := heap_alloc_new (w.alloc (.cells #[.int .i64 k, .int .i64 n, .string m, .slice la ll lc, .slice sa sl sc] 25)) (.cells #[.int .i64 nn] 3)
   rwa [z1] at this
  have r2 : (((w.alloc (.cells #[.int .i64 k, .int .i64 n, .string m, .slice la ll lc, .slice sa sl sc] 25)).alloc (.cells #[.int .i64 nn] 3)).alloc (.cells #[.int .i64 kk] 3)).heap[w.heap.size + 1 + 1]? = some (Obj.cells #[.int .i64 kk] 3 (0, 0)) := by
   have := heap_alloc_new ((w.alloc (.cells #[.int .i64 k, .int .i64 n, .string m, .slice la ll lc, .slice sa sl sc] 25)).alloc (.cells #[.int .i64 nn] 3)) (.cells #[.int .i64 kk] 3)
   rwa [z2] at this
  have r3 : ((((w.alloc (.cells #[.int .i64 k, .int .i64 n, .string m, .slice la ll lc, .slice sa sl sc] 25)).alloc (.cells #[.int .i64 nn] 3)).alloc (.cells #[.int .i64 kk] 3)).alloc (.cells #[.bool false] 4)).heap[w.heap.size + 1 + 1 + 1]? = some (Obj.cells #[.bool false] 4 (0, 0)) := by
   have := heap_alloc_new (((w.alloc (.cells #[.int .i64 k, .int .i64 n, .string m, .slice la ll lc, .slice sa sl sc] 25)).alloc (.cells #[.int .i64 nn] 3)).alloc (.cells #[.int .i64 kk] 3)) (.cells #[.bool false] 4)
   rwa [z3] at this
  have HB := Lib.hid ((((below_lit w (.cells #[.int .i64 k, .int .i64 n, .string m, .slice la ll lc, .slice sa sl sc] 25)).trans ((below_lit (w.alloc (.cells #[.int .i64 k, .int .i64 n, .string m, .slice la ll lc, .slice sa sl sc] 25)) (.cells #[.int .i64 nn] 3)).mono (below_lit w (.cells #[.int .i64 k, .int .i64 n, .string m, .slice la ll lc, .slice sa sl sc] 25)).size)).trans ((below_lit ((w.alloc (.cells #[.int .i64 k, .int .i64 n, .string m, .slice la ll lc, .slice sa sl sc] 25)).alloc (.cells #[.int .i64 nn] 3)) (.cells #[.int .i64 kk] 3)).mono ((below_lit w (.cells #[.int .i64 k, .int .i64 n, .string m, .slice la ll lc, .slice sa sl sc] 25)).trans ((below_lit (w.alloc (.cells #[.int .i64 k, .int .i64 n, .string m, .slice la ll lc, .slice sa sl sc] 25)) (.cells #[.int .i64 nn] 3)).mono (below_lit w (.cells #[.int .i64 k, .int .i64 n, .string m, .slice la ll lc, .slice sa sl sc] 25)).size)).size)).trans ((below_lit (((w.alloc (.cells #[.int .i64 k, .int .i64 n, .string m, .slice la ll lc, .slice sa sl sc] 25)).alloc (.cells #[.int .i64 nn] 3)).alloc (.cells #[.int .i64 kk] 3)) (.cells #[.bool false] 4)).mono (((below_lit w (.cells #[.int .i64 k, .int .i64 n, .string m, .slice la ll lc, .slice sa sl sc] 25)).trans ((below_lit (w.alloc (.cells #[.int .i64 k, .int .i64 n, .string m, .slice la ll lc, .slice sa sl sc] 25)) (.cells #[.int .i64 nn] 3)).mono (below_lit w (.cells #[.int .i64 k, .int .i64 n, .string m, .slice la ll lc, .slice sa sl sc] 25)).size)).trans ((below_lit ((w.alloc (.cells #[.int .i64 k, .int .i64 n, .string m, .slice la ll lc, .slice sa sl sc] 25)).alloc (.cells #[.int .i64 nn] 3)) (.cells #[.int .i64 kk] 3)).mono ((below_lit w (.cells #[.int .i64 k, .int .i64 n, .string m, .slice la ll lc, .slice sa sl sc] 25)).trans ((below_lit (w.alloc (.cells #[.int .i64 k, .int .i64 n, .string m, .slice la ll lc, .slice sa sl sc] 25)) (.cells #[.int .i64 nn] 3)).mono (below_lit w (.cells #[.int .i64 k, .int .i64 n, .string m, .slice la ll lc, .slice sa sl sc] 25)).size)).size)).size))
  have HR0 := Lib.hid ((heap_alloc_old (((w.alloc (.cells #[.int .i64 k, .int .i64 n, .string m, .slice la ll lc, .slice sa sl sc] 25)).alloc (.cells #[.int .i64 nn] 3)).alloc (.cells #[.int .i64 kk] 3)) (.cells #[.bool false] 4) (by rw [z3]; omega)).trans ((heap_alloc_old ((w.alloc (.cells #[.int .i64 k, .int .i64 n, .string m, .slice la ll lc, .slice sa sl sc] 25)).alloc (.cells #[.int .i64 nn] 3)) (.cells #[.int .i64 kk] 3) (by rw [z2]; omega)).trans ((heap_alloc_old (w.alloc (.cells #[.int .i64 k, .int .i64 n, .string m, .slice la ll lc, .slice sa sl sc] 25)) (.cells #[.int .i64 nn] 3) (by rw [z1]; omega)).trans (r0))))
  have HR1 := Lib.hid ((heap_alloc_old (((w.alloc (.cells #[.int .i64 k, .int .i64 n, .string m, .slice la ll lc, .slice sa sl sc] 25)).alloc (.cells #[.int .i64 nn] 3)).alloc (.cells #[.int .i64 kk] 3)) (.cells #[.bool false] 4) (by rw [z3]; omega)).trans ((heap_alloc_old ((w.alloc (.cells #[.int .i64 k, .int .i64 n, .string m, .slice la ll lc, .slice sa sl sc] 25)).alloc (.cells #[.int .i64 nn] 3)) (.cells #[.int .i64 kk] 3) (by rw [z2]; omega)).trans (r1)))
  have HR2 := Lib.hid ((heap_alloc_old (((w.alloc (.cells #[.int .i64 k, .int .i64 n, .string m, .slice la ll lc, .slice sa sl sc] 25)).alloc (.cells #[.int .i64 nn] 3)).alloc (.cells #[.int .i64 kk] 3)) (.cells #[.bool false] 4) (by rw [z3]; omega)).trans (r2))
  have HR3 := Lib.hid (r3)
  clear r0 r1 r2 r3
  generalize ((((w.alloc (.cells #[.int .i64 k, .int .i64 n, .string m, .slice la ll lc, .slice sa sl sc] 25)).alloc (.cells #[.int .i64 nn] 3)).alloc (.cells #[.int .i64 kk] 3)).alloc (.cells #[.bool false] 4)) = W4 at *
  have HZ := Lib.hid z4
  clear z1 z2 z3 z4
  have HTV := Lib.hid (show TmV W4 t _ from ⟨_, _, rfl, tmP_below HB.out HTT.out⟩)
  have hnc := tnodes_is t _ W4 HTV.out HM.out R HR.out
  dsimp only [tv] at hnc
  rw [HK.out, HNN.out, HMM.out] at hnc
  have HNC := Lib.hid hnc
  clear hnc hR
  have q3 := cell_of_row _ _ 0 _ 4 (0, 0) HR3.out
  have q3f := frozen0 (p := 0) HR3.out
  have q2 := cell_of_row _ _ 0 _ 3 (0, 0) HR2.out
  obtain ⟨a0, a1, a2, a3, a4⟩ := five_cells HR0.out
  refine ⟨trivial, ?_⟩
  gi_wp2
  exact ⟨_, res_cell1 rfl _ _ (w.heap.size + 1 + 1 + 1) _ rfl (World.cell?_setCell_same' _ _ _ (by rw [q3]; rfl)) Tryz.underlying4 (.inr rfl), rfl, below_set HB.out _ _ (by show w.heap.size ≤ w.heap.size + 1 + 1 + 1; omega)⟩
 ·have hd0 : decide (kk < 0) = false := by simp; omega
  by_cases hR0 : 2000 < R
  ·have hd1 : decide ((2000 : Int) < (R : Int)) = true := by simp; omega
   obtain rfl : b = false := by
    have := HR.out
    rw [← HV.out]; simp [rightT]; omega
   refine (callsIn_wide (n := 13)).1 (callsIn_of_wp_marks Tryz.func60 rfl trivial ?_ rfl)
   simp only [Tryz.ntmps60, List.size_toArray, List.length_cons, List.length_nil, Nat.reduceAdd, Nat.reduceSub, Array.replicate_succ, Array.replicate_zero, List.push_toArray, List.append_toArray, List.nil_append, List.cons_append]
   gi_wp2
   have z1 : (w.alloc (.cells #[.int .i64 k, .int .i64 n, .string m, .slice la ll lc, .slice sa sl sc] 25)).heap.size = w.heap.size + 1 := by simp
   have z2 : ((w.alloc (.cells #[.int .i64 k, .int .i64 n, .string m, .slice la ll lc, .slice sa sl sc] 25)).alloc (.cells #[.int .i64 nn] 3)).heap.size = w.heap.size + 1 + 1 := by simp
   have z3 : (((w.alloc (.cells #[.int .i64 k, .int .i64 n, .string m, .slice la ll lc, .slice sa sl sc] 25)).alloc (.cells #[.int .i64 nn] 3)).alloc (.cells #[.int .i64 kk] 3)).heap.size = w.heap.size + 1 + 1 + 1 := by simp
   have z4 : ((((w.alloc (.cells #[.int .i64 k, .int .i64 n, .string m, .slice la ll lc, .slice sa sl sc] 25)).alloc (.cells #[.int .i64 nn] 3)).alloc (.cells #[.int .i64 kk] 3)).alloc (.cells #[.bool false] 4)).heap.size = w.heap.size + 1 + 1 + 1 + 1 := by simp
   have r0 : (w.alloc (.cells #[.int .i64 k, .int .i64 n, .string m, .slice la ll lc, .slice sa sl sc] 25)).heap[w.heap.size]? = some (Obj.cells #[.int .i64 k, .int .i64 n, .string m, .slice la ll lc, .slice sa sl sc] 25 (0, 0)) := by
    have := heap_alloc_new w (.cells #[.int .i64 k, .int .i64 n, .string m, .slice la ll lc, .slice sa sl sc] 25)
    exact this
   have r1 : ((w.alloc (.cells #[.int .i64 k, .int .i64 n, .string m, .slice la ll lc, .slice sa sl sc] 25)).alloc (.cells #[.int .i64 nn] 3)).heap[w.heap.size + 1]? = some (Obj.cells #[.int .i64 nn] 3 (0, 0)) := by
    have := heap_alloc_new (w.alloc (.cells #[.int .i64 k, .int .i64 n, .string m, .slice la ll lc, .slice sa sl sc] 25)) (.cells #[.int .i64 nn] 3)
    rwa [z1] at this
   have r2 : (((w.alloc (.cells #[.int .i64 k, .int .i64 n, .string m, .slice la ll lc, .slice sa sl sc] 25)).alloc (.cells #[.int .i64 nn] 3)).alloc (.cells #[.int .i64 kk] 3)).heap[w.heap.size + 1 + 1]? = some (Obj.cells #[.int .i64 kk] 3 (0, 0)) := by
    have := heap_alloc_new ((w.alloc (.cells #[.int .i64 k, .int .i64 n, .string m, .slice la ll lc, .slice sa sl sc] 25)).alloc (.cells #[.int .i64 nn] 3)) (.cells #[.int .i64 kk] 3)
    rwa [z2] at this
   have r3 : ((((w.alloc (.cells #[.int .i64 k, .int .i64 n, .string m, .slice la ll lc, .slice sa sl sc] 25)).alloc (.cells #[.int .i64 nn] 3)).alloc (.cells #[.int .i64 kk] 3)).alloc (.cells #[.bool false] 4)).heap[w.heap.size + 1 + 1 + 1]? = some (Obj.cells #[.bool false] 4 (0, 0)) := by
    have := heap_alloc_new (((w.alloc (.cells #[.int .i64 k, .int .i64 n, .string m, .slice la ll lc, .slice sa sl sc] 25)).alloc (.cells #[.int .i64 nn] 3)).alloc (.cells #[.int .i64 kk] 3)) (.cells #[.bool false] 4)
    rwa [z3] at this
   have HB := Lib.hid ((((below_lit w (.cells #[.int .i64 k, .int .i64 n, .string m, .slice la ll lc, .slice sa sl sc] 25)).trans ((below_lit (w.alloc (.cells #[.int .i64 k, .int .i64 n, .string m, .slice la ll lc, .slice sa sl sc] 25)) (.cells #[.int .i64 nn] 3)).mono (below_lit w (.cells #[.int .i64 k, .int .i64 n, .string m, .slice la ll lc, .slice sa sl sc] 25)).size)).trans ((below_lit ((w.alloc (.cells #[.int .i64 k, .int .i64 n, .string m, .slice la ll lc, .slice sa sl sc] 25)).alloc (.cells #[.int .i64 nn] 3)) (.cells #[.int .i64 kk] 3)).mono ((below_lit w (.cells #[.int .i64 k, .int .i64 n, .string m, .slice la ll lc, .slice sa sl sc] 25)).trans ((below_lit (w.alloc (.cells #[.int .i64 k, .int .i64 n, .string m, .slice la ll lc, .slice sa sl sc] 25)) (.cells #[.int .i64 nn] 3)).mono (below_lit w (.cells #[.int .i64 k, .int .i64 n, .string m, .slice la ll lc, .slice sa sl sc] 25)).size)).size)).trans ((below_lit (((w.alloc (.cells #[.int .i64 k, .int .i64 n, .string m, .slice la ll lc, .slice sa sl sc] 25)).alloc (.cells #[.int .i64 nn] 3)).alloc (.cells #[.int .i64 kk] 3)) (.cells #[.bool false] 4)).mono (((below_lit w (.cells #[.int .i64 k, .int .i64 n, .string m, .slice la ll lc, .slice sa sl sc] 25)).trans ((below_lit (w.alloc (.cells #[.int .i64 k, .int .i64 n, .string m, .slice la ll lc, .slice sa sl sc] 25)) (.cells #[.int .i64 nn] 3)).mono (below_lit w (.cells #[.int .i64 k, .int .i64 n, .string m, .slice la ll lc, .slice sa sl sc] 25)).size)).trans ((below_lit ((w.alloc (.cells #[.int .i64 k, .int .i64 n, .string m, .slice la ll lc, .slice sa sl sc] 25)).alloc (.cells #[.int .i64 nn] 3)) (.cells #[.int .i64 kk] 3)).mono ((below_lit w (.cells #[.int .i64 k, .int .i64 n, .string m, .slice la ll lc, .slice sa sl sc] 25)).trans ((below_lit (w.alloc (.cells #[.int .i64 k, .int .i64 n, .string m, .slice la ll lc, .slice sa sl sc] 25)) (.cells #[.int .i64 nn] 3)).mono (below_lit w (.cells #[.int .i64 k, .int .i64 n, .string m, .slice la ll lc, .slice sa sl sc] 25)).size)).size)).size))
   have HR0 := Lib.hid ((heap_alloc_old (((w.alloc (.cells #[.int .i64 k, .int .i64 n, .string m, .slice la ll lc, .slice sa sl sc] 25)).alloc (.cells #[.int .i64 nn] 3)).alloc (.cells #[.int .i64 kk] 3)) (.cells #[.bool false] 4) (by rw [z3]; omega)).trans ((heap_alloc_old ((w.alloc (.cells #[.int .i64 k, .int .i64 n, .string m, .slice la ll lc, .slice sa sl sc] 25)).alloc (.cells #[.int .i64 nn] 3)) (.cells #[.int .i64 kk] 3) (by rw [z2]; omega)).trans ((heap_alloc_old (w.alloc (.cells #[.int .i64 k, .int .i64 n, .string m, .slice la ll lc, .slice sa sl sc] 25)) (.cells #[.int .i64 nn] 3) (by rw [z1]; omega)).trans (r0))))
   have HR1 := Lib.hid ((heap_alloc_old (((w.alloc (.cells #[.int .i64 k, .int .i64 n, .string m, .slice la ll lc, .slice sa sl sc] 25)).alloc (.cells #[.int .i64 nn] 3)).alloc (.cells #[.int .i64 kk] 3)) (.cells #[.bool false] 4) (by rw [z3]; omega)).trans ((heap_alloc_old ((w.alloc (.cells #[.int .i64 k, .int .i64 n, .string m, .slice la ll lc, .slice sa sl sc] 25)).alloc (.cells #[.int .i64 nn] 3)) (.cells #[.int .i64 kk] 3) (by rw [z2]; omega)).trans (r1)))
   have HR2 := Lib.hid ((heap_alloc_old (((w.alloc (.cells #[.int .i64 k, .int .i64 n, .string m, .slice la ll lc, .slice sa sl sc] 25)).alloc (.cells #[.int .i64 nn] 3)).alloc (.cells #[.int .i64 kk] 3)) (.cells #[.bool false] 4) (by rw [z3]; omega)).trans (r2))
   have HR3 := Lib.hid (r3)
   clear r0 r1 r2 r3
   generalize ((((w.alloc (.cells #[.int .i64 k, .int .i64 n, .string m, .slice la ll lc, .slice sa sl sc] 25)).alloc (.cells #[.int .i64 nn] 3)).alloc (.cells #[.int .i64 kk] 3)).alloc (.cells #[.bool false] 4)) = W4 at *
   have HZ := Lib.hid z4
   clear z1 z2 z3 z4
   have HTV := Lib.hid (show TmV W4 t _ from ⟨_, _, rfl, tmP_below HB.out HTT.out⟩)
   have hnc := tnodes_is t _ W4 HTV.out HM.out R HR.out
   dsimp only [tv] at hnc
   rw [HK.out, HNN.out, HMM.out] at hnc
   have HNC := Lib.hid hnc
   clear hnc hR
   have q3 := cell_of_row _ _ 0 _ 4 (0, 0) HR3.out
   have q3f := frozen0 (p := 0) HR3.out
   have q2 := cell_of_row _ _ 0 _ 3 (0, 0) HR2.out
   obtain ⟨a0, a1, a2, a3, a4⟩ := five_cells HR0.out
   gi_wp2_with (refine ⟨trivial, ?_⟩; gi_at_call 89; refine (callsIn_wide.2 HNC.out).mono ?_; rintro e w6 ⟨rfl, hb6⟩; have q2 := cell_of_row _ _ 0 _ 3 (0, 0) ((hb6.block (w.heap.size + 1 + 1) (by rw [HZ.out]; omega)).trans HR2.out); have q2f := frozen0 (p := 0) ((hb6.block (w.heap.size + 1 + 1) (by rw [HZ.out]; omega)).trans HR2.out); have q3 := cell_of_row _ _ 0 _ 4 (0, 0) ((hb6.block (w.heap.size + 1 + 1 + 1) (by rw [HZ.out]; omega)).trans HR3.out); have q3f := frozen0 (p := 0) ((hb6.block (w.heap.size + 1 + 1 + 1) (by rw [HZ.out]; omega)).trans HR3.out); obtain ⟨a0, a1, a2, a3, a4⟩ := five_cells ((hb6.block (w.heap.size) (by rw [HZ.out]; omega)).trans HR0.out); have HB6 := Lib.hid hb6; clear hb6)
   exact ⟨_, res_cell1 rfl _ _ (w.heap.size + 1 + 1 + 1) _ rfl (World.cell?_setCell_same' _ _ _ (by rw [q3]; rfl)) Tryz.underlying4 (.inr rfl), rfl, below_set (HB.out.trans (HB6.out.mono HB.out.size)) _ _ (by show w.heap.size ≤ w.heap.size + 1 + 1 + 1; omega)⟩
  ·have hd1 : decide ((2000 : Int) < (R : Int)) = false := by simp; omega
   obtain ⟨K, hKK⟩ : ∃ K, min kk 1125899906842624 = K := ⟨_, rfl⟩
   have HVV : Hid (okT RN (rightB nn) t K = b) := by
    have : okT RN (rightB nn) t K = b := by
     have h1 := HR.out
     rw [← HV.out, rightT, hKK]
     simp
     omega
    exact this
   have hK0 : 0 ≤ K := by omega
   have hK1 : K ≤ 1125899906842624 := by omega
   refine (callsIn_wide (n := 13)).1 (callsIn_of_wp_marks Tryz.func60 rfl trivial ?_ rfl)
   simp only [Tryz.ntmps60, List.size_toArray, List.length_cons, List.length_nil, Nat.reduceAdd, Nat.reduceSub, Array.replicate_succ, Array.replicate_zero, List.push_toArray, List.append_toArray, List.nil_append, List.cons_append]
   gi_wp2
   have z1 : (w.alloc (.cells #[.int .i64 k, .int .i64 n, .string m, .slice la ll lc, .slice sa sl sc] 25)).heap.size = w.heap.size + 1 := by simp
   have z2 : ((w.alloc (.cells #[.int .i64 k, .int .i64 n, .string m, .slice la ll lc, .slice sa sl sc] 25)).alloc (.cells #[.int .i64 nn] 3)).heap.size = w.heap.size + 1 + 1 := by simp
   have z3 : (((w.alloc (.cells #[.int .i64 k, .int .i64 n, .string m, .slice la ll lc, .slice sa sl sc] 25)).alloc (.cells #[.int .i64 nn] 3)).alloc (.cells #[.int .i64 kk] 3)).heap.size = w.heap.size + 1 + 1 + 1 := by simp
   have z4 : ((((w.alloc (.cells #[.int .i64 k, .int .i64 n, .string m, .slice la ll lc, .slice sa sl sc] 25)).alloc (.cells #[.int .i64 nn] 3)).alloc (.cells #[.int .i64 kk] 3)).alloc (.cells #[.bool false] 4)).heap.size = w.heap.size + 1 + 1 + 1 + 1 := by simp
   have r0 : (w.alloc (.cells #[.int .i64 k, .int .i64 n, .string m, .slice la ll lc, .slice sa sl sc] 25)).heap[w.heap.size]? = some (Obj.cells #[.int .i64 k, .int .i64 n, .string m, .slice la ll lc, .slice sa sl sc] 25 (0, 0)) := by
    have := heap_alloc_new w (.cells #[.int .i64 k, .int .i64 n, .string m, .slice la ll lc, .slice sa sl sc] 25)
    exact this
   have r1 : ((w.alloc (.cells #[.int .i64 k, .int .i64 n, .string m, .slice la ll lc, .slice sa sl sc] 25)).alloc (.cells #[.int .i64 nn] 3)).heap[w.heap.size + 1]? = some (Obj.cells #[.int .i64 nn] 3 (0, 0)) := by
    have := heap_alloc_new (w.alloc (.cells #[.int .i64 k, .int .i64 n, .string m, .slice la ll lc, .slice sa sl sc] 25)) (.cells #[.int .i64 nn] 3)
    rwa [z1] at this
   have r2 : (((w.alloc (.cells #[.int .i64 k, .int .i64 n, .string m, .slice la ll lc, .slice sa sl sc] 25)).alloc (.cells #[.int .i64 nn] 3)).alloc (.cells #[.int .i64 kk] 3)).heap[w.heap.size + 1 + 1]? = some (Obj.cells #[.int .i64 kk] 3 (0, 0)) := by
    have := heap_alloc_new ((w.alloc (.cells #[.int .i64 k, .int .i64 n, .string m, .slice la ll lc, .slice sa sl sc] 25)).alloc (.cells #[.int .i64 nn] 3)) (.cells #[.int .i64 kk] 3)
    rwa [z2] at this
   have r3 : ((((w.alloc (.cells #[.int .i64 k, .int .i64 n, .string m, .slice la ll lc, .slice sa sl sc] 25)).alloc (.cells #[.int .i64 nn] 3)).alloc (.cells #[.int .i64 kk] 3)).alloc (.cells #[.bool false] 4)).heap[w.heap.size + 1 + 1 + 1]? = some (Obj.cells #[.bool false] 4 (0, 0)) := by
    have := heap_alloc_new (((w.alloc (.cells #[.int .i64 k, .int .i64 n, .string m, .slice la ll lc, .slice sa sl sc] 25)).alloc (.cells #[.int .i64 nn] 3)).alloc (.cells #[.int .i64 kk] 3)) (.cells #[.bool false] 4)
    rwa [z3] at this
   have HB := Lib.hid ((((below_lit w (.cells #[.int .i64 k, .int .i64 n, .string m, .slice la ll lc, .slice sa sl sc] 25)).trans ((below_lit (w.alloc (.cells #[.int .i64 k, .int .i64 n, .string m, .slice la ll lc, .slice sa sl sc] 25)) (.cells #[.int .i64 nn] 3)).mono (below_lit w (.cells #[.int .i64 k, .int .i64 n, .string m, .slice la ll lc, .slice sa sl sc] 25)).size)).trans ((below_lit ((w.alloc (.cells #[.int .i64 k, .int .i64 n, .string m, .slice la ll lc, .slice sa sl sc] 25)).alloc (.cells #[.int .i64 nn] 3)) (.cells #[.int .i64 kk] 3)).mono ((below_lit w (.cells #[.int .i64 k, .int .i64 n, .string m, .slice la ll lc, .slice sa sl sc] 25)).trans ((below_lit (w.alloc (.cells #[.int .i64 k, .int .i64 n, .string m, .slice la ll lc, .slice sa sl sc] 25)) (.cells #[.int .i64 nn] 3)).mono (below_lit w (.cells #[.int .i64 k, .int .i64 n, .string m, .slice la ll lc, .slice sa sl sc] 25)).size)).size)).trans ((below_lit (((w.alloc (.cells #[.int .i64 k, .int .i64 n, .string m, .slice la ll lc, .slice sa sl sc] 25)).alloc (.cells #[.int .i64 nn] 3)).alloc (.cells #[.int .i64 kk] 3)) (.cells #[.bool false] 4)).mono (((below_lit w (.cells #[.int .i64 k, .int .i64 n, .string m, .slice la ll lc, .slice sa sl sc] 25)).trans ((below_lit (w.alloc (.cells #[.int .i64 k, .int .i64 n, .string m, .slice la ll lc, .slice sa sl sc] 25)) (.cells #[.int .i64 nn] 3)).mono (below_lit w (.cells #[.int .i64 k, .int .i64 n, .string m, .slice la ll lc, .slice sa sl sc] 25)).size)).trans ((below_lit ((w.alloc (.cells #[.int .i64 k, .int .i64 n, .string m, .slice la ll lc, .slice sa sl sc] 25)).alloc (.cells #[.int .i64 nn] 3)) (.cells #[.int .i64 kk] 3)).mono ((below_lit w (.cells #[.int .i64 k, .int .i64 n, .string m, .slice la ll lc, .slice sa sl sc] 25)).trans ((below_lit (w.alloc (.cells #[.int .i64 k, .int .i64 n, .string m, .slice la ll lc, .slice sa sl sc] 25)) (.cells #[.int .i64 nn] 3)).mono (below_lit w (.cells #[.int .i64 k, .int .i64 n, .string m, .slice la ll lc, .slice sa sl sc] 25)).size)).size)).size))
   have HR0 := Lib.hid ((heap_alloc_old (((w.alloc (.cells #[.int .i64 k, .int .i64 n, .string m, .slice la ll lc, .slice sa sl sc] 25)).alloc (.cells #[.int .i64 nn] 3)).alloc (.cells #[.int .i64 kk] 3)) (.cells #[.bool false] 4) (by rw [z3]; omega)).trans ((heap_alloc_old ((w.alloc (.cells #[.int .i64 k, .int .i64 n, .string m, .slice la ll lc, .slice sa sl sc] 25)).alloc (.cells #[.int .i64 nn] 3)) (.cells #[.int .i64 kk] 3) (by rw [z2]; omega)).trans ((heap_alloc_old (w.alloc (.cells #[.int .i64 k, .int .i64 n, .string m, .slice la ll lc, .slice sa sl sc] 25)) (.cells #[.int .i64 nn] 3) (by rw [z1]; omega)).trans (r0))))
   have HR1 := Lib.hid ((heap_alloc_old (((w.alloc (.cells #[.int .i64 k, .int .i64 n, .string m, .slice la ll lc, .slice sa sl sc] 25)).alloc (.cells #[.int .i64 nn] 3)).alloc (.cells #[.int .i64 kk] 3)) (.cells #[.bool false] 4) (by rw [z3]; omega)).trans ((heap_alloc_old ((w.alloc (.cells #[.int .i64 k, .int .i64 n, .string m, .slice la ll lc, .slice sa sl sc] 25)).alloc (.cells #[.int .i64 nn] 3)) (.cells #[.int .i64 kk] 3) (by rw [z2]; omega)).trans (r1)))
   have HR2 := Lib.hid ((heap_alloc_old (((w.alloc (.cells #[.int .i64 k, .int .i64 n, .string m, .slice la ll lc, .slice sa sl sc] 25)).alloc (.cells #[.int .i64 nn] 3)).alloc (.cells #[.int .i64 kk] 3)) (.cells #[.bool false] 4) (by rw [z3]; omega)).trans (r2))
   have HR3 := Lib.hid (r3)
   clear r0 r1 r2 r3
   generalize ((((w.alloc (.cells #[.int .i64 k, .int .i64 n, .string m, .slice la ll lc, .slice sa sl sc] 25)).alloc (.cells #[.int .i64 nn] 3)).alloc (.cells #[.int .i64 kk] 3)).alloc (.cells #[.bool false] 4)) = W4 at *
   have HZ := Lib.hid z4
   clear z1 z2 z3 z4
   have HTV := Lib.hid (show TmV W4 t _ from ⟨_, _, rfl, tmP_below HB.out HTT.out⟩)
   have hnc := tnodes_is t _ W4 HTV.out HM.out R HR.out
   dsimp only [tv] at hnc
   rw [HK.out, HNN.out, HMM.out] at hnc
   have HNC := Lib.hid hnc
   clear hnc hR
   have q3 := cell_of_row _ _ 0 _ 4 (0, 0) HR3.out
   have q3f := frozen0 (p := 0) HR3.out
   have q2 := cell_of_row _ _ 0 _ 3 (0, 0) HR2.out
   obtain ⟨a0, a1, a2, a3, a4⟩ := five_cells HR0.out
   by_cases hk5 : kk ≤ 1125899906842624
   ·obtain rfl : K = kk := by omega
    gi_wp2_with (first | (refine ⟨trivial, ?_⟩; gi_at_call 89; refine (callsIn_wide.2 HNC.out).mono ?_; rintro e w6 ⟨rfl, hb6⟩; have q2 := cell_of_row _ _ 0 _ 3 (0, 0) ((hb6.block (w.heap.size + 1 + 1) (by rw [HZ.out]; omega)).trans HR2.out); have q2f := frozen0 (p := 0) ((hb6.block (w.heap.size + 1 + 1) (by rw [HZ.out]; omega)).trans HR2.out); have q3 := cell_of_row _ _ 0 _ 4 (0, 0) ((hb6.block (w.heap.size + 1 + 1 + 1) (by rw [HZ.out]; omega)).trans HR3.out); have q3f := frozen0 (p := 0) ((hb6.block (w.heap.size + 1 + 1 + 1) (by rw [HZ.out]; omega)).trans HR3.out); obtain ⟨a0, a1, a2, a3, a4⟩ := five_cells ((hb6.block (w.heap.size) (by rw [HZ.out]; omega)).trans HR0.out); have HB6 := Lib.hid hb6; clear hb6) | (refine ⟨trivial, ?_⟩; gi_at_call 74; refine (callsIn_wide.2 (nodes_in k n m la ll lc sa sl sc _)).mono ?_; rintro e w' ⟨rfl, rfl⟩))
    have hs6 : w.heap.size + 1 + 1 + 1 + 1 ≤ w6.heap.size := by rw [← HZ.out]; exact HB6.out.size
    have hgB := Lib.hid (HB.out.trans (HB6.out.mono HB.out.size))
    have x1 : Boxed w6 (w.heap.size + 1) 3 (.int .i64 nn) := (HB6.out.block _ (by rw [HZ.out]; omega)).trans HR1.out
    have x2 : Boxed w6 (w.heap.size + 1 + 1) 3 (.int .i64 K) := (HB6.out.block _ (by rw [HZ.out]; omega)).trans HR2.out
    have x3 : Boxed w6 (w.heap.size + 1 + 1 + 1) 4 (.bool false) := (HB6.out.block _ (by rw [HZ.out]; omega)).trans HR3.out
    have y1 := x1.other (B' := w.heap.size + 1 + 1) (by omega) (.int .i64 K)
    have y2 := x2.set (.int .i64 K)
    have y3 := x3.other (B' := w.heap.size + 1 + 1) (by omega) (.int .i64 K)
    have ys := setCell_size w6 ⟨w.heap.size + 1 + 1, 0, none⟩ (.int .i64 K)
    have yb := below_set hgB.out ⟨w.heap.size + 1 + 1, 0, none⟩ (.int .i64 K) (by show w.heap.size ≤ w.heap.size + 1 + 1; omega)
    clear x1 x2 x3 q2 q2f q3 q3f a0 a1 a2 a3 a4
    generalize w6.setCell ⟨w.heap.size + 1 + 1, 0, none⟩ (.int .i64 K) = W7 at *
    have b1 := y1.alloc (.cells #[.int .i64 k, .int .i64 n, .string m, .slice la ll lc, .slice sa sl sc] 25)
    have b2 := y2.alloc (.cells #[.int .i64 k, .int .i64 n, .string m, .slice la ll lc, .slice sa sl sc] 25)
    have b3 := y3.alloc (.cells #[.int .i64 k, .int .i64 n, .string m, .slice la ll lc, .slice sa sl sc] 25)
    have r4 := heap_alloc_new W7 (.cells #[.int .i64 k, .int .i64 n, .string m, .slice la ll lc, .slice sa sl sc] 25)
    have hs8 : (W7.alloc (.cells #[.int .i64 k, .int .i64 n, .string m, .slice la ll lc, .slice sa sl sc] 25)).heap.size = w6.heap.size + 1 := by simp [ys]
    have hb8 := Lib.hid (yb.trans ((below_lit W7 (.cells #[.int .i64 k, .int .i64 n, .string m, .slice la ll lc, .slice sa sl sc] 25)).mono yb.size))
    rw [ys] at r4
    clear y1 y2 y3 yb
    generalize W7.alloc (.cells #[.int .i64 k, .int .i64 n, .string m, .slice la ll lc, .slice sa sl sc] 25) = W8 at *
    have hGG : ∀ q, q ∈ pre t 0 0 → (fun q : Tm × Nat × Nat => tnodes q.1 ≤ 100000 ∧ q.2.2 ≤ 100000 ∧ (tmOf q.1).size ≤ 140737488355328) q := fun q hq => by
     have h1 := pre_deep t 0 0 q hq
     have h2 := HM.out
     have h3 := HNM.out q hq
     dsimp only
     omega
    refine wpIn_rangeFunc_ownH rfl (by decide) (gf := 101) (lb := #[.pointer (some ⟨w6.heap.size, 0, none⟩)]) rfl trivial (enters_of Tryz.func101 (by kernel_rfl) rfl) (encs := fun x : It w (fun q : Tm × Nat × Nat => tnodes q.1 ≤ 100000 ∧ q.2.2 ≤ 100000 ∧ (tmOf q.1).size ≤ 140737488355328) => #[.agg #[.int .i64 (tkOf x.t), .int .i64 (tnOf x.t), .string (tmOf x.t), .slice x.la x.ll x.lc, .slice x.sa x.sl x.sc], .agg #[.int .i64 x.d, .int .i64 x.b]])
     (nodes_stops w (fun q : Tm × Nat × Nat => tnodes q.1 ≤ 100000 ∧ q.2.2 ≤ 100000 ∧ (tmOf q.1).size ≤ 140737488355328) W8.heap.size w6.heap.size t la ll lc sa sl sc W8 (by rw [HK.out, HNN.out, HMM.out]; exact r4) HTT.out (by omega) (Nat.le_refl _) hb8.out (by have := HM.out; omega) hGG) (fun h k => h.trans k) (KpW.put (by omega) rfl) (Below.refl _ _) (fun _ => rfl)
     (fun xs W => ((Boxed W (w.heap.size + 1) 3 (.int .i64 nn) ∧ Boxed W (w.heap.size + 1 + 1) 3 (.int .i64 K)) ∧ Boxed W (w.heap.size + 1 + 1 + 1) 4 (.bool false)) ∧ ((xs.map It.tag).all (fun q : Tm × Nat × Nat => fitB RN (rightB nn) K q) = true ∧ Below w.heap.size W8 W))
     (fun c xs W => (c = .ret ∧ (xs.map It.tag).all (fun q : Tm × Nat × Nat => fitB RN (rightB nn) K q) = false) ∧ (Boxed W (w.heap.size + 1 + 1 + 1) 4 (.bool false) ∧ Below w.heap.size W8 W))
     (OwnFrom.and (OwnFrom.and (OwnFrom.and (Own.from (boxed_own _ _ _) _) (Own.from (boxed_own _ _ _) _)) (Own.from (boxed_own _ _ _) _)) (OwnFrom.and (ownFrom_pure _ _) (ownFrom_below (by omega) (by omega))))
     (fun c => OwnFrom.and (ownFrom_pure _ _) (OwnFrom.and (Own.from (boxed_own _ _ _) _) (ownFrom_below (by omega) (by omega))))
     ⟨⟨⟨b1, b2⟩, b3⟩, rfl, Below.refl _ _⟩
     (fun x a' W => (∃ Bn Ba, a' = { tmps := #[.agg #[.int .i64 k, .int .i64 n, .string m, .slice la ll lc, .slice sa sl sc], .int .i64 nn, .int .i64 K, .pointer (some ⟨w.heap.size, 0, none⟩), .pointer (some ⟨w.heap.size + 1, 0, none⟩), .pointer (some ⟨w.heap.size + 1 + 1, 0, none⟩), .pointer (some ⟨w.heap.size + 1 + 1 + 1, 0, none⟩), .pointer (some ⟨Bn, 0, none⟩), .pointer (some ⟨Ba, 0, none⟩), .int .i64 K, .bool false, .bool false, .agg #[.int .i64 k, .int .i64 n, .string m, .slice la ll lc, .slice sa sl sc], .int .i64 R, .bool false, .bool false, .int .i64 K, .int .i64 K, .agg #[.int .i64 k, .int .i64 n, .string m, .slice la ll lc, .slice sa sl sc], .func (.func 101) #[] #[.pointer (some ⟨w6.heap.size, 0, none⟩)], .agg #[.int .i64 (tkOf x.t), .int .i64 (tnOf x.t), .string (tmOf x.t), .slice x.la x.ll x.lc, .slice x.sa x.sl x.sc], .agg #[.int .i64 x.d, .int .i64 x.b], undef, undef, undef, undef, undef, undef, undef, undef], defers := [] } ∧ (w.heap.size + 1 + 1 + 1 + 1 ≤ Bn ∧ w.heap.size + 1 + 1 + 1 + 1 ≤ Ba) ∧ W.heap[Bn]? = some (.cells #[.int .i64 (tkOf x.t), .int .i64 (tnOf x.t), .string (tmOf x.t), .slice x.la x.ll x.lc, .slice x.sa x.sl x.sc] 25 (0, 0)) ∧ W.heap[Ba]? = some (.cells #[.int .i64 x.d, .int .i64 x.b] 113 (0, 0))))
     (fun x a' _ X Y row hs hg hr => by
      obtain ⟨Bn, Ba, h1, h2, h3, h4⟩ := hs
      exact ⟨Bn, Ba, h1, h2, (grownBy_keeps_cells hg (fun r e => (hr r e).2) h3 rfl).trans h3, (grownBy_keeps_cells hg (fun r e => (hr r e).2) h4 rfl).trans h4⟩)
     ?assign ?body ?done ?stop
    case assign =>
     rintro l xs x W K9 ⟨⟨⟨b1, b2⟩, b3⟩, hc, hB1⟩ hK
     have hsz := hB1.size
     gi_wp2
     have hb := below_lit W (.cells #[.int .i64 (tkOf x.t), .int .i64 (tnOf x.t), .string (tmOf x.t), .slice x.la x.ll x.lc, .slice x.sa x.sl x.sc] 25)
     have hb2 := hb.trans ((below_lit (W.alloc (.cells #[.int .i64 (tkOf x.t), .int .i64 (tnOf x.t), .string (tmOf x.t), .slice x.la x.ll x.lc, .slice x.sa x.sl x.sc] 25)) (.cells #[.int .i64 x.d, .int .i64 x.b] 113)).mono hb.size)
     refine hK _ _ (((KeepsOthers.alloc _ _).trans (KeepsOthers.alloc _ _)).from _) (KpW.of_below (by omega) hb2) ⟨⟨⟨(b1.alloc _).alloc _, (b2.alloc _).alloc _⟩, (b3.alloc _).alloc _⟩, hc, hB1.trans (hb2.mono (by omega))⟩ ⟨_, _, rfl, ⟨by omega, by omega⟩, ?_, ?_⟩
     ·exact (heap_alloc_old _ _ (by simp)).trans (heap_alloc_new W _)
     ·have := heap_alloc_new (W.alloc (.cells #[.int .i64 (tkOf x.t), .int .i64 (tnOf x.t), .string (tmOf x.t), .slice x.la x.ll x.lc, .slice x.sa x.sl x.sc] 25)) (.cells #[.int .i64 x.d, .int .i64 x.b] 113)
      rwa [World.size_alloc] at this
    case body =>
     rintro l xs x a' W hl _ ⟨⟨⟨b1, b2⟩, b3⟩, hc, hB1⟩ ⟨Bn, Ba, rfl, ⟨hn1, ha1⟩, hrn, hra⟩ _
     have HLv : Hid (LvS w (.mk 0 0 (tlOf x.t)) (.slice x.la x.ll x.lc)) := by
      have : LvS w (.mk 0 0 (tlOf x.t)) (.slice x.la x.ll x.lc) := by
       have := x.ok
       generalize x.t = q at this
       cases q with
       | mk k n m ls ts => rw [TmP] at this; exact lvS_of _ _ this.1
      exact this
     have HLN : Hid (nodesL (tlOf x.t) ≤ 100000) := by
      have : nodesL (tlOf x.t) ≤ 100000 := by
       have := x.g.1
       dsimp only at this
       generalize x.t = q at this ⊢
       cases q with
       | mk k n m ls ts => rw [tnodes] at this; show nodesL ls ≤ _; omega
      exact this
     have HSL : Hid ((taOf x.t).length = x.sl) := by
      have : (taOf x.t).length = x.sl := by
       have := x.ok
       generalize x.t = q at this
       cases q with
       | mk k n m ls ts =>
        rw [TmP] at this
        obtain ⟨_, A, len, cap, e, h, _⟩ := this
        cases e
        exact h
      exact this
     have HBW := Lib.hid (hb8.out.trans hB1)
     obtain ⟨fr, hfr⟩ : ∃ fr, fitB RN (rightB nn) K x.tag = fr := ⟨_, rfl⟩
     have HF9 : Hid (((xs ++ [x]).map It.tag).all (fun q : Tm × Nat × Nat => fitB RN (rightB nn) K q) = fr) := by
      have : ((xs ++ [x]).map It.tag).all (fun q : Tm × Nat × Nat => fitB RN (rightB nn) K q) = fr := by rw [List.map_append, List.all_append, hc, List.map_cons, List.map_nil, List.all_cons, hfr]; cases fr <;> rfl
      exact this
     have hcall := fits_is (tkOf x.t) (tnOf x.t) (tmOf x.t) (tlOf x.t) x.la x.ll x.lc x.sa x.sl x.sc nn (K + (x.b : Int)) W (RN (tmOf x.t)) (lvS_below HBW.out _ _ HLv.out) HLN.out (fun w' h' => HCN.out w' (HBW.out.trans (h'.mono HBW.out.size)) _ x.g.2.2) fr (by rw [← HSL.out]; exact hfr)
     have HCALL := Lib.hid (CallsIn.inRound l ((callsIn_wide (n := 10)).2 hcall))
     have hxb : (x.b : Int) ≤ 100000 := by have := x.g.2.1; dsimp only at this; omega
     have c1 := b1.cell
     have c2 := b2.cell
     have hn5 := five_cells hrn
     obtain ⟨n0, n1, n2, n3, n4⟩ := hn5
     have p1 := cell_of_row W _ 1 _ 113 (0, 0) hra
     have HE1 := Lib.hid b1
     have HE2 := Lib.hid b2
     have HE3 := Lib.hid b3
     clear hcall hfr b1 b2 b3
     cases fr
     ·gi_wp2_with (refine ⟨trivial, ?_⟩; gi_at_call 90; refine HCALL.out.mono ?_; rintro e w7 ⟨rfl, hb7⟩; have HB7 := Lib.hid hb7; clear hb7; have e3 : Boxed w7 (w.heap.size + 1 + 1 + 1) 4 (.bool false) := (HB7.out.block _ HE3.out.lt).trans HE3.out; have e3c := e3.cell; have e3f := e3.frozen; have H3 := Lib.hid e3; clear e3)
      exact ⟨((keepsOthers_below HB7.out).trans (KeepsOthers.setCell _ _ _)).from _, ⟨rfl, HF9.out⟩, H3.out.set _, hB1.trans (below_set (HB7.out.mono (by have := hB1.size; omega)) _ _ (by show w.heap.size ≤ w.heap.size + 1 + 1 + 1; omega))⟩
     ·gi_wp2_with (refine ⟨trivial, ?_⟩; gi_at_call 90; refine HCALL.out.mono ?_; rintro e w7 ⟨rfl, hb7⟩; have HB7 := Lib.hid hb7; clear hb7)
      have f1 : Boxed w7 (w.heap.size + 1) 3 (.int .i64 nn) := (HB7.out.block _ HE1.out.lt).trans HE1.out
      have f2 : Boxed w7 (w.heap.size + 1 + 1) 3 (.int .i64 K) := (HB7.out.block _ HE2.out.lt).trans HE2.out
      have f3 : Boxed w7 (w.heap.size + 1 + 1 + 1) 4 (.bool false) := (HB7.out.block _ HE3.out.lt).trans HE3.out
      have hnw : w.heap.size ≤ W.heap.size := by have := hB1.size; omega
      exact ⟨(keepsOthers_below HB7.out).from _, KpW.of_below hnw HB7.out, ⟨⟨f1, f2⟩, f3⟩, HF9.out, hB1.trans (HB7.out.mono hnw)⟩
    case done =>
     rintro D xs W hD hxs ⟨⟨⟨b1, b2⟩, b3⟩, hc, hB1⟩ hK
     rw [hxs, fit_all, Int.natCast_zero, Int.add_zero] at hc
     obtain rfl : b = true := HVV.out.symm.trans hc
     have c3 := b3.cell
     have f3 := b3.frozen
     have hlt := b3.lt
     have hDb : D ≠ w.heap.size + 1 + 1 + 1 := by omega
     gi_wp2
     refine ⟨by simp, .inl ⟨_, _, rfl, run_takeDeferred ((setCell_far _ _ _ _ (by show D ≠ w.heap.size + 1 + 1 + 1; exact hDb)).trans hK), ?_⟩⟩
     refine ⟨_, res_cell1 rfl _ _ (w.heap.size + 1 + 1 + 1) _ rfl ?_ Tryz.underlying4 (.inr rfl), rfl, ?_⟩
     ·refine cell_heap (World.putObj_heap_other (fun e => hDb e.symm)) |>.trans ?_
      exact (b3.set _).cell
     ·refine (hb8.out.trans hB1).trans ?_
      exact (below_set (Below.refl _ _) _ _ (by show w.heap.size ≤ w.heap.size + 1 + 1 + 1; omega)).trans ((Below.refl _ _).grown (grownBy_putObj' _ D _) (by rw [setCell_size]; omega) (fun k e => by cases e; omega))
    case stop =>
     rintro D c xs W hD hxs ⟨⟨rfl, hc⟩, b3, hB1⟩ hK
     have hDb : D ≠ w.heap.size + 1 + 1 + 1 := by omega
     have hlt := b3.lt
     have hbf : b = false := by
      obtain ⟨r, hr⟩ := hxs
      have q := fit_all RN (rightB nn) K t 0 0
      rw [← hr, List.all_append, hc, Bool.false_and, Int.natCast_zero, Int.add_zero] at q
      exact HVV.out.symm.trans q.symm
     subst hbf
     gi_wp2
     refine ⟨by simp, .inl ⟨_, _, rfl, run_takeDeferred hK, ?_⟩⟩
     refine ⟨_, res_cell1 rfl _ _ (w.heap.size + 1 + 1 + 1) _ rfl ?_ Tryz.underlying4 (.inr rfl), rfl, ?_⟩
     ·refine cell_heap (World.putObj_heap_other (fun e => hDb e.symm)) |>.trans ?_
      exact b3.cell
     ·exact (hb8.out.trans hB1).trans ((Below.refl _ _).grown (grownBy_putObj' _ D _) (by omega) (fun k e => by cases e; omega))
   ·obtain rfl : K = 1125899906842624 := by omega
    gi_wp2_with (first | (refine ⟨trivial, ?_⟩; gi_at_call 89; refine (callsIn_wide.2 HNC.out).mono ?_; rintro e w6 ⟨rfl, hb6⟩; have q2 := cell_of_row _ _ 0 _ 3 (0, 0) ((hb6.block (w.heap.size + 1 + 1) (by rw [HZ.out]; omega)).trans HR2.out); have q2f := frozen0 (p := 0) ((hb6.block (w.heap.size + 1 + 1) (by rw [HZ.out]; omega)).trans HR2.out); have q3 := cell_of_row _ _ 0 _ 4 (0, 0) ((hb6.block (w.heap.size + 1 + 1 + 1) (by rw [HZ.out]; omega)).trans HR3.out); have q3f := frozen0 (p := 0) ((hb6.block (w.heap.size + 1 + 1 + 1) (by rw [HZ.out]; omega)).trans HR3.out); obtain ⟨a0, a1, a2, a3, a4⟩ := five_cells ((hb6.block (w.heap.size) (by rw [HZ.out]; omega)).trans HR0.out); have HB6 := Lib.hid hb6; clear hb6) | (refine ⟨trivial, ?_⟩; gi_at_call 74; refine (callsIn_wide.2 (nodes_in k n m la ll lc sa sl sc _)).mono ?_; rintro e w' ⟨rfl, rfl⟩))
    have hs6 : w.heap.size + 1 + 1 + 1 + 1 ≤ w6.heap.size := by rw [← HZ.out]; exact HB6.out.size
    have hgB := Lib.hid (HB.out.trans (HB6.out.mono HB.out.size))
    have x1 : Boxed w6 (w.heap.size + 1) 3 (.int .i64 nn) := (HB6.out.block _ (by rw [HZ.out]; omega)).trans HR1.out
    have x2 : Boxed w6 (w.heap.size + 1 + 1) 3 (.int .i64 kk) := (HB6.out.block _ (by rw [HZ.out]; omega)).trans HR2.out
    have x3 : Boxed w6 (w.heap.size + 1 + 1 + 1) 4 (.bool false) := (HB6.out.block _ (by rw [HZ.out]; omega)).trans HR3.out
    have y1 := x1.other (B' := w.heap.size + 1 + 1) (by omega) (.int .i64 (1125899906842624 : Int))
    have y2 := x2.set (.int .i64 (1125899906842624 : Int))
    have y3 := x3.other (B' := w.heap.size + 1 + 1) (by omega) (.int .i64 (1125899906842624 : Int))
    have ys := setCell_size w6 ⟨w.heap.size + 1 + 1, 0, none⟩ (.int .i64 (1125899906842624 : Int))
    have yb := below_set hgB.out ⟨w.heap.size + 1 + 1, 0, none⟩ (.int .i64 (1125899906842624 : Int)) (by show w.heap.size ≤ w.heap.size + 1 + 1; omega)
    clear x1 x2 x3 q2 q2f q3 q3f a0 a1 a2 a3 a4
    generalize w6.setCell ⟨w.heap.size + 1 + 1, 0, none⟩ (.int .i64 (1125899906842624 : Int)) = W7 at *
    have b1 := y1.alloc (.cells #[.int .i64 k, .int .i64 n, .string m, .slice la ll lc, .slice sa sl sc] 25)
    have b2 := y2.alloc (.cells #[.int .i64 k, .int .i64 n, .string m, .slice la ll lc, .slice sa sl sc] 25)
    have b3 := y3.alloc (.cells #[.int .i64 k, .int .i64 n, .string m, .slice la ll lc, .slice sa sl sc] 25)
    have r4 := heap_alloc_new W7 (.cells #[.int .i64 k, .int .i64 n, .string m, .slice la ll lc, .slice sa sl sc] 25)
    have hs8 : (W7.alloc (.cells #[.int .i64 k, .int .i64 n, .string m, .slice la ll lc, .slice sa sl sc] 25)).heap.size = w6.heap.size + 1 := by simp [ys]
    have hb8 := Lib.hid (yb.trans ((below_lit W7 (.cells #[.int .i64 k, .int .i64 n, .string m, .slice la ll lc, .slice sa sl sc] 25)).mono yb.size))
    rw [ys] at r4
    clear y1 y2 y3 yb
    generalize W7.alloc (.cells #[.int .i64 k, .int .i64 n, .string m, .slice la ll lc, .slice sa sl sc] 25) = W8 at *
    have hGG : ∀ q, q ∈ pre t 0 0 → (fun q : Tm × Nat × Nat => tnodes q.1 ≤ 100000 ∧ q.2.2 ≤ 100000 ∧ (tmOf q.1).size ≤ 140737488355328) q := fun q hq => by
     have h1 := pre_deep t 0 0 q hq
     have h2 := HM.out
     have h3 := HNM.out q hq
     dsimp only
     omega
    refine wpIn_rangeFunc_ownH rfl (by decide) (gf := 101) (lb := #[.pointer (some ⟨w6.heap.size, 0, none⟩)]) rfl trivial (enters_of Tryz.func101 (by kernel_rfl) rfl) (encs := fun x : It w (fun q : Tm × Nat × Nat => tnodes q.1 ≤ 100000 ∧ q.2.2 ≤ 100000 ∧ (tmOf q.1).size ≤ 140737488355328) => #[.agg #[.int .i64 (tkOf x.t), .int .i64 (tnOf x.t), .string (tmOf x.t), .slice x.la x.ll x.lc, .slice x.sa x.sl x.sc], .agg #[.int .i64 x.d, .int .i64 x.b]])
     (nodes_stops w (fun q : Tm × Nat × Nat => tnodes q.1 ≤ 100000 ∧ q.2.2 ≤ 100000 ∧ (tmOf q.1).size ≤ 140737488355328) W8.heap.size w6.heap.size t la ll lc sa sl sc W8 (by rw [HK.out, HNN.out, HMM.out]; exact r4) HTT.out (by omega) (Nat.le_refl _) hb8.out (by have := HM.out; omega) hGG) (fun h k => h.trans k) (KpW.put (by omega) rfl) (Below.refl _ _) (fun _ => rfl)
     (fun xs W => ((Boxed W (w.heap.size + 1) 3 (.int .i64 nn) ∧ Boxed W (w.heap.size + 1 + 1) 3 (.int .i64 (1125899906842624 : Int))) ∧ Boxed W (w.heap.size + 1 + 1 + 1) 4 (.bool false)) ∧ ((xs.map It.tag).all (fun q : Tm × Nat × Nat => fitB RN (rightB nn) (1125899906842624 : Int) q) = true ∧ Below w.heap.size W8 W))
     (fun c xs W => (c = .ret ∧ (xs.map It.tag).all (fun q : Tm × Nat × Nat => fitB RN (rightB nn) (1125899906842624 : Int) q) = false) ∧ (Boxed W (w.heap.size + 1 + 1 + 1) 4 (.bool false) ∧ Below w.heap.size W8 W))
     (OwnFrom.and (OwnFrom.and (OwnFrom.and (Own.from (boxed_own _ _ _) _) (Own.from (boxed_own _ _ _) _)) (Own.from (boxed_own _ _ _) _)) (OwnFrom.and (ownFrom_pure _ _) (ownFrom_below (by omega) (by omega))))
     (fun c => OwnFrom.and (ownFrom_pure _ _) (OwnFrom.and (Own.from (boxed_own _ _ _) _) (ownFrom_below (by omega) (by omega))))
     ⟨⟨⟨b1, b2⟩, b3⟩, rfl, Below.refl _ _⟩
     (fun x a' W => (∃ Bn Ba, a' = { tmps := #[.agg #[.int .i64 k, .int .i64 n, .string m, .slice la ll lc, .slice sa sl sc], .int .i64 nn, .int .i64 kk, .pointer (some ⟨w.heap.size, 0, none⟩), .pointer (some ⟨w.heap.size + 1, 0, none⟩), .pointer (some ⟨w.heap.size + 1 + 1, 0, none⟩), .pointer (some ⟨w.heap.size + 1 + 1 + 1, 0, none⟩), .pointer (some ⟨Bn, 0, none⟩), .pointer (some ⟨Ba, 0, none⟩), .int .i64 kk, .bool false, .bool false, .agg #[.int .i64 k, .int .i64 n, .string m, .slice la ll lc, .slice sa sl sc], .int .i64 R, .bool false, .bool false, .int .i64 kk, .int .i64 (1125899906842624 : Int), .agg #[.int .i64 k, .int .i64 n, .string m, .slice la ll lc, .slice sa sl sc], .func (.func 101) #[] #[.pointer (some ⟨w6.heap.size, 0, none⟩)], .agg #[.int .i64 (tkOf x.t), .int .i64 (tnOf x.t), .string (tmOf x.t), .slice x.la x.ll x.lc, .slice x.sa x.sl x.sc], .agg #[.int .i64 x.d, .int .i64 x.b], undef, undef, undef, undef, undef, undef, undef, undef], defers := [] } ∧ (w.heap.size + 1 + 1 + 1 + 1 ≤ Bn ∧ w.heap.size + 1 + 1 + 1 + 1 ≤ Ba) ∧ W.heap[Bn]? = some (.cells #[.int .i64 (tkOf x.t), .int .i64 (tnOf x.t), .string (tmOf x.t), .slice x.la x.ll x.lc, .slice x.sa x.sl x.sc] 25 (0, 0)) ∧ W.heap[Ba]? = some (.cells #[.int .i64 x.d, .int .i64 x.b] 113 (0, 0))))
     (fun x a' _ X Y row hs hg hr => by
      obtain ⟨Bn, Ba, h1, h2, h3, h4⟩ := hs
      exact ⟨Bn, Ba, h1, h2, (grownBy_keeps_cells hg (fun r e => (hr r e).2) h3 rfl).trans h3, (grownBy_keeps_cells hg (fun r e => (hr r e).2) h4 rfl).trans h4⟩)
     ?assign ?body ?done ?stop
    case assign =>
     rintro l xs x W K9 ⟨⟨⟨b1, b2⟩, b3⟩, hc, hB1⟩ hK
     have hsz := hB1.size
     gi_wp2
     have hb := below_lit W (.cells #[.int .i64 (tkOf x.t), .int .i64 (tnOf x.t), .string (tmOf x.t), .slice x.la x.ll x.lc, .slice x.sa x.sl x.sc] 25)
     have hb2 := hb.trans ((below_lit (W.alloc (.cells #[.int .i64 (tkOf x.t), .int .i64 (tnOf x.t), .string (tmOf x.t), .slice x.la x.ll x.lc, .slice x.sa x.sl x.sc] 25)) (.cells #[.int .i64 x.d, .int .i64 x.b] 113)).mono hb.size)
     refine hK _ _ (((KeepsOthers.alloc _ _).trans (KeepsOthers.alloc _ _)).from _) (KpW.of_below (by omega) hb2) ⟨⟨⟨(b1.alloc _).alloc _, (b2.alloc _).alloc _⟩, (b3.alloc _).alloc _⟩, hc, hB1.trans (hb2.mono (by omega))⟩ ⟨_, _, rfl, ⟨by omega, by omega⟩, ?_, ?_⟩
     ·exact (heap_alloc_old _ _ (by simp)).trans (heap_alloc_new W _)
     ·have := heap_alloc_new (W.alloc (.cells #[.int .i64 (tkOf x.t), .int .i64 (tnOf x.t), .string (tmOf x.t), .slice x.la x.ll x.lc, .slice x.sa x.sl x.sc] 25)) (.cells #[.int .i64 x.d, .int .i64 x.b] 113)
      rwa [World.size_alloc] at this
    case body =>
     rintro l xs x a' W hl _ ⟨⟨⟨b1, b2⟩, b3⟩, hc, hB1⟩ ⟨Bn, Ba, rfl, ⟨hn1, ha1⟩, hrn, hra⟩ _
     have HLv : Hid (LvS w (.mk 0 0 (tlOf x.t)) (.slice x.la x.ll x.lc)) := by
      have : LvS w (.mk 0 0 (tlOf x.t)) (.slice x.la x.ll x.lc) := by
       have := x.ok
       generalize x.t = q at this
       cases q with
       | mk k n m ls ts => rw [TmP] at this; exact lvS_of _ _ this.1
      exact this
     have HLN : Hid (nodesL (tlOf x.t) ≤ 100000) := by
      have : nodesL (tlOf x.t) ≤ 100000 := by
       have := x.g.1
       dsimp only at this
       generalize x.t = q at this ⊢
       cases q with
       | mk k n m ls ts => rw [tnodes] at this; show nodesL ls ≤ _; omega
      exact this
     have HSL : Hid ((taOf x.t).length = x.sl) := by
      have : (taOf x.t).length = x.sl := by
       have := x.ok
       generalize x.t = q at this
       cases q with
       | mk k n m ls ts =>
        rw [TmP] at this
        obtain ⟨_, A, len, cap, e, h, _⟩ := this
        cases e
        exact h
      exact this
     have HBW := Lib.hid (hb8.out.trans hB1)
     obtain ⟨fr, hfr⟩ : ∃ fr, fitB RN (rightB nn) (1125899906842624 : Int) x.tag = fr := ⟨_, rfl⟩
     have HF9 : Hid (((xs ++ [x]).map It.tag).all (fun q : Tm × Nat × Nat => fitB RN (rightB nn) (1125899906842624 : Int) q) = fr) := by
      have : ((xs ++ [x]).map It.tag).all (fun q : Tm × Nat × Nat => fitB RN (rightB nn) (1125899906842624 : Int) q) = fr := by rw [List.map_append, List.all_append, hc, List.map_cons, List.map_nil, List.all_cons, hfr]; cases fr <;> rfl
      exact this
     have hcall := fits_is (tkOf x.t) (tnOf x.t) (tmOf x.t) (tlOf x.t) x.la x.ll x.lc x.sa x.sl x.sc nn ((1125899906842624 : Int) + (x.b : Int)) W (RN (tmOf x.t)) (lvS_below HBW.out _ _ HLv.out) HLN.out (fun w' h' => HCN.out w' (HBW.out.trans (h'.mono HBW.out.size)) _ x.g.2.2) fr (by rw [← HSL.out]; exact hfr)
     have HCALL := Lib.hid (CallsIn.inRound l ((callsIn_wide (n := 10)).2 hcall))
     have hxb : (x.b : Int) ≤ 100000 := by have := x.g.2.1; dsimp only at this; omega
     have c1 := b1.cell
     have c2 := b2.cell
     have hn5 := five_cells hrn
     obtain ⟨n0, n1, n2, n3, n4⟩ := hn5
     have p1 := cell_of_row W _ 1 _ 113 (0, 0) hra
     have HE1 := Lib.hid b1
     have HE2 := Lib.hid b2
     have HE3 := Lib.hid b3
     clear hcall hfr b1 b2 b3
     cases fr
     ·gi_wp2_with (refine ⟨trivial, ?_⟩; gi_at_call 90; refine HCALL.out.mono ?_; rintro e w7 ⟨rfl, hb7⟩; have HB7 := Lib.hid hb7; clear hb7; have e3 : Boxed w7 (w.heap.size + 1 + 1 + 1) 4 (.bool false) := (HB7.out.block _ HE3.out.lt).trans HE3.out; have e3c := e3.cell; have e3f := e3.frozen; have H3 := Lib.hid e3; clear e3)
      exact ⟨((keepsOthers_below HB7.out).trans (KeepsOthers.setCell _ _ _)).from _, ⟨rfl, HF9.out⟩, H3.out.set _, hB1.trans (below_set (HB7.out.mono (by have := hB1.size; omega)) _ _ (by show w.heap.size ≤ w.heap.size + 1 + 1 + 1; omega))⟩
     ·gi_wp2_with (refine ⟨trivial, ?_⟩; gi_at_call 90; refine HCALL.out.mono ?_; rintro e w7 ⟨rfl, hb7⟩; have HB7 := Lib.hid hb7; clear hb7)
      have f1 : Boxed w7 (w.heap.size + 1) 3 (.int .i64 nn) := (HB7.out.block _ HE1.out.lt).trans HE1.out
      have f2 : Boxed w7 (w.heap.size + 1 + 1) 3 (.int .i64 (1125899906842624 : Int)) := (HB7.out.block _ HE2.out.lt).trans HE2.out
      have f3 : Boxed w7 (w.heap.size + 1 + 1 + 1) 4 (.bool false) := (HB7.out.block _ HE3.out.lt).trans HE3.out
      have hnw : w.heap.size ≤ W.heap.size := by have := hB1.size; omega
      exact ⟨(keepsOthers_below HB7.out).from _, KpW.of_below hnw HB7.out, ⟨⟨f1, f2⟩, f3⟩, HF9.out, hB1.trans (HB7.out.mono hnw)⟩
    case done =>
     rintro D xs W hD hxs ⟨⟨⟨b1, b2⟩, b3⟩, hc, hB1⟩ hK
     rw [hxs, fit_all, Int.natCast_zero, Int.add_zero] at hc
     obtain rfl : b = true := HVV.out.symm.trans hc
     have c3 := b3.cell
     have f3 := b3.frozen
     have hlt := b3.lt
     have hDb : D ≠ w.heap.size + 1 + 1 + 1 := by omega
     gi_wp2
     refine ⟨by simp, .inl ⟨_, _, rfl, run_takeDeferred ((setCell_far _ _ _ _ (by show D ≠ w.heap.size + 1 + 1 + 1; exact hDb)).trans hK), ?_⟩⟩
     refine ⟨_, res_cell1 rfl _ _ (w.heap.size + 1 + 1 + 1) _ rfl ?_ Tryz.underlying4 (.inr rfl), rfl, ?_⟩
     ·refine cell_heap (World.putObj_heap_other (fun e => hDb e.symm)) |>.trans ?_
      exact (b3.set _).cell
     ·refine (hb8.out.trans hB1).trans ?_
      exact (below_set (Below.refl _ _) _ _ (by show w.heap.size ≤ w.heap.size + 1 + 1 + 1; omega)).trans ((Below.refl _ _).grown (grownBy_putObj' _ D _) (by rw [setCell_size]; omega) (fun k e => by cases e; omega))
    case stop =>
     rintro D c xs W hD hxs ⟨⟨rfl, hc⟩, b3, hB1⟩ hK
     have hDb : D ≠ w.heap.size + 1 + 1 + 1 := by omega
     have hlt := b3.lt
     have hbf : b = false := by
      obtain ⟨r, hr⟩ := hxs
      have q := fit_all RN (rightB nn) (1125899906842624 : Int) t 0 0
      rw [← hr, List.all_append, hc, Bool.false_and, Int.natCast_zero, Int.add_zero] at q
      exact HVV.out.symm.trans q.symm
     subst hbf
     gi_wp2
     refine ⟨by simp, .inl ⟨_, _, rfl, run_takeDeferred hK, ?_⟩⟩
     refine ⟨_, res_cell1 rfl _ _ (w.heap.size + 1 + 1 + 1) _ rfl ?_ Tryz.underlying4 (.inr rfl), rfl, ?_⟩
     ·refine cell_heap (World.putObj_heap_other (fun e => hDb e.symm)) |>.trans ?_
      exact b3.cell
     ·exact (hb8.out.trans hB1).trans ((Below.refl _ _).grown (grownBy_putObj' _ D _) (by omega) (fun k e => by cases e; omega))
end Trm
end Go.Proofs.YteomfakbbcpckaaGreatDoor
namespace Go.Proofs.YteomfakbbcpckaaGreatDoor
open Go.RowKit
open Lvl
namespace Trm
theorem lv_of_ok {RN : ByteArray → Bool} {nn kd n : Int} {nm : ByteArray} {ls : List Lv} {m : Nat} {k : Int} (h : shape RN (rightB nn) kd n nm ls m k = true) : ∀ l, l ∈ ls → nodes l ≤ 1000 := fun l hl => by
 unfold shape at h
 rw [Bool.and_eq_true] at h
 have := List.all_eq_true.1 h.1 l hl
 unfold rightB at this
 simp at this
 omega
end Trm
end Go.Proofs.YteomfakbbcpckaaGreatDoor
namespace Go.Proofs.YteomfakbbcpckaaGreatDoor
open Go.RowKit Go.Shelf
open Lvl
namespace Trm
attribute [local go_sem] Oper.semAt_some
set_option maxRecDepth 100000 in
set_option maxHeartbeats 1000000 in
theorem isRight_is (RN : ByteArray → Bool) (t : Tm) (v : Value) (w : World) (hv : TmV w t v) (hm : tnodes t ≤ 100000) (hnm : ∀ q, q ∈ pre t 0 0 → (tmOf q.1).size ≤ 140737488355328) (CN : NameC w RN) (b : Bool) (hb : rightT RN 4 t 1125899906842624 = b) :
  Calls Tryz.prog 73 #[v] w (Ret w (.bool b)) := by
 obtain ⟨l, s, rfl, ht⟩ := hv
 obtain ⟨⟨la, ll, lc, rfl⟩, sa, sl, sc, rfl⟩ := tmP_slices ht
 have HV := Lib.hid (show TmV w t _ from ⟨_, _, rfl, ht⟩)
 have HM := Lib.hid hm
 have HNM := Lib.hid hnm
 have HCN := Lib.hid CN
 have HBB := Lib.hid hb
 dsimp only [tv] at HV ⊢
 generalize tkOf t = k at *
 generalize tnOf t = n at *
 generalize tmOf t = m at *
 clear ht hm hnm CN hb
 go_enter Tryz.func73, Tryz.ntmps73
 go_wp2_with fail
 have HB := Lib.hid (below_lit w (.cells #[.int .i64 k, .int .i64 n, .string m, .slice la ll lc, .slice sa sl sc] 25))
 generalize w.alloc (.cells #[.int .i64 k, .int .i64 n, .string m, .slice la ll lc, .slice sa sl sc] 25) = W at *
 refine (right_is RN t _ W (HV.out.below HB.out) HM.out HNM.out (HCN.out.below HB.out) 4 1125899906842624 b HBB.out).mono ?_
 rintro e w2 ⟨rfl, hb2⟩
 have HB2 := Lib.hid (HB.out.trans (hb2.mono HB.out.size))
 clear hb2
 go_wp2_with fail
 go_ret
 exact ⟨rfl, HB2.out⟩
end Trm
end Go.Proofs.YteomfakbbcpckaaGreatDoor
namespace Go.Proofs.YteomfakbbcpckaaGreatDoor
open Go.RowKit Go.Shelf
open Lvl
namespace Trm
def KpX (D X : Nat) (W W' : World) : Prop := (W'.os = W.os ∧ W'.tape = W.tape ∧ W'.output = W.output ∧ W.heap.size ≤ W'.heap.size) ∧ ∀ k, k < D → k ≠ X → W'.heap[k]? = W.heap[k]?
theorem KpX.refl (D X : Nat) (W : World) : KpX D X W W := ⟨⟨rfl, rfl, rfl, Nat.le_refl _⟩, fun _ _ _ => rfl⟩
theorem KpX.trans {D X : Nat} {A B C : World} (h : KpX D X A B) (k : KpX D X B C) : KpX D X A C :=
 ⟨⟨k.1.1.trans h.1.1, k.1.2.1.trans h.1.2.1, k.1.2.2.1.trans h.1.2.2.1, Nat.le_trans h.1.2.2.2 k.1.2.2.2⟩, fun b h1 h2 => (k.2 b h1 h2).trans (h.2 b h1 h2)⟩
theorem KpX.of_grown {D X : Nat} {A B : World} (hD : D ≤ A.heap.size) (h : A.grownBy B (some X)) : KpX D X A B := by
 obtain ⟨h1, h2, h3, h4, h5⟩ := h
 exact ⟨⟨h1, h2, h3, h4⟩, fun k hk hx => h5 k (Nat.lt_of_lt_of_le hk hD) (fun e => hx (by cases e; rfl))⟩
theorem KpX.put {D X : Nat} {w : World} (hD : D = w.heap.size) (W : World) (l : Nat) (o o' : Obj) (hl : w.heap.size ≤ l) (h : W.heap[l]? = some o) (_ : o.isCells = false) (_ : o.isWalk = false) : KpX D X W (W.putObj l o') := by
 have hb := belowK_b (w := w) (Nat.le_refl _) W l o o' hl h ‹_› ‹_›
 exact ⟨⟨hb.os, hb.tape, hb.output, hb.size⟩, fun k hk _ => hb.block k (by omega)⟩
theorem KpX.below {D X n₀ : Nat} {A B : World} (h : KpX D X A B) (hn : n₀ ≤ D) (hX : n₀ ≤ X) : Below n₀ A B :=
 ⟨h.1.1, h.1.2.1, h.1.2.2.1, h.1.2.2.2, fun k hk => h.2 k (by omega) (by omega)⟩
structure ItB (w0 : World) (P : Nat → Prop) where
 i : Nat
 t : Tm
 la : Option Addr
 ll : Nat
 lc : Nat
 sa : Option Addr
 sl : Nat
 sc : Nat
 ok : TmP w0 P t (.slice la ll lc) (.slice sa sl sc)
def ItB.enc {w0 : World} {P : Nat → Prop} (x : ItB w0 P) : Array Value := #[.int .i64 x.i, tv x.t (.slice x.la x.ll x.lc) (.slice x.sa x.sl x.sc)]
end Trm
end Go.Proofs.YteomfakbbcpckaaGreatDoor
namespace Go.Proofs.YteomfakbbcpckaaGreatDoor
open Go.RowKit Go.Shelf
open Lvl
namespace Trm
attribute [local go_sem] Oper.semAt_some
theorem KpX.turn {D X : Nat} {w₀ W W' : World} {row : Option Nat} (h : KpX D X w₀ W) (hD : D ≤ w₀.heap.size) (hg : W.grownBy W' row) (hr : ∀ r, row = some r → D ≤ r) : KpX D X w₀ W' :=
 h.trans (by
  have hs := h.1.2.2.2
  obtain ⟨h1, h2, h3, h4, h5⟩ := hg
  exact ⟨⟨h1, h2, h3, h4⟩, fun k hk _ => h5 k (by omega) (fun e => by have := hr k e.symm; omega)⟩)
end Trm
end Go.Proofs.YteomfakbbcpckaaGreatDoor
namespace Go.Proofs.YteomfakbbcpckaaGreatDoor
open Go.RowKit
open Lvl
namespace Trm
mutual
theorem tn_rn : ∀ t : Tm, tnodes t ≤ rn t
 | .mk k n m ls ts => by
  rw [tnodes, rn]
  have := tnL_rn ts
  omega
theorem tnL_rn : ∀ ts : List Tm, tnodesL ts ≤ rnL ts
 | [] => by rw [tnodesL, rnL]; omega
 | a :: ts => by
  rw [tnodesL, rnL]
  have := tn_rn a
  have := tnL_rn ts
  omega
end
mutual
theorem nm_pre : ∀ (t : Tm) (d b : Nat), nmOk t → ∀ q, q ∈ pre t d b → (tmOf q.1).size ≤ 140737488355328
 | .mk k n m ls ts, d, b, h, q, hq => by
  rw [nmOk] at h
  rw [pre, List.mem_cons] at hq
  rcases hq with rfl | hq
  ·exact h.1
  ·exact nm_preL k ts.length ts 0 (d + 1) b h.2 q hq
theorem nm_preL (k : Int) (len : Nat) : ∀ (ts : List Tm) (i d b : Nat), nmOkL ts → ∀ q, q ∈ preL k len ts i d b → (tmOf q.1).size ≤ 140737488355328
 | [], _, _, _, _, q, hq => by rw [preL] at hq; cases hq
 | a :: ts, i, d, b, h, q, hq => by
  rw [nmOkL] at h
  rw [preL, List.mem_append] at hq
  rcases hq with hq | hq
  ·exact nm_pre a d _ h.1 q hq
  ·exact nm_preL k len ts (i + 1) d b h.2 q hq
end
theorem rightT_ok {RN : ByteArray → Bool} {nn kk : Int} {t : Tm} (h : rightT RN nn t kk = true) : 0 ≤ kk ∧ tnodes t ≤ 2000 ∧ okT RN (rightB nn) t (min kk 1125899906842624) = true := by
 unfold rightT at h
 simp only [Bool.and_eq_true, decide_eq_true_eq] at h
 exact ⟨h.1.1, h.1.2, h.2⟩
theorem rightT_of {RN : ByteArray → Bool} {nn kk : Int} {t : Tm} (h0 : 0 ≤ kk) (h1 : tnodes t ≤ 2000) (h2 : okT RN (rightB nn) t (min kk 1125899906842624) = true) : rightT RN nn t kk = true := by
 unfold rightT
 simp only [Bool.and_eq_true, decide_eq_true_eq]
 exact ⟨⟨h0, h1⟩, h2⟩
end Trm
end Go.Proofs.YteomfakbbcpckaaGreatDoor
namespace Go.Proofs.YteomfakbbcpckaaGreatDoor
open Go.RowKit
open Lvl
namespace Trm
theorem lsP_at {w : World} {P : Nat → Prop} : ∀ {A : Option Addr} {ts : List Lv} {j : Nat}, LsP w P A j ts → ∀ i (h : i < ts.length), ∃ b o s, A = some ⟨b, o, none⟩ ∧ b < w.heap.size ∧ P b ∧ w.cell? ⟨b, o + (j + i) * 3, none⟩ = some (.int .i64 (kindOf ts[i])) ∧ w.cell? ⟨b, o + (j + i) * 3 + 1, none⟩ = some (.int .i64 (numOf ts[i])) ∧ w.cell? ⟨b, o + (j + i) * 3 + 2, none⟩ = some s ∧ LvP w P ts[i] s
 | A, a :: ts, j, h, 0, _ => by
  rw [LsP] at h
  exact h.1
 | A, a :: ts, j, h, i + 1, hi => by
  rw [LsP] at h
  have := lsP_at h.2 i (by simpa using hi)
  rw [show j + 1 + i = j + (i + 1) by omega] at this
  exact this
theorem lsP_get {w : World} {P : Nat → Prop} {A : Option Addr} {ts : List Lv} (h : LsP w P A 0 ts) (i : Nat) (hi : i < ts.length) : ∃ b o s, A = some ⟨b, o, none⟩ ∧ b < w.heap.size ∧ P b ∧ w.cell? ⟨b, o + i * 3, none⟩ = some (.int .i64 (kindOf ts[i])) ∧ w.cell? ⟨b, o + i * 3 + 1, none⟩ = some (.int .i64 (numOf ts[i])) ∧ w.cell? ⟨b, o + i * 3 + 2, none⟩ = some s ∧ LvP w P ts[i] s := by
 have := lsP_at h i hi
 rw [Nat.zero_add] at this
 exact this
end Trm
end Go.Proofs.YteomfakbbcpckaaGreatDoor
namespace Go.Proofs.YteomfakbbcpckaaGreatDoor
open Go.RowKit
open Lvl
namespace Trm
mutual
theorem okC_of {RN : ByteArray → Bool} {n : Int} : ∀ (t : Tm) (k d : Int), okT RN (rightB n) t k = true → okC cAll t d
 | .mk kd m nm ls ts, k, d, h => by
  rw [okT, Bool.and_eq_true] at h
  rw [okC]
  have h1 := h.1
  unfold shape at h1
  rw [Bool.and_eq_true] at h1
  refine ⟨⟨trivial, fun l hl => ?_⟩, okCL_of kd ts.length ts 0 0 k d h.2⟩
  have := List.all_eq_true.1 h1.1 l hl
  unfold rightB at this
  simp only [Bool.and_eq_true, decide_eq_true_eq] at this
  omega
theorem okCL_of {RN : ByteArray → Bool} {n : Int} (kd : Int) (len : Nat) : ∀ (ts : List Tm) (i j : Nat) (k d : Int), okTL RN (rightB n) kd ts i k = true → okCL cAll kd len ts j d
 | [], _, _, _, _, _ => by rw [okCL]; trivial
 | a :: ts, i, j, k, d, h => by
  rw [okTL, Bool.and_eq_true] at h
  rw [okCL]
  exact ⟨okC_of a _ _ h.1, okCL_of kd len ts (i + 1) (j + 1) k d h.2⟩
end
end Trm
end Go.Proofs.YteomfakbbcpckaaGreatDoor
namespace Go.Proofs.YteomfakbbcpckaaGreatDoor
open Go.RowKit
open Lvl
namespace Trm
end Trm
end Go.Proofs.YteomfakbbcpckaaGreatDoor
namespace Go.Proofs.YteomfakbbcpckaaGreatDoor
open Go.RowKit
open Lvl
namespace Trm
theorem tmP_leaf (w : World) (P : Nat → Prop) (k n : Int) (m : ByteArray) : TmP w P (.mk k n m [] []) (.slice none 0 0) (.slice none 0 0) := by
 rw [TmP]
 exact ⟨lvP_nil w P, none, 0, 0, rfl, rfl, Nat.le_refl _, by omega, fun _ => rfl, by rw [TsP]; trivial⟩
theorem tmP_lev {w : World} {P : Nat → Prop} {ls : List Lv} {l : Value} (h : LvP w P (.mk 0 0 ls) l) (k n : Int) (m : ByteArray) : TmP w P (.mk k n m ls []) l (.slice none 0 0) := by
 rw [TmP]
 exact ⟨h, none, 0, 0, rfl, rfl, Nat.le_refl _, by omega, fun _ => rfl, by rw [TsP]; trivial⟩
set_option maxRecDepth 100000 in
set_option maxHeartbeats 4000000 in
theorem var_is (n : Int) (w : World) : Calls Tryz.prog 45 #[.int .i64 n] w (TmRet w (.mk 1 n ⟨#[]⟩ [] [])) := by
 obtain ⟨i0, hi0, hz0, hz1, hz2⟩ := info_parts infoTm
 go_enter Tryz.func45, Tryz.ntmps45
 go_wp2_with fail
 refine bodyPost_ret (results_cell_row rfl _ _ (w.heap.size) 25 _ (0, 0) _ rfl (heap_alloc_new w _) Tryz.underlying25 rfl (by rw [hi0, Option.map_some, hz1]; rfl)) rfl ?_
 exact ⟨_, _, rfl, tmP_leaf _ _ 1 n _, below_lit w _⟩
set_option maxRecDepth 100000 in
set_option maxHeartbeats 4000000 in
theorem sort_is (t : Lv) (v : Value) (w : World) (hv : LvV w t v) (hm : nodes t ≤ 1000) : Calls Tryz.prog 68 #[v] w (TmRet w (.mk 2 0 ⟨#[]⟩ [t] [])) := by
 obtain ⟨i0, hi0, hz0, hz1, hz2⟩ := info_parts infoTm
 obtain ⟨s, rfl, hs⟩ := hv
 obtain ⟨la, ll, lc, rfl⟩ := lvS_slice hs
 have HSS := Lib.hid hs
 have HM := Lib.hid hm
 obtain ⟨kl, hkl⟩ : ∃ k, kindOf t = k := ⟨_, rfl⟩
 obtain ⟨nl, hnl⟩ : ∃ n, numOf t = n := ⟨_, rfl⟩
 rw [hkl, hnl]
 have HKK := Lib.hid (And.intro hkl hnl)
 clear hs hm hkl hnl
 have z2 : ((w.alloc (.cells #[.int .i64 kl, .int .i64 nl, .slice la ll lc] 48)).alloc (.cells #[.int .i64 0, .int .i64 0, .string ⟨#[]⟩, .slice none 0 0, .slice none 0 0] 25)).heap.size = w.heap.size + 1 + 1 := by simp
 have hr1 : ((w.alloc (.cells #[.int .i64 kl, .int .i64 nl, .slice la ll lc] 48)).alloc (.cells #[.int .i64 0, .int .i64 0, .string ⟨#[]⟩, .slice none 0 0, .slice none 0 0] 25)).heap[w.heap.size + 1]? = some (Obj.cells #[.int .i64 0, .int .i64 0, .string ⟨#[]⟩, .slice none 0 0, .slice none 0 0] 25 (0, 0)) := row_2 w (.cells #[.int .i64 kl, .int .i64 nl, .slice la ll lc] 48) (.cells #[.int .i64 0, .int .i64 0, .string ⟨#[]⟩, .slice none 0 0, .slice none 0 0] 25)
 have HB := Lib.hid (below_2 w (.cells #[.int .i64 kl, .int .i64 nl, .slice la ll lc] 48) (.cells #[.int .i64 0, .int .i64 0, .string ⟨#[]⟩, .slice none 0 0, .slice none 0 0] 25))
 have HR1 := Lib.hid hr1
 have HZ := Lib.hid z2
 go_enter Tryz.func68, Tryz.ntmps68
 go_wp2_with fail
 clear z2 hr1
 generalize (w.alloc (.cells #[.int .i64 kl, .int .i64 nl, .slice la ll lc] 48)).alloc (.cells #[.int .i64 0, .int .i64 0, .string ⟨#[]⟩, .slice none 0 0, .slice none 0 0] 25) = W2 at *
 have hol := ownLevel_is t _ W2 ⟨_, rfl, lvS_below HB.out _ _ HSS.out⟩ HM.out
 rw [HKK.out.1, HKK.out.2] at hol
 refine hol.mono ?_
 clear hol
 rintro e w3 ⟨s9, rfl, hs9, hb3⟩
 obtain ⟨ua, ul, uc, rfl⟩ := lvP_slice hs9
 rw [HKK.out.1, HKK.out.2]
 have hbx := below_lit w3 (.cells #[.int .i64 kl, .int .i64 nl, .slice ua ul uc] 48)
 have hrx := heap_alloc_new w3 (.cells #[.int .i64 kl, .int .i64 nl, .slice ua ul uc] 48)
 have hrz := (hbx.block (w.heap.size + 1) (by have := hb3.size; have := HZ.out; omega)).trans ((hb3.block (w.heap.size + 1) (by rw [HZ.out]; omega)).trans HR1.out)
 have hs3 : w.heap.size + 1 + 1 ≤ w3.heap.size := by rw [← HZ.out]; exact hb3.size
 have HB3 := Lib.hid (HB.out.trans ((hb3.trans (hbx.mono hb3.size)).mono HB.out.size))
 have HLV : Hid (LvP (w3.alloc (.cells #[.int .i64 kl, .int .i64 nl, .slice ua ul uc] 48)) (fun b => w.heap.size + 1 + 1 ≤ b) (.mk 0 0 [t]) (.slice (some ⟨w3.heap.size, 0, none⟩) 1 1)) := by
  have hs9' : LvP w3 (fun b => w.heap.size + 1 + 1 ≤ b) t (.slice ua ul uc) := lvP_weak hs9 (fun b (hb : W2.heap.size ≤ b) => by have := HZ.out; omega)
  have : LvP (w3.alloc (.cells #[.int .i64 kl, .int .i64 nl, .slice ua ul uc] 48)) (fun b => w.heap.size + 1 + 1 ≤ b) (.mk 0 0 [t]) (.slice (some ⟨w3.heap.size, 0, none⟩) 1 1) := lvP_one_row hs9' hs3 (by simp) (by rw [HKK.out.1, HKK.out.2]; exact hrx) hbx 0
  exact this
 clear hb3 hs9 hbx hrx
 obtain ⟨e0, e1, e2, e3, e4⟩ := five_cells hrz
 have g0 := frozen0 (p := 0) hrz
 have g1 := frozen0 (p := 1) hrz
 have g2 := frozen0 (p := 2) hrz
 have g3 := frozen0 (p := 3) hrz
 have g4 := frozen0 (p := 4) hrz
 go_wp2_with fail
 generalize w3.alloc (.cells #[.int .i64 kl, .int .i64 nl, .slice ua ul uc] 48) = w4 at *
 refine bodyPost_ret (results_cell_row rfl _ _ (w.heap.size + 1) 25 _ (0, 0) _ rfl (set5_row hrz) Tryz.underlying25 rfl (by rw [hi0, Option.map_some, hz1]; rfl)) rfl ?_
 refine ⟨_, _, rfl, tmP_lev (lvP_move (w := w4) (fun b _ hp => ⟨by omega, set5_far' w4 (w.heap.size + 1) 0 b _ _ _ _ _ (by omega)⟩) (Nat.le_of_eq (set5_sz w4 (w.heap.size + 1) 0 _ _ _ _ _).symm) _ _ HLV.out) 2 0 _, set5_below HB3.out _ 0 _ _ _ _ _ (by omega)⟩
set_option maxRecDepth 100000 in
set_option maxHeartbeats 4000000 in
theorem const_is (m : ByteArray) (ls : List Lv) (l : Value) (w : World) (P : Nat → Prop) (h : LvP w P (.mk 0 0 ls) l) (hn : ls.length ≤ 100000) (hm : ∀ a, a ∈ ls → nodes a ≤ 1000) : Calls Tryz.prog 69 #[.string m, l] w (TmRet w (.mk 3 0 m ls [])) := by
 obtain ⟨i0, hi0, hz0, hz1, hz2⟩ := info_parts infoTm
 obtain ⟨la, ll, lc, rfl⟩ := lvP_slice h
 have HE := Lib.hid (eachl_all ls _ (w.alloc (.cells #[.int .i64 0, .int .i64 0, .string ⟨#[]⟩, .slice none 0 0, .slice none 0 0] 25)) P (lvP_below h (below_lit w _)) hn hm)
 have HB := Lib.hid (below_lit w (.cells #[.int .i64 0, .int .i64 0, .string ⟨#[]⟩, .slice none 0 0, .slice none 0 0] 25))
 have HR := Lib.hid (heap_alloc_new w (.cells #[.int .i64 0, .int .i64 0, .string ⟨#[]⟩, .slice none 0 0, .slice none 0 0] 25))
 have HZ := Lib.hid (show (w.alloc (.cells #[.int .i64 0, .int .i64 0, .string ⟨#[]⟩, .slice none 0 0, .slice none 0 0] 25)).heap.size = w.heap.size + 1 by simp)
 have HN := Lib.hid hn
 clear h hn hm
 go_enter Tryz.func69, Tryz.ntmps69
 go_wp2_with fail
 generalize w.alloc (.cells #[.int .i64 0, .int .i64 0, .string ⟨#[]⟩, .slice none 0 0, .slice none 0 0] 25) = W at *
 refine HE.out.mono ?_
 rintro e w3 ⟨V, rfl, hown, hb3⟩
 obtain ⟨ua, ul, uc, rfl⟩ := ownL_slice hown
 have HLV := Lib.hid (ownL_lvP hown (by have := HN.out; omega) 0 0)
 have hrz := (hb3.block w.heap.size (by rw [HZ.out]; omega)).trans HR.out
 have HB3 := Lib.hid (HB.out.trans (hb3.mono HB.out.size))
 have hz := HZ.out
 clear hown hb3
 obtain ⟨e0, e1, e2, e3, e4⟩ := five_cells hrz
 have g0 := frozen0 (p := 0) hrz
 have g1 := frozen0 (p := 1) hrz
 have g2 := frozen0 (p := 2) hrz
 have g3 := frozen0 (p := 3) hrz
 have g4 := frozen0 (p := 4) hrz
 go_wp2_with fail
 refine bodyPost_ret (results_cell_row rfl _ _ (w.heap.size) 25 _ (0, 0) _ rfl (set5_row hrz) Tryz.underlying25 rfl (by rw [hi0, Option.map_some, hz1]; rfl)) rfl ?_
 refine ⟨_, _, rfl, tmP_lev (lvP_move (w := w3) (fun b _ (hp : W.heap.size ≤ b) => ⟨by omega, set5_far' w3 w.heap.size 0 b _ _ _ _ _ (by omega)⟩) (Nat.le_of_eq (set5_sz w3 w.heap.size 0 _ _ _ _ _).symm) _ _ HLV.out) 3 0 _, set5_below HB3.out _ 0 _ _ _ _ _ (by omega)⟩
end Trm
end Go.Proofs.YteomfakbbcpckaaGreatDoor
namespace Go.Proofs.YteomfakbbcpckaaGreatDoor
open Go.RowKit Go.Shelf
open Lvl
namespace Trm
def wz (d : Nat) : Int := IntKind.i64.wrap (d : Int)
theorem wz_cases (d : Int) : (IntKind.i64.wrap d = d % 18446744073709551616 ∧ d % 18446744073709551616 < 9223372036854775808) ∨ (IntKind.i64.wrap d = d % 18446744073709551616 - 18446744073709551616 ∧ 9223372036854775808 ≤ d % 18446744073709551616) := by
 have e : IntKind.i64.wrap d = if (true && decide (d % 18446744073709551616 ≥ 9223372036854775808)) = true then d % 18446744073709551616 - 18446744073709551616 else d % 18446744073709551616 := rfl
 rw [e]
 simp only [Bool.true_and, decide_eq_true_eq]
 split <;> omega
theorem wz_le (d : Nat) : wz d ≤ (d : Int) := by
 unfold wz
 have := wz_cases (d : Int)
 omega
theorem wz_add (d k : Nat) : IntKind.i64.wrap (wz d + (k : Int)) = wz (d + k) := by
 unfold wz
 have h1 := wz_cases (d : Int)
 have h2 := wz_cases (((d + k : Nat)) : Int)
 have h3 := wz_cases (IntKind.i64.wrap (d : Int) + (k : Int))
 omega
structure ItW (w0 : World) (G : Tm × Nat × Nat → Prop) where
 t : Tm
 la : Option Addr
 ll : Nat
 lc : Nat
 sa : Option Addr
 sl : Nat
 sc : Nat
 d : Nat
 b : Nat
 ok : TmP w0 (fun _ => True) t (.slice la ll lc) (.slice sa sl sc)
 g : G (t, d, b)
def ItW.tag {w0 : World} {G : Tm × Nat × Nat → Prop} (x : ItW w0 G) : Tm × Nat × Nat := (x.t, x.d, x.b)
abbrev tplaceW (d b : Nat) : Value := .agg #[.int .i64 (wz d), .int .i64 (wz b)]
def ItW.enc {w0 : World} {G : Tm × Nat × Nat → Prop} (x : ItW w0 G) : Array Value := #[tv x.t (.slice x.la x.ll x.lc) (.slice x.sa x.sl x.sc), tplaceW x.d x.b]
set_option maxRecDepth 100000 in
set_option maxHeartbeats 4000000 in
theorem walk_free (w0 : World) (G : Tm × Nat × Nat → Prop) (D l M : Nat) (J Jx : List (ItW w0 G) → World → Prop)
  (hJ : ∀ xs W W', Below W.heap.size W W' → J xs W → J xs W')
  (hY : ∀ xs (x : ItW w0 G) W, J xs W → xs.length < M → YieldAt Fence.wide 10 Tryz.prog l x.enc W fun e W' =>
   (e = .returned (.bool true) ∧ J (xs ++ [x]) W' ∧ KpW w0.heap.size D W W') ∨ (e = .returned (.bool false) ∧ Jx (xs ++ [x]) W')) :
  ∀ (N : Nat) (x : ItW w0 G) (xs : List (ItW w0 G)) (W : World), tnodes x.t ≤ N → J xs W → Below w0.heap.size w0 W → w0.heap.size ≤ D → D ≤ W.heap.size → xs.length + (pre x.t x.d x.b).length ≤ M → (∀ q, q ∈ pre x.t x.d x.b → G q) →
   CallsIn Fence.wide 11 Tryz.prog 102 (x.enc ++ #[.func (.yield l) #[] #[]]) W fun e W' =>
    (e = .returned (.bool true) ∧ ∃ ys, ys.map ItW.tag = pre x.t x.d x.b ∧ J (xs ++ ys) W' ∧ KpW w0.heap.size D W W') ∨
    (e = .returned (.bool false) ∧ ∃ ys, ys.map ItW.tag <+: pre x.t x.d x.b ∧ Jx (xs ++ ys) W') := by
 intro N
 induction N with
 | zero => intro x _ _ h; have := tnodes_pos x.t; omega
 | succ N ih =>
 intro x xs W hN hJs hB hnD hDW hM hG
 obtain ⟨⟨k, n, m, ls, ts⟩, la, ll, lc, sa, sl, sc, d, b, ok, hg⟩ := x
 obtain ⟨X, hX⟩ : ∃ X : ItW w0 G, X = ⟨.mk k n m ls ts, la, ll, lc, sa, sl, sc, d, b, ok, hg⟩ := ⟨_, rfl⟩
 dsimp only at hN hM hG ⊢
 obtain ⟨dz, hdz⟩ : ∃ q, wz d = q := ⟨_, rfl⟩
 obtain ⟨bz, hbz⟩ : ∃ q, wz b = q := ⟨_, rfl⟩
 have HDZ := Lib.hid hdz
 have HBZ := Lib.hid hbz
 have hPRE : pre (.mk k n m ls ts) d b = (.mk k n m ls ts, d, b) :: preL k ts.length ts 0 (d + 1) b := by rw [pre]
 rw [hPRE, List.length_cons] at hM
 rw [hPRE] at hG
 have HG := Lib.hid hG
 obtain ⟨fn, tmps, assign, body, hy, hR⟩ := hY xs X _ (hJ _ _ _ (below_lit _ (.cells #[.int .i64 dz, .int .i64 bz] 113)) (hJ _ _ _ (below_lit W (.cells #[.int .i64 k, .int .i64 n, .string m, .slice la ll lc, .slice sa sl sc] 25)) hJs)) (by omega)
 rw [show X.enc = #[.agg #[.int .i64 k, .int .i64 n, .string m, .slice la ll lc, .slice sa sl sc], .agg #[.int .i64 dz, .int .i64 bz]] by subst hX; rw [← hdz, ← hbz]; rfl] at hy
 have HT := Lib.hid (show X.tag = (.mk k n m ls ts, d, b) by subst hX; rfl)
 have HPR := Lib.hid hPRE
 have HRh := Lib.hid hR
 have IH := Lib.hid ih
 have HJs := Lib.hid hJs
 have HY := Lib.hid hY
 have HJ := Lib.hid hJ
 have HB := Lib.hid hB
 rw [TmP] at ok
 obtain ⟨hls, A', len', cap', e9, hlen, hlc', hl47, hnone, hts⟩ := ok
 cases e9
 have HTS := Lib.hid hts
 have HLEN := Lib.hid hlen
 have HTN : Hid (tnodesL ts ≤ N) := by
  rw [tnodes] at hN
  have : tnodesL ts ≤ N := by omega
  exact this
 have HM := Lib.hid hM
 have HND := Lib.hid hnD
 have HDW := Lib.hid hDW
 clear hX hG hPRE hR ih hJs hY hJ hB hts hlen hls hN hM hnD hDW
 refine callsIn_of_wp Tryz.func102 rfl trivial ?_ rfl
 simp only [ItW.enc, Tryz.ntmps102, List.size_toArray, List.length_cons, List.length_nil, Nat.reduceAdd, Nat.reduceSub, Array.replicate_succ, Array.replicate_zero, List.push_toArray, List.append_toArray, List.nil_append, List.cons_append]
 dsimp only [tv, tplaceW]
 rw [hdz, hbz]
 clear hdz hbz
 gi_wp2
 have z1 : (W.alloc (.cells #[.int .i64 k, .int .i64 n, .string m, .slice la ll lc, .slice sa sl sc] 25)).heap.size = W.heap.size + 1 := by simp
 have r1 := heap_alloc_new W (.cells #[.int .i64 k, .int .i64 n, .string m, .slice la ll lc, .slice sa sl sc] 25)
 have r2 := heap_alloc_new (W.alloc (.cells #[.int .i64 k, .int .i64 n, .string m, .slice la ll lc, .slice sa sl sc] 25)) (.cells #[.int .i64 dz, .int .i64 bz] 113)
 have r1' := (heap_alloc_old (W.alloc (.cells #[.int .i64 k, .int .i64 n, .string m, .slice la ll lc, .slice sa sl sc] 25)) (.cells #[.int .i64 dz, .int .i64 bz] 113) (r := W.heap.size) (by simp)).trans r1
 have b2 := below_lit W (.cells #[.int .i64 k, .int .i64 n, .string m, .slice la ll lc, .slice sa sl sc] 25)
 have HB3 := Lib.hid (b2.trans ((below_lit (W.alloc (.cells #[.int .i64 k, .int .i64 n, .string m, .slice la ll lc, .slice sa sl sc] 25)) (.cells #[.int .i64 dz, .int .i64 bz] 113)).mono b2.size))
 rw [z1] at r2
 have hR := HRh.out
 clear HRh b2 r1 z1 hy
 generalize (W.alloc (.cells #[.int .i64 k, .int .i64 n, .string m, .slice la ll lc, .slice sa sl sc] 25)).alloc (.cells #[.int .i64 dz, .int .i64 bz] 113) = W2 at *
 refine hR.mono ?_
 clear hR
 have HR1 := Lib.hid r1'
 have HR2 := Lib.hid r2
 clear r1' r2
 rintro e W3 (⟨rfl, hJ3, hk3⟩ | ⟨rfl, hx3⟩)
 ·have HJ3 := Lib.hid hJ3
  have HK3 := Lib.hid hk3
  clear hJ3 hk3
  have r1 := HK3.out.2 W.heap.size _ HDW.out HR1.out rfl
  have r2 := HK3.out.2 (W.heap.size + 1) _ (by have := HDW.out; omega) HR2.out rfl
  have HKW := Lib.hid ((KpW.of_below (D := D) (Nat.le_trans HND.out HDW.out) HB3.out).trans HK3.out)
  have HB0 := Lib.hid (HB.out.trans HKW.out.1)
  obtain ⟨c0, c1, c2, c3, c4⟩ := five_cells r1
  gi_wp2
  have HR1' := Lib.hid r1
  have HR2' := Lib.hid r2
  clear r1 r2 c0 c1 c2 c3 c4
  refine wpIn_wide.2 ?_
  go_loopw [17] (fun i wr => ∃ (j : Nat) (ys : List (ItW w0 G)), j ≤ sl ∧ i = .int .i64 j ∧ Hid (ys.map ItW.tag = preL k ts.length (ts.take j) 0 (d + 1) b) ∧ Hid (J (xs ++ [X] ++ ys) wr) ∧ Hid (KpW w0.heap.size D W3 wr)) (fun i _ => sl - (intOf i).toNat)
  case atStart => exact ⟨0, [], Nat.zero_le _, rfl, by have : ([] : List (ItW w0 G)).map ItW.tag = preL k ts.length (ts.take 0) 0 (d + 1) b := (by simp [preL]); exact this, by have := HJ3.out; rw [← List.append_nil (xs ++ [X])] at this; exact this, KpW.refl _ _ _⟩
  case round =>
   obtain ⟨j, ys, hj, rfl, htag, hJr, hkr⟩ := hrel
   have HKr := Lib.hid (HKW.out.trans hkr.out)
   have HB0r := Lib.hid (HB0.out.trans hkr.out.1)
   have HDr : Hid (D ≤ wr.heap.size) := Nat.le_trans HDW.out (Nat.le_trans HB3.out.size (Nat.le_trans HK3.out.1.size hkr.out.1.size))
   have hR1 := Lib.hid (hkr.out.2 W.heap.size _ HDW.out HR1'.out rfl)
   have hR2 := Lib.hid (hkr.out.2 (W.heap.size + 1) _ (by have := HDW.out; omega) HR2'.out rfl)
   by_cases hlt : j < sl
   ·have hx1 : j < ts.length := by rw [HLEN.out]; exact hlt
    have hln : decide ((j : Int) < (sl : Int)) = true := by simp; omega
    obtain ⟨bk, o, l1, s1, eA, hbs, _, hc0, hc1, hc2, hc3, hc4, htm⟩ := tsP_get HTS.out j hx1
    subst eA
    obtain ⟨⟨xa, xl, xc, rfl⟩, ya, yl, yc, rfl⟩ := tmP_slices htm
    have d0 := (HB0r.out.cell (p := ⟨bk, _, none⟩) hbs).trans hc0
    have d1 := (HB0r.out.cell (p := ⟨bk, _, none⟩) hbs).trans hc1
    have d2 := (HB0r.out.cell (p := ⟨bk, _, none⟩) hbs).trans hc2
    have d3 := (HB0r.out.cell (p := ⟨bk, _, none⟩) hbs).trans hc3
    have d4 := (HB0r.out.cell (p := ⟨bk, _, none⟩) hbs).trans hc4
    obtain ⟨R, hR⟩ : ∃ R, bndP k ts.length j = R := ⟨_, rfl⟩
    have hR1' : R ≤ 1 := by rw [← hR]; exact bndP_le _ _ _
    obtain ⟨dn, hdn⟩ : ∃ q, q = d + 1 := ⟨_, rfl⟩
    obtain ⟨bn, hbn⟩ : ∃ q, q = b + R := ⟨_, rfl⟩
    obtain ⟨dzn, hdzn⟩ : ∃ q, wz dn = q := ⟨_, rfl⟩
    obtain ⟨bzn, hbzn⟩ : ∃ q, wz bn = q := ⟨_, rfl⟩
    have hw1 : IntKind.i64.wrap (dz + 1) = dzn := by
     rw [← HDZ.out, ← hdzn, hdn]
     exact wz_add d 1
    have hw2 : IntKind.i64.wrap (bz + (R : Int)) = bzn := by
     rw [← HBZ.out, ← hbzn, hbn]
     exact wz_add b R
    have HTK : Hid (preL k ts.length (ts.take (j + 1)) 0 (d + 1) b = preL k ts.length (ts.take j) 0 (d + 1) b ++ pre ts[j] dn bn) := by
     have := preL_take k ts.length hx1 (d + 1) b
     rw [hR, ← hdn, ← hbn] at this
     rw [hdn] at this ⊢
     exact this
    have HGJ : Hid (∀ q, q ∈ pre ts[j] dn bn → G q) := by
     have : ∀ q, q ∈ pre ts[j] dn bn → G q := fun q hq => by
      refine HG.out q (List.mem_cons_of_mem _ ((preL_pfx k ts.length ts (j + 1) (d + 1) b).subset ?_))
      rw [HTK.out]
      exact List.mem_append_right _ hq
     exact this
    have HLM : Hid ((xs ++ [X] ++ ys).length + (pre ts[j] dn bn).length ≤ M) := by
     have q1 : ys.length = (preL k ts.length (ts.take j) 0 (d + 1) b).length := by rw [← htag.out, List.length_map]
     have q2 := (preL_pfx k ts.length ts (j + 1) (d + 1) b).length_le
     rw [HTK.out, List.length_append] at q2
     have q3 := HM.out
     have : (xs ++ [X] ++ ys).length + (pre ts[j] dn bn).length ≤ M := by
      rw [List.length_append, List.length_append, List.length_singleton, q1]
      omega
     exact this
    have hcall := IH.out ⟨ts[j], xa, xl, xc, ya, yl, yc, dn, bn, htm, HGJ.out _ (pre_head _ _ _)⟩ (xs ++ [X] ++ ys)
    dsimp only [ItW.enc, tv, tplaceW] at hcall
    rw [hdzn, hbzn] at hcall
    have HCALL := Lib.hid hcall
    have HTJ : Hid (tnodes ts[j] ≤ N) := Nat.le_trans (tnodes_mem (List.getElem_mem hx1)) HTN.out
    have q1 : (0 : Int) ≤ (j : Int) := by omega
    have q2 : (j : Int) < (sl : Int) := by omega
    have HRR : Hid (bndP k sl j = R) := by rw [← HLEN.out]; exact hR
    clear hcall htm hc0 hc1 hc2 hc3 hc4 hdn hbn hR hdzn hbzn
    generalize tkOf ts[j] = ka at *
    generalize tnOf ts[j] = na at *
    generalize tmOf ts[j] = ma at *
    obtain ⟨k0, k1, k2, k3, k4⟩ := five_cells hR1.out
    go_wp2_with fail
    have HB4 := Lib.hid (below_lit wr (.cells #[.int .i64 ka, .int .i64 na, .string ma, .slice xa xl xc, .slice ya yl yc] 25))
    have hr8 := heap_alloc_new wr (.cells #[.int .i64 ka, .int .i64 na, .string ma, .slice xa xl xc, .slice ya yl yc] 25)
    have hs8 : wr.heap.size < (wr.alloc (.cells #[.int .i64 ka, .int .i64 na, .string ma, .slice xa xl xc, .slice ya yl yc] 25)).heap.size := by simp
    have hs1 : W.heap.size + 1 < wr.heap.size := (Array.getElem?_eq_some_iff.1 hR2.out).1
    have hk : Hid (∀ W', Below (wr.alloc (.cells #[.int .i64 ka, .int .i64 na, .string ma, .slice xa xl xc, .slice ya yl yc] 25)).heap.size (wr.alloc (.cells #[.int .i64 ka, .int .i64 na, .string ma, .slice xa xl xc, .slice ya yl yc] 25)) W' → W'.cell? ⟨W.heap.size, 0, none⟩ = some (.int .i64 k) ∧ W'.cell? ⟨W.heap.size, 1, none⟩ = some (.int .i64 n) ∧ W'.cell? ⟨W.heap.size, 2, none⟩ = some (.string m) ∧ W'.cell? ⟨W.heap.size, 3, none⟩ = some (.slice la ll lc) ∧ W'.cell? ⟨W.heap.size, 4, none⟩ = some (.slice (some ⟨bk, o, none⟩) sl sc) ∧ W'.cell? ⟨W.heap.size + 1, 0, none⟩ = some (.int .i64 dz) ∧ W'.cell? ⟨W.heap.size + 1, 1, none⟩ = some (.int .i64 bz) ∧ W'.cell? ⟨wr.heap.size, 0, none⟩ = some (.int .i64 ka) ∧ W'.cell? ⟨wr.heap.size, 1, none⟩ = some (.int .i64 na) ∧ W'.cell? ⟨wr.heap.size, 2, none⟩ = some (.string ma) ∧ W'.cell? ⟨wr.heap.size, 3, none⟩ = some (.slice xa xl xc) ∧ W'.cell? ⟨wr.heap.size, 4, none⟩ = some (.slice ya yl yc)) := fun W' h => by
     obtain ⟨a0, a1, a2, a3, a4⟩ := five_cells ((h.block W.heap.size (by omega)).trans ((HB4.out.block W.heap.size (by omega)).trans hR1.out))
     have hp := (h.block (W.heap.size + 1) (by omega)).trans ((HB4.out.block (W.heap.size + 1) (by omega)).trans hR2.out)
     have b0 := cell_of_row _ _ 0 _ 113 (0, 0) hp
     have b1 := cell_of_row _ _ 1 _ 113 (0, 0) hp
     obtain ⟨e0, e1, e2, e3, e4⟩ := five_cells ((h.block wr.heap.size hs8).trans hr8)
     exact ⟨a0, a1, a2, a3, a4, b0, b1, e0, e1, e2, e3, e4⟩
    generalize wr.alloc (.cells #[.int .i64 ka, .int .i64 na, .string ma, .slice xa xl xc, .slice ya yl yc] 25) = W4 at *
    clear d0 d1 d2 d3 d4 k0 k1 k2 k3 k4 hr8
    refine region_E (S := fun W' => W'.cell? ⟨W.heap.size, 0, none⟩ = some (.int .i64 k) ∧ W'.cell? ⟨W.heap.size, 1, none⟩ = some (.int .i64 n) ∧ W'.cell? ⟨W.heap.size, 2, none⟩ = some (.string m) ∧ W'.cell? ⟨W.heap.size, 3, none⟩ = some (.slice la ll lc) ∧ W'.cell? ⟨W.heap.size, 4, none⟩ = some (.slice (some ⟨bk, o, none⟩) sl sc) ∧ W'.cell? ⟨W.heap.size + 1, 0, none⟩ = some (.int .i64 dz) ∧ W'.cell? ⟨W.heap.size + 1, 1, none⟩ = some (.int .i64 bz) ∧ W'.cell? ⟨wr.heap.size, 0, none⟩ = some (.int .i64 ka) ∧ W'.cell? ⟨wr.heap.size, 1, none⟩ = some (.int .i64 na) ∧ W'.cell? ⟨wr.heap.size, 2, none⟩ = some (.string ma) ∧ W'.cell? ⟨wr.heap.size, 3, none⟩ = some (.slice xa xl xc) ∧ W'.cell? ⟨wr.heap.size, 4, none⟩ = some (.slice ya yl yc)) 12 (by kernel_rfl) ?_
    refine (fun (hHeld : (fun W' : World => W'.cell? ⟨W.heap.size, 0, none⟩ = some (.int .i64 k) ∧ W'.cell? ⟨W.heap.size, 1, none⟩ = some (.int .i64 n) ∧ W'.cell? ⟨W.heap.size, 2, none⟩ = some (.string m) ∧ W'.cell? ⟨W.heap.size, 3, none⟩ = some (.slice la ll lc) ∧ W'.cell? ⟨W.heap.size, 4, none⟩ = some (.slice (some ⟨bk, o, none⟩) sl sc) ∧ W'.cell? ⟨W.heap.size + 1, 0, none⟩ = some (.int .i64 dz) ∧ W'.cell? ⟨W.heap.size + 1, 1, none⟩ = some (.int .i64 bz) ∧ W'.cell? ⟨wr.heap.size, 0, none⟩ = some (.int .i64 ka) ∧ W'.cell? ⟨wr.heap.size, 1, none⟩ = some (.int .i64 na) ∧ W'.cell? ⟨wr.heap.size, 2, none⟩ = some (.string ma) ∧ W'.cell? ⟨wr.heap.size, 3, none⟩ = some (.slice xa xl xc) ∧ W'.cell? ⟨wr.heap.size, 4, none⟩ = some (.slice ya yl yc)) _) => ?_) (hk.out _ ((Below.refl _ _).drew))
    refine take_E (i := 0) (v := ?_) 0 [] rfl (by kernel_rfl) (by kernel_rfl) (by kernel_rfl) (by kernel_rfl) rfl (by decide) (by kernel_rfl) rfl (fun _ _ _ h => h) (by rfl) ?_ hHeld ?_
    rotate_left
    ·intro w hSw
     (try dsimp only at hSw)
     go_simp
     try with_reducible rfl
    try simp only [Act.put, s1q, s2q, s3q]
    refine take_E (i := 1) (v := ?_) 10 [3, 2, 1] rfl (by kernel_rfl) (by kernel_rfl) (by kernel_rfl) (by kernel_rfl) rfl (by decide) (by kernel_rfl) rfl (fun _ _ _ h => h) (by rfl) ?_ hHeld ?_
    rotate_left
    ·intro w hSw
     (try dsimp only at hSw)
     go_simp
     try with_reducible rfl
    try simp only [Act.put, s1q, s2q, s3q]
    refine take_E (i := 2) (v := ?_) 10 [3, 2] rfl (by kernel_rfl) (by kernel_rfl) (by kernel_rfl) (by kernel_rfl) rfl (by decide) (by kernel_rfl) rfl (fun _ _ _ h => h) (by rfl) ?_ hHeld ?_
    rotate_left
    ·intro w hSw
     (try dsimp only at hSw)
     go_simp
     try with_reducible rfl
    try simp only [Act.put, s1q, s2q, s3q]
    refine take_E (i := 3) (v := ?_) 10 [3] rfl (by kernel_rfl) (by kernel_rfl) (by kernel_rfl) (by kernel_rfl) rfl (by decide) (by kernel_rfl) rfl (fun _ _ _ h => h) (by rfl) ?_ hHeld ?_
    rotate_left
    ·intro w hSw
     (try dsimp only at hSw)
     go_simp
     try with_reducible rfl
    try simp only [Act.put, s1q, s2q, s3q]
    refine take_E (i := 4) (v := ?_) 10 [9, 5, 4] rfl (by kernel_rfl) (by kernel_rfl) (by kernel_rfl) (by kernel_rfl) rfl (by decide) (by kernel_rfl) rfl (fun _ _ _ h => h) (by rfl) ?_ hHeld ?_
    rotate_left
    ·intro w hSw
     (try dsimp only at hSw)
     go_simp
     try with_reducible rfl
    try simp only [Act.put, s1q, s2q, s3q]
    refine take_E (i := 5) (v := ?_) 10 [9, 5] rfl (by kernel_rfl) (by kernel_rfl) (by kernel_rfl) (by kernel_rfl) rfl (by decide) (by kernel_rfl) rfl (fun _ _ _ h => h) (by rfl) ?_ hHeld ?_
    rotate_left
    ·intro w hSw
     (try dsimp only at hSw)
     go_simp
     try with_reducible rfl
    try simp only [Act.put, s1q, s2q, s3q]
    refine take_E (i := 6) (v := ?_) 10 [9, 8, 6] rfl (by kernel_rfl) (by kernel_rfl) (by kernel_rfl) (by kernel_rfl) rfl (by decide) (by kernel_rfl) rfl (fun _ _ _ h => h) (by rfl) ?_ hHeld ?_
    rotate_left
    ·intro w hSw
     (try dsimp only at hSw)
     go_simp
     try with_reducible rfl
    try simp only [Act.put, s1q, s2q, s3q]
    refine take_E (i := 7) (v := ?_) 10 [9, 8, 7] rfl (by kernel_rfl) (by kernel_rfl) (by kernel_rfl) (by kernel_rfl) rfl (by decide) (by kernel_rfl) rfl (fun _ _ _ h => h) (by rfl) ?_ hHeld ?_
    rotate_left
    ·intro w hSw
     (try dsimp only at hSw)
     go_simp
     try with_reducible rfl
    try simp only [Act.put, s1q, s2q, s3q]
    refine take_E (i := 11) (v := ?_) 11 [] rfl (by kernel_rfl) (by kernel_rfl) (by kernel_rfl) (by kernel_rfl) rfl (by decide) (by kernel_rfl) rfl (fun _ _ _ h => h) (by rfl) ?_ hHeld ?_
    rotate_left
    ·intro w hSw
     (try dsimp only at hSw)
     go_simp
     try with_reducible rfl
    try simp only [Act.put, s1q, s2q, s3q]
    refine only_E (i := 8) rfl (by kernel_rfl) (fun K hK => ?_)
    clear hHeld
    go_simp
    go_at_call 131
    refine (binds_is k n m _ (some ⟨bk, o, none⟩) sl sc j _ hl47 la ll lc rfl).mono ?_
    rintro e w5 ⟨rfl, hb5⟩
    rw [HRR.out]
    have HC5 := Lib.hid ((Below.refl _ _).drew.trans hb5)
    clear hb5
    try (go_wp2_with fail)
    refine (fun (hHeld : (fun W' : World => W'.cell? ⟨W.heap.size, 0, none⟩ = some (.int .i64 k) ∧ W'.cell? ⟨W.heap.size, 1, none⟩ = some (.int .i64 n) ∧ W'.cell? ⟨W.heap.size, 2, none⟩ = some (.string m) ∧ W'.cell? ⟨W.heap.size, 3, none⟩ = some (.slice la ll lc) ∧ W'.cell? ⟨W.heap.size, 4, none⟩ = some (.slice (some ⟨bk, o, none⟩) sl sc) ∧ W'.cell? ⟨W.heap.size + 1, 0, none⟩ = some (.int .i64 dz) ∧ W'.cell? ⟨W.heap.size + 1, 1, none⟩ = some (.int .i64 bz) ∧ W'.cell? ⟨wr.heap.size, 0, none⟩ = some (.int .i64 ka) ∧ W'.cell? ⟨wr.heap.size, 1, none⟩ = some (.int .i64 na) ∧ W'.cell? ⟨wr.heap.size, 2, none⟩ = some (.string ma) ∧ W'.cell? ⟨wr.heap.size, 3, none⟩ = some (.slice xa xl xc) ∧ W'.cell? ⟨wr.heap.size, 4, none⟩ = some (.slice ya yl yc)) _) => hK.out _ _ (fun _ => hHeld) ?_) (hk.out w5 HC5.out)
    clear hK K
    try simp only [Act.put, s1q, s2q, s3q]
    refine take_E (i := 9) (v := ?_) 10 [9] rfl (by kernel_rfl) (by kernel_rfl) (by kernel_rfl) (by kernel_rfl) rfl (by decide) (by kernel_rfl) rfl (fun _ _ _ h => h) (by rfl) ?_ hHeld ?_
    rotate_left
    ·intro w hSw
     (try dsimp only at hSw)
     go_simp
     try with_reducible rfl
    try simp only [Act.put, s1q, s2q, s3q]
    refine take_E (i := 10) (v := ?_) 10 [] rfl (by kernel_rfl) (by kernel_rfl) (by kernel_rfl) (by kernel_rfl) rfl (by decide) (by kernel_rfl) rfl (fun _ _ _ h => h) (by rfl) ?_ hHeld ?_
    rotate_left
    ·intro w hSw
     (try dsimp only at hSw)
     go_simp
     try with_reducible rfl
    try simp only [Act.put, s1q, s2q, s3q]
    refine only_E (i := 12) rfl (by kernel_rfl) (fun K hK => ?_)
    clear hHeld
    go_simp
    have HW5 := Lib.hid (HB4.out.trans (HC5.out.mono HB4.out.size))
    go_at_call 102
    refine (callsIn_wide.1 (HCALL.out w5 HTJ.out (HJ.out _ _ _ HW5.out hJr.out) (HB0r.out.trans (HW5.out.mono HB0r.out.size)) HND.out (Nat.le_trans HDr.out HW5.out.size) HLM.out HGJ.out)).mono ?_
    rintro e w6 (⟨rfl, zs, hz1, hz2, hz3⟩ | ⟨rfl, zs, hz1, hz2⟩)
    ·have HTG : Hid ((ys ++ zs).map ItW.tag = preL k ts.length (ts.take (j + 1)) 0 (d + 1) b) := by
      have : (ys ++ zs).map ItW.tag = preL k ts.length (ts.take (j + 1)) 0 (d + 1) b := by rw [List.map_append, htag.out, hz1, HTK.out]
      exact this
     have HJZ : Hid (J (xs ++ [X] ++ (ys ++ zs)) w6) := by
      have := hz2
      rw [List.append_assoc _ ys zs] at this
      exact this
     have HKZ : Hid (KpW w0.heap.size D W3 w6) := hkr.out.trans ((KpW.of_below HB0r.out.size HW5.out).trans hz3)
     clear hz1 hz2 hz3
     try (go_wp2_with fail)
     refine hK.out _ _ (fun h => by cases h) ?_
     clear hK K
     try simp only [Act.put, s1q, s2q, s3q]
     refine only_E (i := 13) rfl (by kernel_rfl) (fun K hK => ?_)
     go_simp
     try (go_wp2_with fail)
     refine hK.out _ _ (fun h => by cases h) ?_
     clear hK K
     try simp only [Act.put, s1q, s2q, s3q]
     refine done_E (by kernel_rfl) ?_ _
     go_wp2_with fail
     go_roundw
     case rel => exact ⟨j + 1, ys ++ zs, by omega, by go_num, HTG.out, HJZ.out, HKZ.out⟩
     case measure => simp [intOf]; omega
    ·have HTG : Hid ((X :: (ys ++ zs)).map ItW.tag <+: pre (.mk k n m ls ts) d b) := by
      have : (X :: (ys ++ zs)).map ItW.tag <+: pre (.mk k n m ls ts) d b := by
       rw [HPR.out, List.map_cons, HT.out, List.map_append, htag.out]
       refine List.prefix_cons_inj _ |>.2 (List.IsPrefix.trans ?_ (preL_pfx k ts.length ts (j + 1) (d + 1) b))
       rw [HTK.out]
       exact (List.prefix_append_right_inj _).2 hz1
      exact this
     have HJZ : Hid (Jx (xs ++ (X :: (ys ++ zs))) w6) := by
      have := hz2
      rw [List.append_assoc _ ys zs, List.append_assoc xs] at this
      exact this
     clear hz1 hz2
     try (go_wp2_with fail)
     refine hK.out _ _ (fun h => by cases h) ?_
     clear hK K
     try simp only [Act.put, s1q, s2q, s3q]
     refine only_E (i := 13) rfl (by kernel_rfl) (fun K hK => ?_)
     go_simp
     try (go_wp2_with fail)
     refine hK.out _ _ (fun h => by cases h) ?_
     clear hK K
     try simp only [Act.put, s1q, s2q, s3q]
     refine done_E (by kernel_rfl) ?_ _
     go_wp2_with fail
     go_ret
     exact .inr ⟨rfl, X :: (ys ++ zs), HTG.out, HJZ.out⟩
   ·obtain rfl : j = sl := by omega
    have hln : decide ((j : Int) < (j : Int)) = false := by simp
    go_wp2_with fail
    gi_wp2
    go_ret
    refine .inl ⟨rfl, X :: ys, ?_, ?_, HKr.out⟩
    ·rw [List.map_cons, HT.out, htag.out, HPR.out, List.take_of_length_le (by rw [HLEN.out]; exact Nat.le_refl _)]
    ·have := hJr.out
     rw [List.append_assoc] at this
     exact this
 ·gi_wp2
  go_ret
  exact .inr ⟨rfl, [X], by rw [HPR.out, List.map_cons, HT.out]; exact ⟨_, rfl⟩, hx3⟩
end Trm
end Go.Proofs.YteomfakbbcpckaaGreatDoor
namespace Go.Proofs.YteomfakbbcpckaaGreatDoor
open Go.RowKit Go.Shelf
open Lvl
namespace Trm
set_option maxRecDepth 100000 in
set_option maxHeartbeats 1000000 in
theorem nodes_free (w0 : World) (G : Tm × Nat × Nat → Prop) (D B : Nat) (t : Tm) (la : Option Addr) (ll lc : Nat) (sa : Option Addr) (sl sc : Nat) (w : World) (hB : w.heap[B]? = some (.cells #[.int .i64 (tkOf t), .int .i64 (tnOf t), .string (tmOf t), .slice la ll lc, .slice sa sl sc] 25 (0, 0)))
  (ok : TmP w0 (fun _ => True) t (.slice la ll lc) (.slice sa sl sc)) (hD : w0.heap.size ≤ D) (hDw : D ≤ w.heap.size) (hbw : Below w0.heap.size w0 w) (hG : ∀ q, q ∈ pre t 0 0 → G q) :
  SeqStopsK Fence.wide 12 Tryz.prog 101 #[.pointer (some ⟨B, 0, none⟩)] (ItW.enc (w0 := w0) (G := G)) (KpW w0.heap.size D) (fun xs => xs.map ItW.tag = pre t 0 0) (fun xs => xs.map ItW.tag <+: pre t 0 0) (pre t 0 0).length w := by
 intro l J Jx W hW hJ hJx hY h0
 have hr := (hW.block B (Array.getElem?_eq_some_iff.1 hB).1).trans hB
 obtain ⟨c0, c1, c2, c3, c4⟩ := five_cells hr
 have hwalk := walk_free w0 G D l (pre t 0 0).length (fun xs W' => J xs W' ∧ W.heap.size ≤ W'.heap.size) Jx (fun xs W1 W2 h hj => ⟨hJ xs W1 W2 none hj.1 (grown_none h) (fun r e => by cases e), Nat.le_trans hj.2 h.size⟩)
  (fun xs x W1 hj hlt => YieldAt.mono (yield_any 10 (hY xs x W1 hj.1 hlt)) (fun e W2 h => h.elim (fun ⟨he, hj2, hk⟩ => .inl ⟨he, ⟨hj2, Nat.le_trans hj.2 hk.1.size⟩, hk⟩) .inr))
  (tnodes t) ⟨t, la, ll, lc, sa, sl, sc, 0, 0, ok, hG _ (pre_head _ _ _)⟩ [] W (Nat.le_refl _) ⟨h0, Nat.le_refl _⟩ (hbw.trans (hW.mono hbw.size)) hD (Nat.le_trans hDw hW.size) (by simp) hG
 have e0 : wz 0 = 0 := by decide
 dsimp only [ItW.enc, tv, tplaceW] at hwalk
 rw [e0] at hwalk
 have HWALK := Lib.hid hwalk
 clear hwalk hY hJ hJx
 refine callsIn_of_wp Tryz.func101 rfl trivial ?_ rfl
 simp only [Tryz.ntmps101, List.size_toArray, List.length_cons, List.length_nil, Nat.reduceAdd, Nat.reduceSub, Array.replicate_succ, Array.replicate_zero, List.push_toArray, List.append_toArray, List.nil_append, List.cons_append]
 gi_wp2
 refine ⟨trivial, ?_⟩
 refine HWALK.out.mono ?_
 rintro e W1 (⟨rfl, ys, h1, h2, _⟩ | ⟨rfl, ys, h1, h2⟩)
 ·gi_wp2
  go_end0
  exact ⟨⟨_, rfl⟩, .inl ⟨ys, h1, by simpa using h2.1⟩⟩
 ·gi_wp2
  go_end0
  exact ⟨⟨_, rfl⟩, .inr ⟨ys, h1, by simpa using h2⟩⟩
end Trm
end Go.Proofs.YteomfakbbcpckaaGreatDoor
