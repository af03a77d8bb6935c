import Derived.Test.YtlijdgamobpndaaDoorJ22
import Derived.Test.YtlijdgamobpndaaDoorJ35
import Derived.Test.YtlijdgamobpndaaDoorJ30
import Derived.Test.YtlijdgamobpndaaDoorJ15
/-
  The contracts of the program's functions Nodes and Right, of terms of any size.
  Conditions: the term lies in memory as told by 'TmV'; name.Right's contract.
-/
namespace Go.Proofs.YtlijdgamobpndaaDoor
open Go.RowKit Go.Shelf
open Lvl
namespace Trm
attribute [local go_sem] Oper.semAt_some

set_option maxRecDepth 100000 in
set_option maxHeartbeats 1000000 in
theorem tnodes_free (t : Tm) (v : Value) (w : World) (hv : TmV w t v) (R : Nat) (hR : min (tnodes t) 2001 = R) :
    Calls Tryd.prog 33 #[v] w (Ret w (.int .i64 R)) := by
  obtain ⟨l, s, rfl, ht⟩ := hv
  obtain ⟨⟨la, ll, lc, rfl⟩, sa, sl, sc, rfl⟩ := tmP_slices ht
  have HV := Lib.hid (show TmV w t _ from ⟨_, _, rfl, ht⟩)
  have HR := Lib.hid hR
  dsimp only [tv] at HV ⊢
  generalize tkOf t = k at *
  generalize tnOf t = n at *
  generalize tmOf t = m at *
  clear ht hR
  go_enter Tryd.func33, Tryd.ntmps33
  go_wp2_with fail
  have HB := Lib.hid (below_lit w (.cells #[.int .i64 k, .int .i64 n, .string m, .slice la ll lc, .slice sa sl sc] 25))
  generalize w.alloc (.cells #[.int .i64 k, .int .i64 n, .string m, .slice la ll lc, .slice sa sl sc] 25) = W at *
  refine (count_free t _ W (HV.out.below HB.out) 2000 (by omega)).mono ?_
  rintro e w2 ⟨rfl, hb2⟩
  rw [HR.out]
  have HB2 := Lib.hid (HB.out.trans (hb2.mono HB.out.size))
  clear hb2
  go_wp2_with fail
  go_ret
  exact ⟨rfl, HB2.out⟩

set_option maxRecDepth 100000 in
set_option maxHeartbeats 4000000 in
theorem right_free (RN : ByteArray → Bool) (t : Tm) (v : Value) (w : World) (hv : TmV w t v) (hnm : ∀ q, q ∈ pre t 0 0 → (tmOf q.1).size ≤ 140737488355328) (CN : NameC w RN) (nn kk : Int) (b : Bool) (hb : rightT RN nn t kk = b) :
    Calls Tryd.prog 24 #[v, .int .i64 nn, .int .i64 kk] w (Ret w (.bool b)) := by
  by_cases hm : tnodes t ≤ 100000
  · exact right_is RN t v w hv hm hnm CN nn kk b hb
  obtain ⟨l, s, rfl, ht⟩ := hv
  obtain ⟨⟨la, ll, lc, rfl⟩, sa, sl, sc, rfl⟩ := tmP_slices ht
  have HTT := Lib.hid ht
  obtain ⟨k, hk⟩ : ∃ k, tkOf t = k := ⟨_, rfl⟩
  obtain ⟨n, hn⟩ : ∃ n, tnOf t = n := ⟨_, rfl⟩
  obtain ⟨m, hmm⟩ : ∃ m, tmOf t = m := ⟨_, rfl⟩
  dsimp only [tv]
  rw [hk, hn, hmm]
  have HK := Lib.hid hk
  have HNN := Lib.hid hn
  have HMM := Lib.hid hmm
  have HM := Lib.hid hm
  clear hk hn hmm ht hm
  have HCN := Lib.hid CN
  have HNM := Lib.hid hnm
  have HV := Lib.hid hb
  clear CN hnm hb
  obtain ⟨R, hR⟩ : ∃ R, min (tnodes t) 2001 = R := ⟨_, rfl⟩
  have HR := Lib.hid hR
  by_cases hk0 : kk < 0
  · have hd0 : decide (kk < 0) = true := by simp; omega
    obtain rfl : b = false := by rw [← HV.out]; simp [rightT]; omega
    refine (callsIn_wide (n := 13)).1 (callsIn_of_wp_marks Tryd.func24 rfl trivial ?_ rfl)
    simp only [Tryd.ntmps24, List.size_toArray, List.length_cons, List.length_nil, Nat.reduceAdd, Nat.reduceSub, Array.replicate_succ, Array.replicate_zero, List.push_toArray, List.append_toArray, List.nil_append, List.cons_append]
    gi_wp2
    have z1 : (w.alloc (.cells #[.int .i64 k, .int .i64 n, .string m, .slice la ll lc, .slice sa sl sc] 25)).heap.size = w.heap.size + 1 := by simp
    have z2 : ((w.alloc (.cells #[.int .i64 k, .int .i64 n, .string m, .slice la ll lc, .slice sa sl sc] 25)).alloc (.cells #[.int .i64 nn] 3)).heap.size = w.heap.size + 1 + 1 := by simp
    have z3 : (((w.alloc (.cells #[.int .i64 k, .int .i64 n, .string m, .slice la ll lc, .slice sa sl sc] 25)).alloc (.cells #[.int .i64 nn] 3)).alloc (.cells #[.int .i64 kk] 3)).heap.size = w.heap.size + 1 + 1 + 1 := by simp
    have z4 : ((((w.alloc (.cells #[.int .i64 k, .int .i64 n, .string m, .slice la ll lc, .slice sa sl sc] 25)).alloc (.cells #[.int .i64 nn] 3)).alloc (.cells #[.int .i64 kk] 3)).alloc (.cells #[.bool false] 4)).heap.size = w.heap.size + 1 + 1 + 1 + 1 := by simp
    have r0 : (w.alloc (.cells #[.int .i64 k, .int .i64 n, .string m, .slice la ll lc, .slice sa sl sc] 25)).heap[w.heap.size]? = some (Obj.cells #[.int .i64 k, .int .i64 n, .string m, .slice la ll lc, .slice sa sl sc] 25 (0, 0)) := by
      have := heap_alloc_new w (.cells #[.int .i64 k, .int .i64 n, .string m, .slice la ll lc, .slice sa sl sc] 25)
      exact this
    have r1 : ((w.alloc (.cells #[.int .i64 k, .int .i64 n, .string m, .slice la ll lc, .slice sa sl sc] 25)).alloc (.cells #[.int .i64 nn] 3)).heap[w.heap.size + 1]? = some (Obj.cells #[.int .i64 nn] 3 (0, 0)) := by
      have := heap_alloc_new (w.alloc (.cells #[.int .i64 k, .int .i64 n, .string m, .slice la ll lc, .slice sa sl sc] 25)) (.cells #[.int .i64 nn] 3)
      rwa [z1] at this
    have r2 : (((w.alloc (.cells #[.int .i64 k, .int .i64 n, .string m, .slice la ll lc, .slice sa sl sc] 25)).alloc (.cells #[.int .i64 nn] 3)).alloc (.cells #[.int .i64 kk] 3)).heap[w.heap.size + 1 + 1]? = some (Obj.cells #[.int .i64 kk] 3 (0, 0)) := by
      have := heap_alloc_new ((w.alloc (.cells #[.int .i64 k, .int .i64 n, .string m, .slice la ll lc, .slice sa sl sc] 25)).alloc (.cells #[.int .i64 nn] 3)) (.cells #[.int .i64 kk] 3)
      rwa [z2] at this
    have r3 : ((((w.alloc (.cells #[.int .i64 k, .int .i64 n, .string m, .slice la ll lc, .slice sa sl sc] 25)).alloc (.cells #[.int .i64 nn] 3)).alloc (.cells #[.int .i64 kk] 3)).alloc (.cells #[.bool false] 4)).heap[w.heap.size + 1 + 1 + 1]? = some (Obj.cells #[.bool false] 4 (0, 0)) := by
      have := heap_alloc_new (((w.alloc (.cells #[.int .i64 k, .int .i64 n, .string m, .slice la ll lc, .slice sa sl sc] 25)).alloc (.cells #[.int .i64 nn] 3)).alloc (.cells #[.int .i64 kk] 3)) (.cells #[.bool false] 4)
      rwa [z3] at this
    have HB := Lib.hid ((((below_lit w (.cells #[.int .i64 k, .int .i64 n, .string m, .slice la ll lc, .slice sa sl sc] 25)).trans ((below_lit (w.alloc (.cells #[.int .i64 k, .int .i64 n, .string m, .slice la ll lc, .slice sa sl sc] 25)) (.cells #[.int .i64 nn] 3)).mono (below_lit w (.cells #[.int .i64 k, .int .i64 n, .string m, .slice la ll lc, .slice sa sl sc] 25)).size)).trans ((below_lit ((w.alloc (.cells #[.int .i64 k, .int .i64 n, .string m, .slice la ll lc, .slice sa sl sc] 25)).alloc (.cells #[.int .i64 nn] 3)) (.cells #[.int .i64 kk] 3)).mono ((below_lit w (.cells #[.int .i64 k, .int .i64 n, .string m, .slice la ll lc, .slice sa sl sc] 25)).trans ((below_lit (w.alloc (.cells #[.int .i64 k, .int .i64 n, .string m, .slice la ll lc, .slice sa sl sc] 25)) (.cells #[.int .i64 nn] 3)).mono (below_lit w (.cells #[.int .i64 k, .int .i64 n, .string m, .slice la ll lc, .slice sa sl sc] 25)).size)).size)).trans ((below_lit (((w.alloc (.cells #[.int .i64 k, .int .i64 n, .string m, .slice la ll lc, .slice sa sl sc] 25)).alloc (.cells #[.int .i64 nn] 3)).alloc (.cells #[.int .i64 kk] 3)) (.cells #[.bool false] 4)).mono (((below_lit w (.cells #[.int .i64 k, .int .i64 n, .string m, .slice la ll lc, .slice sa sl sc] 25)).trans ((below_lit (w.alloc (.cells #[.int .i64 k, .int .i64 n, .string m, .slice la ll lc, .slice sa sl sc] 25)) (.cells #[.int .i64 nn] 3)).mono (below_lit w (.cells #[.int .i64 k, .int .i64 n, .string m, .slice la ll lc, .slice sa sl sc] 25)).size)).trans ((below_lit ((w.alloc (.cells #[.int .i64 k, .int .i64 n, .string m, .slice la ll lc, .slice sa sl sc] 25)).alloc (.cells #[.int .i64 nn] 3)) (.cells #[.int .i64 kk] 3)).mono ((below_lit w (.cells #[.int .i64 k, .int .i64 n, .string m, .slice la ll lc, .slice sa sl sc] 25)).trans ((below_lit (w.alloc (.cells #[.int .i64 k, .int .i64 n, .string m, .slice la ll lc, .slice sa sl sc] 25)) (.cells #[.int .i64 nn] 3)).mono (below_lit w (.cells #[.int .i64 k, .int .i64 n, .string m, .slice la ll lc, .slice sa sl sc] 25)).size)).size)).size))
    have HR0 := Lib.hid ((heap_alloc_old (((w.alloc (.cells #[.int .i64 k, .int .i64 n, .string m, .slice la ll lc, .slice sa sl sc] 25)).alloc (.cells #[.int .i64 nn] 3)).alloc (.cells #[.int .i64 kk] 3)) (.cells #[.bool false] 4) (by rw [z3]; omega)).trans ((heap_alloc_old ((w.alloc (.cells #[.int .i64 k, .int .i64 n, .string m, .slice la ll lc, .slice sa sl sc] 25)).alloc (.cells #[.int .i64 nn] 3)) (.cells #[.int .i64 kk] 3) (by rw [z2]; omega)).trans ((heap_alloc_old (w.alloc (.cells #[.int .i64 k, .int .i64 n, .string m, .slice la ll lc, .slice sa sl sc] 25)) (.cells #[.int .i64 nn] 3) (by rw [z1]; omega)).trans (r0))))
    have HR1 := Lib.hid ((heap_alloc_old (((w.alloc (.cells #[.int .i64 k, .int .i64 n, .string m, .slice la ll lc, .slice sa sl sc] 25)).alloc (.cells #[.int .i64 nn] 3)).alloc (.cells #[.int .i64 kk] 3)) (.cells #[.bool false] 4) (by rw [z3]; omega)).trans ((heap_alloc_old ((w.alloc (.cells #[.int .i64 k, .int .i64 n, .string m, .slice la ll lc, .slice sa sl sc] 25)).alloc (.cells #[.int .i64 nn] 3)) (.cells #[.int .i64 kk] 3) (by rw [z2]; omega)).trans (r1)))
    have HR2 := Lib.hid ((heap_alloc_old (((w.alloc (.cells #[.int .i64 k, .int .i64 n, .string m, .slice la ll lc, .slice sa sl sc] 25)).alloc (.cells #[.int .i64 nn] 3)).alloc (.cells #[.int .i64 kk] 3)) (.cells #[.bool false] 4) (by rw [z3]; omega)).trans (r2))
    have HR3 := Lib.hid (r3)
    clear r0 r1 r2 r3
    generalize ((((w.alloc (.cells #[.int .i64 k, .int .i64 n, .string m, .slice la ll lc, .slice sa sl sc] 25)).alloc (.cells #[.int .i64 nn] 3)).alloc (.cells #[.int .i64 kk] 3)).alloc (.cells #[.bool false] 4)) = W4 at *
    have HZ := Lib.hid z4
    clear z1 z2 z3 z4
    have HTV := Lib.hid (show TmV W4 t _ from ⟨_, _, rfl, tmP_below HB.out HTT.out⟩)
    have hnc := tnodes_free t _ W4 HTV.out R HR.out
    dsimp only [tv] at hnc
    rw [HK.out, HNN.out, HMM.out] at hnc
    have HNC := Lib.hid hnc
    clear hnc hR
    have q3 := cell_of_row _ _ 0 _ 4 (0, 0) HR3.out
    have q3f := frozen0 (p := 0) HR3.out
    have q2 := cell_of_row _ _ 0 _ 3 (0, 0) HR2.out
    obtain ⟨a0, a1, a2, a3, a4⟩ := five_cells HR0.out
    refine ⟨trivial, ?_⟩
    gi_wp2
    exact ⟨_, res_cell1 rfl _ _ (w.heap.size + 1 + 1 + 1) _ rfl (World.cell?_setCell_same' _ _ _ (by rw [q3]; rfl)) Tryd.underlying4 (.inr rfl), rfl, below_set HB.out _ _ (by show w.heap.size ≤ w.heap.size + 1 + 1 + 1; omega)⟩
  · have hd0 : decide (kk < 0) = false := by simp; omega
    by_cases hR0 : 2000 < R
    · have hd1 : decide ((2000 : Int) < (R : Int)) = true := by simp; omega
      obtain rfl : b = false := by
        have := HR.out
        rw [← HV.out]; simp [rightT]; omega
      refine (callsIn_wide (n := 13)).1 (callsIn_of_wp_marks Tryd.func24 rfl trivial ?_ rfl)
      simp only [Tryd.ntmps24, List.size_toArray, List.length_cons, List.length_nil, Nat.reduceAdd, Nat.reduceSub, Array.replicate_succ, Array.replicate_zero, List.push_toArray, List.append_toArray, List.nil_append, List.cons_append]
      gi_wp2
      have z1 : (w.alloc (.cells #[.int .i64 k, .int .i64 n, .string m, .slice la ll lc, .slice sa sl sc] 25)).heap.size = w.heap.size + 1 := by simp
      have z2 : ((w.alloc (.cells #[.int .i64 k, .int .i64 n, .string m, .slice la ll lc, .slice sa sl sc] 25)).alloc (.cells #[.int .i64 nn] 3)).heap.size = w.heap.size + 1 + 1 := by simp
      have z3 : (((w.alloc (.cells #[.int .i64 k, .int .i64 n, .string m, .slice la ll lc, .slice sa sl sc] 25)).alloc (.cells #[.int .i64 nn] 3)).alloc (.cells #[.int .i64 kk] 3)).heap.size = w.heap.size + 1 + 1 + 1 := by simp
      have z4 : ((((w.alloc (.cells #[.int .i64 k, .int .i64 n, .string m, .slice la ll lc, .slice sa sl sc] 25)).alloc (.cells #[.int .i64 nn] 3)).alloc (.cells #[.int .i64 kk] 3)).alloc (.cells #[.bool false] 4)).heap.size = w.heap.size + 1 + 1 + 1 + 1 := by simp
      have r0 : (w.alloc (.cells #[.int .i64 k, .int .i64 n, .string m, .slice la ll lc, .slice sa sl sc] 25)).heap[w.heap.size]? = some (Obj.cells #[.int .i64 k, .int .i64 n, .string m, .slice la ll lc, .slice sa sl sc] 25 (0, 0)) := by
        have := heap_alloc_new w (.cells #[.int .i64 k, .int .i64 n, .string m, .slice la ll lc, .slice sa sl sc] 25)
        exact this
      have r1 : ((w.alloc (.cells #[.int .i64 k, .int .i64 n, .string m, .slice la ll lc, .slice sa sl sc] 25)).alloc (.cells #[.int .i64 nn] 3)).heap[w.heap.size + 1]? = some (Obj.cells #[.int .i64 nn] 3 (0, 0)) := by
        have := heap_alloc_new (w.alloc (.cells #[.int .i64 k, .int .i64 n, .string m, .slice la ll lc, .slice sa sl sc] 25)) (.cells #[.int .i64 nn] 3)
        rwa [z1] at this
      have r2 : (((w.alloc (.cells #[.int .i64 k, .int .i64 n, .string m, .slice la ll lc, .slice sa sl sc] 25)).alloc (.cells #[.int .i64 nn] 3)).alloc (.cells #[.int .i64 kk] 3)).heap[w.heap.size + 1 + 1]? = some (Obj.cells #[.int .i64 kk] 3 (0, 0)) := by
        have := heap_alloc_new ((w.alloc (.cells #[.int .i64 k, .int .i64 n, .string m, .slice la ll lc, .slice sa sl sc] 25)).alloc (.cells #[.int .i64 nn] 3)) (.cells #[.int .i64 kk] 3)
        rwa [z2] at this
      have r3 : ((((w.alloc (.cells #[.int .i64 k, .int .i64 n, .string m, .slice la ll lc, .slice sa sl sc] 25)).alloc (.cells #[.int .i64 nn] 3)).alloc (.cells #[.int .i64 kk] 3)).alloc (.cells #[.bool false] 4)).heap[w.heap.size + 1 + 1 + 1]? = some (Obj.cells #[.bool false] 4 (0, 0)) := by
        have := heap_alloc_new (((w.alloc (.cells #[.int .i64 k, .int .i64 n, .string m, .slice la ll lc, .slice sa sl sc] 25)).alloc (.cells #[.int .i64 nn] 3)).alloc (.cells #[.int .i64 kk] 3)) (.cells #[.bool false] 4)
        rwa [z3] at this
      have HB := Lib.hid ((((below_lit w (.cells #[.int .i64 k, .int .i64 n, .string m, .slice la ll lc, .slice sa sl sc] 25)).trans ((below_lit (w.alloc (.cells #[.int .i64 k, .int .i64 n, .string m, .slice la ll lc, .slice sa sl sc] 25)) (.cells #[.int .i64 nn] 3)).mono (below_lit w (.cells #[.int .i64 k, .int .i64 n, .string m, .slice la ll lc, .slice sa sl sc] 25)).size)).trans ((below_lit ((w.alloc (.cells #[.int .i64 k, .int .i64 n, .string m, .slice la ll lc, .slice sa sl sc] 25)).alloc (.cells #[.int .i64 nn] 3)) (.cells #[.int .i64 kk] 3)).mono ((below_lit w (.cells #[.int .i64 k, .int .i64 n, .string m, .slice la ll lc, .slice sa sl sc] 25)).trans ((below_lit (w.alloc (.cells #[.int .i64 k, .int .i64 n, .string m, .slice la ll lc, .slice sa sl sc] 25)) (.cells #[.int .i64 nn] 3)).mono (below_lit w (.cells #[.int .i64 k, .int .i64 n, .string m, .slice la ll lc, .slice sa sl sc] 25)).size)).size)).trans ((below_lit (((w.alloc (.cells #[.int .i64 k, .int .i64 n, .string m, .slice la ll lc, .slice sa sl sc] 25)).alloc (.cells #[.int .i64 nn] 3)).alloc (.cells #[.int .i64 kk] 3)) (.cells #[.bool false] 4)).mono (((below_lit w (.cells #[.int .i64 k, .int .i64 n, .string m, .slice la ll lc, .slice sa sl sc] 25)).trans ((below_lit (w.alloc (.cells #[.int .i64 k, .int .i64 n, .string m, .slice la ll lc, .slice sa sl sc] 25)) (.cells #[.int .i64 nn] 3)).mono (below_lit w (.cells #[.int .i64 k, .int .i64 n, .string m, .slice la ll lc, .slice sa sl sc] 25)).size)).trans ((below_lit ((w.alloc (.cells #[.int .i64 k, .int .i64 n, .string m, .slice la ll lc, .slice sa sl sc] 25)).alloc (.cells #[.int .i64 nn] 3)) (.cells #[.int .i64 kk] 3)).mono ((below_lit w (.cells #[.int .i64 k, .int .i64 n, .string m, .slice la ll lc, .slice sa sl sc] 25)).trans ((below_lit (w.alloc (.cells #[.int .i64 k, .int .i64 n, .string m, .slice la ll lc, .slice sa sl sc] 25)) (.cells #[.int .i64 nn] 3)).mono (below_lit w (.cells #[.int .i64 k, .int .i64 n, .string m, .slice la ll lc, .slice sa sl sc] 25)).size)).size)).size))
      have HR0 := Lib.hid ((heap_alloc_old (((w.alloc (.cells #[.int .i64 k, .int .i64 n, .string m, .slice la ll lc, .slice sa sl sc] 25)).alloc (.cells #[.int .i64 nn] 3)).alloc (.cells #[.int .i64 kk] 3)) (.cells #[.bool false] 4) (by rw [z3]; omega)).trans ((heap_alloc_old ((w.alloc (.cells #[.int .i64 k, .int .i64 n, .string m, .slice la ll lc, .slice sa sl sc] 25)).alloc (.cells #[.int .i64 nn] 3)) (.cells #[.int .i64 kk] 3) (by rw [z2]; omega)).trans ((heap_alloc_old (w.alloc (.cells #[.int .i64 k, .int .i64 n, .string m, .slice la ll lc, .slice sa sl sc] 25)) (.cells #[.int .i64 nn] 3) (by rw [z1]; omega)).trans (r0))))
      have HR1 := Lib.hid ((heap_alloc_old (((w.alloc (.cells #[.int .i64 k, .int .i64 n, .string m, .slice la ll lc, .slice sa sl sc] 25)).alloc (.cells #[.int .i64 nn] 3)).alloc (.cells #[.int .i64 kk] 3)) (.cells #[.bool false] 4) (by rw [z3]; omega)).trans ((heap_alloc_old ((w.alloc (.cells #[.int .i64 k, .int .i64 n, .string m, .slice la ll lc, .slice sa sl sc] 25)).alloc (.cells #[.int .i64 nn] 3)) (.cells #[.int .i64 kk] 3) (by rw [z2]; omega)).trans (r1)))
      have HR2 := Lib.hid ((heap_alloc_old (((w.alloc (.cells #[.int .i64 k, .int .i64 n, .string m, .slice la ll lc, .slice sa sl sc] 25)).alloc (.cells #[.int .i64 nn] 3)).alloc (.cells #[.int .i64 kk] 3)) (.cells #[.bool false] 4) (by rw [z3]; omega)).trans (r2))
      have HR3 := Lib.hid (r3)
      clear r0 r1 r2 r3
      generalize ((((w.alloc (.cells #[.int .i64 k, .int .i64 n, .string m, .slice la ll lc, .slice sa sl sc] 25)).alloc (.cells #[.int .i64 nn] 3)).alloc (.cells #[.int .i64 kk] 3)).alloc (.cells #[.bool false] 4)) = W4 at *
      have HZ := Lib.hid z4
      clear z1 z2 z3 z4
      have HTV := Lib.hid (show TmV W4 t _ from ⟨_, _, rfl, tmP_below HB.out HTT.out⟩)
      have hnc := tnodes_free t _ W4 HTV.out R HR.out
      dsimp only [tv] at hnc
      rw [HK.out, HNN.out, HMM.out] at hnc
      have HNC := Lib.hid hnc
      clear hnc hR
      have q3 := cell_of_row _ _ 0 _ 4 (0, 0) HR3.out
      have q3f := frozen0 (p := 0) HR3.out
      have q2 := cell_of_row _ _ 0 _ 3 (0, 0) HR2.out
      obtain ⟨a0, a1, a2, a3, a4⟩ := five_cells HR0.out
      gi_wp2_with (refine ⟨trivial, ?_⟩; gi_at_call 33; refine (callsIn_wide.2 HNC.out).mono ?_; rintro e w6 ⟨rfl, hb6⟩; have q2 := cell_of_row _ _ 0 _ 3 (0, 0) ((hb6.block (w.heap.size + 1 + 1) (by rw [HZ.out]; omega)).trans HR2.out); have q2f := frozen0 (p := 0) ((hb6.block (w.heap.size + 1 + 1) (by rw [HZ.out]; omega)).trans HR2.out); have q3 := cell_of_row _ _ 0 _ 4 (0, 0) ((hb6.block (w.heap.size + 1 + 1 + 1) (by rw [HZ.out]; omega)).trans HR3.out); have q3f := frozen0 (p := 0) ((hb6.block (w.heap.size + 1 + 1 + 1) (by rw [HZ.out]; omega)).trans HR3.out); obtain ⟨a0, a1, a2, a3, a4⟩ := five_cells ((hb6.block (w.heap.size) (by rw [HZ.out]; omega)).trans HR0.out); have HB6 := Lib.hid hb6; clear hb6)
      exact ⟨_, res_cell1 rfl _ _ (w.heap.size + 1 + 1 + 1) _ rfl (World.cell?_setCell_same' _ _ _ (by rw [q3]; rfl)) Tryd.underlying4 (.inr rfl), rfl, below_set (HB.out.trans (HB6.out.mono HB.out.size)) _ _ (by show w.heap.size ≤ w.heap.size + 1 + 1 + 1; omega)⟩
    · exact absurd HR.out (by have := HM.out; omega)
end Trm
end Go.Proofs.YtlijdgamobpndaaDoor
/-
  Plain facts that TermMakes comes down to: what is made of right parts is right, and has their nodes; the levels in what is right are small.
  Conditions: none.
-/
namespace Go.Proofs.YtlijdgamobpndaaDoor
open Go.RowKit
open Lvl
namespace Trm
mutual
theorem okC_of {RN : ByteArray → Bool} {n : Int} : ∀ (t : Tm) (k d : Int), okT RN (rightB n) t k = true → okC cAll t d
  | .mk kd m nm ls ts, k, d, h => by
    rw [okT, Bool.and_eq_true] at h
    rw [okC]
    have h1 := h.1
    unfold shape at h1
    rw [Bool.and_eq_true] at h1
    refine ⟨⟨trivial, fun l hl => ?_⟩, okCL_of kd ts.length ts 0 0 k d h.2⟩
    have := List.all_eq_true.1 h1.1 l hl
    unfold rightB at this
    simp only [Bool.and_eq_true, decide_eq_true_eq] at this
    omega
theorem okCL_of {RN : ByteArray → Bool} {n : Int} (kd : Int) (len : Nat) : ∀ (ts : List Tm) (i j : Nat) (k d : Int), okTL RN (rightB n) kd ts i k = true → okCL cAll kd len ts j d
  | [], _, _, _, _, _ => by rw [okCL]; trivial
  | a :: ts, i, j, k, d, h => by
    rw [okTL, Bool.and_eq_true] at h
    rw [okCL]
    exact ⟨okC_of a _ _ h.1, okCL_of kd len ts (i + 1) (j + 1) k d h.2⟩
end
theorem right_lvOk {RN : ByteArray → Bool} {nn kk : Int} {t : Tm} (h : rightT RN nn t kk = true) : lvOk t := okC_of t _ 0 (rightT_ok h).2.2
theorem nmOk_apps : ∀ (ts : List Tm) (f : Tm), nmOk f → nmOkL ts → nmOk (apps f ts)
  | [], f, hf, _ => by rw [apps]; exact hf
  | a :: ts, f, hf, h => by
    rw [nmOkL] at h
    rw [apps]
    refine nmOk_apps ts _ ?_ h.2
    rw [nmOk, nmOkL, nmOkL, nmOkL]
    exact ⟨by rw [show (⟨#[]⟩ : ByteArray).size = 0 from rfl]; omega, hf, h.1, trivial⟩
theorem nmOk_over (kd : Int) (f : Tm) : ∀ (ts : List Tm), nmOk f → nmOkL ts → nmOk (over kd f ts)
  | [], hf, _ => by rw [over]; exact hf
  | a :: ts, hf, h => by
    rw [nmOkL] at h
    rw [over, nmOk, nmOkL, nmOkL, nmOkL]
    exact ⟨by rw [show (⟨#[]⟩ : ByteArray).size = 0 from rfl]; omega, h.1, nmOk_over kd f ts hf h.2, trivial⟩
/-- What the law sums up of the parts. -/
def sumM : List Tm → Nat
  | [] => 0
  | a :: ts => (min (tnodes a) 2001 + 1) + sumM ts
theorem sumM_append : ∀ (l r : List Tm), sumM (l ++ r) = sumM l + sumM r
  | [], r => by rw [List.nil_append, sumM]; omega
  | a :: l, r => by rw [List.cons_append, sumM, sumM, sumM_append l r]; omega
theorem sumM_take {ts : List Tm} {j : Nat} (h : j < ts.length) : sumM (ts.take (j + 1)) = sumM (ts.take j) + (min (tnodes ts[j]) 2001 + 1) := by
  rw [List.take_add_one, List.getElem?_eq_getElem h, sumM_append]
  simp [sumM]
theorem sumM_bd : ∀ ts : List Tm, sumM ts ≤ 2002 * ts.length
  | [] => by rw [sumM]; omega
  | a :: ts => by
    rw [sumM, List.length_cons]
    have := sumM_bd ts
    omega
theorem sumM_is : ∀ ts : List Tm, sumM ts ≤ 2000 → sumM ts = tnodesL ts + ts.length
  | [], _ => by rw [sumM, tnodesL]; rfl
  | a :: ts, h => by
    rw [sumM] at h ⊢
    have := sumM_is ts (by omega)
    rw [tnodesL, List.length_cons]
    omega
def allR (RN : ByteArray → Bool) (kk : Int) (ts : List Tm) : Bool := ts.all fun a => rightT RN 4 a kk
theorem allR_take {RN : ByteArray → Bool} {kk : Int} {ts : List Tm} {j : Nat} (h : j < ts.length) : allR RN kk (ts.take (j + 1)) = (allR RN kk (ts.take j) && rightT RN 4 ts[j] kk) := by
  unfold allR
  rw [List.take_add_one, List.getElem?_eq_getElem h, List.all_append]
  simp
/-- All that TermMakes says, of right parts that are not too many. -/
structure Made (RN : ByteArray → Bool) (f : Tm) (ts : List Tm) (kk : Int) (M : Nat) : Prop where
  le : M ≤ 2000
  na : tnodes (apps f ts) = M
  nl : tnodes (over 5 f ts) = M
  np : tnodes (over 6 f ts) = M
  ra : rightT RN 4 (apps f ts) kk = true
  rl : rightT RN 4 (over 5 f ts) kk = true
  rp : rightT RN 4 (over 6 f ts) kk = true
  nf : tnodes f ≤ 2000
  lf : lvOk f
  each : ∀ a ∈ ts, tnodes a ≤ 100000 ∧ lvOk a
theorem made_of {RN : ByteArray → Bool} {f : Tm} {ts : List Tm} {kk : Int} {M : Nat} (hf : rightT RN 4 f kk = true) (hts : allR RN kk ts = true) (hM : min (tnodes f) 2001 + sumM ts = M) (hle : M ≤ 2000) (hk : kk ≤ 100) : Made RN f ts kk M := by
  have hs := sumM_is ts (by omega)
  have hall : ∀ a ∈ ts, rightT RN 4 a kk = true := fun a ha => List.all_eq_true.1 hts a ha
  obtain ⟨h0, h1, h2⟩ := rightT_ok hf
  have e : min kk 1125899906842624 = kk := by omega
  rw [e] at h2
  have hall2 : ∀ a ∈ ts, okT RN (rightB 4) a kk = true := fun a ha => by
    have := (rightT_ok (hall a ha)).2.2
    rwa [e] at this
  have n1 := apps_nodes ts f
  have n2 := over_nodes 5 f ts
  have n3 := over_nodes 6 f ts
  exact ⟨hle, by omega, by omega, by omega, rightT_of h0 (by omega) (by rw [e]; exact apps_ok RN (rightB 4) ts f h2 hall2), rightT_of h0 (by omega) (by rw [e]; exact over_ok RN (rightB 4) (.inl rfl) f ts kk h0 h2 hall2),
    rightT_of h0 (by omega) (by rw [e]; exact over_ok RN (rightB 4) (.inr rfl) f ts kk h0 h2 hall2), h1, right_lvOk hf, fun a ha => ⟨by have := (rightT_ok (hall a ha)).2.1; omega, right_lvOk (hall a ha)⟩⟩
end Trm
end Go.Proofs.YtlijdgamobpndaaDoor
