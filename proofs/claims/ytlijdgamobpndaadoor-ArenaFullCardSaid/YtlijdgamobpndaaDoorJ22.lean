import Derived.Test.YtlijdgamobpndaaDoorJ15
import Derived.Test.YtlijdgamobpndaaDoorJ21
/-
  The contracts of the program's functions Right and isRight: is a term right for so many parameters and variables.
  Conditions: the term lies in memory as told by 'TmV'; it has at most 100000 nodes; name.Right's contract.
-/
namespace Go.Proofs.YtlijdgamobpndaaDoor
open Go.RowKit Go.Shelf
open Lvl
namespace Trm
attribute [local go_sem] Oper.semAt_some

/-- Is this node right, where K variables are bound outside? -/
def fitB (RN : ByteArray → Bool) (RL : Lv → Bool) (K : Int) (q : Tm × Nat × Nat) : Bool := shape RN RL (tkOf q.1) (tnOf q.1) (tmOf q.1) (tlOf q.1) (taOf q.1).length (K + q.2.2)
theorem bndP_under {kd n : Int} {nm : ByteArray} {ls : List Lv} {RN : ByteArray → Bool} {RL : Lv → Bool} {m : Nat} {k : Int} (h : shape RN RL kd n nm ls m k = true) (i : Nat) (hi : i < m) (d : Int) : under kd i d = d + (bndP kd m i : Nat) := by
  unfold shape at h
  unfold under binds bndP
  by_cases h1 : kd = 1
  · subst h1; simp
  · rw [if_neg h1] at h
    by_cases h2 : kd = 2
    · subst h2; simp
    · rw [if_neg h2] at h
      by_cases h3 : kd = 3
      · subst h3; simp
      · rw [if_neg h3] at h
        by_cases h4 : kd = 4 ∨ kd = 5 ∨ kd = 6
        · rw [if_pos h4] at h
          simp at h
          obtain ⟨_, _, _, h5⟩ := h
          subst h5
          rcases h4 with rfl | rfl | rfl
          · simp
          · rcases (show i = 0 ∨ i = 1 by omega) with rfl | rfl <;> simp
          · rcases (show i = 0 ∨ i = 1 by omega) with rfl | rfl <;> simp
        · rw [if_neg h4] at h
          simp at h
          obtain ⟨_, _, _, h5, h6⟩ := h
          subst h5
          subst h6
          rcases (show i = 0 ∨ i = 1 ∨ i = 2 by omega) with rfl | rfl | rfl <;> simp
mutual
theorem fit_all (RN : ByteArray → Bool) (RL : Lv → Bool) (K : Int) : ∀ (t : Tm) (d b : Nat), (pre t d b).all (fitB RN RL K) = okT RN RL t (K + b)
  | .mk kd n nm ls ts, d, b => by
    rw [pre, List.all_cons, okT]
    show (shape RN RL kd n nm ls ts.length (K + b) && _) = _
    cases h : shape RN RL kd n nm ls ts.length (K + b) with
    | false => rfl
    | true => rw [Bool.true_and, Bool.true_and, fit_allL RN RL K kd n nm ls ts.length h ts 0 (d + 1) b (by omega)]
theorem fit_allL (RN : ByteArray → Bool) (RL : Lv → Bool) (K : Int) (kd n : Int) (nm : ByteArray) (ls : List Lv) (m : Nat) {k : Int} (h : shape RN RL kd n nm ls m k = true) : ∀ (ts : List Tm) (i d b : Nat), i + ts.length ≤ m → (preL kd m ts i d b).all (fitB RN RL K) = okTL RN RL kd ts i (K + b)
  | [], _, _, _, _ => by rw [preL, okTL]; rfl
  | a :: ts, i, d, b, hi => by
    rw [List.length_cons] at hi
    rw [preL, okTL, List.all_append, fit_all RN RL K a, fit_allL RN RL K kd n nm ls m h ts (i + 1) d b (by omega), bndP_under h i (by omega)]
    congr 2
    omega
end
/-- Is a term right for so many parameters and variables? -/
def rightT (RN : ByteArray → Bool) (nn : Int) (t : Tm) (kk : Int) : Bool := decide (0 ≤ kk) && decide (tnodes t ≤ 2000) && okT RN (rightB nn) t (min kk 1125899906842624)
/-- name.Right's contract, from a world on. -/
def NameC (w : World) (RN : ByteArray → Bool) : Prop := ∀ w', Below w.heap.size w w' → ∀ m : ByteArray, m.size ≤ 140737488355328 → Calls Tryd.prog 48 #[.string m] w' (Ret w' (.bool (RN m)))
theorem NameC.below {w w' : World} {RN : ByteArray → Bool} (h : NameC w RN) (hb : Below w.heap.size w w') : NameC w' RN := fun w2 h2 => h w2 (hb.trans (h2.mono hb.size))

set_option maxRecDepth 100000 in
set_option maxHeartbeats 4000000 in
theorem right_is (RN : ByteArray → Bool) (t : Tm) (v : Value) (w : World) (hv : TmV w t v) (hm : tnodes t ≤ 100000) (hnm : ∀ q, q ∈ pre t 0 0 → (tmOf q.1).size ≤ 140737488355328) (CN : NameC w RN) (nn kk : Int) (b : Bool) (hb : rightT RN nn t kk = b) :
    Calls Tryd.prog 24 #[v, .int .i64 nn, .int .i64 kk] w (Ret w (.bool b)) := by
  obtain ⟨l, s, rfl, ht⟩ := hv
  obtain ⟨⟨la, ll, lc, rfl⟩, sa, sl, sc, rfl⟩ := tmP_slices ht
  have HTT := Lib.hid ht
  obtain ⟨k, hk⟩ : ∃ k, tkOf t = k := ⟨_, rfl⟩
  obtain ⟨n, hn⟩ : ∃ n, tnOf t = n := ⟨_, rfl⟩
  obtain ⟨m, hmm⟩ : ∃ m, tmOf t = m := ⟨_, rfl⟩
  dsimp only [tv]
  rw [hk, hn, hmm]
  have HK := Lib.hid hk
  have HNN := Lib.hid hn
  have HMM := Lib.hid hmm
  have HM := Lib.hid hm
  clear hk hn hmm ht hm
  have HCN := Lib.hid CN
  have HNM := Lib.hid hnm
  have HV := Lib.hid hb
  clear CN hnm hb
  obtain ⟨R, hR⟩ : ∃ R, min (tnodes t) 2001 = R := ⟨_, rfl⟩
  have HR := Lib.hid hR
  by_cases hk0 : kk < 0
  · have hd0 : decide (kk < 0) = true := by simp; omega
    obtain rfl : b = false := by rw [← HV.out]; simp [rightT]; omega
    refine (callsIn_wide (n := 13)).1 (callsIn_of_wp_marks Tryd.func24 rfl trivial ?_ rfl)
    simp only [Tryd.ntmps24, List.size_toArray, List.length_cons, List.length_nil, Nat.reduceAdd, Nat.reduceSub, Array.replicate_succ, Array.replicate_zero, List.push_toArray, List.append_toArray, List.nil_append, List.cons_append]
    gi_wp2
    have z1 : (w.alloc (.cells #[.int .i64 k, .int .i64 n, .string m, .slice la ll lc, .slice sa sl sc] 25)).heap.size = w.heap.size + 1 := by simp
    have z2 : ((w.alloc (.cells #[.int .i64 k, .int .i64 n, .string m, .slice la ll lc, .slice sa sl sc] 25)).alloc (.cells #[.int .i64 nn] 3)).heap.size = w.heap.size + 1 + 1 := by simp
    have z3 : (((w.alloc (.cells #[.int .i64 k, .int .i64 n, .string m, .slice la ll lc, .slice sa sl sc] 25)).alloc (.cells #[.int .i64 nn] 3)).alloc (.cells #[.int .i64 kk] 3)).heap.size = w.heap.size + 1 + 1 + 1 := by simp
    have z4 : ((((w.alloc (.cells #[.int .i64 k, .int .i64 n, .string m, .slice la ll lc, .slice sa sl sc] 25)).alloc (.cells #[.int .i64 nn] 3)).alloc (.cells #[.int .i64 kk] 3)).alloc (.cells #[.bool false] 4)).heap.size = w.heap.size + 1 + 1 + 1 + 1 := by simp
    have r0 : (w.alloc (.cells #[.int .i64 k, .int .i64 n, .string m, .slice la ll lc, .slice sa sl sc] 25)).heap[w.heap.size]? = some (Obj.cells #[.int .i64 k, .int .i64 n, .string m, .slice la ll lc, .slice sa sl sc] 25 (0, 0)) := by
      have := heap_alloc_new w (.cells #[.int .i64 k, .int .i64 n, .string m, .slice la ll lc, .slice sa sl sc] 25)
      exact this
    have r1 : ((w.alloc (.cells #[.int .i64 k, .int .i64 n, .string m, .slice la ll lc, .slice sa sl sc] 25)).alloc (.cells #[.int .i64 nn] 3)).heap[w.heap.size + 1]? = some (Obj.cells #[.int .i64 nn] 3 (0, 0)) := by
      have := heap_alloc_new (w.alloc (.cells #[.int .i64 k, .int .i64 n, .string m, .slice la ll lc, .slice sa sl sc] 25)) (.cells #[.int .i64 nn] 3)
      rwa [z1] at this
    have r2 : (((w.alloc (.cells #[.int .i64 k, .int .i64 n, .string m, .slice la ll lc, .slice sa sl sc] 25)).alloc (.cells #[.int .i64 nn] 3)).alloc (.cells #[.int .i64 kk] 3)).heap[w.heap.size + 1 + 1]? = some (Obj.cells #[.int .i64 kk] 3 (0, 0)) := by
      have := heap_alloc_new ((w.alloc (.cells #[.int .i64 k, .int .i64 n, .string m, .slice la ll lc, .slice sa sl sc] 25)).alloc (.cells #[.int .i64 nn] 3)) (.cells #[.int .i64 kk] 3)
      rwa [z2] at this
    have r3 : ((((w.alloc (.cells #[.int .i64 k, .int .i64 n, .string m, .slice la ll lc, .slice sa sl sc] 25)).alloc (.cells #[.int .i64 nn] 3)).alloc (.cells #[.int .i64 kk] 3)).alloc (.cells #[.bool false] 4)).heap[w.heap.size + 1 + 1 + 1]? = some (Obj.cells #[.bool false] 4 (0, 0)) := by
      have := heap_alloc_new (((w.alloc (.cells #[.int .i64 k, .int .i64 n, .string m, .slice la ll lc, .slice sa sl sc] 25)).alloc (.cells #[.int .i64 nn] 3)).alloc (.cells #[.int .i64 kk] 3)) (.cells #[.bool false] 4)
      rwa [z3] at this
    have HB := Lib.hid ((((below_lit w (.cells #[.int .i64 k, .int .i64 n, .string m, .slice la ll lc, .slice sa sl sc] 25)).trans ((below_lit (w.alloc (.cells #[.int .i64 k, .int .i64 n, .string m, .slice la ll lc, .slice sa sl sc] 25)) (.cells #[.int .i64 nn] 3)).mono (below_lit w (.cells #[.int .i64 k, .int .i64 n, .string m, .slice la ll lc, .slice sa sl sc] 25)).size)).trans ((below_lit ((w.alloc (.cells #[.int .i64 k, .int .i64 n, .string m, .slice la ll lc, .slice sa sl sc] 25)).alloc (.cells #[.int .i64 nn] 3)) (.cells #[.int .i64 kk] 3)).mono ((below_lit w (.cells #[.int .i64 k, .int .i64 n, .string m, .slice la ll lc, .slice sa sl sc] 25)).trans ((below_lit (w.alloc (.cells #[.int .i64 k, .int .i64 n, .string m, .slice la ll lc, .slice sa sl sc] 25)) (.cells #[.int .i64 nn] 3)).mono (below_lit w (.cells #[.int .i64 k, .int .i64 n, .string m, .slice la ll lc, .slice sa sl sc] 25)).size)).size)).trans ((below_lit (((w.alloc (.cells #[.int .i64 k, .int .i64 n, .string m, .slice la ll lc, .slice sa sl sc] 25)).alloc (.cells #[.int .i64 nn] 3)).alloc (.cells #[.int .i64 kk] 3)) (.cells #[.bool false] 4)).mono (((below_lit w (.cells #[.int .i64 k, .int .i64 n, .string m, .slice la ll lc, .slice sa sl sc] 25)).trans ((below_lit (w.alloc (.cells #[.int .i64 k, .int .i64 n, .string m, .slice la ll lc, .slice sa sl sc] 25)) (.cells #[.int .i64 nn] 3)).mono (below_lit w (.cells #[.int .i64 k, .int .i64 n, .string m, .slice la ll lc, .slice sa sl sc] 25)).size)).trans ((below_lit ((w.alloc (.cells #[.int .i64 k, .int .i64 n, .string m, .slice la ll lc, .slice sa sl sc] 25)).alloc (.cells #[.int .i64 nn] 3)) (.cells #[.int .i64 kk] 3)).mono ((below_lit w (.cells #[.int .i64 k, .int .i64 n, .string m, .slice la ll lc, .slice sa sl sc] 25)).trans ((below_lit (w.alloc (.cells #[.int .i64 k, .int .i64 n, .string m, .slice la ll lc, .slice sa sl sc] 25)) (.cells #[.int .i64 nn] 3)).mono (below_lit w (.cells #[.int .i64 k, .int .i64 n, .string m, .slice la ll lc, .slice sa sl sc] 25)).size)).size)).size))
    have HR0 := Lib.hid ((heap_alloc_old (((w.alloc (.cells #[.int .i64 k, .int .i64 n, .string m, .slice la ll lc, .slice sa sl sc] 25)).alloc (.cells #[.int .i64 nn] 3)).alloc (.cells #[.int .i64 kk] 3)) (.cells #[.bool false] 4) (by rw [z3]; omega)).trans ((heap_alloc_old ((w.alloc (.cells #[.int .i64 k, .int .i64 n, .string m, .slice la ll lc, .slice sa sl sc] 25)).alloc (.cells #[.int .i64 nn] 3)) (.cells #[.int .i64 kk] 3) (by rw [z2]; omega)).trans ((heap_alloc_old (w.alloc (.cells #[.int .i64 k, .int .i64 n, .string m, .slice la ll lc, .slice sa sl sc] 25)) (.cells #[.int .i64 nn] 3) (by rw [z1]; omega)).trans (r0))))
    have HR1 := Lib.hid ((heap_alloc_old (((w.alloc (.cells #[.int .i64 k, .int .i64 n, .string m, .slice la ll lc, .slice sa sl sc] 25)).alloc (.cells #[.int .i64 nn] 3)).alloc (.cells #[.int .i64 kk] 3)) (.cells #[.bool false] 4) (by rw [z3]; omega)).trans ((heap_alloc_old ((w.alloc (.cells #[.int .i64 k, .int .i64 n, .string m, .slice la ll lc, .slice sa sl sc] 25)).alloc (.cells #[.int .i64 nn] 3)) (.cells #[.int .i64 kk] 3) (by rw [z2]; omega)).trans (r1)))
    have HR2 := Lib.hid ((heap_alloc_old (((w.alloc (.cells #[.int .i64 k, .int .i64 n, .string m, .slice la ll lc, .slice sa sl sc] 25)).alloc (.cells #[.int .i64 nn] 3)).alloc (.cells #[.int .i64 kk] 3)) (.cells #[.bool false] 4) (by rw [z3]; omega)).trans (r2))
    have HR3 := Lib.hid (r3)
    clear r0 r1 r2 r3
    generalize ((((w.alloc (.cells #[.int .i64 k, .int .i64 n, .string m, .slice la ll lc, .slice sa sl sc] 25)).alloc (.cells #[.int .i64 nn] 3)).alloc (.cells #[.int .i64 kk] 3)).alloc (.cells #[.bool false] 4)) = W4 at *
    have HZ := Lib.hid z4
    clear z1 z2 z3 z4
    have HTV := Lib.hid (show TmV W4 t _ from ⟨_, _, rfl, tmP_below HB.out HTT.out⟩)
    have hnc := tnodes_is t _ W4 HTV.out HM.out R HR.out
    dsimp only [tv] at hnc
    rw [HK.out, HNN.out, HMM.out] at hnc
    have HNC := Lib.hid hnc
    clear hnc hR
    have q3 := cell_of_row _ _ 0 _ 4 (0, 0) HR3.out
    have q3f := frozen0 (p := 0) HR3.out
    have q2 := cell_of_row _ _ 0 _ 3 (0, 0) HR2.out
    obtain ⟨a0, a1, a2, a3, a4⟩ := five_cells HR0.out
    refine ⟨trivial, ?_⟩
    gi_wp2
    exact ⟨_, res_cell1 rfl _ _ (w.heap.size + 1 + 1 + 1) _ rfl (World.cell?_setCell_same' _ _ _ (by rw [q3]; rfl)) Tryd.underlying4 (.inr rfl), rfl, below_set HB.out _ _ (by show w.heap.size ≤ w.heap.size + 1 + 1 + 1; omega)⟩
  · have hd0 : decide (kk < 0) = false := by simp; omega
    by_cases hR0 : 2000 < R
    · have hd1 : decide ((2000 : Int) < (R : Int)) = true := by simp; omega
      obtain rfl : b = false := by
        have := HR.out
        rw [← HV.out]; simp [rightT]; omega
      refine (callsIn_wide (n := 13)).1 (callsIn_of_wp_marks Tryd.func24 rfl trivial ?_ rfl)
      simp only [Tryd.ntmps24, List.size_toArray, List.length_cons, List.length_nil, Nat.reduceAdd, Nat.reduceSub, Array.replicate_succ, Array.replicate_zero, List.push_toArray, List.append_toArray, List.nil_append, List.cons_append]
      gi_wp2
      have z1 : (w.alloc (.cells #[.int .i64 k, .int .i64 n, .string m, .slice la ll lc, .slice sa sl sc] 25)).heap.size = w.heap.size + 1 := by simp
      have z2 : ((w.alloc (.cells #[.int .i64 k, .int .i64 n, .string m, .slice la ll lc, .slice sa sl sc] 25)).alloc (.cells #[.int .i64 nn] 3)).heap.size = w.heap.size + 1 + 1 := by simp
      have z3 : (((w.alloc (.cells #[.int .i64 k, .int .i64 n, .string m, .slice la ll lc, .slice sa sl sc] 25)).alloc (.cells #[.int .i64 nn] 3)).alloc (.cells #[.int .i64 kk] 3)).heap.size = w.heap.size + 1 + 1 + 1 := by simp
      have z4 : ((((w.alloc (.cells #[.int .i64 k, .int .i64 n, .string m, .slice la ll lc, .slice sa sl sc] 25)).alloc (.cells #[.int .i64 nn] 3)).alloc (.cells #[.int .i64 kk] 3)).alloc (.cells #[.bool false] 4)).heap.size = w.heap.size + 1 + 1 + 1 + 1 := by simp
      have r0 : (w.alloc (.cells #[.int .i64 k, .int .i64 n, .string m, .slice la ll lc, .slice sa sl sc] 25)).heap[w.heap.size]? = some (Obj.cells #[.int .i64 k, .int .i64 n, .string m, .slice la ll lc, .slice sa sl sc] 25 (0, 0)) := by
        have := heap_alloc_new w (.cells #[.int .i64 k, .int .i64 n, .string m, .slice la ll lc, .slice sa sl sc] 25)
        exact this
      have r1 : ((w.alloc (.cells #[.int .i64 k, .int .i64 n, .string m, .slice la ll lc, .slice sa sl sc] 25)).alloc (.cells #[.int .i64 nn] 3)).heap[w.heap.size + 1]? = some (Obj.cells #[.int .i64 nn] 3 (0, 0)) := by
        have := heap_alloc_new (w.alloc (.cells #[.int .i64 k, .int .i64 n, .string m, .slice la ll lc, .slice sa sl sc] 25)) (.cells #[.int .i64 nn] 3)
        rwa [z1] at this
      have r2 : (((w.alloc (.cells #[.int .i64 k, .int .i64 n, .string m, .slice la ll lc, .slice sa sl sc] 25)).alloc (.cells #[.int .i64 nn] 3)).alloc (.cells #[.int .i64 kk] 3)).heap[w.heap.size + 1 + 1]? = some (Obj.cells #[.int .i64 kk] 3 (0, 0)) := by
        have := heap_alloc_new ((w.alloc (.cells #[.int .i64 k, .int .i64 n, .string m, .slice la ll lc, .slice sa sl sc] 25)).alloc (.cells #[.int .i64 nn] 3)) (.cells #[.int .i64 kk] 3)
        rwa [z2] at this
      have r3 : ((((w.alloc (.cells #[.int .i64 k, .int .i64 n, .string m, .slice la ll lc, .slice sa sl sc] 25)).alloc (.cells #[.int .i64 nn] 3)).alloc (.cells #[.int .i64 kk] 3)).alloc (.cells #[.bool false] 4)).heap[w.heap.size + 1 + 1 + 1]? = some (Obj.cells #[.bool false] 4 (0, 0)) := by
        have := heap_alloc_new (((w.alloc (.cells #[.int .i64 k, .int .i64 n, .string m, .slice la ll lc, .slice sa sl sc] 25)).alloc (.cells #[.int .i64 nn] 3)).alloc (.cells #[.int .i64 kk] 3)) (.cells #[.bool false] 4)
        rwa [z3] at this
      have HB := Lib.hid ((((below_lit w (.cells #[.int .i64 k, .int .i64 n, .string m, .slice la ll lc, .slice sa sl sc] 25)).trans ((below_lit (w.alloc (.cells #[.int .i64 k, .int .i64 n, .string m, .slice la ll lc, .slice sa sl sc] 25)) (.cells #[.int .i64 nn] 3)).mono (below_lit w (.cells #[.int .i64 k, .int .i64 n, .string m, .slice la ll lc, .slice sa sl sc] 25)).size)).trans ((below_lit ((w.alloc (.cells #[.int .i64 k, .int .i64 n, .string m, .slice la ll lc, .slice sa sl sc] 25)).alloc (.cells #[.int .i64 nn] 3)) (.cells #[.int .i64 kk] 3)).mono ((below_lit w (.cells #[.int .i64 k, .int .i64 n, .string m, .slice la ll lc, .slice sa sl sc] 25)).trans ((below_lit (w.alloc (.cells #[.int .i64 k, .int .i64 n, .string m, .slice la ll lc, .slice sa sl sc] 25)) (.cells #[.int .i64 nn] 3)).mono (below_lit w (.cells #[.int .i64 k, .int .i64 n, .string m, .slice la ll lc, .slice sa sl sc] 25)).size)).size)).trans ((below_lit (((w.alloc (.cells #[.int .i64 k, .int .i64 n, .string m, .slice la ll lc, .slice sa sl sc] 25)).alloc (.cells #[.int .i64 nn] 3)).alloc (.cells #[.int .i64 kk] 3)) (.cells #[.bool false] 4)).mono (((below_lit w (.cells #[.int .i64 k, .int .i64 n, .string m, .slice la ll lc, .slice sa sl sc] 25)).trans ((below_lit (w.alloc (.cells #[.int .i64 k, .int .i64 n, .string m, .slice la ll lc, .slice sa sl sc] 25)) (.cells #[.int .i64 nn] 3)).mono (below_lit w (.cells #[.int .i64 k, .int .i64 n, .string m, .slice la ll lc, .slice sa sl sc] 25)).size)).trans ((below_lit ((w.alloc (.cells #[.int .i64 k, .int .i64 n, .string m, .slice la ll lc, .slice sa sl sc] 25)).alloc (.cells #[.int .i64 nn] 3)) (.cells #[.int .i64 kk] 3)).mono ((below_lit w (.cells #[.int .i64 k, .int .i64 n, .string m, .slice la ll lc, .slice sa sl sc] 25)).trans ((below_lit (w.alloc (.cells #[.int .i64 k, .int .i64 n, .string m, .slice la ll lc, .slice sa sl sc] 25)) (.cells #[.int .i64 nn] 3)).mono (below_lit w (.cells #[.int .i64 k, .int .i64 n, .string m, .slice la ll lc, .slice sa sl sc] 25)).size)).size)).size))
      have HR0 := Lib.hid ((heap_alloc_old (((w.alloc (.cells #[.int .i64 k, .int .i64 n, .string m, .slice la ll lc, .slice sa sl sc] 25)).alloc (.cells #[.int .i64 nn] 3)).alloc (.cells #[.int .i64 kk] 3)) (.cells #[.bool false] 4) (by rw [z3]; omega)).trans ((heap_alloc_old ((w.alloc (.cells #[.int .i64 k, .int .i64 n, .string m, .slice la ll lc, .slice sa sl sc] 25)).alloc (.cells #[.int .i64 nn] 3)) (.cells #[.int .i64 kk] 3) (by rw [z2]; omega)).trans ((heap_alloc_old (w.alloc (.cells #[.int .i64 k, .int .i64 n, .string m, .slice la ll lc, .slice sa sl sc] 25)) (.cells #[.int .i64 nn] 3) (by rw [z1]; omega)).trans (r0))))
      have HR1 := Lib.hid ((heap_alloc_old (((w.alloc (.cells #[.int .i64 k, .int .i64 n, .string m, .slice la ll lc, .slice sa sl sc] 25)).alloc (.cells #[.int .i64 nn] 3)).alloc (.cells #[.int .i64 kk] 3)) (.cells #[.bool false] 4) (by rw [z3]; omega)).trans ((heap_alloc_old ((w.alloc (.cells #[.int .i64 k, .int .i64 n, .string m, .slice la ll lc, .slice sa sl sc] 25)).alloc (.cells #[.int .i64 nn] 3)) (.cells #[.int .i64 kk] 3) (by rw [z2]; omega)).trans (r1)))
      have HR2 := Lib.hid ((heap_alloc_old (((w.alloc (.cells #[.int .i64 k, .int .i64 n, .string m, .slice la ll lc, .slice sa sl sc] 25)).alloc (.cells #[.int .i64 nn] 3)).alloc (.cells #[.int .i64 kk] 3)) (.cells #[.bool false] 4) (by rw [z3]; omega)).trans (r2))
      have HR3 := Lib.hid (r3)
      clear r0 r1 r2 r3
      generalize ((((w.alloc (.cells #[.int .i64 k, .int .i64 n, .string m, .slice la ll lc, .slice sa sl sc] 25)).alloc (.cells #[.int .i64 nn] 3)).alloc (.cells #[.int .i64 kk] 3)).alloc (.cells #[.bool false] 4)) = W4 at *
      have HZ := Lib.hid z4
      clear z1 z2 z3 z4
      have HTV := Lib.hid (show TmV W4 t _ from ⟨_, _, rfl, tmP_below HB.out HTT.out⟩)
      have hnc := tnodes_is t _ W4 HTV.out HM.out R HR.out
      dsimp only [tv] at hnc
      rw [HK.out, HNN.out, HMM.out] at hnc
      have HNC := Lib.hid hnc
      clear hnc hR
      have q3 := cell_of_row _ _ 0 _ 4 (0, 0) HR3.out
      have q3f := frozen0 (p := 0) HR3.out
      have q2 := cell_of_row _ _ 0 _ 3 (0, 0) HR2.out
      obtain ⟨a0, a1, a2, a3, a4⟩ := five_cells HR0.out
      gi_wp2_with (refine ⟨trivial, ?_⟩; gi_at_call 33; refine (callsIn_wide.2 HNC.out).mono ?_; rintro e w6 ⟨rfl, hb6⟩; have q2 := cell_of_row _ _ 0 _ 3 (0, 0) ((hb6.block (w.heap.size + 1 + 1) (by rw [HZ.out]; omega)).trans HR2.out); have q2f := frozen0 (p := 0) ((hb6.block (w.heap.size + 1 + 1) (by rw [HZ.out]; omega)).trans HR2.out); have q3 := cell_of_row _ _ 0 _ 4 (0, 0) ((hb6.block (w.heap.size + 1 + 1 + 1) (by rw [HZ.out]; omega)).trans HR3.out); have q3f := frozen0 (p := 0) ((hb6.block (w.heap.size + 1 + 1 + 1) (by rw [HZ.out]; omega)).trans HR3.out); obtain ⟨a0, a1, a2, a3, a4⟩ := five_cells ((hb6.block (w.heap.size) (by rw [HZ.out]; omega)).trans HR0.out); have HB6 := Lib.hid hb6; clear hb6)
      exact ⟨_, res_cell1 rfl _ _ (w.heap.size + 1 + 1 + 1) _ rfl (World.cell?_setCell_same' _ _ _ (by rw [q3]; rfl)) Tryd.underlying4 (.inr rfl), rfl, below_set (HB.out.trans (HB6.out.mono HB.out.size)) _ _ (by show w.heap.size ≤ w.heap.size + 1 + 1 + 1; omega)⟩
    · have hd1 : decide ((2000 : Int) < (R : Int)) = false := by simp; omega
      obtain ⟨K, hKK⟩ : ∃ K, min kk 1125899906842624 = K := ⟨_, rfl⟩
      have HVV : Hid (okT RN (rightB nn) t K = b) := by
        have : okT RN (rightB nn) t K = b := by
          have h1 := HR.out
          rw [← HV.out, rightT, hKK]
          simp
          omega
        exact this
      have hK0 : 0 ≤ K := by omega
      have hK1 : K ≤ 1125899906842624 := by omega
      refine (callsIn_wide (n := 13)).1 (callsIn_of_wp_marks Tryd.func24 rfl trivial ?_ rfl)
      simp only [Tryd.ntmps24, List.size_toArray, List.length_cons, List.length_nil, Nat.reduceAdd, Nat.reduceSub, Array.replicate_succ, Array.replicate_zero, List.push_toArray, List.append_toArray, List.nil_append, List.cons_append]
      gi_wp2
      have z1 : (w.alloc (.cells #[.int .i64 k, .int .i64 n, .string m, .slice la ll lc, .slice sa sl sc] 25)).heap.size = w.heap.size + 1 := by simp
      have z2 : ((w.alloc (.cells #[.int .i64 k, .int .i64 n, .string m, .slice la ll lc, .slice sa sl sc] 25)).alloc (.cells #[.int .i64 nn] 3)).heap.size = w.heap.size + 1 + 1 := by simp
      have z3 : (((w.alloc (.cells #[.int .i64 k, .int .i64 n, .string m, .slice la ll lc, .slice sa sl sc] 25)).alloc (.cells #[.int .i64 nn] 3)).alloc (.cells #[.int .i64 kk] 3)).heap.size = w.heap.size + 1 + 1 + 1 := by simp
      have z4 : ((((w.alloc (.cells #[.int .i64 k, .int .i64 n, .string m, .slice la ll lc, .slice sa sl sc] 25)).alloc (.cells #[.int .i64 nn] 3)).alloc (.cells #[.int .i64 kk] 3)).alloc (.cells #[.bool false] 4)).heap.size = w.heap.size + 1 + 1 + 1 + 1 := by simp
      have r0 : (w.alloc (.cells #[.int .i64 k, .int .i64 n, .string m, .slice la ll lc, .slice sa sl sc] 25)).heap[w.heap.size]? = some (Obj.cells #[.int .i64 k, .int .i64 n, .string m, .slice la ll lc, .slice sa sl sc] 25 (0, 0)) := by
        have := heap_alloc_new w (.cells #[.int .i64 k, .int .i64 n, .string m, .slice la ll lc, .slice sa sl sc] 25)
        exact this
      have r1 : ((w.alloc (.cells #[.int .i64 k, .int .i64 n, .string m, .slice la ll lc, .slice sa sl sc] 25)).alloc (.cells #[.int .i64 nn] 3)).heap[w.heap.size + 1]? = some (Obj.cells #[.int .i64 nn] 3 (0, 0)) := by
        have := heap_alloc_new (w.alloc (.cells #[.int .i64 k, .int .i64 n, .string m, .slice la ll lc, .slice sa sl sc] 25)) (.cells #[.int .i64 nn] 3)
        rwa [z1] at this
      have r2 : (((w.alloc (.cells #[.int .i64 k, .int .i64 n, .string m, .slice la ll lc, .slice sa sl sc] 25)).alloc (.cells #[.int .i64 nn] 3)).alloc (.cells #[.int .i64 kk] 3)).heap[w.heap.size + 1 + 1]? = some (Obj.cells #[.int .i64 kk] 3 (0, 0)) := by
        have := heap_alloc_new ((w.alloc (.cells #[.int .i64 k, .int .i64 n, .string m, .slice la ll lc, .slice sa sl sc] 25)).alloc (.cells #[.int .i64 nn] 3)) (.cells #[.int .i64 kk] 3)
        rwa [z2] at this
      have r3 : ((((w.alloc (.cells #[.int .i64 k, .int .i64 n, .string m, .slice la ll lc, .slice sa sl sc] 25)).alloc (.cells #[.int .i64 nn] 3)).alloc (.cells #[.int .i64 kk] 3)).alloc (.cells #[.bool false] 4)).heap[w.heap.size + 1 + 1 + 1]? = some (Obj.cells #[.bool false] 4 (0, 0)) := by
        have := heap_alloc_new (((w.alloc (.cells #[.int .i64 k, .int .i64 n, .string m, .slice la ll lc, .slice sa sl sc] 25)).alloc (.cells #[.int .i64 nn] 3)).alloc (.cells #[.int .i64 kk] 3)) (.cells #[.bool false] 4)
        rwa [z3] at this
      have HB := Lib.hid ((((below_lit w (.cells #[.int .i64 k, .int .i64 n, .string m, .slice la ll lc, .slice sa sl sc] 25)).trans ((below_lit (w.alloc (.cells #[.int .i64 k, .int .i64 n, .string m, .slice la ll lc, .slice sa sl sc] 25)) (.cells #[.int .i64 nn] 3)).mono (below_lit w (.cells #[.int .i64 k, .int .i64 n, .string m, .slice la ll lc, .slice sa sl sc] 25)).size)).trans ((below_lit ((w.alloc (.cells #[.int .i64 k, .int .i64 n, .string m, .slice la ll lc, .slice sa sl sc] 25)).alloc (.cells #[.int .i64 nn] 3)) (.cells #[.int .i64 kk] 3)).mono ((below_lit w (.cells #[.int .i64 k, .int .i64 n, .string m, .slice la ll lc, .slice sa sl sc] 25)).trans ((below_lit (w.alloc (.cells #[.int .i64 k, .int .i64 n, .string m, .slice la ll lc, .slice sa sl sc] 25)) (.cells #[.int .i64 nn] 3)).mono (below_lit w (.cells #[.int .i64 k, .int .i64 n, .string m, .slice la ll lc, .slice sa sl sc] 25)).size)).size)).trans ((below_lit (((w.alloc (.cells #[.int .i64 k, .int .i64 n, .string m, .slice la ll lc, .slice sa sl sc] 25)).alloc (.cells #[.int .i64 nn] 3)).alloc (.cells #[.int .i64 kk] 3)) (.cells #[.bool false] 4)).mono (((below_lit w (.cells #[.int .i64 k, .int .i64 n, .string m, .slice la ll lc, .slice sa sl sc] 25)).trans ((below_lit (w.alloc (.cells #[.int .i64 k, .int .i64 n, .string m, .slice la ll lc, .slice sa sl sc] 25)) (.cells #[.int .i64 nn] 3)).mono (below_lit w (.cells #[.int .i64 k, .int .i64 n, .string m, .slice la ll lc, .slice sa sl sc] 25)).size)).trans ((below_lit ((w.alloc (.cells #[.int .i64 k, .int .i64 n, .string m, .slice la ll lc, .slice sa sl sc] 25)).alloc (.cells #[.int .i64 nn] 3)) (.cells #[.int .i64 kk] 3)).mono ((below_lit w (.cells #[.int .i64 k, .int .i64 n, .string m, .slice la ll lc, .slice sa sl sc] 25)).trans ((below_lit (w.alloc (.cells #[.int .i64 k, .int .i64 n, .string m, .slice la ll lc, .slice sa sl sc] 25)) (.cells #[.int .i64 nn] 3)).mono (below_lit w (.cells #[.int .i64 k, .int .i64 n, .string m, .slice la ll lc, .slice sa sl sc] 25)).size)).size)).size))
      have HR0 := Lib.hid ((heap_alloc_old (((w.alloc (.cells #[.int .i64 k, .int .i64 n, .string m, .slice la ll lc, .slice sa sl sc] 25)).alloc (.cells #[.int .i64 nn] 3)).alloc (.cells #[.int .i64 kk] 3)) (.cells #[.bool false] 4) (by rw [z3]; omega)).trans ((heap_alloc_old ((w.alloc (.cells #[.int .i64 k, .int .i64 n, .string m, .slice la ll lc, .slice sa sl sc] 25)).alloc (.cells #[.int .i64 nn] 3)) (.cells #[.int .i64 kk] 3) (by rw [z2]; omega)).trans ((heap_alloc_old (w.alloc (.cells #[.int .i64 k, .int .i64 n, .string m, .slice la ll lc, .slice sa sl sc] 25)) (.cells #[.int .i64 nn] 3) (by rw [z1]; omega)).trans (r0))))
      have HR1 := Lib.hid ((heap_alloc_old (((w.alloc (.cells #[.int .i64 k, .int .i64 n, .string m, .slice la ll lc, .slice sa sl sc] 25)).alloc (.cells #[.int .i64 nn] 3)).alloc (.cells #[.int .i64 kk] 3)) (.cells #[.bool false] 4) (by rw [z3]; omega)).trans ((heap_alloc_old ((w.alloc (.cells #[.int .i64 k, .int .i64 n, .string m, .slice la ll lc, .slice sa sl sc] 25)).alloc (.cells #[.int .i64 nn] 3)) (.cells #[.int .i64 kk] 3) (by rw [z2]; omega)).trans (r1)))
      have HR2 := Lib.hid ((heap_alloc_old (((w.alloc (.cells #[.int .i64 k, .int .i64 n, .string m, .slice la ll lc, .slice sa sl sc] 25)).alloc (.cells #[.int .i64 nn] 3)).alloc (.cells #[.int .i64 kk] 3)) (.cells #[.bool false] 4) (by rw [z3]; omega)).trans (r2))
      have HR3 := Lib.hid (r3)
      clear r0 r1 r2 r3
      generalize ((((w.alloc (.cells #[.int .i64 k, .int .i64 n, .string m, .slice la ll lc, .slice sa sl sc] 25)).alloc (.cells #[.int .i64 nn] 3)).alloc (.cells #[.int .i64 kk] 3)).alloc (.cells #[.bool false] 4)) = W4 at *
      have HZ := Lib.hid z4
      clear z1 z2 z3 z4
      have HTV := Lib.hid (show TmV W4 t _ from ⟨_, _, rfl, tmP_below HB.out HTT.out⟩)
      have hnc := tnodes_is t _ W4 HTV.out HM.out R HR.out
      dsimp only [tv] at hnc
      rw [HK.out, HNN.out, HMM.out] at hnc
      have HNC := Lib.hid hnc
      clear hnc hR
      have q3 := cell_of_row _ _ 0 _ 4 (0, 0) HR3.out
      have q3f := frozen0 (p := 0) HR3.out
      have q2 := cell_of_row _ _ 0 _ 3 (0, 0) HR2.out
      obtain ⟨a0, a1, a2, a3, a4⟩ := five_cells HR0.out
      by_cases hk5 : kk ≤ 1125899906842624
      · obtain rfl : K = kk := by omega
        gi_wp2_with (first | (refine ⟨trivial, ?_⟩; gi_at_call 33; refine (callsIn_wide.2 HNC.out).mono ?_; rintro e w6 ⟨rfl, hb6⟩; have q2 := cell_of_row _ _ 0 _ 3 (0, 0) ((hb6.block (w.heap.size + 1 + 1) (by rw [HZ.out]; omega)).trans HR2.out); have q2f := frozen0 (p := 0) ((hb6.block (w.heap.size + 1 + 1) (by rw [HZ.out]; omega)).trans HR2.out); have q3 := cell_of_row _ _ 0 _ 4 (0, 0) ((hb6.block (w.heap.size + 1 + 1 + 1) (by rw [HZ.out]; omega)).trans HR3.out); have q3f := frozen0 (p := 0) ((hb6.block (w.heap.size + 1 + 1 + 1) (by rw [HZ.out]; omega)).trans HR3.out); obtain ⟨a0, a1, a2, a3, a4⟩ := five_cells ((hb6.block (w.heap.size) (by rw [HZ.out]; omega)).trans HR0.out); have HB6 := Lib.hid hb6; clear hb6) | (refine ⟨trivial, ?_⟩; gi_at_call 34; refine (callsIn_wide.2 (nodes_in k n m la ll lc sa sl sc _)).mono ?_; rintro e w' ⟨rfl, rfl⟩))
        have hs6 : w.heap.size + 1 + 1 + 1 + 1 ≤ w6.heap.size := by rw [← HZ.out]; exact HB6.out.size
        have hgB := Lib.hid (HB.out.trans (HB6.out.mono HB.out.size))
        have x1 : Boxed w6 (w.heap.size + 1) 3 (.int .i64 nn) := (HB6.out.block _ (by rw [HZ.out]; omega)).trans HR1.out
        have x2 : Boxed w6 (w.heap.size + 1 + 1) 3 (.int .i64 K) := (HB6.out.block _ (by rw [HZ.out]; omega)).trans HR2.out
        have x3 : Boxed w6 (w.heap.size + 1 + 1 + 1) 4 (.bool false) := (HB6.out.block _ (by rw [HZ.out]; omega)).trans HR3.out
        have y1 := x1.other (B' := w.heap.size + 1 + 1) (by omega) (.int .i64 K)
        have y2 := x2.set (.int .i64 K)
        have y3 := x3.other (B' := w.heap.size + 1 + 1) (by omega) (.int .i64 K)
        have ys := setCell_size w6 ⟨w.heap.size + 1 + 1, 0, none⟩ (.int .i64 K)
        have yb := below_set hgB.out ⟨w.heap.size + 1 + 1, 0, none⟩ (.int .i64 K) (by show w.heap.size ≤ w.heap.size + 1 + 1; omega)
        clear x1 x2 x3 q2 q2f q3 q3f a0 a1 a2 a3 a4
        generalize w6.setCell ⟨w.heap.size + 1 + 1, 0, none⟩ (.int .i64 K) = W7 at *
        have b1 := y1.alloc (.cells #[.int .i64 k, .int .i64 n, .string m, .slice la ll lc, .slice sa sl sc] 25)
        have b2 := y2.alloc (.cells #[.int .i64 k, .int .i64 n, .string m, .slice la ll lc, .slice sa sl sc] 25)
        have b3 := y3.alloc (.cells #[.int .i64 k, .int .i64 n, .string m, .slice la ll lc, .slice sa sl sc] 25)
        have r4 := heap_alloc_new W7 (.cells #[.int .i64 k, .int .i64 n, .string m, .slice la ll lc, .slice sa sl sc] 25)
        have hs8 : (W7.alloc (.cells #[.int .i64 k, .int .i64 n, .string m, .slice la ll lc, .slice sa sl sc] 25)).heap.size = w6.heap.size + 1 := by simp [ys]
        have hb8 := Lib.hid (yb.trans ((below_lit W7 (.cells #[.int .i64 k, .int .i64 n, .string m, .slice la ll lc, .slice sa sl sc] 25)).mono yb.size))
        rw [ys] at r4
        clear y1 y2 y3 yb
        generalize W7.alloc (.cells #[.int .i64 k, .int .i64 n, .string m, .slice la ll lc, .slice sa sl sc] 25) = W8 at *
        have hGG : ∀ q, q ∈ pre t 0 0 → (fun q : Tm × Nat × Nat => tnodes q.1 ≤ 100000 ∧ q.2.2 ≤ 100000 ∧ (tmOf q.1).size ≤ 140737488355328) q := fun q hq => by
          have h1 := pre_deep t 0 0 q hq
          have h2 := HM.out
          have h3 := HNM.out q hq
          dsimp only
          omega
        refine wpIn_rangeFunc_ownH rfl (by decide) (gf := 43) (lb := #[.pointer (some ⟨w6.heap.size, 0, none⟩)]) rfl trivial (enters_of Tryd.func43 (by kernel_rfl) rfl) (encs := fun x : It w (fun q : Tm × Nat × Nat => tnodes q.1 ≤ 100000 ∧ q.2.2 ≤ 100000 ∧ (tmOf q.1).size ≤ 140737488355328) => #[.agg #[.int .i64 (tkOf x.t), .int .i64 (tnOf x.t), .string (tmOf x.t), .slice x.la x.ll x.lc, .slice x.sa x.sl x.sc], .agg #[.int .i64 x.d, .int .i64 x.b]])
          (nodes_stops w (fun q : Tm × Nat × Nat => tnodes q.1 ≤ 100000 ∧ q.2.2 ≤ 100000 ∧ (tmOf q.1).size ≤ 140737488355328) W8.heap.size w6.heap.size t la ll lc sa sl sc W8 (by rw [HK.out, HNN.out, HMM.out]; exact r4) HTT.out (by omega) (Nat.le_refl _) hb8.out (by have := HM.out; omega) hGG) (fun h k => h.trans k) (KpW.put (by omega) rfl) (Below.refl _ _) (fun _ => rfl)
          (fun xs W => ((Boxed W (w.heap.size + 1) 3 (.int .i64 nn) ∧ Boxed W (w.heap.size + 1 + 1) 3 (.int .i64 K)) ∧ Boxed W (w.heap.size + 1 + 1 + 1) 4 (.bool false)) ∧ ((xs.map It.tag).all (fun q : Tm × Nat × Nat => fitB RN (rightB nn) K q) = true ∧ Below w.heap.size W8 W))
          (fun c xs W => (c = .ret ∧ (xs.map It.tag).all (fun q : Tm × Nat × Nat => fitB RN (rightB nn) K q) = false) ∧ (Boxed W (w.heap.size + 1 + 1 + 1) 4 (.bool false) ∧ Below w.heap.size W8 W))
          (OwnFrom.and (OwnFrom.and (OwnFrom.and (Own.from (boxed_own _ _ _) _) (Own.from (boxed_own _ _ _) _)) (Own.from (boxed_own _ _ _) _)) (OwnFrom.and (ownFrom_pure _ _) (ownFrom_below (by omega) (by omega))))
          (fun c => OwnFrom.and (ownFrom_pure _ _) (OwnFrom.and (Own.from (boxed_own _ _ _) _) (ownFrom_below (by omega) (by omega))))
          ⟨⟨⟨b1, b2⟩, b3⟩, rfl, Below.refl _ _⟩
          (fun x a' W => (∃ Bn Ba, a' = { tmps := #[.agg #[.int .i64 k, .int .i64 n, .string m, .slice la ll lc, .slice sa sl sc], .int .i64 nn, .int .i64 K, .pointer (some ⟨w.heap.size, 0, none⟩), .pointer (some ⟨w.heap.size + 1, 0, none⟩), .pointer (some ⟨w.heap.size + 1 + 1, 0, none⟩), .pointer (some ⟨w.heap.size + 1 + 1 + 1, 0, none⟩), .pointer (some ⟨Bn, 0, none⟩), .pointer (some ⟨Ba, 0, none⟩), .int .i64 K, .bool false, .bool false, .agg #[.int .i64 k, .int .i64 n, .string m, .slice la ll lc, .slice sa sl sc], .int .i64 R, .bool false, .bool false, .int .i64 K, .int .i64 K, .agg #[.int .i64 k, .int .i64 n, .string m, .slice la ll lc, .slice sa sl sc], .func (.func 43) #[] #[.pointer (some ⟨w6.heap.size, 0, none⟩)], .agg #[.int .i64 (tkOf x.t), .int .i64 (tnOf x.t), .string (tmOf x.t), .slice x.la x.ll x.lc, .slice x.sa x.sl x.sc], .agg #[.int .i64 x.d, .int .i64 x.b], undef, undef, undef, undef, undef, undef, undef, undef], defers := [] } ∧ (w.heap.size + 1 + 1 + 1 + 1 ≤ Bn ∧ w.heap.size + 1 + 1 + 1 + 1 ≤ Ba) ∧ W.heap[Bn]? = some (.cells #[.int .i64 (tkOf x.t), .int .i64 (tnOf x.t), .string (tmOf x.t), .slice x.la x.ll x.lc, .slice x.sa x.sl x.sc] 25 (0, 0)) ∧ W.heap[Ba]? = some (.cells #[.int .i64 x.d, .int .i64 x.b] 69 (0, 0))))
          (fun x a' _ X Y row hs hg hr => by
            obtain ⟨Bn, Ba, h1, h2, h3, h4⟩ := hs
            exact ⟨Bn, Ba, h1, h2, (grownBy_keeps_cells hg (fun r e => (hr r e).2) h3 rfl).trans h3, (grownBy_keeps_cells hg (fun r e => (hr r e).2) h4 rfl).trans h4⟩)
          ?assign ?body ?done ?stop
        case assign =>
          rintro l xs x W K9 ⟨⟨⟨b1, b2⟩, b3⟩, hc, hB1⟩ hK
          have hsz := hB1.size
          gi_wp2
          have hb := below_lit W (.cells #[.int .i64 (tkOf x.t), .int .i64 (tnOf x.t), .string (tmOf x.t), .slice x.la x.ll x.lc, .slice x.sa x.sl x.sc] 25)
          have hb2 := hb.trans ((below_lit (W.alloc (.cells #[.int .i64 (tkOf x.t), .int .i64 (tnOf x.t), .string (tmOf x.t), .slice x.la x.ll x.lc, .slice x.sa x.sl x.sc] 25)) (.cells #[.int .i64 x.d, .int .i64 x.b] 69)).mono hb.size)
          refine hK _ _ (((KeepsOthers.alloc _ _).trans (KeepsOthers.alloc _ _)).from _) (KpW.of_below (by omega) hb2) ⟨⟨⟨(b1.alloc _).alloc _, (b2.alloc _).alloc _⟩, (b3.alloc _).alloc _⟩, hc, hB1.trans (hb2.mono (by omega))⟩ ⟨_, _, rfl, ⟨by omega, by omega⟩, ?_, ?_⟩
          · exact (heap_alloc_old _ _ (by simp)).trans (heap_alloc_new W _)
          · have := heap_alloc_new (W.alloc (.cells #[.int .i64 (tkOf x.t), .int .i64 (tnOf x.t), .string (tmOf x.t), .slice x.la x.ll x.lc, .slice x.sa x.sl x.sc] 25)) (.cells #[.int .i64 x.d, .int .i64 x.b] 69)
            rwa [World.size_alloc] at this
        case body =>
          rintro l xs x a' W hl _ ⟨⟨⟨b1, b2⟩, b3⟩, hc, hB1⟩ ⟨Bn, Ba, rfl, ⟨hn1, ha1⟩, hrn, hra⟩ _
          have HLv : Hid (LvS w (.mk 0 0 (tlOf x.t)) (.slice x.la x.ll x.lc)) := by
            have : LvS w (.mk 0 0 (tlOf x.t)) (.slice x.la x.ll x.lc) := by
              have := x.ok
              generalize x.t = q at this
              cases q with
              | mk k n m ls ts => rw [TmP] at this; exact lvS_of _ _ this.1
            exact this
          have HLN : Hid (nodesL (tlOf x.t) ≤ 100000) := by
            have : nodesL (tlOf x.t) ≤ 100000 := by
              have := x.g.1
              dsimp only at this
              generalize x.t = q at this ⊢
              cases q with
              | mk k n m ls ts => rw [tnodes] at this; show nodesL ls ≤ _; omega
            exact this
          have HSL : Hid ((taOf x.t).length = x.sl) := by
            have : (taOf x.t).length = x.sl := by
              have := x.ok
              generalize x.t = q at this
              cases q with
              | mk k n m ls ts =>
                rw [TmP] at this
                obtain ⟨_, A, len, cap, e, h, _⟩ := this
                cases e
                exact h
            exact this
          have HBW := Lib.hid (hb8.out.trans hB1)
          obtain ⟨fr, hfr⟩ : ∃ fr, fitB RN (rightB nn) K x.tag = fr := ⟨_, rfl⟩
          have HF9 : Hid (((xs ++ [x]).map It.tag).all (fun q : Tm × Nat × Nat => fitB RN (rightB nn) K q) = fr) := by
            have : ((xs ++ [x]).map It.tag).all (fun q : Tm × Nat × Nat => fitB RN (rightB nn) K q) = fr := by rw [List.map_append, List.all_append, hc, List.map_cons, List.map_nil, List.all_cons, hfr]; cases fr <;> rfl
            exact this
          have hcall := fits_is (tkOf x.t) (tnOf x.t) (tmOf x.t) (tlOf x.t) x.la x.ll x.lc x.sa x.sl x.sc nn (K + (x.b : Int)) W (RN (tmOf x.t)) (lvS_below HBW.out _ _ HLv.out) HLN.out (fun w' h' => HCN.out w' (HBW.out.trans (h'.mono HBW.out.size)) _ x.g.2.2) fr (by rw [← HSL.out]; exact hfr)
          have HCALL := Lib.hid (CallsIn.inRound l ((callsIn_wide (n := 10)).2 hcall))
          have hxb : (x.b : Int) ≤ 100000 := by have := x.g.2.1; dsimp only at this; omega
          have c1 := b1.cell
          have c2 := b2.cell
          have hn5 := five_cells hrn
          obtain ⟨n0, n1, n2, n3, n4⟩ := hn5
          have p1 := cell_of_row W _ 1 _ 69 (0, 0) hra
          have HE1 := Lib.hid b1
          have HE2 := Lib.hid b2
          have HE3 := Lib.hid b3
          clear hcall hfr b1 b2 b3
          cases fr
          · gi_wp2_with (refine ⟨trivial, ?_⟩; gi_at_call 35; refine HCALL.out.mono ?_; rintro e w7 ⟨rfl, hb7⟩; have HB7 := Lib.hid hb7; clear hb7; have e3 : Boxed w7 (w.heap.size + 1 + 1 + 1) 4 (.bool false) := (HB7.out.block _ HE3.out.lt).trans HE3.out; have e3c := e3.cell; have e3f := e3.frozen; have H3 := Lib.hid e3; clear e3)
            exact ⟨((keepsOthers_below HB7.out).trans (KeepsOthers.setCell _ _ _)).from _, ⟨rfl, HF9.out⟩, H3.out.set _, hB1.trans (below_set (HB7.out.mono (by have := hB1.size; omega)) _ _ (by show w.heap.size ≤ w.heap.size + 1 + 1 + 1; omega))⟩
          · gi_wp2_with (refine ⟨trivial, ?_⟩; gi_at_call 35; refine HCALL.out.mono ?_; rintro e w7 ⟨rfl, hb7⟩; have HB7 := Lib.hid hb7; clear hb7)
            have f1 : Boxed w7 (w.heap.size + 1) 3 (.int .i64 nn) := (HB7.out.block _ HE1.out.lt).trans HE1.out
            have f2 : Boxed w7 (w.heap.size + 1 + 1) 3 (.int .i64 K) := (HB7.out.block _ HE2.out.lt).trans HE2.out
            have f3 : Boxed w7 (w.heap.size + 1 + 1 + 1) 4 (.bool false) := (HB7.out.block _ HE3.out.lt).trans HE3.out
            have hnw : w.heap.size ≤ W.heap.size := by have := hB1.size; omega
            exact ⟨(keepsOthers_below HB7.out).from _, KpW.of_below hnw HB7.out, ⟨⟨f1, f2⟩, f3⟩, HF9.out, hB1.trans (HB7.out.mono hnw)⟩
        case done =>
          rintro D xs W hD hxs ⟨⟨⟨b1, b2⟩, b3⟩, hc, hB1⟩ hK
          rw [hxs, fit_all, Int.natCast_zero, Int.add_zero] at hc
          obtain rfl : b = true := HVV.out.symm.trans hc
          have c3 := b3.cell
          have f3 := b3.frozen
          have hlt := b3.lt
          have hDb : D ≠ w.heap.size + 1 + 1 + 1 := by omega
          gi_wp2
          refine ⟨by simp, .inl ⟨_, _, rfl, run_takeDeferred ((setCell_far _ _ _ _ (by show D ≠ w.heap.size + 1 + 1 + 1; exact hDb)).trans hK), ?_⟩⟩
          refine ⟨_, res_cell1 rfl _ _ (w.heap.size + 1 + 1 + 1) _ rfl ?_ Tryd.underlying4 (.inr rfl), rfl, ?_⟩
          · refine cell_heap (World.putObj_heap_other (fun e => hDb e.symm)) |>.trans ?_
            exact (b3.set _).cell
          · refine (hb8.out.trans hB1).trans ?_
            exact (below_set (Below.refl _ _) _ _ (by show w.heap.size ≤ w.heap.size + 1 + 1 + 1; omega)).trans ((Below.refl _ _).grown (grownBy_putObj' _ D _) (by rw [setCell_size]; omega) (fun k e => by cases e; omega))
        case stop =>
          rintro D c xs W hD hxs ⟨⟨rfl, hc⟩, b3, hB1⟩ hK
          have hDb : D ≠ w.heap.size + 1 + 1 + 1 := by omega
          have hlt := b3.lt
          have hbf : b = false := by
            obtain ⟨r, hr⟩ := hxs
            have q := fit_all RN (rightB nn) K t 0 0
            rw [← hr, List.all_append, hc, Bool.false_and, Int.natCast_zero, Int.add_zero] at q
            exact HVV.out.symm.trans q.symm
          subst hbf
          gi_wp2
          refine ⟨by simp, .inl ⟨_, _, rfl, run_takeDeferred hK, ?_⟩⟩
          refine ⟨_, res_cell1 rfl _ _ (w.heap.size + 1 + 1 + 1) _ rfl ?_ Tryd.underlying4 (.inr rfl), rfl, ?_⟩
          · refine cell_heap (World.putObj_heap_other (fun e => hDb e.symm)) |>.trans ?_
            exact b3.cell
          · exact (hb8.out.trans hB1).trans ((Below.refl _ _).grown (grownBy_putObj' _ D _) (by omega) (fun k e => by cases e; omega))
      · obtain rfl : K = 1125899906842624 := by omega
        gi_wp2_with (first | (refine ⟨trivial, ?_⟩; gi_at_call 33; refine (callsIn_wide.2 HNC.out).mono ?_; rintro e w6 ⟨rfl, hb6⟩; have q2 := cell_of_row _ _ 0 _ 3 (0, 0) ((hb6.block (w.heap.size + 1 + 1) (by rw [HZ.out]; omega)).trans HR2.out); have q2f := frozen0 (p := 0) ((hb6.block (w.heap.size + 1 + 1) (by rw [HZ.out]; omega)).trans HR2.out); have q3 := cell_of_row _ _ 0 _ 4 (0, 0) ((hb6.block (w.heap.size + 1 + 1 + 1) (by rw [HZ.out]; omega)).trans HR3.out); have q3f := frozen0 (p := 0) ((hb6.block (w.heap.size + 1 + 1 + 1) (by rw [HZ.out]; omega)).trans HR3.out); obtain ⟨a0, a1, a2, a3, a4⟩ := five_cells ((hb6.block (w.heap.size) (by rw [HZ.out]; omega)).trans HR0.out); have HB6 := Lib.hid hb6; clear hb6) | (refine ⟨trivial, ?_⟩; gi_at_call 34; refine (callsIn_wide.2 (nodes_in k n m la ll lc sa sl sc _)).mono ?_; rintro e w' ⟨rfl, rfl⟩))
        have hs6 : w.heap.size + 1 + 1 + 1 + 1 ≤ w6.heap.size := by rw [← HZ.out]; exact HB6.out.size
        have hgB := Lib.hid (HB.out.trans (HB6.out.mono HB.out.size))
        have x1 : Boxed w6 (w.heap.size + 1) 3 (.int .i64 nn) := (HB6.out.block _ (by rw [HZ.out]; omega)).trans HR1.out
        have x2 : Boxed w6 (w.heap.size + 1 + 1) 3 (.int .i64 kk) := (HB6.out.block _ (by rw [HZ.out]; omega)).trans HR2.out
        have x3 : Boxed w6 (w.heap.size + 1 + 1 + 1) 4 (.bool false) := (HB6.out.block _ (by rw [HZ.out]; omega)).trans HR3.out
        have y1 := x1.other (B' := w.heap.size + 1 + 1) (by omega) (.int .i64 (1125899906842624 : Int))
        have y2 := x2.set (.int .i64 (1125899906842624 : Int))
        have y3 := x3.other (B' := w.heap.size + 1 + 1) (by omega) (.int .i64 (1125899906842624 : Int))
        have ys := setCell_size w6 ⟨w.heap.size + 1 + 1, 0, none⟩ (.int .i64 (1125899906842624 : Int))
        have yb := below_set hgB.out ⟨w.heap.size + 1 + 1, 0, none⟩ (.int .i64 (1125899906842624 : Int)) (by show w.heap.size ≤ w.heap.size + 1 + 1; omega)
        clear x1 x2 x3 q2 q2f q3 q3f a0 a1 a2 a3 a4
        generalize w6.setCell ⟨w.heap.size + 1 + 1, 0, none⟩ (.int .i64 (1125899906842624 : Int)) = W7 at *
        have b1 := y1.alloc (.cells #[.int .i64 k, .int .i64 n, .string m, .slice la ll lc, .slice sa sl sc] 25)
        have b2 := y2.alloc (.cells #[.int .i64 k, .int .i64 n, .string m, .slice la ll lc, .slice sa sl sc] 25)
        have b3 := y3.alloc (.cells #[.int .i64 k, .int .i64 n, .string m, .slice la ll lc, .slice sa sl sc] 25)
        have r4 := heap_alloc_new W7 (.cells #[.int .i64 k, .int .i64 n, .string m, .slice la ll lc, .slice sa sl sc] 25)
        have hs8 : (W7.alloc (.cells #[.int .i64 k, .int .i64 n, .string m, .slice la ll lc, .slice sa sl sc] 25)).heap.size = w6.heap.size + 1 := by simp [ys]
        have hb8 := Lib.hid (yb.trans ((below_lit W7 (.cells #[.int .i64 k, .int .i64 n, .string m, .slice la ll lc, .slice sa sl sc] 25)).mono yb.size))
        rw [ys] at r4
        clear y1 y2 y3 yb
        generalize W7.alloc (.cells #[.int .i64 k, .int .i64 n, .string m, .slice la ll lc, .slice sa sl sc] 25) = W8 at *
        have hGG : ∀ q, q ∈ pre t 0 0 → (fun q : Tm × Nat × Nat => tnodes q.1 ≤ 100000 ∧ q.2.2 ≤ 100000 ∧ (tmOf q.1).size ≤ 140737488355328) q := fun q hq => by
          have h1 := pre_deep t 0 0 q hq
          have h2 := HM.out
          have h3 := HNM.out q hq
          dsimp only
          omega
        refine wpIn_rangeFunc_ownH rfl (by decide) (gf := 43) (lb := #[.pointer (some ⟨w6.heap.size, 0, none⟩)]) rfl trivial (enters_of Tryd.func43 (by kernel_rfl) rfl) (encs := fun x : It w (fun q : Tm × Nat × Nat => tnodes q.1 ≤ 100000 ∧ q.2.2 ≤ 100000 ∧ (tmOf q.1).size ≤ 140737488355328) => #[.agg #[.int .i64 (tkOf x.t), .int .i64 (tnOf x.t), .string (tmOf x.t), .slice x.la x.ll x.lc, .slice x.sa x.sl x.sc], .agg #[.int .i64 x.d, .int .i64 x.b]])
          (nodes_stops w (fun q : Tm × Nat × Nat => tnodes q.1 ≤ 100000 ∧ q.2.2 ≤ 100000 ∧ (tmOf q.1).size ≤ 140737488355328) W8.heap.size w6.heap.size t la ll lc sa sl sc W8 (by rw [HK.out, HNN.out, HMM.out]; exact r4) HTT.out (by omega) (Nat.le_refl _) hb8.out (by have := HM.out; omega) hGG) (fun h k => h.trans k) (KpW.put (by omega) rfl) (Below.refl _ _) (fun _ => rfl)
          (fun xs W => ((Boxed W (w.heap.size + 1) 3 (.int .i64 nn) ∧ Boxed W (w.heap.size + 1 + 1) 3 (.int .i64 (1125899906842624 : Int))) ∧ Boxed W (w.heap.size + 1 + 1 + 1) 4 (.bool false)) ∧ ((xs.map It.tag).all (fun q : Tm × Nat × Nat => fitB RN (rightB nn) (1125899906842624 : Int) q) = true ∧ Below w.heap.size W8 W))
          (fun c xs W => (c = .ret ∧ (xs.map It.tag).all (fun q : Tm × Nat × Nat => fitB RN (rightB nn) (1125899906842624 : Int) q) = false) ∧ (Boxed W (w.heap.size + 1 + 1 + 1) 4 (.bool false) ∧ Below w.heap.size W8 W))
          (OwnFrom.and (OwnFrom.and (OwnFrom.and (Own.from (boxed_own _ _ _) _) (Own.from (boxed_own _ _ _) _)) (Own.from (boxed_own _ _ _) _)) (OwnFrom.and (ownFrom_pure _ _) (ownFrom_below (by omega) (by omega))))
          (fun c => OwnFrom.and (ownFrom_pure _ _) (OwnFrom.and (Own.from (boxed_own _ _ _) _) (ownFrom_below (by omega) (by omega))))
          ⟨⟨⟨b1, b2⟩, b3⟩, rfl, Below.refl _ _⟩
          (fun x a' W => (∃ Bn Ba, a' = { tmps := #[.agg #[.int .i64 k, .int .i64 n, .string m, .slice la ll lc, .slice sa sl sc], .int .i64 nn, .int .i64 kk, .pointer (some ⟨w.heap.size, 0, none⟩), .pointer (some ⟨w.heap.size + 1, 0, none⟩), .pointer (some ⟨w.heap.size + 1 + 1, 0, none⟩), .pointer (some ⟨w.heap.size + 1 + 1 + 1, 0, none⟩), .pointer (some ⟨Bn, 0, none⟩), .pointer (some ⟨Ba, 0, none⟩), .int .i64 kk, .bool false, .bool false, .agg #[.int .i64 k, .int .i64 n, .string m, .slice la ll lc, .slice sa sl sc], .int .i64 R, .bool false, .bool false, .int .i64 kk, .int .i64 (1125899906842624 : Int), .agg #[.int .i64 k, .int .i64 n, .string m, .slice la ll lc, .slice sa sl sc], .func (.func 43) #[] #[.pointer (some ⟨w6.heap.size, 0, none⟩)], .agg #[.int .i64 (tkOf x.t), .int .i64 (tnOf x.t), .string (tmOf x.t), .slice x.la x.ll x.lc, .slice x.sa x.sl x.sc], .agg #[.int .i64 x.d, .int .i64 x.b], undef, undef, undef, undef, undef, undef, undef, undef], defers := [] } ∧ (w.heap.size + 1 + 1 + 1 + 1 ≤ Bn ∧ w.heap.size + 1 + 1 + 1 + 1 ≤ Ba) ∧ W.heap[Bn]? = some (.cells #[.int .i64 (tkOf x.t), .int .i64 (tnOf x.t), .string (tmOf x.t), .slice x.la x.ll x.lc, .slice x.sa x.sl x.sc] 25 (0, 0)) ∧ W.heap[Ba]? = some (.cells #[.int .i64 x.d, .int .i64 x.b] 69 (0, 0))))
          (fun x a' _ X Y row hs hg hr => by
            obtain ⟨Bn, Ba, h1, h2, h3, h4⟩ := hs
            exact ⟨Bn, Ba, h1, h2, (grownBy_keeps_cells hg (fun r e => (hr r e).2) h3 rfl).trans h3, (grownBy_keeps_cells hg (fun r e => (hr r e).2) h4 rfl).trans h4⟩)
          ?assign ?body ?done ?stop
        case assign =>
          rintro l xs x W K9 ⟨⟨⟨b1, b2⟩, b3⟩, hc, hB1⟩ hK
          have hsz := hB1.size
          gi_wp2
          have hb := below_lit W (.cells #[.int .i64 (tkOf x.t), .int .i64 (tnOf x.t), .string (tmOf x.t), .slice x.la x.ll x.lc, .slice x.sa x.sl x.sc] 25)
          have hb2 := hb.trans ((below_lit (W.alloc (.cells #[.int .i64 (tkOf x.t), .int .i64 (tnOf x.t), .string (tmOf x.t), .slice x.la x.ll x.lc, .slice x.sa x.sl x.sc] 25)) (.cells #[.int .i64 x.d, .int .i64 x.b] 69)).mono hb.size)
          refine hK _ _ (((KeepsOthers.alloc _ _).trans (KeepsOthers.alloc _ _)).from _) (KpW.of_below (by omega) hb2) ⟨⟨⟨(b1.alloc _).alloc _, (b2.alloc _).alloc _⟩, (b3.alloc _).alloc _⟩, hc, hB1.trans (hb2.mono (by omega))⟩ ⟨_, _, rfl, ⟨by omega, by omega⟩, ?_, ?_⟩
          · exact (heap_alloc_old _ _ (by simp)).trans (heap_alloc_new W _)
          · have := heap_alloc_new (W.alloc (.cells #[.int .i64 (tkOf x.t), .int .i64 (tnOf x.t), .string (tmOf x.t), .slice x.la x.ll x.lc, .slice x.sa x.sl x.sc] 25)) (.cells #[.int .i64 x.d, .int .i64 x.b] 69)
            rwa [World.size_alloc] at this
        case body =>
          rintro l xs x a' W hl _ ⟨⟨⟨b1, b2⟩, b3⟩, hc, hB1⟩ ⟨Bn, Ba, rfl, ⟨hn1, ha1⟩, hrn, hra⟩ _
          have HLv : Hid (LvS w (.mk 0 0 (tlOf x.t)) (.slice x.la x.ll x.lc)) := by
            have : LvS w (.mk 0 0 (tlOf x.t)) (.slice x.la x.ll x.lc) := by
              have := x.ok
              generalize x.t = q at this
              cases q with
              | mk k n m ls ts => rw [TmP] at this; exact lvS_of _ _ this.1
            exact this
          have HLN : Hid (nodesL (tlOf x.t) ≤ 100000) := by
            have : nodesL (tlOf x.t) ≤ 100000 := by
              have := x.g.1
              dsimp only at this
              generalize x.t = q at this ⊢
              cases q with
              | mk k n m ls ts => rw [tnodes] at this; show nodesL ls ≤ _; omega
            exact this
          have HSL : Hid ((taOf x.t).length = x.sl) := by
            have : (taOf x.t).length = x.sl := by
              have := x.ok
              generalize x.t = q at this
              cases q with
              | mk k n m ls ts =>
                rw [TmP] at this
                obtain ⟨_, A, len, cap, e, h, _⟩ := this
                cases e
                exact h
            exact this
          have HBW := Lib.hid (hb8.out.trans hB1)
          obtain ⟨fr, hfr⟩ : ∃ fr, fitB RN (rightB nn) (1125899906842624 : Int) x.tag = fr := ⟨_, rfl⟩
          have HF9 : Hid (((xs ++ [x]).map It.tag).all (fun q : Tm × Nat × Nat => fitB RN (rightB nn) (1125899906842624 : Int) q) = fr) := by
            have : ((xs ++ [x]).map It.tag).all (fun q : Tm × Nat × Nat => fitB RN (rightB nn) (1125899906842624 : Int) q) = fr := by rw [List.map_append, List.all_append, hc, List.map_cons, List.map_nil, List.all_cons, hfr]; cases fr <;> rfl
            exact this
          have hcall := fits_is (tkOf x.t) (tnOf x.t) (tmOf x.t) (tlOf x.t) x.la x.ll x.lc x.sa x.sl x.sc nn ((1125899906842624 : Int) + (x.b : Int)) W (RN (tmOf x.t)) (lvS_below HBW.out _ _ HLv.out) HLN.out (fun w' h' => HCN.out w' (HBW.out.trans (h'.mono HBW.out.size)) _ x.g.2.2) fr (by rw [← HSL.out]; exact hfr)
          have HCALL := Lib.hid (CallsIn.inRound l ((callsIn_wide (n := 10)).2 hcall))
          have hxb : (x.b : Int) ≤ 100000 := by have := x.g.2.1; dsimp only at this; omega
          have c1 := b1.cell
          have c2 := b2.cell
          have hn5 := five_cells hrn
          obtain ⟨n0, n1, n2, n3, n4⟩ := hn5
          have p1 := cell_of_row W _ 1 _ 69 (0, 0) hra
          have HE1 := Lib.hid b1
          have HE2 := Lib.hid b2
          have HE3 := Lib.hid b3
          clear hcall hfr b1 b2 b3
          cases fr
          · gi_wp2_with (refine ⟨trivial, ?_⟩; gi_at_call 35; refine HCALL.out.mono ?_; rintro e w7 ⟨rfl, hb7⟩; have HB7 := Lib.hid hb7; clear hb7; have e3 : Boxed w7 (w.heap.size + 1 + 1 + 1) 4 (.bool false) := (HB7.out.block _ HE3.out.lt).trans HE3.out; have e3c := e3.cell; have e3f := e3.frozen; have H3 := Lib.hid e3; clear e3)
            exact ⟨((keepsOthers_below HB7.out).trans (KeepsOthers.setCell _ _ _)).from _, ⟨rfl, HF9.out⟩, H3.out.set _, hB1.trans (below_set (HB7.out.mono (by have := hB1.size; omega)) _ _ (by show w.heap.size ≤ w.heap.size + 1 + 1 + 1; omega))⟩
          · gi_wp2_with (refine ⟨trivial, ?_⟩; gi_at_call 35; refine HCALL.out.mono ?_; rintro e w7 ⟨rfl, hb7⟩; have HB7 := Lib.hid hb7; clear hb7)
            have f1 : Boxed w7 (w.heap.size + 1) 3 (.int .i64 nn) := (HB7.out.block _ HE1.out.lt).trans HE1.out
            have f2 : Boxed w7 (w.heap.size + 1 + 1) 3 (.int .i64 (1125899906842624 : Int)) := (HB7.out.block _ HE2.out.lt).trans HE2.out
            have f3 : Boxed w7 (w.heap.size + 1 + 1 + 1) 4 (.bool false) := (HB7.out.block _ HE3.out.lt).trans HE3.out
            have hnw : w.heap.size ≤ W.heap.size := by have := hB1.size; omega
            exact ⟨(keepsOthers_below HB7.out).from _, KpW.of_below hnw HB7.out, ⟨⟨f1, f2⟩, f3⟩, HF9.out, hB1.trans (HB7.out.mono hnw)⟩
        case done =>
          rintro D xs W hD hxs ⟨⟨⟨b1, b2⟩, b3⟩, hc, hB1⟩ hK
          rw [hxs, fit_all, Int.natCast_zero, Int.add_zero] at hc
          obtain rfl : b = true := HVV.out.symm.trans hc
          have c3 := b3.cell
          have f3 := b3.frozen
          have hlt := b3.lt
          have hDb : D ≠ w.heap.size + 1 + 1 + 1 := by omega
          gi_wp2
          refine ⟨by simp, .inl ⟨_, _, rfl, run_takeDeferred ((setCell_far _ _ _ _ (by show D ≠ w.heap.size + 1 + 1 + 1; exact hDb)).trans hK), ?_⟩⟩
          refine ⟨_, res_cell1 rfl _ _ (w.heap.size + 1 + 1 + 1) _ rfl ?_ Tryd.underlying4 (.inr rfl), rfl, ?_⟩
          · refine cell_heap (World.putObj_heap_other (fun e => hDb e.symm)) |>.trans ?_
            exact (b3.set _).cell
          · refine (hb8.out.trans hB1).trans ?_
            exact (below_set (Below.refl _ _) _ _ (by show w.heap.size ≤ w.heap.size + 1 + 1 + 1; omega)).trans ((Below.refl _ _).grown (grownBy_putObj' _ D _) (by rw [setCell_size]; omega) (fun k e => by cases e; omega))
        case stop =>
          rintro D c xs W hD hxs ⟨⟨rfl, hc⟩, b3, hB1⟩ hK
          have hDb : D ≠ w.heap.size + 1 + 1 + 1 := by omega
          have hlt := b3.lt
          have hbf : b = false := by
            obtain ⟨r, hr⟩ := hxs
            have q := fit_all RN (rightB nn) (1125899906842624 : Int) t 0 0
            rw [← hr, List.all_append, hc, Bool.false_and, Int.natCast_zero, Int.add_zero] at q
            exact HVV.out.symm.trans q.symm
          subst hbf
          gi_wp2
          refine ⟨by simp, .inl ⟨_, _, rfl, run_takeDeferred hK, ?_⟩⟩
          refine ⟨_, res_cell1 rfl _ _ (w.heap.size + 1 + 1 + 1) _ rfl ?_ Tryd.underlying4 (.inr rfl), rfl, ?_⟩
          · refine cell_heap (World.putObj_heap_other (fun e => hDb e.symm)) |>.trans ?_
            exact b3.cell
          · exact (hb8.out.trans hB1).trans ((Below.refl _ _).grown (grownBy_putObj' _ D _) (by omega) (fun k e => by cases e; omega))
end Trm
end Go.Proofs.YtlijdgamobpndaaDoor
/-
  The contracts of the program's functions isRight and Loose: the least number of variables that binds a term.
  Conditions: the term lies in memory as told by 'TmV'; it has at most 100000 nodes; name.Right's contract.
-/
namespace Go.Proofs.YtlijdgamobpndaaDoor
open Go.RowKit Go.Shelf
open Lvl
namespace Trm
attribute [local go_sem] Oper.semAt_some

/-- How many variables a node asks for outside. -/
def loQ (q : Tm × Nat × Nat) : Int := if tkOf q.1 = 1 then max (tnOf q.1 - q.2.2 + 1) 0 else 0
def loS : List (Tm × Nat × Nat) → Int
  | [] => 0
  | q :: l => max (loQ q) (loS l)
theorem loS_pos : ∀ l, 0 ≤ loS l
  | [] => by rw [loS]; omega
  | q :: l => by
    rw [loS]
    have := loS_pos l
    omega
theorem loQ_pos (q : Tm × Nat × Nat) : 0 ≤ loQ q := by
  unfold loQ
  split <;> omega
theorem loS_append : ∀ (l r : List (Tm × Nat × Nat)), loS (l ++ r) = max (loS l) (loS r)
  | [], r => by
    rw [List.nil_append, loS]
    have := loS_pos r
    omega
  | q :: l, r => by
    rw [List.cons_append, loS, loS, loS_append l r]
    omega
mutual
theorem lo_pre (RN : ByteArray → Bool) (RL : Lv → Bool) : ∀ (t : Tm) (K : Int) (d b : Nat), okT RN RL t K = true → loS (pre t d b) = loT t b
  | .mk kd n nm ls ts, K, d, b, h => by
    rw [okT, Bool.and_eq_true] at h
    rw [pre, loS, loT, lo_preL RN RL kd n nm ls ts.length h.1 ts 0 K (d + 1) b (by omega) h.2]
    show max (if kd = 1 then max (n - b + 1) 0 else 0) _ = _
    by_cases h1 : kd = 1
    · subst h1
      have h2 := h.1
      unfold shape at h2
      rw [if_pos rfl] at h2
      simp only [Bool.and_eq_true, decide_eq_true_eq] at h2
      have h3 : ts = [] := List.length_eq_zero_iff.1 h2.2.1.2
      subst h3
      rw [if_pos rfl, if_pos rfl, loTL]
      omega
    · rw [if_neg h1, if_neg h1]
      have := loTL_pos kd ts 0 b
      omega
theorem lo_preL (RN : ByteArray → Bool) (RL : Lv → Bool) (kd n : Int) (nm : ByteArray) (ls : List Lv) (m : Nat) {k : Int} (h : shape RN RL kd n nm ls m k = true) : ∀ (ts : List Tm) (i : Nat) (K : Int) (d b : Nat), i + ts.length ≤ m → okTL RN RL kd ts i K = true → loS (preL kd m ts i d b) = loTL kd ts i b
  | [], _, _, _, _, _, _ => by rw [preL, loS, loTL]
  | a :: ts, i, K, d, b, hi, ho => by
    rw [List.length_cons] at hi
    rw [okTL, Bool.and_eq_true] at ho
    rw [preL, loS_append, loTL, lo_pre RN RL a _ d _ ho.1, lo_preL RN RL kd n nm ls m h ts (i + 1) K d b (by omega) ho.2, bndP_under h i (by omega)]
    congr 2
end
/-- The least number of variables that binds it; 0 of one that isn't right. -/
def looseT (RN : ByteArray → Bool) (t : Tm) : Int := if rightT RN 4 t 1125899906842624 = true then loT t 0 else 0

end Trm
end Go.Proofs.YtlijdgamobpndaaDoor
