import Derived.Test.YtlijdgamobpndaaDoorJ14
import Derived.Test.YtlijdgamobpndaaDoorJ11
import Derived.Test.YtlijdgamobpndaaDoorJ13
/-
  The contracts of the program's functions count, Nodes, isBounded: how many nodes a term has.
  Conditions: the term lies in memory as told by 'TmV'; it has at most 100000 nodes.
-/
namespace Go.Proofs.YtlijdgamobpndaaDoor
open Go.RowKit Go.Shelf
open Lvl
namespace Trm
attribute [local go_sem] Oper.semAt_some

theorem keepsOthers_below {W W' : World} (h : Below W.heap.size W W') : KeepsOthers W W' :=
  ⟨h.size, fun k _ hk _ => (h.block k (Array.getElem?_eq_some_iff.1 hk).1).trans hk⟩
/-- A function's result that lies in a cell of its own. -/
theorem res_cell1 {P : Program} {fn : Func} {p : Tmp} {ty : TypeId} {d : TypeDesc} (h : fn.results = #[.cell p ty]) (tmps : Array Value) (w : World) (g : Nat) (v : Value)
    (hp : tmps.getD p undef = .pointer (some ⟨g, 0, none⟩)) (hc : w.cell? ⟨g, 0, none⟩ = some v) (hu : P.underlying ty = some d) (hd : (∃ k, d = .int k) ∨ d = .bool) :
    (results fn tmps).run P w = .ok v w := by
  have hp' : tmps[p]?.getD undef = .pointer (some ⟨g, 0, none⟩) := by simpa using hp
  have hl : (loadVar ty ⟨g, 0, none⟩).run P w = .ok v w := by
    rcases hd with ⟨k, rfl⟩ | rfl <;> simp [loadVar, isAgg, go_sem, run_underlying hu, hc]
  simp [results, h, hp', asAddr, hl]
/-- What is counted of these nodes. -/
def cnt : List (Tm × Nat × Nat) → Nat
  | [] => 0
  | q :: l => 1 + nodesL (tlOf q.1) + cnt l
theorem cnt_append : ∀ (l r : List (Tm × Nat × Nat)), cnt (l ++ r) = cnt l + cnt r
  | [], r => by rw [List.nil_append, cnt]; omega
  | q :: l, r => by rw [List.cons_append, cnt, cnt, cnt_append l r]; omega
mutual
theorem cnt_pre : ∀ (t : Tm) (d b : Nat), cnt (pre t d b) = tnodes t
  | .mk k n m ls ts, d, b => by rw [pre, cnt, tnodes, cnt_preL k ts.length ts 0 (d + 1) b]
theorem cnt_preL (k : Int) (len : Nat) : ∀ (ts : List Tm) (i d b : Nat), cnt (preL k len ts i d b) = tnodesL ts
  | [], _, _, _ => by rw [preL, cnt, tnodesL]
  | a :: ts, i, d, b => by rw [preL, cnt_append, tnodesL, cnt_pre a, cnt_preL k len ts]
end
mutual
theorem pre_deep : ∀ (t : Tm) (d b : Nat), ∀ q, q ∈ pre t d b → tnodes q.1 ≤ tnodes t ∧ q.2.1 + 1 ≤ d + tnodes t ∧ q.2.2 + 1 ≤ b + tnodes t
  | .mk k n m ls ts, d, b, q, hq => by
    rw [pre] at hq
    have hp := tnodes_pos (.mk k n m ls ts)
    rcases List.mem_cons.1 hq with rfl | hq
    · exact ⟨Nat.le_refl _, by show d + 1 ≤ _; omega, by show b + 1 ≤ _; omega⟩
    · have := preL_deep k ts.length ts 0 (d + 1) b q hq
      rw [tnodes]
      omega
theorem preL_deep (k : Int) (len : Nat) : ∀ (ts : List Tm) (i d b : Nat), ∀ q, q ∈ preL k len ts i d b → tnodes q.1 ≤ tnodesL ts ∧ q.2.1 + 1 ≤ d + tnodesL ts ∧ q.2.2 + 1 ≤ b + 1 + tnodesL ts
  | [], _, _, _, q, hq => by rw [preL] at hq; cases hq
  | a :: ts, i, d, b, q, hq => by
    rw [preL] at hq
    rw [tnodesL]
    rcases List.mem_append.1 hq with h | h
    · have := pre_deep a d (b + bndP k len i) q h
      have := bndP_le k len i
      omega
    · have := preL_deep k len ts (i + 1) d b q h
      omega
end

set_option maxRecDepth 100000 in
set_option maxHeartbeats 4000000 in
theorem count_is (t : Tm) (v : Value) (w : World) (hv : TmV w t v) (hm : tnodes t ≤ 100000) (M : Nat) (hM : M ≤ 100000000) :
    Calls Tryd.prog 42 #[v, .int .i64 M] w (Ret w (.int .i64 (min (tnodes t) (M + 1) : Nat))) := by
  obtain ⟨l, s, rfl, ht⟩ := hv
  obtain ⟨⟨la, ll, lc, rfl⟩, sa, sl, sc, rfl⟩ := tmP_slices ht
  have HTT := Lib.hid ht
  obtain ⟨k, hk⟩ : ∃ k, tkOf t = k := ⟨_, rfl⟩
  obtain ⟨n, hn⟩ : ∃ n, tnOf t = n := ⟨_, rfl⟩
  obtain ⟨m, hmm⟩ : ∃ m, tmOf t = m := ⟨_, rfl⟩
  dsimp only [tv]
  rw [hk, hn, hmm]
  have HK := Lib.hid hk
  have HNN := Lib.hid hn
  have HMM := Lib.hid hmm
  have HM := Lib.hid hm
  clear hk hn hmm ht hm
  refine (callsIn_wide (n := 13)).1 (callsIn_of_wp_marks Tryd.func42 rfl trivial ?_ rfl)
  simp only [Tryd.ntmps42, List.size_toArray, List.length_cons, List.length_nil, Nat.reduceAdd, Nat.reduceSub, Array.replicate_succ, Array.replicate_zero, List.push_toArray, List.append_toArray, List.nil_append, List.cons_append]
  gi_wp2_with (refine ⟨trivial, ?_⟩; gi_at_call 34; refine (callsIn_wide.2 (nodes_in k n m la ll lc sa sl sc _)).mono ?_; rintro e w' ⟨rfl, rfl⟩)
  have z1 : (w.alloc (.cells #[.int .i64 k, .int .i64 n, .string m, .slice la ll lc, .slice sa sl sc] 25)).heap.size = w.heap.size + 1 := by simp
  have z2 : ((w.alloc (.cells #[.int .i64 k, .int .i64 n, .string m, .slice la ll lc, .slice sa sl sc] 25)).alloc (.cells #[.int .i64 M] 3)).heap.size = w.heap.size + 1 + 1 := by simp
  have z3 : (((w.alloc (.cells #[.int .i64 k, .int .i64 n, .string m, .slice la ll lc, .slice sa sl sc] 25)).alloc (.cells #[.int .i64 M] 3)).alloc (.cells #[.int .i64 0] 3)).heap.size = w.heap.size + 1 + 1 + 1 := by simp
  have z4 : ((((w.alloc (.cells #[.int .i64 k, .int .i64 n, .string m, .slice la ll lc, .slice sa sl sc] 25)).alloc (.cells #[.int .i64 M] 3)).alloc (.cells #[.int .i64 0] 3)).alloc (.cells #[.int .i64 0] 3)).heap.size = w.heap.size + 1 + 1 + 1 + 1 := by simp
  have z5 : (((((w.alloc (.cells #[.int .i64 k, .int .i64 n, .string m, .slice la ll lc, .slice sa sl sc] 25)).alloc (.cells #[.int .i64 M] 3)).alloc (.cells #[.int .i64 0] 3)).alloc (.cells #[.int .i64 0] 3)).alloc (.cells #[.int .i64 k, .int .i64 n, .string m, .slice la ll lc, .slice sa sl sc] 25)).heap.size = w.heap.size + 1 + 1 + 1 + 1 + 1 := by simp
  have r0 : (w.alloc (.cells #[.int .i64 k, .int .i64 n, .string m, .slice la ll lc, .slice sa sl sc] 25)).heap[w.heap.size]? = some (Obj.cells #[.int .i64 k, .int .i64 n, .string m, .slice la ll lc, .slice sa sl sc] 25 (0, 0)) := by
    have := heap_alloc_new w (.cells #[.int .i64 k, .int .i64 n, .string m, .slice la ll lc, .slice sa sl sc] 25)
    exact this
  have r1 : ((w.alloc (.cells #[.int .i64 k, .int .i64 n, .string m, .slice la ll lc, .slice sa sl sc] 25)).alloc (.cells #[.int .i64 M] 3)).heap[w.heap.size + 1]? = some (Obj.cells #[.int .i64 M] 3 (0, 0)) := by
    have := heap_alloc_new (w.alloc (.cells #[.int .i64 k, .int .i64 n, .string m, .slice la ll lc, .slice sa sl sc] 25)) (.cells #[.int .i64 M] 3)
    rwa [z1] at this
  have r2 : (((w.alloc (.cells #[.int .i64 k, .int .i64 n, .string m, .slice la ll lc, .slice sa sl sc] 25)).alloc (.cells #[.int .i64 M] 3)).alloc (.cells #[.int .i64 0] 3)).heap[w.heap.size + 1 + 1]? = some (Obj.cells #[.int .i64 0] 3 (0, 0)) := by
    have := heap_alloc_new ((w.alloc (.cells #[.int .i64 k, .int .i64 n, .string m, .slice la ll lc, .slice sa sl sc] 25)).alloc (.cells #[.int .i64 M] 3)) (.cells #[.int .i64 0] 3)
    rwa [z2] at this
  have r3 : ((((w.alloc (.cells #[.int .i64 k, .int .i64 n, .string m, .slice la ll lc, .slice sa sl sc] 25)).alloc (.cells #[.int .i64 M] 3)).alloc (.cells #[.int .i64 0] 3)).alloc (.cells #[.int .i64 0] 3)).heap[w.heap.size + 1 + 1 + 1]? = some (Obj.cells #[.int .i64 0] 3 (0, 0)) := by
    have := heap_alloc_new (((w.alloc (.cells #[.int .i64 k, .int .i64 n, .string m, .slice la ll lc, .slice sa sl sc] 25)).alloc (.cells #[.int .i64 M] 3)).alloc (.cells #[.int .i64 0] 3)) (.cells #[.int .i64 0] 3)
    rwa [z3] at this
  have r4 : (((((w.alloc (.cells #[.int .i64 k, .int .i64 n, .string m, .slice la ll lc, .slice sa sl sc] 25)).alloc (.cells #[.int .i64 M] 3)).alloc (.cells #[.int .i64 0] 3)).alloc (.cells #[.int .i64 0] 3)).alloc (.cells #[.int .i64 k, .int .i64 n, .string m, .slice la ll lc, .slice sa sl sc] 25)).heap[w.heap.size + 1 + 1 + 1 + 1]? = some (Obj.cells #[.int .i64 k, .int .i64 n, .string m, .slice la ll lc, .slice sa sl sc] 25 (0, 0)) := by
    have := heap_alloc_new ((((w.alloc (.cells #[.int .i64 k, .int .i64 n, .string m, .slice la ll lc, .slice sa sl sc] 25)).alloc (.cells #[.int .i64 M] 3)).alloc (.cells #[.int .i64 0] 3)).alloc (.cells #[.int .i64 0] 3)) (.cells #[.int .i64 k, .int .i64 n, .string m, .slice la ll lc, .slice sa sl sc] 25)
    rwa [z4] at this
  have HB := Lib.hid (((((below_lit w (.cells #[.int .i64 k, .int .i64 n, .string m, .slice la ll lc, .slice sa sl sc] 25)).trans ((below_lit (w.alloc (.cells #[.int .i64 k, .int .i64 n, .string m, .slice la ll lc, .slice sa sl sc] 25)) (.cells #[.int .i64 M] 3)).mono (below_lit w (.cells #[.int .i64 k, .int .i64 n, .string m, .slice la ll lc, .slice sa sl sc] 25)).size)).trans ((below_lit ((w.alloc (.cells #[.int .i64 k, .int .i64 n, .string m, .slice la ll lc, .slice sa sl sc] 25)).alloc (.cells #[.int .i64 M] 3)) (.cells #[.int .i64 0] 3)).mono ((below_lit w (.cells #[.int .i64 k, .int .i64 n, .string m, .slice la ll lc, .slice sa sl sc] 25)).trans ((below_lit (w.alloc (.cells #[.int .i64 k, .int .i64 n, .string m, .slice la ll lc, .slice sa sl sc] 25)) (.cells #[.int .i64 M] 3)).mono (below_lit w (.cells #[.int .i64 k, .int .i64 n, .string m, .slice la ll lc, .slice sa sl sc] 25)).size)).size)).trans ((below_lit (((w.alloc (.cells #[.int .i64 k, .int .i64 n, .string m, .slice la ll lc, .slice sa sl sc] 25)).alloc (.cells #[.int .i64 M] 3)).alloc (.cells #[.int .i64 0] 3)) (.cells #[.int .i64 0] 3)).mono (((below_lit w (.cells #[.int .i64 k, .int .i64 n, .string m, .slice la ll lc, .slice sa sl sc] 25)).trans ((below_lit (w.alloc (.cells #[.int .i64 k, .int .i64 n, .string m, .slice la ll lc, .slice sa sl sc] 25)) (.cells #[.int .i64 M] 3)).mono (below_lit w (.cells #[.int .i64 k, .int .i64 n, .string m, .slice la ll lc, .slice sa sl sc] 25)).size)).trans ((below_lit ((w.alloc (.cells #[.int .i64 k, .int .i64 n, .string m, .slice la ll lc, .slice sa sl sc] 25)).alloc (.cells #[.int .i64 M] 3)) (.cells #[.int .i64 0] 3)).mono ((below_lit w (.cells #[.int .i64 k, .int .i64 n, .string m, .slice la ll lc, .slice sa sl sc] 25)).trans ((below_lit (w.alloc (.cells #[.int .i64 k, .int .i64 n, .string m, .slice la ll lc, .slice sa sl sc] 25)) (.cells #[.int .i64 M] 3)).mono (below_lit w (.cells #[.int .i64 k, .int .i64 n, .string m, .slice la ll lc, .slice sa sl sc] 25)).size)).size)).size)).trans ((below_lit ((((w.alloc (.cells #[.int .i64 k, .int .i64 n, .string m, .slice la ll lc, .slice sa sl sc] 25)).alloc (.cells #[.int .i64 M] 3)).alloc (.cells #[.int .i64 0] 3)).alloc (.cells #[.int .i64 0] 3)) (.cells #[.int .i64 k, .int .i64 n, .string m, .slice la ll lc, .slice sa sl sc] 25)).mono ((((below_lit w (.cells #[.int .i64 k, .int .i64 n, .string m, .slice la ll lc, .slice sa sl sc] 25)).trans ((below_lit (w.alloc (.cells #[.int .i64 k, .int .i64 n, .string m, .slice la ll lc, .slice sa sl sc] 25)) (.cells #[.int .i64 M] 3)).mono (below_lit w (.cells #[.int .i64 k, .int .i64 n, .string m, .slice la ll lc, .slice sa sl sc] 25)).size)).trans ((below_lit ((w.alloc (.cells #[.int .i64 k, .int .i64 n, .string m, .slice la ll lc, .slice sa sl sc] 25)).alloc (.cells #[.int .i64 M] 3)) (.cells #[.int .i64 0] 3)).mono ((below_lit w (.cells #[.int .i64 k, .int .i64 n, .string m, .slice la ll lc, .slice sa sl sc] 25)).trans ((below_lit (w.alloc (.cells #[.int .i64 k, .int .i64 n, .string m, .slice la ll lc, .slice sa sl sc] 25)) (.cells #[.int .i64 M] 3)).mono (below_lit w (.cells #[.int .i64 k, .int .i64 n, .string m, .slice la ll lc, .slice sa sl sc] 25)).size)).size)).trans ((below_lit (((w.alloc (.cells #[.int .i64 k, .int .i64 n, .string m, .slice la ll lc, .slice sa sl sc] 25)).alloc (.cells #[.int .i64 M] 3)).alloc (.cells #[.int .i64 0] 3)) (.cells #[.int .i64 0] 3)).mono (((below_lit w (.cells #[.int .i64 k, .int .i64 n, .string m, .slice la ll lc, .slice sa sl sc] 25)).trans ((below_lit (w.alloc (.cells #[.int .i64 k, .int .i64 n, .string m, .slice la ll lc, .slice sa sl sc] 25)) (.cells #[.int .i64 M] 3)).mono (below_lit w (.cells #[.int .i64 k, .int .i64 n, .string m, .slice la ll lc, .slice sa sl sc] 25)).size)).trans ((below_lit ((w.alloc (.cells #[.int .i64 k, .int .i64 n, .string m, .slice la ll lc, .slice sa sl sc] 25)).alloc (.cells #[.int .i64 M] 3)) (.cells #[.int .i64 0] 3)).mono ((below_lit w (.cells #[.int .i64 k, .int .i64 n, .string m, .slice la ll lc, .slice sa sl sc] 25)).trans ((below_lit (w.alloc (.cells #[.int .i64 k, .int .i64 n, .string m, .slice la ll lc, .slice sa sl sc] 25)) (.cells #[.int .i64 M] 3)).mono (below_lit w (.cells #[.int .i64 k, .int .i64 n, .string m, .slice la ll lc, .slice sa sl sc] 25)).size)).size)).size)).size))
  have HR0 := Lib.hid ((heap_alloc_old ((((w.alloc (.cells #[.int .i64 k, .int .i64 n, .string m, .slice la ll lc, .slice sa sl sc] 25)).alloc (.cells #[.int .i64 M] 3)).alloc (.cells #[.int .i64 0] 3)).alloc (.cells #[.int .i64 0] 3)) (.cells #[.int .i64 k, .int .i64 n, .string m, .slice la ll lc, .slice sa sl sc] 25) (by rw [z4]; omega)).trans ((heap_alloc_old (((w.alloc (.cells #[.int .i64 k, .int .i64 n, .string m, .slice la ll lc, .slice sa sl sc] 25)).alloc (.cells #[.int .i64 M] 3)).alloc (.cells #[.int .i64 0] 3)) (.cells #[.int .i64 0] 3) (by rw [z3]; omega)).trans ((heap_alloc_old ((w.alloc (.cells #[.int .i64 k, .int .i64 n, .string m, .slice la ll lc, .slice sa sl sc] 25)).alloc (.cells #[.int .i64 M] 3)) (.cells #[.int .i64 0] 3) (by rw [z2]; omega)).trans ((heap_alloc_old (w.alloc (.cells #[.int .i64 k, .int .i64 n, .string m, .slice la ll lc, .slice sa sl sc] 25)) (.cells #[.int .i64 M] 3) (by rw [z1]; omega)).trans (r0)))))
  have HR1 := Lib.hid ((heap_alloc_old ((((w.alloc (.cells #[.int .i64 k, .int .i64 n, .string m, .slice la ll lc, .slice sa sl sc] 25)).alloc (.cells #[.int .i64 M] 3)).alloc (.cells #[.int .i64 0] 3)).alloc (.cells #[.int .i64 0] 3)) (.cells #[.int .i64 k, .int .i64 n, .string m, .slice la ll lc, .slice sa sl sc] 25) (by rw [z4]; omega)).trans ((heap_alloc_old (((w.alloc (.cells #[.int .i64 k, .int .i64 n, .string m, .slice la ll lc, .slice sa sl sc] 25)).alloc (.cells #[.int .i64 M] 3)).alloc (.cells #[.int .i64 0] 3)) (.cells #[.int .i64 0] 3) (by rw [z3]; omega)).trans ((heap_alloc_old ((w.alloc (.cells #[.int .i64 k, .int .i64 n, .string m, .slice la ll lc, .slice sa sl sc] 25)).alloc (.cells #[.int .i64 M] 3)) (.cells #[.int .i64 0] 3) (by rw [z2]; omega)).trans (r1))))
  have HR2 := Lib.hid ((heap_alloc_old ((((w.alloc (.cells #[.int .i64 k, .int .i64 n, .string m, .slice la ll lc, .slice sa sl sc] 25)).alloc (.cells #[.int .i64 M] 3)).alloc (.cells #[.int .i64 0] 3)).alloc (.cells #[.int .i64 0] 3)) (.cells #[.int .i64 k, .int .i64 n, .string m, .slice la ll lc, .slice sa sl sc] 25) (by rw [z4]; omega)).trans ((heap_alloc_old (((w.alloc (.cells #[.int .i64 k, .int .i64 n, .string m, .slice la ll lc, .slice sa sl sc] 25)).alloc (.cells #[.int .i64 M] 3)).alloc (.cells #[.int .i64 0] 3)) (.cells #[.int .i64 0] 3) (by rw [z3]; omega)).trans (r2)))
  have HR3 := Lib.hid ((heap_alloc_old ((((w.alloc (.cells #[.int .i64 k, .int .i64 n, .string m, .slice la ll lc, .slice sa sl sc] 25)).alloc (.cells #[.int .i64 M] 3)).alloc (.cells #[.int .i64 0] 3)).alloc (.cells #[.int .i64 0] 3)) (.cells #[.int .i64 k, .int .i64 n, .string m, .slice la ll lc, .slice sa sl sc] 25) (by rw [z4]; omega)).trans (r3))
  have HR4 := Lib.hid (r4)
  clear r0 r1 r2 r3 r4
  generalize (((((w.alloc (.cells #[.int .i64 k, .int .i64 n, .string m, .slice la ll lc, .slice sa sl sc] 25)).alloc (.cells #[.int .i64 M] 3)).alloc (.cells #[.int .i64 0] 3)).alloc (.cells #[.int .i64 0] 3)).alloc (.cells #[.int .i64 k, .int .i64 n, .string m, .slice la ll lc, .slice sa sl sc] 25)) = W5 at *
  have HZ := Lib.hid z5
  clear z1 z2 z3 z4 z5
  have hGG : ∀ q, q ∈ pre t 0 0 → (fun q : Tm × Nat × Nat => tnodes q.1 ≤ 100000 ∧ q.2.1 ≤ 100000) q := fun q hq => by
    have := pre_deep t 0 0 q hq
    have := HM.out
    dsimp only
    omega
  refine wpIn_rangeFunc_ownH rfl (by decide) (gf := 43) (lb := #[.pointer (some ⟨w.heap.size + 1 + 1 + 1 + 1, 0, none⟩)]) rfl trivial (enters_of Tryd.func43 (by kernel_rfl) rfl) (encs := fun x : It w (fun q : Tm × Nat × Nat => tnodes q.1 ≤ 100000 ∧ q.2.1 ≤ 100000) => #[.agg #[.int .i64 (tkOf x.t), .int .i64 (tnOf x.t), .string (tmOf x.t), .slice x.la x.ll x.lc, .slice x.sa x.sl x.sc], .agg #[.int .i64 x.d, .int .i64 x.b]])
    (nodes_stops w (fun q : Tm × Nat × Nat => tnodes q.1 ≤ 100000 ∧ q.2.1 ≤ 100000) W5.heap.size (w.heap.size + 1 + 1 + 1 + 1) t la ll lc sa sl sc W5 (by rw [HK.out, HNN.out, HMM.out]; exact HR4.out) HTT.out (by rw [HZ.out]; omega) (Nat.le_refl _) HB.out (by have := HM.out; omega) hGG) (fun h k => h.trans k) (KpW.put (by rw [HZ.out]; omega) rfl) (Below.refl _ _) (fun _ => rfl)
    (fun xs W => ((Boxed W (w.heap.size + 1) 3 (.int .i64 M) ∧ Boxed W (w.heap.size + 1 + 1) 3 (.int .i64 0)) ∧ Boxed W (w.heap.size + 1 + 1 + 1) 3 (.int .i64 (cnt (xs.map It.tag)))) ∧ (cnt (xs.map It.tag) ≤ M ∧ Below w.heap.size W5 W))
    (fun c xs W => (c = .ret ∧ M < cnt (xs.map It.tag)) ∧ (Boxed W (w.heap.size + 1 + 1) 3 (.int .i64 (M + 1)) ∧ Below w.heap.size W5 W))
    (OwnFrom.and (OwnFrom.and (OwnFrom.and (Own.from (boxed_own _ _ _) _) (Own.from (boxed_own _ _ _) _)) (Own.from (boxed_own _ _ (fun xs : List (It w (fun q : Tm × Nat × Nat => tnodes q.1 ≤ 100000 ∧ q.2.1 ≤ 100000)) => Value.int .i64 (cnt (xs.map It.tag)))) _)) (OwnFrom.and (ownFrom_pure _ _) (ownFrom_below (by rw [HZ.out]; omega) (by rw [HZ.out]; omega))))
    (fun c => OwnFrom.and (ownFrom_pure _ _) (OwnFrom.and (Own.from (boxed_own _ _ _) _) (ownFrom_below (by rw [HZ.out]; omega) (by rw [HZ.out]; omega))))
    ⟨⟨⟨HR1.out, HR2.out⟩, HR3.out⟩, Nat.zero_le _, Below.refl _ _⟩
    (fun x a' W => (∃ Bn Ba, a' = { tmps := #[.agg #[.int .i64 k, .int .i64 n, .string m, .slice la ll lc, .slice sa sl sc], .int .i64 M, .pointer (some ⟨w.heap.size, 0, none⟩), .pointer (some ⟨w.heap.size + 1, 0, none⟩), .pointer (some ⟨w.heap.size + 1 + 1, 0, none⟩), .pointer (some ⟨w.heap.size + 1 + 1 + 1, 0, none⟩), .pointer (some ⟨Bn, 0, none⟩), .pointer (some ⟨Ba, 0, none⟩), .agg #[.int .i64 k, .int .i64 n, .string m, .slice la ll lc, .slice sa sl sc], .func (.func 43) #[] #[.pointer (some ⟨w.heap.size + 1 + 1 + 1 + 1, 0, none⟩)], .agg #[.int .i64 (tkOf x.t), .int .i64 (tnOf x.t), .string (tmOf x.t), .slice x.la x.ll x.lc, .slice x.sa x.sl x.sc], .agg #[.int .i64 x.d, .int .i64 x.b], undef, undef, undef, undef, undef, undef, undef, undef, undef, undef, undef, undef, undef, undef, undef, undef, undef, undef, undef, undef, undef], defers := [] } ∧ (w.heap.size + 1 + 1 + 1 + 1 + 1 ≤ Bn ∧ w.heap.size + 1 + 1 + 1 + 1 + 1 ≤ Ba) ∧ W.heap[Bn]? = some (.cells #[.int .i64 (tkOf x.t), .int .i64 (tnOf x.t), .string (tmOf x.t), .slice x.la x.ll x.lc, .slice x.sa x.sl x.sc] 25 (0, 0)) ∧ W.heap[Ba]? = some (.cells #[.int .i64 x.d, .int .i64 x.b] 69 (0, 0))))
    (fun x a' _ X Y row hs hg hr => by
      obtain ⟨Bn, Ba, h1, h2, h3, h4⟩ := hs
      exact ⟨Bn, Ba, h1, h2, (grownBy_keeps_cells hg (fun r e => (hr r e).2) h3 rfl).trans h3, (grownBy_keeps_cells hg (fun r e => (hr r e).2) h4 rfl).trans h4⟩)
    ?assign ?body ?done ?stop
  case assign =>
    rintro l xs x W K ⟨⟨⟨b1, b2⟩, b3⟩, hc, hB1⟩ hK
    have hsz : w.heap.size + 1 + 1 + 1 + 1 + 1 ≤ W.heap.size := by rw [← HZ.out]; exact hB1.size
    gi_wp2
    have hb := below_lit W (.cells #[.int .i64 (tkOf x.t), .int .i64 (tnOf x.t), .string (tmOf x.t), .slice x.la x.ll x.lc, .slice x.sa x.sl x.sc] 25)
    have hb2 := hb.trans ((below_lit (W.alloc (.cells #[.int .i64 (tkOf x.t), .int .i64 (tnOf x.t), .string (tmOf x.t), .slice x.la x.ll x.lc, .slice x.sa x.sl x.sc] 25)) (.cells #[.int .i64 x.d, .int .i64 x.b] 69)).mono hb.size)
    refine hK _ _ (((KeepsOthers.alloc _ _).trans (KeepsOthers.alloc _ _)).from _) (KpW.of_below (by omega) hb2) ⟨⟨⟨(b1.alloc _).alloc _, (b2.alloc _).alloc _⟩, (b3.alloc _).alloc _⟩, hc, hB1.trans (hb2.mono (by omega))⟩ ⟨_, _, rfl, ⟨hsz, by omega⟩, ?_, ?_⟩
    · exact (heap_alloc_old _ _ (by simp)).trans (heap_alloc_new W _)
    · have := heap_alloc_new (W.alloc (.cells #[.int .i64 (tkOf x.t), .int .i64 (tnOf x.t), .string (tmOf x.t), .slice x.la x.ll x.lc, .slice x.sa x.sl x.sc] 25)) (.cells #[.int .i64 x.d, .int .i64 x.b] 69)
      rwa [World.size_alloc] at this
  case body =>
    rintro l xs x a' W hl _ ⟨⟨⟨b1, b2⟩, b3⟩, hc, hB1⟩ ⟨Bn, Ba, rfl, ⟨hn1, ha1⟩, hrn, hra⟩ _
    have c1 := b1.cell
    have c3 := b3.cell
    have f3 := b3.frozen
    gi_wp2
    have hnB : w.heap.size + 1 + 1 + 1 + 1 + 1 ≤ W.heap.size := by rw [← HZ.out]; exact hB1.size
    have HLv : Hid (LvS w (.mk 0 0 (tlOf x.t)) (.slice x.la x.ll x.lc)) := by
      have : LvS w (.mk 0 0 (tlOf x.t)) (.slice x.la x.ll x.lc) := by
        have := x.ok
        generalize x.t = q at this
        cases q with
        | mk k n m ls ts => rw [TmP] at this; exact lvS_of _ _ this.1
      exact this
    have HLN : Hid (nodesL (tlOf x.t) ≤ 100000) := by
      have : nodesL (tlOf x.t) ≤ 100000 := by
        have := x.g.1
        dsimp only at this
        generalize x.t = q at this ⊢
        cases q with
        | mk k n m ls ts => rw [tnodes] at this; show nodesL ls ≤ _; omega
      exact this
    have hxd : decide ((131072 : Int) < (x.d : Int)) = false := by have := x.g.2; dsimp only at this; simp; omega
    obtain ⟨c, hcd⟩ : ∃ c, cnt (xs.map It.tag) = c := ⟨_, rfl⟩
    rw [hcd] at b3 c3 hc ⊢
    have HCD : Hid (cnt ((xs ++ [x]).map It.tag) = c + 1 + nodesL (tlOf x.t)) := by
      have : cnt ((xs ++ [x]).map It.tag) = c + 1 + nodesL (tlOf x.t) := by
        rw [List.map_append, cnt_append, hcd, List.map_cons, List.map_nil, cnt, cnt]
        show c + (1 + nodesL (tlOf x.t) + 0) = _
        omega
      exact this
    obtain ⟨W6, hW6⟩ : ∃ W6, W.setCell ⟨w.heap.size + 1 + 1 + 1, 0, none⟩ (.int .i64 ((c : Int) + 1)) = W6 := ⟨_, rfl⟩
    have g1 : Boxed W6 (w.heap.size + 1) 3 (.int .i64 M) := by rw [← hW6]; exact b1.other (by omega) _
    have g2 : Boxed W6 (w.heap.size + 1 + 1) 3 (.int .i64 0) := by rw [← hW6]; exact b2.other (by omega) _
    have g3 : Boxed W6 (w.heap.size + 1 + 1 + 1) 3 (.int .i64 ((c : Int) + 1)) := by rw [← hW6]; exact b3.set _
    have hrn6 : W6.heap[Bn]? = _ := (show W6.heap[Bn]? = W.heap[Bn]? by rw [← hW6]; exact setCell_far _ _ _ _ (by show Bn ≠ w.heap.size + 1 + 1 + 1; omega)).trans hrn
    have hra6 : W6.heap[Ba]? = _ := (show W6.heap[Ba]? = W.heap[Ba]? by rw [← hW6]; exact setCell_far _ _ _ _ (by show Ba ≠ w.heap.size + 1 + 1 + 1; omega)).trans hra
    have HK6 : Hid (KpW w.heap.size W5.heap.size W W6) := by
      have : KpW w.heap.size W5.heap.size W W6 := by
        rw [← hW6]
        exact KpW.set_far (by omega) (by rw [HZ.out]; omega)
      exact this
    have HO6 : Hid (KeepsOthers W W6) := by
      have : KeepsOthers W W6 := by rw [← hW6]; exact KeepsOthers.setCell _ _ _
      exact this
    have hs6 : W6.heap.size = W.heap.size := by rw [← hW6, setCell_size]
    rw [hW6]
    clear hW6 c1 c3 f3 b1 b2 b3 hrn hra
    have HG1 := Lib.hid g1
    have HG2 := Lib.hid g2
    have HG3 := Lib.hid g3
    have HRN := Lib.hid hrn6
    have HRA := Lib.hid hra6
    have HBW := Lib.hid (HB.out.trans hB1)
    have c1 : W6.drew.cell? ⟨w.heap.size + 1, 0, none⟩ = _ := g1.cell
    have c3 : W6.drew.cell? ⟨w.heap.size + 1 + 1 + 1, 0, none⟩ = _ := g3.cell
    have n3 : W6.drew.cell? ⟨Bn, 3, none⟩ = _ := (five_cells hrn6).2.2.2.1
    have HML : Hid ((M : Int) - ((c : Int) + 1) = ((M - c : Nat) : Int) - 1) := by
      have : (M : Int) - ((c : Int) + 1) = ((M - c : Nat) : Int) - 1 := by omega
      exact this
    have hcM : (c : Int) ≤ (M : Int) := by omega
    have hMM : (M : Int) ≤ 100000000 := by omega
    clear g1 g2 g3 hrn6 hra6 hcd
    have hcall := CallsIn.inRound l ((callsIn_wide (n := 10)).2 (countLevels_up 131072 (tlOf x.t) _ W6.drew ((M : Int) - ((c : Int) + 1)) (M - c) 131072 (by have := HLN.out; omega) (by omega) (by omega) (by omega) HML.out (lvS_below (HBW.out.trans (HK6.out.1)).drew _ _ HLv.out)))
    have HCALL := Lib.hid hcall
    clear hcall
    obtain ⟨q, hq⟩ : ∃ q, min (nodesL (tlOf x.t)) (M - c) = q := ⟨_, rfl⟩
    have hqM : (q : Int) ≤ (M : Int) - (c : Int) := by omega
    have HQ := Lib.hid hq
    clear hq
    have hmix : Tryd.prog.follows Departure.mixedOrders = true := by kernel_rfl
    have hww : IntKind.i64.wrap ((M : Int) - ((c : Int) + 1)) = (M : Int) - ((c : Int) + 1) := IntWalk.i64_in _ ⟨by omega, by omega⟩
    refine wpIn_mono (Q := fun e a' W' => ∃ w7, (Below W6.heap.size W6 w7 ∧ Boxed w7 (w.heap.size + 1 + 1 + 1) 3 (.int .i64 ((c : Int) + 1))) ∧ e = .normal ∧ a' = { tmps := #[.agg #[.int .i64 k, .int .i64 n, .string m, .slice la ll lc, .slice sa sl sc], .int .i64 M, .pointer (some ⟨w.heap.size, 0, none⟩), .pointer (some ⟨w.heap.size + 1, 0, none⟩), .pointer (some ⟨w.heap.size + 1 + 1, 0, none⟩), .pointer (some ⟨w.heap.size + 1 + 1 + 1, 0, none⟩), .pointer (some ⟨Bn, 0, none⟩), .pointer (some ⟨Ba, 0, none⟩), .agg #[.int .i64 k, .int .i64 n, .string m, .slice la ll lc, .slice sa sl sc], .func (.func 43) #[] #[.pointer (some ⟨w.heap.size + 1 + 1 + 1 + 1, 0, none⟩)], .agg #[.int .i64 (tkOf x.t), .int .i64 (tnOf x.t), .string (tmOf x.t), .slice x.la x.ll x.lc, .slice x.sa x.sl x.sc], .agg #[.int .i64 x.d, .int .i64 x.b], .int .i64 c, .int .i64 ((c : Int) + 1), .int .i64 ((c : Int) + 1), .pointer (some ⟨Bn, 3, none⟩), .slice x.la x.ll x.lc, .int .i64 M, .int .i64 ((c : Int) + 1), .int .i64 ((M : Int) - ((c : Int) + 1)), .int .i64 q, .int .i64 ((c : Int) + 1 + (q : Int)), undef, undef, undef, undef, undef, undef, undef, undef, undef, undef, undef], defers := [] } ∧ W' = w7.setCell ⟨w.heap.size + 1 + 1 + 1, 0, none⟩ (.int .i64 ((c : Int) + 1 + (q : Int)))) ?region ?rest
    case region =>
      gi_region_with_o (refine ⟨trivial, ?_⟩; gi_at_call 55; refine HCALL.out.mono ?_; rintro e w7 ⟨rfl, hb7⟩; have HB7 := Lib.hid ((Below.refl W6.heap.size W6).drew.trans hb7); clear hb7; rw [HQ.out]; have hws : IntKind.i64.wrap ((c : Int) + 1 + (q : Int)) = (c : Int) + 1 + (q : Int) := IntWalk.i64_in _ ⟨by omega, by omega⟩; have h3 : Boxed w7 (w.heap.size + 1 + 1 + 1) 3 (.int .i64 ((c : Int) + 1)) := (HB7.out.block _ HG3.out.lt).trans HG3.out; have c3' := h3.cell; have f3' := h3.frozen; have H3 := Lib.hid h3; clear h3)
      all_goals exact ⟨w7, ⟨HB7.out, H3.out⟩, rfl, rfl, rfl⟩
    case rest =>
      rintro e a7 W7 ⟨w7, ⟨HB7, H3⟩, rfl, rfl, rfl⟩
      clear c1 c3 n3 HCALL hww hmix HML
      have e1 : Boxed w7 (w.heap.size + 1) 3 (.int .i64 M) := (HB7.block _ HG1.out.lt).trans HG1.out
      have e2 : Boxed w7 (w.heap.size + 1 + 1) 3 (.int .i64 0) := (HB7.block _ HG2.out.lt).trans HG2.out
      have ea := (HB7.block _ (Array.getElem?_eq_some_iff.1 HRA.out).1).trans HRA.out
      have HK7 : KpW w.heap.size W5.heap.size W (w7.setCell ⟨w.heap.size + 1 + 1 + 1, 0, none⟩ (.int .i64 ((c : Int) + 1 + (q : Int)))) := HK6.out.trans ((KpW.of_below (by rw [hs6]; omega) HB7).trans (KpW.set_far (by omega) (by rw [HZ.out]; omega)))
      have HO7 : KeepsFrom W5.heap.size W (w7.setCell ⟨w.heap.size + 1 + 1 + 1, 0, none⟩ (.int .i64 ((c : Int) + 1 + (q : Int)))) := (HO6.out.trans ((keepsOthers_below HB7).trans (KeepsOthers.setCell _ _ _))).from _
      have e3 := H3.set (.int .i64 ((c : Int) + 1 + (q : Int)))
      have e1 := e1.other (B' := w.heap.size + 1 + 1 + 1) (by omega) (.int .i64 ((c : Int) + 1 + (q : Int)))
      have e2 := e2.other (B' := w.heap.size + 1 + 1 + 1) (by omega) (.int .i64 ((c : Int) + 1 + (q : Int)))
      have ea := (setCell_far w7 ⟨w.heap.size + 1 + 1 + 1, 0, none⟩ (.int .i64 ((c : Int) + 1 + (q : Int))) Ba (by show Ba ≠ w.heap.size + 1 + 1 + 1; omega)).trans ea
      generalize w7.setCell ⟨w.heap.size + 1 + 1 + 1, 0, none⟩ (.int .i64 ((c : Int) + 1 + (q : Int))) = W8 at *
      have k1 := e1.cell
      have k2 := e2.cell
      have k2f := e2.frozen
      have k3 := e3.cell
      have ka := cell_of_row W8 _ 0 _ 69 (0, 0) ea
      have HE1 := Lib.hid e1
      have HE2 := Lib.hid e2
      have HE3 := Lib.hid e3
      have HBI := Lib.hid (hB1.trans HK7.1)
      clear e1 e2 e3 ea H3 HB7
      by_cases hgt : (M : Int) < (c : Int) + 1 + (q : Int)
      · have hd1 : decide ((M : Int) < (c : Int) + 1 + (q : Int)) = true := by simp; omega
        gi_wp2
        refine ⟨HO7.trans ((KeepsOthers.setCell _ _ _).from _), ⟨rfl, ?_⟩, HE2.out.set _, HBI.out.trans (below_set (Below.refl _ _) _ _ (by show w.heap.size ≤ w.heap.size + 1 + 1; omega))⟩
        have := HCD.out
        have := HQ.out
        omega
      · have hd1 : decide ((M : Int) < (c : Int) + 1 + (q : Int)) = false := by simp; omega
        have hf : cnt ((xs ++ [x]).map It.tag) = c + 1 + q := by
          have := HCD.out
          have := HQ.out
          omega
        gi_wp2
        refine ⟨HO7, HK7, ⟨⟨HE1.out, HE2.out⟩, ?_⟩, ?_, HBI.out⟩
        · rw [hf]; exact HE3.out
        · rw [hf]; omega
  case done =>
    rintro D xs W hD hxs ⟨⟨⟨b1, b2⟩, b3⟩, hc, hB1⟩ hK
    rw [hxs, cnt_pre] at b3 hc
    have c3 := b3.cell
    have c2 := b2.cell
    have f2 := b2.frozen
    have hlt := b2.lt
    have hDb : D ≠ w.heap.size + 1 + 1 := by rw [HZ.out] at hD; omega
    gi_wp2
    refine ⟨by simp, .inl ⟨_, _, rfl, run_takeDeferred ((setCell_far _ _ _ _ (by show D ≠ w.heap.size + 1 + 1; exact hDb)).trans hK), ?_⟩⟩
    have hmin : min (tnodes t) (M + 1) = tnodes t := by omega
    rw [hmin]
    refine ⟨_, res_cell1 rfl _ _ (w.heap.size + 1 + 1) _ rfl ?_ Tryd.underlying3 (.inl ⟨_, rfl⟩), rfl, ?_⟩
    · refine cell_heap (World.putObj_heap_other (fun e => hDb e.symm)) |>.trans ?_
      exact (b2.set _).cell
    · refine (HB.out.trans hB1).trans ?_
      exact (below_set (Below.refl _ _) _ _ (by show w.heap.size ≤ w.heap.size + 1 + 1; omega)).trans ((Below.refl _ _).grown (grownBy_putObj' _ D _) (by rw [setCell_size]; omega) (fun k e => by cases e; rw [HZ.out] at hD; omega))
  case stop =>
    rintro D c xs W hD hxs ⟨⟨rfl, hc⟩, b2, hB1⟩ hK
    have hDb : D ≠ w.heap.size + 1 + 1 := by rw [HZ.out] at hD; omega
    have hlt := b2.lt
    gi_wp2
    refine ⟨by simp, .inl ⟨_, _, rfl, run_takeDeferred hK, ?_⟩⟩
    have hmin : min (tnodes t) (M + 1) = M + 1 := by
      obtain ⟨r, hr⟩ := hxs
      have q := cnt_pre t 0 0
      rw [← hr, cnt_append] at q
      omega
    rw [hmin]
    refine ⟨_, res_cell1 rfl _ _ (w.heap.size + 1 + 1) _ rfl ?_ Tryd.underlying3 (.inl ⟨_, rfl⟩), rfl, ?_⟩
    · refine cell_heap (World.putObj_heap_other (fun e => hDb e.symm)) |>.trans ?_
      exact b2.cell
    · exact (HB.out.trans hB1).trans ((Below.refl _ _).grown (grownBy_putObj' _ D _) (by omega) (fun k e => by cases e; rw [HZ.out] at hD; omega))
end Trm
end Go.Proofs.YtlijdgamobpndaaDoor
/-
  The contracts of the program's functions Nodes and isBounded.
  Conditions: the term lies in memory as told by 'TmV'; it has at most 100000 nodes.
-/
namespace Go.Proofs.YtlijdgamobpndaaDoor
open Go.RowKit Go.Shelf
open Lvl
namespace Trm

set_option maxRecDepth 100000 in
set_option maxHeartbeats 1000000 in
theorem tnodes_is (t : Tm) (v : Value) (w : World) (hv : TmV w t v) (hm : tnodes t ≤ 100000) (R : Nat) (hR : min (tnodes t) 2001 = R) :
    Calls Tryd.prog 33 #[v] w (Ret w (.int .i64 R)) := by
  obtain ⟨l, s, rfl, ht⟩ := hv
  obtain ⟨⟨la, ll, lc, rfl⟩, sa, sl, sc, rfl⟩ := tmP_slices ht
  have HV := Lib.hid (show TmV w t _ from ⟨_, _, rfl, ht⟩)
  have HM := Lib.hid hm
  have HR := Lib.hid hR
  dsimp only [tv] at HV ⊢
  generalize tkOf t = k at *
  generalize tnOf t = n at *
  generalize tmOf t = m at *
  clear ht hm hR
  go_enter Tryd.func33, Tryd.ntmps33
  go_wp2_with fail
  have HB := Lib.hid (below_lit w (.cells #[.int .i64 k, .int .i64 n, .string m, .slice la ll lc, .slice sa sl sc] 25))
  generalize w.alloc (.cells #[.int .i64 k, .int .i64 n, .string m, .slice la ll lc, .slice sa sl sc] 25) = W at *
  refine (count_is t _ W (HV.out.below HB.out) HM.out 2000 (by omega)).mono ?_
  rintro e w2 ⟨rfl, hb2⟩
  rw [HR.out]
  have HB2 := Lib.hid (HB.out.trans (hb2.mono HB.out.size))
  clear hb2
  go_wp2_with fail
  go_ret
  exact ⟨rfl, HB2.out⟩

end Trm
end Go.Proofs.YtlijdgamobpndaaDoor
/-
  The contracts of the program's functions own$1 and own: a term in memory of its own.
  Conditions: the term lies in memory as told by 'TmV'; it has at most 100000 nodes, and its levels at most 1000 each.
-/
namespace Go.Proofs.YtlijdgamobpndaaDoor
open Go.RowKit
open Lvl
namespace Trm

/-- Nothing is changed. -/
def fId : Int → Int → List Lv → Int → Int × List Lv := fun _ n ls _ => (n, ls)
def cAll : Int → Int → List Lv → Int → Prop := fun _ _ _ _ => True
mutual
theorem remT_id : ∀ (t : Tm) (d : Int), remT fId t d = t
  | .mk k n m ls ts, d => by
    rw [remT, remL_id k ts.length ts 0 d]
    rfl
theorem remL_id (k : Int) (len : Nat) : ∀ (ts : List Tm) (i : Nat) (d : Int), remL fId k len ts i d = ts
  | [], _, _ => by rw [remL]
  | a :: ts, i, d => by rw [remL, remT_id a, remL_id k len ts]
end
/-- The levels have at most 1000 nodes each. -/
def lvOk (t : Tm) : Prop := okC cAll t 0

end Trm
end Go.Proofs.YtlijdgamobpndaaDoor
/-
  The contract of the program's function node, and rows of terms that are laid out at once.
  Conditions: each text's own.
-/
namespace Go.Proofs.YtlijdgamobpndaaDoor
open Go.RowKit
open Lvl
namespace Trm

/-- A row that is laid out. -/
theorem tsP_row {w : World} {P : Nat → Prop} {b : Nat} {ts : List Tm} {ss : List (Value × Value)} (hl : ts.length = ss.length) (hr : w.heap[b]? = some (.cells (cells5 ts ss).toArray 25 (0, 0))) (hP : P b) (hk : ∀ i (h1 : i < ts.length) (h2 : i < ss.length), TmP w P ts[i] ss[i].1 ss[i].2) : TsP w P (some ⟨b, 0, none⟩) 0 ts :=
  tsP_of ts 0 fun i hi => by
    obtain ⟨c0, c1, c2, c3, c4⟩ := cells5_get ts ss i hi (by omega)
    refine ⟨b, 0, ss[i].1, ss[i].2, rfl, (Array.getElem?_eq_some_iff.1 hr).1, hP, ?_, ?_, ?_, ?_, ?_, hk i hi (by omega)⟩
    · rw [Nat.zero_add, Nat.zero_add, cell_of_row w b _ _ _ (0, 0) hr]; simpa using c0
    · rw [Nat.zero_add, Nat.zero_add, cell_of_row w b _ _ _ (0, 0) hr]; simpa using c1
    · rw [Nat.zero_add, Nat.zero_add, cell_of_row w b _ _ _ (0, 0) hr]; simpa using c2
    · rw [Nat.zero_add, Nat.zero_add, cell_of_row w b _ _ _ (0, 0) hr]; simpa using c3
    · rw [Nat.zero_add, Nat.zero_add, cell_of_row w b _ _ _ (0, 0) hr]; simpa using c4
theorem lvP_nil (w : World) (P : Nat → Prop) : LvP w P (.mk 0 0 []) (.slice none 0 0) := lvP_leaf w P 0 0
/-- A node over two terms. -/
theorem tmP_two {w : World} {P : Nat → Prop} {b : Nat} {t u : Tm} {l s l' s' : Value} (hr : w.heap[b]? = some (.cells #[.int .i64 (tkOf t), .int .i64 (tnOf t), .string (tmOf t), l, s, .int .i64 (tkOf u), .int .i64 (tnOf u), .string (tmOf u), l', s'] 25 (0, 0))) (hP : P b) (ht : TmP w P t l s) (hu : TmP w P u l' s') (k n : Int) (m : ByteArray) :
    TmP w P (.mk k n m [] [t, u]) (.slice none 0 0) (.slice (some ⟨b, 0, none⟩) 2 2) := by
  rw [TmP]
  refine ⟨lvP_nil w P, some ⟨b, 0, none⟩, 2, 2, rfl, rfl, Nat.le_refl _, by omega, (fun e => by cases e), tsP_row (ss := [(l, s), (l', s')]) rfl hr hP fun i h1 h2 => ?_⟩
  match i, h1 with
  | 0, _ => exact ht
  | 1, _ => exact hu
/-- A node over three terms. -/
theorem tmP_three {w : World} {P : Nat → Prop} {b : Nat} {t u v : Tm} {l s l' s' l2 s2 : Value} (hr : w.heap[b]? = some (.cells #[.int .i64 (tkOf t), .int .i64 (tnOf t), .string (tmOf t), l, s, .int .i64 (tkOf u), .int .i64 (tnOf u), .string (tmOf u), l', s', .int .i64 (tkOf v), .int .i64 (tnOf v), .string (tmOf v), l2, s2] 25 (0, 0))) (hP : P b) (ht : TmP w P t l s) (hu : TmP w P u l' s') (hv : TmP w P v l2 s2) (k n : Int) (m : ByteArray) :
    TmP w P (.mk k n m [] [t, u, v]) (.slice none 0 0) (.slice (some ⟨b, 0, none⟩) 3 3) := by
  rw [TmP]
  refine ⟨lvP_nil w P, some ⟨b, 0, none⟩, 3, 3, rfl, rfl, Nat.le_refl _, by omega, (fun e => by cases e), tsP_row (ss := [(l, s), (l', s'), (l2, s2)]) rfl hr hP fun i h1 h2 => ?_⟩
  match i, h1 with
  | 0, _ => exact ht
  | 1, _ => exact hu
  | 2, _ => exact hv
theorem apps_snoc : ∀ (l : List Tm) (f a : Tm), apps f (l ++ [a]) = .mk 4 0 ⟨#[]⟩ [] [apps f l, a]
  | [], f, a => by rw [List.nil_append, apps, apps, apps]
  | b :: l, f, a => by rw [List.cons_append, apps, apps_snoc l, apps]
end Trm
end Go.Proofs.YtlijdgamobpndaaDoor
