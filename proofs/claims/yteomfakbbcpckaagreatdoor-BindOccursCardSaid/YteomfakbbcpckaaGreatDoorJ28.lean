/-
  Plain facts and contracts that the law's proof stands on, joined.
  Conditions: each fact's own.
-/
import Derived.Test.YteomfakbbcpckaaGreatDoorJ09
import Derived.Test.YteomfakbbcpckaaGreatDoorJ12
import Derived.Test.YteomfakbbcpckaaGreatDoorJ06
import Derived.Test.YteomfakbbcpckaaGreatDoorJ04
import Derived.Test.YteomfakbbcpckaaGreatDoorJ27
import Derived.Test.YteomfakbbcpckaaGreatDoorJ07
namespace Go.Proofs.YteomfakbbcpckaaGreatDoor
open Go.RowKit Go.Shelf
open Lvl
namespace Trm
attribute [local go_sem] Oper.semAt_some
def tooDeep (l : List (Tm × Nat × Nat)) : Prop := ∃ q, q ∈ l ∧ 131072 < q.2.1
theorem tooDeep_last {w : World} {G : Tm × Nat × Nat → Prop} (xs : List (ItW w G)) (x : ItW w G) (h : 131072 < x.d) : tooDeep ((xs ++ [x]).map ItW.tag) :=
 ⟨x.tag, List.mem_map_of_mem (List.mem_append_right _ (List.mem_singleton.2 rfl)), h⟩
set_option maxRecDepth 100000 in
set_option maxHeartbeats 4000000 in
theorem count_free (t : Tm) (v : Value) (w : World) (hv : TmV w t v) (M : Nat) (hM : M ≤ 100000) :
  Calls Tryz.prog 123 #[v, .int .i64 M] w (Ret w (.int .i64 (min (tnodes t) (M + 1) : Nat))) := by
 obtain ⟨l, s, rfl, ht⟩ := hv
 obtain ⟨⟨la, ll, lc, rfl⟩, sa, sl, sc, rfl⟩ := tmP_slices ht
 have HTT := Lib.hid ht
 obtain ⟨k, hk⟩ : ∃ k, tkOf t = k := ⟨_, rfl⟩
 obtain ⟨n, hn⟩ : ∃ n, tnOf t = n := ⟨_, rfl⟩
 obtain ⟨m, hmm⟩ : ∃ m, tmOf t = m := ⟨_, rfl⟩
 dsimp only [tv]
 rw [hk, hn, hmm]
 have HK := Lib.hid hk
 have HNN := Lib.hid hn
 have HMM := Lib.hid hmm
 clear hk hn hmm ht
 refine (callsIn_wide (n := 13)).1 (callsIn_of_wp_marks Tryz.func123 rfl trivial ?_ rfl)
 simp only [Tryz.ntmps123, List.size_toArray, List.length_cons, List.length_nil, Nat.reduceAdd, Nat.reduceSub, Array.replicate_succ, Array.replicate_zero, List.push_toArray, List.append_toArray, List.nil_append, List.cons_append]
 gi_wp2_with (refine ⟨trivial, ?_⟩; gi_at_call 74; refine (callsIn_wide.2 (nodes_in k n m la ll lc sa sl sc _)).mono ?_; rintro e w' ⟨rfl, rfl⟩)
 have z1 : (w.alloc (.cells #[.int .i64 k, .int .i64 n, .string m, .slice la ll lc, .slice sa sl sc] 25)).heap.size = w.heap.size + 1 := by simp
 have z2 : ((w.alloc (.cells #[.int .i64 k, .int .i64 n, .string m, .slice la ll lc, .slice sa sl sc] 25)).alloc (.cells #[.int .i64 M] 3)).heap.size = w.heap.size + 1 + 1 := by simp
 have z3 : (((w.alloc (.cells #[.int .i64 k, .int .i64 n, .string m, .slice la ll lc, .slice sa sl sc] 25)).alloc (.cells #[.int .i64 M] 3)).alloc (.cells #[.int .i64 0] 3)).heap.size = w.heap.size + 1 + 1 + 1 := by simp
 have z4 : ((((w.alloc (.cells #[.int .i64 k, .int .i64 n, .string m, .slice la ll lc, .slice sa sl sc] 25)).alloc (.cells #[.int .i64 M] 3)).alloc (.cells #[.int .i64 0] 3)).alloc (.cells #[.int .i64 0] 3)).heap.size = w.heap.size + 1 + 1 + 1 + 1 := by simp
 have z5 : (((((w.alloc (.cells #[.int .i64 k, .int .i64 n, .string m, .slice la ll lc, .slice sa sl sc] 25)).alloc (.cells #[.int .i64 M] 3)).alloc (.cells #[.int .i64 0] 3)).alloc (.cells #[.int .i64 0] 3)).alloc (.cells #[.int .i64 k, .int .i64 n, .string m, .slice la ll lc, .slice sa sl sc] 25)).heap.size = w.heap.size + 1 + 1 + 1 + 1 + 1 := by simp
 have r0 : (w.alloc (.cells #[.int .i64 k, .int .i64 n, .string m, .slice la ll lc, .slice sa sl sc] 25)).heap[w.heap.size]? = some (Obj.cells #[.int .i64 k, .int .i64 n, .string m, .slice la ll lc, .slice sa sl sc] 25 (0, 0)) := by
  have := heap_alloc_new w (.cells #[.int .i64 k, .int .i64 n, .string m, .slice la ll lc, .slice sa sl sc] 25)
  exact this
 have r1 : ((w.alloc (.cells #[.int .i64 k, .int .i64 n, .string m, .slice la ll lc, .slice sa sl sc] 25)).alloc (.cells #[.int .i64 M] 3)).heap[w.heap.size + 1]? = some (Obj.cells #[.int .i64 M] 3 (0, 0)) := by
  have := heap_alloc_new (w.alloc (.cells #[.int .i64 k, .int .i64 n, .string m, .slice la ll lc, .slice sa sl sc] 25)) (.cells #[.int .i64 M] 3)
  rwa [z1] at this
 have r2 : (((w.alloc (.cells #[.int .i64 k, .int .i64 n, .string m, .slice la ll lc, .slice sa sl sc] 25)).alloc (.cells #[.int .i64 M] 3)).alloc (.cells #[.int .i64 0] 3)).heap[w.heap.size + 1 + 1]? = some (Obj.cells #[.int .i64 0] 3 (0, 0)) := by
  have := heap_alloc_new ((w.alloc (.cells #[.int .i64 k, .int .i64 n, .string m, .slice la ll lc, .slice sa sl sc] 25)).alloc (.cells #[.int .i64 M] 3)) (.cells #[.int .i64 0] 3)
  rwa [z2] at this
 have r3 : ((((w.alloc (.cells #[.int .i64 k, .int .i64 n, .string m, .slice la ll lc, .slice sa sl sc] 25)).alloc (.cells #[.int .i64 M] 3)).alloc (.cells #[.int .i64 0] 3)).alloc (.cells #[.int .i64 0] 3)).heap[w.heap.size + 1 + 1 + 1]? = some (Obj.cells #[.int .i64 0] 3 (0, 0)) := by
  have := heap_alloc_new (((w.alloc (.cells #[.int .i64 k, .int .i64 n, .string m, .slice la ll lc, .slice sa sl sc] 25)).alloc (.cells #[.int .i64 M] 3)).alloc (.cells #[.int .i64 0] 3)) (.cells #[.int .i64 0] 3)
  rwa [z3] at this
 have r4 : (((((w.alloc (.cells #[.int .i64 k, .int .i64 n, .string m, .slice la ll lc, .slice sa sl sc] 25)).alloc (.cells #[.int .i64 M] 3)).alloc (.cells #[.int .i64 0] 3)).alloc (.cells #[.int .i64 0] 3)).alloc (.cells #[.int .i64 k, .int .i64 n, .string m, .slice la ll lc, .slice sa sl sc] 25)).heap[w.heap.size + 1 + 1 + 1 + 1]? = some (Obj.cells #[.int .i64 k, .int .i64 n, .string m, .slice la ll lc, .slice sa sl sc] 25 (0, 0)) := by
  have := heap_alloc_new ((((w.alloc (.cells #[.int .i64 k, .int .i64 n, .string m, .slice la ll lc, .slice sa sl sc] 25)).alloc (.cells #[.int .i64 M] 3)).alloc (.cells #[.int .i64 0] 3)).alloc (.cells #[.int .i64 0] 3)) (.cells #[.int .i64 k, .int .i64 n, .string m, .slice la ll lc, .slice sa sl sc] 25)
  rwa [z4] at this
 have HB := Lib.hid (((((below_lit w (.cells #[.int .i64 k, .int .i64 n, .string m, .slice la ll lc, .slice sa sl sc] 25)).trans ((below_lit (w.alloc (.cells #[.int .i64 k, .int .i64 n, .string m, .slice la ll lc, .slice sa sl sc] 25)) (.cells #[.int .i64 M] 3)).mono (below_lit w (.cells #[.int .i64 k, .int .i64 n, .string m, .slice la ll lc, .slice sa sl sc] 25)).size)).trans ((below_lit ((w.alloc (.cells #[.int .i64 k, .int .i64 n, .string m, .slice la ll lc, .slice sa sl sc] 25)).alloc (.cells #[.int .i64 M] 3)) (.cells #[.int .i64 0] 3)).mono ((below_lit w (.cells #[.int .i64 k, .int .i64 n, .string m, .slice la ll lc, .slice sa sl sc] 25)).trans ((below_lit (w.alloc (.cells #[.int .i64 k, .int .i64 n, .string m, .slice la ll lc, .slice sa sl sc] 25)) (.cells #[.int .i64 M] 3)).mono (below_lit w (.cells #[.int .i64 k, .int .i64 n, .string m, .slice la ll lc, .slice sa sl sc] 25)).size)).size)).trans ((below_lit (((w.alloc (.cells #[.int .i64 k, .int .i64 n, .string m, .slice la ll lc, .slice sa sl sc] 25)).alloc (.cells #[.int .i64 M] 3)).alloc (.cells #[.int .i64 0] 3)) (.cells #[.int .i64 0] 3)).mono (((below_lit w (.cells #[.int .i64 k, .int .i64 n, .string m, .slice la ll lc, .slice sa sl sc] 25)).trans ((below_lit (w.alloc (.cells #[.int .i64 k, .int .i64 n, .string m, .slice la ll lc, .slice sa sl sc] 25)) (.cells #[.int .i64 M] 3)).mono (below_lit w (.cells #[.int .i64 k, .int .i64 n, .string m, .slice la ll lc, .slice sa sl sc] 25)).size)).trans ((below_lit ((w.alloc (.cells #[.int .i64 k, .int .i64 n, .string m, .slice la ll lc, .slice sa sl sc] 25)).alloc (.cells #[.int .i64 M] 3)) (.cells #[.int .i64 0] 3)).mono ((below_lit w (.cells #[.int .i64 k, .int .i64 n, .string m, .slice la ll lc, .slice sa sl sc] 25)).trans ((below_lit (w.alloc (.cells #[.int .i64 k, .int .i64 n, .string m, .slice la ll lc, .slice sa sl sc] 25)) (.cells #[.int .i64 M] 3)).mono (below_lit w (.cells #[.int .i64 k, .int .i64 n, .string m, .slice la ll lc, .slice sa sl sc] 25)).size)).size)).size)).trans ((below_lit ((((w.alloc (.cells #[.int .i64 k, .int .i64 n, .string m, .slice la ll lc, .slice sa sl sc] 25)).alloc (.cells #[.int .i64 M] 3)).alloc (.cells #[.int .i64 0] 3)).alloc (.cells #[.int .i64 0] 3)) (.cells #[.int .i64 k, .int .i64 n, .string m, .slice la ll lc, .slice sa sl sc] 25)).mono ((((below_lit w (.cells #[.int .i64 k, .int .i64 n, .string m, .slice la ll lc, .slice sa sl sc] 25)).trans ((below_lit (w.alloc (.cells #[.int .i64 k, .int .i64 n, .string m, .slice la ll lc, .slice sa sl sc] 25)) (.cells #[.int .i64 M] 3)).mono (below_lit w (.cells #[.int .i64 k, .int .i64 n, .string m, .slice la ll lc, .slice sa sl sc] 25)).size)).trans ((below_lit ((w.alloc (.cells #[.int .i64 k, .int .i64 n, .string m, .slice la ll lc, .slice sa sl sc] 25)).alloc (.cells #[.int .i64 M] 3)) (.cells #[.int .i64 0] 3)).mono ((below_lit w (.cells #[.int .i64 k, .int .i64 n, .string m, .slice la ll lc, .slice sa sl sc] 25)).trans ((below_lit (w.alloc (.cells #[.int .i64 k, .int .i64 n, .string m, .slice la ll lc, .slice sa sl sc] 25)) (.cells #[.int .i64 M] 3)).mono (below_lit w (.cells #[.int .i64 k, .int .i64 n, .string m, .slice la ll lc, .slice sa sl sc] 25)).size)).size)).trans ((below_lit (((w.alloc (.cells #[.int .i64 k, .int .i64 n, .string m, .slice la ll lc, .slice sa sl sc] 25)).alloc (.cells #[.int .i64 M] 3)).alloc (.cells #[.int .i64 0] 3)) (.cells #[.int .i64 0] 3)).mono (((below_lit w (.cells #[.int .i64 k, .int .i64 n, .string m, .slice la ll lc, .slice sa sl sc] 25)).trans ((below_lit (w.alloc (.cells #[.int .i64 k, .int .i64 n, .string m, .slice la ll lc, .slice sa sl sc] 25)) (.cells #[.int .i64 M] 3)).mono (below_lit w (.cells #[.int .i64 k, .int .i64 n, .string m, .slice la ll lc, .slice sa sl sc] 25)).size)).trans ((below_lit ((w.alloc (.cells #[.int .i64 k, .int .i64 n, .string m, .slice la ll lc, .slice sa sl sc] 25)).alloc (.cells #[.int .i64 M] 3)) (.cells #[.int .i64 0] 3)).mono ((below_lit w (.cells #[.int .i64 k, .int .i64 n, .string m, .slice la ll lc, .slice sa sl sc] 25)).trans ((below_lit (w.alloc (.cells #[.int .i64 k, .int .i64 n, .string m, .slice la ll lc, .slice sa sl sc] 25)) (.cells #[.int .i64 M] 3)).mono (below_lit w (.cells #[.int .i64 k, .int .i64 n, .string m, .slice la ll lc, .slice sa sl sc] 25)).size)).size)).size)).size))
 have HR0 := Lib.hid ((heap_alloc_old ((((w.alloc (.cells #[.int .i64 k, .int .i64 n, .string m, .slice la ll lc, .slice sa sl sc] 25)).alloc (.cells #[.int .i64 M] 3)).alloc (.cells #[.int .i64 0] 3)).alloc (.cells #[.int .i64 0] 3)) (.cells #[.int .i64 k, .int .i64 n, .string m, .slice la ll lc, .slice sa sl sc] 25) (by rw [z4]; omega)).trans ((heap_alloc_old (((w.alloc (.cells #[.int .i64 k, .int .i64 n, .string m, .slice la ll lc, .slice sa sl sc] 25)).alloc (.cells #[.int .i64 M] 3)).alloc (.cells #[.int .i64 0] 3)) (.cells #[.int .i64 0] 3) (by rw [z3]; omega)).trans ((heap_alloc_old ((w.alloc (.cells #[.int .i64 k, .int .i64 n, .string m, .slice la ll lc, .slice sa sl sc] 25)).alloc (.cells #[.int .i64 M] 3)) (.cells #[.int .i64 0] 3) (by rw [z2]; omega)).trans ((heap_alloc_old (w.alloc (.cells #[.int .i64 k, .int .i64 n, .string m, .slice la ll lc, .slice sa sl sc] 25)) (.cells #[.int .i64 M] 3) (by rw [z1]; omega)).trans (r0)))))
 have HR1 := Lib.hid ((heap_alloc_old ((((w.alloc (.cells #[.int .i64 k, .int .i64 n, .string m, .slice la ll lc, .slice sa sl sc] 25)).alloc (.cells #[.int .i64 M] 3)).alloc (.cells #[.int .i64 0] 3)).alloc (.cells #[.int .i64 0] 3)) (.cells #[.int .i64 k, .int .i64 n, .string m, .slice la ll lc, .slice sa sl sc] 25) (by rw [z4]; omega)).trans ((heap_alloc_old (((w.alloc (.cells #[.int .i64 k, .int .i64 n, .string m, .slice la ll lc, .slice sa sl sc] 25)).alloc (.cells #[.int .i64 M] 3)).alloc (.cells #[.int .i64 0] 3)) (.cells #[.int .i64 0] 3) (by rw [z3]; omega)).trans ((heap_alloc_old ((w.alloc (.cells #[.int .i64 k, .int .i64 n, .string m, .slice la ll lc, .slice sa sl sc] 25)).alloc (.cells #[.int .i64 M] 3)) (.cells #[.int .i64 0] 3) (by rw [z2]; omega)).trans (r1))))
 have HR2 := Lib.hid ((heap_alloc_old ((((w.alloc (.cells #[.int .i64 k, .int .i64 n, .string m, .slice la ll lc, .slice sa sl sc] 25)).alloc (.cells #[.int .i64 M] 3)).alloc (.cells #[.int .i64 0] 3)).alloc (.cells #[.int .i64 0] 3)) (.cells #[.int .i64 k, .int .i64 n, .string m, .slice la ll lc, .slice sa sl sc] 25) (by rw [z4]; omega)).trans ((heap_alloc_old (((w.alloc (.cells #[.int .i64 k, .int .i64 n, .string m, .slice la ll lc, .slice sa sl sc] 25)).alloc (.cells #[.int .i64 M] 3)).alloc (.cells #[.int .i64 0] 3)) (.cells #[.int .i64 0] 3) (by rw [z3]; omega)).trans (r2)))
 have HR3 := Lib.hid ((heap_alloc_old ((((w.alloc (.cells #[.int .i64 k, .int .i64 n, .string m, .slice la ll lc, .slice sa sl sc] 25)).alloc (.cells #[.int .i64 M] 3)).alloc (.cells #[.int .i64 0] 3)).alloc (.cells #[.int .i64 0] 3)) (.cells #[.int .i64 k, .int .i64 n, .string m, .slice la ll lc, .slice sa sl sc] 25) (by rw [z4]; omega)).trans (r3))
 have HR4 := Lib.hid (r4)
 clear r0 r1 r2 r3 r4
 generalize (((((w.alloc (.cells #[.int .i64 k, .int .i64 n, .string m, .slice la ll lc, .slice sa sl sc] 25)).alloc (.cells #[.int .i64 M] 3)).alloc (.cells #[.int .i64 0] 3)).alloc (.cells #[.int .i64 0] 3)).alloc (.cells #[.int .i64 k, .int .i64 n, .string m, .slice la ll lc, .slice sa sl sc] 25)) = W5 at *
 have HZ := Lib.hid z5
 clear z1 z2 z3 z4 z5
 have hGG : ∀ q, q ∈ pre t 0 0 → (fun _ : Tm × Nat × Nat => True) q := fun _ _ => trivial
 refine wpIn_rangeFunc_ownH rfl (by decide) (gf := 101) (lb := #[.pointer (some ⟨w.heap.size + 1 + 1 + 1 + 1, 0, none⟩)]) rfl trivial (enters_of Tryz.func101 (by kernel_rfl) rfl) (encs := fun x : ItW w (fun _ : Tm × Nat × Nat => True) => #[.agg #[.int .i64 (tkOf x.t), .int .i64 (tnOf x.t), .string (tmOf x.t), .slice x.la x.ll x.lc, .slice x.sa x.sl x.sc], .agg #[.int .i64 (wz x.d), .int .i64 (wz x.b)]])
  (nodes_free w (fun _ : Tm × Nat × Nat => True) W5.heap.size (w.heap.size + 1 + 1 + 1 + 1) t la ll lc sa sl sc W5 (by rw [HK.out, HNN.out, HMM.out]; exact HR4.out) HTT.out (by rw [HZ.out]; omega) (Nat.le_refl _) HB.out hGG) (fun h k => h.trans k) (KpW.put (by rw [HZ.out]; omega) rfl) (Below.refl _ _) (fun _ => rfl)
  (fun xs W => ((Boxed W (w.heap.size + 1) 3 (.int .i64 M) ∧ Boxed W (w.heap.size + 1 + 1) 3 (.int .i64 0)) ∧ Boxed W (w.heap.size + 1 + 1 + 1) 3 (.int .i64 (cnt (xs.map ItW.tag)))) ∧ (cnt (xs.map ItW.tag) ≤ M ∧ Below w.heap.size W5 W))
  (fun c xs W => (c = .ret ∧ (M < cnt (xs.map ItW.tag) ∨ tooDeep (xs.map ItW.tag))) ∧ (Boxed W (w.heap.size + 1 + 1) 3 (.int .i64 (M + 1)) ∧ Below w.heap.size W5 W))
  (OwnFrom.and (OwnFrom.and (OwnFrom.and (Own.from (boxed_own _ _ _) _) (Own.from (boxed_own _ _ _) _)) (Own.from (boxed_own _ _ (fun xs : List (ItW w (fun _ : Tm × Nat × Nat => True)) => Value.int .i64 (cnt (xs.map ItW.tag)))) _)) (OwnFrom.and (ownFrom_pure _ _) (ownFrom_below (by rw [HZ.out]; omega) (by rw [HZ.out]; omega))))
  (fun c => OwnFrom.and (ownFrom_pure _ _) (OwnFrom.and (Own.from (boxed_own _ _ _) _) (ownFrom_below (by rw [HZ.out]; omega) (by rw [HZ.out]; omega))))
  ⟨⟨⟨HR1.out, HR2.out⟩, HR3.out⟩, Nat.zero_le _, Below.refl _ _⟩
  (fun x a' W => (∃ Bn Ba, a' = { tmps := #[.agg #[.int .i64 k, .int .i64 n, .string m, .slice la ll lc, .slice sa sl sc], .int .i64 M, .pointer (some ⟨w.heap.size, 0, none⟩), .pointer (some ⟨w.heap.size + 1, 0, none⟩), .pointer (some ⟨w.heap.size + 1 + 1, 0, none⟩), .pointer (some ⟨w.heap.size + 1 + 1 + 1, 0, none⟩), .pointer (some ⟨Bn, 0, none⟩), .pointer (some ⟨Ba, 0, none⟩), .agg #[.int .i64 k, .int .i64 n, .string m, .slice la ll lc, .slice sa sl sc], .func (.func 101) #[] #[.pointer (some ⟨w.heap.size + 1 + 1 + 1 + 1, 0, none⟩)], .agg #[.int .i64 (tkOf x.t), .int .i64 (tnOf x.t), .string (tmOf x.t), .slice x.la x.ll x.lc, .slice x.sa x.sl x.sc], .agg #[.int .i64 (wz x.d), .int .i64 (wz x.b)], undef, undef, undef, undef, undef, undef, undef, undef, undef, undef, undef, undef, undef, undef, undef, undef, undef, undef, undef, undef, undef], defers := [] } ∧ (w.heap.size + 1 + 1 + 1 + 1 + 1 ≤ Bn ∧ w.heap.size + 1 + 1 + 1 + 1 + 1 ≤ Ba) ∧ W.heap[Bn]? = some (.cells #[.int .i64 (tkOf x.t), .int .i64 (tnOf x.t), .string (tmOf x.t), .slice x.la x.ll x.lc, .slice x.sa x.sl x.sc] 25 (0, 0)) ∧ W.heap[Ba]? = some (.cells #[.int .i64 (wz x.d), .int .i64 (wz x.b)] 113 (0, 0))))
  (fun x a' _ X Y row hs hg hr => by
   obtain ⟨Bn, Ba, h1, h2, h3, h4⟩ := hs
   exact ⟨Bn, Ba, h1, h2, (grownBy_keeps_cells hg (fun r e => (hr r e).2) h3 rfl).trans h3, (grownBy_keeps_cells hg (fun r e => (hr r e).2) h4 rfl).trans h4⟩)
  ?assign ?body ?done ?stop
 case assign =>
  rintro l xs x W K ⟨⟨⟨b1, b2⟩, b3⟩, hc, hB1⟩ hK
  have hsz : w.heap.size + 1 + 1 + 1 + 1 + 1 ≤ W.heap.size := by rw [← HZ.out]; exact hB1.size
  gi_wp2
  have hb := below_lit W (.cells #[.int .i64 (tkOf x.t), .int .i64 (tnOf x.t), .string (tmOf x.t), .slice x.la x.ll x.lc, .slice x.sa x.sl x.sc] 25)
  have hb2 := hb.trans ((below_lit (W.alloc (.cells #[.int .i64 (tkOf x.t), .int .i64 (tnOf x.t), .string (tmOf x.t), .slice x.la x.ll x.lc, .slice x.sa x.sl x.sc] 25)) (.cells #[.int .i64 (wz x.d), .int .i64 (wz x.b)] 113)).mono hb.size)
  refine hK _ _ (((KeepsOthers.alloc _ _).trans (KeepsOthers.alloc _ _)).from _) (KpW.of_below (by omega) hb2) ⟨⟨⟨(b1.alloc _).alloc _, (b2.alloc _).alloc _⟩, (b3.alloc _).alloc _⟩, hc, hB1.trans (hb2.mono (by omega))⟩ ⟨_, _, rfl, ⟨hsz, by omega⟩, ?_, ?_⟩
  ·exact (heap_alloc_old _ _ (by simp)).trans (heap_alloc_new W _)
  ·have := heap_alloc_new (W.alloc (.cells #[.int .i64 (tkOf x.t), .int .i64 (tnOf x.t), .string (tmOf x.t), .slice x.la x.ll x.lc, .slice x.sa x.sl x.sc] 25)) (.cells #[.int .i64 (wz x.d), .int .i64 (wz x.b)] 113)
   rwa [World.size_alloc] at this
 case body =>
  rintro l xs x a' W hl _ ⟨⟨⟨b1, b2⟩, b3⟩, hc, hB1⟩ ⟨Bn, Ba, rfl, ⟨hn1, ha1⟩, hrn, hra⟩ _
  have c1 := b1.cell
  have c3 := b3.cell
  have f3 := b3.frozen
  gi_wp2
  have hnB : w.heap.size + 1 + 1 + 1 + 1 + 1 ≤ W.heap.size := by rw [← HZ.out]; exact hB1.size
  have HLv : Hid (LvS w (.mk 0 0 (tlOf x.t)) (.slice x.la x.ll x.lc)) := by
   have : LvS w (.mk 0 0 (tlOf x.t)) (.slice x.la x.ll x.lc) := by
    have := x.ok
    generalize x.t = q at this
    cases q with
    | mk k n m ls ts => rw [TmP] at this; exact lvS_of _ _ this.1
   exact this
  obtain ⟨c, hcd⟩ : ∃ c, cnt (xs.map ItW.tag) = c := ⟨_, rfl⟩
  rw [hcd] at b3 c3 hc ⊢
  have HCD : Hid (cnt ((xs ++ [x]).map ItW.tag) = c + 1 + nodesL (tlOf x.t)) := by
   have : cnt ((xs ++ [x]).map ItW.tag) = c + 1 + nodesL (tlOf x.t) := by
    rw [List.map_append, cnt_append, hcd, List.map_cons, List.map_nil, cnt, cnt]
    show c + (1 + nodesL (tlOf x.t) + 0) = _
    omega
   exact this
  obtain ⟨W6, hW6⟩ : ∃ W6, W.setCell ⟨w.heap.size + 1 + 1 + 1, 0, none⟩ (.int .i64 ((c : Int) + 1)) = W6 := ⟨_, rfl⟩
  have g1 : Boxed W6 (w.heap.size + 1) 3 (.int .i64 M) := by rw [← hW6]; exact b1.other (by omega) _
  have g2 : Boxed W6 (w.heap.size + 1 + 1) 3 (.int .i64 0) := by rw [← hW6]; exact b2.other (by omega) _
  have g3 : Boxed W6 (w.heap.size + 1 + 1 + 1) 3 (.int .i64 ((c : Int) + 1)) := by rw [← hW6]; exact b3.set _
  have hrn6 : W6.heap[Bn]? = _ := (show W6.heap[Bn]? = W.heap[Bn]? by rw [← hW6]; exact setCell_far _ _ _ _ (by show Bn ≠ w.heap.size + 1 + 1 + 1; omega)).trans hrn
  have hra6 : W6.heap[Ba]? = _ := (show W6.heap[Ba]? = W.heap[Ba]? by rw [← hW6]; exact setCell_far _ _ _ _ (by show Ba ≠ w.heap.size + 1 + 1 + 1; omega)).trans hra
  have HK6 : Hid (KpW w.heap.size W5.heap.size W W6) := by
   have : KpW w.heap.size W5.heap.size W W6 := by
    rw [← hW6]
    exact KpW.set_far (by omega) (by rw [HZ.out]; omega)
   exact this
  have HO6 : Hid (KeepsOthers W W6) := by
   have : KeepsOthers W W6 := by rw [← hW6]; exact KeepsOthers.setCell _ _ _
   exact this
  have hs6 : W6.heap.size = W.heap.size := by rw [← hW6, setCell_size]
  rw [hW6]
  clear hW6 c1 c3 f3 b1 b2 b3 hrn hra
  have HG1 := Lib.hid g1
  have HG2 := Lib.hid g2
  have HG3 := Lib.hid g3
  have HRN := Lib.hid hrn6
  have HRA := Lib.hid hra6
  have HBW := Lib.hid (HB.out.trans hB1)
  have c1 : W6.drew.cell? ⟨w.heap.size + 1, 0, none⟩ = _ := g1.cell
  have c3 : W6.drew.cell? ⟨w.heap.size + 1 + 1 + 1, 0, none⟩ = _ := g3.cell
  have n3 : W6.drew.cell? ⟨Bn, 3, none⟩ = _ := (five_cells hrn6).2.2.2.1
  have HML : Hid ((M : Int) - ((c : Int) + 1) = ((M - c : Nat) : Int) - 1) := by
   have : (M : Int) - ((c : Int) + 1) = ((M - c : Nat) : Int) - 1 := by omega
   exact this
  have hcM : (c : Int) ≤ (M : Int) := by omega
  have hMM : (M : Int) ≤ 100000 := by omega
  clear g1 g2 g3 hrn6 hra6 hcd
  have hcall := CallsIn.inRound l ((callsIn_wide (n := 10)).2 (countLevels_free (nodesL (tlOf x.t)) (tlOf x.t) _ W6.drew ((M : Int) - ((c : Int) + 1)) (M - c) 131072 (Nat.le_refl _) (by omega) (by omega) (by omega) HML.out (lvS_below (HBW.out.trans (HK6.out.1)).drew _ _ HLv.out)))
  have HCALL := Lib.hid hcall
  clear hcall
  obtain ⟨q, hq⟩ : ∃ q, min (nodesL (tlOf x.t)) (M - c) = q := ⟨_, rfl⟩
  have hqM : (q : Int) ≤ (M : Int) - (c : Int) := by omega
  have HQ := Lib.hid hq
  clear hq
  have hmix : Tryz.prog.follows Departure.mixedOrders = true := by kernel_rfl
  have hww : IntKind.i64.wrap ((M : Int) - ((c : Int) + 1)) = (M : Int) - ((c : Int) + 1) := IntWalk.i64_in _ ⟨by omega, by omega⟩
  refine wpIn_mono (Q := fun e a' W' => ∃ w7, (Below W6.heap.size W6 w7 ∧ Boxed w7 (w.heap.size + 1 + 1 + 1) 3 (.int .i64 ((c : Int) + 1))) ∧ e = .normal ∧ a' = { tmps := #[.agg #[.int .i64 k, .int .i64 n, .string m, .slice la ll lc, .slice sa sl sc], .int .i64 M, .pointer (some ⟨w.heap.size, 0, none⟩), .pointer (some ⟨w.heap.size + 1, 0, none⟩), .pointer (some ⟨w.heap.size + 1 + 1, 0, none⟩), .pointer (some ⟨w.heap.size + 1 + 1 + 1, 0, none⟩), .pointer (some ⟨Bn, 0, none⟩), .pointer (some ⟨Ba, 0, none⟩), .agg #[.int .i64 k, .int .i64 n, .string m, .slice la ll lc, .slice sa sl sc], .func (.func 101) #[] #[.pointer (some ⟨w.heap.size + 1 + 1 + 1 + 1, 0, none⟩)], .agg #[.int .i64 (tkOf x.t), .int .i64 (tnOf x.t), .string (tmOf x.t), .slice x.la x.ll x.lc, .slice x.sa x.sl x.sc], .agg #[.int .i64 (wz x.d), .int .i64 (wz x.b)], .int .i64 c, .int .i64 ((c : Int) + 1), .int .i64 ((c : Int) + 1), .pointer (some ⟨Bn, 3, none⟩), .slice x.la x.ll x.lc, .int .i64 M, .int .i64 ((c : Int) + 1), .int .i64 ((M : Int) - ((c : Int) + 1)), .int .i64 q, .int .i64 ((c : Int) + 1 + (q : Int)), undef, undef, undef, undef, undef, undef, undef, undef, undef, undef, undef], defers := [] } ∧ W' = w7.setCell ⟨w.heap.size + 1 + 1 + 1, 0, none⟩ (.int .i64 ((c : Int) + 1 + (q : Int)))) ?region ?rest
  case region =>
   gi_region_with_o (refine ⟨trivial, ?_⟩; gi_at_call 142; refine HCALL.out.mono ?_; rintro e w7 ⟨rfl, hb7⟩; have HB7 := Lib.hid ((Below.refl W6.heap.size W6).drew.trans hb7); clear hb7; rw [HQ.out]; have hws : IntKind.i64.wrap ((c : Int) + 1 + (q : Int)) = (c : Int) + 1 + (q : Int) := IntWalk.i64_in _ ⟨by omega, by omega⟩; have h3 : Boxed w7 (w.heap.size + 1 + 1 + 1) 3 (.int .i64 ((c : Int) + 1)) := (HB7.out.block _ HG3.out.lt).trans HG3.out; have c3' := h3.cell; have f3' := h3.frozen; have H3 := Lib.hid h3; clear h3)
   all_goals exact ⟨w7, ⟨HB7.out, H3.out⟩, rfl, rfl, rfl⟩
  case rest =>
   rintro e a7 W7 ⟨w7, ⟨HB7, H3⟩, rfl, rfl, rfl⟩
   clear c1 c3 n3 HCALL hww hmix HML
   have e1 : Boxed w7 (w.heap.size + 1) 3 (.int .i64 M) := (HB7.block _ HG1.out.lt).trans HG1.out
   have e2 : Boxed w7 (w.heap.size + 1 + 1) 3 (.int .i64 0) := (HB7.block _ HG2.out.lt).trans HG2.out
   have ea := (HB7.block _ (Array.getElem?_eq_some_iff.1 HRA.out).1).trans HRA.out
   have HK7 : KpW w.heap.size W5.heap.size W (w7.setCell ⟨w.heap.size + 1 + 1 + 1, 0, none⟩ (.int .i64 ((c : Int) + 1 + (q : Int)))) := HK6.out.trans ((KpW.of_below (by rw [hs6]; omega) HB7).trans (KpW.set_far (by omega) (by rw [HZ.out]; omega)))
   have HO7 : KeepsFrom W5.heap.size W (w7.setCell ⟨w.heap.size + 1 + 1 + 1, 0, none⟩ (.int .i64 ((c : Int) + 1 + (q : Int)))) := (HO6.out.trans ((keepsOthers_below HB7).trans (KeepsOthers.setCell _ _ _))).from _
   have e3 := H3.set (.int .i64 ((c : Int) + 1 + (q : Int)))
   have e1 := e1.other (B' := w.heap.size + 1 + 1 + 1) (by omega) (.int .i64 ((c : Int) + 1 + (q : Int)))
   have e2 := e2.other (B' := w.heap.size + 1 + 1 + 1) (by omega) (.int .i64 ((c : Int) + 1 + (q : Int)))
   have ea := (setCell_far w7 ⟨w.heap.size + 1 + 1 + 1, 0, none⟩ (.int .i64 ((c : Int) + 1 + (q : Int))) Ba (by show Ba ≠ w.heap.size + 1 + 1 + 1; omega)).trans ea
   generalize w7.setCell ⟨w.heap.size + 1 + 1 + 1, 0, none⟩ (.int .i64 ((c : Int) + 1 + (q : Int))) = W8 at *
   have k1 := e1.cell
   have k2 := e2.cell
   have k2f := e2.frozen
   have k3 := e3.cell
   have ka := cell_of_row W8 _ 0 _ 113 (0, 0) ea
   have HE1 := Lib.hid e1
   have HE2 := Lib.hid e2
   have HE3 := Lib.hid e3
   have HBI := Lib.hid (hB1.trans HK7.1)
   clear e1 e2 e3 ea H3 HB7
   by_cases hgt : (M : Int) < (c : Int) + 1 + (q : Int)
   ·have hd1 : decide ((M : Int) < (c : Int) + 1 + (q : Int)) = true := by simp; omega
    gi_wp2
    refine ⟨HO7.trans ((KeepsOthers.setCell _ _ _).from _), ⟨rfl, ?_⟩, HE2.out.set _, HBI.out.trans (below_set (Below.refl _ _) _ _ (by show w.heap.size ≤ w.heap.size + 1 + 1; omega))⟩
    have := HCD.out
    have := HQ.out
    exact .inl (by omega)
   ·have hd1 : decide ((M : Int) < (c : Int) + 1 + (q : Int)) = false := by simp; omega
    by_cases hxd : (131072 : Int) < wz x.d
    ·have HXD : Hid (131072 < x.d) := by
      have : 131072 < x.d := by have := wz_le x.d; omega
      exact this
     have hd2 : decide ((131072 : Int) < wz x.d) = true := by simp; omega
     gi_wp2
     refine ⟨HO7.trans ((KeepsOthers.setCell _ _ _).from _), ⟨rfl, ?_⟩, HE2.out.set _, HBI.out.trans (below_set (Below.refl _ _) _ _ (by show w.heap.size ≤ w.heap.size + 1 + 1; omega))⟩
     exact .inr (tooDeep_last xs x HXD.out)
    ·have hd2 : decide ((131072 : Int) < wz x.d) = false := by simp; omega
     have hf : cnt ((xs ++ [x]).map ItW.tag) = c + 1 + q := by
      have := HCD.out
      have := HQ.out
      omega
     gi_wp2
     refine ⟨HO7, HK7, ⟨⟨HE1.out, HE2.out⟩, ?_⟩, ?_, HBI.out⟩
     ·rw [hf]; exact HE3.out
     ·rw [hf]; omega
 case done =>
  rintro D xs W hD hxs ⟨⟨⟨b1, b2⟩, b3⟩, hc, hB1⟩ hK
  rw [hxs, cnt_pre] at b3 hc
  have c3 := b3.cell
  have c2 := b2.cell
  have f2 := b2.frozen
  have hlt := b2.lt
  have hDb : D ≠ w.heap.size + 1 + 1 := by rw [HZ.out] at hD; omega
  gi_wp2
  refine ⟨by simp, .inl ⟨_, _, rfl, run_takeDeferred ((setCell_far _ _ _ _ (by show D ≠ w.heap.size + 1 + 1; exact hDb)).trans hK), ?_⟩⟩
  have hmin : min (tnodes t) (M + 1) = tnodes t := by omega
  rw [hmin]
  refine ⟨_, res_cell1 rfl _ _ (w.heap.size + 1 + 1) _ rfl ?_ Tryz.underlying3 (.inl ⟨_, rfl⟩), rfl, ?_⟩
  ·refine cell_heap (World.putObj_heap_other (fun e => hDb e.symm)) |>.trans ?_
   exact (b2.set _).cell
  ·refine (HB.out.trans hB1).trans ?_
   exact (below_set (Below.refl _ _) _ _ (by show w.heap.size ≤ w.heap.size + 1 + 1; omega)).trans ((Below.refl _ _).grown (grownBy_putObj' _ D _) (by rw [setCell_size]; omega) (fun k e => by cases e; rw [HZ.out] at hD; omega))
 case stop =>
  rintro D c xs W hD hxs ⟨⟨rfl, hc⟩, b2, hB1⟩ hK
  have hDb : D ≠ w.heap.size + 1 + 1 := by rw [HZ.out] at hD; omega
  have hlt := b2.lt
  gi_wp2
  refine ⟨by simp, .inl ⟨_, _, rfl, run_takeDeferred hK, ?_⟩⟩
  have hmin : min (tnodes t) (M + 1) = M + 1 := by
   obtain ⟨r, hr⟩ := hxs
   rcases hc with hc | ⟨y, hy, hc⟩
   ·have q := cnt_pre t 0 0
    rw [← hr, cnt_append] at q
    omega
   ·have := (pre_deep t 0 0 y (by rw [← hr]; exact List.mem_append_left _ hy)).2.1
    omega
  rw [hmin]
  refine ⟨_, res_cell1 rfl _ _ (w.heap.size + 1 + 1) _ rfl ?_ Tryz.underlying3 (.inl ⟨_, rfl⟩), rfl, ?_⟩
  ·refine cell_heap (World.putObj_heap_other (fun e => hDb e.symm)) |>.trans ?_
   exact b2.cell
  ·exact (HB.out.trans hB1).trans ((Below.refl _ _).grown (grownBy_putObj' _ D _) (by omega) (fun k e => by cases e; rw [HZ.out] at hD; omega))
end Trm
end Go.Proofs.YteomfakbbcpckaaGreatDoor
namespace Go.Proofs.YteomfakbbcpckaaGreatDoor
open Go.RowKit Go.Shelf
open Lvl
namespace Trm
attribute [local go_sem] Oper.semAt_some
set_option maxRecDepth 100000 in
set_option maxHeartbeats 1000000 in
theorem tnodes_free (t : Tm) (v : Value) (w : World) (hv : TmV w t v) (R : Nat) (hR : min (tnodes t) 2001 = R) :
  Calls Tryz.prog 89 #[v] w (Ret w (.int .i64 R)) := by
 obtain ⟨l, s, rfl, ht⟩ := hv
 obtain ⟨⟨la, ll, lc, rfl⟩, sa, sl, sc, rfl⟩ := tmP_slices ht
 have HV := Lib.hid (show TmV w t _ from ⟨_, _, rfl, ht⟩)
 have HR := Lib.hid hR
 dsimp only [tv] at HV ⊢
 generalize tkOf t = k at *
 generalize tnOf t = n at *
 generalize tmOf t = m at *
 clear ht hR
 go_enter Tryz.func89, Tryz.ntmps89
 go_wp2_with fail
 have HB := Lib.hid (below_lit w (.cells #[.int .i64 k, .int .i64 n, .string m, .slice la ll lc, .slice sa sl sc] 25))
 generalize w.alloc (.cells #[.int .i64 k, .int .i64 n, .string m, .slice la ll lc, .slice sa sl sc] 25) = W at *
 refine (count_free t _ W (HV.out.below HB.out) 2000 (by omega)).mono ?_
 rintro e w2 ⟨rfl, hb2⟩
 rw [HR.out]
 have HB2 := Lib.hid (HB.out.trans (hb2.mono HB.out.size))
 clear hb2
 go_wp2_with fail
 go_ret
 exact ⟨rfl, HB2.out⟩
set_option maxRecDepth 100000 in
set_option maxHeartbeats 4000000 in
theorem right_free (RN : ByteArray → Bool) (t : Tm) (v : Value) (w : World) (hv : TmV w t v) (hnm : ∀ q, q ∈ pre t 0 0 → (tmOf q.1).size ≤ 140737488355328) (CN : NameC w RN) (nn kk : Int) (b : Bool) (hb : rightT RN nn t kk = b) :
  Calls Tryz.prog 60 #[v, .int .i64 nn, .int .i64 kk] w (Ret w (.bool b)) := by
 by_cases hm : tnodes t ≤ 100000
 ·exact right_is RN t v w hv hm hnm CN nn kk b hb
 obtain ⟨l, s, rfl, ht⟩ := hv
 obtain ⟨⟨la, ll, lc, rfl⟩, sa, sl, sc, rfl⟩ := tmP_slices ht
 have HTT := Lib.hid ht
 obtain ⟨k, hk⟩ : ∃ k, tkOf t = k := ⟨_, rfl⟩
 obtain ⟨n, hn⟩ : ∃ n, tnOf t = n := ⟨_, rfl⟩
 obtain ⟨m, hmm⟩ : ∃ m, tmOf t = m := ⟨_, rfl⟩
 dsimp only [tv]
 rw [hk, hn, hmm]
 have HK := Lib.hid hk
 have HNN := Lib.hid hn
 have HMM := Lib.hid hmm
 have HM := Lib.hid hm
 clear hk hn hmm ht hm
 have HCN := Lib.hid CN
 have HNM := Lib.hid hnm
 have HV := Lib.hid hb
 clear CN hnm hb
 obtain ⟨R, hR⟩ : ∃ R, min (tnodes t) 2001 = R := ⟨_, rfl⟩
 have HR := Lib.hid hR
 by_cases hk0 : kk < 0
 ·have hd0 : decide (kk < 0) = true := by simp; omega
  obtain rfl : b = false := by rw [← HV.out]; simp [rightT]; omega
  refine (callsIn_wide (n := 13)).1 (callsIn_of_wp_marks Tryz.func60 rfl trivial ?_ rfl)
  simp only [Tryz.ntmps60, List.size_toArray, List.length_cons, List.length_nil, Nat.reduceAdd, Nat.reduceSub, Array.replicate_succ, Array.replicate_zero, List.push_toArray, List.append_toArray, List.nil_append, List.cons_append]
  gi_wp2
  have z1 : (w.alloc (.cells #[.int .i64 k, .int .i64 n, .string m, .slice la ll lc, .slice sa sl sc] 25)).heap.size = w.heap.size + 1 := by simp
  have z2 : ((w.alloc (.cells #[.int .i64 k, .int .i64 n, .string m, .slice la ll lc, .slice sa sl sc] 25)).alloc (.cells #[.int .i64 nn] 3)).heap.size = w.heap.size + 1 + 1 := by simp
  have z3 : (((w.alloc (.cells #[.int .i64 k, .int .i64 n, .string m, .slice la ll lc, .slice sa sl sc] 25)).alloc (.cells #[.int .i64 nn] 3)).alloc (.cells #[.int .i64 kk] 3)).heap.size = w.heap.size + 1 + 1 + 1 := by simp
  have z4 : ((((w.alloc (.cells #[.int .i64 k, .int .i64 n, .string m, .slice la ll lc, .slice sa sl sc] 25)).alloc (.cells #[.int .i64 nn] 3)).alloc (.cells #[.int .i64 kk] 3)).alloc (.cells #[.bool false] 4)).heap.size = w.heap.size + 1 + 1 + 1 + 1 := by simp
  have r0 : (w.alloc (.cells #[.int .i64 k, .int .i64 n, .string m, .slice la ll lc, .slice sa sl sc] 25)).heap[w.heap.size]? = some (Obj.cells #[.int .i64 k, .int .i64 n, .string m, .slice la ll lc, .slice sa sl sc] 25 (0, 0)) := by
   have := heap_alloc_new w (.cells #[.int .i64 k, .int .i64 n, .string m, .slice la ll lc, .slice sa sl sc] 25)
   exact this
  have r1 : ((w.alloc (.cells #[.int .i64 k, .int .i64 n, .string m, .slice la ll lc, .slice sa sl sc] 25)).alloc (.cells #[.int .i64 nn] 3)).heap[w.heap.size + 1]? = some (Obj.cells #[.int .i64 nn] 3 (0, 0)) := by
   have := heap_alloc_new (w.alloc (.cells #[.int .i64 k, .int .i64 n, .string m, .slice la ll lc, .slice sa sl sc] 25)) (.cells #[.int .i64 nn] 3)
   rwa [z1] at this
  have r2 : (((w.alloc (.cells #[.int .i64 k, .int .i64 n, .string m, .slice la ll lc, .slice sa sl sc] 25)).alloc (.cells #[.int .i64 nn] 3)).alloc (.cells #[.int .i64 kk] 3)).heap[w.heap.size + 1 + 1]? = some (Obj.cells #[.int .i64 kk] 3 (0, 0)) := by
   have := heap_alloc_new ((w.alloc (.cells #[.int .i64 k, .int .i64 n, .string m, .slice la ll lc, .slice sa sl sc] 25)).alloc (.cells #[.int .i64 nn] 3)) (.cells #[.int .i64 kk] 3)
   rwa [z2] at this
  have r3 : ((((w.alloc (.cells #[.int .i64 k, .int .i64 n, .string m, .slice la ll lc, .slice sa sl sc] 25)).alloc (.cells #[.int .i64 nn] 3)).alloc (.cells #[.int .i64 kk] 3)).alloc (.cells #[.bool false] 4)).heap[w.heap.size + 1 + 1 + 1]? = some (Obj.cells #[.bool false] 4 (0, 0)) := by
   have := heap_alloc_new (((w.alloc (.cells #[.int .i64 k, .int .i64 n, .string m, .slice la ll lc, .slice sa sl sc] 25)).alloc (.cells #[.int .i64 nn] 3)).alloc (.cells #[.int .i64 kk] 3)) (.cells #[.bool false] 4)
   rwa [z3] at this
  have HB := Lib.hid ((((below_lit w (.cells #[.int .i64 k, .int .i64 n, .string m, .slice la ll lc, .slice sa sl sc] 25)).trans ((below_lit (w.alloc (.cells #[.int .i64 k, .int .i64 n, .string m, .slice la ll lc, .slice sa sl sc] 25)) (.cells #[.int .i64 nn] 3)).mono (below_lit w (.cells #[.int .i64 k, .int .i64 n, .string m, .slice la ll lc, .slice sa sl sc] 25)).size)).trans ((below_lit ((w.alloc (.cells #[.int .i64 k, .int .i64 n, .string m, .slice la ll lc, .slice sa sl sc] 25)).alloc (.cells #[.int .i64 nn] 3)) (.cells #[.int .i64 kk] 3)).mono ((below_lit w (.cells #[.int .i64 k, .int .i64 n, .string m, .slice la ll lc, .slice sa sl sc] 25)).trans ((below_lit (w.alloc (.cells #[.int .i64 k, .int .i64 n, .string m, .slice la ll lc, .slice sa sl sc] 25)) (.cells #[.int .i64 nn] 3)).mono (below_lit w (.cells #[.int .i64 k, .int .i64 n, .string m, .slice la ll lc, .slice sa sl sc] 25)).size)).size)).trans ((below_lit (((w.alloc (.cells #[.int .i64 k, .int .i64 n, .string m, .slice la ll lc, .slice sa sl sc] 25)).alloc (.cells #[.int .i64 nn] 3)).alloc (.cells #[.int .i64 kk] 3)) (.cells #[.bool false] 4)).mono (((below_lit w (.cells #[.int .i64 k, .int .i64 n, .string m, .slice la ll lc, .slice sa sl sc] 25)).trans ((below_lit (w.alloc (.cells #[.int .i64 k, .int .i64 n, .string m, .slice la ll lc, .slice sa sl sc] 25)) (.cells #[.int .i64 nn] 3)).mono (below_lit w (.cells #[.int .i64 k, .int .i64 n, .string m, .slice la ll lc, .slice sa sl sc] 25)).size)).trans ((below_lit ((w.alloc (.cells #[.int .i64 k, .int .i64 n, .string m, .slice la ll lc, .slice sa sl sc] 25)).alloc (.cells #[.int .i64 nn] 3)) (.cells #[.int .i64 kk] 3)).mono ((below_lit w (.cells #[.int .i64 k, .int .i64 n, .string m, .slice la ll lc, .slice sa sl sc] 25)).trans ((below_lit (w.alloc (.cells #[.int .i64 k, .int .i64 n, .string m, .slice la ll lc, .slice sa sl sc] 25)) (.cells #[.int .i64 nn] 3)).mono (below_lit w (.cells #[.int .i64 k, .int .i64 n, .string m, .slice la ll lc, .slice sa sl sc] 25)).size)).size)).size))
  have HR0 := Lib.hid ((heap_alloc_old (((w.alloc (.cells #[.int .i64 k, .int .i64 n, .string m, .slice la ll lc, .slice sa sl sc] 25)).alloc (.cells #[.int .i64 nn] 3)).alloc (.cells #[.int .i64 kk] 3)) (.cells #[.bool false] 4) (by rw [z3]; omega)).trans ((heap_alloc_old ((w.alloc (.cells #[.int .i64 k, .int .i64 n, .string m, .slice la ll lc, .slice sa sl sc] 25)).alloc (.cells #[.int .i64 nn] 3)) (.cells #[.int .i64 kk] 3) (by rw [z2]; omega)).trans ((heap_alloc_old (w.alloc (.cells #[.int .i64 k, .int .i64 n, .string m, .slice la ll lc, .slice sa sl sc] 25)) (.cells #[.int .i64 nn] 3) (by rw [z1]; omega)).trans (r0))))
  have HR1 := Lib.hid ((heap_alloc_old (((w.alloc (.cells #[.int .i64 k, .int .i64 n, .string m, .slice la ll lc, .slice sa sl sc] 25)).alloc (.cells #[.int .i64 nn] 3)).alloc (.cells #[.int .i64 kk] 3)) (.cells #[.bool false] 4) (by rw [z3]; omega)).trans ((heap_alloc_old ((w.alloc (.cells #[.int .i64 k, .int .i64 n, .string m, .slice la ll lc, .slice sa sl sc] 25)).alloc (.cells #[.int .i64 nn] 3)) (.cells #[.int .i64 kk] 3) (by rw [z2]; omega)).trans (r1)))
  have HR2 := Lib.hid ((heap_alloc_old (((w.alloc (.cells #[.int .i64 k, .int .i64 n, .string m, .slice la ll lc, .slice sa sl sc] 25)).alloc (.cells #[.int .i64 nn] 3)).alloc (.cells #[.int .i64 kk] 3)) (.cells #[.bool false] 4) (by rw [z3]; omega)).trans (r2))
  have HR3 := Lib.hid (r3)
  clear r0 r1 r2 r3
  generalize ((((w.alloc (.cells #[.int .i64 k, .int .i64 n, .string m, .slice la ll lc, .slice sa sl sc] 25)).alloc (.cells #[.int .i64 nn] 3)).alloc (.cells #[.int .i64 kk] 3)).alloc (.cells #[.bool false] 4)) = W4 at *
  have HZ := Lib.hid z4
  clear z1 z2 z3 z4
  have HTV := Lib.hid (show TmV W4 t _ from ⟨_, _, rfl, tmP_below HB.out HTT.out⟩)
  have hnc := tnodes_free t _ W4 HTV.out R HR.out
  dsimp only [tv] at hnc
  rw [HK.out, HNN.out, HMM.out] at hnc
  have HNC := Lib.hid hnc
  clear hnc hR
  have q3 := cell_of_row _ _ 0 _ 4 (0, 0) HR3.out
  have q3f := frozen0 (p := 0) HR3.out
  have q2 := cell_of_row _ _ 0 _ 3 (0, 0) HR2.out
  obtain ⟨a0, a1, a2, a3, a4⟩ := five_cells HR0.out
  refine ⟨trivial, ?_⟩
  gi_wp2
  exact ⟨_, res_cell1 rfl _ _ (w.heap.size + 1 + 1 + 1) _ rfl (World.cell?_setCell_same' _ _ _ (by rw [q3]; rfl)) Tryz.underlying4 (.inr rfl), rfl, below_set HB.out _ _ (by show w.heap.size ≤ w.heap.size + 1 + 1 + 1; omega)⟩
 ·have hd0 : decide (kk < 0) = false := by simp; omega
  by_cases hR0 : 2000 < R
  ·have hd1 : decide ((2000 : Int) < (R : Int)) = true := by simp; omega
   obtain rfl : b = false := by
    have := HR.out
    rw [← HV.out]; simp [rightT]; omega
   refine (callsIn_wide (n := 13)).1 (callsIn_of_wp_marks Tryz.func60 rfl trivial ?_ rfl)
   simp only [Tryz.ntmps60, List.size_toArray, List.length_cons, List.length_nil, Nat.reduceAdd, Nat.reduceSub, Array.replicate_succ, Array.replicate_zero, List.push_toArray, List.append_toArray, List.nil_append, List.cons_append]
   gi_wp2
   have z1 : (w.alloc (.cells #[.int .i64 k, .int .i64 n, .string m, .slice la ll lc, .slice sa sl sc] 25)).heap.size = w.heap.size + 1 := by simp
   have z2 : ((w.alloc (.cells #[.int .i64 k, .int .i64 n, .string m, .slice la ll lc, .slice sa sl sc] 25)).alloc (.cells #[.int .i64 nn] 3)).heap.size = w.heap.size + 1 + 1 := by simp
   have z3 : (((w.alloc (.cells #[.int .i64 k, .int .i64 n, .string m, .slice la ll lc, .slice sa sl sc] 25)).alloc (.cells #[.int .i64 nn] 3)).alloc (.cells #[.int .i64 kk] 3)).heap.size = w.heap.size + 1 + 1 + 1 := by simp
   have z4 : ((((w.alloc (.cells #[.int .i64 k, .int .i64 n, .string m, .slice la ll lc, .slice sa sl sc] 25)).alloc (.cells #[.int .i64 nn] 3)).alloc (.cells #[.int .i64 kk] 3)).alloc (.cells #[.bool false] 4)).heap.size = w.heap.size + 1 + 1 + 1 + 1 := by simp
   have r0 : (w.alloc (.cells #[.int .i64 k, .int .i64 n, .string m, .slice la ll lc, .slice sa sl sc] 25)).heap[w.heap.size]? = some (Obj.cells #[.int .i64 k, .int .i64 n, .string m, .slice la ll lc, .slice sa sl sc] 25 (0, 0)) := by
    have := heap_alloc_new w (.cells #[.int .i64 k, .int .i64 n, .string m, .slice la ll lc, .slice sa sl sc] 25)
    exact this
   have r1 : ((w.alloc (.cells #[.int .i64 k, .int .i64 n, .string m, .slice la ll lc, .slice sa sl sc] 25)).alloc (.cells #[.int .i64 nn] 3)).heap[w.heap.size + 1]? = some (Obj.cells #[.int .i64 nn] 3 (0, 0)) := by
    have := heap_alloc_new (w.alloc (.cells #[.int .i64 k, .int .i64 n, .string m, .slice la ll lc, .slice sa sl sc] 25)) (.cells #[.int .i64 nn] 3)
    rwa [z1] at this
   have r2 : (((w.alloc (.cells #[.int .i64 k, .int .i64 n, .string m, .slice la ll lc, .slice sa sl sc] 25)).alloc (.cells #[.int .i64 nn] 3)).alloc (.cells #[.int .i64 kk] 3)).heap[w.heap.size + 1 + 1]? = some (Obj.cells #[.int .i64 kk] 3 (0, 0)) := by
    have := heap_alloc_new ((w.alloc (.cells #[.int .i64 k, .int .i64 n, .string m, .slice la ll lc, .slice sa sl sc] 25)).alloc (.cells #[.int .i64 nn] 3)) (.cells #[.int .i64 kk] 3)
    rwa [z2] at this
   have r3 : ((((w.alloc (.cells #[.int .i64 k, .int .i64 n, .string m, .slice la ll lc, .slice sa sl sc] 25)).alloc (.cells #[.int .i64 nn] 3)).alloc (.cells #[.int .i64 kk] 3)).alloc (.cells #[.bool false] 4)).heap[w.heap.size + 1 + 1 + 1]? = some (Obj.cells #[.bool false] 4 (0, 0)) := by
    have := heap_alloc_new (((w.alloc (.cells #[.int .i64 k, .int .i64 n, .string m, .slice la ll lc, .slice sa sl sc] 25)).alloc (.cells #[.int .i64 nn] 3)).alloc (.cells #[.int .i64 kk] 3)) (.cells #[.bool false] 4)
    rwa [z3] at this
   have HB := Lib.hid ((((below_lit w (.cells #[.int .i64 k, .int .i64 n, .string m, .slice la ll lc, .slice sa sl sc] 25)).trans ((below_lit (w.alloc (.cells #[.int .i64 k, .int .i64 n, .string m, .slice la ll lc, .slice sa sl sc] 25)) (.cells #[.int .i64 nn] 3)).mono (below_lit w (.cells #[.int .i64 k, .int .i64 n, .string m, .slice la ll lc, .slice sa sl sc] 25)).size)).trans ((below_lit ((w.alloc (.cells #[.int .i64 k, .int .i64 n, .string m, .slice la ll lc, .slice sa sl sc] 25)).alloc (.cells #[.int .i64 nn] 3)) (.cells #[.int .i64 kk] 3)).mono ((below_lit w (.cells #[.int .i64 k, .int .i64 n, .string m, .slice la ll lc, .slice sa sl sc] 25)).trans ((below_lit (w.alloc (.cells #[.int .i64 k, .int .i64 n, .string m, .slice la ll lc, .slice sa sl sc] 25)) (.cells #[.int .i64 nn] 3)).mono (below_lit w (.cells #[.int .i64 k, .int .i64 n, .string m, .slice la ll lc, .slice sa sl sc] 25)).size)).size)).trans ((below_lit (((w.alloc (.cells #[.int .i64 k, .int .i64 n, .string m, .slice la ll lc, .slice sa sl sc] 25)).alloc (.cells #[.int .i64 nn] 3)).alloc (.cells #[.int .i64 kk] 3)) (.cells #[.bool false] 4)).mono (((below_lit w (.cells #[.int .i64 k, .int .i64 n, .string m, .slice la ll lc, .slice sa sl sc] 25)).trans ((below_lit (w.alloc (.cells #[.int .i64 k, .int .i64 n, .string m, .slice la ll lc, .slice sa sl sc] 25)) (.cells #[.int .i64 nn] 3)).mono (below_lit w (.cells #[.int .i64 k, .int .i64 n, .string m, .slice la ll lc, .slice sa sl sc] 25)).size)).trans ((below_lit ((w.alloc (.cells #[.int .i64 k, .int .i64 n, .string m, .slice la ll lc, .slice sa sl sc] 25)).alloc (.cells #[.int .i64 nn] 3)) (.cells #[.int .i64 kk] 3)).mono ((below_lit w (.cells #[.int .i64 k, .int .i64 n, .string m, .slice la ll lc, .slice sa sl sc] 25)).trans ((below_lit (w.alloc (.cells #[.int .i64 k, .int .i64 n, .string m, .slice la ll lc, .slice sa sl sc] 25)) (.cells #[.int .i64 nn] 3)).mono (below_lit w (.cells #[.int .i64 k, .int .i64 n, .string m, .slice la ll lc, .slice sa sl sc] 25)).size)).size)).size))
   have HR0 := Lib.hid ((heap_alloc_old (((w.alloc (.cells #[.int .i64 k, .int .i64 n, .string m, .slice la ll lc, .slice sa sl sc] 25)).alloc (.cells #[.int .i64 nn] 3)).alloc (.cells #[.int .i64 kk] 3)) (.cells #[.bool false] 4) (by rw [z3]; omega)).trans ((heap_alloc_old ((w.alloc (.cells #[.int .i64 k, .int .i64 n, .string m, .slice la ll lc, .slice sa sl sc] 25)).alloc (.cells #[.int .i64 nn] 3)) (.cells #[.int .i64 kk] 3) (by rw [z2]; omega)).trans ((heap_alloc_old (w.alloc (.cells #[.int .i64 k, .int .i64 n, .string m, .slice la ll lc, .slice sa sl sc] 25)) (.cells #[.int .i64 nn] 3) (by rw [z1]; omega)).trans (r0))))
   have HR1 := Lib.hid ((heap_alloc_old (((w.alloc (.cells #[.int .i64 k, .int .i64 n, .string m, .slice la ll lc, .slice sa sl sc] 25)).alloc (.cells #[.int .i64 nn] 3)).alloc (.cells #[.int .i64 kk] 3)) (.cells #[.bool false] 4) (by rw [z3]; omega)).trans ((heap_alloc_old ((w.alloc (.cells #[.int .i64 k, .int .i64 n, .string m, .slice la ll lc, .slice sa sl sc] 25)).alloc (.cells #[.int .i64 nn] 3)) (.cells #[.int .i64 kk] 3) (by rw [z2]; omega)).trans (r1)))
   have HR2 := Lib.hid ((heap_alloc_old (((w.alloc (.cells #[.int .i64 k, .int .i64 n, .string m, .slice la ll lc, .slice sa sl sc] 25)).alloc (.cells #[.int .i64 nn] 3)).alloc (.cells #[.int .i64 kk] 3)) (.cells #[.bool false] 4) (by rw [z3]; omega)).trans (r2))
   have HR3 := Lib.hid (r3)
   clear r0 r1 r2 r3
   generalize ((((w.alloc (.cells #[.int .i64 k, .int .i64 n, .string m, .slice la ll lc, .slice sa sl sc] 25)).alloc (.cells #[.int .i64 nn] 3)).alloc (.cells #[.int .i64 kk] 3)).alloc (.cells #[.bool false] 4)) = W4 at *
   have HZ := Lib.hid z4
   clear z1 z2 z3 z4
   have HTV := Lib.hid (show TmV W4 t _ from ⟨_, _, rfl, tmP_below HB.out HTT.out⟩)
   have hnc := tnodes_free t _ W4 HTV.out R HR.out
   dsimp only [tv] at hnc
   rw [HK.out, HNN.out, HMM.out] at hnc
   have HNC := Lib.hid hnc
   clear hnc hR
   have q3 := cell_of_row _ _ 0 _ 4 (0, 0) HR3.out
   have q3f := frozen0 (p := 0) HR3.out
   have q2 := cell_of_row _ _ 0 _ 3 (0, 0) HR2.out
   obtain ⟨a0, a1, a2, a3, a4⟩ := five_cells HR0.out
   gi_wp2_with (refine ⟨trivial, ?_⟩; gi_at_call 89; refine (callsIn_wide.2 HNC.out).mono ?_; rintro e w6 ⟨rfl, hb6⟩; have q2 := cell_of_row _ _ 0 _ 3 (0, 0) ((hb6.block (w.heap.size + 1 + 1) (by rw [HZ.out]; omega)).trans HR2.out); have q2f := frozen0 (p := 0) ((hb6.block (w.heap.size + 1 + 1) (by rw [HZ.out]; omega)).trans HR2.out); have q3 := cell_of_row _ _ 0 _ 4 (0, 0) ((hb6.block (w.heap.size + 1 + 1 + 1) (by rw [HZ.out]; omega)).trans HR3.out); have q3f := frozen0 (p := 0) ((hb6.block (w.heap.size + 1 + 1 + 1) (by rw [HZ.out]; omega)).trans HR3.out); obtain ⟨a0, a1, a2, a3, a4⟩ := five_cells ((hb6.block (w.heap.size) (by rw [HZ.out]; omega)).trans HR0.out); have HB6 := Lib.hid hb6; clear hb6)
   exact ⟨_, res_cell1 rfl _ _ (w.heap.size + 1 + 1 + 1) _ rfl (World.cell?_setCell_same' _ _ _ (by rw [q3]; rfl)) Tryz.underlying4 (.inr rfl), rfl, below_set (HB.out.trans (HB6.out.mono HB.out.size)) _ _ (by show w.heap.size ≤ w.heap.size + 1 + 1 + 1; omega)⟩
  ·exact absurd HR.out (by have := HM.out; omega)
end Trm
end Go.Proofs.YteomfakbbcpckaaGreatDoor
namespace Go.Proofs.YteomfakbbcpckaaGreatDoor
open Go.RowKit
open Lvl
open Trm
namespace Bnd
def areB (RN : ByteArray → Bool) (ts : List Tm) : Bool := ts.all fun t => rightT RN 4 t 1125899906842624
theorem areB_take {RN : ByteArray → Bool} {ts : List Tm} {j : Nat} (h : j < ts.length) : areB RN (ts.take (j + 1)) = (areB RN (ts.take j) && rightT RN 4 ts[j] 1125899906842624) := by
 unfold areB
 rw [List.take_add_one, List.getElem?_eq_getElem h, List.all_append]
 simp
theorem areB_no {RN : ByteArray → Bool} {ts : List Tm} {j : Nat} (hj : j < ts.length) (h : rightT RN 4 ts[j] 1125899906842624 = false) : areB RN ts = false := by
 rw [Bool.eq_false_iff]
 intro hall
 have := List.all_eq_true.1 hall ts[j] (List.getElem_mem hj)
 rw [h] at this
 cases this
set_option maxRecDepth 100000 in
set_option maxHeartbeats 4000000 in
theorem are1_is (RN : ByteArray → Bool) (t : Tm) (v : Value) (w : World) (hv : TmV w t v) (hnm : nmOk t) (CN : NameC w RN) (b : Bool) (hb : rightT RN 4 t 1125899906842624 = b) :
  Calls Tryz.prog 64 #[v] w (Ret w (.bool (!b))) := by
 have HNK := Lib.hid hnm
 have HCN := Lib.hid CN
 have HBB := Lib.hid hb
 clear hnm CN hb
 obtain ⟨l, s, rfl, ht⟩ := hv
 obtain ⟨⟨la, ll, lc, rfl⟩, sa, sl, sc, rfl⟩ := tmP_slices ht
 have HTT := Lib.hid ht
 obtain ⟨k, hk⟩ : ∃ k, tkOf t = k := ⟨_, rfl⟩
 obtain ⟨n, hn⟩ : ∃ n, tnOf t = n := ⟨_, rfl⟩
 obtain ⟨m, hmm⟩ : ∃ m, tmOf t = m := ⟨_, rfl⟩
 dsimp only [tv]
 rw [hk, hn, hmm]
 have HK := Lib.hid hk
 have HNN := Lib.hid hn
 have HMM := Lib.hid hmm
 clear hk hn hmm ht
 go_enter Tryz.func64, Tryz.ntmps64
 go_wp2_with fail
 have z1 : (w.alloc (.cells #[.int .i64 k, .int .i64 n, .string m, .slice la ll lc, .slice sa sl sc] 25)).heap.size = w.heap.size + 1 := by simp
 have r0 : (w.alloc (.cells #[.int .i64 k, .int .i64 n, .string m, .slice la ll lc, .slice sa sl sc] 25)).heap[w.heap.size]? = some (Obj.cells #[.int .i64 k, .int .i64 n, .string m, .slice la ll lc, .slice sa sl sc] 25 (0, 0)) := by
  have := heap_alloc_new w (.cells #[.int .i64 k, .int .i64 n, .string m, .slice la ll lc, .slice sa sl sc] 25)
  exact this
 have HB := Lib.hid (below_lit w (.cells #[.int .i64 k, .int .i64 n, .string m, .slice la ll lc, .slice sa sl sc] 25))
 have HR0 := Lib.hid (r0)
 clear r0
 generalize (w.alloc (.cells #[.int .i64 k, .int .i64 n, .string m, .slice la ll lc, .slice sa sl sc] 25)) = W at *
 have HZ := Lib.hid z1
 clear z1
 have HT : Hid (TmV W t (.agg #[.int .i64 k, .int .i64 n, .string m, .slice la ll lc, .slice sa sl sc])) := by
  have : TmV W t (.agg #[.int .i64 k, .int .i64 n, .string m, .slice la ll lc, .slice sa sl sc]) := ⟨_, _, by rw [← HK.out, ← HNN.out, ← HMM.out], tmP_below HB.out HTT.out⟩
  exact this
 refine (right_free RN t _ W HT.out (nm_pre t 0 0 HNK.out) (HCN.out.below HB.out) 4 1125899906842624 b HBB.out).mono ?_
 rintro e w2 ⟨rfl, hb2⟩
 have HB2 := Lib.hid (HB.out.trans (hb2.mono HB.out.size))
 clear hb2
 go_wp2_with fail
 go_ret
 exact ⟨rfl, HB2.out⟩
set_option maxRecDepth 100000 in
set_option maxHeartbeats 4000000 in
theorem areIdx_is (RN : ByteArray → Bool) (ts : List Tm) (A : Option Addr) (len cap : Nat) (w : World) (hts : TsP w (fun _ => True) A 0 ts) (hlen : ts.length = len) (hl47 : len ≤ 140737488355328) (hnm : nmOkL ts) (CN : NameC w RN) (b : Bool) (hb : areB RN ts = b) :
  Calls Tryz.prog 96 #[.slice A len cap, .func (.func 64) #[] #[]] w (fun e w' => ∃ i : Int, e = .returned (.int .i64 i) ∧ (b = true → i = -1) ∧ (b = false → 0 ≤ i) ∧ Below w.heap.size w w') := by
 have HTS := Lib.hid hts
 have HN := Lib.hid hlen
 have HNM := Lib.hid hnm
 have HCN := Lib.hid CN
 have HBB := Lib.hid hb
 clear hts hlen hnm CN hb
 go_enter Tryz.func96, Tryz.ntmps96
 go_wp2_with fail
 go_loopw [5, 8] (fun _ i wr => ∃ j : Nat, j ≤ len ∧ i = .int .i64 j ∧ Hid (areB RN (ts.take j) = true) ∧ Hid (Below w.heap.size w wr)) (fun _ i _ => len - (intOf i).toNat)
 case atStart => exact ⟨0, Nat.zero_le _, rfl, by rw [List.take_zero]; exact rfl, Below.refl _ _⟩
 case round =>
  obtain ⟨j, hj, rfl, hal, hgr⟩ := hrel
  by_cases hlt : j < len
  ·have hx1 : j < ts.length := by rw [HN.out]; exact hlt
   have hln : decide ((j : Int) < (len : Int)) = true := by simp; omega
   obtain ⟨bq, o, l1, s1, rfl, hbs, _, hc0, hc1, hc2, hc3, hc4, htm⟩ := tsP_get HTS.out j hx1
   obtain ⟨⟨xa, xl, xc, rfl⟩, ya, yl, yc, rfl⟩ := tmP_slices htm
   have e0 := (hgr.out.cell (p := ⟨bq, _, none⟩) hbs).trans hc0
   have e1 := (hgr.out.cell (p := ⟨bq, _, none⟩) hbs).trans hc1
   have e2 := (hgr.out.cell (p := ⟨bq, _, none⟩) hbs).trans hc2
   have e3 := (hgr.out.cell (p := ⟨bq, _, none⟩) hbs).trans hc3
   have e4 := (hgr.out.cell (p := ⟨bq, _, none⟩) hbs).trans hc4
   have q1 : (0 : Int) ≤ (j : Int) := by omega
   have q2 : (j : Int) < (len : Int) := by omega
   obtain ⟨r, hr⟩ : ∃ r, rightT RN 4 ts[j] 1125899906842624 = r := ⟨_, rfl⟩
   have hcall := are1_is RN ts[j] _ wr ⟨_, _, rfl, tmP_below hgr.out htm⟩ (nmOkL_mem HNM.out (List.getElem_mem hx1)) (HCN.out.below hgr.out) r hr
   dsimp only [tv] at hcall
   have HCALL := Lib.hid hcall
   have HTK := Lib.hid (areB_take (RN := RN) hx1)
   have HNO := Lib.hid (fun (h : r = false) => areB_no (RN := RN) hx1 (hr.trans h))
   rw [hr] at HTK
   clear hcall htm hc0 hc1 hc2 hc3 hc4 hr
   generalize tkOf ts[j] = ka at *
   generalize tnOf ts[j] = na at *
   generalize tmOf ts[j] = ma at *
   go_wp2_with fail
   refine HCALL.out.mono ?_
   rintro e w5 ⟨rfl, hb5⟩
   have HB5 := Lib.hid (hgr.out.trans (hb5.mono hgr.out.size))
   clear hb5 e0 e1 e2 e3 e4
   cases r with
   | false =>
    go_wp2_with fail
    go_ret
    refine ⟨(j : Int), rfl, fun h => ?_, fun _ => by omega, HB5.out⟩
    have := HNO.out trivial
    rw [HBB.out, h] at this
    cases this
   | true =>
    have HAL : Hid (areB RN (ts.take (j + 1)) = true) := by
     have : areB RN (ts.take (j + 1)) = true := by rw [HTK.out, hal.out, Bool.and_self]
     exact this
    go_wp2_with fail
    go_roundw
    case rel => exact ⟨j + 1, by omega, by go_num, HAL.out, HB5.out⟩
    case measure => simp [intOf]; omega
  ·obtain rfl : len = j := by omega
   have hln : decide ((len : Int) < (len : Int)) = false := by simp
   have hbt : b = true := by
    have h1 := hal.out
    rw [List.take_of_length_le (by rw [HN.out]; exact Nat.le_refl _)] at h1
    rw [← HBB.out, h1]
   have HBT := Lib.hid hbt
   clear hbt
   go_wp2_with fail
   go_ret
   exact ⟨-1, rfl, fun _ => rfl, (fun h => by rw [HBT.out] at h; cases h), hgr.out⟩
set_option maxRecDepth 100000 in
set_option maxHeartbeats 4000000 in
theorem areCon_is (RN : ByteArray → Bool) (ts : List Tm) (A : Option Addr) (len cap : Nat) (w : World) (hts : TsP w (fun _ => True) A 0 ts) (hlen : ts.length = len) (hl47 : len ≤ 140737488355328) (hnm : nmOkL ts) (CN : NameC w RN) (b : Bool) (hb : areB RN ts = b) :
  Calls Tryz.prog 65 #[.slice A len cap, .func (.func 64) #[] #[]] w (Ret w (.bool (!b))) := by
 have HCALL := Lib.hid (areIdx_is RN ts A len cap w hts hlen hl47 hnm CN b hb)
 clear hts hlen hnm CN hb
 go_enter Tryz.func65, Tryz.ntmps65
 go_wp2_with fail
 refine HCALL.out.mono ?_
 rintro e w2 ⟨i, rfl, h1, h2, hb2⟩
 have HB2 := Lib.hid hb2
 clear hb2 HCALL
 cases b with
 | true =>
  obtain rfl := h1 rfl
  clear h1 h2
  go_wp2_with fail
  go_ret
  exact ⟨rfl, HB2.out⟩
 | false =>
  have h3 := h2 rfl
  have hd : decide (0 ≤ i) = true := by simp; omega
  clear h1 h2
  go_wp2_with fail
  go_ret
  exact ⟨rfl, HB2.out⟩
set_option maxRecDepth 100000 in
set_option maxHeartbeats 4000000 in
theorem are_is (RN : ByteArray → Bool) (ts : List Tm) (A : Option Addr) (len cap : Nat) (w : World) (hts : TsP w (fun _ => True) A 0 ts) (hlen : ts.length = len) (hl47 : len ≤ 140737488355328) (hnm : nmOkL ts) (CN : NameC w RN) (b : Bool) (hb : areB RN ts = b) :
  Calls Tryz.prog 38 #[.slice A len cap] w (Ret w (.bool b)) := by
 have HCALL := Lib.hid (areCon_is RN ts A len cap w hts hlen hl47 hnm CN b hb)
 clear hts hlen hnm CN hb
 go_enter Tryz.func38, Tryz.ntmps38
 go_wp2_with fail
 refine HCALL.out.mono ?_
 rintro e w2 ⟨rfl, hb2⟩
 have HB2 := Lib.hid hb2
 clear hb2 HCALL
 go_wp2_with fail
 go_ret
 exact ⟨by simp, HB2.out⟩
end Bnd
end Go.Proofs.YteomfakbbcpckaaGreatDoor
namespace Go.Proofs.YteomfakbbcpckaaGreatDoor
open Go.RowKit
open Lvl
namespace Trm
set_option maxRecDepth 100000 in
set_option maxHeartbeats 2000000 in
theorem sameTerm_up : ∀ (N : Nat) (t : Tm) (v v' : Value) (w : World), tnodes t ≤ N → TmV w t v → TmV w t v' →
  Calls Tryz.prog 15 #[v, v'] w (Ret w (.bool true)) := by
 intro N
 induction N with
 | zero => intro t v v' w h _ _; have := tnodes_pos t; omega
 | succ N ih =>
 intro t v v' w hN hv hv'
 obtain ⟨l, s, rfl, ht⟩ := hv
 obtain ⟨l', s', rfl, ht'⟩ := hv'
 cases t with
 | mk k n m ls ts =>
 rw [TmP, LvP] at ht ht'
 obtain ⟨⟨LA, ll, lc, rfl, l1, l2, l3, l4, l5⟩, A, len, cap, rfl, h1, h2, h2b, h3, h4⟩ := ht
 obtain ⟨⟨LA', ll', lc', rfl, l1', l2', l3', l4', l5'⟩, A', len', cap', rfl, h1', h2', h2b', h3', h4'⟩ := ht'
 obtain rfl : len = len' := h1.symm.trans h1'
 obtain rfl : ll = ll' := l1.symm.trans l1'
 have IH := Lib.hid ih
 have HLS := Lib.hid l5
 have HLS' := Lib.hid l5'
 have HTS := Lib.hid h4
 have HTS' := Lib.hid h4'
 have HLN := Lib.hid l1
 have HN := Lib.hid h1
 have HNN : Hid (tnodesL ts ≤ N) := by
  rw [tnodes] at hN
  have : tnodesL ts ≤ N := by omega
  exact this
 clear h4 h1 h3 l5 l1 l4 hN ih h4' h1' h3' h2b' l5' l1' l4' l3'
 show Calls Tryz.prog 15 #[.agg #[.int .i64 k, .int .i64 n, .string m, .slice LA ll lc, .slice A len cap], .agg #[.int .i64 k, .int .i64 n, .string m, .slice LA' ll lc', .slice A' len cap']] w (Ret w (.bool true))
 go_enter Tryz.func15, Tryz.ntmps15
 go_wp2_with fail
 have z1 : (w.alloc (.cells #[.int .i64 k, .int .i64 n, .string m, .slice LA ll lc, .slice A len cap] 25)).heap.size = w.heap.size + 1 := by simp
 have z2 : ((w.alloc (.cells #[.int .i64 k, .int .i64 n, .string m, .slice LA ll lc, .slice A len cap] 25)).alloc (.cells #[.int .i64 k, .int .i64 n, .string m, .slice LA' ll lc', .slice A' len cap'] 25)).heap.size = w.heap.size + 1 + 1 := by simp
 have r0 : (w.alloc (.cells #[.int .i64 k, .int .i64 n, .string m, .slice LA ll lc, .slice A len cap] 25)).heap[w.heap.size]? = some (Obj.cells #[.int .i64 k, .int .i64 n, .string m, .slice LA ll lc, .slice A len cap] 25 (0, 0)) := by
  have := heap_alloc_new w (.cells #[.int .i64 k, .int .i64 n, .string m, .slice LA ll lc, .slice A len cap] 25)
  exact this
 have r1 : ((w.alloc (.cells #[.int .i64 k, .int .i64 n, .string m, .slice LA ll lc, .slice A len cap] 25)).alloc (.cells #[.int .i64 k, .int .i64 n, .string m, .slice LA' ll lc', .slice A' len cap'] 25)).heap[w.heap.size + 1]? = some (Obj.cells #[.int .i64 k, .int .i64 n, .string m, .slice LA' ll lc', .slice A' len cap'] 25 (0, 0)) := by
  have := heap_alloc_new (w.alloc (.cells #[.int .i64 k, .int .i64 n, .string m, .slice LA ll lc, .slice A len cap] 25)) (.cells #[.int .i64 k, .int .i64 n, .string m, .slice LA' ll lc', .slice A' len cap'] 25)
  rwa [z1] at this
 have HB := Lib.hid ((below_lit w (.cells #[.int .i64 k, .int .i64 n, .string m, .slice LA ll lc, .slice A len cap] 25)).trans ((below_lit (w.alloc (.cells #[.int .i64 k, .int .i64 n, .string m, .slice LA ll lc, .slice A len cap] 25)) (.cells #[.int .i64 k, .int .i64 n, .string m, .slice LA' ll lc', .slice A' len cap'] 25)).mono (below_lit w (.cells #[.int .i64 k, .int .i64 n, .string m, .slice LA ll lc, .slice A len cap] 25)).size))
 have HR0 := Lib.hid ((heap_alloc_old (w.alloc (.cells #[.int .i64 k, .int .i64 n, .string m, .slice LA ll lc, .slice A len cap] 25)) (.cells #[.int .i64 k, .int .i64 n, .string m, .slice LA' ll lc', .slice A' len cap'] 25) (by rw [z1]; omega)).trans (r0))
 have HR1 := Lib.hid (r1)
 clear r0 r1
 generalize ((w.alloc (.cells #[.int .i64 k, .int .i64 n, .string m, .slice LA ll lc, .slice A len cap] 25)).alloc (.cells #[.int .i64 k, .int .i64 n, .string m, .slice LA' ll lc', .slice A' len cap'] 25)) = W at *
 have HZ := Lib.hid z2
 clear z1 z2
 have HZ9 := Lib.hid (show W.heap.size = w.heap.size + 2 from HZ.out)
 have hk : Hid (∀ W', Below W.heap.size W W' → W'.cell? ⟨w.heap.size, 3, none⟩ = some (.slice LA ll lc) ∧ W'.cell? ⟨w.heap.size + 1, 3, none⟩ = some (.slice LA' ll lc') ∧ W'.cell? ⟨w.heap.size, 4, none⟩ = some (.slice A len cap) ∧ W'.cell? ⟨w.heap.size + 1, 4, none⟩ = some (.slice A' len cap')) := fun W' h => by
  obtain ⟨_, _, _, a3, a4⟩ := five_cells ((h.block w.heap.size (by rw [HZ.out]; omega)).trans HR0.out)
  obtain ⟨_, _, _, b3, b4⟩ := five_cells ((h.block (w.heap.size + 1) (by rw [HZ.out]; omega)).trans HR1.out)
  exact ⟨a3, b3, a4, b4⟩
 obtain ⟨a0, a1, a2, a3, a4⟩ := five_cells HR0.out
 obtain ⟨b0, b1, b2, b3, b4⟩ := five_cells HR1.out
 go_wp2_with fail
 clear a0 a1 a2 a3 a4 b0 b1 b2 b3 b4
 go_loopw [5] (fun i wr => ∃ j : Nat, j ≤ ll ∧ i = .int .i64 j ∧ Hid (Below W.heap.size W wr)) (fun i _ => ll - (intOf i).toNat)
 case atStart => exact ⟨0, Nat.zero_le _, rfl, Below.refl _ _⟩
 case round =>
  obtain ⟨j, hj, rfl, hbw⟩ := hrel
  have HB2 := Lib.hid (HB.out.trans (hbw.out.mono HB.out.size))
  have hsz : w.heap.size + 2 ≤ wr.heap.size := by rw [← HZ9.out]; exact hbw.out.size
  obtain ⟨x3, y3, x4, y4⟩ := hk.out wr hbw.out
  by_cases hlt : j < ll
  ·have hx1 : j < ls.length := by rw [HLN.out]; exact hlt
   have hln : decide ((j : Int) < (ll : Int)) = true := by simp; omega
   obtain ⟨b, o, s, rfl, hbs, _, hc0, hc1, hc2, hls⟩ := lsP_get HLS.out j hx1
   obtain ⟨b', o', s', rfl, hbs', _, hc0', hc1', hc2', hls'⟩ := lsP_get HLS'.out j hx1
   have hbs2 := Nat.lt_of_lt_of_le hbs HB2.out.size
   have hbs2' := Nat.lt_of_lt_of_le hbs' HB2.out.size
   have hc0 := (HB2.out.cell (p := ⟨b, _, none⟩) hbs).trans hc0
   have hc1 := (HB2.out.cell (p := ⟨b, _, none⟩) hbs).trans hc1
   have hc2 := (HB2.out.cell (p := ⟨b, _, none⟩) hbs).trans hc2
   have hc0' := (HB2.out.cell (p := ⟨b', _, none⟩) hbs').trans hc0'
   have hc1' := (HB2.out.cell (p := ⟨b', _, none⟩) hbs').trans hc1'
   have hc2' := (HB2.out.cell (p := ⟨b', _, none⟩) hbs').trans hc2'
   have HLS0 : Hid (LvV wr ls[j] (.agg #[.int .i64 (kindOf ls[j]), .int .i64 (numOf ls[j]), s])) := ⟨s, rfl, lvS_below HB2.out _ _ (lvS_of _ _ hls)⟩
   have HLS0' : Hid (LvV wr ls[j] (.agg #[.int .i64 (kindOf ls[j]), .int .i64 (numOf ls[j]), s'])) := ⟨s', rfl, lvS_below HB2.out _ _ (lvS_of _ _ hls')⟩
   generalize kindOf ls[j] = ki at *
   generalize numOf ls[j] = nu at *
   generalize ls[j] = tj at *
   have hk9 : Hid (∀ W', Below wr.heap.size wr W' → W'.cell? ⟨w.heap.size, 3, none⟩ = some (.slice (some ⟨b, o, none⟩) ll lc) ∧ W'.cell? ⟨w.heap.size + 1, 3, none⟩ = some (.slice (some ⟨b', o', none⟩) ll lc') ∧ W'.cell? ⟨b, o + j * 3, none⟩ = some (.int .i64 ki) ∧ W'.cell? ⟨b, o + j * 3 + 1, none⟩ = some (.int .i64 nu) ∧ W'.cell? ⟨b, o + j * 3 + 2, none⟩ = some (s) ∧ W'.cell? ⟨b', o' + j * 3, none⟩ = some (.int .i64 ki) ∧ W'.cell? ⟨b', o' + j * 3 + 1, none⟩ = some (.int .i64 nu) ∧ W'.cell? ⟨b', o' + j * 3 + 2, none⟩ = some (s')) := fun W' h => by
    obtain ⟨x3, y3, x4, y4⟩ := hk.out W' (hbw.out.trans (h.mono hbw.out.size))
    exact ⟨x3, y3, (h.cell (p := ⟨b, _, none⟩) hbs2).trans hc0, (h.cell (p := ⟨b, _, none⟩) hbs2).trans hc1, (h.cell (p := ⟨b, _, none⟩) hbs2).trans hc2, (h.cell (p := ⟨b', _, none⟩) hbs2').trans hc0', (h.cell (p := ⟨b', _, none⟩) hbs2').trans hc1', (h.cell (p := ⟨b', _, none⟩) hbs2').trans hc2'⟩
   have h0 : (0 : Int) ≤ (j : Int) := by omega
   have hji : (j : Int) < (ll : Int) := by omega
   clear hls hls' hbs hbs'
   go_wp2_with fail
   refine wp_region_held_drew (S := fun W' => W'.cell? ⟨w.heap.size, 3, none⟩ = some (.slice (some ⟨b, o, none⟩) ll lc) ∧ W'.cell? ⟨w.heap.size + 1, 3, none⟩ = some (.slice (some ⟨b', o', none⟩) ll lc') ∧ W'.cell? ⟨b, o + j * 3, none⟩ = some (.int .i64 ki) ∧ W'.cell? ⟨b, o + j * 3 + 1, none⟩ = some (.int .i64 nu) ∧ W'.cell? ⟨b, o + j * 3 + 2, none⟩ = some (s) ∧ W'.cell? ⟨b', o' + j * 3, none⟩ = some (.int .i64 ki) ∧ W'.cell? ⟨b', o' + j * 3 + 1, none⟩ = some (.int .i64 nu) ∧ W'.cell? ⟨b', o' + j * 3 + 2, none⟩ = some (s')) (by kernel_rfl) (hk9.out _ (Below.refl _ _).drew) (fun hHeld => ?_)
   refine take_in (i := 0) (v := ?_) rfl (by kernel_rfl) (by kernel_rfl) (by kernel_rfl) (fun _ _ _ h => h) (by rfl) ?_ hHeld ?_
   rotate_left
   ·intro w hSw
    (try dsimp only at hSw)
    go_simp
    try with_reducible rfl
   try simp only [Act.put, s1q, s2q, s3q]
   refine take_in (i := 1) (v := ?_) rfl (by kernel_rfl) (by kernel_rfl) (by kernel_rfl) (fun _ _ _ h => h) (by rfl) ?_ hHeld ?_
   rotate_left
   ·intro w hSw
    (try dsimp only at hSw)
    go_simp
    try with_reducible rfl
   try simp only [Act.put, s1q, s2q, s3q]
   refine take_in (i := 2) (v := ?_) rfl (by kernel_rfl) (by kernel_rfl) (by kernel_rfl) (fun _ _ _ h => h) (by rfl) ?_ hHeld ?_
   rotate_left
   ·intro w hSw
    (try dsimp only at hSw)
    go_simp
    try with_reducible rfl
   try simp only [Act.put, s1q, s2q, s3q]
   refine take_in (i := 3) (v := ?_) rfl (by kernel_rfl) (by kernel_rfl) (by kernel_rfl) (fun _ _ _ h => h) (by rfl) ?_ hHeld ?_
   rotate_left
   ·intro w hSw
    (try dsimp only at hSw)
    go_simp
    try with_reducible rfl
   try simp only [Act.put, s1q, s2q, s3q]
   refine take_in (i := 4) (v := ?_) rfl (by kernel_rfl) (by kernel_rfl) (by kernel_rfl) (fun _ _ _ h => h) (by rfl) ?_ hHeld ?_
   rotate_left
   ·intro w hSw
    (try dsimp only at hSw)
    go_simp
    try with_reducible rfl
   try simp only [Act.put, s1q, s2q, s3q]
   refine take_in (i := 5) (v := ?_) rfl (by kernel_rfl) (by kernel_rfl) (by kernel_rfl) (fun _ _ _ h => h) (by rfl) ?_ hHeld ?_
   rotate_left
   ·intro w hSw
    (try dsimp only at hSw)
    go_simp
    try with_reducible rfl
   try simp only [Act.put, s1q, s2q, s3q]
   refine take_in (i := 6) (v := ?_) rfl (by kernel_rfl) (by kernel_rfl) (by kernel_rfl) (fun _ _ _ h => h) (by rfl) ?_ hHeld ?_
   rotate_left
   ·intro w hSw
    (try dsimp only at hSw)
    go_simp
    try with_reducible rfl
   try simp only [Act.put, s1q, s2q, s3q]
   refine take_in (i := 7) (v := ?_) rfl (by kernel_rfl) (by kernel_rfl) (by kernel_rfl) (fun _ _ _ h => h) (by rfl) ?_ hHeld ?_
   rotate_left
   ·intro w hSw
    (try dsimp only at hSw)
    go_simp
    try with_reducible rfl
   try simp only [Act.put, s1q, s2q, s3q]
   refine take_in (i := 8) (v := ?_) rfl (by kernel_rfl) (by kernel_rfl) (by kernel_rfl) (fun _ _ _ h => h) (by rfl) ?_ hHeld ?_
   rotate_left
   ·intro w hSw
    (try dsimp only at hSw)
    go_simp
    try with_reducible rfl
   try simp only [Act.put, s1q, s2q, s3q]
   refine take_in (i := 9) (v := ?_) rfl (by kernel_rfl) (by kernel_rfl) (by kernel_rfl) (fun _ _ _ h => h) (by rfl) ?_ hHeld ?_
   rotate_left
   ·intro w hSw
    (try dsimp only at hSw)
    go_simp
    try with_reducible rfl
   try simp only [Act.put, s1q, s2q, s3q]
   refine call_in (i := 10) rfl (by kernel_rfl) (fun K hK => ?_)
   clear hHeld
   go_simp
   go_at_call 46
   refine (sameLevel_same tj _ _ _ (HLS0.out.below (Below.refl _ _).drew) (HLS0'.out.below (Below.refl _ _).drew)).mono ?_
   rintro e w9 ⟨rfl, hb9⟩
   have H9 := Lib.hid ((Below.refl _ _).drew.trans hb9)
   clear hb9
   try (go_wp2_with fail)
   refine hK.out _ _ (hk9.out _ H9.out) (fun hHeld => ?_)
   clear hK K
   try simp only [Act.put, s1q, s2q, s3q]
   refine take_in (i := 11) (v := ?_) rfl (by kernel_rfl) (by kernel_rfl) (by kernel_rfl) (fun _ _ _ h => h) (by rfl) ?_ hHeld ?_
   rotate_left
   ·intro w hSw
    (try dsimp only at hSw)
    go_simp
    try with_reducible rfl
   try simp only [Act.put, s1q, s2q, s3q]
   refine wpAnyH_done (by kernel_rfl) ?_ _
   go_wp2_with fail
   go_roundw
   case rel => exact ⟨j + 1, by omega, by go_num, hbw.out.trans (H9.out.mono hbw.out.size)⟩
   case measure => simp [intOf]; omega
  ·obtain rfl : j = ll := by omega
   have hln : decide ((j : Int) < (j : Int)) = false := by simp
   go_wp2_with fail
   clear hlt hln x3 y3 x4 y4 hsz
   go_loopw [6] (fun i wr => ∃ j : Nat, j ≤ len ∧ i = .int .i64 j ∧ Hid (Below W.heap.size W wr)) (fun i _ => len - (intOf i).toNat)
   case atStart => exact ⟨0, Nat.zero_le _, rfl, hbw.out⟩
   case round =>
    obtain ⟨j, hj, rfl, hbw2⟩ := hrel
    have HB3 := Lib.hid (HB.out.trans (hbw2.out.mono HB.out.size))
    have hsz : w.heap.size + 2 ≤ wr.heap.size := by rw [← HZ9.out]; exact hbw2.out.size
    obtain ⟨x3, y3, x4, y4⟩ := hk.out wr hbw2.out
    by_cases hlt : j < len
    ·have hx1 : j < ts.length := by rw [HN.out]; exact hlt
     have hln : decide ((j : Int) < (len : Int)) = true := by simp; omega
     obtain ⟨b, o, l, s, rfl, hbs, _, hc0, hc1, hc2, hc3, hc4, hls⟩ := tsP_get HTS.out j hx1
     obtain ⟨b', o', l', s', rfl, hbs', _, hc0', hc1', hc2', hc3', hc4', hls'⟩ := tsP_get HTS'.out j hx1
     have hbs2 := Nat.lt_of_lt_of_le hbs HB3.out.size
     have hbs2' := Nat.lt_of_lt_of_le hbs' HB3.out.size
     have hc0 := (HB3.out.cell (p := ⟨b, _, none⟩) hbs).trans hc0
     have hc1 := (HB3.out.cell (p := ⟨b, _, none⟩) hbs).trans hc1
     have hc2 := (HB3.out.cell (p := ⟨b, _, none⟩) hbs).trans hc2
     have hc3 := (HB3.out.cell (p := ⟨b, _, none⟩) hbs).trans hc3
     have hc4 := (HB3.out.cell (p := ⟨b, _, none⟩) hbs).trans hc4
     have hc0' := (HB3.out.cell (p := ⟨b', _, none⟩) hbs').trans hc0'
     have hc1' := (HB3.out.cell (p := ⟨b', _, none⟩) hbs').trans hc1'
     have hc2' := (HB3.out.cell (p := ⟨b', _, none⟩) hbs').trans hc2'
     have hc3' := (HB3.out.cell (p := ⟨b', _, none⟩) hbs').trans hc3'
     have hc4' := (HB3.out.cell (p := ⟨b', _, none⟩) hbs').trans hc4'
     obtain ⟨⟨xa, xl, xc, rfl⟩, ya, yl, yc, rfl⟩ := tmP_slices hls
     obtain ⟨⟨xa', xl', xc', rfl⟩, ya', yl', yc', rfl⟩ := tmP_slices hls'
     have HLS0 : Hid (TmV wr ts[j] (tv ts[j] (.slice xa xl xc) (.slice ya yl yc))) := ⟨_, _, rfl, tmP_below HB3.out hls⟩
     have HLS0' : Hid (TmV wr ts[j] (tv ts[j] (.slice xa' xl' xc') (.slice ya' yl' yc'))) := ⟨_, _, rfl, tmP_below HB3.out hls'⟩
     dsimp only [tv] at HLS0 HLS0'
     have HTN : Hid (tnodes ts[j] ≤ N) := Nat.le_trans (tnodes_mem (List.getElem_mem hx1)) HNN.out
     generalize tkOf ts[j] = ki at *
     generalize tnOf ts[j] = nu at *
     generalize tmOf ts[j] = mo at *
     generalize ts[j] = tj at *
     have hk8 : Hid (∀ W', Below wr.heap.size wr W' → W'.cell? ⟨w.heap.size, 4, none⟩ = some (.slice (some ⟨b, o, none⟩) len cap) ∧ W'.cell? ⟨w.heap.size + 1, 4, none⟩ = some (.slice (some ⟨b', o', none⟩) len cap') ∧ W'.cell? ⟨b, o + j * 5, none⟩ = some (.int .i64 ki) ∧ W'.cell? ⟨b, o + j * 5 + 1, none⟩ = some (.int .i64 nu) ∧ W'.cell? ⟨b, o + j * 5 + 2, none⟩ = some (.string mo) ∧ W'.cell? ⟨b, o + j * 5 + 3, none⟩ = some (.slice xa xl xc) ∧ W'.cell? ⟨b, o + j * 5 + 4, none⟩ = some (.slice ya yl yc) ∧ W'.cell? ⟨b', o' + j * 5, none⟩ = some (.int .i64 ki) ∧ W'.cell? ⟨b', o' + j * 5 + 1, none⟩ = some (.int .i64 nu) ∧ W'.cell? ⟨b', o' + j * 5 + 2, none⟩ = some (.string mo) ∧ W'.cell? ⟨b', o' + j * 5 + 3, none⟩ = some (.slice xa' xl' xc') ∧ W'.cell? ⟨b', o' + j * 5 + 4, none⟩ = some (.slice ya' yl' yc')) := fun W' h => by
      obtain ⟨x3, y3, x4, y4⟩ := hk.out W' (hbw2.out.trans (h.mono hbw2.out.size))
      exact ⟨x4, y4, (h.cell (p := ⟨b, _, none⟩) hbs2).trans hc0, (h.cell (p := ⟨b, _, none⟩) hbs2).trans hc1, (h.cell (p := ⟨b, _, none⟩) hbs2).trans hc2, (h.cell (p := ⟨b, _, none⟩) hbs2).trans hc3, (h.cell (p := ⟨b, _, none⟩) hbs2).trans hc4, (h.cell (p := ⟨b', _, none⟩) hbs2').trans hc0', (h.cell (p := ⟨b', _, none⟩) hbs2').trans hc1', (h.cell (p := ⟨b', _, none⟩) hbs2').trans hc2', (h.cell (p := ⟨b', _, none⟩) hbs2').trans hc3', (h.cell (p := ⟨b', _, none⟩) hbs2').trans hc4'⟩
     have h0 : (0 : Int) ≤ (j : Int) := by omega
     have hji : (j : Int) < (len : Int) := by omega
     clear hls hls' hbs hbs'
     go_wp2_with fail
     refine wp_region_held_drew (S := fun W' => W'.cell? ⟨w.heap.size, 4, none⟩ = some (.slice (some ⟨b, o, none⟩) len cap) ∧ W'.cell? ⟨w.heap.size + 1, 4, none⟩ = some (.slice (some ⟨b', o', none⟩) len cap') ∧ W'.cell? ⟨b, o + j * 5, none⟩ = some (.int .i64 ki) ∧ W'.cell? ⟨b, o + j * 5 + 1, none⟩ = some (.int .i64 nu) ∧ W'.cell? ⟨b, o + j * 5 + 2, none⟩ = some (.string mo) ∧ W'.cell? ⟨b, o + j * 5 + 3, none⟩ = some (.slice xa xl xc) ∧ W'.cell? ⟨b, o + j * 5 + 4, none⟩ = some (.slice ya yl yc) ∧ W'.cell? ⟨b', o' + j * 5, none⟩ = some (.int .i64 ki) ∧ W'.cell? ⟨b', o' + j * 5 + 1, none⟩ = some (.int .i64 nu) ∧ W'.cell? ⟨b', o' + j * 5 + 2, none⟩ = some (.string mo) ∧ W'.cell? ⟨b', o' + j * 5 + 3, none⟩ = some (.slice xa' xl' xc') ∧ W'.cell? ⟨b', o' + j * 5 + 4, none⟩ = some (.slice ya' yl' yc')) (by kernel_rfl) (hk8.out _ (Below.refl _ _).drew) (fun hHeld => ?_)
     refine take_in (i := 0) (v := ?_) rfl (by kernel_rfl) (by kernel_rfl) (by kernel_rfl) (fun _ _ _ h => h) (by rfl) ?_ hHeld ?_
     rotate_left
     ·intro w hSw
      (try dsimp only at hSw)
      go_simp
      try with_reducible rfl
     try simp only [Act.put, s1q, s2q, s3q]
     refine take_in (i := 1) (v := ?_) rfl (by kernel_rfl) (by kernel_rfl) (by kernel_rfl) (fun _ _ _ h => h) (by rfl) ?_ hHeld ?_
     rotate_left
     ·intro w hSw
      (try dsimp only at hSw)
      go_simp
      try with_reducible rfl
     try simp only [Act.put, s1q, s2q, s3q]
     refine take_in (i := 2) (v := ?_) rfl (by kernel_rfl) (by kernel_rfl) (by kernel_rfl) (fun _ _ _ h => h) (by rfl) ?_ hHeld ?_
     rotate_left
     ·intro w hSw
      (try dsimp only at hSw)
      go_simp
      try with_reducible rfl
     try simp only [Act.put, s1q, s2q, s3q]
     refine take_in (i := 3) (v := ?_) rfl (by kernel_rfl) (by kernel_rfl) (by kernel_rfl) (fun _ _ _ h => h) (by rfl) ?_ hHeld ?_
     rotate_left
     ·intro w hSw
      (try dsimp only at hSw)
      go_simp
      try with_reducible rfl
     try simp only [Act.put, s1q, s2q, s3q]
     refine take_in (i := 4) (v := ?_) rfl (by kernel_rfl) (by kernel_rfl) (by kernel_rfl) (fun _ _ _ h => h) (by rfl) ?_ hHeld ?_
     rotate_left
     ·intro w hSw
      (try dsimp only at hSw)
      go_simp
      try with_reducible rfl
     try simp only [Act.put, s1q, s2q, s3q]
     refine take_in (i := 5) (v := ?_) rfl (by kernel_rfl) (by kernel_rfl) (by kernel_rfl) (fun _ _ _ h => h) (by rfl) ?_ hHeld ?_
     rotate_left
     ·intro w hSw
      (try dsimp only at hSw)
      go_simp
      try with_reducible rfl
     try simp only [Act.put, s1q, s2q, s3q]
     refine take_in (i := 6) (v := ?_) rfl (by kernel_rfl) (by kernel_rfl) (by kernel_rfl) (fun _ _ _ h => h) (by rfl) ?_ hHeld ?_
     rotate_left
     ·intro w hSw
      (try dsimp only at hSw)
      go_simp
      try with_reducible rfl
     try simp only [Act.put, s1q, s2q, s3q]
     refine take_in (i := 7) (v := ?_) rfl (by kernel_rfl) (by kernel_rfl) (by kernel_rfl) (fun _ _ _ h => h) (by rfl) ?_ hHeld ?_
     rotate_left
     ·intro w hSw
      (try dsimp only at hSw)
      go_simp
      try with_reducible rfl
     try simp only [Act.put, s1q, s2q, s3q]
     refine take_in (i := 8) (v := ?_) rfl (by kernel_rfl) (by kernel_rfl) (by kernel_rfl) (fun _ _ _ h => h) (by rfl) ?_ hHeld ?_
     rotate_left
     ·intro w hSw
      (try dsimp only at hSw)
      go_simp
      try with_reducible rfl
     try simp only [Act.put, s1q, s2q, s3q]
     refine take_in (i := 9) (v := ?_) rfl (by kernel_rfl) (by kernel_rfl) (by kernel_rfl) (fun _ _ _ h => h) (by rfl) ?_ hHeld ?_
     rotate_left
     ·intro w hSw
      (try dsimp only at hSw)
      go_simp
      try with_reducible rfl
     try simp only [Act.put, s1q, s2q, s3q]
     refine call_in (i := 10) rfl (by kernel_rfl) (fun K hK => ?_)
     clear hHeld
     go_simp
     go_at_call 15
     refine (IH.out tj _ _ _ HTN.out (HLS0.out.below (Below.refl _ _).drew) (HLS0'.out.below (Below.refl _ _).drew)).mono ?_
     rintro e w9 ⟨rfl, hb9⟩
     have H8 := Lib.hid ((Below.refl _ _).drew.trans hb9)
     clear hb9
     try (go_wp2_with fail)
     refine hK.out _ _ (hk8.out _ H8.out) (fun hHeld => ?_)
     clear hK K
     try simp only [Act.put, s1q, s2q, s3q]
     refine take_in (i := 11) (v := ?_) rfl (by kernel_rfl) (by kernel_rfl) (by kernel_rfl) (fun _ _ _ h => h) (by rfl) ?_ hHeld ?_
     rotate_left
     ·intro w hSw
      (try dsimp only at hSw)
      go_simp
      try with_reducible rfl
     try simp only [Act.put, s1q, s2q, s3q]
     refine wpAnyH_done (by kernel_rfl) ?_ _
     go_wp2_with fail
     go_roundw
     case rel => exact ⟨j + 1, by omega, by go_num, hbw2.out.trans (H8.out.mono hbw2.out.size)⟩
     case measure => simp [intOf]; omega
    ·obtain rfl : j = len := by omega
     have hln : decide ((j : Int) < (j : Int)) = false := by simp
     go_wp2_with fail
     go_ret
     exact ⟨rfl, HB3.out⟩
theorem sameTerm_is (t : Tm) (v v' : Value) (w : World) (hv : TmV w t v) (hv' : TmV w t v') : Calls Tryz.prog 15 #[v, v'] w (Ret w (.bool true)) :=
 sameTerm_up (tnodes t) t v v' w (Nat.le_refl _) hv hv'
end Trm
end Go.Proofs.YteomfakbbcpckaaGreatDoor
