import Derived.Test.YtbkdecgfiiajnaaDoorJ35
/-
  The contracts of the reference's Right and Any, of terms of any size.
  Conditions: the term lies in memory as told by 'TmV', its names take at most 2^47 bytes each.
-/
namespace Go.Proofs.YtbkdecgfiiajnaaDoor
open Go.RowKit
open Lvl
namespace Trm
set_option maxRecDepth 100000 in
set_option maxHeartbeats 2000000 in
theorem refRightT_free (t : Tm) (v : Value) (nn kk : Int) (w : World) (hv : TmV w t v) (hnm : nmOk t) (h0 : 0 ≤ nn) (h4 : nn ≤ 4) (b : Bool) (hb : rightT Nm.rightB nn t kk = b) :
    Calls Tryd.prog 23 #[v, .int .i64 nn, .int .i64 kk] w (Ret w (.bool b)) := by
  have HNK := Lib.hid hnm
  have HV := Lib.hid hb
  clear hnm hb
  obtain ⟨l, s, rfl, ht⟩ := hv
  obtain ⟨⟨la, ll, lc, rfl⟩, sa, sl, sc, rfl⟩ := tmP_slices ht
  have HTT := Lib.hid ht
  obtain ⟨k, hk⟩ : ∃ k, tkOf t = k := ⟨_, rfl⟩
  obtain ⟨n, hn⟩ : ∃ n, tnOf t = n := ⟨_, rfl⟩
  obtain ⟨m, hmm⟩ : ∃ m, tmOf t = m := ⟨_, rfl⟩
  dsimp only [tv]
  rw [hk, hn, hmm]
  have HK := Lib.hid hk
  have HNN := Lib.hid hn
  have HMM := Lib.hid hmm
  clear hk hn hmm ht
  have d1 : decide (0 ≤ nn) = true := by simp; omega
  have d2 : decide (nn ≤ 4) = true := by simp; omega
  by_cases hk0 : 0 ≤ kk
  · have d0 : decide (0 ≤ kk) = true := by simp; omega
    go_enter Tryd.func23, Tryd.ntmps23
    go_wp2_with fail
    have z1 : (w.alloc (.cells #[.int .i64 k, .int .i64 n, .string m, .slice la ll lc, .slice sa sl sc] 25)).heap.size = w.heap.size + 1 := by simp
    have r0 : (w.alloc (.cells #[.int .i64 k, .int .i64 n, .string m, .slice la ll lc, .slice sa sl sc] 25)).heap[w.heap.size]? = some (Obj.cells #[.int .i64 k, .int .i64 n, .string m, .slice la ll lc, .slice sa sl sc] 25 (0, 0)) := by
      have := heap_alloc_new w (.cells #[.int .i64 k, .int .i64 n, .string m, .slice la ll lc, .slice sa sl sc] 25)
      exact this
    have HB := Lib.hid (below_lit w (.cells #[.int .i64 k, .int .i64 n, .string m, .slice la ll lc, .slice sa sl sc] 25))
    have HR0 := Lib.hid (r0)
    clear r0
    generalize (w.alloc (.cells #[.int .i64 k, .int .i64 n, .string m, .slice la ll lc, .slice sa sl sc] 25)) = W at *
    have HZ := Lib.hid z1
    clear z1
    have HT : Hid (TmV W t (.agg #[.int .i64 k, .int .i64 n, .string m, .slice la ll lc, .slice sa sl sc])) := by
      have : TmV W t (.agg #[.int .i64 k, .int .i64 n, .string m, .slice la ll lc, .slice sa sl sc]) := ⟨_, _, by rw [← HK.out, ← HNN.out, ← HMM.out], tmP_below HB.out HTT.out⟩
      exact this
    have hz := HZ.out
    have hk : Hid (∀ W', Below W.heap.size W W' → W'.cell? ⟨w.heap.size, 0, none⟩ = some (.int .i64 k) ∧ W'.cell? ⟨w.heap.size, 1, none⟩ = some (.int .i64 n) ∧ W'.cell? ⟨w.heap.size, 2, none⟩ = some (.string m) ∧ W'.cell? ⟨w.heap.size, 3, none⟩ = some (.slice la ll lc) ∧ W'.cell? ⟨w.heap.size, 4, none⟩ = some (.slice sa sl sc)) := fun W' h => five_cells ((h.block w.heap.size (by omega)).trans HR0.out)
    clear HR0 HTT
    obtain ⟨R, hR⟩ : ∃ R, min (tnodes t) (2000 + 1) = R := ⟨_, rfl⟩
    have HR := Lib.hid hR
    refine (refNodes_is t _ 2000 W HT.out (by omega) R hR).mono ?_
    rintro e w2 ⟨rfl, hb2⟩
    have HB2 := Lib.hid hb2
    clear hb2 hR
    obtain ⟨a0, a1, a2, a3, a4⟩ := hk.out w2 HB2.out
    by_cases hR0 : R ≤ 2000
    · have d3 : decide ((R : Int) ≤ 2000) = true := by simp; omega
      have HO : Hid (okT Nm.rightB (rightB nn) t (min kk 1125899906842624) = b) := by
        have : okT Nm.rightB (rightB nn) t (min kk 1125899906842624) = b := by
          have h1 := HR.out
          rw [← HV.out, rightT, decide_eq_true hk0, decide_eq_true (show tnodes t ≤ 2000 by omega), Bool.true_and, Bool.true_and]
        exact this
      by_cases hk5 : kk ≤ 1125899906842624
      · have e5 : min kk 1125899906842624 = kk := by omega
        rw [e5] at HO
        go_wp2_with fail
        refine (refRightT_up nn (tnodes t) t _ kk w2 b (Nat.le_refl _) HNK.out (HT.out.below HB2.out) hk0 (by have := HR.out; omega) HO.out).mono ?_
        rintro e w3 ⟨rfl, hb3⟩
        have HB3 := Lib.hid (HB2.out.trans (hb3.mono HB2.out.size))
        clear hb3
        cases b <;> (go_wp2_with fail; go_ret; exact ⟨rfl, HB.out.trans (HB3.out.mono HB.out.size)⟩)
      · have e5 : min kk 1125899906842624 = 1125899906842624 := by omega
        rw [e5] at HO
        go_wp2_with fail
        refine (refRightT_up nn (tnodes t) t _ 1125899906842624 w2 b (Nat.le_refl _) HNK.out (HT.out.below HB2.out) (by omega) (by have := HR.out; omega) HO.out).mono ?_
        rintro e w3 ⟨rfl, hb3⟩
        have HB3 := Lib.hid (HB2.out.trans (hb3.mono HB2.out.size))
        clear hb3
        cases b <;> (go_wp2_with fail; go_ret; exact ⟨rfl, HB.out.trans (HB3.out.mono HB.out.size)⟩)
    · have d3 : decide ((R : Int) ≤ 2000) = false := by simp; omega
      have hbf : b = false := by
        have h1 := HR.out
        rw [← HV.out, rightT, decide_eq_false (show ¬ tnodes t ≤ 2000 by omega), Bool.and_false, Bool.false_and]
      subst hbf
      go_wp2_with fail
      go_ret
      exact ⟨rfl, HB.out.trans (HB2.out.mono HB.out.size)⟩
  · have d0 : decide (0 ≤ kk) = false := by simp; omega
    have hbf : b = false := by rw [← HV.out, rightT, decide_eq_false hk0, Bool.false_and, Bool.false_and]
    subst hbf
    go_enter Tryd.func23, Tryd.ntmps23
    go_wp2_with fail
    go_ret
    exact ⟨rfl, below_lit w _⟩
set_option maxRecDepth 100000 in
set_option maxHeartbeats 2000000 in
theorem refAny_free (t : Tm) (v : Value) (nn : Int) (w : World) (hv : TmV w t v) (hnm : nmOk t) (h0 : 0 ≤ nn) (h4 : nn ≤ 4) (b : Bool) (hb : rightT Nm.rightB nn t 1125899906842624 = b) :
    Calls Tryd.prog 8 #[v, .int .i64 nn] w (Ret w (.bool b)) := by
  have HNK := Lib.hid hnm
  have HV := Lib.hid hb
  clear hnm hb
  obtain ⟨l, s, rfl, ht⟩ := hv
  obtain ⟨⟨la, ll, lc, rfl⟩, sa, sl, sc, rfl⟩ := tmP_slices ht
  have HTT := Lib.hid ht
  obtain ⟨k, hk⟩ : ∃ k, tkOf t = k := ⟨_, rfl⟩
  obtain ⟨n, hn⟩ : ∃ n, tnOf t = n := ⟨_, rfl⟩
  obtain ⟨m, hmm⟩ : ∃ m, tmOf t = m := ⟨_, rfl⟩
  dsimp only [tv]
  rw [hk, hn, hmm]
  have HK := Lib.hid hk
  have HNN := Lib.hid hn
  have HMM := Lib.hid hmm
  clear hk hn hmm ht
  go_enter Tryd.func8, Tryd.ntmps8
  go_wp2_with fail
  have z1 : (w.alloc (.cells #[.int .i64 k, .int .i64 n, .string m, .slice la ll lc, .slice sa sl sc] 25)).heap.size = w.heap.size + 1 := by simp
  have r0 : (w.alloc (.cells #[.int .i64 k, .int .i64 n, .string m, .slice la ll lc, .slice sa sl sc] 25)).heap[w.heap.size]? = some (Obj.cells #[.int .i64 k, .int .i64 n, .string m, .slice la ll lc, .slice sa sl sc] 25 (0, 0)) := by
    have := heap_alloc_new w (.cells #[.int .i64 k, .int .i64 n, .string m, .slice la ll lc, .slice sa sl sc] 25)
    exact this
  have HB := Lib.hid (below_lit w (.cells #[.int .i64 k, .int .i64 n, .string m, .slice la ll lc, .slice sa sl sc] 25))
  have HR0 := Lib.hid (r0)
  clear r0
  generalize (w.alloc (.cells #[.int .i64 k, .int .i64 n, .string m, .slice la ll lc, .slice sa sl sc] 25)) = W at *
  have HZ := Lib.hid z1
  clear z1
  have HT : Hid (TmV W t (.agg #[.int .i64 k, .int .i64 n, .string m, .slice la ll lc, .slice sa sl sc])) := by
    have : TmV W t (.agg #[.int .i64 k, .int .i64 n, .string m, .slice la ll lc, .slice sa sl sc]) := ⟨_, _, by rw [← HK.out, ← HNN.out, ← HMM.out], tmP_below HB.out HTT.out⟩
    exact this
  clear HR0 HTT
  refine (refRightT_free t _ nn _ W HT.out HNK.out h0 h4 b HV.out).mono ?_
  rintro e w3 ⟨rfl, hb3⟩
  have HB3 := Lib.hid (HB.out.trans (hb3.mono HB.out.size))
  clear hb3
  go_wp2_with fail
  go_ret
  exact ⟨rfl, HB3.out⟩
end Trm
end Go.Proofs.YtbkdecgfiiajnaaDoor
