import Derived.Test.YtlijdgamobpndaaDoorJ37
import Derived.Test.YtlijdgamobpndaaDoorJ36
import Derived.Test.YtlijdgamobpndaaDoorJ22
/-
  The contract of the reference's Lift: so much is added to the variables that are loose in so many binders.
  Conditions: the term lies in memory as told by 'TmV'; it is right, of at most 100000 nodes.
-/
namespace Go.Proofs.YtlijdgamobpndaaDoor
open Go.RowKit
open Lvl
namespace Trm
theorem liTL_get (c kd : Int) : ∀ (ts : List Tm) (i : Nat) (d : Int) (j : Nat) (h : j < ts.length) (h' : j < (liTL c kd ts i d).length), (liTL c kd ts i d)[j] = liT c ts[j] (under kd (i + j) d)
  | a :: ts, i, d, 0, _, _ => by simp [liTL]
  | a :: ts, i, d, j + 1, h, h' => by
    have := liTL_get c kd ts (i + 1) d j (by simpa using h) (by rw [liTL_length]; simpa using h)
    simp only [liTL, List.getElem_cons_succ]
    rw [this, show i + 1 + j = i + (j + 1) by omega]
theorem ok_child {RN : ByteArray → Bool} {RL : Lv → Bool} {kd : Int} : ∀ {ts : List Tm} {i : Nat} {K : Int}, okTL RN RL kd ts i K = true → ∀ (j : Nat) (h : j < ts.length), okT RN RL ts[j] (under kd (i + j) K) = true
  | a :: ts, i, K, h, 0, _ => by
    rw [okTL, Bool.and_eq_true] at h
    exact h.1
  | a :: ts, i, K, h, j + 1, hj => by
    rw [okTL, Bool.and_eq_true] at h
    have := ok_child h.2 j (by simpa using hj)
    rw [show i + 1 + j = i + (j + 1) by omega] at this
    exact this
/-- A right node has no arguments, or no levels; a variable none, and its number is below. -/
theorem ok_node {RN : ByteArray → Bool} {RL : Lv → Bool} {k n : Int} {m : ByteArray} {ls : List Lv} {ts : List Tm} {K : Int} (h : okT RN RL (.mk k n m ls ts) K = true) : (ts = [] ∨ ls = []) ∧ (k = 1 → ts = [] ∧ 0 ≤ n ∧ n < K) := by
  rw [okT, Bool.and_eq_true] at h
  have h1 := h.1
  unfold shape at h1
  rw [Bool.and_eq_true] at h1
  have h2 := h1.2
  by_cases k1 : k = 1
  · rw [if_pos k1] at h2
    simp only [Bool.and_eq_true, decide_eq_true_eq] at h2
    have hts : ts = [] := List.length_eq_zero_iff.1 h2.1.2
    exact ⟨.inl hts, fun _ => ⟨hts, h2.1.1.1.1, h2.1.1.1.2⟩⟩
  · refine ⟨?_, fun e => absurd e k1⟩
    rw [if_neg k1, Bool.and_eq_true] at h2
    have h3 := h2.2
    by_cases k2 : k = 2
    · rw [if_pos k2] at h3
      simp only [Bool.and_eq_true, decide_eq_true_eq] at h3
      exact .inl (List.length_eq_zero_iff.1 h3.1.2)
    · rw [if_neg k2] at h3
      by_cases k3 : k = 3
      · rw [if_pos k3] at h3
        simp only [Bool.and_eq_true, decide_eq_true_eq] at h3
        exact .inl (List.length_eq_zero_iff.1 h3.2)
      · rw [if_neg k3] at h3
        simp only [Bool.and_eq_true, decide_eq_true_eq] at h3
        exact .inr (List.length_eq_zero_iff.1 h3.1.1)
theorem tmP_num {w : World} {P : Nat → Prop} {k n n' : Int} {m : ByteArray} {ls : List Lv} {ts : List Tm} {l s : Value} (h : TmP w P (.mk k n m ls ts) l s) : TmP w P (.mk k n' m ls ts) l s := by
  rw [TmP] at h ⊢
  exact h

theorem alloc_swap (w : World) (O O' : Obj) : (w.alloc O).grownBy (w.alloc O') (some w.heap.size) := by
  have h1 := below_lit w O
  have h2 := below_lit w O'
  have s1 : (w.alloc O).heap.size = w.heap.size + 1 := by simp
  have s2 : (w.alloc O').heap.size = w.heap.size + 1 := by simp
  refine ⟨h2.os.trans h1.os.symm, h2.tape.trans h1.tape.symm, h2.output.trans h1.output.symm, by omega, fun k hk hne => ?_⟩
  have hlt : k < w.heap.size := by
    rcases Nat.lt_or_ge k w.heap.size with h | h
    · exact h
    · exact absurd (show some k = some w.heap.size by rw [show k = w.heap.size by omega]) hne
  exact (h2.block k hlt).trans (h1.block k hlt).symm

end Trm
end Go.Proofs.YtlijdgamobpndaaDoor
/-
  The contracts of the reference's Right and Any, of terms of any size.
  Conditions: the term lies in memory as told by 'TmV', its names take at most 2^47 bytes each.
-/
namespace Go.Proofs.YtlijdgamobpndaaDoor
open Go.RowKit
open Lvl
namespace Trm
set_option maxRecDepth 100000 in
set_option maxHeartbeats 2000000 in
theorem refRightT_free (t : Tm) (v : Value) (nn kk : Int) (w : World) (hv : TmV w t v) (hnm : nmOk t) (h0 : 0 ≤ nn) (h4 : nn ≤ 4) (b : Bool) (hb : rightT Nm.rightB nn t kk = b) :
    Calls Tryd.prog 23 #[v, .int .i64 nn, .int .i64 kk] w (Ret w (.bool b)) := by
  have HNK := Lib.hid hnm
  have HV := Lib.hid hb
  clear hnm hb
  obtain ⟨l, s, rfl, ht⟩ := hv
  obtain ⟨⟨la, ll, lc, rfl⟩, sa, sl, sc, rfl⟩ := tmP_slices ht
  have HTT := Lib.hid ht
  obtain ⟨k, hk⟩ : ∃ k, tkOf t = k := ⟨_, rfl⟩
  obtain ⟨n, hn⟩ : ∃ n, tnOf t = n := ⟨_, rfl⟩
  obtain ⟨m, hmm⟩ : ∃ m, tmOf t = m := ⟨_, rfl⟩
  dsimp only [tv]
  rw [hk, hn, hmm]
  have HK := Lib.hid hk
  have HNN := Lib.hid hn
  have HMM := Lib.hid hmm
  clear hk hn hmm ht
  have d1 : decide (0 ≤ nn) = true := by simp; omega
  have d2 : decide (nn ≤ 4) = true := by simp; omega
  by_cases hk0 : 0 ≤ kk
  · have d0 : decide (0 ≤ kk) = true := by simp; omega
    go_enter Tryd.func23, Tryd.ntmps23
    go_wp2_with fail
    have z1 : (w.alloc (.cells #[.int .i64 k, .int .i64 n, .string m, .slice la ll lc, .slice sa sl sc] 25)).heap.size = w.heap.size + 1 := by simp
    have r0 : (w.alloc (.cells #[.int .i64 k, .int .i64 n, .string m, .slice la ll lc, .slice sa sl sc] 25)).heap[w.heap.size]? = some (Obj.cells #[.int .i64 k, .int .i64 n, .string m, .slice la ll lc, .slice sa sl sc] 25 (0, 0)) := by
      have := heap_alloc_new w (.cells #[.int .i64 k, .int .i64 n, .string m, .slice la ll lc, .slice sa sl sc] 25)
      exact this
    have HB := Lib.hid (below_lit w (.cells #[.int .i64 k, .int .i64 n, .string m, .slice la ll lc, .slice sa sl sc] 25))
    have HR0 := Lib.hid (r0)
    clear r0
    generalize (w.alloc (.cells #[.int .i64 k, .int .i64 n, .string m, .slice la ll lc, .slice sa sl sc] 25)) = W at *
    have HZ := Lib.hid z1
    clear z1
    have HT : Hid (TmV W t (.agg #[.int .i64 k, .int .i64 n, .string m, .slice la ll lc, .slice sa sl sc])) := by
      have : TmV W t (.agg #[.int .i64 k, .int .i64 n, .string m, .slice la ll lc, .slice sa sl sc]) := ⟨_, _, by rw [← HK.out, ← HNN.out, ← HMM.out], tmP_below HB.out HTT.out⟩
      exact this
    have hz := HZ.out
    have hk : Hid (∀ W', Below W.heap.size W W' → W'.cell? ⟨w.heap.size, 0, none⟩ = some (.int .i64 k) ∧ W'.cell? ⟨w.heap.size, 1, none⟩ = some (.int .i64 n) ∧ W'.cell? ⟨w.heap.size, 2, none⟩ = some (.string m) ∧ W'.cell? ⟨w.heap.size, 3, none⟩ = some (.slice la ll lc) ∧ W'.cell? ⟨w.heap.size, 4, none⟩ = some (.slice sa sl sc)) := fun W' h => five_cells ((h.block w.heap.size (by omega)).trans HR0.out)
    clear HR0 HTT
    obtain ⟨R, hR⟩ : ∃ R, min (tnodes t) (2000 + 1) = R := ⟨_, rfl⟩
    have HR := Lib.hid hR
    refine (refNodes_is t _ 2000 W HT.out (by omega) R hR).mono ?_
    rintro e w2 ⟨rfl, hb2⟩
    have HB2 := Lib.hid hb2
    clear hb2 hR
    obtain ⟨a0, a1, a2, a3, a4⟩ := hk.out w2 HB2.out
    by_cases hR0 : R ≤ 2000
    · have d3 : decide ((R : Int) ≤ 2000) = true := by simp; omega
      have HO : Hid (okT Nm.rightB (rightB nn) t (min kk 1125899906842624) = b) := by
        have : okT Nm.rightB (rightB nn) t (min kk 1125899906842624) = b := by
          have h1 := HR.out
          rw [← HV.out, rightT, decide_eq_true hk0, decide_eq_true (show tnodes t ≤ 2000 by omega), Bool.true_and, Bool.true_and]
        exact this
      by_cases hk5 : kk ≤ 1125899906842624
      · have e5 : min kk 1125899906842624 = kk := by omega
        rw [e5] at HO
        go_wp2_with fail
        refine (refRightT_up nn (tnodes t) t _ kk w2 b (Nat.le_refl _) HNK.out (HT.out.below HB2.out) hk0 (by have := HR.out; omega) HO.out).mono ?_
        rintro e w3 ⟨rfl, hb3⟩
        have HB3 := Lib.hid (HB2.out.trans (hb3.mono HB2.out.size))
        clear hb3
        cases b <;> (go_wp2_with fail; go_ret; exact ⟨rfl, HB.out.trans (HB3.out.mono HB.out.size)⟩)
      · have e5 : min kk 1125899906842624 = 1125899906842624 := by omega
        rw [e5] at HO
        go_wp2_with fail
        refine (refRightT_up nn (tnodes t) t _ 1125899906842624 w2 b (Nat.le_refl _) HNK.out (HT.out.below HB2.out) (by omega) (by have := HR.out; omega) HO.out).mono ?_
        rintro e w3 ⟨rfl, hb3⟩
        have HB3 := Lib.hid (HB2.out.trans (hb3.mono HB2.out.size))
        clear hb3
        cases b <;> (go_wp2_with fail; go_ret; exact ⟨rfl, HB.out.trans (HB3.out.mono HB.out.size)⟩)
    · have d3 : decide ((R : Int) ≤ 2000) = false := by simp; omega
      have hbf : b = false := by
        have h1 := HR.out
        rw [← HV.out, rightT, decide_eq_false (show ¬ tnodes t ≤ 2000 by omega), Bool.and_false, Bool.false_and]
      subst hbf
      go_wp2_with fail
      go_ret
      exact ⟨rfl, HB.out.trans (HB2.out.mono HB.out.size)⟩
  · have d0 : decide (0 ≤ kk) = false := by simp; omega
    have hbf : b = false := by rw [← HV.out, rightT, decide_eq_false hk0, Bool.false_and, Bool.false_and]
    subst hbf
    go_enter Tryd.func23, Tryd.ntmps23
    go_wp2_with fail
    go_ret
    exact ⟨rfl, below_lit w _⟩
set_option maxRecDepth 100000 in
set_option maxHeartbeats 2000000 in
theorem refAny_free (t : Tm) (v : Value) (nn : Int) (w : World) (hv : TmV w t v) (hnm : nmOk t) (h0 : 0 ≤ nn) (h4 : nn ≤ 4) (b : Bool) (hb : rightT Nm.rightB nn t 1125899906842624 = b) :
    Calls Tryd.prog 8 #[v, .int .i64 nn] w (Ret w (.bool b)) := by
  have HNK := Lib.hid hnm
  have HV := Lib.hid hb
  clear hnm hb
  obtain ⟨l, s, rfl, ht⟩ := hv
  obtain ⟨⟨la, ll, lc, rfl⟩, sa, sl, sc, rfl⟩ := tmP_slices ht
  have HTT := Lib.hid ht
  obtain ⟨k, hk⟩ : ∃ k, tkOf t = k := ⟨_, rfl⟩
  obtain ⟨n, hn⟩ : ∃ n, tnOf t = n := ⟨_, rfl⟩
  obtain ⟨m, hmm⟩ : ∃ m, tmOf t = m := ⟨_, rfl⟩
  dsimp only [tv]
  rw [hk, hn, hmm]
  have HK := Lib.hid hk
  have HNN := Lib.hid hn
  have HMM := Lib.hid hmm
  clear hk hn hmm ht
  go_enter Tryd.func8, Tryd.ntmps8
  go_wp2_with fail
  have z1 : (w.alloc (.cells #[.int .i64 k, .int .i64 n, .string m, .slice la ll lc, .slice sa sl sc] 25)).heap.size = w.heap.size + 1 := by simp
  have r0 : (w.alloc (.cells #[.int .i64 k, .int .i64 n, .string m, .slice la ll lc, .slice sa sl sc] 25)).heap[w.heap.size]? = some (Obj.cells #[.int .i64 k, .int .i64 n, .string m, .slice la ll lc, .slice sa sl sc] 25 (0, 0)) := by
    have := heap_alloc_new w (.cells #[.int .i64 k, .int .i64 n, .string m, .slice la ll lc, .slice sa sl sc] 25)
    exact this
  have HB := Lib.hid (below_lit w (.cells #[.int .i64 k, .int .i64 n, .string m, .slice la ll lc, .slice sa sl sc] 25))
  have HR0 := Lib.hid (r0)
  clear r0
  generalize (w.alloc (.cells #[.int .i64 k, .int .i64 n, .string m, .slice la ll lc, .slice sa sl sc] 25)) = W at *
  have HZ := Lib.hid z1
  clear z1
  have HT : Hid (TmV W t (.agg #[.int .i64 k, .int .i64 n, .string m, .slice la ll lc, .slice sa sl sc])) := by
    have : TmV W t (.agg #[.int .i64 k, .int .i64 n, .string m, .slice la ll lc, .slice sa sl sc]) := ⟨_, _, by rw [← HK.out, ← HNN.out, ← HMM.out], tmP_below HB.out HTT.out⟩
    exact this
  clear HR0 HTT
  refine (refRightT_free t _ nn _ W HT.out HNK.out h0 h4 b HV.out).mono ?_
  rintro e w3 ⟨rfl, hb3⟩
  have HB3 := Lib.hid (HB.out.trans (hb3.mono HB.out.size))
  clear hb3
  go_wp2_with fail
  go_ret
  exact ⟨rfl, HB3.out⟩
end Trm
end Go.Proofs.YtlijdgamobpndaaDoor
/-
  The contracts of the reference's loose and Loose: the least number of variables for which a term's are bound, or below it.
  Conditions: the term lies in memory as told by 'TmV'; of loose: it is right; of Loose: its names take at most 2^47 bytes each.
-/
namespace Go.Proofs.YtlijdgamobpndaaDoor
open Go.RowKit
open Lvl
namespace Trm
theorem loTL_append (kd : Int) : ∀ (l r : List Tm) (i : Nat) (d : Int), loTL kd (l ++ r) i d = max (loTL kd l i d) (loTL kd r (i + l.length) d)
  | [], r, i, d => by
    rw [List.nil_append, loTL, List.length_nil, Nat.add_zero]
    have := loTL_pos kd r i d
    omega
  | a :: l, r, i, d => by
    rw [List.cons_append, loTL, loTL, loTL_append kd l r, List.length_cons, show i + 1 + l.length = i + (l.length + 1) by omega]
    omega
theorem loTL_take (kd : Int) {ts : List Tm} {j : Nat} (h : j < ts.length) (d : Int) : loTL kd (ts.take (j + 1)) 0 d = max (loTL kd (ts.take j) 0 d) (loT ts[j] (under kd j d)) := by
  rw [List.take_add_one, List.getElem?_eq_getElem h, loTL_append, Nat.zero_add, List.length_take, Nat.min_eq_left (by omega)]
  have := loT_pos ts[j] (under kd j d)
  simp only [Option.toList_some, loTL]
  omega
set_option maxRecDepth 100000 in
set_option maxHeartbeats 1000000 in
theorem refLoose_up (RN : ByteArray → Bool) : ∀ (N : Nat) (t : Tm) (v : Value) (deep K : Int) (w : World), tnodes t ≤ N → okT RN (rightB 4) t K = true → K + N ≤ 1125899907842624 → 0 ≤ deep → deep + N ≤ 2000000 → TmV w t v →
    Calls Tryd.prog 31 #[v, .int .i64 deep] w (Ret w (.int .i64 (loT t deep))) := by
  intro N
  induction N with
  | zero => intro t v deep K w h _ _ _ _ _; have := tnodes_pos t; omega
  | succ N ih =>
  intro t v deep K w hN hok hK hd0 hd1 hv
  obtain ⟨l, s, rfl, ht⟩ := hv
  cases t with
  | mk k n m ls ts =>
  obtain ⟨hno, hvar⟩ := ok_node hok
  rw [okT, Bool.and_eq_true] at hok
  have HTT := Lib.hid ht
  rw [TmP, LvP] at ht
  obtain ⟨⟨LA, ll, lc, rfl, l1, l2, l3, l4, l5⟩, A, len, cap, rfl, h1, h2, h2b, h3, h4⟩ := ht
  have IH := Lib.hid ih
  have HTS := Lib.hid h4
  have HN := Lib.hid h1
  have HOK := Lib.hid hok.2
  have HVAR := Lib.hid hvar
  have HNN : Hid (tnodesL ts ≤ N) := by
    rw [tnodes] at hN
    have : tnodesL ts ≤ N := by omega
    exact this
  obtain ⟨R, hR⟩ : ∃ R, loT (.mk k n m ls ts) deep = R := ⟨_, rfl⟩
  have HR := Lib.hid hR
  rw [hR]
  clear h4 h1 h3 l5 l1 l4 hN ih hok hno hvar hR
  show Calls Tryd.prog 31 #[.agg #[.int .i64 k, .int .i64 n, .string m, .slice LA ll lc, .slice A len cap], .int .i64 deep] w (Ret w (.int .i64 R))
  by_cases hk1 : k = 1
  · have hn0 := (HVAR.out hk1).2
    have HE : Hid (max (n - deep + 1) 0 = R) := by
      have : max (n - deep + 1) 0 = R := by rw [← HR.out, loT, if_pos hk1]
      exact this
    subst hk1
    have g1 : -9223372036854775808 ≤ n - deep ∧ n - deep ≤ 9223372036854775807 := ⟨by omega, by omega⟩
    have g2 : -9223372036854775808 ≤ n - deep + 1 ∧ n - deep + 1 ≤ 9223372036854775807 := ⟨by omega, by omega⟩
    by_cases h0 : 0 ≤ n - deep + 1
    · have e5 : max (n - deep + 1) 0 = n - deep + 1 := by omega
      have e6 : n - deep + 1 = R := e5.symm.trans HE.out
      have HE6 := Lib.hid e6
      clear e6
      have hw1 : wrap64 (n - deep) = n - deep := IntWalk.wrap64_in _ g1
      have hw2 : wrap64 (n - deep + 1) = n - deep + 1 := IntWalk.wrap64_in _ g2
      clear g1 g2
      go_enter Tryd.func31, Tryd.ntmps31
      go_wp2_with fail
      go_ret
      exact ⟨by rw [HE6.out]; rfl, below_lit w _⟩
    · have e5 : max (n - deep + 1) 0 = 0 := by omega
      have e6 : 0 = R := e5.symm.trans HE.out
      have HE6 := Lib.hid e6
      clear e6
      have hw1 : wrap64 (n - deep) = n - deep := IntWalk.wrap64_in _ g1
      have hw2 : wrap64 (n - deep + 1) = n - deep + 1 := IntWalk.wrap64_in _ g2
      clear g1 g2
      go_enter Tryd.func31, Tryd.ntmps31
      go_wp2_with fail
      go_ret
      exact ⟨by rw [HE6.out]; rfl, below_lit w _⟩
  have d1 : (k == 1) = false := by simp; exact hk1
  have HE : Hid (loTL k ts 0 deep = R) := by
    have : loTL k ts 0 deep = R := by rw [← HR.out, loT, if_neg hk1]
    exact this
  go_enter Tryd.func31, Tryd.ntmps31
  go_wp2_with fail
  have z1 : (w.alloc (.cells #[.int .i64 k, .int .i64 n, .string m, .slice LA ll lc, .slice A len cap] 25)).heap.size = w.heap.size + 1 := by simp
  have r0 : (w.alloc (.cells #[.int .i64 k, .int .i64 n, .string m, .slice LA ll lc, .slice A len cap] 25)).heap[w.heap.size]? = some (Obj.cells #[.int .i64 k, .int .i64 n, .string m, .slice LA ll lc, .slice A len cap] 25 (0, 0)) := by
    have := heap_alloc_new w (.cells #[.int .i64 k, .int .i64 n, .string m, .slice LA ll lc, .slice A len cap] 25)
    exact this
  have HB := Lib.hid (below_lit w (.cells #[.int .i64 k, .int .i64 n, .string m, .slice LA ll lc, .slice A len cap] 25))
  have HR0 := Lib.hid (r0)
  clear r0
  generalize (w.alloc (.cells #[.int .i64 k, .int .i64 n, .string m, .slice LA ll lc, .slice A len cap] 25)) = W at *
  have HZ := Lib.hid z1
  clear z1
  have hz := HZ.out
  have hk : Hid (∀ W', Below W.heap.size W W' → W'.cell? ⟨w.heap.size, 0, none⟩ = some (.int .i64 k) ∧ W'.cell? ⟨w.heap.size, 1, none⟩ = some (.int .i64 n) ∧ W'.cell? ⟨w.heap.size, 2, none⟩ = some (.string m) ∧ W'.cell? ⟨w.heap.size, 3, none⟩ = some (.slice LA ll lc) ∧ W'.cell? ⟨w.heap.size, 4, none⟩ = some (.slice A len cap)) := fun W' h => five_cells ((h.block w.heap.size (by omega)).trans HR0.out)
  clear HR0
  obtain ⟨a0, a1, a2, a3, a4⟩ := hk.out W (Below.refl _ _)
  go_loopw [5, 6] (fun c i wr => ∃ (j : Nat) (acc : Int), j ≤ len ∧ i = .int .i64 j ∧ c = .int .i64 acc ∧ Hid (loTL k (ts.take j) 0 deep = acc) ∧ Hid (Below W.heap.size W wr)) (fun _ i _ => len - (intOf i).toNat)
  case atStart => exact ⟨0, 0, Nat.zero_le _, rfl, rfl, by rw [List.take_zero, loTL]; exact rfl, Below.refl _ _⟩
  case round =>
    obtain ⟨j, acc, hj, rfl, rfl, hal, hgr⟩ := hrel
    obtain ⟨a0, a1, a2, a3, a4⟩ := hk.out wr hgr.out
    by_cases hlt : j < len
    · have hx1 : j < ts.length := by rw [HN.out]; exact hlt
      have hln : decide ((j : Int) < (len : Int)) = true := by simp; omega
      obtain ⟨bq, o, l1, s1, rfl, hbs, _, hc0, hc1, hc2, hc3, hc4, htm⟩ := tsP_get HTS.out j hx1
      obtain ⟨⟨xa, xl, xc, rfl⟩, ya, yl, yc, rfl⟩ := tmP_slices htm
      have HB2 := Lib.hid (HB.out.trans (hgr.out.mono HB.out.size))
      have hchild := ok_child HOK.out j hx1
      rw [Nat.zero_add] at hchild
      have hub : under k j K ≤ K + 1 := by unfold under; split <;> omega
      have hud : under k j deep ≤ deep + 1 ∧ 0 ≤ under k j deep := by unfold under; split <;> omega
      obtain ⟨br, hbr⟩ : ∃ b, loT ts[j] (under k j deep) = b := ⟨_, rfl⟩
      have hcall := fun (w' : World) (hw : Below w.heap.size w w') => IH.out ts[j] (tv ts[j] (.slice xa xl xc) (.slice ya yl yc)) (under k j deep) (under k j K) w' (Nat.le_trans (tnodes_mem (List.getElem_mem hx1)) HNN.out) hchild (by omega) hud.2 (by omega) ⟨_, _, rfl, tmP_below hw htm⟩
      rw [hbr] at hcall
      have HCALL := Lib.hid hcall
      dsimp only [tv] at HCALL
      have HT := Lib.hid (loTL_take k hx1 deep)
      have HBR := Lib.hid hbr
      have hke : Hid (∀ W', Below w.heap.size w W' → W'.cell? ⟨bq, o + j * 5, none⟩ = some (.int .i64 (tkOf ts[j])) ∧ W'.cell? ⟨bq, o + j * 5 + 1, none⟩ = some (.int .i64 (tnOf ts[j])) ∧ W'.cell? ⟨bq, o + j * 5 + 2, none⟩ = some (.string (tmOf ts[j])) ∧ W'.cell? ⟨bq, o + j * 5 + 3, none⟩ = some (.slice xa xl xc) ∧ W'.cell? ⟨bq, o + j * 5 + 4, none⟩ = some (.slice ya yl yc)) := fun W' h => ⟨(h.cell (p := ⟨bq, _, none⟩) hbs).trans hc0, (h.cell (p := ⟨bq, _, none⟩) hbs).trans hc1, (h.cell (p := ⟨bq, _, none⟩) hbs).trans hc2, (h.cell (p := ⟨bq, _, none⟩) hbs).trans hc3, (h.cell (p := ⟨bq, _, none⟩) hbs).trans hc4⟩
      have q1 : (0 : Int) ≤ (j : Int) := by omega
      have q2 : (j : Int) < (len : Int) := by omega
      generalize tkOf ts[j] = ka at *
      generalize tnOf ts[j] = na at *
      generalize tmOf ts[j] = ma at *
      clear htm hcall hbr hc0 hc1 hc2 hc3 hc4 hchild
      obtain ⟨bb, hbb⟩ : ∃ b, binds k j = b := ⟨_, rfl⟩
      go_wp2_with fail
      refine (refBinds_is k j wr bb hbb).mono ?_
      rintro e w5 ⟨rfl, hb5⟩
      have HB5 := Lib.hid (hgr.out.trans (hb5.mono hgr.out.size))
      clear hb5 a0 a1 a2 a3 a4
      obtain ⟨a0, a1, a2, a3, a4⟩ := hk.out w5 HB5.out
      have HB6 := Lib.hid (HB.out.trans (HB5.out.mono HB.out.size))
      obtain ⟨e0, e1, e2, e3, e4⟩ := hke.out w5 HB6.out
      obtain ⟨mx, hmx⟩ : ∃ x, max acc br = x := ⟨_, rfl⟩
      have HAL : Hid (loTL k (ts.take (j + 1)) 0 deep = mx) := by
        have : loTL k (ts.take (j + 1)) 0 deep = mx := by rw [HT.out, hal.out, HBR.out, hmx]
        exact this
      cases bb with
      | false =>
        have hu : under k j deep = deep := by unfold under; rw [hbb]; rfl
        rw [hu] at HCALL
        skip
        go_wp2_with fail
        refine (HCALL.out w5 HB6.out).mono ?_
        rintro e w7 ⟨rfl, hb7⟩
        have HB7 := Lib.hid (HB5.out.trans (hb7.mono HB5.out.size))
        clear hb7 a0 a1 a2 a3 a4 e0 e1 e2 e3 e4
        by_cases hle : acc ≤ br
        · obtain rfl : mx = br := by omega
          go_wp2_with fail
          go_roundw
          case rel => exact ⟨j + 1, _, by omega, by go_num, rfl, HAL.out, HB7.out⟩
          case measure => simp [intOf]; omega
        · obtain rfl : mx = acc := by omega
          go_wp2_with fail
          go_roundw
          case rel => exact ⟨j + 1, _, by omega, by go_num, rfl, HAL.out, HB7.out⟩
          case measure => simp [intOf]; omega
      | true =>
        have hu : under k j deep = (deep + 1) := by unfold under; rw [hbb]; rfl
        rw [hu] at HCALL
        have hwd : IntKind.i64.wrap (deep + 1) = deep + 1 := IntWalk.i64_in _ ⟨by omega, by omega⟩
        go_wp2_with fail
        refine (HCALL.out w5 HB6.out).mono ?_
        rintro e w7 ⟨rfl, hb7⟩
        have HB7 := Lib.hid (HB5.out.trans (hb7.mono HB5.out.size))
        clear hb7 a0 a1 a2 a3 a4 e0 e1 e2 e3 e4
        by_cases hle : acc ≤ br
        · obtain rfl : mx = br := by omega
          go_wp2_with fail
          go_roundw
          case rel => exact ⟨j + 1, _, by omega, by go_num, rfl, HAL.out, HB7.out⟩
          case measure => simp [intOf]; omega
        · obtain rfl : mx = acc := by omega
          go_wp2_with fail
          go_roundw
          case rel => exact ⟨j + 1, _, by omega, by go_num, rfl, HAL.out, HB7.out⟩
          case measure => simp [intOf]; omega
    · obtain rfl : j = len := by omega
      have hln : decide ((j : Int) < (j : Int)) = false := by simp
      have hfin : acc = R := by
        have h1 := hal.out
        rw [List.take_of_length_le (by rw [HN.out]; exact Nat.le_refl _)] at h1
        exact h1.symm.trans HE.out
      have HFIN := Lib.hid hfin
      clear hfin
      go_wp2_with fail
      go_ret
      exact ⟨by rw [HFIN.out]; rfl, HB.out.trans (hgr.out.mono HB.out.size)⟩

/-- What the reference's Loose answers. -/
def looseR (t : Tm) : Int := if rightT Nm.rightB 4 t 1125899906842624 = true then loT t 0 else 0
set_option maxRecDepth 100000 in
set_option maxHeartbeats 2000000 in
theorem refLoose_free (t : Tm) (v : Value) (w : World) (hv : TmV w t v) (hnm : nmOk t) (R : Int) (hR : looseR t = R) :
    Calls Tryd.prog 18 #[v] w (Ret w (.int .i64 R)) := by
  have HNK := Lib.hid hnm
  have HR := Lib.hid hR
  clear hnm hR
  obtain ⟨l, s, rfl, ht⟩ := hv
  obtain ⟨⟨la, ll, lc, rfl⟩, sa, sl, sc, rfl⟩ := tmP_slices ht
  have HTT := Lib.hid ht
  obtain ⟨k, hk⟩ : ∃ k, tkOf t = k := ⟨_, rfl⟩
  obtain ⟨n, hn⟩ : ∃ n, tnOf t = n := ⟨_, rfl⟩
  obtain ⟨m, hmm⟩ : ∃ m, tmOf t = m := ⟨_, rfl⟩
  dsimp only [tv]
  rw [hk, hn, hmm]
  have HK := Lib.hid hk
  have HNN := Lib.hid hn
  have HMM := Lib.hid hmm
  clear hk hn hmm ht
  go_enter Tryd.func18, Tryd.ntmps18
  go_wp2_with fail
  have z1 : (w.alloc (.cells #[.int .i64 k, .int .i64 n, .string m, .slice la ll lc, .slice sa sl sc] 25)).heap.size = w.heap.size + 1 := by simp
  have r0 : (w.alloc (.cells #[.int .i64 k, .int .i64 n, .string m, .slice la ll lc, .slice sa sl sc] 25)).heap[w.heap.size]? = some (Obj.cells #[.int .i64 k, .int .i64 n, .string m, .slice la ll lc, .slice sa sl sc] 25 (0, 0)) := by
    have := heap_alloc_new w (.cells #[.int .i64 k, .int .i64 n, .string m, .slice la ll lc, .slice sa sl sc] 25)
    exact this
  have HB := Lib.hid (below_lit w (.cells #[.int .i64 k, .int .i64 n, .string m, .slice la ll lc, .slice sa sl sc] 25))
  have HR0 := Lib.hid (r0)
  clear r0
  generalize (w.alloc (.cells #[.int .i64 k, .int .i64 n, .string m, .slice la ll lc, .slice sa sl sc] 25)) = W at *
  have HZ := Lib.hid z1
  clear z1
  have hz := HZ.out
  have hk : Hid (∀ W', Below W.heap.size W W' → W'.cell? ⟨w.heap.size, 0, none⟩ = some (.int .i64 k) ∧ W'.cell? ⟨w.heap.size, 1, none⟩ = some (.int .i64 n) ∧ W'.cell? ⟨w.heap.size, 2, none⟩ = some (.string m) ∧ W'.cell? ⟨w.heap.size, 3, none⟩ = some (.slice la ll lc) ∧ W'.cell? ⟨w.heap.size, 4, none⟩ = some (.slice sa sl sc)) := fun W' h => five_cells ((h.block w.heap.size (by omega)).trans HR0.out)
  have HT : Hid (TmV W t (.agg #[.int .i64 k, .int .i64 n, .string m, .slice la ll lc, .slice sa sl sc])) := by
    have : TmV W t (.agg #[.int .i64 k, .int .i64 n, .string m, .slice la ll lc, .slice sa sl sc]) := ⟨_, _, by rw [← HK.out, ← HNN.out, ← HMM.out], tmP_below HB.out HTT.out⟩
    exact this
  clear HR0 HTT
  obtain ⟨b, hb⟩ : ∃ b, rightT Nm.rightB 4 t 1125899906842624 = b := ⟨_, rfl⟩
  have HBB := Lib.hid hb
  clear hb
  refine (refAny_free t _ 4 W HT.out HNK.out (by decide) (by decide) b HBB.out).mono ?_
  rintro e w3 ⟨rfl, hb3⟩
  have HB3 := Lib.hid hb3
  clear hb3
  obtain ⟨a0, a1, a2, a3, a4⟩ := hk.out w3 HB3.out
  cases b with
  | false =>
    have hR0 : R = 0 := by rw [← HR.out, looseR, HBB.out]; rfl
    subst hR0
    go_wp2_with fail
    go_ret
    exact ⟨rfl, HB.out.trans (HB3.out.mono HB.out.size)⟩
  | true =>
    have HRR : Hid (loT t 0 = R) := by
      have : loT t 0 = R := by rw [← HR.out, looseR, if_pos HBB.out]
      exact this
    have hrt := rightT_ok HBB.out
    rw [show min (1125899906842624 : Int) 1125899906842624 = 1125899906842624 by omega] at hrt
    have HCALL := Lib.hid (refLoose_up Nm.rightB (tnodes t) t _ 0 1125899906842624 w3 (Nat.le_refl _) hrt.2.2 (by have := hrt.2.1; omega) (by decide) (by have := hrt.2.1; omega) (HT.out.below HB3.out))
    rw [HRR.out] at HCALL
    clear hrt
    go_wp2_with fail
    refine HCALL.out.mono ?_
    rintro e w4 ⟨rfl, hb4⟩
    have HB4 := Lib.hid (HB3.out.trans (hb4.mono HB3.out.size))
    clear hb4
    go_wp2_with fail
    go_ret
    exact ⟨rfl, HB.out.trans (HB4.out.mono HB.out.size)⟩
end Trm
end Go.Proofs.YtlijdgamobpndaaDoor
