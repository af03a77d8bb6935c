import Derived.Test.YtbkdecgfiiajnaaGreatDoorJ20
import Derived.Test.YtbkdecgfiiajnaaGreatDoorJ10
import Derived.Test.YtbkdecgfiiajnaaGreatDoorJ16
import Derived.Test.YtbkdecgfiiajnaaGreatDoorJ15
/-
  The contracts of the program's functions isRight and Loose: the least number of variables that binds a term.
  Conditions: the term lies in memory as told by 'TmV'; it has at most 100000 nodes; name.Right's contract.
-/
namespace Go.Proofs.YtbkdecgfiiajnaaGreatDoor
open Go.RowKit Go.Shelf
open Lvl
namespace Trm
attribute [local go_sem] Oper.semAt_some

set_option maxRecDepth 100000 in
set_option maxHeartbeats 1000000 in
theorem isRight_is (RN : ByteArray → Bool) (t : Tm) (v : Value) (w : World) (hv : TmV w t v) (hm : tnodes t ≤ 100000) (hnm : ∀ q, q ∈ pre t 0 0 → (tmOf q.1).size ≤ 140737488355328) (CN : NameC w RN) (b : Bool) (hb : rightT RN 4 t 1125899906842624 = b) :
    Calls Tryz.prog 31 #[v] w (Ret w (.bool b)) := by
  obtain ⟨l, s, rfl, ht⟩ := hv
  obtain ⟨⟨la, ll, lc, rfl⟩, sa, sl, sc, rfl⟩ := tmP_slices ht
  have HV := Lib.hid (show TmV w t _ from ⟨_, _, rfl, ht⟩)
  have HM := Lib.hid hm
  have HNM := Lib.hid hnm
  have HCN := Lib.hid CN
  have HBB := Lib.hid hb
  dsimp only [tv] at HV ⊢
  generalize tkOf t = k at *
  generalize tnOf t = n at *
  generalize tmOf t = m at *
  clear ht hm hnm CN hb
  go_enter Tryz.func31, Tryz.ntmps31
  go_wp2_with fail
  have HB := Lib.hid (below_lit w (.cells #[.int .i64 k, .int .i64 n, .string m, .slice la ll lc, .slice sa sl sc] 25))
  generalize w.alloc (.cells #[.int .i64 k, .int .i64 n, .string m, .slice la ll lc, .slice sa sl sc] 25) = W at *
  refine (right_is RN t _ W (HV.out.below HB.out) HM.out HNM.out (HCN.out.below HB.out) 4 1125899906842624 b HBB.out).mono ?_
  rintro e w2 ⟨rfl, hb2⟩
  have HB2 := Lib.hid (HB.out.trans (hb2.mono HB.out.size))
  clear hb2
  go_wp2_with fail
  go_ret
  exact ⟨rfl, HB2.out⟩

/-- How many variables a node asks for outside. -/
def loQ (q : Tm × Nat × Nat) : Int := if tkOf q.1 = 1 then max (tnOf q.1 - q.2.2 + 1) 0 else 0
def loS : List (Tm × Nat × Nat) → Int
  | [] => 0
  | q :: l => max (loQ q) (loS l)
theorem loS_pos : ∀ l, 0 ≤ loS l
  | [] => by rw [loS]; omega
  | q :: l => by
    rw [loS]
    have := loS_pos l
    omega
theorem loQ_pos (q : Tm × Nat × Nat) : 0 ≤ loQ q := by
  unfold loQ
  split <;> omega
theorem loS_append : ∀ (l r : List (Tm × Nat × Nat)), loS (l ++ r) = max (loS l) (loS r)
  | [], r => by
    rw [List.nil_append, loS]
    have := loS_pos r
    omega
  | q :: l, r => by
    rw [List.cons_append, loS, loS, loS_append l r]
    omega
mutual
theorem lo_pre (RN : ByteArray → Bool) (RL : Lv → Bool) : ∀ (t : Tm) (K : Int) (d b : Nat), okT RN RL t K = true → loS (pre t d b) = loT t b
  | .mk kd n nm ls ts, K, d, b, h => by
    rw [okT, Bool.and_eq_true] at h
    rw [pre, loS, loT, lo_preL RN RL kd n nm ls ts.length h.1 ts 0 K (d + 1) b (by omega) h.2]
    show max (if kd = 1 then max (n - b + 1) 0 else 0) _ = _
    by_cases h1 : kd = 1
    · subst h1
      have h2 := h.1
      unfold shape at h2
      rw [if_pos rfl] at h2
      simp only [Bool.and_eq_true, decide_eq_true_eq] at h2
      have h3 : ts = [] := List.length_eq_zero_iff.1 h2.2.1.2
      subst h3
      rw [if_pos rfl, if_pos rfl, loTL]
      omega
    · rw [if_neg h1, if_neg h1]
      have := loTL_pos kd ts 0 b
      omega
theorem lo_preL (RN : ByteArray → Bool) (RL : Lv → Bool) (kd n : Int) (nm : ByteArray) (ls : List Lv) (m : Nat) {k : Int} (h : shape RN RL kd n nm ls m k = true) : ∀ (ts : List Tm) (i : Nat) (K : Int) (d b : Nat), i + ts.length ≤ m → okTL RN RL kd ts i K = true → loS (preL kd m ts i d b) = loTL kd ts i b
  | [], _, _, _, _, _, _ => by rw [preL, loS, loTL]
  | a :: ts, i, K, d, b, hi, ho => by
    rw [List.length_cons] at hi
    rw [okTL, Bool.and_eq_true] at ho
    rw [preL, loS_append, loTL, lo_pre RN RL a _ d _ ho.1, lo_preL RN RL kd n nm ls m h ts (i + 1) K d b (by omega) ho.2, bndP_under h i (by omega)]
    congr 2
end
/-- The least number of variables that binds it; 0 of one that isn't right. -/
def looseT (RN : ByteArray → Bool) (t : Tm) : Int := if rightT RN 4 t 1125899906842624 = true then loT t 0 else 0

set_option maxRecDepth 100000 in
set_option maxHeartbeats 4000000 in
theorem loose_is (RN : ByteArray → Bool) (t : Tm) (v : Value) (w : World) (hv : TmV w t v) (hm : tnodes t ≤ 100000) (hnm : ∀ q, q ∈ pre t 0 0 → (tmOf q.1).size ≤ 140737488355328) (CN : NameC w RN) (R : Int) (hR : looseT RN t = R) :
    Calls Tryz.prog 8 #[v] w (Ret w (.int .i64 R)) := by
  obtain ⟨l, s, rfl, ht⟩ := hv
  obtain ⟨⟨la, ll, lc, rfl⟩, sa, sl, sc, rfl⟩ := tmP_slices ht
  have HTT := Lib.hid ht
  obtain ⟨k, hk⟩ : ∃ k, tkOf t = k := ⟨_, rfl⟩
  obtain ⟨n, hn⟩ : ∃ n, tnOf t = n := ⟨_, rfl⟩
  obtain ⟨m, hmm⟩ : ∃ m, tmOf t = m := ⟨_, rfl⟩
  dsimp only [tv]
  rw [hk, hn, hmm]
  have HK := Lib.hid hk
  have HNN := Lib.hid hn
  have HMM := Lib.hid hmm
  have HM := Lib.hid hm
  clear hk hn hmm ht hm
  have HCN := Lib.hid CN
  have HNM := Lib.hid hnm
  have HV := Lib.hid hR
  clear CN hnm hR
  obtain ⟨r, hr⟩ : ∃ r, rightT RN 4 t 1125899906842624 = r := ⟨_, rfl⟩
  have HRR := Lib.hid hr
  have hir := isRight_is RN t _ (w.alloc (.cells #[.int .i64 k, .int .i64 n, .string m, .slice la ll lc, .slice sa sl sc] 25)) ⟨_, _, rfl, tmP_below (below_lit _ _) HTT.out⟩ HM.out HNM.out (HCN.out.below (below_lit _ _)) r hr
  dsimp only [tv] at hir
  rw [HK.out, HNN.out, HMM.out] at hir
  have HIR := Lib.hid hir
  clear hir hr
  have z1 : (w.alloc (.cells #[.int .i64 k, .int .i64 n, .string m, .slice la ll lc, .slice sa sl sc] 25)).heap.size = w.heap.size + 1 := by simp
  have r0 : (w.alloc (.cells #[.int .i64 k, .int .i64 n, .string m, .slice la ll lc, .slice sa sl sc] 25)).heap[w.heap.size]? = some (Obj.cells #[.int .i64 k, .int .i64 n, .string m, .slice la ll lc, .slice sa sl sc] 25 (0, 0)) := by
    have := heap_alloc_new w (.cells #[.int .i64 k, .int .i64 n, .string m, .slice la ll lc, .slice sa sl sc] 25)
    exact this
  have HB := Lib.hid (below_lit w (.cells #[.int .i64 k, .int .i64 n, .string m, .slice la ll lc, .slice sa sl sc] 25))
  have HR0 := Lib.hid (r0)
  clear r0
  cases r
  · obtain rfl : R = 0 := by rw [← HV.out, looseT, HRR.out]; rfl
    refine (callsIn_wide (n := 13)).1 (callsIn_of_wp_marks Tryz.func8 rfl trivial ?_ rfl)
    simp only [Tryz.ntmps8, List.size_toArray, List.length_cons, List.length_nil, Nat.reduceAdd, Nat.reduceSub, Array.replicate_succ, Array.replicate_zero, List.push_toArray, List.append_toArray, List.nil_append, List.cons_append]
    gi_wp2
    generalize (w.alloc (.cells #[.int .i64 k, .int .i64 n, .string m, .slice la ll lc, .slice sa sl sc] 25)) = W4 at *
    have HZ := Lib.hid z1
    clear z1
    gi_wp2_with (refine ⟨trivial, ?_⟩; gi_at_call 31; refine (callsIn_wide.2 HIR.out).mono ?_; rintro e w6 ⟨rfl, hb6⟩; obtain ⟨a0, a1, a2, a3, a4⟩ := five_cells ((heap_alloc_old w6 (.cells #[.int .i64 0] 3) (r := w.heap.size) (by have := hb6.size; have := HZ.out; omega)).trans ((hb6.block (w.heap.size) (by rw [HZ.out]; omega)).trans HR0.out)); have HB6 := Lib.hid hb6; clear hb6)
    exact ⟨_, results_tmp rfl _ _ _, rfl, HB.out.trans (HB6.out.mono HB.out.size)⟩
  · refine (callsIn_wide (n := 13)).1 (callsIn_of_wp_marks Tryz.func8 rfl trivial ?_ rfl)
    simp only [Tryz.ntmps8, List.size_toArray, List.length_cons, List.length_nil, Nat.reduceAdd, Nat.reduceSub, Array.replicate_succ, Array.replicate_zero, List.push_toArray, List.append_toArray, List.nil_append, List.cons_append]
    gi_wp2
    generalize (w.alloc (.cells #[.int .i64 k, .int .i64 n, .string m, .slice la ll lc, .slice sa sl sc] 25)) = W4 at *
    have HZ := Lib.hid z1
    clear z1
    gi_wp2_with (first | (refine ⟨trivial, ?_⟩; gi_at_call 31; refine (callsIn_wide.2 HIR.out).mono ?_; rintro e w6 ⟨rfl, hb6⟩; obtain ⟨a0, a1, a2, a3, a4⟩ := five_cells ((heap_alloc_old w6 (.cells #[.int .i64 0] 3) (r := w.heap.size) (by have := hb6.size; have := HZ.out; omega)).trans ((hb6.block (w.heap.size) (by rw [HZ.out]; omega)).trans HR0.out)); have HB6 := Lib.hid hb6; clear hb6) | (refine ⟨trivial, ?_⟩; gi_at_call 32; refine (callsIn_wide.2 (nodes_in k n m la ll lc sa sl sc _)).mono ?_; rintro e w' ⟨rfl, rfl⟩))
    have hok : okT RN (rightB 4) t 1125899906842624 = true := by
      have := HRR.out
      rw [rightT] at this
      simp at this
      exact this.2
    have hRv : R = loT t 0 := by rw [← HV.out, looseT, if_pos HRR.out]
    have hs6 : w.heap.size + 1 ≤ w6.heap.size := by rw [← HZ.out]; exact HB6.out.size
    have hgB := HB.out.trans (HB6.out.mono HB.out.size)
    have y1 := Boxed.new w6 3 (.int .i64 0)
    have ys : (w6.alloc (.cells #[.int .i64 0] 3)).heap.size = w6.heap.size + 1 := by simp
    have yb := hgB.trans ((below_lit w6 (.cells #[.int .i64 0] 3)).mono hgB.size)
    generalize w6.alloc (.cells #[.int .i64 0] 3) = W7 at *
    have b1 := y1.alloc (.cells #[.int .i64 k, .int .i64 n, .string m, .slice la ll lc, .slice sa sl sc] 25)
    have r4 := heap_alloc_new W7 (.cells #[.int .i64 k, .int .i64 n, .string m, .slice la ll lc, .slice sa sl sc] 25)
    have hs8 : (W7.alloc (.cells #[.int .i64 k, .int .i64 n, .string m, .slice la ll lc, .slice sa sl sc] 25)).heap.size = w6.heap.size + 1 + 1 := by simp [ys]
    have hb8 := Lib.hid (yb.trans ((below_lit W7 (.cells #[.int .i64 k, .int .i64 n, .string m, .slice la ll lc, .slice sa sl sc] 25)).mono yb.size))
    rw [ys] at r4
    clear y1 yb a0 a1 a2 a3 a4
    try rw [ys]
    generalize W7.alloc (.cells #[.int .i64 k, .int .i64 n, .string m, .slice la ll lc, .slice sa sl sc] 25) = W8 at *
    have hGG : ∀ q, q ∈ pre t 0 0 → (fun q : Tm × Nat × Nat => tnodes q.1 ≤ 100000 ∧ q.2.2 ≤ 100000 ∧ (tkOf q.1 = 1 → 0 ≤ tnOf q.1 ∧ tnOf q.1 ≤ 2251799813685248)) q := fun q hq => by
      have h1 := pre_deep t 0 0 q hq
      have h2 := HM.out
      have h3 := fit_all RN (rightB 4) 1125899906842624 t 0 0
      rw [Int.natCast_zero, Int.add_zero, hok] at h3
      have h4 := List.all_eq_true.1 h3 q hq
      refine ⟨by omega, by omega, fun h5 => ?_⟩
      rw [fitB, shape, if_pos h5] at h4
      simp only [Bool.and_eq_true, decide_eq_true_eq] at h4
      omega
    refine wpIn_rangeFunc_ownH rfl (by decide) (gf := 56) (lb := #[.pointer (some ⟨w6.heap.size + 1, 0, none⟩)]) rfl trivial (enters_of Tryz.func56 (by kernel_rfl) rfl) (encs := fun x : It w (fun q : Tm × Nat × Nat => tnodes q.1 ≤ 100000 ∧ q.2.2 ≤ 100000 ∧ (tkOf q.1 = 1 → 0 ≤ tnOf q.1 ∧ tnOf q.1 ≤ 2251799813685248)) => #[.agg #[.int .i64 (tkOf x.t), .int .i64 (tnOf x.t), .string (tmOf x.t), .slice x.la x.ll x.lc, .slice x.sa x.sl x.sc], .agg #[.int .i64 x.d, .int .i64 x.b]])
      (nodes_stops w (fun q : Tm × Nat × Nat => tnodes q.1 ≤ 100000 ∧ q.2.2 ≤ 100000 ∧ (tkOf q.1 = 1 → 0 ≤ tnOf q.1 ∧ tnOf q.1 ≤ 2251799813685248)) W8.heap.size (w6.heap.size + 1) t la ll lc sa sl sc W8 (by rw [HK.out, HNN.out, HMM.out]; exact r4) HTT.out (by omega) (Nat.le_refl _) hb8.out (by have := HM.out; omega) hGG) (fun h k => h.trans k) (KpW.put (by omega) rfl) (Below.refl _ _) (fun _ => rfl)
      (fun xs W => Boxed W (w6.heap.size) 3 (.int .i64 (loS (xs.map It.tag))) ∧ Below w.heap.size W8 W)
      (fun _ _ _ => False)
      (OwnFrom.and (Own.from (boxed_own _ _ (fun xs : List (It w (fun q : Tm × Nat × Nat => tnodes q.1 ≤ 100000 ∧ q.2.2 ≤ 100000 ∧ (tkOf q.1 = 1 → 0 ≤ tnOf q.1 ∧ tnOf q.1 ≤ 2251799813685248))) => Value.int .i64 (loS (xs.map It.tag)))) _) (ownFrom_below (by omega) (by omega)))
      (fun _ _ _ _ _ hs _ _ => hs)
      ⟨b1, Below.refl _ _⟩
      (fun x a' W => (∃ Bn Ba, a' = { tmps := #[.agg #[.int .i64 k, .int .i64 n, .string m, .slice la ll lc, .slice sa sl sc], .pointer (some ⟨w.heap.size, 0, none⟩), .int .i64 0, .pointer (some ⟨w6.heap.size, 0, none⟩), .pointer (some ⟨Bn, 0, none⟩), .pointer (some ⟨Ba, 0, none⟩), .agg #[.int .i64 k, .int .i64 n, .string m, .slice la ll lc, .slice sa sl sc], .bool true, .bool false, .agg #[.int .i64 k, .int .i64 n, .string m, .slice la ll lc, .slice sa sl sc], .func (.func 56) #[] #[.pointer (some ⟨w6.heap.size + 1, 0, none⟩)], .agg #[.int .i64 (tkOf x.t), .int .i64 (tnOf x.t), .string (tmOf x.t), .slice x.la x.ll x.lc, .slice x.sa x.sl x.sc], .agg #[.int .i64 x.d, .int .i64 x.b], undef, undef, undef, undef, undef, undef, undef, undef, undef, undef, undef, undef], defers := [] } ∧ (w6.heap.size < Bn ∧ w6.heap.size < Ba) ∧ W.heap[Bn]? = some (.cells #[.int .i64 (tkOf x.t), .int .i64 (tnOf x.t), .string (tmOf x.t), .slice x.la x.ll x.lc, .slice x.sa x.sl x.sc] 25 (0, 0)) ∧ W.heap[Ba]? = some (.cells #[.int .i64 x.d, .int .i64 x.b] 57 (0, 0))))
      (fun x a' _ X Y row hs hg hr => by
        obtain ⟨Bn, Ba, h1, h2, h3, h4⟩ := hs
        exact ⟨Bn, Ba, h1, h2, (grownBy_keeps_cells hg (fun r e => (hr r e).2) h3 rfl).trans h3, (grownBy_keeps_cells hg (fun r e => (hr r e).2) h4 rfl).trans h4⟩)
      ?assign ?body ?done ?stop
    case assign =>
      rintro l xs x W K9 ⟨b1, hB1⟩ hK
      have hsz := hB1.size
      gi_wp2
      have hb := below_lit W (.cells #[.int .i64 (tkOf x.t), .int .i64 (tnOf x.t), .string (tmOf x.t), .slice x.la x.ll x.lc, .slice x.sa x.sl x.sc] 25)
      have hb2 := hb.trans ((below_lit (W.alloc (.cells #[.int .i64 (tkOf x.t), .int .i64 (tnOf x.t), .string (tmOf x.t), .slice x.la x.ll x.lc, .slice x.sa x.sl x.sc] 25)) (.cells #[.int .i64 x.d, .int .i64 x.b] 57)).mono hb.size)
      refine hK _ _ (((KeepsOthers.alloc _ _).trans (KeepsOthers.alloc _ _)).from _) (KpW.of_below (by omega) hb2) ⟨(b1.alloc _).alloc _, hB1.trans (hb2.mono (by omega))⟩ ⟨_, _, rfl, ⟨by omega, by omega⟩, ?_, ?_⟩
      · exact (heap_alloc_old _ _ (by simp)).trans (heap_alloc_new W _)
      · have := heap_alloc_new (W.alloc (.cells #[.int .i64 (tkOf x.t), .int .i64 (tnOf x.t), .string (tmOf x.t), .slice x.la x.ll x.lc, .slice x.sa x.sl x.sc] 25)) (.cells #[.int .i64 x.d, .int .i64 x.b] 57)
        rwa [World.size_alloc] at this
    case body =>
      rintro l xs x a' W hl _ ⟨b1, hB1⟩ ⟨Bn, Ba, rfl, ⟨hn1, ha1⟩, hrn, hra⟩ _
      have hsz := hB1.size
      have hxb : (x.b : Int) ≤ 100000 := by have := x.g.2.1; dsimp only at this; omega
      have HXN : Hid (tkOf x.t = 1 → 0 ≤ tnOf x.t ∧ tnOf x.t ≤ 2251799813685248) := x.g.2.2
      have HF9 : Hid (loS ((xs ++ [x]).map It.tag) = max (loS (xs.map It.tag)) (if tkOf x.t = 1 then max (tnOf x.t - x.b + 1) 0 else 0)) := by
        have : loS ((xs ++ [x]).map It.tag) = max (loS (xs.map It.tag)) (if tkOf x.t = 1 then max (tnOf x.t - x.b + 1) 0 else 0) := by
          rw [List.map_append, loS_append, List.map_cons, List.map_nil, loS, loS]
          show max _ (max (if tkOf x.t = 1 then max (tnOf x.t - x.b + 1) 0 else 0) 0) = _
          split <;> omega
        exact this
      have hpos := loS_pos (xs.map It.tag)
      generalize loS (xs.map It.tag) = acc at *
      have c1 := b1.cell
      have f1 := b1.frozen
      obtain ⟨n0, n1, n2, n3, n4⟩ := five_cells hrn
      have p1 := cell_of_row W _ 1 _ 57 (0, 0) hra
      have HE1 := Lib.hid b1
      clear b1
      by_cases hk1 : tkOf x.t = 1
      · have hd1 : (tkOf x.t == 1) = true := by simp; omega
        obtain ⟨hx0, hx1⟩ := HXN.out hk1
        obtain ⟨vv, hvv⟩ : ∃ vv, tnOf x.t - (x.b : Int) + 1 = vv := ⟨_, rfl⟩
        have HVV := Lib.hid hvv
        by_cases hle : acc ≤ vv
        · have hmx : max acc (tnOf x.t - (x.b : Int) + 1) = vv := by omega
          have hle2 : acc ≤ tnOf x.t - (x.b : Int) + 1 := by omega
          have HF : Hid (loS ((xs ++ [x]).map It.tag) = tnOf x.t - (x.b : Int) + 1) := by
            have : loS ((xs ++ [x]).map It.tag) = tnOf x.t - (x.b : Int) + 1 := by rw [HF9.out, if_pos hk1]; omega
            exact this
          clear hvv hmx
          gi_wp2
          all_goals first
            | (exfalso; omega)
            | (refine ⟨(KeepsOthers.setCell _ _ _).from _, KpW.set_far (by omega) (by omega), ?_, below_set hB1 _ _ (by show w.heap.size ≤ w6.heap.size; omega)⟩
               rw [HF.out]
               exact HE1.out.set _)
            | (refine ⟨(KeepsOthers.setCell _ _ _).from _, KpW.set_far (by omega) (by omega), ?_, below_set hB1 _ _ (by show w.heap.size ≤ w6.heap.size; omega)⟩
               rw [HF.out, show tnOf x.t - (x.b : Int) + 1 = acc by omega]
               exact HE1.out.set _)
        · have hle2 : ¬ acc ≤ tnOf x.t - (x.b : Int) + 1 := by omega
          have HF : Hid (loS ((xs ++ [x]).map It.tag) = acc) := by
            have : loS ((xs ++ [x]).map It.tag) = acc := by rw [HF9.out, if_pos hk1]; omega
            exact this
          clear hvv
          gi_wp2
          all_goals first
            | (exfalso; omega)
            | (refine ⟨(KeepsOthers.setCell _ _ _).from _, KpW.set_far (by omega) (by omega), ?_, below_set hB1 _ _ (by show w.heap.size ≤ w6.heap.size; omega)⟩
               rw [HF.out]
               exact HE1.out.set _)
      · have hd1 : (tkOf x.t == 1) = false := by simp; omega
        have HF : Hid (loS ((xs ++ [x]).map It.tag) = acc) := by
          have : loS ((xs ++ [x]).map It.tag) = acc := by rw [HF9.out, if_neg hk1]; omega
          exact this
        gi_wp2
        refine ⟨(KeepsOthers.refl _).from _, KpW.refl _ _ _, ?_, hB1⟩
        rw [HF.out]
        exact HE1.out
    case done =>
      rintro D xs W hD hxs ⟨b1, hB1⟩ hK
      rw [hxs, lo_pre RN (rightB 4) t _ 0 0 hok] at b1
      have c1 := b1.cell
      gi_wp2
      refine ⟨by simp, .inl ⟨_, _, rfl, run_takeDeferred hK, ?_⟩⟩
      refine ⟨_, results_tmp rfl _ _ _, by first | rfl | (rw [hRv]; rfl), ?_⟩
      exact (hb8.out.trans hB1).trans ((Below.refl _ _).grown (grownBy_putObj' _ D _) (by have := hB1.size; omega) (fun k e => by cases e; omega))
    case stop =>
      rintro D c xs W _ _ h _
      exact h.elim
end Trm
end Go.Proofs.YtbkdecgfiiajnaaGreatDoor
/-
  Plain facts that the laws of layer 4 come down to: bounds on names and nodes, what is right for fewer parameters and variables.
  Conditions: none.
-/
namespace Go.Proofs.YtbkdecgfiiajnaaGreatDoor
open Go.RowKit
open Lvl

mutual
theorem okB_mono {m k : Int} (h : m ≤ k) : ∀ t : Lv, okB m t = true → okB k t = true
  | .mk kd n ts, ht => by
    rw [okB] at ht ⊢
    by_cases h1 : kd = 1
    · rw [if_pos h1] at ht ⊢; exact ht
    · rw [if_neg h1] at ht ⊢
      by_cases h2 : kd = 2
      · rw [if_pos h2] at ht ⊢
        simp only [Bool.and_eq_true, decide_eq_true_eq] at ht ⊢
        exact ⟨⟨ht.1.1, by omega⟩, ht.2⟩
      · rw [if_neg h2] at ht ⊢
        by_cases h3 : kd = 3
        · rw [if_pos h3] at ht ⊢
          rw [Bool.and_eq_true] at ht ⊢
          exact ⟨ht.1, okL_mono h ts ht.2⟩
        · rw [if_neg h3] at ht ⊢
          by_cases h4 : kd = 4 ∨ kd = 5
          · rw [if_pos h4] at ht ⊢
            rw [Bool.and_eq_true] at ht ⊢
            exact ⟨ht.1, okL_mono h ts ht.2⟩
          · rw [if_neg h4] at ht
            cases ht
theorem okL_mono {m k : Int} (h : m ≤ k) : ∀ ts : List Lv, okL m ts = true → okL k ts = true
  | [], _ => by rw [okL]
  | a :: ts, ht => by
    rw [okL, Bool.and_eq_true] at ht ⊢
    exact ⟨okB_mono h a ht.1, okL_mono h ts ht.2⟩
end
theorem rightB_four {n : Int} {t : Lv} (h : rightB n t = true) : rightB 4 t = true := by
  unfold rightB at h ⊢
  simp only [Bool.and_eq_true, decide_eq_true_eq] at h ⊢
  exact ⟨⟨⟨by omega, by omega⟩, h.1.2⟩, okB_mono h.1.1.2 t h.2⟩
namespace Trm
mutual
theorem tn_rn : ∀ t : Tm, tnodes t ≤ rn t
  | .mk k n m ls ts => by
    rw [tnodes, rn]
    have := tnL_rn ts
    omega
theorem tnL_rn : ∀ ts : List Tm, tnodesL ts ≤ rnL ts
  | [] => by rw [tnodesL, rnL]; omega
  | a :: ts => by
    rw [tnodesL, rnL]
    have := tn_rn a
    have := tnL_rn ts
    omega
end
mutual
theorem nm_pre : ∀ (t : Tm) (d b : Nat), nmOk t → ∀ q, q ∈ pre t d b → (tmOf q.1).size ≤ 140737488355328
  | .mk k n m ls ts, d, b, h, q, hq => by
    rw [nmOk] at h
    rw [pre, List.mem_cons] at hq
    rcases hq with rfl | hq
    · exact h.1
    · exact nm_preL k ts.length ts 0 (d + 1) b h.2 q hq
theorem nm_preL (k : Int) (len : Nat) : ∀ (ts : List Tm) (i d b : Nat), nmOkL ts → ∀ q, q ∈ preL k len ts i d b → (tmOf q.1).size ≤ 140737488355328
  | [], _, _, _, _, q, hq => by rw [preL] at hq; cases hq
  | a :: ts, i, d, b, h, q, hq => by
    rw [nmOkL] at h
    rw [preL, List.mem_append] at hq
    rcases hq with hq | hq
    · exact nm_pre a d _ h.1 q hq
    · exact nm_preL k len ts (i + 1) d b h.2 q hq
end
theorem shape_RL {RN : ByteArray → Bool} {RL RL' : Lv → Bool} (h : ∀ l, RL l = true → RL' l = true) {kd n : Int} {nm : ByteArray} {ls : List Lv} {m : Nat} {k : Int} (hs : shape RN RL kd n nm ls m k = true) : shape RN RL' kd n nm ls m k = true := by
  unfold shape at hs ⊢
  rw [Bool.and_eq_true] at hs ⊢
  exact ⟨List.all_eq_true.2 fun l hl => h l (List.all_eq_true.1 hs.1 l hl), hs.2⟩
mutual
theorem okT_RL {RN : ByteArray → Bool} {RL RL' : Lv → Bool} (h : ∀ l, RL l = true → RL' l = true) : ∀ (t : Tm) (k : Int), okT RN RL t k = true → okT RN RL' t k = true
  | .mk kd n nm ls ts, k, ht => by
    rw [okT, Bool.and_eq_true] at ht ⊢
    exact ⟨shape_RL h ht.1, okTL_RL h kd ts 0 k ht.2⟩
theorem okTL_RL {RN : ByteArray → Bool} {RL RL' : Lv → Bool} (h : ∀ l, RL l = true → RL' l = true) (kd : Int) : ∀ (ts : List Tm) (i : Nat) (k : Int), okTL RN RL kd ts i k = true → okTL RN RL' kd ts i k = true
  | [], _, _, _ => by rw [okTL]
  | a :: ts, i, k, ht => by
    rw [okTL, Bool.and_eq_true] at ht ⊢
    exact ⟨okT_RL h a _ ht.1, okTL_RL h kd ts (i + 1) k ht.2⟩
end
theorem rightT_ok {RN : ByteArray → Bool} {nn kk : Int} {t : Tm} (h : rightT RN nn t kk = true) : 0 ≤ kk ∧ tnodes t ≤ 2000 ∧ okT RN (rightB nn) t (min kk 1125899906842624) = true := by
  unfold rightT at h
  simp only [Bool.and_eq_true, decide_eq_true_eq] at h
  exact ⟨h.1.1, h.1.2, h.2⟩
theorem rightT_of {RN : ByteArray → Bool} {nn kk : Int} {t : Tm} (h0 : 0 ≤ kk) (h1 : tnodes t ≤ 2000) (h2 : okT RN (rightB nn) t (min kk 1125899906842624) = true) : rightT RN nn t kk = true := by
  unfold rightT
  simp only [Bool.and_eq_true, decide_eq_true_eq]
  exact ⟨⟨h0, h1⟩, h2⟩
theorem rightT_more {RN : ByteArray → Bool} {nn kk kk' : Int} {t : Tm} (h : rightT RN nn t kk = true) (hk : kk ≤ kk') : rightT RN nn t kk' = true := by
  obtain ⟨h0, h1, h2⟩ := rightT_ok h
  refine rightT_of (by omega) h1 ?_
  have := okT_mono RN (rightB nn) h2 (by omega) (min kk' 1125899906842624 - min kk 1125899906842624) (by omega)
  rwa [show min kk 1125899906842624 + (min kk' 1125899906842624 - min kk 1125899906842624) = min kk' 1125899906842624 by omega] at this
theorem rightT_four {RN : ByteArray → Bool} {nn kk : Int} {t : Tm} (h : rightT RN nn t kk = true) : rightT RN 4 t kk = true := by
  obtain ⟨h0, h1, h2⟩ := rightT_ok h
  exact rightT_of h0 h1 (okT_RL (fun l => rightB_four) t _ h2)
/-- All that TermRights says, of a term that is right in kk variables. -/
theorem rights_all {RN : ByteArray → Bool} {nn kk : Int} {t : Tm} (h : rightT RN nn t kk = true) (hk : kk ≤ 1000) :
    looseT RN t = loT t 0 ∧ 0 ≤ loT t 0 ∧ loT t 0 ≤ kk ∧ rightT RN nn t (loT t 0) = true ∧ (loT t 0 ≠ 0 → rightT RN nn t (loT t 0 - 1) = false) := by
  have h4 := rightT_more (rightT_four h) (show kk ≤ 1125899906842624 by omega)
  obtain ⟨h0, h1, h2⟩ := rightT_ok h
  have hl : looseT RN t = loT t 0 := by unfold looseT; rw [if_pos h4]
  have hp := loT_pos t 0
  have e : min kk 1125899906842624 = kk := by omega
  rw [e] at h2
  have hle : loT t 0 ≤ kk := (okT_lo RN (rightB nn) t kk kk 0 h2 h0).1 (by rw [Int.add_zero]; exact h2)
  have hlr : okT RN (rightB nn) t (loT t 0) = true := by
    have := (okT_lo RN (rightB nn) t kk (loT t 0) 0 h2 hp).2 (Int.le_refl _)
    rwa [Int.add_zero] at this
  refine ⟨hl, hp, hle, rightT_of hp h1 (by rw [show min (loT t 0) 1125899906842624 = loT t 0 by omega]; exact hlr), fun hne => ?_⟩
  cases hb : rightT RN nn t (loT t 0 - 1) with
  | false => rfl
  | true =>
    obtain ⟨b0, _, b2⟩ := rightT_ok hb
    rw [show min (loT t 0 - 1) 1125899906842624 = loT t 0 - 1 by omega] at b2
    have := (okT_lo RN (rightB nn) t kk (loT t 0 - 1) 0 h2 b0).1 (by rw [Int.add_zero]; exact b2)
    omega
end Trm
end Go.Proofs.YtbkdecgfiiajnaaGreatDoor
/-
  The contract of the program's function each, over terms, each made anew.
  Conditions: the terms lie in memory as told by 'TsP'; they have at most 100000 nodes each, and their levels at most 1000 each.
-/
namespace Go.Proofs.YtbkdecgfiiajnaaGreatDoor
open Go.RowKit
open Lvl
namespace Trm

set_option maxRecDepth 100000 in
set_option maxHeartbeats 2000000 in
theorem eacht_own (ts : List Tm) (A : Option Addr) (len cap : Nat) (w : World) (hl : ts.length = len) (hlc : len ≤ cap) (h1000 : len ≤ 100000) (hs : TsP w (fun _ => True) A 0 ts) (hm : ∀ a, a ∈ ts → tnodes a ≤ 100000 ∧ lvOk a) :
    Calls Tryz.prog 43 #[.slice A len cap, .func (.func 41) #[] #[]] w (fun e w' => ∃ V, e = .returned V ∧ OwnT w' w.heap.size V ts ∧ Below w.heap.size w w') := by
  obtain ⟨i0, hi0, hz0, hz1, hz2⟩ := info_parts infoTm
  have HMM := Lib.hid hm
  have HS := Lib.hid hs
  have HN := Lib.hid hl
  clear hs hl hm
  go_enter Tryz.func43, Tryz.ntmps43
  go_wp2_with fail
  go_loopw [5, 10] (fun V i wr => ∃ j : Nat, j ≤ len ∧ i = .int .i64 j ∧ OwnT wr w.heap.size V (ts.take j) ∧ Below w.heap.size w wr) (fun _ i _ => len - (intOf i).toNat)
  case atStart => exact ⟨0, Nat.zero_le _, rfl, ownT_nil _ _, Below.refl _ _⟩
  case round =>
    obtain ⟨j, hj, rfl, hown, hb⟩ := hrel
    have HOWN := Lib.hid hown
    have HBW := Lib.hid hb
    clear hown hb
    by_cases hlt : j < len
    · have hx1 : j < ts.length := by rw [HN.out]; exact hlt
      have hln : decide ((j : Int) < (len : Int)) = true := by simp; omega
      obtain ⟨bk, o, l1, s1, eA, hbs, _, hc0, hc1, hc2, hc3, hc4, htm⟩ := tsP_get HS.out j hx1
      subst eA
      obtain ⟨⟨xa, xl, xc, rfl⟩, ya, yl, yc, rfl⟩ := tmP_slices htm
      have d0 := (HBW.out.cell (p := ⟨bk, _, none⟩) hbs).trans hc0
      have d1 := (HBW.out.cell (p := ⟨bk, _, none⟩) hbs).trans hc1
      have d2 := (HBW.out.cell (p := ⟨bk, _, none⟩) hbs).trans hc2
      have d3 := (HBW.out.cell (p := ⟨bk, _, none⟩) hbs).trans hc3
      have d4 := (HBW.out.cell (p := ⟨bk, _, none⟩) hbs).trans hc4
      obtain ⟨hmj, hlj⟩ := HMM.out _ (List.getElem_mem hx1)
      have HCALL := Lib.hid (fun (w' : World) (hw : Below w.heap.size w w') => own_is ts[j] (tv ts[j] (.slice xa xl xc) (.slice ya yl yc)) w' ⟨_, _, rfl, tmP_below hw htm⟩ hmj hlj)
      have HTK := Lib.hid (show ts.take (j + 1) = ts.take j ++ [ts[j]] by rw [List.take_add_one, List.getElem?_eq_getElem hx1]; rfl)
      dsimp only [tv] at HCALL
      obtain ⟨ka, hka⟩ : ∃ q, tkOf ts[j] = q := ⟨_, rfl⟩
      obtain ⟨na, hna⟩ : ∃ q, tnOf ts[j] = q := ⟨_, rfl⟩
      obtain ⟨ma, hma⟩ : ∃ q, tmOf ts[j] = q := ⟨_, rfl⟩
      rw [hka] at d0 HCALL
      rw [hna] at d1 HCALL
      rw [hma] at d2 HCALL
      have HA := Lib.hid (And.intro hka (And.intro hna hma))
      have q1 : (0 : Int) ≤ (j : Int) := by omega
      have q2 : (j : Int) < (len : Int) := by omega
      clear htm hc0 hc1 hc2 hc3 hc4 hka hna hma hmj hlj
      obtain ⟨ss, hsl, hso, hsk⟩ := HOWN.out
      have hjl : (ts.take j).length = j := by rw [List.length_take, HN.out]; omega
      rw [hjl] at hso
      have HO := Lib.hid hso
      have HSL := Lib.hid hsl
      have HSK := Lib.hid hsk
      have HJL := Lib.hid hjl
      have hbo1 : j + 1 ≤ maxLen := by unfold maxLen; omega
      have hbo2 : (j + 1) * 80 ≤ 140737488355328 := by omega
      clear hso hsl hsk hjl
      go_wp2_with fail
      have HBL := Lib.hid (below_lit wr (.cells #[.int .i64 ka, .int .i64 na, .string ma, .slice xa xl xc, .slice ya yl yc] 25))
      generalize wr.alloc (.cells #[.int .i64 ka, .int .i64 na, .string ma, .slice xa xl xc, .slice ya yl yc] 25) = W1 at *
      refine (HCALL.out W1 (HBW.out.trans (HBL.out.mono HBW.out.size))).mono ?_
      rintro e wA ⟨l9, s9, rfl, ht9, hbA⟩
      obtain ⟨⟨ua, ul, uc, rfl⟩, va, vl, vc, rfl⟩ := tmP_slices ht9
      dsimp only [tv]
      rw [HA.out.1, HA.out.2.1, HA.out.2.2]
      have HBA := Lib.hid (HBL.out.trans (hbA.mono HBL.out.size))
      have HT9 : Hid (TmP wA (fun b => wr.heap.size ≤ b) ts[j] (.slice ua ul uc) (.slice va vl vc)) := tmP_weak (fun b hp => Nat.le_trans HBL.out.size hp) ht9
      have HBAS : Hid (w.heap.size ≤ wA.heap.size) := Nat.le_trans HBW.out.size HBA.out.size
      clear ht9 hbA d0 d1 d2 d3 d4
      go_wp2_with (first | (refine wpList_append_lies _ rfl (.tmp 14) (.tmp 18) 23 rfl w.heap.size 25 i0 (.agg #[.int .i64 0, .int .i64 0, .string ⟨#[]⟩, .slice none 0 0, .slice none 0 0]) 5 80 Tryz.underlying23 hi0 hz0 hz1 hz2 rfl (by decide) u5 j (cells5 (ts.take j) ss) (by simp [Act.eval]) (own_alloc (own_below HO.out HBA.out) _) ⟨wA.heap.size, 0, none⟩ 1 1 [.int .i64 ka, .int .i64 na, .string ma, .slice ua ul uc, .slice va vl vc] (by simp [Act.eval]) rfl (World.news_of_block (heap_alloc_new wA _)) (five_oneCell rfl rfl) (by decide) hbo1 hbo2 (by have := HBAS.out; simp; omega) (wA.heap.size + 1) (by simp) ?_; intro g9 cap' w2 hown2 hgrow hat hlt2))
      have hA : Below w.heap.size w wA := HBW.out.trans (HBA.out.mono HBW.out.size)
      refine ⟨⟨j + 1, by omega, by go_num, ?_, (hA.alloc hA.size _).grown hgrow (by have := hA.size; simp; omega) (fun k e => (own_lt HO.out k e).1)⟩, by simp [intOf]; omega⟩
      have hst := ownT_step (w0 := wr) (w1 := wA) (w2 := w2) (base := w.heap.size) (V := u5) (ts := ts.take j) (ss := ss) (a := ts[j]) (l := .slice ua ul uc) (s := .slice va vl vc) (H := wA.heap.size + 1) (O := .cells #[.int .i64 ka, .int .i64 na, .string ma, .slice ua ul uc, .slice va vl vc] 25) (g := g9) (cap := cap') HSL.out HSK.out HBA.out (tmP_new HO.out HBW.out.size HT9.out) (by simp) (by rw [HJL.out, HA.out.1, HA.out.2.1, HA.out.2.2]; exact hown2) hgrow hat
      rw [HJL.out] at hst
      rw [HTK.out]
      exact hst
    · obtain rfl : j = len := by omega
      have hln : decide ((j : Int) < (j : Int)) = false := by simp
      have h7 : ts.take j = ts := List.take_of_length_le (by rw [HN.out]; exact Nat.le_refl _)
      go_wp2_with fail
      go_ret
      have h8 := HOWN.out
      rw [h7] at h8
      exact ⟨_, rfl, h8, HBW.out⟩
end Trm
end Go.Proofs.YtbkdecgfiiajnaaGreatDoor
/-
  slices.Backward over terms: its contract as an iterator.
  Conditions: the terms lie in memory as told by 'TsP'; what a round of the loop keeps: 'KpX'.
-/
namespace Go.Proofs.YtbkdecgfiiajnaaGreatDoor
open Go.RowKit Go.Shelf
open Lvl
namespace Trm

mutual
theorem lvP_cells {w : World} {P : Nat → Prop} : ∀ (t : Lv) (s : Value), LvP w P t s → LvP w (fun b => P b ∧ ∃ o : Obj, w.heap[b]? = some o ∧ o.isCells = true) t s
  | .mk k n ts, s, h => by
    rw [LvP] at h ⊢
    obtain ⟨A, len, cap, e, h1, h2, h3, h4, h5⟩ := h
    exact ⟨A, len, cap, e, h1, h2, h3, h4, lsP_cells A 0 ts h5⟩
theorem lsP_cells {w : World} {P : Nat → Prop} : ∀ (A : Option Addr) (j : Nat) (ts : List Lv), LsP w P A j ts → LsP w (fun b => P b ∧ ∃ o : Obj, w.heap[b]? = some o ∧ o.isCells = true) A j ts
  | _, _, [], _ => by rw [LsP]; trivial
  | A, j, a :: ts, h => by
    rw [LsP] at h ⊢
    obtain ⟨⟨b, o, s, e, h1, hp, h2, h3, h4, h5⟩, h6⟩ := h
    exact ⟨⟨b, o, s, e, h1, ⟨hp, cells_of_cell h2⟩, h2, h3, h4, lvP_cells a s h5⟩, lsP_cells A (j + 1) ts h6⟩
end
mutual
theorem tmP_cells {w : World} {P : Nat → Prop} : ∀ (t : Tm) (l s : Value), TmP w P t l s → TmP w (fun b => P b ∧ ∃ o : Obj, w.heap[b]? = some o ∧ o.isCells = true) t l s
  | .mk k n m ls ts, l, s, h => by
    rw [TmP] at h ⊢
    obtain ⟨h0, A, len, cap, e, h1, h2, h3, h4, h5⟩ := h
    exact ⟨lvP_cells _ _ h0, A, len, cap, e, h1, h2, h3, h4, tsP_cells A 0 ts h5⟩
theorem tsP_cells {w : World} {P : Nat → Prop} : ∀ (A : Option Addr) (j : Nat) (ts : List Tm), TsP w P A j ts → TsP w (fun b => P b ∧ ∃ o : Obj, w.heap[b]? = some o ∧ o.isCells = true) A j ts
  | _, _, [], _ => by rw [TsP]; trivial
  | A, j, a :: ts, h => by
    rw [TsP] at h ⊢
    obtain ⟨⟨b, o, l, s, e, h1, hp, c0, c1, c2, c3, c4, h5⟩, h6⟩ := h
    exact ⟨⟨b, o, l, s, e, h1, ⟨hp, cells_of_cell c0⟩, c0, c1, c2, c3, c4, tmP_cells a l s h5⟩, tsP_cells A (j + 1) ts h6⟩
end
/-- What is no cells may be turned. -/
theorem tmP_turn {W W' : World} {P : Nat → Prop} {row : Option Nat} {t : Tm} {l s : Value} (h : TmP W P t l s) (hg : W.grownBy W' row) (hr : ∀ r, row = some r → ∃ o : Obj, W.heap[r]? = some o ∧ o.isCells = false) : TmP W' P t l s :=
  tmP_move (fun b _ hp => ⟨hp.1, by obtain ⟨o, ho, hc⟩ := hp.2; exact grownBy_keeps_cells hg hr ho hc⟩) (grown_size hg) _ _ _ (tmP_cells _ _ _ h)

/-- What a round keeps: all that lay below D, but for the block X. -/
def KpX (D X : Nat) (W W' : World) : Prop := (W'.os = W.os ∧ W'.tape = W.tape ∧ W'.output = W.output ∧ W.heap.size ≤ W'.heap.size) ∧ ∀ k, k < D → k ≠ X → W'.heap[k]? = W.heap[k]?
theorem KpX.refl (D X : Nat) (W : World) : KpX D X W W := ⟨⟨rfl, rfl, rfl, Nat.le_refl _⟩, fun _ _ _ => rfl⟩
theorem KpX.trans {D X : Nat} {A B C : World} (h : KpX D X A B) (k : KpX D X B C) : KpX D X A C :=
  ⟨⟨k.1.1.trans h.1.1, k.1.2.1.trans h.1.2.1, k.1.2.2.1.trans h.1.2.2.1, Nat.le_trans h.1.2.2.2 k.1.2.2.2⟩, fun b h1 h2 => (k.2 b h1 h2).trans (h.2 b h1 h2)⟩
theorem KpX.of_grown {D X : Nat} {A B : World} (hD : D ≤ A.heap.size) (h : A.grownBy B (some X)) : KpX D X A B := by
  obtain ⟨h1, h2, h3, h4, h5⟩ := h
  exact ⟨⟨h1, h2, h3, h4⟩, fun k hk hx => h5 k (Nat.lt_of_lt_of_le hk hD) (fun e => hx (by cases e; rfl))⟩
theorem KpX.put {D X : Nat} {w : World} (hD : D = w.heap.size) (W : World) (l : Nat) (o o' : Obj) (hl : w.heap.size ≤ l) (h : W.heap[l]? = some o) (_ : o.isCells = false) (_ : o.isWalk = false) : KpX D X W (W.putObj l o') := by
  have hb := belowK_b (w := w) (Nat.le_refl _) W l o o' hl h ‹_› ‹_›
  exact ⟨⟨hb.os, hb.tape, hb.output, hb.size⟩, fun k hk _ => hb.block k (by omega)⟩
theorem KpX.below {D X n₀ : Nat} {A B : World} (h : KpX D X A B) (hn : n₀ ≤ D) (hX : n₀ ≤ X) : Below n₀ A B :=
  ⟨h.1.1, h.1.2.1, h.1.2.2.1, h.1.2.2.2, fun k hk => h.2 k (by omega) (by omega)⟩

/-- A term that is handed out, as it lay at first, with its place. -/
structure ItB (w0 : World) (P : Nat → Prop) where
  i : Nat
  t : Tm
  la : Option Addr
  ll : Nat
  lc : Nat
  sa : Option Addr
  sl : Nat
  sc : Nat
  ok : TmP w0 P t (.slice la ll lc) (.slice sa sl sc)
def ItB.tm {w0 : World} {P : Nat → Prop} (x : ItB w0 P) : Tm := x.t
def ItB.enc {w0 : World} {P : Nat → Prop} (x : ItB w0 P) : Array Value := #[.int .i64 x.i, tv x.t (.slice x.la x.ll x.lc) (.slice x.sa x.sl x.sc)]

set_option maxHeartbeats 1000000 in
theorem backward_in (A : Option Addr) (len cap : Nat) (w : World) :
    Calls Tryz.prog 60 #[.slice A len cap] w fun e w' => e = .returned (.func (.func 79) #[] #[.pointer (some ⟨w.heap.size, 0, none⟩)]) ∧ w' = w.alloc (.cells #[.slice A len cap] 23) := by
  go_enter Tryz.func60, Tryz.ntmps60
  go_wp2_with fail
  go_ret
  exact ⟨rfl, rfl⟩

set_option maxRecDepth 100000 in
set_option maxHeartbeats 2000000 in
theorem back_stops (w0 : World) (P : Nat → Prop) (D X Bc : Nat) (ts : List Tm) (A : Option Addr) (len cap : Nat) (w : World) (hs : TsP w0 P A 0 ts) (hl : ts.length = len) (h47 : len ≤ 140737488355328) (hB : w.heap[Bc]? = some (.cells #[.slice A len cap] 23 (0, 0))) (hBD : Bc < D) (hBX : Bc ≠ X) (hD : w0.heap.size ≤ D) (hX : w0.heap.size ≤ X) (hbw : Below w0.heap.size w0 w) :
    SeqStopsK Fence.wide 12 Tryz.prog 79 #[.pointer (some ⟨Bc, 0, none⟩)] (ItB.enc (w0 := w0) (P := P)) (KpX D X) (fun xs => xs.map ItB.tm = ts.reverse) (fun xs => xs.map ItB.tm <+: ts.reverse) ts.length w := by
  intro l J Jx W hW hJ hJx hY h0
  have hr := (hW.block Bc (Array.getElem?_eq_some_iff.1 hB).1).trans hB
  have hc := cell_of_row W Bc 0 _ 23 (0, 0) hr
  have HR := Lib.hid hr
  have HS := Lib.hid hs
  have HN := Lib.hid hl
  have HY := Lib.hid hY
  have HB0 := Lib.hid (hbw.trans (hW.mono hbw.size))
  clear hr hs hl hY hJ hJx hB hbw hW
  refine callsIn_of_wp Tryz.func79 rfl trivial ?_ rfl
  simp only [Tryz.ntmps79, List.size_toArray, List.length_cons, List.length_nil, Nat.reduceAdd, Nat.reduceSub, Array.replicate_succ, Array.replicate_zero, List.push_toArray, List.append_toArray, List.nil_append, List.cons_append]
  gi_wp2
  gi_loopw [3] (fun i wr => ∃ (m : Nat) (xs : List (ItB w0 P)), m ≤ len ∧ i = .int .i64 ((len : Int) - 1 - (m : Int)) ∧ Hid (xs.map ItB.tm = (ts.drop (len - m)).reverse) ∧ Hid (J xs wr) ∧ Hid (KpX D X W wr)) (fun i _ => (intOf i + 1).toNat)
  case atStart =>
    refine ⟨0, [], Nat.zero_le _, by congr 1; omega, ?_, h0, KpX.refl _ _ _⟩
    have : ([] : List (ItB w0 P)).map ItB.tm = (ts.drop (len - 0)).reverse := by rw [List.drop_of_length_le (by rw [HN.out]; omega)]; rfl
    exact this
  case round =>
    obtain ⟨m, xs, hm, rfl, htag, hj, hkp⟩ := hrel
    have hcr := cell_of_row wr Bc 0 _ 23 (0, 0) ((hkp.out.2 Bc hBD hBX).trans HR.out)
    have HBr := Lib.hid (HB0.out.trans (hkp.out.below hD hX))
    by_cases hlt : m < len
    · obtain ⟨j, hjm⟩ : ∃ j, j = len - 1 - m := ⟨_, rfl⟩
      have hi : (len : Int) - 1 - (m : Int) = (j : Int) := by omega
      rw [hi]
      have hge : decide ((0 : Int) ≤ (j : Int)) = true := by simp
      have hx1 : j < ts.length := by rw [HN.out]; omega
      obtain ⟨bk, o, l1, s1, eA, hbs, _, hc0, hc1, hc2, hc3, hc4, htm⟩ := tsP_get HS.out j hx1
      subst eA
      obtain ⟨⟨xa, xl, xc, rfl⟩, ya, yl, yc, rfl⟩ := tmP_slices htm
      have d0 := (HBr.out.cell (p := ⟨bk, _, none⟩) hbs).trans hc0
      have d1 := (HBr.out.cell (p := ⟨bk, _, none⟩) hbs).trans hc1
      have d2 := (HBr.out.cell (p := ⟨bk, _, none⟩) hbs).trans hc2
      have d3 := (HBr.out.cell (p := ⟨bk, _, none⟩) hbs).trans hc3
      have d4 := (HBr.out.cell (p := ⟨bk, _, none⟩) hbs).trans hc4
      have HTG : Hid (∀ x : ItB w0 P, x.t = ts[j] → (xs ++ [x]).map ItB.tm = (ts.drop (len - (m + 1))).reverse) := by
        have : ∀ x : ItB w0 P, x.t = ts[j] → (xs ++ [x]).map ItB.tm = (ts.drop (len - (m + 1))).reverse := fun x hx => by
          have e : len - m = j + 1 := by omega
          have e2 : len - (m + 1) = j := by omega
          rw [List.map_append, htag.out, e, e2, List.drop_eq_getElem_cons hx1, List.reverse_cons, List.map_cons, List.map_nil, ← hx]
          rfl
        exact this
      have HPF : Hid ((ts.drop (len - (m + 1))).reverse <+: ts.reverse) := by
        have : (ts.drop (len - (m + 1))).reverse <+: ts.reverse := List.reverse_prefix.2 (List.drop_suffix _ _)
        exact this
      have hlen : xs.length < ts.length := by
        have : xs.length = m := by rw [← List.length_map (f := ItB.tm), htag.out, List.length_reverse, List.length_drop, HN.out]; omega
        rw [this, HN.out]
        exact hlt
      obtain ⟨Y, hYY⟩ : ∃ Y : ItB w0 P, Y = ⟨j, ts[j], xa, xl, xc, ya, yl, yc, htm⟩ := ⟨_, rfl⟩
      obtain ⟨fn, tmps, assign, body, hy, hR⟩ := HY.out xs Y wr hj.out hlen
      rw [show Y.enc = #[.int .i64 j, .agg #[.int .i64 (tkOf ts[j]), .int .i64 (tnOf ts[j]), .string (tmOf ts[j]), .slice xa xl xc, .slice ya yl yc]] by subst hYY; rfl] at hy
      have HYT := Lib.hid (show Y.t = ts[j] by subst hYY; rfl)
      have HRh := Lib.hid hR
      have q1 : (0 : Int) ≤ (j : Int) := by omega
      have q2 : (j : Int) < (len : Int) := by omega
      have HJM := Lib.hid hjm
      clear hR hYY htm hc0 hc1 hc2 hc3 hc4 hjm hi
      generalize tkOf ts[j] = ka at *
      generalize tnOf ts[j] = na at *
      generalize tmOf ts[j] = ma at *
      gi_wp2
      have hR := HRh.out
      clear HRh hy d0 d1 d2 d3 d4
      refine hR.mono ?_
      clear hR
      rintro e W3 (⟨rfl, hJ3, hk3⟩ | ⟨rfl, hx3⟩)
      · have HJ3 := Lib.hid hJ3
        have HK3 := Lib.hid (hkp.out.trans hk3)
        clear hJ3 hk3
        gi_wp2
        go_roundw
        case rel => exact ⟨m + 1, xs ++ [Y], by omega, by have := HJM.out; congr 1; omega, HTG.out Y HYT.out, HJ3.out, HK3.out⟩
        case measure => have := HJM.out; simp [intOf]
      · have HX3 := Lib.hid hx3
        clear hx3
        gi_wp2
        refine bodyPost_ret (results_none rfl _ _ _) rfl ?_
        exact ⟨⟨_, rfl⟩, .inr ⟨xs ++ [Y], by rw [HTG.out Y HYT.out]; exact HPF.out, HX3.out⟩⟩
    · have hi : (len : Int) - 1 - (m : Int) = -1 := by omega
      rw [hi]
      have htag' : xs.map ItB.tm = ts.reverse := by
        have := htag.out
        rwa [show len - m = 0 by omega, List.drop_zero] at this
      gi_wp2
      go_end0
      exact ⟨⟨_, rfl⟩, .inl ⟨xs, htag', hj.out⟩⟩
end Trm
end Go.Proofs.YtbkdecgfiiajnaaGreatDoor
