import Derived.Test.YtbkdecgfiiajnaaGreatDoorJ21
import Derived.Test.YtbkdecgfiiajnaaGreatDoorJ14
import Derived.RangeFuncBox
import Derived.OwnWalkIn
import Derived.Test.YtbkdecgfiiajnaaGreatDoorJ33
/-
  The contract of the program's function Consts: the names of a term's constants, in order, each once.
  Conditions: the term lies in memory as told by 'TmV'; it has at most 100000 nodes; name.Right's contract.
-/
namespace Go.Proofs.YtbkdecgfiiajnaaGreatDoor
open Go.RowKit Go.Shelf
open Lvl
namespace Trm
attribute [local go_sem] Oper.semAt_some
/-- The names of the constants among these nodes. -/
def cnS : List (Tm × Nat × Nat) → List ByteArray
  | [] => []
  | q :: l => (if tkOf q.1 = 3 then [tmOf q.1] else []) ++ cnS l
theorem cnS_append : ∀ (l r : List (Tm × Nat × Nat)), cnS (l ++ r) = cnS l ++ cnS r
  | [], r => rfl
  | q :: l, r => by rw [List.cons_append, cnS, cnS, cnS_append l r, List.append_assoc]
theorem cnS_len : ∀ l : List (Tm × Nat × Nat), (cnS l).length ≤ l.length
  | [] => Nat.le_refl _
  | q :: l => by
    have := cnS_len l
    rw [cnS, List.length_append, List.length_cons]
    split
    · rw [List.length_singleton]; omega
    · rw [List.length_nil]; omega
/-- The names of a term's constants; none of one that isn't right. -/
def constsT (RN : ByteArray → Bool) (t : Tm) : List ByteArray := if rightT RN 4 t 1125899906842624 = true then sortedOf (cnS (pre t 0 0)) else []
theorem own_turn {W W' : World} {base e size n : Nat} {V : Value} {cs : List Value} {row : Option Nat} (h : W.ownsRow base e size V n cs) (hg : W.grownBy W' row) (hr : ∀ r, row = some r → ∃ o : Obj, W.heap[r]? = some o ∧ o.isCells = false) : W'.ownsRow base e size V n cs := by
  refine ⟨h.1, ?_⟩
  rcases h.2 with h1 | ⟨g, cap, cur, rfl, hbg, hr1, h4⟩
  · exact .inl h1
  · exact .inr ⟨g, cap, cur, rfl, hbg, (grownBy_keeps_cells hg hr hr1 rfl).trans hr1, h4⟩
theorem own_slice {W : World} {base e size n : Nat} {V : Value} {cs : List Value} (h : W.ownsRow base e size V n cs) : ∃ a l c, V = .slice a l c := by
  rcases h.2 with ⟨rfl, _⟩ | ⟨g, cap, cur, rfl, _⟩ <;> exact ⟨_, _, _, rfl⟩
theorem own_far {W w2 : World} {base e size n k : Nat} {V : Value} {cs : List Value} {O : Obj} (h : W.ownsRow base e size V n cs) (hg : (W.alloc O).grownBy w2 V.ownBlock) (hk : k < base) (hk2 : k < W.heap.size) : w2.heap[k]? = W.heap[k]? :=
  (hg.block k (by simp; omega) (fun e => by have := (h.lt k e.symm).1; omega)).trans (heap_alloc_old W O hk2)
theorem kpW_app {n₀ D Q k : Nat} {W w1 : World} {tmp : Obj} {V V' : Value} {xs : List Value} (hrow : W.ownsRow n₀ 9 1 V k xs) (hg : (W.alloc tmp).grownBy w1 V.ownBlock) (hb : Below n₀ W (w1.setCell ⟨Q, 0, none⟩ V')) (hQ : Q < D) : KpW n₀ D W (w1.setCell ⟨Q, 0, none⟩ V') := ⟨hb, fun b o hD ho hbo => by
  rw [setCell_far _ _ _ _ (by show b ≠ Q; omega)]
  have hlt := (Array.getElem?_eq_some_iff.1 ho).1
  refine (hg.block b (by simp; omega) (fun e => ?_)).trans ((heap_alloc_old W tmp hlt).trans ho)
  rcases hrow.2 with ⟨rfl, _⟩ | ⟨g, cap, cur, rfl, _, hgb, _⟩
  · simp [Value.ownBlock] at e
  · obtain rfl : g = b := by simpa [Value.ownBlock] using e.symm
    rw [hgb] at ho
    cases ho
    simp [boxO] at hbo⟩
theorem txt_turn {W W' : World} {A : Option Addr} {xs : List ByteArray} {row : Option Nat} (h : Txt W A xs) (hg : W.grownBy W' row) (hr : ∀ r, row = some r → ∃ o : Obj, W.heap[r]? = some o ∧ o.isCells = false) : Txt W' A xs := fun hne => by
  obtain ⟨b, o, rfl, hlt, hc⟩ := h hne
  refine ⟨b, o, rfl, Nat.lt_of_lt_of_le hlt (grown_size hg), fun j x hx => ?_⟩
  obtain ⟨ob, ho, hoc⟩ := cells_of_cell (hc j x hx)
  exact (cell_heap (grownBy_keeps_cells hg hr ho hoc)).trans (hc j x hx)

set_option maxRecDepth 100000 in
set_option maxHeartbeats 4000000 in
theorem consts_is (RN : ByteArray → Bool) (t : Tm) (v : Value) (w : World) (hv : TmV w t v) (hm : tnodes t ≤ 100000) (hnm : ∀ q, q ∈ pre t 0 0 → (tmOf q.1).size ≤ 140737488355328) (CN : NameC w RN) :
    Calls Tryz.prog 29 #[v] w (SliceRet w (constsT RN t)) := by
  obtain ⟨i0, hi0, hz0, hz1, hz2⟩ := info_parts infoStr
  obtain ⟨l, s, rfl, ht⟩ := hv
  obtain ⟨⟨la, ll, lc, rfl⟩, sa, sl, sc, rfl⟩ := tmP_slices ht
  have HTT := Lib.hid ht
  obtain ⟨k, hk⟩ : ∃ k, tkOf t = k := ⟨_, rfl⟩
  obtain ⟨n, hn⟩ : ∃ n, tnOf t = n := ⟨_, rfl⟩
  obtain ⟨m, hmm⟩ : ∃ m, tmOf t = m := ⟨_, rfl⟩
  dsimp only [tv]
  rw [hk, hn, hmm]
  have HK := Lib.hid hk
  have HNN := Lib.hid hn
  have HMM := Lib.hid hmm
  have HM := Lib.hid hm
  clear hk hn hmm ht hm
  have HCN := Lib.hid CN
  have HNM := Lib.hid hnm
  clear CN hnm
  obtain ⟨r, hr⟩ : ∃ r, rightT RN 4 t 1125899906842624 = r := ⟨_, rfl⟩
  have HRR := Lib.hid hr
  have hir := isRight_is RN t _ (w.alloc (.cells #[.int .i64 k, .int .i64 n, .string m, .slice la ll lc, .slice sa sl sc] 25)) ⟨_, _, rfl, tmP_below (below_lit _ _) HTT.out⟩ HM.out HNM.out (HCN.out.below (below_lit _ _)) r hr
  dsimp only [tv] at hir
  rw [HK.out, HNN.out, HMM.out] at hir
  have HIR := Lib.hid hir
  clear hir hr
  have z1 : (w.alloc (.cells #[.int .i64 k, .int .i64 n, .string m, .slice la ll lc, .slice sa sl sc] 25)).heap.size = w.heap.size + 1 := by simp
  have r0 : (w.alloc (.cells #[.int .i64 k, .int .i64 n, .string m, .slice la ll lc, .slice sa sl sc] 25)).heap[w.heap.size]? = some (Obj.cells #[.int .i64 k, .int .i64 n, .string m, .slice la ll lc, .slice sa sl sc] 25 (0, 0)) := by
    have := heap_alloc_new w (.cells #[.int .i64 k, .int .i64 n, .string m, .slice la ll lc, .slice sa sl sc] 25)
    exact this
  have HB := Lib.hid (below_lit w (.cells #[.int .i64 k, .int .i64 n, .string m, .slice la ll lc, .slice sa sl sc] 25))
  have HR0 := Lib.hid (r0)
  clear r0
  cases r
  · have HCS : Hid (constsT RN t = []) := by
      have : constsT RN t = [] := by rw [constsT, HRR.out]; rfl
      exact this
    refine (callsIn_wide (n := 13)).1 (callsIn_of_wp_marks Tryz.func29 rfl trivial ?_ rfl)
    simp only [Tryz.ntmps29, List.size_toArray, List.length_cons, List.length_nil, Nat.reduceAdd, Nat.reduceSub, Array.replicate_succ, Array.replicate_zero, List.push_toArray, List.append_toArray, List.nil_append, List.cons_append]
    gi_wp2
    generalize (w.alloc (.cells #[.int .i64 k, .int .i64 n, .string m, .slice la ll lc, .slice sa sl sc] 25)) = W4 at *
    have HZ := Lib.hid z1
    clear z1
    gi_wp2_with (refine ⟨trivial, ?_⟩; gi_at_call 31; refine (callsIn_wide.2 HIR.out).mono ?_; rintro e w6 ⟨rfl, hb6⟩; obtain ⟨a0, a1, a2, a3, a4⟩ := five_cells ((heap_alloc_old w6 (.cells #[.slice none 0 0] 50) (r := w.heap.size) (by have := hb6.size; have := HZ.out; omega)).trans ((hb6.block (w.heap.size) (by rw [HZ.out]; omega)).trans HR0.out)); have HB6 := Lib.hid hb6; clear hb6)
    refine ⟨_, results_tmp rfl _ _ _, none, 0, 0, rfl, by rw [HCS.out]; rfl, Nat.le_refl _, fun _ => rfl, by rw [HCS.out]; exact txt_nil _ _, HB.out.trans (HB6.out.mono HB.out.size)⟩
  · have HCS : Hid (constsT RN t = sortedOf (cnS (pre t 0 0))) := by
      have : constsT RN t = sortedOf (cnS (pre t 0 0)) := by rw [constsT, HRR.out]; rfl
      exact this
    refine (callsIn_wide (n := 13)).1 (callsIn_of_wp_marks Tryz.func29 rfl trivial ?_ rfl)
    simp only [Tryz.ntmps29, List.size_toArray, List.length_cons, List.length_nil, Nat.reduceAdd, Nat.reduceSub, Array.replicate_succ, Array.replicate_zero, List.push_toArray, List.append_toArray, List.nil_append, List.cons_append]
    gi_wp2
    generalize (w.alloc (.cells #[.int .i64 k, .int .i64 n, .string m, .slice la ll lc, .slice sa sl sc] 25)) = W4 at *
    have HZ := Lib.hid z1
    clear z1
    gi_wp2_with (first | (refine ⟨trivial, ?_⟩; gi_at_call 31; refine (callsIn_wide.2 HIR.out).mono ?_; rintro e w6 ⟨rfl, hb6⟩; obtain ⟨a0, a1, a2, a3, a4⟩ := five_cells ((heap_alloc_old w6 (.cells #[.slice none 0 0] 50) (r := w.heap.size) (by have := hb6.size; have := HZ.out; omega)).trans ((hb6.block (w.heap.size) (by rw [HZ.out]; omega)).trans HR0.out)); have HB6 := Lib.hid hb6; clear hb6) | (refine ⟨trivial, ?_⟩; gi_at_call 32; refine (callsIn_wide.2 (nodes_in k n m la ll lc sa sl sc _)).mono ?_; rintro e w' ⟨rfl, rfl⟩))
    have hs6 : w.heap.size + 1 ≤ w6.heap.size := by rw [← HZ.out]; exact HB6.out.size
    have hgB := HB.out.trans (HB6.out.mono HB.out.size)
    have y1 := heap_alloc_new w6 (.cells #[.slice none 0 0] 50)
    have ys : (w6.alloc (.cells #[.slice none 0 0] 50)).heap.size = w6.heap.size + 1 := by simp
    have yb := hgB.trans ((below_lit w6 (.cells #[.slice none 0 0] 50)).mono hgB.size)
    generalize w6.alloc (.cells #[.slice none 0 0] 50) = W7 at *
    have b1 := (heap_alloc_old W7 (.cells #[.int .i64 k, .int .i64 n, .string m, .slice la ll lc, .slice sa sl sc] 25) (r := w6.heap.size) (by rw [ys]; omega)).trans y1
    have r4 := heap_alloc_new W7 (.cells #[.int .i64 k, .int .i64 n, .string m, .slice la ll lc, .slice sa sl sc] 25)
    have hs8 : (W7.alloc (.cells #[.int .i64 k, .int .i64 n, .string m, .slice la ll lc, .slice sa sl sc] 25)).heap.size = w6.heap.size + 1 + 1 := by simp [ys]
    have hb8 := Lib.hid (yb.trans ((below_lit W7 (.cells #[.int .i64 k, .int .i64 n, .string m, .slice la ll lc, .slice sa sl sc] 25)).mono yb.size))
    rw [ys] at r4
    clear y1 yb a0 a1 a2 a3 a4
    try rw [ys]
    generalize W7.alloc (.cells #[.int .i64 k, .int .i64 n, .string m, .slice la ll lc, .slice sa sl sc] 25) = W8 at *
    have hGG : ∀ q, q ∈ pre t 0 0 → (fun q : Tm × Nat × Nat => tnodes q.1 ≤ 100000) q := fun q hq => by
      have h1 := pre_deep t 0 0 q hq
      have h2 := HM.out
      show tnodes q.1 ≤ 100000
      omega
    refine wpIn_rangeFunc_ownH rfl (by decide) (gf := 56) (lb := #[.pointer (some ⟨w6.heap.size + 1, 0, none⟩)]) rfl trivial (enters_of Tryz.func56 (by kernel_rfl) rfl) (encs := fun x : It w (fun q : Tm × Nat × Nat => tnodes q.1 ≤ 100000) => #[.agg #[.int .i64 (tkOf x.t), .int .i64 (tnOf x.t), .string (tmOf x.t), .slice x.la x.ll x.lc, .slice x.sa x.sl x.sc], .agg #[.int .i64 x.d, .int .i64 x.b]])
      (nodes_stops w (fun q : Tm × Nat × Nat => tnodes q.1 ≤ 100000) W8.heap.size (w6.heap.size + 1) t la ll lc sa sl sc W8 (by rw [HK.out, HNN.out, HMM.out]; exact r4) HTT.out (by omega) (Nat.le_refl _) hb8.out (by have := HM.out; omega) hGG) (fun h k => h.trans k) (KpW.put (by omega) rfl) (Below.refl _ _) (fun _ => rfl)
      (fun xs W => (∃ V, Boxed W (w6.heap.size) 50 V ∧ W.ownsRow w.heap.size 9 1 V (cnS (xs.map It.tag)).length ((cnS (xs.map It.tag)).map Value.string)) ∧ Below w.heap.size W8 W)
      (fun _ _ _ => False)
      (fun xs W W' row hs hg hr => by
        obtain ⟨⟨V, h1, h2⟩, h3⟩ := hs
        have hr' : ∀ r, row = some r → ∃ o : Obj, W.heap[r]? = some o ∧ o.isCells = false := fun r e => (hr r e).2
        exact ⟨⟨V, (grownBy_keeps_cells hg hr' h1 rfl).trans h1, own_turn h2 hg hr'⟩, h3.grown hg (by have := h3.size; omega) (fun r e => by have := (hr r e).1; omega)⟩)
      (fun _ _ _ _ _ hs _ _ => hs)
      ⟨⟨_, b1, World.ownsRow_nil _ _ _ _⟩, Below.refl _ _⟩
      (fun x a' W => (∃ Bn, a' = { tmps := #[.agg #[.int .i64 k, .int .i64 n, .string m, .slice la ll lc, .slice sa sl sc], .pointer (some ⟨w.heap.size, 0, none⟩), .slice none 0 0, .pointer (some ⟨w6.heap.size, 0, none⟩), .pointer (some ⟨Bn, 0, none⟩), .agg #[.int .i64 k, .int .i64 n, .string m, .slice la ll lc, .slice sa sl sc], .bool true, .bool false, .agg #[.int .i64 k, .int .i64 n, .string m, .slice la ll lc, .slice sa sl sc], .func (.func 56) #[] #[.pointer (some ⟨w6.heap.size + 1, 0, none⟩)], .agg #[.int .i64 (tkOf x.t), .int .i64 (tnOf x.t), .string (tmOf x.t), .slice x.la x.ll x.lc, .slice x.sa x.sl x.sc], .agg #[.int .i64 x.d, .int .i64 x.b], undef, undef, undef, undef, undef, undef, undef, undef, undef, undef], defers := [] } ∧ (w6.heap.size < Bn) ∧ W.heap[Bn]? = some (.cells #[.int .i64 (tkOf x.t), .int .i64 (tnOf x.t), .string (tmOf x.t), .slice x.la x.ll x.lc, .slice x.sa x.sl x.sc] 25 (0, 0))))
      (fun x a' _ X Y row hs hg hr => by
        obtain ⟨Bn, h1, h2, h3⟩ := hs
        exact ⟨Bn, h1, h2, (grownBy_keeps_cells hg (fun r e => (hr r e).2) h3 rfl).trans h3⟩)
      ?assign ?body ?done ?stop
    case assign =>
      rintro l xs x W K9 ⟨⟨V, h1, h2⟩, hB1⟩ hK
      have hsz := hB1.size
      gi_wp2
      have hb := below_lit W (.cells #[.int .i64 (tkOf x.t), .int .i64 (tnOf x.t), .string (tmOf x.t), .slice x.la x.ll x.lc, .slice x.sa x.sl x.sc] 25)
      refine hK _ _ ((KeepsOthers.alloc _ _).from _) (KpW.of_below (by omega) hb) ⟨⟨V, (heap_alloc_old W (.cells #[.int .i64 (tkOf x.t), .int .i64 (tnOf x.t), .string (tmOf x.t), .slice x.la x.ll x.lc, .slice x.sa x.sl x.sc] 25) (r := w6.heap.size) (by omega)).trans h1, own_alloc h2 _⟩, hB1.trans (hb.mono (by omega))⟩ ⟨_, rfl, by omega, heap_alloc_new W _⟩
    case body =>
      rintro l xs x a' W hl _ ⟨⟨V, h1, h2⟩, hB1⟩ ⟨Bn, rfl, hn1, hrn⟩ hN
      have hsz := hB1.size
      have hpl := pre_len t 0 0
      have hlen : (cnS (xs.map It.tag)).length ≤ 100000 := by
        have h3 := cnS_len (xs.map It.tag)
        rw [List.length_map] at h3
        have := HM.out
        omega
      have HF9 : Hid (cnS ((xs ++ [x]).map It.tag) = (cnS (xs.map It.tag)) ++ (if tkOf x.t = 3 then [tmOf x.t] else [])) := by
        have : cnS ((xs ++ [x]).map It.tag) = (cnS (xs.map It.tag)) ++ (if tkOf x.t = 3 then [tmOf x.t] else []) := by
          rw [List.map_append, cnS_append, List.map_cons, List.map_nil, cnS, cnS, List.append_nil]
          rfl
        exact this
      obtain ⟨na, hna⟩ : ∃ q, (cnS (xs.map It.tag)) = q := ⟨_, rfl⟩
      rw [hna] at HF9 h2 hlen
      clear hna
      have HH1 := Lib.hid h1
      have HH2 := Lib.hid h2
      have HBB := Lib.hid hB1
      have c1 := h1.cell
      have f1 := h1.frozen
      have HRN := Lib.hid hrn
      obtain ⟨n0, n1, n2, n3, n4⟩ := five_cells hrn
      clear h1 h2 hB1 hrn
      by_cases hk1 : tkOf x.t = 3
      · have hd1 : (tkOf x.t == 3) = true := by simp; omega
        have HF : Hid (cnS ((xs ++ [x]).map It.tag) = na ++ [tmOf x.t]) := by
          have : cnS ((xs ++ [x]).map It.tag) = na ++ [tmOf x.t] := by rw [HF9.out, if_pos hk1]
          exact this
        obtain ⟨va, vl, vc, rfl⟩ : ∃ a l c, V = .slice a l c := own_slice HH2.out
        have HLN := Lib.hid HH2.out.1
        have hbo1 : na.length + 1 ≤ maxLen := by unfold maxLen; omega
        have hbo2 : (na.length + 1) * 16 ≤ 140737488355328 := by omega
        have hrow := HH2.out
        have hv := HH1.out
        gi_wp2_with (gi_at_builtin; refine wpListIn_append_own _ rfl _ _ 50 rfl w.heap.size 9 i0 (.string ByteArray.empty) 1 16 Tryz.underlying50 hi0 hz0 hz1 hz2 rfl (by decide) _ _ _ rfl (own_alloc hrow _) ⟨W.heap.size, 0, none⟩ 1 1 [.string (tmOf x.t)] rfl rfl (cell_one_new _ _ _) (by simp [Value.oneCell']) hbo1 hbo2 (by simp; omega) ?_; intro v' w1 hown' hgrow _; obtain ⟨g', cap', rfl⟩ := ownsRow_succ hown'; obtain ⟨hv1, hv2, hr2, hk2, hb2⟩ := hv.appended (by decide) hrow (by omega) (by omega) hown' hgrow; have hc1 := hv1.cell; have hf1 := hv1.frozen)
        refine ⟨hk2.from _, kpW_app (Q := w6.heap.size) hrow hgrow hb2 (by omega), ⟨_, hv2, ?_⟩, HBB.out.trans hb2⟩
        rw [HF.out, List.length_append, List.map_append]
        exact hr2
      · have hd1 : (tkOf x.t == 3) = false := by simp; omega
        have HF : Hid (cnS ((xs ++ [x]).map It.tag) = na) := by
          have : cnS ((xs ++ [x]).map It.tag) = na := by rw [HF9.out, if_neg hk1, List.append_nil]
          exact this
        gi_wp2
        refine ⟨(KeepsOthers.refl _).from _, KpW.refl _ _ _, ⟨V, HH1.out, ?_⟩, HBB.out⟩
        rw [HF.out]
        exact HH2.out
    case done =>
      rintro D xs W hD hxs ⟨⟨V, h1, h2⟩, hB1⟩ hK
      rw [hxs] at h2
      have c1 := h1.cell
      obtain ⟨A9, c9, rfl, hl9, hc9, hn9, ht9⟩ := txt_of_own h2
      have hle : (cnS (pre t 0 0)).length ≤ 100000 := by
        have h3 := cnS_len (pre t 0 0)
        have h4 := pre_len t 0 0
        have := HM.out
        omega
      have hDl : D < W.heap.size := (Array.getElem?_eq_some_iff.1 hK).1
      have HT9 := Lib.hid ht9
      have HKD := Lib.hid hK
      have HB1 := Lib.hid hB1
      clear ht9 hK hB1 h1 h2
      gi_wp2_with (refine ⟨trivial, ?_⟩; gi_at_call 55; refine (callsIn_wide.2 (sort_any A9 (cnS (pre t 0 0)).length c9 (cnS (pre t 0 0)) W HT9.out rfl hn9 (by omega))).mono ?_; rintro e w9 ⟨A8, n8, c8, rfl, hn8, hc8, hz8, ht8, hb8'⟩)
      refine ⟨by simp, .inl ⟨_, _, rfl, run_takeDeferred ((hb8'.block D hDl).trans HKD.out), ?_⟩⟩
      have hDs : D < w9.heap.size := by have := hb8'.size; omega
      have hkd := (hb8'.block D hDl).trans HKD.out
      refine ⟨_, results_tmp rfl _ _ _, A8, n8, c8, rfl, by rw [HCS.out]; exact hn8, hc8, hz8, by rw [HCS.out]; exact txt_turn ht8 (grownBy_putObj' _ D _) (fun r e => by cases e; exact ⟨_, hkd, rfl⟩), ?_⟩
      have hb9 := (hb8.out.trans HB1.out).trans (hb8'.mono (by have := HB1.out.size; have := hb8.out.size; omega))
      exact hb9.trans ((Below.refl _ _).grown (grownBy_putObj' _ D _) (by have := hb9.size; omega) (fun k e => by cases e; omega))
    case stop =>
      rintro D c xs W _ _ h _
      exact h.elim
end Trm
end Go.Proofs.YtbkdecgfiiajnaaGreatDoor
