/-
  Plain facts and contracts that the law's proof stands on, joined.
  Conditions: each fact's own.
-/
import Derived.Test.YteomfakbbcpckaaGreatDoorJ12
import Derived.Test.YteomfakbbcpckaaGreatDoorJ08
import Derived.RangeFuncBox
import Derived.OwnWalkIn
import Derived.Test.YteomfakbbcpckaaGreatDoorJ24
import Derived.Test.YteomfakbbcpckaaGreatDoorJ20
import Derived.Test.YteomfakbbcpckaaGreatDoorJ01
import Derived.Test.YteomfakbbcpckaaGreatDoorJ23
namespace Go.Proofs.YteomfakbbcpckaaGreatDoor
open Go.RowKit Go.Shelf
open Lvl
namespace Trm
attribute [local go_sem] Oper.semAt_some
def cnS : List (Tm × Nat × Nat) → List ByteArray
 | [] => []
 | q :: l => (if tkOf q.1 = 3 then [tmOf q.1] else []) ++ cnS l
theorem cnS_append : ∀ (l r : List (Tm × Nat × Nat)), cnS (l ++ r) = cnS l ++ cnS r
 | [], r => rfl
 | q :: l, r => by rw [List.cons_append, cnS, cnS, cnS_append l r, List.append_assoc]
theorem cnS_len : ∀ l : List (Tm × Nat × Nat), (cnS l).length ≤ l.length
 | [] => Nat.le_refl _
 | q :: l => by
  have := cnS_len l
  rw [cnS, List.length_append, List.length_cons]
  split
  ·rw [List.length_singleton]; omega
  ·rw [List.length_nil]; omega
def constsT (RN : ByteArray → Bool) (t : Tm) : List ByteArray := if rightT RN 4 t 1125899906842624 = true then sortedOf (cnS (pre t 0 0)) else []
theorem own_turn {W W' : World} {base e size n : Nat} {V : Value} {cs : List Value} {row : Option Nat} (h : W.ownsRow base e size V n cs) (hg : W.grownBy W' row) (hr : ∀ r, row = some r → ∃ o : Obj, W.heap[r]? = some o ∧ o.isCells = false) : W'.ownsRow base e size V n cs := by
 refine ⟨h.1, ?_⟩
 rcases h.2 with h1 | ⟨g, cap, cur, rfl, hbg, hr1, h4⟩
 ·exact .inl h1
 ·exact .inr ⟨g, cap, cur, rfl, hbg, (grownBy_keeps_cells hg hr hr1 rfl).trans hr1, h4⟩
theorem own_slice {W : World} {base e size n : Nat} {V : Value} {cs : List Value} (h : W.ownsRow base e size V n cs) : ∃ a l c, V = .slice a l c := by
 rcases h.2 with ⟨rfl, _⟩ | ⟨g, cap, cur, rfl, _⟩ <;> exact ⟨_, _, _, rfl⟩
theorem kpW_app {n₀ D Q k : Nat} {W w1 : World} {tmp : Obj} {V V' : Value} {xs : List Value} (hrow : W.ownsRow n₀ 9 1 V k xs) (hg : (W.alloc tmp).grownBy w1 V.ownBlock) (hb : Below n₀ W (w1.setCell ⟨Q, 0, none⟩ V')) (hQ : Q < D) : KpW n₀ D W (w1.setCell ⟨Q, 0, none⟩ V') := ⟨hb, fun b o hD ho hbo => by
 rw [setCell_far _ _ _ _ (by show b ≠ Q; omega)]
 have hlt := (Array.getElem?_eq_some_iff.1 ho).1
 refine (hg.block b (by simp; omega) (fun e => ?_)).trans ((heap_alloc_old W tmp hlt).trans ho)
 rcases hrow.2 with ⟨rfl, _⟩ | ⟨g, cap, cur, rfl, _, hgb, _⟩
 ·simp [Value.ownBlock] at e
 ·obtain rfl : g = b := by simpa [Value.ownBlock] using e.symm
  rw [hgb] at ho
  cases ho
  simp [boxO] at hbo⟩
theorem txt_turn {W W' : World} {A : Option Addr} {xs : List ByteArray} {row : Option Nat} (h : Txt W A xs) (hg : W.grownBy W' row) (hr : ∀ r, row = some r → ∃ o : Obj, W.heap[r]? = some o ∧ o.isCells = false) : Txt W' A xs := fun hne => by
 obtain ⟨b, o, rfl, hlt, hc⟩ := h hne
 refine ⟨b, o, rfl, Nat.lt_of_lt_of_le hlt (grown_size hg), fun j x hx => ?_⟩
 obtain ⟨ob, ho, hoc⟩ := cells_of_cell (hc j x hx)
 exact (cell_heap (grownBy_keeps_cells hg hr ho hoc)).trans (hc j x hx)
set_option maxRecDepth 100000 in
set_option maxHeartbeats 4000000 in
theorem consts_is (RN : ByteArray → Bool) (t : Tm) (v : Value) (w : World) (hv : TmV w t v) (hm : tnodes t ≤ 100000) (hnm : ∀ q, q ∈ pre t 0 0 → (tmOf q.1).size ≤ 140737488355328) (CN : NameC w RN) :
  Calls Tryz.prog 52 #[v] w (SliceRet w (constsT RN t)) := by
 obtain ⟨i0, hi0, hz0, hz1, hz2⟩ := info_parts infoStr
 obtain ⟨l, s, rfl, ht⟩ := hv
 obtain ⟨⟨la, ll, lc, rfl⟩, sa, sl, sc, rfl⟩ := tmP_slices ht
 have HTT := Lib.hid ht
 obtain ⟨k, hk⟩ : ∃ k, tkOf t = k := ⟨_, rfl⟩
 obtain ⟨n, hn⟩ : ∃ n, tnOf t = n := ⟨_, rfl⟩
 obtain ⟨m, hmm⟩ : ∃ m, tmOf t = m := ⟨_, rfl⟩
 dsimp only [tv]
 rw [hk, hn, hmm]
 have HK := Lib.hid hk
 have HNN := Lib.hid hn
 have HMM := Lib.hid hmm
 have HM := Lib.hid hm
 clear hk hn hmm ht hm
 have HCN := Lib.hid CN
 have HNM := Lib.hid hnm
 clear CN hnm
 obtain ⟨r, hr⟩ : ∃ r, rightT RN 4 t 1125899906842624 = r := ⟨_, rfl⟩
 have HRR := Lib.hid hr
 have hir := isRight_is RN t _ (w.alloc (.cells #[.int .i64 k, .int .i64 n, .string m, .slice la ll lc, .slice sa sl sc] 25)) ⟨_, _, rfl, tmP_below (below_lit _ _) HTT.out⟩ HM.out HNM.out (HCN.out.below (below_lit _ _)) r hr
 dsimp only [tv] at hir
 rw [HK.out, HNN.out, HMM.out] at hir
 have HIR := Lib.hid hir
 clear hir hr
 have z1 : (w.alloc (.cells #[.int .i64 k, .int .i64 n, .string m, .slice la ll lc, .slice sa sl sc] 25)).heap.size = w.heap.size + 1 := by simp
 have r0 : (w.alloc (.cells #[.int .i64 k, .int .i64 n, .string m, .slice la ll lc, .slice sa sl sc] 25)).heap[w.heap.size]? = some (Obj.cells #[.int .i64 k, .int .i64 n, .string m, .slice la ll lc, .slice sa sl sc] 25 (0, 0)) := by
  have := heap_alloc_new w (.cells #[.int .i64 k, .int .i64 n, .string m, .slice la ll lc, .slice sa sl sc] 25)
  exact this
 have HB := Lib.hid (below_lit w (.cells #[.int .i64 k, .int .i64 n, .string m, .slice la ll lc, .slice sa sl sc] 25))
 have HR0 := Lib.hid (r0)
 clear r0
 cases r
 ·have HCS : Hid (constsT RN t = []) := by
   have : constsT RN t = [] := by rw [constsT, HRR.out]; rfl
   exact this
  refine (callsIn_wide (n := 13)).1 (callsIn_of_wp_marks Tryz.func52 rfl trivial ?_ rfl)
  simp only [Tryz.ntmps52, List.size_toArray, List.length_cons, List.length_nil, Nat.reduceAdd, Nat.reduceSub, Array.replicate_succ, Array.replicate_zero, List.push_toArray, List.append_toArray, List.nil_append, List.cons_append]
  gi_wp2
  generalize (w.alloc (.cells #[.int .i64 k, .int .i64 n, .string m, .slice la ll lc, .slice sa sl sc] 25)) = W4 at *
  have HZ := Lib.hid z1
  clear z1
  gi_wp2_with (refine ⟨trivial, ?_⟩; gi_at_call 73; refine (callsIn_wide.2 HIR.out).mono ?_; rintro e w6 ⟨rfl, hb6⟩; obtain ⟨a0, a1, a2, a3, a4⟩ := five_cells ((heap_alloc_old w6 (.cells #[.slice none 0 0] 37) (r := w.heap.size) (by have := hb6.size; have := HZ.out; omega)).trans ((hb6.block (w.heap.size) (by rw [HZ.out]; omega)).trans HR0.out)); have HB6 := Lib.hid hb6; clear hb6)
  refine ⟨_, results_tmp rfl _ _ _, none, 0, 0, rfl, by rw [HCS.out]; rfl, Nat.le_refl _, fun _ => rfl, by rw [HCS.out]; exact txt_nil _ _, HB.out.trans (HB6.out.mono HB.out.size)⟩
 ·have HCS : Hid (constsT RN t = sortedOf (cnS (pre t 0 0))) := by
   have : constsT RN t = sortedOf (cnS (pre t 0 0)) := by rw [constsT, HRR.out]; rfl
   exact this
  refine (callsIn_wide (n := 13)).1 (callsIn_of_wp_marks Tryz.func52 rfl trivial ?_ rfl)
  simp only [Tryz.ntmps52, List.size_toArray, List.length_cons, List.length_nil, Nat.reduceAdd, Nat.reduceSub, Array.replicate_succ, Array.replicate_zero, List.push_toArray, List.append_toArray, List.nil_append, List.cons_append]
  gi_wp2
  generalize (w.alloc (.cells #[.int .i64 k, .int .i64 n, .string m, .slice la ll lc, .slice sa sl sc] 25)) = W4 at *
  have HZ := Lib.hid z1
  clear z1
  gi_wp2_with (first | (refine ⟨trivial, ?_⟩; gi_at_call 73; refine (callsIn_wide.2 HIR.out).mono ?_; rintro e w6 ⟨rfl, hb6⟩; obtain ⟨a0, a1, a2, a3, a4⟩ := five_cells ((heap_alloc_old w6 (.cells #[.slice none 0 0] 37) (r := w.heap.size) (by have := hb6.size; have := HZ.out; omega)).trans ((hb6.block (w.heap.size) (by rw [HZ.out]; omega)).trans HR0.out)); have HB6 := Lib.hid hb6; clear hb6) | (refine ⟨trivial, ?_⟩; gi_at_call 74; refine (callsIn_wide.2 (nodes_in k n m la ll lc sa sl sc _)).mono ?_; rintro e w' ⟨rfl, rfl⟩))
  have hs6 : w.heap.size + 1 ≤ w6.heap.size := by rw [← HZ.out]; exact HB6.out.size
  have hgB := HB.out.trans (HB6.out.mono HB.out.size)
  have y1 := heap_alloc_new w6 (.cells #[.slice none 0 0] 37)
  have ys : (w6.alloc (.cells #[.slice none 0 0] 37)).heap.size = w6.heap.size + 1 := by simp
  have yb := hgB.trans ((below_lit w6 (.cells #[.slice none 0 0] 37)).mono hgB.size)
  generalize w6.alloc (.cells #[.slice none 0 0] 37) = W7 at *
  have b1 := (heap_alloc_old W7 (.cells #[.int .i64 k, .int .i64 n, .string m, .slice la ll lc, .slice sa sl sc] 25) (r := w6.heap.size) (by rw [ys]; omega)).trans y1
  have r4 := heap_alloc_new W7 (.cells #[.int .i64 k, .int .i64 n, .string m, .slice la ll lc, .slice sa sl sc] 25)
  have hs8 : (W7.alloc (.cells #[.int .i64 k, .int .i64 n, .string m, .slice la ll lc, .slice sa sl sc] 25)).heap.size = w6.heap.size + 1 + 1 := by simp [ys]
  have hb8 := Lib.hid (yb.trans ((below_lit W7 (.cells #[.int .i64 k, .int .i64 n, .string m, .slice la ll lc, .slice sa sl sc] 25)).mono yb.size))
  rw [ys] at r4
  clear y1 yb a0 a1 a2 a3 a4
  try rw [ys]
  generalize W7.alloc (.cells #[.int .i64 k, .int .i64 n, .string m, .slice la ll lc, .slice sa sl sc] 25) = W8 at *
  have hGG : ∀ q, q ∈ pre t 0 0 → (fun q : Tm × Nat × Nat => tnodes q.1 ≤ 100000) q := fun q hq => by
   have h1 := pre_deep t 0 0 q hq
   have h2 := HM.out
   show tnodes q.1 ≤ 100000
   omega
  refine wpIn_rangeFunc_ownH rfl (by decide) (gf := 101) (lb := #[.pointer (some ⟨w6.heap.size + 1, 0, none⟩)]) rfl trivial (enters_of Tryz.func101 (by kernel_rfl) rfl) (encs := fun x : It w (fun q : Tm × Nat × Nat => tnodes q.1 ≤ 100000) => #[.agg #[.int .i64 (tkOf x.t), .int .i64 (tnOf x.t), .string (tmOf x.t), .slice x.la x.ll x.lc, .slice x.sa x.sl x.sc], .agg #[.int .i64 x.d, .int .i64 x.b]])
   (nodes_stops w (fun q : Tm × Nat × Nat => tnodes q.1 ≤ 100000) W8.heap.size (w6.heap.size + 1) t la ll lc sa sl sc W8 (by rw [HK.out, HNN.out, HMM.out]; exact r4) HTT.out (by omega) (Nat.le_refl _) hb8.out (by have := HM.out; omega) hGG) (fun h k => h.trans k) (KpW.put (by omega) rfl) (Below.refl _ _) (fun _ => rfl)
   (fun xs W => (∃ V, Boxed W (w6.heap.size) 37 V ∧ W.ownsRow w.heap.size 9 1 V (cnS (xs.map It.tag)).length ((cnS (xs.map It.tag)).map Value.string)) ∧ Below w.heap.size W8 W)
   (fun _ _ _ => False)
   (fun xs W W' row hs hg hr => by
    obtain ⟨⟨V, h1, h2⟩, h3⟩ := hs
    have hr' : ∀ r, row = some r → ∃ o : Obj, W.heap[r]? = some o ∧ o.isCells = false := fun r e => (hr r e).2
    exact ⟨⟨V, (grownBy_keeps_cells hg hr' h1 rfl).trans h1, own_turn h2 hg hr'⟩, h3.grown hg (by have := h3.size; omega) (fun r e => by have := (hr r e).1; omega)⟩)
   (fun _ _ _ _ _ hs _ _ => hs)
   ⟨⟨_, b1, World.ownsRow_nil _ _ _ _⟩, Below.refl _ _⟩
   (fun x a' W => (∃ Bn, a' = { tmps := #[.agg #[.int .i64 k, .int .i64 n, .string m, .slice la ll lc, .slice sa sl sc], .pointer (some ⟨w.heap.size, 0, none⟩), .slice none 0 0, .pointer (some ⟨w6.heap.size, 0, none⟩), .pointer (some ⟨Bn, 0, none⟩), .agg #[.int .i64 k, .int .i64 n, .string m, .slice la ll lc, .slice sa sl sc], .bool true, .bool false, .agg #[.int .i64 k, .int .i64 n, .string m, .slice la ll lc, .slice sa sl sc], .func (.func 101) #[] #[.pointer (some ⟨w6.heap.size + 1, 0, none⟩)], .agg #[.int .i64 (tkOf x.t), .int .i64 (tnOf x.t), .string (tmOf x.t), .slice x.la x.ll x.lc, .slice x.sa x.sl x.sc], .agg #[.int .i64 x.d, .int .i64 x.b], undef, undef, undef, undef, undef, undef, undef, undef, undef, undef], defers := [] } ∧ (w6.heap.size < Bn) ∧ W.heap[Bn]? = some (.cells #[.int .i64 (tkOf x.t), .int .i64 (tnOf x.t), .string (tmOf x.t), .slice x.la x.ll x.lc, .slice x.sa x.sl x.sc] 25 (0, 0))))
   (fun x a' _ X Y row hs hg hr => by
    obtain ⟨Bn, h1, h2, h3⟩ := hs
    exact ⟨Bn, h1, h2, (grownBy_keeps_cells hg (fun r e => (hr r e).2) h3 rfl).trans h3⟩)
   ?assign ?body ?done ?stop
  case assign =>
   rintro l xs x W K9 ⟨⟨V, h1, h2⟩, hB1⟩ hK
   have hsz := hB1.size
   gi_wp2
   have hb := below_lit W (.cells #[.int .i64 (tkOf x.t), .int .i64 (tnOf x.t), .string (tmOf x.t), .slice x.la x.ll x.lc, .slice x.sa x.sl x.sc] 25)
   refine hK _ _ ((KeepsOthers.alloc _ _).from _) (KpW.of_below (by omega) hb) ⟨⟨V, (heap_alloc_old W (.cells #[.int .i64 (tkOf x.t), .int .i64 (tnOf x.t), .string (tmOf x.t), .slice x.la x.ll x.lc, .slice x.sa x.sl x.sc] 25) (r := w6.heap.size) (by omega)).trans h1, own_alloc h2 _⟩, hB1.trans (hb.mono (by omega))⟩ ⟨_, rfl, by omega, heap_alloc_new W _⟩
  case body =>
   rintro l xs x a' W hl _ ⟨⟨V, h1, h2⟩, hB1⟩ ⟨Bn, rfl, hn1, hrn⟩ hN
   have hsz := hB1.size
   have hpl := pre_len t 0 0
   have hlen : (cnS (xs.map It.tag)).length ≤ 100000 := by
    have h3 := cnS_len (xs.map It.tag)
    rw [List.length_map] at h3
    have := HM.out
    omega
   have HF9 : Hid (cnS ((xs ++ [x]).map It.tag) = (cnS (xs.map It.tag)) ++ (if tkOf x.t = 3 then [tmOf x.t] else [])) := by
    have : cnS ((xs ++ [x]).map It.tag) = (cnS (xs.map It.tag)) ++ (if tkOf x.t = 3 then [tmOf x.t] else []) := by
     rw [List.map_append, cnS_append, List.map_cons, List.map_nil, cnS, cnS, List.append_nil]
     rfl
    exact this
   obtain ⟨na, hna⟩ : ∃ q, (cnS (xs.map It.tag)) = q := ⟨_, rfl⟩
   rw [hna] at HF9 h2 hlen
   clear hna
   have HH1 := Lib.hid h1
   have HH2 := Lib.hid h2
   have HBB := Lib.hid hB1
   have c1 := h1.cell
   have f1 := h1.frozen
   have HRN := Lib.hid hrn
   obtain ⟨n0, n1, n2, n3, n4⟩ := five_cells hrn
   clear h1 h2 hB1 hrn
   by_cases hk1 : tkOf x.t = 3
   ·have hd1 : (tkOf x.t == 3) = true := by simp; omega
    have HF : Hid (cnS ((xs ++ [x]).map It.tag) = na ++ [tmOf x.t]) := by
     have : cnS ((xs ++ [x]).map It.tag) = na ++ [tmOf x.t] := by rw [HF9.out, if_pos hk1]
     exact this
    obtain ⟨va, vl, vc, rfl⟩ : ∃ a l c, V = .slice a l c := own_slice HH2.out
    have HLN := Lib.hid HH2.out.1
    have hbo1 : na.length + 1 ≤ maxLen := by unfold maxLen; omega
    have hbo2 : (na.length + 1) * 16 ≤ 140737488355328 := by omega
    have hrow := HH2.out
    have hv := HH1.out
    gi_wp2_with (gi_at_builtin; refine wpListIn_append_own _ rfl _ _ 37 rfl w.heap.size 9 i0 (.string ByteArray.empty) 1 16 Tryz.underlying37 hi0 hz0 hz1 hz2 rfl (by decide) _ _ _ rfl (own_alloc hrow _) ⟨W.heap.size, 0, none⟩ 1 1 [.string (tmOf x.t)] rfl rfl (cell_one_new _ _ _) (by simp [Value.oneCell']) hbo1 hbo2 (by simp; omega) ?_; intro v' w1 hown' hgrow _; obtain ⟨g', cap', rfl⟩ := ownsRow_succ hown'; obtain ⟨hv1, hv2, hr2, hk2, hb2⟩ := hv.appended (by decide) hrow (by omega) (by omega) hown' hgrow; have hc1 := hv1.cell; have hf1 := hv1.frozen)
    refine ⟨hk2.from _, kpW_app (Q := w6.heap.size) hrow hgrow hb2 (by omega), ⟨_, hv2, ?_⟩, HBB.out.trans hb2⟩
    rw [HF.out, List.length_append, List.map_append]
    exact hr2
   ·have hd1 : (tkOf x.t == 3) = false := by simp; omega
    have HF : Hid (cnS ((xs ++ [x]).map It.tag) = na) := by
     have : cnS ((xs ++ [x]).map It.tag) = na := by rw [HF9.out, if_neg hk1, List.append_nil]
     exact this
    gi_wp2
    refine ⟨(KeepsOthers.refl _).from _, KpW.refl _ _ _, ⟨V, HH1.out, ?_⟩, HBB.out⟩
    rw [HF.out]
    exact HH2.out
  case done =>
   rintro D xs W hD hxs ⟨⟨V, h1, h2⟩, hB1⟩ hK
   rw [hxs] at h2
   have c1 := h1.cell
   obtain ⟨A9, c9, rfl, hl9, hc9, hn9, ht9⟩ := txt_of_own h2
   have hle : (cnS (pre t 0 0)).length ≤ 100000 := by
    have h3 := cnS_len (pre t 0 0)
    have h4 := pre_len t 0 0
    have := HM.out
    omega
   have hDl : D < W.heap.size := (Array.getElem?_eq_some_iff.1 hK).1
   have HT9 := Lib.hid ht9
   have HKD := Lib.hid hK
   have HB1 := Lib.hid hB1
   clear ht9 hK hB1 h1 h2
   gi_wp2_with (refine ⟨trivial, ?_⟩; gi_at_call 75; refine (callsIn_wide.2 (sort_any A9 (cnS (pre t 0 0)).length c9 (cnS (pre t 0 0)) W HT9.out rfl hn9 (by omega))).mono ?_; rintro e w9 ⟨A8, n8, c8, rfl, hn8, hc8, hz8, ht8, hb8'⟩)
   refine ⟨by simp, .inl ⟨_, _, rfl, run_takeDeferred ((hb8'.block D hDl).trans HKD.out), ?_⟩⟩
   have hDs : D < w9.heap.size := by have := hb8'.size; omega
   have hkd := (hb8'.block D hDl).trans HKD.out
   refine ⟨_, results_tmp rfl _ _ _, A8, n8, c8, rfl, by rw [HCS.out]; exact hn8, hc8, hz8, by rw [HCS.out]; exact txt_turn ht8 (grownBy_putObj' _ D _) (fun r e => by cases e; exact ⟨_, hkd, rfl⟩), ?_⟩
   have hb9 := (hb8.out.trans HB1.out).trans (hb8'.mono (by have := HB1.out.size; have := hb8.out.size; omega))
   exact hb9.trans ((Below.refl _ _).grown (grownBy_putObj' _ D _) (by have := hb9.size; omega) (fun k e => by cases e; omega))
  case stop =>
   rintro D c xs W _ _ h _
   exact h.elim
end Trm
end Go.Proofs.YteomfakbbcpckaaGreatDoor
namespace Go.Proofs.YteomfakbbcpckaaGreatDoor
open Go.RowKit
open Lvl
open Trm
namespace Bnd
theorem constsT_len (RN : ByteArray → Bool) (t : Tm) : (constsT RN t).length ≤ tnodes t := by
 unfold constsT
 split
 ·have h1 := sortedOf_len (cnS (pre t 0 0))
  have h2 := cnS_len (pre t 0 0)
  have h3 := pre_len t 0 0
  omega
 ·simp
theorem fstI_at {m : ByteArray} : ∀ {xs : List ByteArray} {j : Nat} (h : j < xs.length), (∀ i (hi : i < xs.length), i < j → xs[i] ≠ m) → xs[j] = m → fstI m xs = j
 | a :: l, 0, _, _, he => by
  have h0 : a = m := he
  rw [fstI, if_pos h0]
 | a :: l, j + 1, h, hn, he => by
  have h0 : ¬ a = m := hn 0 (by simp) (by omega)
  rw [fstI, if_neg h0, fstI_at (j := j) (by simpa using h) (fun i hi hij => hn (i + 1) (by simpa using hi) (by omega)) he]
theorem fstI_none {m : ByteArray} : ∀ {xs : List ByteArray}, (∀ i (hi : i < xs.length), xs[i] ≠ m) → fstI m xs = xs.length
 | [], _ => by rw [fstI]; rfl
 | a :: l, hn => by
  have h0 : ¬ a = m := hn 0 (by simp)
  rw [fstI, if_neg h0, fstI_none (fun i hi => hn (i + 1) (by simpa using hi)), List.length_cons]
theorem fstI_mem (m : ByteArray) : ∀ xs : List ByteArray, fstI m xs < xs.length ↔ m ∈ xs
 | [] => by simp [fstI]
 | a :: l => by
  rw [fstI, List.length_cons, List.mem_cons]
  have := fstI_mem m l
  split
  ·rename_i h
   exact ⟨fun _ => .inl h.symm, fun _ => by omega⟩
  ·rename_i h
   rw [Nat.succ_lt_succ_iff, this]
   exact ⟨.inr, fun h1 => h1.resolve_left fun e => h e.symm⟩
set_option maxRecDepth 100000 in
set_option maxHeartbeats 2500000 in
theorem sIndex_is (xs : List ByteArray) (m : ByteArray) (A : Option Addr) (len cap : Nat) (w : World) (hx : Txt w A xs) (hlen : xs.length = len) (hl47 : len ≤ 140737488355328) (r : Int) (hr : (if fstI m xs < len then (fstI m xs : Int) else -1) = r) :
  Calls Tryz.prog 72 #[.slice A len cap, .string m] w (Ret w (.int .i64 r)) := by
 have HX := Lib.hid hx
 have HN := Lib.hid hlen
 have HR := Lib.hid hr
 clear hx hlen hr
 go_enter Tryz.func72, Tryz.ntmps72
 go_wp2_with fail
 go_loopw [5, 8] (fun _ i wr => ∃ j : Nat, j ≤ len ∧ i = .int .i64 j ∧ Hid (∀ i (hi : i < xs.length), i < j → xs[i] ≠ m) ∧ Hid (Below w.heap.size w wr)) (fun _ i _ => len - (intOf i).toNat)
 case atStart => exact ⟨0, Nat.zero_le _, rfl, (by have : ∀ i (hi : i < xs.length), i < 0 → xs[i] ≠ m := (fun i _ h => absurd h (Nat.not_lt_zero _)); exact this), Below.refl _ _⟩
 case round =>
  obtain ⟨j, hj, rfl, hal, hgr⟩ := hrel
  by_cases hlt : j < len
  ·have hx1 : j < xs.length := by rw [HN.out]; exact hlt
   have hln : decide ((j : Int) < (len : Int)) = true := by simp; omega
   obtain ⟨bq, o, rfl, hbs, hcc⟩ := HX.out (fun e => by rw [e] at hx1; cases hx1)
   have e0 := (hgr.out.cell (p := ⟨bq, _, none⟩) hbs).trans (hcc j _ (List.getElem?_eq_getElem hx1))
   have q1 : (0 : Int) ≤ (j : Int) := by omega
   have q2 : (j : Int) < (len : Int) := by omega
   obtain ⟨x, hx⟩ : ∃ x, xs[j] = x := ⟨_, rfl⟩
   rw [hx] at e0
   have HXX := Lib.hid hx
   have HX1 := Lib.hid hx1
   clear hcc hx
   by_cases he : m = x
   ·have hee : (m.toList == x.toList) = true := by rw [bytes_eqb, decide_eq_true he]
    have hrr : (j : Int) = r := by
     rw [← HR.out, fstI_at hx1 hal.out (HXX.out.trans he.symm), if_pos hlt]
    have HRR := Lib.hid hrr
    clear he hrr
    go_wp2_with fail
    go_ret
    exact ⟨by rw [← HRR.out]; rfl, hgr.out⟩
   ·have hee : (m.toList == x.toList) = false := by rw [bytes_eqb, decide_eq_false he]
    have HAL : Hid (∀ i (hi : i < xs.length), i < j + 1 → xs[i] ≠ m) := by
     have : ∀ i (hi : i < xs.length), i < j + 1 → xs[i] ≠ m := fun i hi h => by
      by_cases hij : i < j
      ·exact hal.out i hi hij
      ·obtain rfl : i = j := by omega
       rw [HXX.out]
       exact fun e => he e.symm
     exact this
    clear he
    go_wp2_with fail
    go_roundw
    case rel => exact ⟨j + 1, by omega, by go_num, HAL.out, hgr.out⟩
    case measure => simp [intOf]; omega
  ·obtain rfl : len = j := by omega
   have hln : decide ((len : Int) < (len : Int)) = false := by simp
   have hrr : -1 = r := by
    rw [← HR.out, fstI_none (fun i hi => hal.out i hi (by have := HN.out; omega)), HN.out, if_neg (Nat.lt_irrefl _)]
   have HRR := Lib.hid hrr
   clear hrr
   go_wp2_with fail
   go_ret
   exact ⟨by rw [← HRR.out]; rfl, hgr.out⟩
set_option maxRecDepth 100000 in
set_option maxHeartbeats 2500000 in
theorem sContains_is (xs : List ByteArray) (m : ByteArray) (A : Option Addr) (len cap : Nat) (w : World) (hx : Txt w A xs) (hlen : xs.length = len) (hl47 : len ≤ 140737488355328) (b : Bool) (hb : decide (fstI m xs < len) = b) :
  Calls Tryz.prog 51 #[.slice A len cap, .string m] w (Ret w (.bool b)) := by
 obtain ⟨r, hr⟩ : ∃ r : Int, (if fstI m xs < len then (fstI m xs : Int) else -1) = r := ⟨_, rfl⟩
 have HC := Lib.hid (sIndex_is xs m A len cap w hx hlen hl47 r hr)
 have hrb : decide (0 ≤ r) = b := by
  rw [← hb, ← hr]
  by_cases h : fstI m xs < len
  ·rw [if_pos h, decide_eq_true h]
   exact decide_eq_true (by omega)
  ·rw [if_neg h, decide_eq_false h]
   rfl
 have HRB := Lib.hid hrb
 clear hx hlen hb hr hrb
 go_enter Tryz.func51, Tryz.ntmps51
 go_wp2_with fail
 refine HC.out.mono ?_
 rintro e w2 ⟨rfl, hb2⟩
 have HB2 := Lib.hid hb2
 clear hb2 HC
 have hrb := HRB.out
 cases b with
 | true =>
  go_wp2_with fail
  go_ret
  exact ⟨rfl, HB2.out⟩
 | false =>
  go_wp2_with fail
  go_ret
  exact ⟨rfl, HB2.out⟩
set_option maxRecDepth 100000 in
set_option maxHeartbeats 2500000 in
theorem occurs_is (RN : ByteArray → Bool) (t : Tm) (l s : Value) (nm : ByteArray) (w : World) (ht : TmP w (fun _ => True) t l s) (hm : tnodes t ≤ 100000) (hnm : nmOk t) (CN : NameC w RN) (b : Bool) (hb : decide (fstI nm (constsT RN t) < (constsT RN t).length) = b) :
  Calls Tryz.prog 20 #[tv t l s, .string nm] w (Ret w (.bool b)) := by
 have HNK := Lib.hid hnm
 have HCN := Lib.hid CN
 have HBB := Lib.hid hb
 have HM := Lib.hid hm
 clear hnm CN hb hm
 obtain ⟨⟨la, ll, lc, rfl⟩, sa, sl, sc, rfl⟩ := tmP_slices ht
 have HTT := Lib.hid ht
 obtain ⟨k, hk⟩ : ∃ k, tkOf t = k := ⟨_, rfl⟩
 obtain ⟨n, hn⟩ : ∃ n, tnOf t = n := ⟨_, rfl⟩
 obtain ⟨m, hmm⟩ : ∃ m, tmOf t = m := ⟨_, rfl⟩
 dsimp only [tv]
 rw [hk, hn, hmm]
 have HK := Lib.hid hk
 have HNN := Lib.hid hn
 have HMM := Lib.hid hmm
 clear hk hn hmm ht
 go_enter Tryz.func20, Tryz.ntmps20
 go_wp2_with fail
 have z1 : (w.alloc (.cells #[.int .i64 k, .int .i64 n, .string m, .slice la ll lc, .slice sa sl sc] 25)).heap.size = w.heap.size + 1 := by simp
 have r0 : (w.alloc (.cells #[.int .i64 k, .int .i64 n, .string m, .slice la ll lc, .slice sa sl sc] 25)).heap[w.heap.size]? = some (Obj.cells #[.int .i64 k, .int .i64 n, .string m, .slice la ll lc, .slice sa sl sc] 25 (0, 0)) := by
  have := heap_alloc_new w (.cells #[.int .i64 k, .int .i64 n, .string m, .slice la ll lc, .slice sa sl sc] 25)
  exact this
 have HB := Lib.hid (below_lit w (.cells #[.int .i64 k, .int .i64 n, .string m, .slice la ll lc, .slice sa sl sc] 25))
 have HR0 := Lib.hid (r0)
 clear r0
 generalize (w.alloc (.cells #[.int .i64 k, .int .i64 n, .string m, .slice la ll lc, .slice sa sl sc] 25)) = W at *
 have HZ := Lib.hid z1
 clear z1
 have hcall := consts_is RN t (.agg #[.int .i64 k, .int .i64 n, .string m, .slice la ll lc, .slice sa sl sc]) W ⟨_, _, by rw [← HK.out, ← HNN.out, ← HMM.out], tmP_below HB.out (tmP_weak (fun _ _ => trivial) HTT.out)⟩ HM.out (nm_pre t 0 0 HNK.out) (HCN.out.below HB.out)
 refine hcall.mono ?_
 clear hcall
 rintro e w2 ⟨A, n2, c2, rfl, h1, h2, h3, h4, h5⟩
 obtain ⟨xs, hxs⟩ : ∃ xs, constsT RN t = xs := ⟨_, rfl⟩
 rw [hxs] at h1 h4 HBB
 have HT := Lib.hid h4
 have HN1 := Lib.hid h1
 have HB2 := Lib.hid (HB.out.trans (h5.mono HB.out.size))
 have HLL : Hid (n2 ≤ 140737488355328) := by
  have : n2 ≤ 140737488355328 := by
   rw [← h1, ← hxs]
   have := constsT_len RN t
   have := HM.out
   omega
  exact this
 clear h1 h2 h3 h4 h5 hxs
 go_wp2_with fail
 refine (sContains_is xs nm A n2 c2 w2 HT.out HN1.out HLL.out b (by rw [← HN1.out]; exact HBB.out)).mono ?_
 rintro e w3 ⟨rfl, hb3⟩
 have HB3 := Lib.hid (HB2.out.trans (hb3.mono HB2.out.size))
 clear hb3
 go_wp2_with fail
 go_ret
 exact ⟨rfl, HB3.out⟩
end Bnd
end Go.Proofs.YteomfakbbcpckaaGreatDoor
namespace Go.Proofs.YteomfakbbcpckaaGreatDoor
open Lvl
open Trm
namespace Bnd
theorem niff {p q : Prop} (h : ¬ p ↔ ¬ q) : p ↔ q := ⟨fun x => Classical.byContradiction fun n => h.2 n x, fun x => Classical.byContradiction fun n => h.1 n x⟩
mutual
theorem allT_mono2 {R P Q : Tm → Nat → Prop} (h : ∀ l e, R l e → P l e → Q l e) : ∀ (t : Tm) (d : Nat), allT R t d → allT P t d → allT Q t d
 | .mk k n m ls ts, d, hr, ht => by
  rw [allT] at hr ht ⊢
  exact ⟨fun e => h _ _ (hr.1 e) (ht.1 e), allL_mono2 h k ts.length ts 0 d hr.2 ht.2⟩
theorem allL_mono2 {R P Q : Tm → Nat → Prop} (h : ∀ l e, R l e → P l e → Q l e) (k : Int) (len : Nat) : ∀ (ts : List Tm) (i d : Nat), allL R k len ts i d → allL P k len ts i d → allL Q k len ts i d
 | [], _, _, _, _ => by rw [allL]; trivial
 | a :: ts, i, d, hr, ht => by
  rw [allL] at hr ht ⊢
  exact ⟨allT_mono2 h a _ hr.1 ht.1, allL_mono2 h k len ts (i + 1) d hr.2 ht.2⟩
end
mutual
def hasC (nm : ByteArray) : Tm → Prop
 | .mk k _ m _ ts => (k = 3 ∧ m = nm) ∨ hasCL nm ts
def hasCL (nm : ByteArray) : List Tm → Prop
 | [] => False
 | a :: ts => hasC nm a ∨ hasCL nm ts
end
mutual
theorem hasC_pre (nm : ByteArray) : ∀ (t : Tm) (d b : Nat), nm ∈ cnS (pre t d b) ↔ hasC nm t
 | .mk k n m ls ts, d, b => by
  rw [pre, cnS, hasC, List.mem_append, hasCL_pre nm k ts.length ts 0 (d + 1) b]
  refine or_congr ?_ Iff.rfl
  rw [show tkOf (.mk k n m ls ts) = k from rfl, show tmOf (.mk k n m ls ts) = m from rfl]
  by_cases h : k = 3
  ·rw [if_pos h, List.mem_singleton]
   exact ⟨fun q => ⟨h, q.symm⟩, fun q => q.2.symm⟩
  ·rw [if_neg h]
   exact ⟨(fun q => by cases q), (fun q => absurd q.1 h)⟩
theorem hasCL_pre (nm : ByteArray) (k : Int) (len : Nat) : ∀ (ts : List Tm) (i d b : Nat), nm ∈ cnS (preL k len ts i d b) ↔ hasCL nm ts
 | [], _, _, _ => by
  rw [preL, cnS, hasCL]
  exact ⟨(fun q => by cases q), False.elim⟩
 | a :: ts, i, d, b => by
  rw [preL, cnS_append, hasCL, List.mem_append, hasC_pre nm a, hasCL_pre nm k len ts (i + 1) d b]
end
section
variable {RN : ByteArray → Bool} {RL : Lv → Bool}
theorem inner_k3 {k n : Int} {m : ByteArray} {ls : List Lv} {ts : List Tm} {K : Int} (h : okT RN RL (.mk k n m ls ts) K = true) (h0 : ts.length ≠ 0) : k ≠ 3 := by
 rintro rfl
 rw [okT, Bool.and_eq_true] at h
 have h1 := h.1
 unfold Trm.shape at h1
 rw [Bool.and_eq_true, if_neg (by decide), Bool.and_eq_true, if_neg (by decide), if_pos rfl] at h1
 simp only [Bool.and_eq_true, decide_eq_true_eq] at h1
 exact h0 h1.2.2.2
mutual
theorem no_sub (F : Tm → Nat → Tm) (nm : ByteArray) : ∀ (t : Tm) (K : Int) (d : Nat), okT RN RL t K = true → (¬ hasC nm (subT F t d) ↔ allT (fun l e => ¬ hasC nm (F l e)) t d)
 | .mk k n m ls ts, K, d, h => by
  rw [subT, allT]
  by_cases h0 : ts.length = 0
  ·obtain rfl : ts = [] := List.length_eq_zero_iff.1 h0
   rw [if_pos List.length_nil, allL]
   exact ⟨fun q => ⟨fun _ => q, trivial⟩, fun q => q.1 List.length_nil⟩
  ·have h3 := inner_k3 h h0
   rw [okT, Bool.and_eq_true] at h
   rw [if_neg h0, hasC, not_or, noL_sub F nm k ts.length ts 0 K d h.2]
   exact ⟨fun q => ⟨fun e => absurd e h0, q.2⟩, fun q => ⟨fun e => h3 e.1, q.2⟩⟩
theorem noL_sub (F : Tm → Nat → Tm) (nm : ByteArray) (kd : Int) (len : Nat) : ∀ (ts : List Tm) (i : Nat) (K : Int) (d : Nat), okTL RN RL kd ts i K = true → (¬ hasCL nm (subL F kd len ts i d) ↔ allL (fun l e => ¬ hasC nm (F l e)) kd len ts i d)
 | [], _, _, _, _ => by
  rw [subL, allL, hasCL]
  exact ⟨fun _ => trivial, fun _ q => q⟩
 | a :: ts, i, K, d, h => by
  rw [okTL, Bool.and_eq_true] at h
  rw [subL, allL, hasCL, not_or, no_sub F nm a _ _ h.1, noL_sub F nm kd len ts (i + 1) K d h.2]
end
theorem no_self (nm : ByteArray) {t : Tm} {K : Int} (d : Nat) (h : okT RN RL t K = true) : ¬ hasC nm t ↔ allT (fun l _ => ¬ hasC nm l) t d := by
 have := no_sub (fun l _ => l) nm t K d h
 rw [subT_id t K d h (allT_mono (fun l e _ => rfl) t d (lf_leaves d h))] at this
 exact this
theorem hasC_leaf (nm : ByteArray) (k n : Int) (m : ByteArray) (ls : List Lv) : hasC nm (.mk k n m ls []) ↔ k = 3 ∧ m = nm := by
 rw [hasC, hasCL, or_false]
theorem hasC_var (nm : ByteArray) (n : Int) : ¬ hasC nm (tvr n) := by
 rw [hasC_leaf]
 exact fun q => absurd q.1 (by decide)
theorem hasC_ra (nm : ByteArray) (b c : Int) {t : Tm} {K : Int} (d : Nat) (h : okT RN RL t K = true) : hasC nm (subT (raF b c) t d) ↔ hasC nm t := by
 refine niff ?_
 rw [no_sub (raF b c) nm t K d h, no_self nm d h]
 have key : ∀ l e, lfOk RN RL l → (¬ hasC nm (raF b c l e) ↔ ¬ hasC nm l) := fun l e q => by
  rcases lf_cases q with ⟨n, h0, rfl⟩ | ⟨k, n, m, ls, hk, rfl⟩
  ·rw [raF_var]
   split
   ·exact ⟨fun _ => hasC_var nm _, fun _ => hasC_var nm _⟩
   ·exact Iff.rfl
  ·rw [raF_oth hk]
 exact ⟨allT_mono2 (fun l e q => (key l e q).1) t d (lf_leaves d h), allT_mono2 (fun l e q => (key l e q).2) t d (lf_leaves d h)⟩
theorem hasC_repl (nm : ByteArray) (u : Tm) {Ku : Int} (hu : okT RN RL u Ku = true) {t : Tm} {K : Int} (h : okT RN RL t K = true) : hasC nm (subT (replF nm u) t 0) ↔ hasC nm t ∧ hasC nm u := by
 refine niff ?_
 rw [no_sub (replF nm u) nm t K 0 h]
 have key : ∀ l e, lfOk RN RL l → (hasC nm (replF nm u l e) ↔ hasC nm l ∧ hasC nm u) := fun l e q => by
  obtain ⟨_, _, k, n, m, ls, rfl⟩ := q
  rw [replF, hasC_leaf]
  by_cases hc : k = 3 ∧ m = nm
  ·rw [if_pos hc, hasC_ra nm _ _ 0 hu]
   exact ⟨fun q => ⟨hc, q⟩, fun q => q.2⟩
  ·rw [if_neg hc, hasC_leaf]
   exact ⟨fun q => absurd q hc, fun q => q.1⟩
 by_cases hn : hasC nm u
 ·rw [show (¬ (hasC nm t ∧ hasC nm u) ↔ ¬ hasC nm t) from ⟨fun q x => q ⟨x, hn⟩, fun q x => q x.1⟩, no_self nm 0 h]
  exact ⟨allT_mono2 (fun l e q p x => p ((key l e q).2 ⟨x, hn⟩)) t 0 (lf_leaves 0 h), allT_mono2 (fun l e q p x => p ((key l e q).1 x).1) t 0 (lf_leaves 0 h)⟩
 ·exact ⟨fun _ x => hn x.2, fun _ => allT_mono (fun l e q x => hn ((key l e q).1 x).2) t 0 (lf_leaves 0 h)⟩
theorem repl_none (nm : ByteArray) (u : Tm) {t : Tm} {K : Int} (h : okT RN RL t K = true) (hn : ¬ hasC nm t) : subT (replF nm u) t 0 = t :=
 subT_id t K 0 h (allT_mono2 (fun l e q p => by
  obtain ⟨_, _, k, n, m, ls, rfl⟩ := q
  rw [hasC_leaf] at p
  rw [replF, if_neg p]) t 0 (lf_leaves 0 h) ((no_self nm 0 h).1 hn))
mutual
def levC (nm : ByteArray) : Tm → Bool
 | .mk k _ m ls ts => (decide (k = 3) && decide (m = nm) && decide (0 < ls.length)) || levCL nm ts
def levCL (nm : ByteArray) : List Tm → Bool
 | [] => false
 | a :: ts => levC nm a || levCL nm ts
end
abbrev bare (nm : ByteArray) (l : Tm) : Prop := match l with | .mk k _ m ls _ => k = 3 → m = nm → ls = []
mutual
theorem lev_leaves (nm : ByteArray) : ∀ (t : Tm) (d : Nat), levC nm t = false → allT (fun l _ => bare nm l) t d
 | .mk k n m ls ts, d, h => by
  rw [levC, Bool.or_eq_false_iff] at h
  rw [allT]
  refine ⟨fun _ k3 hm => ?_, levL_leaves nm k ts.length ts 0 d h.2⟩
  have h1 := h.1
  rw [decide_eq_true k3, decide_eq_true hm, Bool.true_and, Bool.true_and] at h1
  have := of_decide_eq_false h1
  exact List.length_eq_zero_iff.1 (by omega)
theorem levL_leaves (nm : ByteArray) (k : Int) (len : Nat) : ∀ (ts : List Tm) (i d : Nat), levCL nm ts = false → allL (fun l _ => bare nm l) k len ts i d
 | [], _, _, _ => by rw [allL]; trivial
 | a :: ts, i, d, h => by
  rw [levCL, Bool.or_eq_false_iff] at h
  rw [allL]
  exact ⟨lev_leaves nm a _ h.1, levL_leaves nm k len ts (i + 1) d h.2⟩
end
abbrev tcn (nm : ByteArray) : Tm := .mk 3 0 nm [] []
theorem ra_tcn (b c : Int) (nm : ByteArray) (d : Nat) : subT (raF b c) (tcn nm) d = tcn nm := by
 rw [subT_leaf, raF_oth (by decide)]
theorem lf_num {k n : Int} {m : ByteArray} {ls : List Lv} (h : lfOk RN RL (.mk k n m ls [])) (h3 : k = 3) : n = 0 := by
 obtain ⟨K, hok, _⟩ := h
 rcases ok_leaf hok with ⟨h1, _⟩ | ⟨h1, _⟩ | ⟨_, h1, _⟩
 ·omega
 ·omega
 ·exact h1
theorem repl_self (nm : ByteArray) {t : Tm} {K : Int} (h : okT RN RL t K = true) (hl : levC nm t = false) : subT (replF nm (tcn nm)) t 0 = t :=
 subT_id t K 0 h (allT_mono2 (fun l e q p => by
  have q' := q
  obtain ⟨_, _, k, n, m, ls, rfl⟩ := q
  rw [replF]
  by_cases hc : k = 3 ∧ m = nm
  ·obtain ⟨rfl, rfl⟩ := hc
   rw [if_pos ⟨rfl, rfl⟩, ra_tcn, lf_num q' rfl, p rfl rfl]
  ·rw [if_neg hc]) t 0 (lf_leaves 0 h) (lev_leaves nm t 0 hl))
theorem abs_none (names : List ByteArray) (nm : ByteArray) (hm : nm ∈ names) {t : Tm} {K : Int} (h : okT RN RL t K = true) : ¬ hasC nm (subT (absF names) t 0) := by
 rw [no_sub (absF names) nm t K 0 h]
 refine allT_mono (fun l e q => ?_) t 0 (lf_leaves 0 h)
 rcases lf_cases q with ⟨n, h0, rfl⟩ | ⟨k, n, m, ls, hk, rfl⟩
 ·rw [absF, if_neg (fun q => absurd q.1 (by decide)), raF_var]
  split <;> exact hasC_var nm _
 ·rw [absF]
  by_cases hc : k = 3 ∧ fstI m names < names.length
  ·rw [if_pos hc]
   exact hasC_var nm _
  ·rw [if_neg hc, raF_oth hk, hasC_leaf]
   rintro ⟨k3, rfl⟩
   exact hc ⟨k3, (fstI_mem m names).2 hm⟩
theorem fstI_get (m : ByteArray) : ∀ (names : List ByteArray) (h : fstI m names < names.length), names[fstI m names] = m
 | [], h => by simp [fstI] at h
 | a :: l, h => by
  by_cases e : a = m
  ·simp [fstI, e]
  ·simp only [fstI, if_neg e, List.getElem_cons_succ]
   exact fstI_get m l _
theorem inst_abs (names : List ByteArray) {t : Tm} {K : Int} (h : okT RN RL t K = true) (hl : ∀ nm ∈ names, levC nm t = false) : subT (instF (names.map tcn)) (subT (absF names) t 0) 0 = t := by
 have hs := subT_sub (absF names) (instF (names.map tcn)) 0 t 0
 rw [Nat.add_zero] at hs
 rw [hs]
 have hb : ∀ (xs : List ByteArray), (∀ nm ∈ xs, levC nm t = false) → allT (fun l _ => ∀ nm ∈ xs, bare nm l) t 0 := fun xs => by
  induction xs with
  | nil => exact fun _ => allT_mono (fun l e _ nm q => by cases q) t 0 (lf_leaves 0 h)
  | cons a l ih =>
   exact fun q => allT_mono2 (fun l e p r nm s => by
    rcases List.mem_cons.1 s with rfl | s
    ·exact p
    ·exact r nm s) t 0 (lev_leaves a t 0 (q a (by simp))) (ih fun nm s => q nm (by simp [s]))
 refine subT_id t K 0 h (allT_mono2 (fun l e q p => ?_) t 0 (lf_leaves 0 h) (hb names hl))
 have q' := q
 rw [Nat.zero_add]
 rcases lf_cases q with ⟨n, h0, rfl⟩ | ⟨k, n, m, ls, hk, rfl⟩
 ·rw [absF, if_neg (fun q => absurd q.1 (by decide)), raF_var]
  by_cases he : (e : Int) ≤ n
  ·rw [if_pos ⟨he, by omega⟩, subT_leaf, instF_var, if_pos (by omega), List.length_map, if_neg (by omega), show n + (names.length : Int) - names.length = n by omega]
  ·rw [if_neg (fun q => he q.1), subT_leaf, instF_var, if_neg he]
 ·rw [absF]
  by_cases hc : k = 3 ∧ fstI m names < names.length
  ·obtain ⟨rfl, hc⟩ := hc
   obtain ⟨i, hi⟩ : ∃ i, fstI m names = i := ⟨_, rfl⟩
   have hg := fstI_get m names hc
   have hmem : m ∈ names := (fstI_mem m names).1 hc
   rw [if_pos ⟨rfl, hc⟩, subT_leaf, instF_var]
   simp only [hi] at hc hg ⊢
   rw [if_pos (by omega), if_pos (by rw [List.length_map]; omega), List.length_map, show names.length - 1 - ((e : Int) + names.length - 1 - i - e).toNat = i by omega, List.getD_eq_getElem?_getD, List.getElem?_map, List.getElem?_eq_getElem hc, Option.map_some, Option.getD_some, hg, ra_tcn, lf_num q' rfl, p m hmem rfl rfl]
  ·rw [if_neg hc, raF_oth hk, subT_leaf, instF_oth hk]
mutual
theorem ok_sub (F : Tm → Nat → Tm) (K1 K2 : Int) (hF : ∀ l e, lfOk RN RL l → okT RN RL l (K1 + (e : Nat)) = true → okT RN RL (F l e) (K2 + (e : Nat)) = true) : ∀ (t : Tm) (d : Nat), okT RN RL t (K1 + d) = true → okT RN RL (subT F t d) (K2 + d) = true
 | .mk k n m ls ts, d, h => by
  rw [subT]
  by_cases h0 : ts.length = 0
  ·obtain rfl : ts = [] := List.length_eq_zero_iff.1 h0
   rw [if_pos List.length_nil]
   exact hF _ d ⟨_, h, _, _, _, _, rfl⟩ h
  ·obtain ⟨rfl, rfl, rfl, k1⟩ := ok_inner h h0
   rw [okT, Bool.and_eq_true] at h
   rw [if_neg h0, okT, Bool.and_eq_true, subL_length]
   refine ⟨?_, okL_sub F K1 K2 hF k 0 ⟨#[]⟩ [] ts.length h.1 ts 0 d (by omega) h.2⟩
   rw [shape_other RN RL k1 (K2 + d) (K1 + d)]
   exact h.1
theorem okL_sub (F : Tm → Nat → Tm) (K1 K2 : Int) (hF : ∀ l e, lfOk RN RL l → okT RN RL l (K1 + (e : Nat)) = true → okT RN RL (F l e) (K2 + (e : Nat)) = true) (kd n : Int) (nm : ByteArray) (ls : List Lv) (len : Nat) {k : Int} (hs : Trm.shape RN RL kd n nm ls len k = true) : ∀ (ts : List Tm) (i d : Nat), i + ts.length ≤ len → okTL RN RL kd ts i (K1 + d) = true → okTL RN RL kd (subL F kd len ts i d) i (K2 + d) = true
 | [], _, _, _, _ => by rw [subL, okTL]
 | a :: ts, i, d, hi, ho => by
  rw [List.length_cons] at hi
  rw [okTL, Bool.and_eq_true] at ho
  rw [subL, okTL, Bool.and_eq_true]
  refine ⟨?_, okL_sub F K1 K2 hF kd n nm ls len hs ts (i + 1) d (by omega) ho.2⟩
  have := ho.1
  rw [bndP_under hs i (by omega), show K1 + (d : Int) + ((bndP kd len i : Nat) : Int) = K1 + ((d + bndP kd len i : Nat) : Int) by omega] at this
  have := ok_sub F K1 K2 hF a _ this
  rw [bndP_under hs i (by omega), show K2 + (d : Int) + ((bndP kd len i : Nat) : Int) = K2 + ((d + bndP kd len i : Nat) : Int) by omega]
  exact this
end
theorem ok_up {l : Tm} {K K' : Int} (h : okT RN RL l K = true) (h0 : 0 ≤ K) (hk : K ≤ K') : okT RN RL l K' = true := by
 have := okT_mono RN RL h h0 (K' - K) (by omega)
 rwa [show K + (K' - K) = K' by omega] at this
theorem ok_lvar {n K : Int} (h : okT RN RL (tvr n) K = true) : 0 ≤ n ∧ n < K := by
 rcases ok_leaf h with ⟨_, h0, h1, _⟩ | ⟨h1, _⟩ | ⟨h1, _⟩
 ·exact ⟨h0, h1⟩
 ·exact absurd h1 (by decide)
 ·exact absurd h1 (by decide)
theorem ok_tvr {n K : Int} (h0 : 0 ≤ n) (h : n < K) : okT RN RL (tvr n) K = true := by
 rw [okT, okTL, Bool.and_true]
 unfold Trm.shape
 rw [if_pos rfl, decide_eq_true h0, decide_eq_true h]
 rfl
theorem abs_ok (names : List ByteArray) {t : Tm} {K : Int} (hK : 0 ≤ K) (h : okT RN RL t K = true) : okT RN RL (subT (absF names) t 0) (K + names.length) = true := by
 have := ok_sub (absF names) K (K + names.length) (RN := RN) (RL := RL) (fun l e q ho => by
  rcases lf_cases q with ⟨n, h0, rfl⟩ | ⟨k, n, m, ls, hk, rfl⟩
  ·have := ok_lvar ho
   rw [absF, if_neg (fun q => absurd q.1 (by decide)), raF_var]
   split
   ·exact ok_tvr (by omega) (by omega)
   ·exact ok_tvr (by omega) (by omega)
  ·rw [absF]
   by_cases hc : k = 3 ∧ fstI m names < names.length
   ·rw [if_pos hc]
    exact ok_tvr (by omega) (by omega)
   ·rw [if_neg hc, raF_oth hk]
    exact ok_up ho (by omega) (by omega)) t 0 (by simpa using h)
 simpa using this
theorem repl_ok (nm : ByteArray) {u t : Tm} {K : Int} (hu : okT RN RL u K = true) (h : okT RN RL t K = true) : okT RN RL (subT (replF nm u) t 0) K = true := by
 have := ok_sub (replF nm u) K K (RN := RN) (RL := RL) (fun l e q ho => by
  obtain ⟨_, _, k, n, m, ls, rfl⟩ := q
  rw [replF]
  by_cases hc : k = 3 ∧ m = nm
  ·rw [if_pos hc, raF_li (e : Int) u K 0 hu]
   exact liT_ok RN RL (e : Int) (by omega) u K 0 hu
  ·rw [if_neg hc]
   exact ho) t 0 (by simpa using h)
 simpa using this
end
theorem right_lo {RN : ByteArray → Bool} {t : Tm} (h : rightT RN 4 t 1125899906842624 = true) {k : Int} (h0 : 0 ≤ k) (hl : loT t 0 ≤ k) : okT RN (rightB 4) t k = true := by
 obtain ⟨_, _, q2⟩ := rightT_ok h
 have := (okT_lo RN (rightB 4) t _ k 0 q2 h0).2 hl
 rwa [Int.add_zero] at this
theorem right_of {RN : ByteArray → Bool} {t : Tm} {k : Int} (h0 : 0 ≤ k) (hk : k ≤ 1125899906842624) (hn : tnodes t ≤ 2000) (h : okT RN (rightB 4) t k = true) : rightT RN 4 t 1125899906842624 = true := by
 refine rightT_of (by decide) hn ?_
 rw [show min (1125899906842624 : Int) 1125899906842624 = 1125899906842624 by omega]
 exact ok_up h h0 hk
theorem right_tcn {RN : ByteArray → Bool} (nm : ByteArray) (nn : Int) : rightT RN nn (tcn nm) 1125899906842624 = RN nm := by
 have h : okT RN (rightB nn) (tcn nm) (min 1125899906842624 1125899906842624) = RN nm := by
  rw [okT, okTL, Bool.and_true]
  unfold Trm.shape
  rw [if_neg (by decide), if_neg (by decide), if_pos rfl]
  simp
 unfold rightT
 rw [h, tnodes, nodesL, tnodesL]
 simp
theorem right_has {RN : ByteArray → Bool} (nm : ByteArray) {t : Tm} (h : rightT RN 4 t 1125899906842624 = true) (hc : hasC nm t) : RN nm = true := by
 obtain ⟨_, _, q2⟩ := rightT_ok h
 refine Decidable.byContradiction fun hn => ?_
 refine (no_self nm 0 q2).2 (allT_mono (fun l e q => ?_) t 0 (lf_leaves 0 q2)) hc
 obtain ⟨K, hok, k, n, m, ls, rfl⟩ := q
 rw [hasC_leaf]
 rintro ⟨rfl, rfl⟩
 rcases ok_leaf hok with ⟨h1, _⟩ | ⟨h1, _⟩ | ⟨_, _, h1, _⟩
 ·exact absurd h1 (by decide)
 ·exact absurd h1 (by decide)
 ·exact hn h1
end Bnd
end Go.Proofs.YteomfakbbcpckaaGreatDoor
