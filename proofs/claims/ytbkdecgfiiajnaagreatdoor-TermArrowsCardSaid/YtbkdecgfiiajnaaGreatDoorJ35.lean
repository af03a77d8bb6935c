import Derived.Test.YtbkdecgfiiajnaaGreatDoorJ21
import Derived.Test.YtbkdecgfiiajnaaGreatDoorJ22
import Derived.Test.YtbkdecgfiiajnaaGreatDoorJ23
import Derived.Test.YtbkdecgfiiajnaaGreatDoorJ26
import Derived.Test.YtbkdecgfiiajnaaGreatDoorJ30
import Derived.Test.YtbkdecgfiiajnaaGreatDoorJ32
import Derived.Test.YtbkdecgfiiajnaaGreatDoorJ29
import Derived.Test.YtbkdecgfiiajnaaGreatDoorJ34
import Derived.Test.YtbkdecgfiiajnaaGreatDoorJ13
import Derived.Test.YtbkdecgfiiajnaaGreatDoorJ02
/-
  Plain facts of the terms that the laws' own check 'alive' looks at; what is known later of what lay there; a box that is made somewhere on the way.
  Conditions: none.
-/
namespace Go.Proofs.YtbkdecgfiiajnaaGreatDoor
open Go.RowKit
open Lvl
namespace Trm

def lz0 : Lv := .mk 1 0 []
def lu0 : Lv := .mk 2 0 []
def tv0 : Tm := .mk 1 0 ⟨#[]⟩ [] []
def tv1 : Tm := .mk 1 1 ⟨#[]⟩ [] []
def tv2 : Tm := .mk 1 2 ⟨#[]⟩ [] []
def tsu : Tm := .mk 2 0 ⟨#[]⟩ [lu0] []
def tsz : Tm := .mk 2 0 ⟨#[]⟩ [lz0] []
def tin : Tm := .mk 5 0 ⟨#[]⟩ [] [tv0, tv0]
def tid : Tm := .mk 5 0 ⟨#[]⟩ [] [tsu, tin]
def tx : Tm := .mk 5 0 ⟨#[]⟩ [] [tsz, tin]
def tca : Tm := .mk 3 0 ⟨#[97]⟩ [] []
def tcb : Tm := .mk 3 0 ⟨#[98]⟩ [] []
def tcbz : Tm := .mk 3 0 ⟨#[98]⟩ [lz0] []
def tap1 : Tm := .mk 4 0 ⟨#[]⟩ [] [tid, tca]
def tap : Tm := .mk 4 0 ⟨#[]⟩ [] [tap1, tcbz]
def tar1 : Tm := .mk 6 0 ⟨#[]⟩ [] [tsz, tv2]
def tar : Tm := .mk 6 0 ⟨#[]⟩ [] [tv0, tar1]
def tba : Tm := .mk 4 0 ⟨#[]⟩ [] [tcb, tca]
def tlet : Tm := .mk 7 0 ⟨#[]⟩ [] [tsz, tv0, tv1]
def tpi : Tm := .mk 6 0 ⟨#[]⟩ [] [tsz, tv0]
theorem al_over : over 5 tv0 [tsu, tv0] = tid := by simp [over, tid, tin]
theorem al_overp : over 6 tv0 [tsz] = tpi := by simp [over, tpi]
theorem al_apps : apps tid [tca, tcbz] = tap := by simp [apps, tap, tap1]
theorem al_apps2 : apps tcb [tca] = tba := by simp [apps, tba]
theorem al_spine : spine tap = (tid, [tca, tcbz]) := by simp [spine, tap, tap1, tid]
theorem al_lev : remT (fL [lz0]) tid 0 = tx := by
  simp [remT, remL, fL, tid, tin, tsu, tv0, tx, tsz, instF, lu0, lz0]
theorem al_okC : okC (cL [lz0]) tid 0 := by
  simp [okC, okCL, cL, tid, tin, tsu, tv0, instB, rightB, okB, nodes, nodesL, instF, lu0, lz0]
theorem al_n6 : tnodes tid = 6 := by simp [tnodes, tnodesL, nodes, nodesL, tid, tin, tsu, tv0, lu0]
theorem al_x6 : tnodes tx = 6 := by simp [tnodes, tnodesL, nodes, nodesL, tx, tin, tsz, tv0, lz0]
theorem al_nv (n : Int) : tnodes (.mk 1 n ⟨#[]⟩ [] []) = 1 := by simp [tnodes, tnodesL, nodesL]
theorem al_nc : tnodes tca = 1 ∧ tnodes tcb = 1 ∧ tnodes tcbz = 2 ∧ tnodes tsz = 2 ∧ tnodes tsu = 2 := by simp [tnodes, tnodesL, nodes, nodesL, tca, tcb, tcbz, tsz, tsu, lz0, lu0]
theorem al_nap : tnodes tap ≤ 100000 := by simp [tnodes, tnodesL, nodes, nodesL, tid, tin, tsu, tv0, lu0, tap, tap1, tca, tcbz, lz0]
theorem al_nba : tnodes tba ≤ 100000 := by simp [tnodes, tnodesL, nodesL, tba, tcb, tca]
theorem al_nlet : tnodes tlet ≤ 100000 := by simp [tnodes, tnodesL, nodes, nodesL, tlet, tsz, tv0, tv1, lz0]
theorem al_lv {t : Tm} (h : t = tid ∨ t = tv0 ∨ t = tsu ∨ t = tsz ∨ t = tca ∨ t = tcbz ∨ t = tap ∨ t = tv1 ∨ t = tcb) : lvOk t := by
  rcases h with rfl | rfl | rfl | rfl | rfl | rfl | rfl | rfl | rfl <;> simp [lvOk, okC, okCL, cAll, tid, tin, tsu, tv0, tv1, tsz, tca, tcb, tcbz, tap, tap1, nodes, nodesL, lu0, lz0]
theorem al_nm {t : Tm} (h : t = tid ∨ t = tv0 ∨ t = tv2 ∨ t = tsz ∨ t = tx ∨ t = tba ∨ t = tlet) : ∀ q, q ∈ pre t 0 0 → (tmOf q.1).size ≤ 140737488355328 := by
  refine nm_pre t 0 0 ?_
  have e0 : (⟨#[]⟩ : ByteArray).size = 0 := rfl
  have e1 : (⟨#[97]⟩ : ByteArray).size = 1 := rfl
  have e2 : (⟨#[98]⟩ : ByteArray).size = 1 := rfl
  rcases h with rfl | rfl | rfl | rfl | rfl | rfl | rfl <;> simp [nmOk, nmOkL, tid, tin, tsu, tv0, tv1, tv2, tsz, tx, tba, tca, tcb, tlet, e0, e1, e2]
section
variable (RN : ByteArray → Bool)
theorem al_r1 : rightT RN 1 tid 0 = true := by
  simp [rightT, okT, okTL, shape, under, binds, tid, tin, tsu, tv0, rightB, okB, nodes, nodesL, tnodes, tnodesL, lu0]
  exact ⟨rfl, ⟨by decide, rfl⟩, by decide, rfl⟩
theorem al_r0 : rightT RN 0 tid 0 = false := by
  simp [rightT, okT, okTL, shape, under, binds, tid, tin, tsu, tv0, rightB, okB, nodes, nodesL, tnodes, tnodesL, lu0]
theorem al_rx : rightT RN 0 tx 0 = true := by
  simp [rightT, okT, okTL, shape, under, binds, tx, tin, tsz, tv0, rightB, okB, nodes, nodesL, tnodes, tnodesL, lz0]
  exact ⟨rfl, ⟨by decide, rfl⟩, by decide, rfl⟩
theorem al_rl : rightT RN (([lz0] : List Lv).length : Nat) tid 1125899906842624 = true := rightT_more (al_r1 RN) (by decide)
theorem al_r2 : rightT RN 4 tv2 1125899906842624 = true := by
  simp [rightT, okT, okTL, shape, tv2, tnodes, tnodesL, nodesL]; rfl
theorem al_rv0 : rightT RN 4 tv0 1125899906842624 = true := by
  simp [rightT, okT, okTL, shape, tv0, tnodes, tnodesL, nodesL]; rfl
theorem al_rsz : rightT RN 4 tsz 1125899906842624 = true := by
  simp [rightT, okT, okTL, shape, tsz, tnodes, tnodesL, nodesL, nodes, rightB, okB, lz0]; rfl
theorem al_loose : looseT RN tv2 = 3 := by
  unfold looseT
  rw [if_pos (al_r2 RN)]
  simp [loT, tv2]
  decide
theorem al_rlet : rightT RN 0 tlet 1 = true := by
  simp [rightT, okT, okTL, shape, under, binds, tlet, tsz, tv0, tv1, rightB, okB, nodes, nodesL, tnodes, tnodesL, lz0]
  exact ⟨rfl, ⟨by decide, rfl⟩, by decide, rfl⟩
theorem al_arrB : arrB RN tv0 [tv0, tsz] = true := by
  unfold arrB
  simp [al_rv0, al_rsz, tnodesL, al_nc, show tnodes tv0 = 1 from al_nv 0]
theorem al_arr : arrR RN tv0 [tv0, tsz] = tar := by
  unfold arrR
  rw [if_pos (al_arrB RN)]
  simp [over, raisedL, remT, remL, fR, tv0, tsz, tar, tar1, tv2]
variable {RN}
theorem al_rba (ha : RN ⟨#[97]⟩ = true) (hb : RN ⟨#[98]⟩ = true) : rightT RN 4 tba 1125899906842624 = true := by
  simp [rightT, okT, okTL, shape, tba, tca, tcb, tnodes, tnodesL, nodesL, ha, hb]; rfl
theorem al_cons (ha : RN ⟨#[97]⟩ = true) (hb : RN ⟨#[98]⟩ = true) : constsT RN tba = [⟨#[97]⟩, ⟨#[98]⟩] := by
  unfold constsT
  rw [if_pos (al_rba ha hb)]
  have e : cnS (pre tba 0 0) = [⟨#[98]⟩, ⟨#[97]⟩] := by simp [pre, preL, cnS, tba, tcb, tca]; exact (by decide : ¬ ((4 : Int) = 3))
  rw [e]
  unfold sortedOf sortedL
  simp only [List.map_cons, List.map_nil]
  have h : ([[98], [97]] : List (List UInt8)).mergeSort (fun x y => decide (x ≤ y)) = [[97], [98]] := by simp [List.mergeSort, List.MergeSort.Internal.splitInTwo, List.merge]; decide
  rw [h]
  decide +kernel
end

theorem later_alloc {x y : World} {O : Obj} (h : Below x.heap.size x y) : Below x.heap.size x (y.alloc O) := h.trans ((below_lit y O).mono h.size)
theorem later_drew {x y : World} (h : Below x.heap.size x y) : Below x.heap.size x y.drew := h.drew
theorem later_hid {x y z : World} (h : Hid (Below y.heap.size y z)) (k : Below x.heap.size x y) : Below x.heap.size x z := k.trans (h.out.mono k.size)
/-- A box of one's own lies there, made after the world W; the term lies in other blocks. -/
def Bx (W w : World) (B : Nat) (O : Obj) : Prop := w.heap[B]? = some O ∧ B < w.heap.size ∧ W.heap.size ≤ B
theorem bx_0 {W w0 w3 : World} {O : Obj} (h : Below (w0.alloc O).heap.size (w0.alloc O) w3) (hW : Below W.heap.size W w0) : Bx W w3 w0.heap.size O :=
  ⟨(h.block _ (by simp)).trans (heap_alloc_new w0 O), Nat.lt_of_lt_of_le (by simp) h.size, hW.size⟩
theorem bx_1 {W w0 w3 : World} {O O' : Obj} (h : Below ((w0.alloc O).alloc O').heap.size ((w0.alloc O).alloc O') w3) (hW : Below W.heap.size W w0) : Bx W w3 w0.heap.size O :=
  ⟨(h.block _ (by simp; omega)).trans ((heap_alloc_old _ _ (by simp)).trans (heap_alloc_new w0 O)), Nat.lt_of_lt_of_le (by simp; omega) h.size, hW.size⟩
theorem bx_2 {W w0 w3 : World} {O O' : Obj} (h : Below ((w0.alloc O').alloc O).heap.size ((w0.alloc O').alloc O) w3) (hW : Below W.heap.size W w0) : Bx W w3 (w0.heap.size + 1) O := by
  have := bx_0 (W := W) h (later_alloc hW)
  rwa [show (w0.alloc O').heap.size = w0.heap.size + 1 by simp] at this
theorem bx_d {W w3 : World} {O : Obj} (h : Below (W.alloc O).drew.heap.size (W.alloc O).drew w3) : Bx W w3 W.heap.size O := bx_0 (w0 := W) (w3 := w3) ((Below.refl _ _).drew.trans h) (Below.refl _ _)
theorem Bx.keep {W w0 w3 : World} {B : Nat} {O : Obj} (z : Bx W w0 B O) (h : Below w0.heap.size w0 w3) : Bx W w3 B O := ⟨(h.block B z.2.1).trans z.1, Nat.lt_of_lt_of_le z.2.1 h.size, z.2.2⟩
theorem Bx.keep1 {W w0 w3 : World} {B : Nat} {O O' : Obj} (z : Bx W w0 B O) (h : Below (w0.alloc O').heap.size (w0.alloc O') w3) : Bx W w3 B O := z.keep (below_from h)
theorem Bx.keep2 {W w0 w3 : World} {B : Nat} {O O' O'' : Obj} (z : Bx W w0 B O) (h : Below ((w0.alloc O').alloc O'').heap.size ((w0.alloc O').alloc O'') w3) : Bx W w3 B O := z.keep (below_from (below_from h))
/-- A row of two terms, of one, of one level, laid just now. -/
theorem ts_two {cur : World} {t u : Tm} {l s l' s' : Value} {k n k' n' : Int} {m m' : ByteArray} (ht : TmP cur (fun _ => True) t l s) (hu : TmP cur (fun _ => True) u l' s') (e1 : tkOf t = k) (e2 : tnOf t = n) (e3 : tmOf t = m) (f1 : tkOf u = k') (f2 : tnOf u = n') (f3 : tmOf u = m') :
    TsP (cur.alloc (.cells #[.int .i64 k, .int .i64 n, .string m, l, s, .int .i64 k', .int .i64 n', .string m', l', s'] 25)) (fun _ => True) (some ⟨cur.heap.size, 0, none⟩) 0 [t, u] := by
  subst e1 e2 e3 f1 f2 f3
  refine tsP_row (ss := [(l, s), (l', s')]) rfl (heap_alloc_new cur _) trivial fun i h1 h2 => ?_
  match i, h1 with
  | 0, _ => exact tmP_below (below_lit cur _) ht
  | 1, _ => exact tmP_below (below_lit cur _) hu
theorem ts_two1 {w0 : World} {O : Obj} {t u : Tm} {l s l' s' : Value} {k n k' n' : Int} {m m' : ByteArray} (ht : TmP (w0.alloc O) (fun _ => True) t l s) (hu : TmP (w0.alloc O) (fun _ => True) u l' s') (e1 : tkOf t = k) (e2 : tnOf t = n) (e3 : tmOf t = m) (f1 : tkOf u = k') (f2 : tnOf u = n') (f3 : tmOf u = m') :
    TsP ((w0.alloc O).alloc (.cells #[.int .i64 k, .int .i64 n, .string m, l, s, .int .i64 k', .int .i64 n', .string m', l', s'] 25)) (fun _ => True) (some ⟨w0.heap.size + 1, 0, none⟩) 0 [t, u] := by
  have := ts_two ht hu e1 e2 e3 f1 f2 f3
  rwa [show (w0.alloc O).heap.size = w0.heap.size + 1 by simp] at this
theorem ts_one {cur : World} {t : Tm} {l s : Value} {k n : Int} {m : ByteArray} (ht : TmP cur (fun _ => True) t l s) (e1 : tkOf t = k) (e2 : tnOf t = n) (e3 : tmOf t = m) :
    TsP (cur.alloc (.cells #[.int .i64 k, .int .i64 n, .string m, l, s] 25)) (fun _ => True) (some ⟨cur.heap.size, 0, none⟩) 0 [t] := by
  subst e1 e2 e3
  refine tsP_row (ss := [(l, s)]) rfl (heap_alloc_new cur _) trivial fun i h1 h2 => ?_
  match i, h1 with
  | 0, _ => exact tmP_below (below_lit cur _) ht
theorem lv_one (cur : World) : LvP (cur.alloc (.cells #[.int .i64 1, .int .i64 0, .slice none 0 0] 45)) (fun _ => True) (.mk 0 0 [lz0]) (.slice (some ⟨cur.heap.size, 0, none⟩) 1 1) :=
  lvP_one_row (t := lz0) (wA := cur) (B := 0) (lvP_leaf cur _ 1 0) (Nat.zero_le _) (by simp) (heap_alloc_new cur _) (below_lit cur _) 0 |> lvP_move (fun _ _ _ => ⟨trivial, rfl⟩) (Nat.le_refl _) _ _
theorem lv_one1 (w0 : World) (O : Obj) : LvP ((w0.alloc O).alloc (.cells #[.int .i64 1, .int .i64 0, .slice none 0 0] 45)) (fun _ => True) (.mk 0 0 [lz0]) (.slice (some ⟨w0.heap.size + 1, 0, none⟩) 1 1) := by
  have := lv_one (w0.alloc O)
  rwa [show (w0.alloc O).heap.size = w0.heap.size + 1 by simp] at this
theorem zero_ret (w : World) : Calls Tryz.prog 26 #[] w (Ret w (.agg #[.int .i64 1, .int .i64 0, .slice none 0 0])) := by
  obtain ⟨i0, hi0, hz0, hz1, hz2⟩ := info_parts infoLv
  go_enter Tryz.func26, Tryz.ntmps26
  go_wp2_with fail
  refine bodyPost_ret (results_cell_row rfl _ _ (w.heap.size) 45 _ (0, 0) _ rfl (heap_alloc_new w _) Tryz.underlying45 rfl (by rw [hi0, Option.map_some, hz1]; rfl)) rfl ?_
  exact ⟨rfl, below_lit w _⟩
theorem u_ret (w : World) : Calls Tryz.prog 24 #[] w (Ret w (.agg #[.int .i64 2, .int .i64 0, .slice none 0 0])) := by
  obtain ⟨i0, hi0, hz0, hz1, hz2⟩ := info_parts infoLv
  go_enter Tryz.func24, Tryz.ntmps24
  go_wp2_with fail
  refine bodyPost_ret (results_cell_row rfl _ _ (w.heap.size) 45 _ (0, 0) _ rfl (heap_alloc_new w _) Tryz.underlying45 rfl (by rw [hi0, Option.map_some, hz1]; rfl)) rfl ?_
  exact ⟨rfl, below_lit w _⟩
theorem lvV_leaf0 (w : World) (k n : Int) : LvV w (.mk k n []) (.agg #[.int .i64 k, .int .i64 n, .slice none 0 0]) := ⟨_, rfl, by rw [LvS]; exact ⟨none, 0, 0, rfl, rfl, Nat.le_refl _, by omega, fun _ => rfl, by rw [LsV]; trivial⟩⟩
/-- As bx_done, with what is told of the box by a fact of the term's blocks. -/
theorem bx_fin {W w3 : World} {B : Nat} {x0 x1 x2 x3 x4 y0 y1 y2 y3 y4 : Value} {t : Tm} {l s : Value} {P : Nat → Prop} (z : Bx W w3 B (.cells #[x0, x1, x2, x3, x4] 25)) (ht : TmP w3 P t l s) (hP : ∀ b, P b → B < b) :
    (((((w3.setCell ⟨B, 0, none⟩ y0).setCell ⟨B, 0 + 1, none⟩ y1).setCell ⟨B, 0 + 2, none⟩ y2).setCell ⟨B, 0 + 3, none⟩ y3).setCell ⟨B, 0 + 4, none⟩ y4).heap[B]? = some (.cells #[y0, y1, y2, y3, y4] 25 (0, 0)) ∧
    TmP (((((w3.setCell ⟨B, 0, none⟩ y0).setCell ⟨B, 0 + 1, none⟩ y1).setCell ⟨B, 0 + 2, none⟩ y2).setCell ⟨B, 0 + 3, none⟩ y3).setCell ⟨B, 0 + 4, none⟩ y4) (fun _ => True) t l s := by
  refine ⟨set5_row z.1, tmP_move (fun b _ hp => ⟨trivial, set5_far' w3 B 0 b _ _ _ _ _ (fun e => ?_)⟩) (by rw [set5_sz]; exact Nat.le_refl _) _ _ _ ht⟩
  have := hP b hp
  omega
theorem bx_finS {W w3 : World} {B : Nat} {x0 x1 x2 x3 x4 y0 y1 y2 y3 y4 : Value} {ts : List Tm} {A : Option Addr} {j : Nat} {P : Nat → Prop} (_ : Bx W w3 B (.cells #[x0, x1, x2, x3, x4] 25)) (ht : TsP w3 P A j ts) (hP : ∀ b, P b → B < b) :
    TsP (((((w3.setCell ⟨B, 0, none⟩ y0).setCell ⟨B, 0 + 1, none⟩ y1).setCell ⟨B, 0 + 2, none⟩ y2).setCell ⟨B, 0 + 3, none⟩ y3).setCell ⟨B, 0 + 4, none⟩ y4) (fun _ => True) A j ts := by
  refine tsP_move (fun b _ hp => ⟨trivial, set5_far' w3 B 0 b _ _ _ _ _ (fun e => ?_)⟩) (by rw [set5_sz]; exact Nat.le_refl _) _ _ _ ht
  have := hP b hp
  omega
section
variable {P : Program} {l : List Oper} {Q : Exit → Act → World → Prop} {md : Region.Mode} {S : World → Prop}
/-- Two operations are ready: either may come. -/
theorem fork_in {i j : Nat} {oi oj : Oper} {ri rj : List Oper} {fuel : Nat} {listed : Array Bool} {a : Act} {w : World} (hi : l.drop i = oi :: ri) (hj : l.drop j = oj :: rj)
    (hr : Region.ready md l.toArray listed = [i, j])
    (h1 : ∀ K' : Act → World → Prop, Shut (∀ a w, S w → (S w → wpAnyH P md l.toArray Q S fuel (listed.setIfInBounds i true) a w) → K' a w) → if Region.wanted oi (yielded l.toArray a.tmps) = true then Oper.wp P oi a w K' Q else K' (a.put oi.dst undef) w)
    (h2 : ∀ K' : Act → World → Prop, Shut (∀ a w, S w → (S w → wpAnyH P md l.toArray Q S fuel (listed.setIfInBounds j true) a w) → K' a w) → if Region.wanted oj (yielded l.toArray a.tmps) = true then Oper.wp P oj a w K' Q else K' (a.put oj.dst undef) w) :
    wpAnyH P md l.toArray Q S (fuel + 1) listed a w :=
  wpAnyH_ready hr (by simp) (AllReadyH.cons (at_of_drop hi) h1 (AllReadyH.cons (at_of_drop hj) h2 AllReadyH.nil))
end
theorem bx_now {W w0 : World} {O : Obj} (hW : Below W.heap.size W w0) : Bx W (w0.alloc O) w0.heap.size O := ⟨heap_alloc_new w0 O, by simp, hW.size⟩
theorem bx_now1 {W w0 : World} {O O' : Obj} (hW : Below W.heap.size W w0) : Bx W ((w0.alloc O').alloc O) (w0.heap.size + 1) O := by
  have := bx_now (O := O) (later_alloc (O := O') hW)
  rwa [show (w0.alloc O').heap.size = w0.heap.size + 1 by simp] at this
/-- As above, and what is newer than the call lies behind the box. -/
def Bq (W w3 : World) (B : Nat) (O : Obj) (P : Nat → Prop) : Prop := Bx W w3 B O ∧ ∀ b, P b → B < b
theorem bq_0 {W w0 w3 : World} {O : Obj} (h : Below (w0.alloc O).heap.size (w0.alloc O) w3) (hW : Below W.heap.size W w0) : Bq W w3 w0.heap.size O (fun b => (w0.alloc O).heap.size ≤ b) := ⟨bx_0 h hW, fun _ hb => by simp at hb; omega⟩
theorem bq_1 {W w0 w3 : World} {O O' : Obj} (h : Below ((w0.alloc O).alloc O').heap.size ((w0.alloc O).alloc O') w3) (hW : Below W.heap.size W w0) : Bq W w3 w0.heap.size O (fun b => ((w0.alloc O).alloc O').heap.size ≤ b) := ⟨bx_1 h hW, fun b hb => by simp at hb; omega⟩
theorem bq_2 {W w0 w3 : World} {O O' : Obj} (h : Below ((w0.alloc O').alloc O).heap.size ((w0.alloc O').alloc O) w3) (hW : Below W.heap.size W w0) : Bq W w3 (w0.heap.size + 1) O (fun b => ((w0.alloc O').alloc O).heap.size ≤ b) := ⟨bx_2 h hW, fun b hb => by simp at hb; omega⟩
theorem Bx.keepq {W w0 w3 : World} {B : Nat} {O : Obj} (z : Bx W w0 B O) (h : Below w0.heap.size w0 w3) : Bq W w3 B O (fun b => w0.heap.size ≤ b) := ⟨z.keep h, fun _ hb => Nat.lt_of_lt_of_le z.2.1 hb⟩
theorem Bx.keepq1 {W w0 w3 : World} {B : Nat} {O O' : Obj} (z : Bx W w0 B O) (h : Below (w0.alloc O').heap.size (w0.alloc O') w3) : Bq W w3 B O (fun b => (w0.alloc O').heap.size ≤ b) := ⟨z.keep1 h, fun b hb => by have h1 := z.2.1; simp at hb; omega⟩
theorem Bx.keepq2 {W w0 w3 : World} {B : Nat} {O O' O'' : Obj} (z : Bx W w0 B O) (h : Below ((w0.alloc O').alloc O'').heap.size ((w0.alloc O').alloc O'') w3) : Bq W w3 B O (fun b => ((w0.alloc O').alloc O'').heap.size ≤ b) := ⟨z.keep2 h, fun b hb => by have h1 := z.2.1; simp at hb; omega⟩
theorem Bx.ahead {W cur w3 : World} {B : Nat} {O : Obj} (z : Bx W cur B O) (h : Below cur.heap.size cur w3) : Bq W w3 B O (fun b => cur.heap.size ≤ b) := ⟨z.keep h, fun _ hb => Nat.lt_of_lt_of_le z.2.1 hb⟩
/-- A box that a pointer leads to holds the term. -/
def Cut5 (W wx : World) (p : Value) (k n : Int) (m : ByteArray) (t : Tm) : Prop :=
  ∃ (B : Nat) (la : Option Addr) (ll lc : Nat) (sa : Option Addr) (sl sc : Nat), p = .pointer (some ⟨B, 0, none⟩) ∧ B < wx.heap.size ∧ wx.heap[B]? = some (Obj.cells #[.int .i64 k, .int .i64 n, .string m, .slice la ll lc, .slice sa sl sc] 25 (0, 0)) ∧ TmP wx (fun _ => True) t (.slice la ll lc) (.slice sa sl sc) ∧ Below W.heap.size W wx
theorem cut5_late {W wl : World} {P : Nat → Prop} {k n : Int} {m : ByteArray} {t : Tm} {la : Option Addr} {ll lc : Nat} {sa : Option Addr} {sl sc : Nat} (ht : TmP wl P t (.slice la ll lc) (.slice sa sl sc)) (h : Below W.heap.size W wl) :
    Cut5 W (wl.alloc (.cells #[.int .i64 k, .int .i64 n, .string m, .slice la ll lc, .slice sa sl sc] 25)) (.pointer (some ⟨wl.heap.size, 0, none⟩)) k n m t :=
  ⟨_, _, _, _, _, _, _, rfl, by simp, heap_alloc_new wl _, tmP_below (below_lit wl _) (tmP_weak (fun _ _ => trivial) ht), later_alloc h⟩
theorem cut5_early {W w3 : World} {B : Nat} {x0 x1 x2 x3 x4 : Value} {P : Nat → Prop} {k n : Int} {m : ByteArray} {t : Tm} {la : Option Addr} {ll lc : Nat} {sa : Option Addr} {sl sc : Nat} (zq : Bq W w3 B (.cells #[x0, x1, x2, x3, x4] 25) P) (ht : TmP w3 P t (.slice la ll lc) (.slice sa sl sc)) (h : Below W.heap.size W w3) :
    Cut5 W (((((w3.setCell ⟨B, 0, none⟩ (.int .i64 k)).setCell ⟨B, 1, none⟩ (.int .i64 n)).setCell ⟨B, 2, none⟩ (.string m)).setCell ⟨B, 3, none⟩ (.slice la ll lc)).setCell ⟨B, 4, none⟩ (.slice sa sl sc)) (.pointer (some ⟨B, 0, none⟩)) k n m t := by
  obtain ⟨z, hP⟩ := zq
  have hd := bx_fin (y0 := .int .i64 k) (y1 := .int .i64 n) (y2 := .string m) (y3 := .slice la ll lc) (y4 := .slice sa sl sc) z ht hP
  exact ⟨_, _, _, _, _, _, _, rfl, by rw [setCell_size, setCell_size, setCell_size, setCell_size, setCell_size]; exact z.2.1, hd.1, hd.2, set5_below h _ 0 _ _ _ _ _ z.2.2⟩
theorem cut5_row {w3 : World} {W : World} {B : Nat} {x0 x1 x2 x3 x4 y0 y1 y2 y3 y4 : Value} {P : Nat → Prop} {ts : List Tm} {A : Option Addr} {c : Nat} (zq : Bq W w3 B (.cells #[x0, x1, x2, x3, x4] 25) P) (ht : TsP w3 P A 0 ts) :
    ∃ A' c', Value.slice A 2 c = .slice A' 2 c' ∧ TsP (((((w3.setCell ⟨B, 0, none⟩ y0).setCell ⟨B, 1, none⟩ y1).setCell ⟨B, 2, none⟩ y2).setCell ⟨B, 3, none⟩ y3).setCell ⟨B, 4, none⟩ y4) (fun _ => True) A' 0 ts := ⟨_, _, rfl, bx_finS zq.1 ht zq.2⟩
theorem cut5_row0 {w3 : World} {O : Obj} {P : Nat → Prop} {ts : List Tm} {A : Option Addr} {c : Nat} (ht : TsP w3 P A 0 ts) :
    ∃ A' c', Value.slice A 2 c = .slice A' 2 c' ∧ TsP (w3.alloc O) (fun _ => True) A' 0 ts := ⟨_, _, rfl, tsP_below (below_lit w3 _) (tsP_move (fun _ _ _ => ⟨trivial, rfl⟩) (Nat.le_refl _) _ _ _ ht)⟩
theorem ts_al {cur : World} {l s l' s' : Value} (ht : TmP cur (fun _ => True) tca l s) (hu : TmP cur (fun _ => True) tcbz l' s') :
    TsP (cur.alloc (.cells #[.int .i64 3, .int .i64 0, .string ⟨#[97]⟩, l, s, .int .i64 3, .int .i64 0, .string ⟨#[98]⟩, l', s'] 25)) (fun _ => True) (some ⟨cur.heap.size, 0, none⟩) 0 [tca, tcbz] := ts_two ht hu rfl rfl rfl rfl rfl rfl
theorem ts_al1 {w0 : World} {O : Obj} {l s l' s' : Value} (ht : TmP (w0.alloc O) (fun _ => True) tca l s) (hu : TmP (w0.alloc O) (fun _ => True) tcbz l' s') :
    TsP ((w0.alloc O).alloc (.cells #[.int .i64 3, .int .i64 0, .string ⟨#[97]⟩, l, s, .int .i64 3, .int .i64 0, .string ⟨#[98]⟩, l', s'] 25)) (fun _ => True) (some ⟨w0.heap.size + 1, 0, none⟩) 0 [tca, tcbz] := ts_two1 ht hu rfl rfl rfl rfl rfl rfl
theorem ts_al2 {cur : World} {O : Obj} {l s l' s' : Value} (ht : TmP cur (fun _ => True) tca l s) (hu : TmP cur (fun _ => True) tcbz l' s') :
    TsP ((cur.alloc (.cells #[.int .i64 3, .int .i64 0, .string ⟨#[97]⟩, l, s, .int .i64 3, .int .i64 0, .string ⟨#[98]⟩, l', s'] 25)).alloc O) (fun _ => True) (some ⟨cur.heap.size, 0, none⟩) 0 [tca, tcbz] := tsP_below (below_lit _ _) (ts_al ht hu)
theorem lv_one2 (cur : World) (O : Obj) : LvP ((cur.alloc (.cells #[.int .i64 1, .int .i64 0, .slice none 0 0] 45)).alloc O) (fun _ => True) (.mk 0 0 [lz0]) (.slice (some ⟨cur.heap.size, 0, none⟩) 1 1) :=
  lvP_move (fun b hlt hp => ⟨hp, (below_lit _ _).block b hlt⟩) (below_lit _ _).size _ _ (lv_one cur)
theorem tmV_tid {w : World} {l s : Value} (h : TmP w (fun _ => True) tid l s) : TmV w tid (.agg #[.int .i64 5, .int .i64 0, .string ⟨#[]⟩, l, s]) := ⟨_, _, rfl, h⟩
theorem tmV_tap {w : World} {l s : Value} (h : TmP w (fun _ => True) tap l s) : TmV w tap (.agg #[.int .i64 4, .int .i64 0, .string ⟨#[]⟩, l, s]) := ⟨_, _, rfl, h⟩
theorem n1_le : tnodes tv0 ≤ 100000 := by rw [show tnodes tv0 = 1 from al_nv 0]; decide
theorem lam_al {v : Value} {A : Option Addr} {cap : Nat} {w : World} (hv : TmV w tv0 v) (hus : TsP w (fun _ => True) A 0 [tsu, tv0]) (hc : 2 ≤ cap) : Calls Tryz.prog 16 #[v, .slice A 2 cap] w (TmRet w tid) := by
  have := lam_is tv0 v [tsu, tv0] A 2 cap w hv n1_le (al_lv (by simp)) rfl hc (by decide) hus (fun a ha => by
    simp at ha
    rcases ha with rfl | rfl
    · exact ⟨by rw [al_nc.2.2.2.2]; decide, al_lv (by simp)⟩
    · exact ⟨n1_le, al_lv (by simp)⟩)
  rwa [al_over] at this
theorem pi_al {v : Value} {A : Option Addr} {cap : Nat} {w : World} (hv : TmV w tv0 v) (hus : TsP w (fun _ => True) A 0 [tsz]) (hc : 1 ≤ cap) : Calls Tryz.prog 17 #[v, .slice A 1 cap] w (TmRet w tpi) := by
  have := pi_is tv0 v [tsz] A 1 cap w hv n1_le (al_lv (by simp)) rfl hc (by decide) hus (fun a ha => by
    simp at ha
    subst ha
    exact ⟨by rw [al_nc.2.2.2.1]; decide, al_lv (by simp)⟩)
  rwa [al_overp] at this
theorem app_al {v : Value} {A : Option Addr} {cap : Nat} {w : World} (hv : TmV w tid v) (hus : TsP w (fun _ => True) A 0 [tca, tcbz]) (hc : 2 ≤ cap) : Calls Tryz.prog 15 #[v, .slice A 2 cap] w (TmRet w tap) := by
  have := app_is tid v [tca, tcbz] A 2 cap w hv (by rw [al_n6]; decide) (al_lv (by simp)) rfl hc (by decide) hus (fun a ha => by
    simp at ha
    rcases ha with rfl | rfl
    · exact ⟨by rw [al_nc.1]; decide, al_lv (by simp)⟩
    · exact ⟨by rw [al_nc.2.2.1]; decide, al_lv (by simp)⟩)
  rwa [al_apps] at this
theorem app_al2 {v : Value} {A : Option Addr} {cap : Nat} {w : World} (hv : TmV w tcb v) (hus : TsP w (fun _ => True) A 0 [tca]) (hc : 1 ≤ cap) : Calls Tryz.prog 15 #[v, .slice A 1 cap] w (TmRet w tba) := by
  have := app_is tcb v [tca] A 1 cap w hv (by rw [al_nc.2.1]; decide) (al_lv (by simp)) rfl hc (by decide) hus (fun a ha => by
    simp at ha
    subst ha
    exact ⟨by rw [al_nc.1]; decide, al_lv (by simp)⟩)
  rwa [al_apps2] at this
theorem let_al {v1 v2 v3 : Value} {w : World} (h1 : TmV w tsz v1) (h2 : TmV w tv0 v2) (h3 : TmV w tv1 v3) : Calls Tryz.prog 30 #[v1, v2, v3] w (TmRet w tlet) :=
  let_is tsz v1 tv0 v2 tv1 v3 w h1 (by rw [al_nc.2.2.2.1]; decide) (al_lv (by simp)) h2 n1_le (al_lv (by simp)) h3 (by rw [show tnodes tv1 = 1 from al_nv 1]; decide) (al_lv (by simp))
theorem levels_al {RN : ByteArray → Bool} {v V : Value} {w : World} (hv : TmV w tid v) (hvb : LvP w (fun _ => True) (.mk 0 0 [lz0]) V) (CN : NameC w RN) :
    Calls Tryz.prog 25 #[v, V] w (fun e w' => ∃ l s, e = .returned (.tuple #[tv tx l s, .bool true]) ∧ TmP w' (fun b => w.heap.size ≤ b) tx l s ∧ Below w.heap.size w w') := by
  have := levels_is RN [lz0] tid v V w hv (by rw [al_n6]; decide) (al_nm (by simp)) CN (lvS_of _ _ hvb) (by intro b hb; simp at hb; subst hb; decide) (al_rl RN) al_okC (by rw [al_lev, al_x6]; decide)
  rwa [al_lev] at this
theorem spine_al {v : Value} {w : World} (hv : TmV w tap v) :
    Calls Tryz.prog 18 #[v] w (fun e w' => ∃ l s A cap, e = .returned (.tuple #[tv tid l s, .slice A 2 cap]) ∧ TmP w' (fun b => w.heap.size ≤ b) tid l s ∧ TsP w' (fun b => w.heap.size ≤ b) A 0 [tca, tcbz] ∧ Below w.heap.size w w') := by
  refine (spine_is tap v w hv al_nap (al_lv (by simp))).mono ?_
  rintro e w' ⟨l, s, A, len, cap, h1, h2, _, _, h3, h4, h5⟩
  rw [al_spine] at h1 h2 h3 h4
  obtain rfl : len = 2 := h2.symm
  exact ⟨l, s, A, cap, h1, h3, h4, h5⟩
theorem arrow_al {RN : ByteArray → Bool} {v : Value} {b o : Nat} {w : World} (hv : TmV w tv0 v) (hus : TsP w (fun _ => True) (some ⟨b, o, none⟩) 0 [tv0, tsz]) (CN : NameC w RN) :
    Calls Tryz.prog 10 #[v, .slice (some ⟨b, o, none⟩) 2 2] w (fun e w' => ∃ l s, e = .returned (.tuple #[tv tar l s, .bool true]) ∧ TmP w' (fun b => w.heap.size ≤ b) tar l s ∧ Below w.heap.size w w') := by
  have := arrow_is RN tv0 v [tv0, tsz] (some ⟨b, o, none⟩) 2 2 w hv n1_le rfl (by decide) (by decide) (fun e => by cases e) hus (fun a ha => by
    simp at ha
    rcases ha with rfl | rfl | rfl
    · exact n1_le
    · rw [al_nc.2.2.2.1]; decide
    · exact n1_le) (fun a ha => by
    simp at ha
    rcases ha with rfl | rfl | rfl <;> exact al_nm (by simp)) CN
  unfold ArrRet at this
  rwa [al_arr, al_arrB] at this
theorem consts_al {RN : ByteArray → Bool} {v : Value} {w : World} (hv : TmV w tba v) (CN : NameC w RN) (ha : RN ⟨#[97]⟩ = true) (hb : RN ⟨#[98]⟩ = true) : Calls Tryz.prog 29 #[v] w (SliceRet w [⟨#[97]⟩, ⟨#[98]⟩]) := by
  have := consts_is RN tba v w hv al_nba (al_nm (by simp)) CN
  rwa [al_cons ha hb] at this
theorem same_al (w : World) {A : Option Addr} {c : Nat} (hA : Txt w A [⟨#[97]⟩, ⟨#[98]⟩]) :
    Calls Tryz.prog 28 #[.slice A 2 c, .slice (some ⟨w.heap.size, 0, none⟩) 2 2] (w.alloc (.cells #[.string ⟨#[97]⟩, .string ⟨#[98]⟩] 9)) (Ret w (.bool true)) :=
  (sameTexts_any A _ c _ [⟨#[97]⟩, ⟨#[98]⟩] [⟨#[97]⟩, ⟨#[98]⟩] _ (hA.below (below_lit w _)) (txt_lit w [⟨#[97]⟩, ⟨#[98]⟩] _ rfl) (by decide)).mono fun e w' ⟨he, q, hw⟩ => ⟨by rw [he]; simp, by subst hw; exact (below_lit w _).trans ((quietBelow _ q).mono (below_lit w _).size)⟩
end Trm
end Go.Proofs.YtbkdecgfiiajnaaGreatDoor
