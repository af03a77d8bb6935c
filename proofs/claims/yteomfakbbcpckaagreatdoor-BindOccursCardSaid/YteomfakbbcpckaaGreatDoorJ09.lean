/-
  Plain facts and contracts that the law's proof stands on, joined.
  Conditions: each fact's own.
-/
import Derived.Test.YteomfakbbcpckaaGreatDoorJ06
import Derived.Test.YteomfakbbcpckaaGreatDoorJ07
import Derived.RangeFuncNested
import Derived.RangeFuncBound
import Derived.RangeFuncCalls
import Derived.RangeFuncLeaves
import Derived.Shelf.Abstract
import Derived.Shelf.RegionOpen
import Derived.OwnWalkIn
import Derived.TacticsInMore
import Derived.LoopNIn
import Derived.LoopIn
import Derived.IntWalk
import Derived.Test.YteomfakbbcpckaaGreatDoorJ08
namespace Go.Proofs.YteomfakbbcpckaaGreatDoor
open Go.RowKit Go.Shelf
open Lvl
namespace Trm
structure It (w0 : World) (G : Tm × Nat × Nat → Prop) where
 t : Tm
 la : Option Addr
 ll : Nat
 lc : Nat
 sa : Option Addr
 sl : Nat
 sc : Nat
 d : Nat
 b : Nat
 ok : TmP w0 (fun _ => True) t (.slice la ll lc) (.slice sa sl sc)
 g : G (t, d, b)
def It.tag {w0 : World} {G : Tm × Nat × Nat → Prop} (x : It w0 G) : Tm × Nat × Nat := (x.t, x.d, x.b)
abbrev tplace (d b : Nat) : Value := .agg #[.int .i64 d, .int .i64 b]
def It.enc {w0 : World} {G : Tm × Nat × Nat → Prop} (x : It w0 G) : Array Value := #[tv x.t (.slice x.la x.ll x.lc) (.slice x.sa x.sl x.sc), tplace x.d x.b]
def boxO : Obj → Bool
 | .cells _ T _ => T != 9
 | _ => false
theorem boxO_cells {o : Obj} (h : boxO o = true) : o.isCells = true := by cases o <;> simp_all [boxO, Obj.isCells]
def KpW (n₀ D : Nat) (W W' : World) : Prop := Below n₀ W W' ∧ ∀ b (o : Obj), D ≤ b → W.heap[b]? = some o → boxO o = true → W'.heap[b]? = some o
theorem KpW.refl (n₀ D : Nat) (W : World) : KpW n₀ D W W := ⟨Below.refl _ _, fun _ _ _ h _ => h⟩
theorem KpW.trans {n₀ D : Nat} {A B C : World} (h : KpW n₀ D A B) (k : KpW n₀ D B C) : KpW n₀ D A C :=
 ⟨h.1.trans k.1, fun b o hb ho hc => k.2 b o hb (h.2 b o hb ho hc) hc⟩
theorem KpW.of_below {n₀ D : Nat} {A B : World} (hn : n₀ ≤ A.heap.size) (h : Below A.heap.size A B) : KpW n₀ D A B :=
 ⟨h.mono hn, fun b _ _ ho _ => (h.block b (Array.getElem?_eq_some_iff.1 ho).1).trans ho⟩
theorem KpW.set_far {n₀ D : Nat} {W : World} {b p : Nat} {v : Value} (hn : n₀ ≤ b) (hD : b < D) : KpW n₀ D W (W.setCell ⟨b, p, none⟩ v) :=
 ⟨below_set (Below.refl _ _) _ _ hn, fun k o hk ho _ => (setCell_far _ _ _ _ (by show k ≠ b; omega)).trans ho⟩
theorem KpW.put {n₀ D : Nat} {w : World} (hn : n₀ ≤ D) (hD : D = w.heap.size) (W : World) (l : Nat) (o o' : Obj) (hl : w.heap.size ≤ l) (h : W.heap[l]? = some o) (hc : o.isCells = false) (hw : o.isWalk = false) : KpW n₀ D W (W.putObj l o') :=
 ⟨belowK_b (w := w) (by omega) W l o o' hl h hc hw, fun b o2 _ ho2 hc2 => by
  have hne : b ≠ l := fun e => by
   subst e
   rw [h] at ho2
   cases ho2
   have hc3 := boxO_cells hc2
   rw [hc] at hc3
   cases hc3
  exact (World.putObj_heap_other hne).trans ho2⟩
set_option maxRecDepth 100000 in
set_option maxHeartbeats 4000000 in
theorem walk_up (w0 : World) (G : Tm × Nat × Nat → Prop) (D l M : Nat) (J Jx : List (It w0 G) → World → Prop)
  (hJ : ∀ xs W W', Below W.heap.size W W' → J xs W → J xs W')
  (hY : ∀ xs (x : It w0 G) W, J xs W → xs.length < M → YieldAt Fence.wide 10 Tryz.prog l x.enc W fun e W' =>
   (e = .returned (.bool true) ∧ J (xs ++ [x]) W' ∧ KpW w0.heap.size D W W') ∨ (e = .returned (.bool false) ∧ Jx (xs ++ [x]) W')) :
  ∀ (N : Nat) (x : It w0 G) (xs : List (It w0 G)) (W : World), tnodes x.t ≤ N → N ≤ 1000000 → x.d + N ≤ 1000000 → x.b + N ≤ 1000000 → J xs W → Below w0.heap.size w0 W → w0.heap.size ≤ D → D ≤ W.heap.size → xs.length + (pre x.t x.d x.b).length ≤ M → (∀ q, q ∈ pre x.t x.d x.b → G q) →
   CallsIn Fence.wide 11 Tryz.prog 102 (x.enc ++ #[.func (.yield l) #[] #[]]) W fun e W' =>
    (e = .returned (.bool true) ∧ ∃ ys, ys.map It.tag = pre x.t x.d x.b ∧ J (xs ++ ys) W' ∧ KpW w0.heap.size D W W') ∨
    (e = .returned (.bool false) ∧ ∃ ys, ys.map It.tag <+: pre x.t x.d x.b ∧ Jx (xs ++ ys) W') := by
 intro N
 induction N with
 | zero => intro x _ _ h; have := tnodes_pos x.t; omega
 | succ N ih =>
 intro x xs W hN hN6 hd hb hJs hB hnD hDW hM hG
 obtain ⟨⟨k, n, m, ls, ts⟩, la, ll, lc, sa, sl, sc, d, b, ok, hg⟩ := x
 obtain ⟨X, hX⟩ : ∃ X : It w0 G, X = ⟨.mk k n m ls ts, la, ll, lc, sa, sl, sc, d, b, ok, hg⟩ := ⟨_, rfl⟩
 dsimp only at hN hd hb hM hG ⊢
 have hPRE : pre (.mk k n m ls ts) d b = (.mk k n m ls ts, d, b) :: preL k ts.length ts 0 (d + 1) b := by rw [pre]
 rw [hPRE, List.length_cons] at hM
 rw [hPRE] at hG
 have HG := Lib.hid hG
 obtain ⟨fn, tmps, assign, body, hy, hR⟩ := hY xs X _ (hJ _ _ _ (below_lit _ (.cells #[.int .i64 d, .int .i64 b] 113)) (hJ _ _ _ (below_lit W (.cells #[.int .i64 k, .int .i64 n, .string m, .slice la ll lc, .slice sa sl sc] 25)) hJs)) (by omega)
 rw [show X.enc = #[.agg #[.int .i64 k, .int .i64 n, .string m, .slice la ll lc, .slice sa sl sc], .agg #[.int .i64 d, .int .i64 b]] by subst hX; rfl] at hy
 have HT := Lib.hid (show X.tag = (.mk k n m ls ts, d, b) by subst hX; rfl)
 have HPR := Lib.hid hPRE
 have HRh := Lib.hid hR
 have IH := Lib.hid ih
 have HJs := Lib.hid hJs
 have HY := Lib.hid hY
 have HJ := Lib.hid hJ
 have HB := Lib.hid hB
 rw [TmP] at ok
 obtain ⟨hls, A', len', cap', e9, hlen, hlc', hl47, hnone, hts⟩ := ok
 cases e9
 have HTS := Lib.hid hts
 have HLEN := Lib.hid hlen
 have HTN : Hid (tnodesL ts ≤ N) := by
  rw [tnodes] at hN
  have : tnodesL ts ≤ N := by omega
  exact this
 have HM := Lib.hid hM
 have HND := Lib.hid hnD
 have HDW := Lib.hid hDW
 clear hX hG hPRE hR ih hJs hY hJ hB hts hlen hls hN hM hnD hDW
 refine callsIn_of_wp Tryz.func102 rfl trivial ?_ rfl
 simp only [It.enc, Tryz.ntmps102, List.size_toArray, List.length_cons, List.length_nil, Nat.reduceAdd, Nat.reduceSub, Array.replicate_succ, Array.replicate_zero, List.push_toArray, List.append_toArray, List.nil_append, List.cons_append]
 dsimp only [tv, tplace]
 gi_wp2
 have z1 : (W.alloc (.cells #[.int .i64 k, .int .i64 n, .string m, .slice la ll lc, .slice sa sl sc] 25)).heap.size = W.heap.size + 1 := by simp
 have r1 := heap_alloc_new W (.cells #[.int .i64 k, .int .i64 n, .string m, .slice la ll lc, .slice sa sl sc] 25)
 have r2 := heap_alloc_new (W.alloc (.cells #[.int .i64 k, .int .i64 n, .string m, .slice la ll lc, .slice sa sl sc] 25)) (.cells #[.int .i64 d, .int .i64 b] 113)
 have r1' := (heap_alloc_old (W.alloc (.cells #[.int .i64 k, .int .i64 n, .string m, .slice la ll lc, .slice sa sl sc] 25)) (.cells #[.int .i64 d, .int .i64 b] 113) (r := W.heap.size) (by simp)).trans r1
 have b2 := below_lit W (.cells #[.int .i64 k, .int .i64 n, .string m, .slice la ll lc, .slice sa sl sc] 25)
 have HB3 := Lib.hid (b2.trans ((below_lit (W.alloc (.cells #[.int .i64 k, .int .i64 n, .string m, .slice la ll lc, .slice sa sl sc] 25)) (.cells #[.int .i64 d, .int .i64 b] 113)).mono b2.size))
 rw [z1] at r2
 have hR := HRh.out
 clear HRh b2 r1 z1 hy
 generalize (W.alloc (.cells #[.int .i64 k, .int .i64 n, .string m, .slice la ll lc, .slice sa sl sc] 25)).alloc (.cells #[.int .i64 d, .int .i64 b] 113) = W2 at *
 refine hR.mono ?_
 clear hR
 have HR1 := Lib.hid r1'
 have HR2 := Lib.hid r2
 clear r1' r2
 rintro e W3 (⟨rfl, hJ3, hk3⟩ | ⟨rfl, hx3⟩)
 ·have HJ3 := Lib.hid hJ3
  have HK3 := Lib.hid hk3
  clear hJ3 hk3
  have r1 := HK3.out.2 W.heap.size _ HDW.out HR1.out rfl
  have r2 := HK3.out.2 (W.heap.size + 1) _ (by have := HDW.out; omega) HR2.out rfl
  have HKW := Lib.hid ((KpW.of_below (D := D) (Nat.le_trans HND.out HDW.out) HB3.out).trans HK3.out)
  have HB0 := Lib.hid (HB.out.trans HKW.out.1)
  obtain ⟨c0, c1, c2, c3, c4⟩ := five_cells r1
  gi_wp2
  have HR1' := Lib.hid r1
  have HR2' := Lib.hid r2
  clear r1 r2 c0 c1 c2 c3 c4
  refine wpIn_wide.2 ?_
  go_loopw [17] (fun i wr => ∃ (j : Nat) (ys : List (It w0 G)), j ≤ sl ∧ i = .int .i64 j ∧ Hid (ys.map It.tag = preL k ts.length (ts.take j) 0 (d + 1) b) ∧ Hid (J (xs ++ [X] ++ ys) wr) ∧ Hid (KpW w0.heap.size D W3 wr)) (fun i _ => sl - (intOf i).toNat)
  case atStart => exact ⟨0, [], Nat.zero_le _, rfl, by have : ([] : List (It w0 G)).map It.tag = preL k ts.length (ts.take 0) 0 (d + 1) b := (by simp [preL]); exact this, by have := HJ3.out; rw [← List.append_nil (xs ++ [X])] at this; exact this, KpW.refl _ _ _⟩
  case round =>
   obtain ⟨j, ys, hj, rfl, htag, hJr, hkr⟩ := hrel
   have HKr := Lib.hid (HKW.out.trans hkr.out)
   have HB0r := Lib.hid (HB0.out.trans hkr.out.1)
   have HDr : Hid (D ≤ wr.heap.size) := Nat.le_trans HDW.out (Nat.le_trans HB3.out.size (Nat.le_trans HK3.out.1.size hkr.out.1.size))
   have hR1 := Lib.hid (hkr.out.2 W.heap.size _ HDW.out HR1'.out rfl)
   have hR2 := Lib.hid (hkr.out.2 (W.heap.size + 1) _ (by have := HDW.out; omega) HR2'.out rfl)
   by_cases hlt : j < sl
   ·have hx1 : j < ts.length := by rw [HLEN.out]; exact hlt
    have hln : decide ((j : Int) < (sl : Int)) = true := by simp; omega
    obtain ⟨bk, o, l1, s1, eA, hbs, _, hc0, hc1, hc2, hc3, hc4, htm⟩ := tsP_get HTS.out j hx1
    subst eA
    obtain ⟨⟨xa, xl, xc, rfl⟩, ya, yl, yc, rfl⟩ := tmP_slices htm
    have d0 := (HB0r.out.cell (p := ⟨bk, _, none⟩) hbs).trans hc0
    have d1 := (HB0r.out.cell (p := ⟨bk, _, none⟩) hbs).trans hc1
    have d2 := (HB0r.out.cell (p := ⟨bk, _, none⟩) hbs).trans hc2
    have d3 := (HB0r.out.cell (p := ⟨bk, _, none⟩) hbs).trans hc3
    have d4 := (HB0r.out.cell (p := ⟨bk, _, none⟩) hbs).trans hc4
    obtain ⟨R, hR⟩ : ∃ R, bndP k ts.length j = R := ⟨_, rfl⟩
    have hR1' : R ≤ 1 := by rw [← hR]; exact bndP_le _ _ _
    obtain ⟨dn, hdn⟩ : ∃ q, q = d + 1 := ⟨_, rfl⟩
    obtain ⟨bn, hbn⟩ : ∃ q, q = b + R := ⟨_, rfl⟩
    have hw1 : IntKind.i64.wrap ((d : Int) + 1) = (dn : Int) := (IntWalk.i64_in _ ⟨by omega, by omega⟩).trans (by omega)
    have hw2 : IntKind.i64.wrap ((b : Int) + (R : Int)) = (bn : Int) := (IntWalk.i64_in _ ⟨by omega, by omega⟩).trans (by omega)
    have HTK : Hid (preL k ts.length (ts.take (j + 1)) 0 (d + 1) b = preL k ts.length (ts.take j) 0 (d + 1) b ++ pre ts[j] dn bn) := by
     have := preL_take k ts.length hx1 (d + 1) b
     rw [hR, ← hdn, ← hbn] at this
     rw [hdn] at this ⊢
     exact this
    have HGJ : Hid (∀ q, q ∈ pre ts[j] dn bn → G q) := by
     have : ∀ q, q ∈ pre ts[j] dn bn → G q := fun q hq => by
      refine HG.out q (List.mem_cons_of_mem _ ((preL_pfx k ts.length ts (j + 1) (d + 1) b).subset ?_))
      rw [HTK.out]
      exact List.mem_append_right _ hq
     exact this
    have HLM : Hid ((xs ++ [X] ++ ys).length + (pre ts[j] dn bn).length ≤ M) := by
     have q1 : ys.length = (preL k ts.length (ts.take j) 0 (d + 1) b).length := by rw [← htag.out, List.length_map]
     have q2 := (preL_pfx k ts.length ts (j + 1) (d + 1) b).length_le
     rw [HTK.out, List.length_append] at q2
     have q3 := HM.out
     have : (xs ++ [X] ++ ys).length + (pre ts[j] dn bn).length ≤ M := by
      rw [List.length_append, List.length_append, List.length_singleton, q1]
      omega
     exact this
    have hcall := IH.out ⟨ts[j], xa, xl, xc, ya, yl, yc, dn, bn, htm, HGJ.out _ (pre_head _ _ _)⟩ (xs ++ [X] ++ ys)
    dsimp only [It.enc, tv, tplace] at hcall
    have HCALL := Lib.hid hcall
    have HTJ : Hid (tnodes ts[j] ≤ N) := Nat.le_trans (tnodes_mem (List.getElem_mem hx1)) HTN.out
    have q1 : (0 : Int) ≤ (j : Int) := by omega
    have q2 : (j : Int) < (sl : Int) := by omega
    have HRR : Hid (bndP k sl j = R) := by rw [← HLEN.out]; exact hR
    have hdn6 : dn + N ≤ 1000000 := by omega
    have hbn6 : bn + N ≤ 1000000 := by omega
    clear hcall htm hc0 hc1 hc2 hc3 hc4 hdn hbn hR
    generalize tkOf ts[j] = ka at *
    generalize tnOf ts[j] = na at *
    generalize tmOf ts[j] = ma at *
    obtain ⟨k0, k1, k2, k3, k4⟩ := five_cells hR1.out
    go_wp2_with fail
    have HB4 := Lib.hid (below_lit wr (.cells #[.int .i64 ka, .int .i64 na, .string ma, .slice xa xl xc, .slice ya yl yc] 25))
    have hr8 := heap_alloc_new wr (.cells #[.int .i64 ka, .int .i64 na, .string ma, .slice xa xl xc, .slice ya yl yc] 25)
    have hs8 : wr.heap.size < (wr.alloc (.cells #[.int .i64 ka, .int .i64 na, .string ma, .slice xa xl xc, .slice ya yl yc] 25)).heap.size := by simp
    have hs1 : W.heap.size + 1 < wr.heap.size := (Array.getElem?_eq_some_iff.1 hR2.out).1
    have hk : Hid (∀ W', Below (wr.alloc (.cells #[.int .i64 ka, .int .i64 na, .string ma, .slice xa xl xc, .slice ya yl yc] 25)).heap.size (wr.alloc (.cells #[.int .i64 ka, .int .i64 na, .string ma, .slice xa xl xc, .slice ya yl yc] 25)) W' → W'.cell? ⟨W.heap.size, 0, none⟩ = some (.int .i64 k) ∧ W'.cell? ⟨W.heap.size, 1, none⟩ = some (.int .i64 n) ∧ W'.cell? ⟨W.heap.size, 2, none⟩ = some (.string m) ∧ W'.cell? ⟨W.heap.size, 3, none⟩ = some (.slice la ll lc) ∧ W'.cell? ⟨W.heap.size, 4, none⟩ = some (.slice (some ⟨bk, o, none⟩) sl sc) ∧ W'.cell? ⟨W.heap.size + 1, 0, none⟩ = some (.int .i64 d) ∧ W'.cell? ⟨W.heap.size + 1, 1, none⟩ = some (.int .i64 b) ∧ W'.cell? ⟨wr.heap.size, 0, none⟩ = some (.int .i64 ka) ∧ W'.cell? ⟨wr.heap.size, 1, none⟩ = some (.int .i64 na) ∧ W'.cell? ⟨wr.heap.size, 2, none⟩ = some (.string ma) ∧ W'.cell? ⟨wr.heap.size, 3, none⟩ = some (.slice xa xl xc) ∧ W'.cell? ⟨wr.heap.size, 4, none⟩ = some (.slice ya yl yc)) := fun W' h => by
     obtain ⟨a0, a1, a2, a3, a4⟩ := five_cells ((h.block W.heap.size (by omega)).trans ((HB4.out.block W.heap.size (by omega)).trans hR1.out))
     have hp := (h.block (W.heap.size + 1) (by omega)).trans ((HB4.out.block (W.heap.size + 1) (by omega)).trans hR2.out)
     have b0 := cell_of_row _ _ 0 _ 113 (0, 0) hp
     have b1 := cell_of_row _ _ 1 _ 113 (0, 0) hp
     obtain ⟨e0, e1, e2, e3, e4⟩ := five_cells ((h.block wr.heap.size hs8).trans hr8)
     exact ⟨a0, a1, a2, a3, a4, b0, b1, e0, e1, e2, e3, e4⟩
    generalize wr.alloc (.cells #[.int .i64 ka, .int .i64 na, .string ma, .slice xa xl xc, .slice ya yl yc] 25) = W4 at *
    clear d0 d1 d2 d3 d4 k0 k1 k2 k3 k4 hr8
    refine region_E (S := fun W' => W'.cell? ⟨W.heap.size, 0, none⟩ = some (.int .i64 k) ∧ W'.cell? ⟨W.heap.size, 1, none⟩ = some (.int .i64 n) ∧ W'.cell? ⟨W.heap.size, 2, none⟩ = some (.string m) ∧ W'.cell? ⟨W.heap.size, 3, none⟩ = some (.slice la ll lc) ∧ W'.cell? ⟨W.heap.size, 4, none⟩ = some (.slice (some ⟨bk, o, none⟩) sl sc) ∧ W'.cell? ⟨W.heap.size + 1, 0, none⟩ = some (.int .i64 d) ∧ W'.cell? ⟨W.heap.size + 1, 1, none⟩ = some (.int .i64 b) ∧ W'.cell? ⟨wr.heap.size, 0, none⟩ = some (.int .i64 ka) ∧ W'.cell? ⟨wr.heap.size, 1, none⟩ = some (.int .i64 na) ∧ W'.cell? ⟨wr.heap.size, 2, none⟩ = some (.string ma) ∧ W'.cell? ⟨wr.heap.size, 3, none⟩ = some (.slice xa xl xc) ∧ W'.cell? ⟨wr.heap.size, 4, none⟩ = some (.slice ya yl yc)) 12 (by kernel_rfl) ?_
    refine (fun (hHeld : (fun W' : World => W'.cell? ⟨W.heap.size, 0, none⟩ = some (.int .i64 k) ∧ W'.cell? ⟨W.heap.size, 1, none⟩ = some (.int .i64 n) ∧ W'.cell? ⟨W.heap.size, 2, none⟩ = some (.string m) ∧ W'.cell? ⟨W.heap.size, 3, none⟩ = some (.slice la ll lc) ∧ W'.cell? ⟨W.heap.size, 4, none⟩ = some (.slice (some ⟨bk, o, none⟩) sl sc) ∧ W'.cell? ⟨W.heap.size + 1, 0, none⟩ = some (.int .i64 d) ∧ W'.cell? ⟨W.heap.size + 1, 1, none⟩ = some (.int .i64 b) ∧ W'.cell? ⟨wr.heap.size, 0, none⟩ = some (.int .i64 ka) ∧ W'.cell? ⟨wr.heap.size, 1, none⟩ = some (.int .i64 na) ∧ W'.cell? ⟨wr.heap.size, 2, none⟩ = some (.string ma) ∧ W'.cell? ⟨wr.heap.size, 3, none⟩ = some (.slice xa xl xc) ∧ W'.cell? ⟨wr.heap.size, 4, none⟩ = some (.slice ya yl yc)) _) => ?_) (hk.out _ ((Below.refl _ _).drew))
    refine take_E (i := 0) (v := ?_) 0 [] rfl (by kernel_rfl) (by kernel_rfl) (by kernel_rfl) (by kernel_rfl) rfl (by decide) (by kernel_rfl) rfl (fun _ _ _ h => h) (by rfl) ?_ hHeld ?_
    rotate_left
    ·intro w hSw
     (try dsimp only at hSw)
     go_simp
     try with_reducible rfl
    try simp only [Act.put, s1q, s2q, s3q]
    refine take_E (i := 1) (v := ?_) 10 [3, 2, 1] rfl (by kernel_rfl) (by kernel_rfl) (by kernel_rfl) (by kernel_rfl) rfl (by decide) (by kernel_rfl) rfl (fun _ _ _ h => h) (by rfl) ?_ hHeld ?_
    rotate_left
    ·intro w hSw
     (try dsimp only at hSw)
     go_simp
     try with_reducible rfl
    try simp only [Act.put, s1q, s2q, s3q]
    refine take_E (i := 2) (v := ?_) 10 [3, 2] rfl (by kernel_rfl) (by kernel_rfl) (by kernel_rfl) (by kernel_rfl) rfl (by decide) (by kernel_rfl) rfl (fun _ _ _ h => h) (by rfl) ?_ hHeld ?_
    rotate_left
    ·intro w hSw
     (try dsimp only at hSw)
     go_simp
     try with_reducible rfl
    try simp only [Act.put, s1q, s2q, s3q]
    refine take_E (i := 3) (v := ?_) 10 [3] rfl (by kernel_rfl) (by kernel_rfl) (by kernel_rfl) (by kernel_rfl) rfl (by decide) (by kernel_rfl) rfl (fun _ _ _ h => h) (by rfl) ?_ hHeld ?_
    rotate_left
    ·intro w hSw
     (try dsimp only at hSw)
     go_simp
     try with_reducible rfl
    try simp only [Act.put, s1q, s2q, s3q]
    refine take_E (i := 4) (v := ?_) 10 [9, 5, 4] rfl (by kernel_rfl) (by kernel_rfl) (by kernel_rfl) (by kernel_rfl) rfl (by decide) (by kernel_rfl) rfl (fun _ _ _ h => h) (by rfl) ?_ hHeld ?_
    rotate_left
    ·intro w hSw
     (try dsimp only at hSw)
     go_simp
     try with_reducible rfl
    try simp only [Act.put, s1q, s2q, s3q]
    refine take_E (i := 5) (v := ?_) 10 [9, 5] rfl (by kernel_rfl) (by kernel_rfl) (by kernel_rfl) (by kernel_rfl) rfl (by decide) (by kernel_rfl) rfl (fun _ _ _ h => h) (by rfl) ?_ hHeld ?_
    rotate_left
    ·intro w hSw
     (try dsimp only at hSw)
     go_simp
     try with_reducible rfl
    try simp only [Act.put, s1q, s2q, s3q]
    refine take_E (i := 6) (v := ?_) 10 [9, 8, 6] rfl (by kernel_rfl) (by kernel_rfl) (by kernel_rfl) (by kernel_rfl) rfl (by decide) (by kernel_rfl) rfl (fun _ _ _ h => h) (by rfl) ?_ hHeld ?_
    rotate_left
    ·intro w hSw
     (try dsimp only at hSw)
     go_simp
     try with_reducible rfl
    try simp only [Act.put, s1q, s2q, s3q]
    refine take_E (i := 7) (v := ?_) 10 [9, 8, 7] rfl (by kernel_rfl) (by kernel_rfl) (by kernel_rfl) (by kernel_rfl) rfl (by decide) (by kernel_rfl) rfl (fun _ _ _ h => h) (by rfl) ?_ hHeld ?_
    rotate_left
    ·intro w hSw
     (try dsimp only at hSw)
     go_simp
     try with_reducible rfl
    try simp only [Act.put, s1q, s2q, s3q]
    refine take_E (i := 11) (v := ?_) 11 [] rfl (by kernel_rfl) (by kernel_rfl) (by kernel_rfl) (by kernel_rfl) rfl (by decide) (by kernel_rfl) rfl (fun _ _ _ h => h) (by rfl) ?_ hHeld ?_
    rotate_left
    ·intro w hSw
     (try dsimp only at hSw)
     go_simp
     try with_reducible rfl
    try simp only [Act.put, s1q, s2q, s3q]
    refine only_E (i := 8) rfl (by kernel_rfl) (fun K hK => ?_)
    clear hHeld
    go_simp
    go_at_call 131
    refine (binds_is k n m _ (some ⟨bk, o, none⟩) sl sc j _ hl47 la ll lc rfl).mono ?_
    rintro e w5 ⟨rfl, hb5⟩
    rw [HRR.out]
    have HC5 := Lib.hid ((Below.refl _ _).drew.trans hb5)
    clear hb5
    try (go_wp2_with fail)
    refine (fun (hHeld : (fun W' : World => W'.cell? ⟨W.heap.size, 0, none⟩ = some (.int .i64 k) ∧ W'.cell? ⟨W.heap.size, 1, none⟩ = some (.int .i64 n) ∧ W'.cell? ⟨W.heap.size, 2, none⟩ = some (.string m) ∧ W'.cell? ⟨W.heap.size, 3, none⟩ = some (.slice la ll lc) ∧ W'.cell? ⟨W.heap.size, 4, none⟩ = some (.slice (some ⟨bk, o, none⟩) sl sc) ∧ W'.cell? ⟨W.heap.size + 1, 0, none⟩ = some (.int .i64 d) ∧ W'.cell? ⟨W.heap.size + 1, 1, none⟩ = some (.int .i64 b) ∧ W'.cell? ⟨wr.heap.size, 0, none⟩ = some (.int .i64 ka) ∧ W'.cell? ⟨wr.heap.size, 1, none⟩ = some (.int .i64 na) ∧ W'.cell? ⟨wr.heap.size, 2, none⟩ = some (.string ma) ∧ W'.cell? ⟨wr.heap.size, 3, none⟩ = some (.slice xa xl xc) ∧ W'.cell? ⟨wr.heap.size, 4, none⟩ = some (.slice ya yl yc)) _) => hK.out _ _ (fun _ => hHeld) ?_) (hk.out w5 HC5.out)
    clear hK K
    try simp only [Act.put, s1q, s2q, s3q]
    refine take_E (i := 9) (v := ?_) 10 [9] rfl (by kernel_rfl) (by kernel_rfl) (by kernel_rfl) (by kernel_rfl) rfl (by decide) (by kernel_rfl) rfl (fun _ _ _ h => h) (by rfl) ?_ hHeld ?_
    rotate_left
    ·intro w hSw
     (try dsimp only at hSw)
     go_simp
     try with_reducible rfl
    try simp only [Act.put, s1q, s2q, s3q]
    refine take_E (i := 10) (v := ?_) 10 [] rfl (by kernel_rfl) (by kernel_rfl) (by kernel_rfl) (by kernel_rfl) rfl (by decide) (by kernel_rfl) rfl (fun _ _ _ h => h) (by rfl) ?_ hHeld ?_
    rotate_left
    ·intro w hSw
     (try dsimp only at hSw)
     go_simp
     try with_reducible rfl
    try simp only [Act.put, s1q, s2q, s3q]
    refine only_E (i := 12) rfl (by kernel_rfl) (fun K hK => ?_)
    clear hHeld
    go_simp
    have HW5 := Lib.hid (HB4.out.trans (HC5.out.mono HB4.out.size))
    go_at_call 102
    refine (callsIn_wide.1 (HCALL.out w5 HTJ.out (by omega) hdn6 hbn6 (HJ.out _ _ _ HW5.out hJr.out) (HB0r.out.trans (HW5.out.mono HB0r.out.size)) HND.out (Nat.le_trans HDr.out HW5.out.size) HLM.out HGJ.out)).mono ?_
    rintro e w6 (⟨rfl, zs, hz1, hz2, hz3⟩ | ⟨rfl, zs, hz1, hz2⟩)
    ·have HTG : Hid ((ys ++ zs).map It.tag = preL k ts.length (ts.take (j + 1)) 0 (d + 1) b) := by
      have : (ys ++ zs).map It.tag = preL k ts.length (ts.take (j + 1)) 0 (d + 1) b := by rw [List.map_append, htag.out, hz1, HTK.out]
      exact this
     have HJZ : Hid (J (xs ++ [X] ++ (ys ++ zs)) w6) := by
      have := hz2
      rw [List.append_assoc _ ys zs] at this
      exact this
     have HKZ : Hid (KpW w0.heap.size D W3 w6) := hkr.out.trans ((KpW.of_below HB0r.out.size HW5.out).trans hz3)
     clear hz1 hz2 hz3
     try (go_wp2_with fail)
     refine hK.out _ _ (fun h => by cases h) ?_
     clear hK K
     try simp only [Act.put, s1q, s2q, s3q]
     refine only_E (i := 13) rfl (by kernel_rfl) (fun K hK => ?_)
     go_simp
     try (go_wp2_with fail)
     refine hK.out _ _ (fun h => by cases h) ?_
     clear hK K
     try simp only [Act.put, s1q, s2q, s3q]
     refine done_E (by kernel_rfl) ?_ _
     go_wp2_with fail
     go_roundw
     case rel => exact ⟨j + 1, ys ++ zs, by omega, by go_num, HTG.out, HJZ.out, HKZ.out⟩
     case measure => simp [intOf]; omega
    ·have HTG : Hid ((X :: (ys ++ zs)).map It.tag <+: pre (.mk k n m ls ts) d b) := by
      have : (X :: (ys ++ zs)).map It.tag <+: pre (.mk k n m ls ts) d b := by
       rw [HPR.out, List.map_cons, HT.out, List.map_append, htag.out]
       refine List.prefix_cons_inj _ |>.2 (List.IsPrefix.trans ?_ (preL_pfx k ts.length ts (j + 1) (d + 1) b))
       rw [HTK.out]
       exact (List.prefix_append_right_inj _).2 hz1
      exact this
     have HJZ : Hid (Jx (xs ++ (X :: (ys ++ zs))) w6) := by
      have := hz2
      rw [List.append_assoc _ ys zs, List.append_assoc xs] at this
      exact this
     clear hz1 hz2
     try (go_wp2_with fail)
     refine hK.out _ _ (fun h => by cases h) ?_
     clear hK K
     try simp only [Act.put, s1q, s2q, s3q]
     refine only_E (i := 13) rfl (by kernel_rfl) (fun K hK => ?_)
     go_simp
     try (go_wp2_with fail)
     refine hK.out _ _ (fun h => by cases h) ?_
     clear hK K
     try simp only [Act.put, s1q, s2q, s3q]
     refine done_E (by kernel_rfl) ?_ _
     go_wp2_with fail
     go_ret
     exact .inr ⟨rfl, X :: (ys ++ zs), HTG.out, HJZ.out⟩
   ·obtain rfl : j = sl := by omega
    have hln : decide ((j : Int) < (j : Int)) = false := by simp
    go_wp2_with fail
    gi_wp2
    go_ret
    refine .inl ⟨rfl, X :: ys, ?_, ?_, HKr.out⟩
    ·rw [List.map_cons, HT.out, htag.out, HPR.out, List.take_of_length_le (by rw [HLEN.out]; exact Nat.le_refl _)]
    ·have := hJr.out
     rw [List.append_assoc] at this
     exact this
 ·gi_wp2
  go_ret
  exact .inr ⟨rfl, [X], by rw [HPR.out, List.map_cons, HT.out]; exact ⟨_, rfl⟩, hx3⟩
end Trm
end Go.Proofs.YteomfakbbcpckaaGreatDoor
namespace Go.Proofs.YteomfakbbcpckaaGreatDoor
open Go.RowKit Go.Shelf
open Lvl
namespace Trm
theorem yield_any {m : Nat} (m' : Nat) {P : Program} {l : Nat} {args : Array Value} {W : World} {R : Ending → World → Prop} (h : YieldAt Fence.wide m P l args W R) : YieldAt Fence.wide m' P l args W R := by
 obtain ⟨fn, tmps, assign, body, hy, h1, h2⟩ := h
 exact ⟨fn, tmps, assign, body, hy, h1, fun c cs _ => h2 c cs (room_wide _)⟩
theorem grown_none {W W' : World} (h : Below W.heap.size W W') : W.grownBy W' none :=
 ⟨h.os, h.tape, h.output, h.size, fun k hk _ => h.block k hk⟩
set_option maxHeartbeats 1000000 in
theorem nodes_in (k n : Int) (m : ByteArray) (la : Option Addr) (ll lc : Nat) (sa : Option Addr) (sl sc : Nat) (w : World) :
  Calls Tryz.prog 74 #[.agg #[.int .i64 k, .int .i64 n, .string m, .slice la ll lc, .slice sa sl sc]] w fun e w' => e = .returned (.func (.func 101) #[] #[.pointer (some ⟨w.heap.size, 0, none⟩)]) ∧ w' = w.alloc (.cells #[.int .i64 k, .int .i64 n, .string m, .slice la ll lc, .slice sa sl sc] 25) := by
 go_enter Tryz.func74, Tryz.ntmps74
 go_wp2_with fail
 go_ret
 exact ⟨rfl, rfl⟩
set_option maxRecDepth 100000 in
set_option maxHeartbeats 1000000 in
theorem nodes_stops (w0 : World) (G : Tm × Nat × Nat → Prop) (D B : Nat) (t : Tm) (la : Option Addr) (ll lc : Nat) (sa : Option Addr) (sl sc : Nat) (w : World) (hB : w.heap[B]? = some (.cells #[.int .i64 (tkOf t), .int .i64 (tnOf t), .string (tmOf t), .slice la ll lc, .slice sa sl sc] 25 (0, 0)))
  (ok : TmP w0 (fun _ => True) t (.slice la ll lc) (.slice sa sl sc)) (hD : w0.heap.size ≤ D) (hDw : D ≤ w.heap.size) (hbw : Below w0.heap.size w0 w) (hn : tnodes t ≤ 1000000) (hG : ∀ q, q ∈ pre t 0 0 → G q) :
  SeqStopsK Fence.wide 12 Tryz.prog 101 #[.pointer (some ⟨B, 0, none⟩)] (It.enc (w0 := w0) (G := G)) (KpW w0.heap.size D) (fun xs => xs.map It.tag = pre t 0 0) (fun xs => xs.map It.tag <+: pre t 0 0) (pre t 0 0).length w := by
 intro l J Jx W hW hJ hJx hY h0
 have hr := (hW.block B (Array.getElem?_eq_some_iff.1 hB).1).trans hB
 obtain ⟨c0, c1, c2, c3, c4⟩ := five_cells hr
 have hwalk := walk_up w0 G D l (pre t 0 0).length (fun xs W' => J xs W' ∧ W.heap.size ≤ W'.heap.size) Jx (fun xs W1 W2 h hj => ⟨hJ xs W1 W2 none hj.1 (grown_none h) (fun r e => by cases e), Nat.le_trans hj.2 h.size⟩)
  (fun xs x W1 hj hlt => YieldAt.mono (yield_any 10 (hY xs x W1 hj.1 hlt)) (fun e W2 h => h.elim (fun ⟨he, hj2, hk⟩ => .inl ⟨he, ⟨hj2, Nat.le_trans hj.2 hk.1.size⟩, hk⟩) .inr))
  (tnodes t) ⟨t, la, ll, lc, sa, sl, sc, 0, 0, ok, hG _ (pre_head _ _ _)⟩ [] W (Nat.le_refl _) hn (by dsimp only; omega) (by dsimp only; omega) ⟨h0, Nat.le_refl _⟩ (hbw.trans (hW.mono hbw.size)) hD (Nat.le_trans hDw hW.size) (by simp) hG
 dsimp only [It.enc, tv, tplace] at hwalk
 have HWALK := Lib.hid hwalk
 clear hwalk hY hJ hJx
 refine callsIn_of_wp Tryz.func101 rfl trivial ?_ rfl
 simp only [Tryz.ntmps101, List.size_toArray, List.length_cons, List.length_nil, Nat.reduceAdd, Nat.reduceSub, Array.replicate_succ, Array.replicate_zero, List.push_toArray, List.append_toArray, List.nil_append, List.cons_append]
 gi_wp2
 refine ⟨trivial, ?_⟩
 refine HWALK.out.mono ?_
 rintro e W1 (⟨rfl, ys, h1, h2, _⟩ | ⟨rfl, ys, h1, h2⟩)
 ·gi_wp2
  go_end0
  exact ⟨⟨_, rfl⟩, .inl ⟨ys, h1, by simpa using h2.1⟩⟩
 ·gi_wp2
  go_end0
  exact ⟨⟨_, rfl⟩, .inr ⟨ys, h1, by simpa using h2⟩⟩
end Trm
end Go.Proofs.YteomfakbbcpckaaGreatDoor
namespace Go.Proofs.YteomfakbbcpckaaGreatDoor
open Go.RowKit Go.Shelf
open Lvl
namespace Trm
attribute [local go_sem] Oper.semAt_some
theorem keepsOthers_below {W W' : World} (h : Below W.heap.size W W') : KeepsOthers W W' :=
 ⟨h.size, fun k _ hk _ => (h.block k (Array.getElem?_eq_some_iff.1 hk).1).trans hk⟩
theorem res_cell1 {P : Program} {fn : Func} {p : Tmp} {ty : TypeId} {d : TypeDesc} (h : fn.results = #[.cell p ty]) (tmps : Array Value) (w : World) (g : Nat) (v : Value)
  (hp : tmps.getD p undef = .pointer (some ⟨g, 0, none⟩)) (hc : w.cell? ⟨g, 0, none⟩ = some v) (hu : P.underlying ty = some d) (hd : (∃ k, d = .int k) ∨ d = .bool) :
  (results fn tmps).run P w = .ok v w := by
 have hp' : tmps[p]?.getD undef = .pointer (some ⟨g, 0, none⟩) := by simpa using hp
 have hl : (loadVar ty ⟨g, 0, none⟩).run P w = .ok v w := by
  rcases hd with ⟨k, rfl⟩ | rfl <;> simp [loadVar, isAgg, go_sem, run_underlying hu, hc]
 simp [results, h, hp', asAddr, hl]
def cnt : List (Tm × Nat × Nat) → Nat
 | [] => 0
 | q :: l => 1 + nodesL (tlOf q.1) + cnt l
theorem cnt_append : ∀ (l r : List (Tm × Nat × Nat)), cnt (l ++ r) = cnt l + cnt r
 | [], r => by rw [List.nil_append, cnt]; omega
 | q :: l, r => by rw [List.cons_append, cnt, cnt, cnt_append l r]; omega
mutual
theorem cnt_pre : ∀ (t : Tm) (d b : Nat), cnt (pre t d b) = tnodes t
 | .mk k n m ls ts, d, b => by rw [pre, cnt, tnodes, cnt_preL k ts.length ts 0 (d + 1) b]
theorem cnt_preL (k : Int) (len : Nat) : ∀ (ts : List Tm) (i d b : Nat), cnt (preL k len ts i d b) = tnodesL ts
 | [], _, _, _ => by rw [preL, cnt, tnodesL]
 | a :: ts, i, d, b => by rw [preL, cnt_append, tnodesL, cnt_pre a, cnt_preL k len ts]
end
mutual
theorem pre_deep : ∀ (t : Tm) (d b : Nat), ∀ q, q ∈ pre t d b → tnodes q.1 ≤ tnodes t ∧ q.2.1 + 1 ≤ d + tnodes t ∧ q.2.2 + 1 ≤ b + tnodes t
 | .mk k n m ls ts, d, b, q, hq => by
  rw [pre] at hq
  have hp := tnodes_pos (.mk k n m ls ts)
  rcases List.mem_cons.1 hq with rfl | hq
  ·exact ⟨Nat.le_refl _, by show d + 1 ≤ _; omega, by show b + 1 ≤ _; omega⟩
  ·have := preL_deep k ts.length ts 0 (d + 1) b q hq
   rw [tnodes]
   omega
theorem preL_deep (k : Int) (len : Nat) : ∀ (ts : List Tm) (i d b : Nat), ∀ q, q ∈ preL k len ts i d b → tnodes q.1 ≤ tnodesL ts ∧ q.2.1 + 1 ≤ d + tnodesL ts ∧ q.2.2 + 1 ≤ b + 1 + tnodesL ts
 | [], _, _, _, q, hq => by rw [preL] at hq; cases hq
 | a :: ts, i, d, b, q, hq => by
  rw [preL] at hq
  rw [tnodesL]
  rcases List.mem_append.1 hq with h | h
  ·have := pre_deep a d (b + bndP k len i) q h
   have := bndP_le k len i
   omega
  ·have := preL_deep k len ts (i + 1) d b q h
   omega
end
set_option maxRecDepth 100000 in
set_option maxHeartbeats 4000000 in
theorem count_is (t : Tm) (v : Value) (w : World) (hv : TmV w t v) (hm : tnodes t ≤ 100000) (M : Nat) (hM : M ≤ 100000000) :
  Calls Tryz.prog 123 #[v, .int .i64 M] w (Ret w (.int .i64 (min (tnodes t) (M + 1) : Nat))) := by
 obtain ⟨l, s, rfl, ht⟩ := hv
 obtain ⟨⟨la, ll, lc, rfl⟩, sa, sl, sc, rfl⟩ := tmP_slices ht
 have HTT := Lib.hid ht
 obtain ⟨k, hk⟩ : ∃ k, tkOf t = k := ⟨_, rfl⟩
 obtain ⟨n, hn⟩ : ∃ n, tnOf t = n := ⟨_, rfl⟩
 obtain ⟨m, hmm⟩ : ∃ m, tmOf t = m := ⟨_, rfl⟩
 dsimp only [tv]
 rw [hk, hn, hmm]
 have HK := Lib.hid hk
 have HNN := Lib.hid hn
 have HMM := Lib.hid hmm
 have HM := Lib.hid hm
 clear hk hn hmm ht hm
 refine (callsIn_wide (n := 13)).1 (callsIn_of_wp_marks Tryz.func123 rfl trivial ?_ rfl)
 simp only [Tryz.ntmps123, List.size_toArray, List.length_cons, List.length_nil, Nat.reduceAdd, Nat.reduceSub, Array.replicate_succ, Array.replicate_zero, List.push_toArray, List.append_toArray, List.nil_append, List.cons_append]
 gi_wp2_with (refine ⟨trivial, ?_⟩; gi_at_call 74; refine (callsIn_wide.2 (nodes_in k n m la ll lc sa sl sc _)).mono ?_; rintro e w' ⟨rfl, rfl⟩)
 have z1 : (w.alloc (.cells #[.int .i64 k, .int .i64 n, .string m, .slice la ll lc, .slice sa sl sc] 25)).heap.size = w.heap.size + 1 := by simp
 have z2 : ((w.alloc (.cells #[.int .i64 k, .int .i64 n, .string m, .slice la ll lc, .slice sa sl sc] 25)).alloc (.cells #[.int .i64 M] 3)).heap.size = w.heap.size + 1 + 1 := by simp
 have z3 : (((w.alloc (.cells #[.int .i64 k, .int .i64 n, .string m, .slice la ll lc, .slice sa sl sc] 25)).alloc (.cells #[.int .i64 M] 3)).alloc (.cells #[.int .i64 0] 3)).heap.size = w.heap.size + 1 + 1 + 1 := by simp
 have z4 : ((((w.alloc (.cells #[.int .i64 k, .int .i64 n, .string m, .slice la ll lc, .slice sa sl sc] 25)).alloc (.cells #[.int .i64 M] 3)).alloc (.cells #[.int .i64 0] 3)).alloc (.cells #[.int .i64 0] 3)).heap.size = w.heap.size + 1 + 1 + 1 + 1 := by simp
 have z5 : (((((w.alloc (.cells #[.int .i64 k, .int .i64 n, .string m, .slice la ll lc, .slice sa sl sc] 25)).alloc (.cells #[.int .i64 M] 3)).alloc (.cells #[.int .i64 0] 3)).alloc (.cells #[.int .i64 0] 3)).alloc (.cells #[.int .i64 k, .int .i64 n, .string m, .slice la ll lc, .slice sa sl sc] 25)).heap.size = w.heap.size + 1 + 1 + 1 + 1 + 1 := by simp
 have r0 : (w.alloc (.cells #[.int .i64 k, .int .i64 n, .string m, .slice la ll lc, .slice sa sl sc] 25)).heap[w.heap.size]? = some (Obj.cells #[.int .i64 k, .int .i64 n, .string m, .slice la ll lc, .slice sa sl sc] 25 (0, 0)) := by
  have := heap_alloc_new w (.cells #[.int .i64 k, .int .i64 n, .string m, .slice la ll lc, .slice sa sl sc] 25)
  exact this
 have r1 : ((w.alloc (.cells #[.int .i64 k, .int .i64 n, .string m, .slice la ll lc, .slice sa sl sc] 25)).alloc (.cells #[.int .i64 M] 3)).heap[w.heap.size + 1]? = some (Obj.cells #[.int .i64 M] 3 (0, 0)) := by
  have := heap_alloc_new (w.alloc (.cells #[.int .i64 k, .int .i64 n, .string m, .slice la ll lc, .slice sa sl sc] 25)) (.cells #[.int .i64 M] 3)
  rwa [z1] at this
 have r2 : (((w.alloc (.cells #[.int .i64 k, .int .i64 n, .string m, .slice la ll lc, .slice sa sl sc] 25)).alloc (.cells #[.int .i64 M] 3)).alloc (.cells #[.int .i64 0] 3)).heap[w.heap.size + 1 + 1]? = some (Obj.cells #[.int .i64 0] 3 (0, 0)) := by
  have := heap_alloc_new ((w.alloc (.cells #[.int .i64 k, .int .i64 n, .string m, .slice la ll lc, .slice sa sl sc] 25)).alloc (.cells #[.int .i64 M] 3)) (.cells #[.int .i64 0] 3)
  rwa [z2] at this
 have r3 : ((((w.alloc (.cells #[.int .i64 k, .int .i64 n, .string m, .slice la ll lc, .slice sa sl sc] 25)).alloc (.cells #[.int .i64 M] 3)).alloc (.cells #[.int .i64 0] 3)).alloc (.cells #[.int .i64 0] 3)).heap[w.heap.size + 1 + 1 + 1]? = some (Obj.cells #[.int .i64 0] 3 (0, 0)) := by
  have := heap_alloc_new (((w.alloc (.cells #[.int .i64 k, .int .i64 n, .string m, .slice la ll lc, .slice sa sl sc] 25)).alloc (.cells #[.int .i64 M] 3)).alloc (.cells #[.int .i64 0] 3)) (.cells #[.int .i64 0] 3)
  rwa [z3] at this
 have r4 : (((((w.alloc (.cells #[.int .i64 k, .int .i64 n, .string m, .slice la ll lc, .slice sa sl sc] 25)).alloc (.cells #[.int .i64 M] 3)).alloc (.cells #[.int .i64 0] 3)).alloc (.cells #[.int .i64 0] 3)).alloc (.cells #[.int .i64 k, .int .i64 n, .string m, .slice la ll lc, .slice sa sl sc] 25)).heap[w.heap.size + 1 + 1 + 1 + 1]? = some (Obj.cells #[.int .i64 k, .int .i64 n, .string m, .slice la ll lc, .slice sa sl sc] 25 (0, 0)) := by
  have := heap_alloc_new ((((w.alloc (.cells #[.int .i64 k, .int .i64 n, .string m, .slice la ll lc, .slice sa sl sc] 25)).alloc (.cells #[.int .i64 M] 3)).alloc (.cells #[.int .i64 0] 3)).alloc (.cells #[.int .i64 0] 3)) (.cells #[.int .i64 k, .int .i64 n, .string m, .slice la ll lc, .slice sa sl sc] 25)
  rwa [z4] at this
 have HB := Lib.hid (((((below_lit w (.cells #[.int .i64 k, .int .i64 n, .string m, .slice la ll lc, .slice sa sl sc] 25)).trans ((below_lit (w.alloc (.cells #[.int .i64 k, .int .i64 n, .string m, .slice la ll lc, .slice sa sl sc] 25)) (.cells #[.int .i64 M] 3)).mono (below_lit w (.cells #[.int .i64 k, .int .i64 n, .string m, .slice la ll lc, .slice sa sl sc] 25)).size)).trans ((below_lit ((w.alloc (.cells #[.int .i64 k, .int .i64 n, .string m, .slice la ll lc, .slice sa sl sc] 25)).alloc (.cells #[.int .i64 M] 3)) (.cells #[.int .i64 0] 3)).mono ((below_lit w (.cells #[.int .i64 k, .int .i64 n, .string m, .slice la ll lc, .slice sa sl sc] 25)).trans ((below_lit (w.alloc (.cells #[.int .i64 k, .int .i64 n, .string m, .slice la ll lc, .slice sa sl sc] 25)) (.cells #[.int .i64 M] 3)).mono (below_lit w (.cells #[.int .i64 k, .int .i64 n, .string m, .slice la ll lc, .slice sa sl sc] 25)).size)).size)).trans ((below_lit (((w.alloc (.cells #[.int .i64 k, .int .i64 n, .string m, .slice la ll lc, .slice sa sl sc] 25)).alloc (.cells #[.int .i64 M] 3)).alloc (.cells #[.int .i64 0] 3)) (.cells #[.int .i64 0] 3)).mono (((below_lit w (.cells #[.int .i64 k, .int .i64 n, .string m, .slice la ll lc, .slice sa sl sc] 25)).trans ((below_lit (w.alloc (.cells #[.int .i64 k, .int .i64 n, .string m, .slice la ll lc, .slice sa sl sc] 25)) (.cells #[.int .i64 M] 3)).mono (below_lit w (.cells #[.int .i64 k, .int .i64 n, .string m, .slice la ll lc, .slice sa sl sc] 25)).size)).trans ((below_lit ((w.alloc (.cells #[.int .i64 k, .int .i64 n, .string m, .slice la ll lc, .slice sa sl sc] 25)).alloc (.cells #[.int .i64 M] 3)) (.cells #[.int .i64 0] 3)).mono ((below_lit w (.cells #[.int .i64 k, .int .i64 n, .string m, .slice la ll lc, .slice sa sl sc] 25)).trans ((below_lit (w.alloc (.cells #[.int .i64 k, .int .i64 n, .string m, .slice la ll lc, .slice sa sl sc] 25)) (.cells #[.int .i64 M] 3)).mono (below_lit w (.cells #[.int .i64 k, .int .i64 n, .string m, .slice la ll lc, .slice sa sl sc] 25)).size)).size)).size)).trans ((below_lit ((((w.alloc (.cells #[.int .i64 k, .int .i64 n, .string m, .slice la ll lc, .slice sa sl sc] 25)).alloc (.cells #[.int .i64 M] 3)).alloc (.cells #[.int .i64 0] 3)).alloc (.cells #[.int .i64 0] 3)) (.cells #[.int .i64 k, .int .i64 n, .string m, .slice la ll lc, .slice sa sl sc] 25)).mono ((((below_lit w (.cells #[.int .i64 k, .int .i64 n, .string m, .slice la ll lc, .slice sa sl sc] 25)).trans ((below_lit (w.alloc (.cells #[.int .i64 k, .int .i64 n, .string m, .slice la ll lc, .slice sa sl sc] 25)) (.cells #[.int .i64 M] 3)).mono (below_lit w (.cells #[.int .i64 k, .int .i64 n, .string m, .slice la ll lc, .slice sa sl sc] 25)).size)).trans ((below_lit ((w.alloc (.cells #[.int .i64 k, .int .i64 n, .string m, .slice la ll lc, .slice sa sl sc] 25)).alloc (.cells #[.int .i64 M] 3)) (.cells #[.int .i64 0] 3)).mono ((below_lit w (.cells #[.int .i64 k, .int .i64 n, .string m, .slice la ll lc, .slice sa sl sc] 25)).trans ((below_lit (w.alloc (.cells #[.int .i64 k, .int .i64 n, .string m, .slice la ll lc, .slice sa sl sc] 25)) (.cells #[.int .i64 M] 3)).mono (below_lit w (.cells #[.int .i64 k, .int .i64 n, .string m, .slice la ll lc, .slice sa sl sc] 25)).size)).size)).trans ((below_lit (((w.alloc (.cells #[.int .i64 k, .int .i64 n, .string m, .slice la ll lc, .slice sa sl sc] 25)).alloc (.cells #[.int .i64 M] 3)).alloc (.cells #[.int .i64 0] 3)) (.cells #[.int .i64 0] 3)).mono (((below_lit w (.cells #[.int .i64 k, .int .i64 n, .string m, .slice la ll lc, .slice sa sl sc] 25)).trans ((below_lit (w.alloc (.cells #[.int .i64 k, .int .i64 n, .string m, .slice la ll lc, .slice sa sl sc] 25)) (.cells #[.int .i64 M] 3)).mono (below_lit w (.cells #[.int .i64 k, .int .i64 n, .string m, .slice la ll lc, .slice sa sl sc] 25)).size)).trans ((below_lit ((w.alloc (.cells #[.int .i64 k, .int .i64 n, .string m, .slice la ll lc, .slice sa sl sc] 25)).alloc (.cells #[.int .i64 M] 3)) (.cells #[.int .i64 0] 3)).mono ((below_lit w (.cells #[.int .i64 k, .int .i64 n, .string m, .slice la ll lc, .slice sa sl sc] 25)).trans ((below_lit (w.alloc (.cells #[.int .i64 k, .int .i64 n, .string m, .slice la ll lc, .slice sa sl sc] 25)) (.cells #[.int .i64 M] 3)).mono (below_lit w (.cells #[.int .i64 k, .int .i64 n, .string m, .slice la ll lc, .slice sa sl sc] 25)).size)).size)).size)).size))
 have HR0 := Lib.hid ((heap_alloc_old ((((w.alloc (.cells #[.int .i64 k, .int .i64 n, .string m, .slice la ll lc, .slice sa sl sc] 25)).alloc (.cells #[.int .i64 M] 3)).alloc (.cells #[.int .i64 0] 3)).alloc (.cells #[.int .i64 0] 3)) (.cells #[.int .i64 k, .int .i64 n, .string m, .slice la ll lc, .slice sa sl sc] 25) (by rw [z4]; omega)).trans ((heap_alloc_old (((w.alloc (.cells #[.int .i64 k, .int .i64 n, .string m, .slice la ll lc, .slice sa sl sc] 25)).alloc (.cells #[.int .i64 M] 3)).alloc (.cells #[.int .i64 0] 3)) (.cells #[.int .i64 0] 3) (by rw [z3]; omega)).trans ((heap_alloc_old ((w.alloc (.cells #[.int .i64 k, .int .i64 n, .string m, .slice la ll lc, .slice sa sl sc] 25)).alloc (.cells #[.int .i64 M] 3)) (.cells #[.int .i64 0] 3) (by rw [z2]; omega)).trans ((heap_alloc_old (w.alloc (.cells #[.int .i64 k, .int .i64 n, .string m, .slice la ll lc, .slice sa sl sc] 25)) (.cells #[.int .i64 M] 3) (by rw [z1]; omega)).trans (r0)))))
 have HR1 := Lib.hid ((heap_alloc_old ((((w.alloc (.cells #[.int .i64 k, .int .i64 n, .string m, .slice la ll lc, .slice sa sl sc] 25)).alloc (.cells #[.int .i64 M] 3)).alloc (.cells #[.int .i64 0] 3)).alloc (.cells #[.int .i64 0] 3)) (.cells #[.int .i64 k, .int .i64 n, .string m, .slice la ll lc, .slice sa sl sc] 25) (by rw [z4]; omega)).trans ((heap_alloc_old (((w.alloc (.cells #[.int .i64 k, .int .i64 n, .string m, .slice la ll lc, .slice sa sl sc] 25)).alloc (.cells #[.int .i64 M] 3)).alloc (.cells #[.int .i64 0] 3)) (.cells #[.int .i64 0] 3) (by rw [z3]; omega)).trans ((heap_alloc_old ((w.alloc (.cells #[.int .i64 k, .int .i64 n, .string m, .slice la ll lc, .slice sa sl sc] 25)).alloc (.cells #[.int .i64 M] 3)) (.cells #[.int .i64 0] 3) (by rw [z2]; omega)).trans (r1))))
 have HR2 := Lib.hid ((heap_alloc_old ((((w.alloc (.cells #[.int .i64 k, .int .i64 n, .string m, .slice la ll lc, .slice sa sl sc] 25)).alloc (.cells #[.int .i64 M] 3)).alloc (.cells #[.int .i64 0] 3)).alloc (.cells #[.int .i64 0] 3)) (.cells #[.int .i64 k, .int .i64 n, .string m, .slice la ll lc, .slice sa sl sc] 25) (by rw [z4]; omega)).trans ((heap_alloc_old (((w.alloc (.cells #[.int .i64 k, .int .i64 n, .string m, .slice la ll lc, .slice sa sl sc] 25)).alloc (.cells #[.int .i64 M] 3)).alloc (.cells #[.int .i64 0] 3)) (.cells #[.int .i64 0] 3) (by rw [z3]; omega)).trans (r2)))
 have HR3 := Lib.hid ((heap_alloc_old ((((w.alloc (.cells #[.int .i64 k, .int .i64 n, .string m, .slice la ll lc, .slice sa sl sc] 25)).alloc (.cells #[.int .i64 M] 3)).alloc (.cells #[.int .i64 0] 3)).alloc (.cells #[.int .i64 0] 3)) (.cells #[.int .i64 k, .int .i64 n, .string m, .slice la ll lc, .slice sa sl sc] 25) (by rw [z4]; omega)).trans (r3))
 have HR4 := Lib.hid (r4)
 clear r0 r1 r2 r3 r4
 generalize (((((w.alloc (.cells #[.int .i64 k, .int .i64 n, .string m, .slice la ll lc, .slice sa sl sc] 25)).alloc (.cells #[.int .i64 M] 3)).alloc (.cells #[.int .i64 0] 3)).alloc (.cells #[.int .i64 0] 3)).alloc (.cells #[.int .i64 k, .int .i64 n, .string m, .slice la ll lc, .slice sa sl sc] 25)) = W5 at *
 have HZ := Lib.hid z5
 clear z1 z2 z3 z4 z5
 have hGG : ∀ q, q ∈ pre t 0 0 → (fun q : Tm × Nat × Nat => tnodes q.1 ≤ 100000 ∧ q.2.1 ≤ 100000) q := fun q hq => by
  have := pre_deep t 0 0 q hq
  have := HM.out
  dsimp only
  omega
 refine wpIn_rangeFunc_ownH rfl (by decide) (gf := 101) (lb := #[.pointer (some ⟨w.heap.size + 1 + 1 + 1 + 1, 0, none⟩)]) rfl trivial (enters_of Tryz.func101 (by kernel_rfl) rfl) (encs := fun x : It w (fun q : Tm × Nat × Nat => tnodes q.1 ≤ 100000 ∧ q.2.1 ≤ 100000) => #[.agg #[.int .i64 (tkOf x.t), .int .i64 (tnOf x.t), .string (tmOf x.t), .slice x.la x.ll x.lc, .slice x.sa x.sl x.sc], .agg #[.int .i64 x.d, .int .i64 x.b]])
  (nodes_stops w (fun q : Tm × Nat × Nat => tnodes q.1 ≤ 100000 ∧ q.2.1 ≤ 100000) W5.heap.size (w.heap.size + 1 + 1 + 1 + 1) t la ll lc sa sl sc W5 (by rw [HK.out, HNN.out, HMM.out]; exact HR4.out) HTT.out (by rw [HZ.out]; omega) (Nat.le_refl _) HB.out (by have := HM.out; omega) hGG) (fun h k => h.trans k) (KpW.put (by rw [HZ.out]; omega) rfl) (Below.refl _ _) (fun _ => rfl)
  (fun xs W => ((Boxed W (w.heap.size + 1) 3 (.int .i64 M) ∧ Boxed W (w.heap.size + 1 + 1) 3 (.int .i64 0)) ∧ Boxed W (w.heap.size + 1 + 1 + 1) 3 (.int .i64 (cnt (xs.map It.tag)))) ∧ (cnt (xs.map It.tag) ≤ M ∧ Below w.heap.size W5 W))
  (fun c xs W => (c = .ret ∧ M < cnt (xs.map It.tag)) ∧ (Boxed W (w.heap.size + 1 + 1) 3 (.int .i64 (M + 1)) ∧ Below w.heap.size W5 W))
  (OwnFrom.and (OwnFrom.and (OwnFrom.and (Own.from (boxed_own _ _ _) _) (Own.from (boxed_own _ _ _) _)) (Own.from (boxed_own _ _ (fun xs : List (It w (fun q : Tm × Nat × Nat => tnodes q.1 ≤ 100000 ∧ q.2.1 ≤ 100000)) => Value.int .i64 (cnt (xs.map It.tag)))) _)) (OwnFrom.and (ownFrom_pure _ _) (ownFrom_below (by rw [HZ.out]; omega) (by rw [HZ.out]; omega))))
  (fun c => OwnFrom.and (ownFrom_pure _ _) (OwnFrom.and (Own.from (boxed_own _ _ _) _) (ownFrom_below (by rw [HZ.out]; omega) (by rw [HZ.out]; omega))))
  ⟨⟨⟨HR1.out, HR2.out⟩, HR3.out⟩, Nat.zero_le _, Below.refl _ _⟩
  (fun x a' W => (∃ Bn Ba, a' = { tmps := #[.agg #[.int .i64 k, .int .i64 n, .string m, .slice la ll lc, .slice sa sl sc], .int .i64 M, .pointer (some ⟨w.heap.size, 0, none⟩), .pointer (some ⟨w.heap.size + 1, 0, none⟩), .pointer (some ⟨w.heap.size + 1 + 1, 0, none⟩), .pointer (some ⟨w.heap.size + 1 + 1 + 1, 0, none⟩), .pointer (some ⟨Bn, 0, none⟩), .pointer (some ⟨Ba, 0, none⟩), .agg #[.int .i64 k, .int .i64 n, .string m, .slice la ll lc, .slice sa sl sc], .func (.func 101) #[] #[.pointer (some ⟨w.heap.size + 1 + 1 + 1 + 1, 0, none⟩)], .agg #[.int .i64 (tkOf x.t), .int .i64 (tnOf x.t), .string (tmOf x.t), .slice x.la x.ll x.lc, .slice x.sa x.sl x.sc], .agg #[.int .i64 x.d, .int .i64 x.b], undef, undef, undef, undef, undef, undef, undef, undef, undef, undef, undef, undef, undef, undef, undef, undef, undef, undef, undef, undef, undef], defers := [] } ∧ (w.heap.size + 1 + 1 + 1 + 1 + 1 ≤ Bn ∧ w.heap.size + 1 + 1 + 1 + 1 + 1 ≤ Ba) ∧ W.heap[Bn]? = some (.cells #[.int .i64 (tkOf x.t), .int .i64 (tnOf x.t), .string (tmOf x.t), .slice x.la x.ll x.lc, .slice x.sa x.sl x.sc] 25 (0, 0)) ∧ W.heap[Ba]? = some (.cells #[.int .i64 x.d, .int .i64 x.b] 113 (0, 0))))
  (fun x a' _ X Y row hs hg hr => by
   obtain ⟨Bn, Ba, h1, h2, h3, h4⟩ := hs
   exact ⟨Bn, Ba, h1, h2, (grownBy_keeps_cells hg (fun r e => (hr r e).2) h3 rfl).trans h3, (grownBy_keeps_cells hg (fun r e => (hr r e).2) h4 rfl).trans h4⟩)
  ?assign ?body ?done ?stop
 case assign =>
  rintro l xs x W K ⟨⟨⟨b1, b2⟩, b3⟩, hc, hB1⟩ hK
  have hsz : w.heap.size + 1 + 1 + 1 + 1 + 1 ≤ W.heap.size := by rw [← HZ.out]; exact hB1.size
  gi_wp2
  have hb := below_lit W (.cells #[.int .i64 (tkOf x.t), .int .i64 (tnOf x.t), .string (tmOf x.t), .slice x.la x.ll x.lc, .slice x.sa x.sl x.sc] 25)
  have hb2 := hb.trans ((below_lit (W.alloc (.cells #[.int .i64 (tkOf x.t), .int .i64 (tnOf x.t), .string (tmOf x.t), .slice x.la x.ll x.lc, .slice x.sa x.sl x.sc] 25)) (.cells #[.int .i64 x.d, .int .i64 x.b] 113)).mono hb.size)
  refine hK _ _ (((KeepsOthers.alloc _ _).trans (KeepsOthers.alloc _ _)).from _) (KpW.of_below (by omega) hb2) ⟨⟨⟨(b1.alloc _).alloc _, (b2.alloc _).alloc _⟩, (b3.alloc _).alloc _⟩, hc, hB1.trans (hb2.mono (by omega))⟩ ⟨_, _, rfl, ⟨hsz, by omega⟩, ?_, ?_⟩
  ·exact (heap_alloc_old _ _ (by simp)).trans (heap_alloc_new W _)
  ·have := heap_alloc_new (W.alloc (.cells #[.int .i64 (tkOf x.t), .int .i64 (tnOf x.t), .string (tmOf x.t), .slice x.la x.ll x.lc, .slice x.sa x.sl x.sc] 25)) (.cells #[.int .i64 x.d, .int .i64 x.b] 113)
   rwa [World.size_alloc] at this
 case body =>
  rintro l xs x a' W hl _ ⟨⟨⟨b1, b2⟩, b3⟩, hc, hB1⟩ ⟨Bn, Ba, rfl, ⟨hn1, ha1⟩, hrn, hra⟩ _
  have c1 := b1.cell
  have c3 := b3.cell
  have f3 := b3.frozen
  gi_wp2
  have hnB : w.heap.size + 1 + 1 + 1 + 1 + 1 ≤ W.heap.size := by rw [← HZ.out]; exact hB1.size
  have HLv : Hid (LvS w (.mk 0 0 (tlOf x.t)) (.slice x.la x.ll x.lc)) := by
   have : LvS w (.mk 0 0 (tlOf x.t)) (.slice x.la x.ll x.lc) := by
    have := x.ok
    generalize x.t = q at this
    cases q with
    | mk k n m ls ts => rw [TmP] at this; exact lvS_of _ _ this.1
   exact this
  have HLN : Hid (nodesL (tlOf x.t) ≤ 100000) := by
   have : nodesL (tlOf x.t) ≤ 100000 := by
    have := x.g.1
    dsimp only at this
    generalize x.t = q at this ⊢
    cases q with
    | mk k n m ls ts => rw [tnodes] at this; show nodesL ls ≤ _; omega
   exact this
  have hxd : decide ((131072 : Int) < (x.d : Int)) = false := by have := x.g.2; dsimp only at this; simp; omega
  obtain ⟨c, hcd⟩ : ∃ c, cnt (xs.map It.tag) = c := ⟨_, rfl⟩
  rw [hcd] at b3 c3 hc ⊢
  have HCD : Hid (cnt ((xs ++ [x]).map It.tag) = c + 1 + nodesL (tlOf x.t)) := by
   have : cnt ((xs ++ [x]).map It.tag) = c + 1 + nodesL (tlOf x.t) := by
    rw [List.map_append, cnt_append, hcd, List.map_cons, List.map_nil, cnt, cnt]
    show c + (1 + nodesL (tlOf x.t) + 0) = _
    omega
   exact this
  obtain ⟨W6, hW6⟩ : ∃ W6, W.setCell ⟨w.heap.size + 1 + 1 + 1, 0, none⟩ (.int .i64 ((c : Int) + 1)) = W6 := ⟨_, rfl⟩
  have g1 : Boxed W6 (w.heap.size + 1) 3 (.int .i64 M) := by rw [← hW6]; exact b1.other (by omega) _
  have g2 : Boxed W6 (w.heap.size + 1 + 1) 3 (.int .i64 0) := by rw [← hW6]; exact b2.other (by omega) _
  have g3 : Boxed W6 (w.heap.size + 1 + 1 + 1) 3 (.int .i64 ((c : Int) + 1)) := by rw [← hW6]; exact b3.set _
  have hrn6 : W6.heap[Bn]? = _ := (show W6.heap[Bn]? = W.heap[Bn]? by rw [← hW6]; exact setCell_far _ _ _ _ (by show Bn ≠ w.heap.size + 1 + 1 + 1; omega)).trans hrn
  have hra6 : W6.heap[Ba]? = _ := (show W6.heap[Ba]? = W.heap[Ba]? by rw [← hW6]; exact setCell_far _ _ _ _ (by show Ba ≠ w.heap.size + 1 + 1 + 1; omega)).trans hra
  have HK6 : Hid (KpW w.heap.size W5.heap.size W W6) := by
   have : KpW w.heap.size W5.heap.size W W6 := by
    rw [← hW6]
    exact KpW.set_far (by omega) (by rw [HZ.out]; omega)
   exact this
  have HO6 : Hid (KeepsOthers W W6) := by
   have : KeepsOthers W W6 := by rw [← hW6]; exact KeepsOthers.setCell _ _ _
   exact this
  have hs6 : W6.heap.size = W.heap.size := by rw [← hW6, setCell_size]
  rw [hW6]
  clear hW6 c1 c3 f3 b1 b2 b3 hrn hra
  have HG1 := Lib.hid g1
  have HG2 := Lib.hid g2
  have HG3 := Lib.hid g3
  have HRN := Lib.hid hrn6
  have HRA := Lib.hid hra6
  have HBW := Lib.hid (HB.out.trans hB1)
  have c1 : W6.drew.cell? ⟨w.heap.size + 1, 0, none⟩ = _ := g1.cell
  have c3 : W6.drew.cell? ⟨w.heap.size + 1 + 1 + 1, 0, none⟩ = _ := g3.cell
  have n3 : W6.drew.cell? ⟨Bn, 3, none⟩ = _ := (five_cells hrn6).2.2.2.1
  have HML : Hid ((M : Int) - ((c : Int) + 1) = ((M - c : Nat) : Int) - 1) := by
   have : (M : Int) - ((c : Int) + 1) = ((M - c : Nat) : Int) - 1 := by omega
   exact this
  have hcM : (c : Int) ≤ (M : Int) := by omega
  have hMM : (M : Int) ≤ 100000000 := by omega
  clear g1 g2 g3 hrn6 hra6 hcd
  have hcall := CallsIn.inRound l ((callsIn_wide (n := 10)).2 (countLevels_up 131072 (tlOf x.t) _ W6.drew ((M : Int) - ((c : Int) + 1)) (M - c) 131072 (by have := HLN.out; omega) (by omega) (by omega) (by omega) HML.out (lvS_below (HBW.out.trans (HK6.out.1)).drew _ _ HLv.out)))
  have HCALL := Lib.hid hcall
  clear hcall
  obtain ⟨q, hq⟩ : ∃ q, min (nodesL (tlOf x.t)) (M - c) = q := ⟨_, rfl⟩
  have hqM : (q : Int) ≤ (M : Int) - (c : Int) := by omega
  have HQ := Lib.hid hq
  clear hq
  have hmix : Tryz.prog.follows Departure.mixedOrders = true := by kernel_rfl
  have hww : IntKind.i64.wrap ((M : Int) - ((c : Int) + 1)) = (M : Int) - ((c : Int) + 1) := IntWalk.i64_in _ ⟨by omega, by omega⟩
  refine wpIn_mono (Q := fun e a' W' => ∃ w7, (Below W6.heap.size W6 w7 ∧ Boxed w7 (w.heap.size + 1 + 1 + 1) 3 (.int .i64 ((c : Int) + 1))) ∧ e = .normal ∧ a' = { tmps := #[.agg #[.int .i64 k, .int .i64 n, .string m, .slice la ll lc, .slice sa sl sc], .int .i64 M, .pointer (some ⟨w.heap.size, 0, none⟩), .pointer (some ⟨w.heap.size + 1, 0, none⟩), .pointer (some ⟨w.heap.size + 1 + 1, 0, none⟩), .pointer (some ⟨w.heap.size + 1 + 1 + 1, 0, none⟩), .pointer (some ⟨Bn, 0, none⟩), .pointer (some ⟨Ba, 0, none⟩), .agg #[.int .i64 k, .int .i64 n, .string m, .slice la ll lc, .slice sa sl sc], .func (.func 101) #[] #[.pointer (some ⟨w.heap.size + 1 + 1 + 1 + 1, 0, none⟩)], .agg #[.int .i64 (tkOf x.t), .int .i64 (tnOf x.t), .string (tmOf x.t), .slice x.la x.ll x.lc, .slice x.sa x.sl x.sc], .agg #[.int .i64 x.d, .int .i64 x.b], .int .i64 c, .int .i64 ((c : Int) + 1), .int .i64 ((c : Int) + 1), .pointer (some ⟨Bn, 3, none⟩), .slice x.la x.ll x.lc, .int .i64 M, .int .i64 ((c : Int) + 1), .int .i64 ((M : Int) - ((c : Int) + 1)), .int .i64 q, .int .i64 ((c : Int) + 1 + (q : Int)), undef, undef, undef, undef, undef, undef, undef, undef, undef, undef, undef], defers := [] } ∧ W' = w7.setCell ⟨w.heap.size + 1 + 1 + 1, 0, none⟩ (.int .i64 ((c : Int) + 1 + (q : Int)))) ?region ?rest
  case region =>
   gi_region_with_o (refine ⟨trivial, ?_⟩; gi_at_call 142; refine HCALL.out.mono ?_; rintro e w7 ⟨rfl, hb7⟩; have HB7 := Lib.hid ((Below.refl W6.heap.size W6).drew.trans hb7); clear hb7; rw [HQ.out]; have hws : IntKind.i64.wrap ((c : Int) + 1 + (q : Int)) = (c : Int) + 1 + (q : Int) := IntWalk.i64_in _ ⟨by omega, by omega⟩; have h3 : Boxed w7 (w.heap.size + 1 + 1 + 1) 3 (.int .i64 ((c : Int) + 1)) := (HB7.out.block _ HG3.out.lt).trans HG3.out; have c3' := h3.cell; have f3' := h3.frozen; have H3 := Lib.hid h3; clear h3)
   all_goals exact ⟨w7, ⟨HB7.out, H3.out⟩, rfl, rfl, rfl⟩
  case rest =>
   rintro e a7 W7 ⟨w7, ⟨HB7, H3⟩, rfl, rfl, rfl⟩
   clear c1 c3 n3 HCALL hww hmix HML
   have e1 : Boxed w7 (w.heap.size + 1) 3 (.int .i64 M) := (HB7.block _ HG1.out.lt).trans HG1.out
   have e2 : Boxed w7 (w.heap.size + 1 + 1) 3 (.int .i64 0) := (HB7.block _ HG2.out.lt).trans HG2.out
   have ea := (HB7.block _ (Array.getElem?_eq_some_iff.1 HRA.out).1).trans HRA.out
   have HK7 : KpW w.heap.size W5.heap.size W (w7.setCell ⟨w.heap.size + 1 + 1 + 1, 0, none⟩ (.int .i64 ((c : Int) + 1 + (q : Int)))) := HK6.out.trans ((KpW.of_below (by rw [hs6]; omega) HB7).trans (KpW.set_far (by omega) (by rw [HZ.out]; omega)))
   have HO7 : KeepsFrom W5.heap.size W (w7.setCell ⟨w.heap.size + 1 + 1 + 1, 0, none⟩ (.int .i64 ((c : Int) + 1 + (q : Int)))) := (HO6.out.trans ((keepsOthers_below HB7).trans (KeepsOthers.setCell _ _ _))).from _
   have e3 := H3.set (.int .i64 ((c : Int) + 1 + (q : Int)))
   have e1 := e1.other (B' := w.heap.size + 1 + 1 + 1) (by omega) (.int .i64 ((c : Int) + 1 + (q : Int)))
   have e2 := e2.other (B' := w.heap.size + 1 + 1 + 1) (by omega) (.int .i64 ((c : Int) + 1 + (q : Int)))
   have ea := (setCell_far w7 ⟨w.heap.size + 1 + 1 + 1, 0, none⟩ (.int .i64 ((c : Int) + 1 + (q : Int))) Ba (by show Ba ≠ w.heap.size + 1 + 1 + 1; omega)).trans ea
   generalize w7.setCell ⟨w.heap.size + 1 + 1 + 1, 0, none⟩ (.int .i64 ((c : Int) + 1 + (q : Int))) = W8 at *
   have k1 := e1.cell
   have k2 := e2.cell
   have k2f := e2.frozen
   have k3 := e3.cell
   have ka := cell_of_row W8 _ 0 _ 113 (0, 0) ea
   have HE1 := Lib.hid e1
   have HE2 := Lib.hid e2
   have HE3 := Lib.hid e3
   have HBI := Lib.hid (hB1.trans HK7.1)
   clear e1 e2 e3 ea H3 HB7
   by_cases hgt : (M : Int) < (c : Int) + 1 + (q : Int)
   ·have hd1 : decide ((M : Int) < (c : Int) + 1 + (q : Int)) = true := by simp; omega
    gi_wp2
    refine ⟨HO7.trans ((KeepsOthers.setCell _ _ _).from _), ⟨rfl, ?_⟩, HE2.out.set _, HBI.out.trans (below_set (Below.refl _ _) _ _ (by show w.heap.size ≤ w.heap.size + 1 + 1; omega))⟩
    have := HCD.out
    have := HQ.out
    omega
   ·have hd1 : decide ((M : Int) < (c : Int) + 1 + (q : Int)) = false := by simp; omega
    have hf : cnt ((xs ++ [x]).map It.tag) = c + 1 + q := by
     have := HCD.out
     have := HQ.out
     omega
    gi_wp2
    refine ⟨HO7, HK7, ⟨⟨HE1.out, HE2.out⟩, ?_⟩, ?_, HBI.out⟩
    ·rw [hf]; exact HE3.out
    ·rw [hf]; omega
 case done =>
  rintro D xs W hD hxs ⟨⟨⟨b1, b2⟩, b3⟩, hc, hB1⟩ hK
  rw [hxs, cnt_pre] at b3 hc
  have c3 := b3.cell
  have c2 := b2.cell
  have f2 := b2.frozen
  have hlt := b2.lt
  have hDb : D ≠ w.heap.size + 1 + 1 := by rw [HZ.out] at hD; omega
  gi_wp2
  refine ⟨by simp, .inl ⟨_, _, rfl, run_takeDeferred ((setCell_far _ _ _ _ (by show D ≠ w.heap.size + 1 + 1; exact hDb)).trans hK), ?_⟩⟩
  have hmin : min (tnodes t) (M + 1) = tnodes t := by omega
  rw [hmin]
  refine ⟨_, res_cell1 rfl _ _ (w.heap.size + 1 + 1) _ rfl ?_ Tryz.underlying3 (.inl ⟨_, rfl⟩), rfl, ?_⟩
  ·refine cell_heap (World.putObj_heap_other (fun e => hDb e.symm)) |>.trans ?_
   exact (b2.set _).cell
  ·refine (HB.out.trans hB1).trans ?_
   exact (below_set (Below.refl _ _) _ _ (by show w.heap.size ≤ w.heap.size + 1 + 1; omega)).trans ((Below.refl _ _).grown (grownBy_putObj' _ D _) (by rw [setCell_size]; omega) (fun k e => by cases e; rw [HZ.out] at hD; omega))
 case stop =>
  rintro D c xs W hD hxs ⟨⟨rfl, hc⟩, b2, hB1⟩ hK
  have hDb : D ≠ w.heap.size + 1 + 1 := by rw [HZ.out] at hD; omega
  have hlt := b2.lt
  gi_wp2
  refine ⟨by simp, .inl ⟨_, _, rfl, run_takeDeferred hK, ?_⟩⟩
  have hmin : min (tnodes t) (M + 1) = M + 1 := by
   obtain ⟨r, hr⟩ := hxs
   have q := cnt_pre t 0 0
   rw [← hr, cnt_append] at q
   omega
  rw [hmin]
  refine ⟨_, res_cell1 rfl _ _ (w.heap.size + 1 + 1) _ rfl ?_ Tryz.underlying3 (.inl ⟨_, rfl⟩), rfl, ?_⟩
  ·refine cell_heap (World.putObj_heap_other (fun e => hDb e.symm)) |>.trans ?_
   exact b2.cell
  ·exact (HB.out.trans hB1).trans ((Below.refl _ _).grown (grownBy_putObj' _ D _) (by omega) (fun k e => by cases e; rw [HZ.out] at hD; omega))
end Trm
end Go.Proofs.YteomfakbbcpckaaGreatDoor
namespace Go.Proofs.YteomfakbbcpckaaGreatDoor
open Go.RowKit Go.Shelf
open Lvl
namespace Trm
set_option maxRecDepth 100000 in
set_option maxHeartbeats 1000000 in
theorem tnodes_is (t : Tm) (v : Value) (w : World) (hv : TmV w t v) (hm : tnodes t ≤ 100000) (R : Nat) (hR : min (tnodes t) 2001 = R) :
  Calls Tryz.prog 89 #[v] w (Ret w (.int .i64 R)) := by
 obtain ⟨l, s, rfl, ht⟩ := hv
 obtain ⟨⟨la, ll, lc, rfl⟩, sa, sl, sc, rfl⟩ := tmP_slices ht
 have HV := Lib.hid (show TmV w t _ from ⟨_, _, rfl, ht⟩)
 have HM := Lib.hid hm
 have HR := Lib.hid hR
 dsimp only [tv] at HV ⊢
 generalize tkOf t = k at *
 generalize tnOf t = n at *
 generalize tmOf t = m at *
 clear ht hm hR
 go_enter Tryz.func89, Tryz.ntmps89
 go_wp2_with fail
 have HB := Lib.hid (below_lit w (.cells #[.int .i64 k, .int .i64 n, .string m, .slice la ll lc, .slice sa sl sc] 25))
 generalize w.alloc (.cells #[.int .i64 k, .int .i64 n, .string m, .slice la ll lc, .slice sa sl sc] 25) = W at *
 refine (count_is t _ W (HV.out.below HB.out) HM.out 2000 (by omega)).mono ?_
 rintro e w2 ⟨rfl, hb2⟩
 rw [HR.out]
 have HB2 := Lib.hid (HB.out.trans (hb2.mono HB.out.size))
 clear hb2
 go_wp2_with fail
 go_ret
 exact ⟨rfl, HB2.out⟩
end Trm
end Go.Proofs.YteomfakbbcpckaaGreatDoor
namespace Go.Proofs.YteomfakbbcpckaaGreatDoor
open Go.RowKit
open Lvl
namespace Trm
def cAll : Int → Int → List Lv → Int → Prop := fun _ _ _ _ => True
end Trm
end Go.Proofs.YteomfakbbcpckaaGreatDoor
namespace Go.Proofs.YteomfakbbcpckaaGreatDoor
open Go.RowKit
open Lvl
namespace Trm
theorem tsP_row {w : World} {P : Nat → Prop} {b : Nat} {ts : List Tm} {ss : List (Value × Value)} (hl : ts.length = ss.length) (hr : w.heap[b]? = some (.cells (cells5 ts ss).toArray 25 (0, 0))) (hP : P b) (hk : ∀ i (h1 : i < ts.length) (h2 : i < ss.length), TmP w P ts[i] ss[i].1 ss[i].2) : TsP w P (some ⟨b, 0, none⟩) 0 ts :=
 tsP_of ts 0 fun i hi => by
  obtain ⟨c0, c1, c2, c3, c4⟩ := cells5_get ts ss i hi (by omega)
  refine ⟨b, 0, ss[i].1, ss[i].2, rfl, (Array.getElem?_eq_some_iff.1 hr).1, hP, ?_, ?_, ?_, ?_, ?_, hk i hi (by omega)⟩
  ·rw [Nat.zero_add, Nat.zero_add, cell_of_row w b _ _ _ (0, 0) hr]; simpa using c0
  ·rw [Nat.zero_add, Nat.zero_add, cell_of_row w b _ _ _ (0, 0) hr]; simpa using c1
  ·rw [Nat.zero_add, Nat.zero_add, cell_of_row w b _ _ _ (0, 0) hr]; simpa using c2
  ·rw [Nat.zero_add, Nat.zero_add, cell_of_row w b _ _ _ (0, 0) hr]; simpa using c3
  ·rw [Nat.zero_add, Nat.zero_add, cell_of_row w b _ _ _ (0, 0) hr]; simpa using c4
theorem lvP_nil (w : World) (P : Nat → Prop) : LvP w P (.mk 0 0 []) (.slice none 0 0) := lvP_leaf w P 0 0
end Trm
end Go.Proofs.YteomfakbbcpckaaGreatDoor
