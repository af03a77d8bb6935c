import Derived.Test.YtlijdgamobpndaaDoorJ11
import Derived.Test.YtlijdgamobpndaaDoorJ12
import Derived.RangeFuncNested
import Derived.RangeFuncBound
import Derived.RangeFuncCalls
import Derived.RangeFuncLeaves
import Derived.Shelf.Abstract
import Derived.Shelf.RegionOpen
import Derived.OwnWalkIn
import Derived.TacticsInMore
import Derived.LoopNIn
import Derived.LoopIn
import Derived.IntWalk
/-
  The contracts of the program's functions walk, nodes: a term's nodes, handed out one by one.
  Conditions: the term lies in memory as told by 'TmP'; what a round of the loop keeps: 'KpW'.
-/
namespace Go.Proofs.YtlijdgamobpndaaDoor
open Go.RowKit Go.Shelf
open Lvl
namespace Trm

/-- A node that is handed out, as it lay at first. -/
structure It (w0 : World) (G : Tm × Nat × Nat → Prop) where
  t : Tm
  la : Option Addr
  ll : Nat
  lc : Nat
  sa : Option Addr
  sl : Nat
  sc : Nat
  d : Nat
  b : Nat
  ok : TmP w0 (fun _ => True) t (.slice la ll lc) (.slice sa sl sc)
  g : G (t, d, b)
def It.tag {w0 : World} {G : Tm × Nat × Nat → Prop} (x : It w0 G) : Tm × Nat × Nat := (x.t, x.d, x.b)
abbrev tplace (d b : Nat) : Value := .agg #[.int .i64 d, .int .i64 b]
def It.enc {w0 : World} {G : Tm × Nat × Nat → Prop} (x : It w0 G) : Array Value := #[tv x.t (.slice x.la x.ll x.lc) (.slice x.sa x.sl x.sc), tplace x.d x.b]
/-- A row of cells that are no texts. -/
def boxO : Obj → Bool
  | .cells _ T _ => T != 9
  | _ => false
theorem boxO_cells {o : Obj} (h : boxO o = true) : o.isCells = true := by cases o <;> simp_all [boxO, Obj.isCells]
/-- What a round keeps: what lay when the loop began, and what cells were made since, texts aside. -/
def KpW (n₀ D : Nat) (W W' : World) : Prop := Below n₀ W W' ∧ ∀ b (o : Obj), D ≤ b → W.heap[b]? = some o → boxO o = true → W'.heap[b]? = some o
theorem KpW.refl (n₀ D : Nat) (W : World) : KpW n₀ D W W := ⟨Below.refl _ _, fun _ _ _ h _ => h⟩
theorem KpW.trans {n₀ D : Nat} {A B C : World} (h : KpW n₀ D A B) (k : KpW n₀ D B C) : KpW n₀ D A C :=
  ⟨h.1.trans k.1, fun b o hb ho hc => k.2 b o hb (h.2 b o hb ho hc) hc⟩
theorem KpW.of_below {n₀ D : Nat} {A B : World} (hn : n₀ ≤ A.heap.size) (h : Below A.heap.size A B) : KpW n₀ D A B :=
  ⟨h.mono hn, fun b _ _ ho _ => (h.block b (Array.getElem?_eq_some_iff.1 ho).1).trans ho⟩
theorem KpW.set_far {n₀ D : Nat} {W : World} {b p : Nat} {v : Value} (hn : n₀ ≤ b) (hD : b < D) : KpW n₀ D W (W.setCell ⟨b, p, none⟩ v) :=
  ⟨below_set (Below.refl _ _) _ _ hn, fun k o hk ho _ => (setCell_far _ _ _ _ (by show k ≠ b; omega)).trans ho⟩
theorem KpW.put {n₀ D : Nat} {w : World} (hn : n₀ ≤ D) (hD : D = w.heap.size) (W : World) (l : Nat) (o o' : Obj) (hl : w.heap.size ≤ l) (h : W.heap[l]? = some o) (hc : o.isCells = false) (hw : o.isWalk = false) : KpW n₀ D W (W.putObj l o') :=
  ⟨belowK_b (w := w) (by omega) W l o o' hl h hc hw, fun b o2 _ ho2 hc2 => by
    have hne : b ≠ l := fun e => by
      subst e
      rw [h] at ho2
      cases ho2
      have hc3 := boxO_cells hc2
      rw [hc] at hc3
      cases hc3
    exact (World.putObj_heap_other hne).trans ho2⟩

set_option maxRecDepth 100000 in
set_option maxHeartbeats 4000000 in
theorem walk_up (w0 : World) (G : Tm × Nat × Nat → Prop) (D l M : Nat) (J Jx : List (It w0 G) → World → Prop)
    (hJ : ∀ xs W W', Below W.heap.size W W' → J xs W → J xs W')
    (hY : ∀ xs (x : It w0 G) W, J xs W → xs.length < M → YieldAt Fence.wide 10 Tryd.prog l x.enc W fun e W' =>
      (e = .returned (.bool true) ∧ J (xs ++ [x]) W' ∧ KpW w0.heap.size D W W') ∨ (e = .returned (.bool false) ∧ Jx (xs ++ [x]) W')) :
    ∀ (N : Nat) (x : It w0 G) (xs : List (It w0 G)) (W : World), tnodes x.t ≤ N → N ≤ 1000000 → x.d + N ≤ 1000000 → x.b + N ≤ 1000000 → J xs W → Below w0.heap.size w0 W → w0.heap.size ≤ D → D ≤ W.heap.size → xs.length + (pre x.t x.d x.b).length ≤ M → (∀ q, q ∈ pre x.t x.d x.b → G q) →
      CallsIn Fence.wide 11 Tryd.prog 44 (x.enc ++ #[.func (.yield l) #[] #[]]) W fun e W' =>
        (e = .returned (.bool true) ∧ ∃ ys, ys.map It.tag = pre x.t x.d x.b ∧ J (xs ++ ys) W' ∧ KpW w0.heap.size D W W') ∨
        (e = .returned (.bool false) ∧ ∃ ys, ys.map It.tag <+: pre x.t x.d x.b ∧ Jx (xs ++ ys) W') := by
  intro N
  induction N with
  | zero => intro x _ _ h; have := tnodes_pos x.t; omega
  | succ N ih =>
  intro x xs W hN hN6 hd hb hJs hB hnD hDW hM hG
  obtain ⟨⟨k, n, m, ls, ts⟩, la, ll, lc, sa, sl, sc, d, b, ok, hg⟩ := x
  obtain ⟨X, hX⟩ : ∃ X : It w0 G, X = ⟨.mk k n m ls ts, la, ll, lc, sa, sl, sc, d, b, ok, hg⟩ := ⟨_, rfl⟩
  dsimp only at hN hd hb hM hG ⊢
  have hPRE : pre (.mk k n m ls ts) d b = (.mk k n m ls ts, d, b) :: preL k ts.length ts 0 (d + 1) b := by rw [pre]
  rw [hPRE, List.length_cons] at hM
  rw [hPRE] at hG
  have HG := Lib.hid hG
  obtain ⟨fn, tmps, assign, body, hy, hR⟩ := hY xs X _ (hJ _ _ _ (below_lit _ (.cells #[.int .i64 d, .int .i64 b] 69)) (hJ _ _ _ (below_lit W (.cells #[.int .i64 k, .int .i64 n, .string m, .slice la ll lc, .slice sa sl sc] 25)) hJs)) (by omega)
  rw [show X.enc = #[.agg #[.int .i64 k, .int .i64 n, .string m, .slice la ll lc, .slice sa sl sc], .agg #[.int .i64 d, .int .i64 b]] by subst hX; rfl] at hy
  have HT := Lib.hid (show X.tag = (.mk k n m ls ts, d, b) by subst hX; rfl)
  have HPR := Lib.hid hPRE
  have HRh := Lib.hid hR
  have IH := Lib.hid ih
  have HJs := Lib.hid hJs
  have HY := Lib.hid hY
  have HJ := Lib.hid hJ
  have HB := Lib.hid hB
  rw [TmP] at ok
  obtain ⟨hls, A', len', cap', e9, hlen, hlc', hl47, hnone, hts⟩ := ok
  cases e9
  have HTS := Lib.hid hts
  have HLEN := Lib.hid hlen
  have HTN : Hid (tnodesL ts ≤ N) := by
    rw [tnodes] at hN
    have : tnodesL ts ≤ N := by omega
    exact this
  have HM := Lib.hid hM
  have HND := Lib.hid hnD
  have HDW := Lib.hid hDW
  clear hX hG hPRE hR ih hJs hY hJ hB hts hlen hls hN hM hnD hDW
  refine callsIn_of_wp Tryd.func44 rfl trivial ?_ rfl
  simp only [It.enc, Tryd.ntmps44, List.size_toArray, List.length_cons, List.length_nil, Nat.reduceAdd, Nat.reduceSub, Array.replicate_succ, Array.replicate_zero, List.push_toArray, List.append_toArray, List.nil_append, List.cons_append]
  dsimp only [tv, tplace]
  gi_wp2
  have z1 : (W.alloc (.cells #[.int .i64 k, .int .i64 n, .string m, .slice la ll lc, .slice sa sl sc] 25)).heap.size = W.heap.size + 1 := by simp
  have r1 := heap_alloc_new W (.cells #[.int .i64 k, .int .i64 n, .string m, .slice la ll lc, .slice sa sl sc] 25)
  have r2 := heap_alloc_new (W.alloc (.cells #[.int .i64 k, .int .i64 n, .string m, .slice la ll lc, .slice sa sl sc] 25)) (.cells #[.int .i64 d, .int .i64 b] 69)
  have r1' := (heap_alloc_old (W.alloc (.cells #[.int .i64 k, .int .i64 n, .string m, .slice la ll lc, .slice sa sl sc] 25)) (.cells #[.int .i64 d, .int .i64 b] 69) (r := W.heap.size) (by simp)).trans r1
  have b2 := below_lit W (.cells #[.int .i64 k, .int .i64 n, .string m, .slice la ll lc, .slice sa sl sc] 25)
  have HB3 := Lib.hid (b2.trans ((below_lit (W.alloc (.cells #[.int .i64 k, .int .i64 n, .string m, .slice la ll lc, .slice sa sl sc] 25)) (.cells #[.int .i64 d, .int .i64 b] 69)).mono b2.size))
  rw [z1] at r2
  have hR := HRh.out
  clear HRh b2 r1 z1 hy
  generalize (W.alloc (.cells #[.int .i64 k, .int .i64 n, .string m, .slice la ll lc, .slice sa sl sc] 25)).alloc (.cells #[.int .i64 d, .int .i64 b] 69) = W2 at *
  refine hR.mono ?_
  clear hR
  have HR1 := Lib.hid r1'
  have HR2 := Lib.hid r2
  clear r1' r2
  rintro e W3 (⟨rfl, hJ3, hk3⟩ | ⟨rfl, hx3⟩)
  · have HJ3 := Lib.hid hJ3
    have HK3 := Lib.hid hk3
    clear hJ3 hk3
    have r1 := HK3.out.2 W.heap.size _ HDW.out HR1.out rfl
    have r2 := HK3.out.2 (W.heap.size + 1) _ (by have := HDW.out; omega) HR2.out rfl
    have HKW := Lib.hid ((KpW.of_below (D := D) (Nat.le_trans HND.out HDW.out) HB3.out).trans HK3.out)
    have HB0 := Lib.hid (HB.out.trans HKW.out.1)
    obtain ⟨c0, c1, c2, c3, c4⟩ := five_cells r1
    gi_wp2
    have HR1' := Lib.hid r1
    have HR2' := Lib.hid r2
    clear r1 r2 c0 c1 c2 c3 c4
    refine wpIn_wide.2 ?_
    go_loopw [17] (fun i wr => ∃ (j : Nat) (ys : List (It w0 G)), j ≤ sl ∧ i = .int .i64 j ∧ Hid (ys.map It.tag = preL k ts.length (ts.take j) 0 (d + 1) b) ∧ Hid (J (xs ++ [X] ++ ys) wr) ∧ Hid (KpW w0.heap.size D W3 wr)) (fun i _ => sl - (intOf i).toNat)
    case atStart => exact ⟨0, [], Nat.zero_le _, rfl, by have : ([] : List (It w0 G)).map It.tag = preL k ts.length (ts.take 0) 0 (d + 1) b := (by simp [preL]); exact this, by have := HJ3.out; rw [← List.append_nil (xs ++ [X])] at this; exact this, KpW.refl _ _ _⟩
    case round =>
      obtain ⟨j, ys, hj, rfl, htag, hJr, hkr⟩ := hrel
      have HKr := Lib.hid (HKW.out.trans hkr.out)
      have HB0r := Lib.hid (HB0.out.trans hkr.out.1)
      have HDr : Hid (D ≤ wr.heap.size) := Nat.le_trans HDW.out (Nat.le_trans HB3.out.size (Nat.le_trans HK3.out.1.size hkr.out.1.size))
      have hR1 := Lib.hid (hkr.out.2 W.heap.size _ HDW.out HR1'.out rfl)
      have hR2 := Lib.hid (hkr.out.2 (W.heap.size + 1) _ (by have := HDW.out; omega) HR2'.out rfl)
      by_cases hlt : j < sl
      · have hx1 : j < ts.length := by rw [HLEN.out]; exact hlt
        have hln : decide ((j : Int) < (sl : Int)) = true := by simp; omega
        obtain ⟨bk, o, l1, s1, eA, hbs, _, hc0, hc1, hc2, hc3, hc4, htm⟩ := tsP_get HTS.out j hx1
        subst eA
        obtain ⟨⟨xa, xl, xc, rfl⟩, ya, yl, yc, rfl⟩ := tmP_slices htm
        have d0 := (HB0r.out.cell (p := ⟨bk, _, none⟩) hbs).trans hc0
        have d1 := (HB0r.out.cell (p := ⟨bk, _, none⟩) hbs).trans hc1
        have d2 := (HB0r.out.cell (p := ⟨bk, _, none⟩) hbs).trans hc2
        have d3 := (HB0r.out.cell (p := ⟨bk, _, none⟩) hbs).trans hc3
        have d4 := (HB0r.out.cell (p := ⟨bk, _, none⟩) hbs).trans hc4
        obtain ⟨R, hR⟩ : ∃ R, bndP k ts.length j = R := ⟨_, rfl⟩
        have hR1' : R ≤ 1 := by rw [← hR]; exact bndP_le _ _ _
        obtain ⟨dn, hdn⟩ : ∃ q, q = d + 1 := ⟨_, rfl⟩
        obtain ⟨bn, hbn⟩ : ∃ q, q = b + R := ⟨_, rfl⟩
        have hw1 : IntKind.i64.wrap ((d : Int) + 1) = (dn : Int) := (IntWalk.i64_in _ ⟨by omega, by omega⟩).trans (by omega)
        have hw2 : IntKind.i64.wrap ((b : Int) + (R : Int)) = (bn : Int) := (IntWalk.i64_in _ ⟨by omega, by omega⟩).trans (by omega)
        have HTK : Hid (preL k ts.length (ts.take (j + 1)) 0 (d + 1) b = preL k ts.length (ts.take j) 0 (d + 1) b ++ pre ts[j] dn bn) := by
          have := preL_take k ts.length hx1 (d + 1) b
          rw [hR, ← hdn, ← hbn] at this
          rw [hdn] at this ⊢
          exact this
        have HGJ : Hid (∀ q, q ∈ pre ts[j] dn bn → G q) := by
          have : ∀ q, q ∈ pre ts[j] dn bn → G q := fun q hq => by
            refine HG.out q (List.mem_cons_of_mem _ ((preL_pfx k ts.length ts (j + 1) (d + 1) b).subset ?_))
            rw [HTK.out]
            exact List.mem_append_right _ hq
          exact this
        have HLM : Hid ((xs ++ [X] ++ ys).length + (pre ts[j] dn bn).length ≤ M) := by
          have q1 : ys.length = (preL k ts.length (ts.take j) 0 (d + 1) b).length := by rw [← htag.out, List.length_map]
          have q2 := (preL_pfx k ts.length ts (j + 1) (d + 1) b).length_le
          rw [HTK.out, List.length_append] at q2
          have q3 := HM.out
          have : (xs ++ [X] ++ ys).length + (pre ts[j] dn bn).length ≤ M := by
            rw [List.length_append, List.length_append, List.length_singleton, q1]
            omega
          exact this
        have hcall := IH.out ⟨ts[j], xa, xl, xc, ya, yl, yc, dn, bn, htm, HGJ.out _ (pre_head _ _ _)⟩ (xs ++ [X] ++ ys)
        dsimp only [It.enc, tv, tplace] at hcall
        have HCALL := Lib.hid hcall
        have HTJ : Hid (tnodes ts[j] ≤ N) := Nat.le_trans (tnodes_mem (List.getElem_mem hx1)) HTN.out
        have q1 : (0 : Int) ≤ (j : Int) := by omega
        have q2 : (j : Int) < (sl : Int) := by omega
        have HRR : Hid (bndP k sl j = R) := by rw [← HLEN.out]; exact hR
        have hdn6 : dn + N ≤ 1000000 := by omega
        have hbn6 : bn + N ≤ 1000000 := by omega
        clear hcall htm hc0 hc1 hc2 hc3 hc4 hdn hbn hR
        generalize tkOf ts[j] = ka at *
        generalize tnOf ts[j] = na at *
        generalize tmOf ts[j] = ma at *
        obtain ⟨k0, k1, k2, k3, k4⟩ := five_cells hR1.out
        go_wp2_with fail
        have HB4 := Lib.hid (below_lit wr (.cells #[.int .i64 ka, .int .i64 na, .string ma, .slice xa xl xc, .slice ya yl yc] 25))
        have hr8 := heap_alloc_new wr (.cells #[.int .i64 ka, .int .i64 na, .string ma, .slice xa xl xc, .slice ya yl yc] 25)
        have hs8 : wr.heap.size < (wr.alloc (.cells #[.int .i64 ka, .int .i64 na, .string ma, .slice xa xl xc, .slice ya yl yc] 25)).heap.size := by simp
        have hs1 : W.heap.size + 1 < wr.heap.size := (Array.getElem?_eq_some_iff.1 hR2.out).1
        have hk : Hid (∀ W', Below (wr.alloc (.cells #[.int .i64 ka, .int .i64 na, .string ma, .slice xa xl xc, .slice ya yl yc] 25)).heap.size (wr.alloc (.cells #[.int .i64 ka, .int .i64 na, .string ma, .slice xa xl xc, .slice ya yl yc] 25)) W' → W'.cell? ⟨W.heap.size, 0, none⟩ = some (.int .i64 k) ∧ W'.cell? ⟨W.heap.size, 1, none⟩ = some (.int .i64 n) ∧ W'.cell? ⟨W.heap.size, 2, none⟩ = some (.string m) ∧ W'.cell? ⟨W.heap.size, 3, none⟩ = some (.slice la ll lc) ∧ W'.cell? ⟨W.heap.size, 4, none⟩ = some (.slice (some ⟨bk, o, none⟩) sl sc) ∧ W'.cell? ⟨W.heap.size + 1, 0, none⟩ = some (.int .i64 d) ∧ W'.cell? ⟨W.heap.size + 1, 1, none⟩ = some (.int .i64 b) ∧ W'.cell? ⟨wr.heap.size, 0, none⟩ = some (.int .i64 ka) ∧ W'.cell? ⟨wr.heap.size, 1, none⟩ = some (.int .i64 na) ∧ W'.cell? ⟨wr.heap.size, 2, none⟩ = some (.string ma) ∧ W'.cell? ⟨wr.heap.size, 3, none⟩ = some (.slice xa xl xc) ∧ W'.cell? ⟨wr.heap.size, 4, none⟩ = some (.slice ya yl yc)) := fun W' h => by
          obtain ⟨a0, a1, a2, a3, a4⟩ := five_cells ((h.block W.heap.size (by omega)).trans ((HB4.out.block W.heap.size (by omega)).trans hR1.out))
          have hp := (h.block (W.heap.size + 1) (by omega)).trans ((HB4.out.block (W.heap.size + 1) (by omega)).trans hR2.out)
          have b0 := cell_of_row _ _ 0 _ 69 (0, 0) hp
          have b1 := cell_of_row _ _ 1 _ 69 (0, 0) hp
          obtain ⟨e0, e1, e2, e3, e4⟩ := five_cells ((h.block wr.heap.size hs8).trans hr8)
          exact ⟨a0, a1, a2, a3, a4, b0, b1, e0, e1, e2, e3, e4⟩
        generalize wr.alloc (.cells #[.int .i64 ka, .int .i64 na, .string ma, .slice xa xl xc, .slice ya yl yc] 25) = W4 at *
        clear d0 d1 d2 d3 d4 k0 k1 k2 k3 k4 hr8
        refine region_E (S := fun W' => W'.cell? ⟨W.heap.size, 0, none⟩ = some (.int .i64 k) ∧ W'.cell? ⟨W.heap.size, 1, none⟩ = some (.int .i64 n) ∧ W'.cell? ⟨W.heap.size, 2, none⟩ = some (.string m) ∧ W'.cell? ⟨W.heap.size, 3, none⟩ = some (.slice la ll lc) ∧ W'.cell? ⟨W.heap.size, 4, none⟩ = some (.slice (some ⟨bk, o, none⟩) sl sc) ∧ W'.cell? ⟨W.heap.size + 1, 0, none⟩ = some (.int .i64 d) ∧ W'.cell? ⟨W.heap.size + 1, 1, none⟩ = some (.int .i64 b) ∧ W'.cell? ⟨wr.heap.size, 0, none⟩ = some (.int .i64 ka) ∧ W'.cell? ⟨wr.heap.size, 1, none⟩ = some (.int .i64 na) ∧ W'.cell? ⟨wr.heap.size, 2, none⟩ = some (.string ma) ∧ W'.cell? ⟨wr.heap.size, 3, none⟩ = some (.slice xa xl xc) ∧ W'.cell? ⟨wr.heap.size, 4, none⟩ = some (.slice ya yl yc)) 12 (by kernel_rfl) ?_
        refine (fun (hHeld : (fun W' : World => W'.cell? ⟨W.heap.size, 0, none⟩ = some (.int .i64 k) ∧ W'.cell? ⟨W.heap.size, 1, none⟩ = some (.int .i64 n) ∧ W'.cell? ⟨W.heap.size, 2, none⟩ = some (.string m) ∧ W'.cell? ⟨W.heap.size, 3, none⟩ = some (.slice la ll lc) ∧ W'.cell? ⟨W.heap.size, 4, none⟩ = some (.slice (some ⟨bk, o, none⟩) sl sc) ∧ W'.cell? ⟨W.heap.size + 1, 0, none⟩ = some (.int .i64 d) ∧ W'.cell? ⟨W.heap.size + 1, 1, none⟩ = some (.int .i64 b) ∧ W'.cell? ⟨wr.heap.size, 0, none⟩ = some (.int .i64 ka) ∧ W'.cell? ⟨wr.heap.size, 1, none⟩ = some (.int .i64 na) ∧ W'.cell? ⟨wr.heap.size, 2, none⟩ = some (.string ma) ∧ W'.cell? ⟨wr.heap.size, 3, none⟩ = some (.slice xa xl xc) ∧ W'.cell? ⟨wr.heap.size, 4, none⟩ = some (.slice ya yl yc)) _) => ?_) (hk.out _ ((Below.refl _ _).drew))
        refine take_E (i := 0) (v := ?_) 0 [] rfl (by kernel_rfl) (by kernel_rfl) (by kernel_rfl) (by kernel_rfl) rfl (by decide) (by kernel_rfl) rfl (fun _ _ _ h => h) (by rfl) ?_ hHeld ?_
        rotate_left
        · intro w hSw
          (try dsimp only at hSw)
          go_simp
          try with_reducible rfl
        try simp only [Act.put, List.setIfInBounds_toArray, List.set_cons_zero, List.set_cons_succ]
        refine take_E (i := 1) (v := ?_) 10 [3, 2, 1] rfl (by kernel_rfl) (by kernel_rfl) (by kernel_rfl) (by kernel_rfl) rfl (by decide) (by kernel_rfl) rfl (fun _ _ _ h => h) (by rfl) ?_ hHeld ?_
        rotate_left
        · intro w hSw
          (try dsimp only at hSw)
          go_simp
          try with_reducible rfl
        try simp only [Act.put, List.setIfInBounds_toArray, List.set_cons_zero, List.set_cons_succ]
        refine take_E (i := 2) (v := ?_) 10 [3, 2] rfl (by kernel_rfl) (by kernel_rfl) (by kernel_rfl) (by kernel_rfl) rfl (by decide) (by kernel_rfl) rfl (fun _ _ _ h => h) (by rfl) ?_ hHeld ?_
        rotate_left
        · intro w hSw
          (try dsimp only at hSw)
          go_simp
          try with_reducible rfl
        try simp only [Act.put, List.setIfInBounds_toArray, List.set_cons_zero, List.set_cons_succ]
        refine take_E (i := 3) (v := ?_) 10 [3] rfl (by kernel_rfl) (by kernel_rfl) (by kernel_rfl) (by kernel_rfl) rfl (by decide) (by kernel_rfl) rfl (fun _ _ _ h => h) (by rfl) ?_ hHeld ?_
        rotate_left
        · intro w hSw
          (try dsimp only at hSw)
          go_simp
          try with_reducible rfl
        try simp only [Act.put, List.setIfInBounds_toArray, List.set_cons_zero, List.set_cons_succ]
        refine take_E (i := 4) (v := ?_) 10 [9, 5, 4] rfl (by kernel_rfl) (by kernel_rfl) (by kernel_rfl) (by kernel_rfl) rfl (by decide) (by kernel_rfl) rfl (fun _ _ _ h => h) (by rfl) ?_ hHeld ?_
        rotate_left
        · intro w hSw
          (try dsimp only at hSw)
          go_simp
          try with_reducible rfl
        try simp only [Act.put, List.setIfInBounds_toArray, List.set_cons_zero, List.set_cons_succ]
        refine take_E (i := 5) (v := ?_) 10 [9, 5] rfl (by kernel_rfl) (by kernel_rfl) (by kernel_rfl) (by kernel_rfl) rfl (by decide) (by kernel_rfl) rfl (fun _ _ _ h => h) (by rfl) ?_ hHeld ?_
        rotate_left
        · intro w hSw
          (try dsimp only at hSw)
          go_simp
          try with_reducible rfl
        try simp only [Act.put, List.setIfInBounds_toArray, List.set_cons_zero, List.set_cons_succ]
        refine take_E (i := 6) (v := ?_) 10 [9, 8, 6] rfl (by kernel_rfl) (by kernel_rfl) (by kernel_rfl) (by kernel_rfl) rfl (by decide) (by kernel_rfl) rfl (fun _ _ _ h => h) (by rfl) ?_ hHeld ?_
        rotate_left
        · intro w hSw
          (try dsimp only at hSw)
          go_simp
          try with_reducible rfl
        try simp only [Act.put, List.setIfInBounds_toArray, List.set_cons_zero, List.set_cons_succ]
        refine take_E (i := 7) (v := ?_) 10 [9, 8, 7] rfl (by kernel_rfl) (by kernel_rfl) (by kernel_rfl) (by kernel_rfl) rfl (by decide) (by kernel_rfl) rfl (fun _ _ _ h => h) (by rfl) ?_ hHeld ?_
        rotate_left
        · intro w hSw
          (try dsimp only at hSw)
          go_simp
          try with_reducible rfl
        try simp only [Act.put, List.setIfInBounds_toArray, List.set_cons_zero, List.set_cons_succ]
        refine take_E (i := 11) (v := ?_) 11 [] rfl (by kernel_rfl) (by kernel_rfl) (by kernel_rfl) (by kernel_rfl) rfl (by decide) (by kernel_rfl) rfl (fun _ _ _ h => h) (by rfl) ?_ hHeld ?_
        rotate_left
        · intro w hSw
          (try dsimp only at hSw)
          go_simp
          try with_reducible rfl
        try simp only [Act.put, List.setIfInBounds_toArray, List.set_cons_zero, List.set_cons_succ]
        refine only_E (i := 8) rfl (by kernel_rfl) (fun K hK => ?_)
        clear hHeld
        go_simp
        go_at_call 56
        refine (binds_is k n m _ (some ⟨bk, o, none⟩) sl sc j _ hl47 la ll lc rfl).mono ?_
        rintro e w5 ⟨rfl, hb5⟩
        rw [HRR.out]
        have HC5 := Lib.hid ((Below.refl _ _).drew.trans hb5)
        clear hb5

        try (go_wp2_with fail)
        refine (fun (hHeld : (fun W' : World => W'.cell? ⟨W.heap.size, 0, none⟩ = some (.int .i64 k) ∧ W'.cell? ⟨W.heap.size, 1, none⟩ = some (.int .i64 n) ∧ W'.cell? ⟨W.heap.size, 2, none⟩ = some (.string m) ∧ W'.cell? ⟨W.heap.size, 3, none⟩ = some (.slice la ll lc) ∧ W'.cell? ⟨W.heap.size, 4, none⟩ = some (.slice (some ⟨bk, o, none⟩) sl sc) ∧ W'.cell? ⟨W.heap.size + 1, 0, none⟩ = some (.int .i64 d) ∧ W'.cell? ⟨W.heap.size + 1, 1, none⟩ = some (.int .i64 b) ∧ W'.cell? ⟨wr.heap.size, 0, none⟩ = some (.int .i64 ka) ∧ W'.cell? ⟨wr.heap.size, 1, none⟩ = some (.int .i64 na) ∧ W'.cell? ⟨wr.heap.size, 2, none⟩ = some (.string ma) ∧ W'.cell? ⟨wr.heap.size, 3, none⟩ = some (.slice xa xl xc) ∧ W'.cell? ⟨wr.heap.size, 4, none⟩ = some (.slice ya yl yc)) _) => hK.out _ _ (fun _ => hHeld) ?_) (hk.out w5 HC5.out)
        clear hK K
        try simp only [Act.put, List.setIfInBounds_toArray, List.set_cons_zero, List.set_cons_succ]
        refine take_E (i := 9) (v := ?_) 10 [9] rfl (by kernel_rfl) (by kernel_rfl) (by kernel_rfl) (by kernel_rfl) rfl (by decide) (by kernel_rfl) rfl (fun _ _ _ h => h) (by rfl) ?_ hHeld ?_
        rotate_left
        · intro w hSw
          (try dsimp only at hSw)
          go_simp
          try with_reducible rfl
        try simp only [Act.put, List.setIfInBounds_toArray, List.set_cons_zero, List.set_cons_succ]
        refine take_E (i := 10) (v := ?_) 10 [] rfl (by kernel_rfl) (by kernel_rfl) (by kernel_rfl) (by kernel_rfl) rfl (by decide) (by kernel_rfl) rfl (fun _ _ _ h => h) (by rfl) ?_ hHeld ?_
        rotate_left
        · intro w hSw
          (try dsimp only at hSw)
          go_simp
          try with_reducible rfl
        try simp only [Act.put, List.setIfInBounds_toArray, List.set_cons_zero, List.set_cons_succ]
        refine only_E (i := 12) rfl (by kernel_rfl) (fun K hK => ?_)
        clear hHeld
        go_simp
        have HW5 := Lib.hid (HB4.out.trans (HC5.out.mono HB4.out.size))
        go_at_call 44
        refine (callsIn_wide.1 (HCALL.out w5 HTJ.out (by omega) hdn6 hbn6 (HJ.out _ _ _ HW5.out hJr.out) (HB0r.out.trans (HW5.out.mono HB0r.out.size)) HND.out (Nat.le_trans HDr.out HW5.out.size) HLM.out HGJ.out)).mono ?_
        rintro e w6 (⟨rfl, zs, hz1, hz2, hz3⟩ | ⟨rfl, zs, hz1, hz2⟩)

        · have HTG : Hid ((ys ++ zs).map It.tag = preL k ts.length (ts.take (j + 1)) 0 (d + 1) b) := by
            have : (ys ++ zs).map It.tag = preL k ts.length (ts.take (j + 1)) 0 (d + 1) b := by rw [List.map_append, htag.out, hz1, HTK.out]
            exact this
          have HJZ : Hid (J (xs ++ [X] ++ (ys ++ zs)) w6) := by
            have := hz2
            rw [List.append_assoc _ ys zs] at this
            exact this
          have HKZ : Hid (KpW w0.heap.size D W3 w6) := hkr.out.trans ((KpW.of_below HB0r.out.size HW5.out).trans hz3)
          clear hz1 hz2 hz3
          try (go_wp2_with fail)
          refine hK.out _ _ (fun h => by cases h) ?_
          clear hK K
          try simp only [Act.put, List.setIfInBounds_toArray, List.set_cons_zero, List.set_cons_succ]
          refine only_E (i := 13) rfl (by kernel_rfl) (fun K hK => ?_)
          go_simp
          try (go_wp2_with fail)
          refine hK.out _ _ (fun h => by cases h) ?_
          clear hK K
          try simp only [Act.put, List.setIfInBounds_toArray, List.set_cons_zero, List.set_cons_succ]
          refine done_E (by kernel_rfl) ?_ _
          go_wp2_with fail
          go_roundw
          case rel => exact ⟨j + 1, ys ++ zs, by omega, by go_num, HTG.out, HJZ.out, HKZ.out⟩
          case measure => simp [intOf]; omega
        · have HTG : Hid ((X :: (ys ++ zs)).map It.tag <+: pre (.mk k n m ls ts) d b) := by
            have : (X :: (ys ++ zs)).map It.tag <+: pre (.mk k n m ls ts) d b := by
              rw [HPR.out, List.map_cons, HT.out, List.map_append, htag.out]
              refine List.prefix_cons_inj _ |>.2 (List.IsPrefix.trans ?_ (preL_pfx k ts.length ts (j + 1) (d + 1) b))
              rw [HTK.out]
              exact (List.prefix_append_right_inj _).2 hz1
            exact this
          have HJZ : Hid (Jx (xs ++ (X :: (ys ++ zs))) w6) := by
            have := hz2
            rw [List.append_assoc _ ys zs, List.append_assoc xs] at this
            exact this
          clear hz1 hz2
          try (go_wp2_with fail)
          refine hK.out _ _ (fun h => by cases h) ?_
          clear hK K
          try simp only [Act.put, List.setIfInBounds_toArray, List.set_cons_zero, List.set_cons_succ]
          refine only_E (i := 13) rfl (by kernel_rfl) (fun K hK => ?_)
          go_simp
          try (go_wp2_with fail)
          refine hK.out _ _ (fun h => by cases h) ?_
          clear hK K
          try simp only [Act.put, List.setIfInBounds_toArray, List.set_cons_zero, List.set_cons_succ]
          refine done_E (by kernel_rfl) ?_ _
          go_wp2_with fail
          go_ret
          exact .inr ⟨rfl, X :: (ys ++ zs), HTG.out, HJZ.out⟩
      · obtain rfl : j = sl := by omega
        have hln : decide ((j : Int) < (j : Int)) = false := by simp
        go_wp2_with fail
        gi_wp2
        go_ret
        refine .inl ⟨rfl, X :: ys, ?_, ?_, HKr.out⟩
        · rw [List.map_cons, HT.out, htag.out, HPR.out, List.take_of_length_le (by rw [HLEN.out]; exact Nat.le_refl _)]
        · have := hJr.out
          rw [List.append_assoc] at this
          exact this
  · gi_wp2
    go_ret
    exact .inr ⟨rfl, [X], by rw [HPR.out, List.map_cons, HT.out]; exact ⟨_, rfl⟩, hx3⟩
end Trm
end Go.Proofs.YtlijdgamobpndaaDoor
/-
  The contract of the program's function nodes: a range over it hands out a term's nodes.
  Conditions: the term lies in memory as told by 'TmP'; it has at most 1000000 nodes.
-/
namespace Go.Proofs.YtlijdgamobpndaaDoor
open Go.RowKit Go.Shelf
open Lvl
namespace Trm

theorem yield_any {m : Nat} (m' : Nat) {P : Program} {l : Nat} {args : Array Value} {W : World} {R : Ending → World → Prop} (h : YieldAt Fence.wide m P l args W R) : YieldAt Fence.wide m' P l args W R := by
  obtain ⟨fn, tmps, assign, body, hy, h1, h2⟩ := h
  exact ⟨fn, tmps, assign, body, hy, h1, fun c cs _ => h2 c cs (room_wide _)⟩
theorem grown_none {W W' : World} (h : Below W.heap.size W W') : W.grownBy W' none :=
  ⟨h.os, h.tape, h.output, h.size, fun k hk _ => h.block k hk⟩

set_option maxHeartbeats 1000000 in
theorem nodes_in (k n : Int) (m : ByteArray) (la : Option Addr) (ll lc : Nat) (sa : Option Addr) (sl sc : Nat) (w : World) :
    Calls Tryd.prog 34 #[.agg #[.int .i64 k, .int .i64 n, .string m, .slice la ll lc, .slice sa sl sc]] w fun e w' => e = .returned (.func (.func 43) #[] #[.pointer (some ⟨w.heap.size, 0, none⟩)]) ∧ w' = w.alloc (.cells #[.int .i64 k, .int .i64 n, .string m, .slice la ll lc, .slice sa sl sc] 25) := by
  go_enter Tryd.func34, Tryd.ntmps34
  go_wp2_with fail
  go_ret
  exact ⟨rfl, rfl⟩

set_option maxRecDepth 100000 in
set_option maxHeartbeats 1000000 in
theorem nodes_stops (w0 : World) (G : Tm × Nat × Nat → Prop) (D B : Nat) (t : Tm) (la : Option Addr) (ll lc : Nat) (sa : Option Addr) (sl sc : Nat) (w : World) (hB : w.heap[B]? = some (.cells #[.int .i64 (tkOf t), .int .i64 (tnOf t), .string (tmOf t), .slice la ll lc, .slice sa sl sc] 25 (0, 0)))
    (ok : TmP w0 (fun _ => True) t (.slice la ll lc) (.slice sa sl sc)) (hD : w0.heap.size ≤ D) (hDw : D ≤ w.heap.size) (hbw : Below w0.heap.size w0 w) (hn : tnodes t ≤ 1000000) (hG : ∀ q, q ∈ pre t 0 0 → G q) :
    SeqStopsK Fence.wide 12 Tryd.prog 43 #[.pointer (some ⟨B, 0, none⟩)] (It.enc (w0 := w0) (G := G)) (KpW w0.heap.size D) (fun xs => xs.map It.tag = pre t 0 0) (fun xs => xs.map It.tag <+: pre t 0 0) (pre t 0 0).length w := by
  intro l J Jx W hW hJ hJx hY h0
  have hr := (hW.block B (Array.getElem?_eq_some_iff.1 hB).1).trans hB
  obtain ⟨c0, c1, c2, c3, c4⟩ := five_cells hr
  have hwalk := walk_up w0 G D l (pre t 0 0).length (fun xs W' => J xs W' ∧ W.heap.size ≤ W'.heap.size) Jx (fun xs W1 W2 h hj => ⟨hJ xs W1 W2 none hj.1 (grown_none h) (fun r e => by cases e), Nat.le_trans hj.2 h.size⟩)
    (fun xs x W1 hj hlt => YieldAt.mono (yield_any 10 (hY xs x W1 hj.1 hlt)) (fun e W2 h => h.elim (fun ⟨he, hj2, hk⟩ => .inl ⟨he, ⟨hj2, Nat.le_trans hj.2 hk.1.size⟩, hk⟩) .inr))
    (tnodes t) ⟨t, la, ll, lc, sa, sl, sc, 0, 0, ok, hG _ (pre_head _ _ _)⟩ [] W (Nat.le_refl _) hn (by dsimp only; omega) (by dsimp only; omega) ⟨h0, Nat.le_refl _⟩ (hbw.trans (hW.mono hbw.size)) hD (Nat.le_trans hDw hW.size) (by simp) hG
  dsimp only [It.enc, tv, tplace] at hwalk
  have HWALK := Lib.hid hwalk
  clear hwalk hY hJ hJx
  refine callsIn_of_wp Tryd.func43 rfl trivial ?_ rfl
  simp only [Tryd.ntmps43, List.size_toArray, List.length_cons, List.length_nil, Nat.reduceAdd, Nat.reduceSub, Array.replicate_succ, Array.replicate_zero, List.push_toArray, List.append_toArray, List.nil_append, List.cons_append]
  gi_wp2
  refine ⟨trivial, ?_⟩
  refine HWALK.out.mono ?_
  rintro e W1 (⟨rfl, ys, h1, h2, _⟩ | ⟨rfl, ys, h1, h2⟩)
  · gi_wp2
    go_end0
    exact ⟨⟨_, rfl⟩, .inl ⟨ys, h1, by simpa using h2.1⟩⟩
  · gi_wp2
    go_end0
    exact ⟨⟨_, rfl⟩, .inr ⟨ys, h1, by simpa using h2⟩⟩
end Trm
end Go.Proofs.YtlijdgamobpndaaDoor
