/-
  The contract of the statements' own 'great', and a row of levels that comes in.
  Conditions: the level lies in memory as told by 'LvV'.
-/
import Derived.Test.YteghldgopidhhaaLvMem
import Derived.Test.YteghldgopidhhaaLvOpen
import Derived.Test.YteghldgopidhhaaLvInst
namespace Go.Proofs.Yteghldgopidhhaa
open Go.ChangeShapes Go.WideShapes Go.ChangeAt Go.RowKit
open Lvl

set_option maxRecDepth 100000 in
theorem great_is (t : Lv) (v : Value) (w : World) (hv : LvV w t v) (b : Bool) (hb : decide (300 < nodes t) = b) :
    Calls Try.prog 9 #[v] w (Ret w (.bool b)) := by
  obtain ⟨s, rfl, hs⟩ := hv
  have HVT := Lib.hid (show LvV w t _ from ⟨s, rfl, hs⟩)
  obtain ⟨R, hR⟩ : ∃ R, min (nodes t) (300 + 1) = R := ⟨_, rfl⟩
  have HR := Lib.hid hR
  have hd : decide ((300 : Int) < (R : Int)) = b := by
    rw [← hb]
    simp only [decide_eq_decide]
    omega
  generalize kindOf t = k at *
  generalize numOf t = n at *
  clear hs hR hb
  go_enter Try.func9, Try.ntmps9
  go_wp2_with fail
  have HB := Lib.hid (below_lit w (.cells #[.int .i64 k, .int .i64 n, s] 24))
  generalize w.alloc (.cells #[.int .i64 k, .int .i64 n, s] 24) = W at *
  refine (levelNodes_is t _ 300 W (HVT.out.below HB.out) (by omega) R HR.out).mono ?_
  rintro e w2 ⟨rfl, hb⟩
  have HB2 := Lib.hid (HB.out.trans (hb.mono HB.out.size))
  clear hb
  go_wp2_with fail
  go_ret
  exact ⟨by first | rfl | (rw [← hd]; simp), HB2.out⟩

set_option maxRecDepth 100000 in
/-- A row of levels that comes in as an argument. -/
theorem open_levels {H : Type} {enc : TypeId × Value → H} {W : World} {base : Nat} {v : Value} {d : DataW H} {p : List MemPlace} (laidOut : laidOutB Try.prog = true) (hv : Value.okWide Try.prog W .any base 22 v)
    (h : DataW.Trod enc Try.prog W 0 (fun _ => true) true 22 v d p) (hlt : ∀ x ∈ p, x.block < W.heap.size) (hw : ∀ n ∈ d.weights Try.prog 22, n ≤ reachBytes) :
    ∃ ts, LvL W v ts ∧ (∀ W', Below W.heap.size W W' → DataW.Trod enc Try.prog W' 0 (fun b => decide (b < W.heap.size)) true 22 v d p) := by
  have stays : ∀ W', Below W.heap.size W W' → DataW.Trod enc Try.prog W' 0 (fun b => decide (b < W.heap.size)) true 22 v d p := fun W' hb =>
    Below.trod laidOut (by kernel_rfl) (of_decide_eq_true (by kernel_rfl)) h hb hlt
  obtain ⟨A, n, c, rfl⟩ := okWide_slice Try.underlying22 hv
  obtain ⟨fuel, hf⟩ := h
  rcases DataW.trod_slice Try.underlying22 hf with ⟨e2, _⟩ | ⟨a, len, cap, elems, rest, fu, hfu2, e2, e3, _, hlc, _, hel, hat, _, _⟩
  · simp [Value.cells] at e2
    obtain ⟨rfl, rfl, rfl⟩ := e2
    refine ⟨[], ?_, stays⟩
    unfold LvL
    rw [LvS]
    exact ⟨none, 0, 0, rfl, rfl, Nat.le_refl _, by omega, fun _ => rfl, by rw [LsV]; trivial⟩
  · simp [Value.cells] at e2
    obtain ⟨rfl, rfl, rfl⟩ := e2
    have e4 : d = DataW.slice (elems.map (·.1)) (rest.map (·.1)) := congrArg Prod.fst e3
    subst e4
    have hlen47 : n ≤ 140737488355328 := by
      have h1 := hw ((elems.length + rest.length) * Try.prog.bytesOf 24) (by simp [DataW.weights, Try.underlying22])
      rw [lv_bytes, hel] at h1
      have h2 : reachBytes = 140737488351232 := rfl
      rw [h2] at h1
      omega
    have each : ∀ i, i < n → ∃ q : Lv × Value, W.cell? (a.add (i * 3)) = some (.int .i64 (kindOf q.1)) ∧ W.cell? (a.add (i * 3 + 1)) = some (.int .i64 (numOf q.1)) ∧ W.cell? (a.add (i * 3 + 2)) = some q.2 ∧ LvS W q.1 q.2 := by
      intro i hi
      have h1 := hat i hi
      rw [List.getElem?_eq_getElem (by omega), lv_cells, Option.bind_eq_some_iff] at h1
      obtain ⟨cs', hcs, htr⟩ := h1
      obtain ⟨t, s, rfl, hls⟩ := open_lv fu cs' _ htr (fun q hq => hw q (by
        simp only [DataW.weights, Try.underlying22]
        exact List.mem_cons_of_mem _ (List.mem_append_left _ (weights_all (List.mem_map_of_mem (List.getElem_mem (by omega))) q hq))))
      obtain ⟨_, _, hc⟩ := World.cells?_some hcs
      have c0 := hc 0 (by omega)
      have c1 := hc 1 (by omega)
      have c2 := hc 2 (by omega)
      rw [Deep.add_add] at c0 c1 c2
      exact ⟨(t, s), by simpa using c0, by simpa using c1, by simpa using c2, hls⟩
    have : Inhabited (Lv × Value) := ⟨(.mk 0 0 [], .bool false)⟩
    obtain ⟨q, hq⟩ := Deep.choose_lt each
    refine ⟨(List.range n).map fun i => (q i).1, ?_, stays⟩
    unfold LvL
    rw [LvS]
    refine ⟨some a, n, c, rfl, by simp, hlc, hlen47, (fun e => by cases e), lsV_of _ 0 fun i hi => ?_⟩
    have hi2 : i < n := by simpa using hi
    obtain ⟨c0, c1, c2, hls⟩ := hq i hi2
    obtain ⟨b, o, spot⟩ := a
    obtain rfl : spot = none := by simpa [Addr.add] using World.cell?_spot (hq 0 (by omega)).1
    rw [txt_add] at c0 c1 c2
    simp only [List.getElem_map, List.getElem_range, Nat.zero_add]
    have hlt : b < W.heap.size := by
      rcases Nat.lt_or_ge b W.heap.size with hlt' | hge
      · exact hlt'
      · unfold World.cell? at c0
        rw [Array.getElem?_eq_none hge] at c0
        simp at c0
    exact ⟨b, o, (q i).2, rfl, hlt, c0, by rw [Nat.add_assoc]; exact c1, by rw [Nat.add_assoc]; exact c2, hls⟩
end Go.Proofs.Yteghldgopidhhaa
