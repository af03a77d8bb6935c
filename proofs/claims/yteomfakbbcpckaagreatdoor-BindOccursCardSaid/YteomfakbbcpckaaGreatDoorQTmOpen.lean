/-
 A term, or a row of terms, that comes in: what lies in memory is a tree as told by 'TmP'.
 Conditions: none.
-/
import Derived.Test.YteomfakbbcpckaaGreatDoorQLvOpen
import Derived.Test.YteomfakbbcpckaaGreatDoorJ04
import Derived.Test.YteomfakbbcpckaaGreatDoorJ09
namespace Go.Proofs.YteomfakbbcpckaaGreatDoor
open Go.ChangeShapes Go.WideShapes Go.ChangeAt Go.RowKit
open Lvl
namespace Trm
theorem tm_cells : Tryz.prog.cellsOf 25 = 5 := by kernel_rfl
theorem tm_bytes : Tryz.prog.bytesOf 25 = 80 := by kernel_rfl
theorem cell_in {W : World} {b o : Nat} {u : Value} (h : W.cell? ⟨b, o, none⟩ = some u) : b < W.heap.size := by
 rcases Nat.lt_or_ge b W.heap.size with hlt' | hge
 ·exact hlt'
 ·unfold World.cell? at h
  rw [Array.getElem?_eq_none hge] at h
  simp at h
set_option maxRecDepth 100000 in
/-- A row of levels that lies in a cell. -/
theorem open_lvs {H : Type} {enc : TypeId × Value → H} {W : World} {fuel : Nat} {c : Value} {x : DataW H × List MemPlace} (h : DataW.trod enc Tryz.prog W 0 (fun _ => true) true fuel 22 [c] = some x) (hw : ∀ n ∈ x.1.weights Tryz.prog 22, n ≤ reachBytes) :
  ∃ ls, LvP W (fun _ => True) (.mk 0 0 ls) c := by
 rcases DataW.trod_slice Tryz.underlying22 h with ⟨e2, _⟩ | ⟨a, len, cap, elems, rest, fu, hfu2, e2, rfl, _, hlc, _, hel, hat, _, _⟩
 ·cases e2
  exact ⟨[], lvP_nil _ _⟩
 ·cases e2
  have hlen47 : len ≤ 140737488355328 := by
   have h1 := hw ((elems.length + rest.length) * Tryz.prog.bytesOf 48) (by simp [DataW.weights, Tryz.underlying22])
   rw [lv_bytes, hel] at h1
   have h2 : reachBytes = 140737488351232 := rfl
   rw [h2] at h1
   omega
  have each : ∀ i, i < len → ∃ q : Lv × Value, W.cell? (a.add (i * 3)) = some (.int .i64 (kindOf q.1)) ∧ W.cell? (a.add (i * 3 + 1)) = some (.int .i64 (numOf q.1)) ∧ W.cell? (a.add (i * 3 + 2)) = some q.2 ∧ LvS W q.1 q.2 := by
   intro i hi
   have h1 := hat i hi
   rw [List.getElem?_eq_getElem (by omega), lv_cells, Option.bind_eq_some_iff] at h1
   obtain ⟨cs', hcs, htr⟩ := h1
   obtain ⟨t, s, rfl, hls⟩ := open_lv fu cs' _ htr (fun q hq => hw q (by
    simp only [DataW.weights, Tryz.underlying22]
    exact List.mem_cons_of_mem _ (List.mem_append_left _ (weights_all (List.mem_map_of_mem (List.getElem_mem (by omega))) q hq))))
   obtain ⟨_, _, hc⟩ := World.cells?_some hcs
   have c0 := hc 0 (by omega)
   have c1 := hc 1 (by omega)
   have c2 := hc 2 (by omega)
   rw [Deep.add_add] at c0 c1 c2
   exact ⟨(t, s), by simpa using c0, by simpa using c1, by simpa using c2, hls⟩
  have : Inhabited (Lv × Value) := ⟨(.mk 0 0 [], .bool false)⟩
  obtain ⟨q, hq⟩ := Deep.choose_lt each
  refine ⟨(List.range len).map fun i => (q i).1, lvP_true _ _ ?_⟩
  rw [LvS]
  refine ⟨some a, len, cap, rfl, by simp, hlc, hlen47, (fun e => by cases e), lsV_of _ 0 fun i hi => ?_⟩
  have hi2 : i < len := by simpa using hi
  obtain ⟨c0, c1, c2, hls⟩ := hq i hi2
  obtain ⟨b, o, spot⟩ := a
  obtain rfl : spot = none := by simpa [Addr.add] using World.cell?_spot (hq 0 (by omega)).1
  rw [txt_add] at c0 c1 c2
  simp only [List.getElem_map, List.getElem_range, Nat.zero_add]
  exact ⟨b, o, (q i).2, rfl, cell_in c0, c0, by rw [Nat.add_assoc]; exact c1, by rw [Nat.add_assoc]; exact c2, hls⟩
/-- The row of terms at an address. -/
theorem tsP_told {W : World} {a : Addr} {len : Nat} {q : Nat → Tm × Value × Value} (hq : ∀ i, i < len → W.cell? (a.add (i * 5)) = some (.int .i64 (tkOf (q i).1)) ∧ W.cell? (a.add (i * 5 + 1)) = some (.int .i64 (tnOf (q i).1)) ∧ W.cell? (a.add (i * 5 + 2)) = some (.string (tmOf (q i).1)) ∧ W.cell? (a.add (i * 5 + 3)) = some (q i).2.1 ∧ W.cell? (a.add (i * 5 + 4)) = some (q i).2.2 ∧ TmP W (fun _ => True) (q i).1 (q i).2.1 (q i).2.2) :
  TsP W (fun _ => True) (some a) 0 ((List.range len).map fun i => (q i).1) := by
 refine tsP_of _ 0 fun i hi => ?_
 have hi2 : i < len := by simpa using hi
 obtain ⟨c0, c1, c2, c3, c4, hls⟩ := hq i hi2
 obtain ⟨b, o, spot⟩ := a
 obtain rfl : spot = none := by simpa [Addr.add] using World.cell?_spot (hq 0 (by omega)).1
 rw [txt_add] at c0 c1 c2 c3 c4
 simp only [List.getElem_map, List.getElem_range, Nat.zero_add]
 exact ⟨b, o, (q i).2.1, (q i).2.2, rfl, cell_in c0, trivial, c0, by rw [Nat.add_assoc]; exact c1, by rw [Nat.add_assoc]; exact c2, by rw [Nat.add_assoc]; exact c3, by rw [Nat.add_assoc]; exact c4, hls⟩
theorem nmOkL_of : ∀ {l : List Tm}, (∀ a ∈ l, nmOk a) → nmOkL l
 | [], _ => by rw [nmOkL]; trivial
 | a :: l, h => by
  rw [nmOkL]
  exact ⟨h a (by simp), nmOkL_of fun b hb => h b (by simp [hb])⟩
/-- What is asked of a reading at so much fuel. -/
def Opens (H : Type) (enc : TypeId × Value → H) (W : World) (fuel : Nat) : Prop := ∀ (cs : List Value) (x : DataW H × List MemPlace), DataW.trod enc Tryz.prog W 0 (fun _ => true) true fuel 25 cs = some x → (∀ n ∈ x.1.weights Tryz.prog 25, n ≤ reachBytes) →
  ∃ t l s, cs = [.int .i64 (tkOf t), .int .i64 (tnOf t), .string (tmOf t), l, s] ∧ TmP W (fun _ => True) t l s ∧ nmOk t
set_option maxRecDepth 100000 in
/-- A row of terms that lies in a cell. -/
theorem open_tms {H : Type} {enc : TypeId × Value → H} {W : World} {fuel : Nat} {c : Value} {x : DataW H × List MemPlace} (ih : ∀ n, n < fuel → Opens H enc W n) (h : DataW.trod enc Tryz.prog W 0 (fun _ => true) true fuel 23 [c] = some x) (hw : ∀ n ∈ x.1.weights Tryz.prog 23, n ≤ reachBytes) :
  ∃ A len cap ts, c = .slice A len cap ∧ ts.length = len ∧ len ≤ cap ∧ len * 80 ≤ 140737488351232 ∧ (A = none → cap = 0) ∧ TsP W (fun _ => True) A 0 ts ∧ nmOkL ts := by
 rcases DataW.trod_slice Tryz.underlying23 h with ⟨e2, _⟩ | ⟨a, len, cap, elems, rest, fu, hfu2, e2, rfl, _, hlc, _, hel, hat, _, _⟩
 ·cases e2
  exact ⟨none, 0, 0, [], rfl, rfl, Nat.le_refl _, by omega, fun _ => rfl, by rw [TsP]; trivial, by rw [nmOkL]; trivial⟩
 ·cases e2
  have hlen47 : len * 80 ≤ 140737488351232 := by
   have h1 := hw ((elems.length + rest.length) * Tryz.prog.bytesOf 25) (by simp [DataW.weights, Tryz.underlying23])
   rw [tm_bytes, hel] at h1
   have h2 : reachBytes = 140737488351232 := rfl
   rw [h2] at h1
   omega
  have each : ∀ i, i < len → ∃ q : Tm × Value × Value, (W.cell? (a.add (i * 5)) = some (.int .i64 (tkOf q.1)) ∧ W.cell? (a.add (i * 5 + 1)) = some (.int .i64 (tnOf q.1)) ∧ W.cell? (a.add (i * 5 + 2)) = some (.string (tmOf q.1)) ∧ W.cell? (a.add (i * 5 + 3)) = some q.2.1 ∧ W.cell? (a.add (i * 5 + 4)) = some q.2.2 ∧ TmP W (fun _ => True) q.1 q.2.1 q.2.2) ∧ nmOk q.1 := by
   intro i hi
   have h1 := hat i hi
   rw [List.getElem?_eq_getElem (by omega), tm_cells, Option.bind_eq_some_iff] at h1
   obtain ⟨cs', hcs, htr⟩ := h1
   obtain ⟨t, l, s, rfl, hls, hnm⟩ := ih fu (by omega) cs' _ htr (fun q hq => hw q (by
    simp only [DataW.weights, Tryz.underlying23]
    exact List.mem_cons_of_mem _ (List.mem_append_left _ (weights_all (List.mem_map_of_mem (List.getElem_mem (by omega))) q hq))))
   obtain ⟨_, _, hc⟩ := World.cells?_some hcs
   have c0 := hc 0 (by omega)
   have c1 := hc 1 (by omega)
   have c2 := hc 2 (by omega)
   have c3 := hc 3 (by omega)
   have c4 := hc 4 (by omega)
   rw [Deep.add_add] at c0 c1 c2 c3 c4
   exact ⟨(t, l, s), ⟨by simpa using c0, by simpa using c1, by simpa using c2, by simpa using c3, by simpa using c4, hls⟩, hnm⟩
  have : Inhabited (Tm × Value × Value) := ⟨(.mk 0 0 ⟨#[]⟩ [] [], .bool false, .bool false)⟩
  obtain ⟨q, hq⟩ := Deep.choose_lt each
  refine ⟨some a, len, cap, (List.range len).map fun i => (q i).1, rfl, by simp, hlc, hlen47, (fun e => by cases e), tsP_told (fun i hi => (hq i hi).1), nmOkL_of fun b hb => ?_⟩
  obtain ⟨i, hi, rfl⟩ := List.mem_map.1 hb
  exact (hq i (List.mem_range.1 hi)).2
set_option maxRecDepth 100000 in
theorem open_tm {H : Type} {enc : TypeId × Value → H} {W : World} : ∀ (fuel : Nat), Opens H enc W fuel := by
 intro fuel
 induction fuel using Nat.strongRecOn with
 | _ fuel ih =>
 intro cs x h hw
 obtain ⟨xs, n, hfu, rfl, hl, hlen, hf⟩ := DataW.trod_struct Tryz.underlying25 h
 rw [tm_cells] at hl
 match xs, hlen, cs, hl with
 | [y0, y1, y2, y3, y4], _, [c0, c1, c2, c3, c4], _ =>
  have g0 := hf 0 _ rfl
  have g1 := hf 1 _ rfl
  have g2 := hf 2 _ rfl
  have g3 := hf 3 _ rfl
  have g4 := hf 4 _ rfl
  have z0 : DataW.trod enc Tryz.prog W 0 (fun _ => true) true n 3 [c0] = some y0 := g0
  have z1 : DataW.trod enc Tryz.prog W 0 (fun _ => true) true n 3 [c1] = some y1 := g1
  have z2 : DataW.trod enc Tryz.prog W 0 (fun _ => true) true n 9 [c2] = some y2 := g2
  have z3 : DataW.trod enc Tryz.prog W 0 (fun _ => true) true n 22 [c3] = some y3 := g3
  have z4 : DataW.trod enc Tryz.prog W 0 (fun _ => true) true n 23 [c4] = some y4 := g4
  have hwf : ∀ (j : Nat) (t : TypeId) (y : DataW H × List MemPlace), [3, 3, 9, 22, 23][j]? = some t → [y0, y1, y2, y3, y4][j]? = some y → ∀ q ∈ y.1.weights Tryz.prog t, q ≤ reachBytes := fun j t y ht hy q hq => hw q (by
   simp only [List.map_cons, List.map_nil, DataW.weights, Tryz.underlying25]
   show q ∈ DataW.weightsEach Tryz.prog [3, 3, 9, 22, 23] [y0.1, y1.1, y2.1, y3.1, y4.1]
   exact DataW.weights_mem_each (j := j) ht (by rw [show [y0.1, y1.1, y2.1, y3.1, y4.1] = [y0, y1, y2, y3, y4].map (·.1) from rfl, List.getElem?_map, hy]; rfl) q hq)
  obtain ⟨k, e0, _, _⟩ := DataW.trod_int Tryz.underlying3 z0
  obtain ⟨m, e1, _, _⟩ := DataW.trod_int Tryz.underlying3 z1
  obtain ⟨nm, e2, hy2, _⟩ := DataW.trod_string Tryz.underlying9 z2
  cases e0
  cases e1
  cases e2
  have hnm : nm.size ≤ 140737488351232 := by
   have := hwf 2 _ y2 rfl rfl nm.data.toList.length (by rw [hy2]; simp [DataW.weights])
   have h2 : reachBytes = 140737488351232 := rfl
   rw [h2] at this
   simpa using this
  obtain ⟨ls, hls⟩ := open_lvs z3 (hwf 3 _ y3 rfl rfl)
  obtain ⟨A, len, cap, ts, rfl, h1, h2, h3, h4, h5, h6⟩ := open_tms (fun n' hn' => ih n' (by omega)) z4 (hwf 4 _ y4 rfl rfl)
  refine ⟨.mk k m nm ls ts, c3, .slice A len cap, rfl, ?_, ?_⟩
  ·rw [TmP]
   exact ⟨hls, A, len, cap, rfl, h1, h2, by omega, h4, h5⟩
  ·rw [nmOk]
   exact ⟨by omega, h6⟩
set_option maxRecDepth 100000 in
/-- A term that comes in as an argument. -/
theorem open_term {H : Type} {enc : TypeId × Value → H} {W : World} {base : Nat} {v : Value} {d : DataW H} {p : List MemPlace} (laidOut : laidOutB Tryz.prog = true) (hv : Value.okWide Tryz.prog W .any base 25 v)
  (h : DataW.Trod enc Tryz.prog W 0 (fun _ => true) true 25 v d p) (hlt : ∀ x ∈ p, x.block < W.heap.size) (hw : ∀ n ∈ d.weights Tryz.prog 25, n ≤ reachBytes) :
  ∃ t, TmV W t v ∧ nmOk t ∧ (∀ W', Below W.heap.size W W' → DataW.Trod enc Tryz.prog W' 0 (fun b => decide (b < W.heap.size)) true 25 v d p) := by
 have stays : ∀ W', Below W.heap.size W W' → DataW.Trod enc Tryz.prog W' 0 (fun b => decide (b < W.heap.size)) true 25 v d p := fun W' hb =>
  Below.trod laidOut (by kernel_rfl) (of_decide_eq_true (by kernel_rfl)) h hb hlt
 obtain ⟨cs, rfl, _⟩ := okWide_struct Tryz.underlying25 hv
 obtain ⟨fuel, hf⟩ := h
 obtain ⟨t, l, s, he, hls, hnm⟩ := open_tm fuel _ _ hf hw
 have hc : cs = #[.int .i64 (tkOf t), .int .i64 (tnOf t), .string (tmOf t), l, s] := by
  have : cs.toList = [.int .i64 (tkOf t), .int .i64 (tnOf t), .string (tmOf t), l, s] := by simpa [Value.cells] using he
  rw [← this]
 subst hc
 exact ⟨t, ⟨l, s, rfl, hls⟩, hnm, stays⟩
set_option maxRecDepth 100000 in
/-- A row of terms that comes in as an argument. -/
theorem open_terms {H : Type} {enc : TypeId × Value → H} {W : World} {base : Nat} {v : Value} {d : DataW H} {p : List MemPlace} (laidOut : laidOutB Tryz.prog = true) (hv : Value.okWide Tryz.prog W .any base 23 v)
  (h : DataW.Trod enc Tryz.prog W 0 (fun _ => true) true 23 v d p) (hlt : ∀ x ∈ p, x.block < W.heap.size) (hw : ∀ n ∈ d.weights Tryz.prog 23, n ≤ reachBytes) :
  ∃ A len cap ts, v = .slice A len cap ∧ ts.length = len ∧ len ≤ cap ∧ len * 80 ≤ 140737488351232 ∧ (A = none → cap = 0) ∧ TsP W (fun _ => True) A 0 ts ∧ nmOkL ts ∧ (∀ W', Below W.heap.size W W' → DataW.Trod enc Tryz.prog W' 0 (fun b => decide (b < W.heap.size)) true 23 v d p) := by
 have stays : ∀ W', Below W.heap.size W W' → DataW.Trod enc Tryz.prog W' 0 (fun b => decide (b < W.heap.size)) true 23 v d p := fun W' hb =>
  Below.trod laidOut (by kernel_rfl) (of_decide_eq_true (by kernel_rfl)) h hb hlt
 obtain ⟨A0, n0, c0, rfl⟩ := okWide_slice Tryz.underlying23 hv
 obtain ⟨fuel, hf⟩ := h
 have hf' : DataW.trod enc Tryz.prog W 0 (fun _ => true) true fuel 23 [.slice A0 n0 c0] = some (d, p) := by simpa [Value.cells] using hf
 obtain ⟨A, len, cap, ts, e, h1, h2, h3, h4, h5, h6⟩ := open_tms (fun n _ => open_tm n) hf' hw
 exact ⟨A, len, cap, ts, e, h1, h2, h3, h4, h5, h6, stays⟩
end Trm
end Go.Proofs.YteomfakbbcpckaaGreatDoor
