/-
 A level that comes in: what lies in memory is a tree as told by 'LvV'.
 Conditions: none.
-/
import Derived.Test.YteomfakbbcpckaaGreatDoorJ02
import Derived.OpenShut
import Derived.Lib.SmallJoins
namespace Go.Proofs.YteomfakbbcpckaaGreatDoor
open Go.ChangeShapes Go.WideShapes Go.ChangeAt Go.RowKit
open Lvl
theorem lsV_of {w : World} {A : Option Addr} : ∀ (ts : List Lv) (j : Nat), (∀ i (h : i < ts.length), ∃ b o s, A = some ⟨b, o, none⟩ ∧ b < w.heap.size ∧ w.cell? ⟨b, o + (j + i) * 3, none⟩ = some (.int .i64 (kindOf ts[i])) ∧ w.cell? ⟨b, o + (j + i) * 3 + 1, none⟩ = some (.int .i64 (numOf ts[i])) ∧ w.cell? ⟨b, o + (j + i) * 3 + 2, none⟩ = some s ∧ LvS w ts[i] s) → LsV w A j ts
 | [], _, _ => by rw [LsV]; trivial
 | a :: ts, j, h => by
  rw [LsV]
  refine ⟨h 0 (by simp), lsV_of ts (j + 1) fun i hi => ?_⟩
  have := h (i + 1) (by simpa using hi)
  rw [show j + (i + 1) = j + 1 + i by omega] at this
  exact this
theorem lv_cells : Tryz.prog.cellsOf 48 = 3 := by kernel_rfl
theorem lv_bytes : Tryz.prog.bytesOf 48 = 40 := by kernel_rfl
theorem weights_all {H : Type} {P : Program} {e : TypeId} : ∀ {l : List (DataW H)} {d : DataW H}, d ∈ l → ∀ n ∈ d.weights P e, n ∈ DataW.weightsAll P e l
 | y :: l, d, h, n, hn => by
  rw [DataW.weightsAll, List.mem_append]
  rcases List.mem_cons.1 h with rfl | h
  ·exact .inl hn
  ·exact .inr (weights_all h n hn)
set_option maxRecDepth 100000 in
theorem open_lv {H : Type} {enc : TypeId × Value → H} {W : World} : ∀ (fuel : Nat) (cs : List Value) (x : DataW H × List MemPlace), DataW.trod enc Tryz.prog W 0 (fun _ => true) true fuel 48 cs = some x → (∀ n ∈ x.1.weights Tryz.prog 48, n ≤ reachBytes) →
  ∃ t s, cs = [.int .i64 (kindOf t), .int .i64 (numOf t), s] ∧ LvS W t s := by
 intro fuel
 induction fuel using Nat.strongRecOn with
 | _ fuel ih =>
 intro cs x h hw
 obtain ⟨xs, n, hfu, rfl, hl, hlen, hf⟩ := DataW.trod_struct Tryz.underlying48 h
 rw [lv_cells] at hl
 match xs, hlen, cs, hl with
 | [y0, y1, y2], _, [c0, c1, c2], _ =>
  have g0 := hf 0 _ rfl
  have g1 := hf 1 _ rfl
  have g2 := hf 2 _ rfl
  have z0 : DataW.trod enc Tryz.prog W 0 (fun _ => true) true n 3 [c0] = some y0 := g0
  have z1 : DataW.trod enc Tryz.prog W 0 (fun _ => true) true n 3 [c1] = some y1 := g1
  have z2 : DataW.trod enc Tryz.prog W 0 (fun _ => true) true n 22 [c2] = some y2 := g2
  obtain ⟨k, e0, _, _⟩ := DataW.trod_int Tryz.underlying3 z0
  obtain ⟨m, e1, _, _⟩ := DataW.trod_int Tryz.underlying3 z1
  cases e0
  cases e1
  rcases DataW.trod_slice Tryz.underlying22 z2 with ⟨e2, _⟩ | ⟨a, len, cap, elems, rest, fu, hfu2, e2, rfl, _, hlc, _, hel, hat, _, _⟩
  ·cases e2
   refine ⟨.mk k m [], .slice none 0 0, rfl, ?_⟩
   rw [LvS]
   exact ⟨none, 0, 0, rfl, rfl, Nat.le_refl _, by omega, fun _ => rfl, by rw [LsV]; trivial⟩
  ·cases e2
   have hwe : ∀ q ∈ (DataW.slice (elems.map (·.1)) (rest.map (·.1)) : DataW H).weights Tryz.prog 22, q ≤ reachBytes := fun q hq => hw q (by
    simp only [List.map_cons, List.map_nil, DataW.weights, Tryz.underlying48]
    show q ∈ DataW.weightsEach Tryz.prog [3, 3, 22] [y0.1, y1.1, _]
    simp only [DataW.weightsEach, List.mem_append]
    exact .inr (.inr (.inl hq)))
   have hlen47 : len ≤ 140737488355328 := by
    have h1 := hwe ((elems.length + rest.length) * Tryz.prog.bytesOf 48) (by simp [DataW.weights, Tryz.underlying22])
    rw [lv_bytes, hel] at h1
    have h2 : reachBytes = 140737488351232 := rfl
    rw [h2] at h1
    omega
   have each : ∀ i, i < len → ∃ q : Lv × Value, W.cell? (a.add (i * 3)) = some (.int .i64 (kindOf q.1)) ∧ W.cell? (a.add (i * 3 + 1)) = some (.int .i64 (numOf q.1)) ∧ W.cell? (a.add (i * 3 + 2)) = some q.2 ∧ LvS W q.1 q.2 := by
    intro i hi
    have h1 := hat i hi
    rw [List.getElem?_eq_getElem (by omega), lv_cells, Option.bind_eq_some_iff] at h1
    obtain ⟨cs', hcs, htr⟩ := h1
    obtain ⟨t, s, rfl, hls⟩ := ih fu (by omega) cs' _ htr (fun q hq => hwe q (by
     simp only [DataW.weights, Tryz.underlying22]
     exact List.mem_cons_of_mem _ (List.mem_append_left _ (weights_all (List.mem_map_of_mem (List.getElem_mem (by omega))) q hq))))
    obtain ⟨_, _, hc⟩ := World.cells?_some hcs
    have c0 := hc 0 (by omega)
    have c1 := hc 1 (by omega)
    have c2 := hc 2 (by omega)
    rw [Deep.add_add] at c0 c1 c2
    exact ⟨(t, s), by simpa using c0, by simpa using c1, by simpa using c2, hls⟩
   have : Inhabited (Lv × Value) := ⟨(.mk 0 0 [], .bool false)⟩
   obtain ⟨q, hq⟩ := Deep.choose_lt each
   refine ⟨.mk k m ((List.range len).map fun i => (q i).1), .slice (some a) len cap, rfl, ?_⟩
   rw [LvS]
   refine ⟨some a, len, cap, rfl, by simp, hlc, hlen47, (fun e => by cases e), lsV_of _ 0 fun i hi => ?_⟩
   have hi2 : i < len := by simpa using hi
   obtain ⟨c0, c1, c2, hls⟩ := hq i hi2
   obtain ⟨b, o, spot⟩ := a
   obtain rfl : spot = none := by simpa [Addr.add] using World.cell?_spot (hq 0 (by omega)).1
   rw [txt_add] at c0 c1 c2
   simp only [List.getElem_map, List.getElem_range, Nat.zero_add]
   have hlt : b < W.heap.size := by
    rcases Nat.lt_or_ge b W.heap.size with hlt' | hge
    ·exact hlt'
    ·unfold World.cell? at c0
     rw [Array.getElem?_eq_none hge] at c0
     simp at c0
   exact ⟨b, o, (q i).2, rfl, hlt, c0, by rw [Nat.add_assoc]; exact c1, by rw [Nat.add_assoc]; exact c2, hls⟩
set_option maxRecDepth 100000 in
/-- A level that comes in as an argument. -/
theorem open_level {H : Type} {enc : TypeId × Value → H} {W : World} {base : Nat} {v : Value} {d : DataW H} {p : List MemPlace} (laidOut : laidOutB Tryz.prog = true) (hv : Value.okWide Tryz.prog W .any base 48 v)
  (h : DataW.Trod enc Tryz.prog W 0 (fun _ => true) true 48 v d p) (hlt : ∀ x ∈ p, x.block < W.heap.size) (hw : ∀ n ∈ d.weights Tryz.prog 48, n ≤ reachBytes) :
  ∃ t, LvV W t v ∧ (∀ W', Below W.heap.size W W' → DataW.Trod enc Tryz.prog W' 0 (fun b => decide (b < W.heap.size)) true 48 v d p) := by
 have stays : ∀ W', Below W.heap.size W W' → DataW.Trod enc Tryz.prog W' 0 (fun b => decide (b < W.heap.size)) true 48 v d p := fun W' hb =>
  Below.trod laidOut (by kernel_rfl) (of_decide_eq_true (by kernel_rfl)) h hb hlt
 obtain ⟨cs, rfl, _⟩ := okWide_struct Tryz.underlying48 hv
 obtain ⟨fuel, hf⟩ := h
 obtain ⟨t, s, he, hls⟩ := open_lv fuel _ _ hf hw
 have hc : cs = #[.int .i64 (kindOf t), .int .i64 (numOf t), s] := by
  have : cs.toList = [.int .i64 (kindOf t), .int .i64 (numOf t), s] := by simpa [Value.cells] using he
  rw [← this]
 subst hc
 exact ⟨t, ⟨s, rfl, hls⟩, stays⟩
end Go.Proofs.YteomfakbbcpckaaGreatDoor
