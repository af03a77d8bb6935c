/-
 What the rows of laws over terms and texts share: a list of texts that comes in.
 Conditions: none.
-/
import Derived.Test.YteomfakbbcpckaaGreatDoorQRowB
namespace Go.Proofs.YteomfakbbcpckaaGreatDoor
open Go.ChangeShapes Go.WideShapes Go.ChangeAt Go.RowKit
section
variable {H : Type} {enc : TypeId × Value → H} {P : Program}
theorem weights_texts (e : TypeId) : ∀ (xs : List ByteArray) (x : ByteArray), x ∈ xs → x.size ∈ DataW.weightsAll P e (strs (H := H) xs)
 | y :: xs, x, h => by
  unfold strs
  rw [List.map_cons, DataW.weightsAll, List.mem_append]
  rw [List.mem_cons] at h
  rcases h with rfl | h
  ·left; rw [Lib.size_eq]; simp only [DataW.weights]; exact List.mem_singleton.2 rfl
  ·exact .inr (weights_texts e xs x h)
end
theorem cStr : Tryz.prog.cellsOf 9 = 1 := by kernel_rfl
theorem bStr : Tryz.prog.bytesOf 9 = 16 := by kernel_rfl
set_option maxRecDepth 100000 in
/-- A list of texts that comes in. -/
theorem open_texts {H : Type} {enc : TypeId × Value → H} {W : World} {base : Nat} {v : Value} {d : DataW H} {p : List MemPlace} (hv : Value.okWide Tryz.prog W .any base 37 v)
  (h : DataW.Trod enc Tryz.prog W 0 (fun _ => true) true 37 v d p) (hlt : ∀ x ∈ p, x.block < W.heap.size) (hw : ∀ n ∈ d.weights Tryz.prog 37, n ≤ reachBytes) :
  ∃ A n c xs, v = .slice A n c ∧ Txt W A xs ∧ xs.length = n ∧ (A = none → c = 0) ∧ n * 16 ≤ 140737488351232 ∧ (∀ x ∈ xs, x.size ≤ 140737488351232) ∧
   (∀ W', Below W.heap.size W W' → DataW.Trod enc Tryz.prog W' 0 (fun b => decide (b < W.heap.size)) true 37 v d p) := by
 have stays : ∀ W', Below W.heap.size W W' → DataW.Trod enc Tryz.prog W' 0 (fun b => decide (b < W.heap.size)) true 37 v d p := fun W' hb =>
  Below.trod laidOut (by kernel_rfl) (of_decide_eq_true (by kernel_rfl)) h hb hlt
 obtain ⟨A, n, c, rfl⟩ := okWide_slice Tryz.underlying37 hv
 obtain ⟨fuel, hf⟩ := h
 rcases open_strings Tryz.underlying37 Tryz.underlying9 cStr hf with ⟨hcs, hx⟩ | ⟨a, len, cap, zs, hcs, _, hl, hm, hz, hx, hcell, hwz⟩
 ·simp [Value.cells] at hcs
  obtain ⟨rfl, rfl, rfl⟩ := hcs
  exact ⟨none, 0, 0, [], rfl, txt_nil _ _, rfl, fun _ => rfl, by omega, (fun x hx => by cases hx), stays⟩
 ·simp [Value.cells] at hcs
  obtain ⟨rfl, rfl, rfl⟩ := hcs
  simp only [Prod.mk.injEq] at hx
  obtain ⟨rfl, rfl⟩ := hx
  simp only [if_true] at hz
  have e1 : (strs (H := H) (zs.take n)).length = n := by simp [strs]; omega
  have hsz : n * 16 ≤ reachBytes := by
   have := hw ((strs (H := H) (zs.take n)).length + (strs (H := H) (zs.drop n)).length |> (· * Tryz.prog.bytesOf 9)) (by simp [DataW.weights, Tryz.underlying37])
   rw [bStr, e1] at this
   show n * 16 ≤ reachBytes
   have h2 : n * 16 ≤ (n + (strs (H := H) (zs.drop n)).length) * 16 := Nat.mul_le_mul_right _ (Nat.le_add_right _ _)
   exact Nat.le_trans h2 this
  have hin : ∀ x ∈ zs.take n, x.size ≤ reachBytes := fun x hx => hw _ (by
   simp only [DataW.weights, Tryz.underlying37]
   exact List.mem_cons_of_mem _ (List.mem_append_left _ (weights_texts _ _ _ hx)))
  refine ⟨some a, n, c, zs.take n, rfl, fun hne => ?_, by rw [List.length_take]; omega, (fun h => by cases h), hsz, hin, stays⟩
  have hn0 : 0 < n := by
   rcases Nat.eq_zero_or_pos n with h0 | h0
   ·subst h0; exact absurd rfl hne
   ·exact h0
  obtain ⟨b, off, spot⟩ := a
  obtain rfl : spot = none := by simpa [Addr.add] using World.cell?_spot (hcell 0 (by omega))
  have hc : ∀ j, j < zs.length → W.cell? ⟨b, off + j, none⟩ = some (.string (zs.getD j ByteArray.empty)) := fun j hj => by rw [← txt_add]; exact hcell j hj
  refine ⟨b, off, rfl, ?_, fun j x hx => ?_⟩
  ·have h0 := hc 0 (by omega)
   rcases Nat.lt_or_ge b W.heap.size with hlt' | hge
   ·exact hlt'
   ·unfold World.cell? at h0
    rw [Array.getElem?_eq_none hge] at h0
    simp at h0
  ·obtain ⟨hj, rfl⟩ := List.getElem?_eq_some_iff.1 hx
   rw [List.length_take] at hj
   rw [hc j (by omega), List.getElem_take]
   simp [List.getD, show j < zs.length by omega]
end Go.Proofs.YteomfakbbcpckaaGreatDoor
