/-
  What laws' rows without listed variables share: slices of texts, numbers and bytes that come in, a witness for the rows, and how a row is closed where nothing that was there has turned.
  Conditions: none.
-/
import Derived.Test.YtgjjaalojelmhaaRows
import Derived.Test.YtgjjaalojelmhaaBytes2
import Derived.Test.YtgjjaalojelmhaaInts
import Derived.ProofKit
import Derived.OpenShut
import Derived.Deep.DeepHandedRow
import Derived.Lay
import Derived.MakeChecks
import Derived.SliceStrings
import Derived.ChangeSlices
import Derived.SizedLaws
import Derived.Carry
import Derived.ChangeMaps5
import Derived.Lib.Strings
namespace Go.Proofs.Ytgjjaalojelmhaa
open Go.ChangeShapes Go.WideShapes Go.ChangeAt Go.RowKit

theorem own : ownKnob Try.prog.godebug = none := by kernel_rfl

section
variable {H : Type} {enc : TypeId × Value → H} {P : Program}
/-- A world for the witness: the settled one. -/
theorem witness0 (os : Os) {f : FuncId} {fn : Func} {s : OpenSpec} (args : Array Value)
    (hsh : ((World.laidAll Try.prog os []).forCall (fun _ _ => 0) ⟨#[], args, []⟩).Shaped Try.checked.prog)
    (hok : Input.okWideB Try.checked.prog ((World.laidAll Try.prog os []).forCall (fun _ _ => 0) ⟨#[], args, []⟩) f ⟨#[], args, []⟩ = true)
    (hrow : s.preRow enc Try.checked.prog fn [] false [] ((World.laidAll Try.prog os []).forCall (fun _ _ => 0) ⟨#[], args, []⟩).memory args) :
    ∃ (w : World) (tape : Tape) (i : Input), w.os = os ∧ (w.forCall tape i).Shaped Try.checked.prog ∧ i.vars = [] ∧ Input.okWide Try.checked.prog (w.forCall tape i) .any w.heap.size f i ∧
      s.preRow enc Try.checked.prog fn [] false [] (w.forCall tape i).memory i.args ∧ ({} : Assume).holds Try.checked.prog (lone (Frame.enter Try.checked.prog f i.args .normal) [] (w.forCall tape i)) :=
  ⟨World.laidAll Try.prog os [], fun _ _ => 0, ⟨#[], args, []⟩, World.laidAll_os _ _ _, hsh, (Input.okWide_of_okWideB (base := 0) hok).1, (Input.okWide_of_okWideB hok).2, hrow, by
    simp only [Assume.holds]
    exact ⟨by simp, by simp, by simp, by simp, by simp, by simp⟩⟩
theorem laid_met0 (os : Os) (args : Array Value) : laidMetH Try.prog [] ((World.laidAll Try.prog os []).forCall (fun _ _ => 0) ⟨#[], args, []⟩).memory := by
  rw [MakeChecks.laidMetH_plain _ _ _ (by kernel_rfl)]
  exact laidMet_laidAll _ (by kernel_rfl) (by kernel_rfl)
theorem weights_texts (e : TypeId) : ∀ (xs : List ByteArray) (x : ByteArray), x ∈ xs → x.size ∈ DataW.weightsAll P e (strs (H := H) xs)
  | y :: xs, x, h => by
    unfold strs
    rw [List.map_cons, DataW.weightsAll, List.mem_append]
    rw [List.mem_cons] at h
    rcases h with rfl | h
    · left; rw [Lib.size_eq]; simp only [DataW.weights]; exact List.mem_singleton.2 rfl
    · exact .inr (weights_texts e xs x h)
/-- The row's last step, where of the world behind the call only this is known: nothing that was there has turned. -/
theorem post_low {f : Func} {s : ChangeSpec} {apart fresh handsOn : Bool} {W W' : World} {args : Array Value} {v : Value} {ds gs : List (DataW H)} {before pa pv : List MemPlace}
    (hW : DataW.Whole enc P f.params.toList s.vars apart W args.toList ds gs before)
    (hres : ∀ b : Nat, DataW.TrodAll enc P W' b (fun _ => false) handsOn f.resultTypes.toList (v.resultList f.resultTypes.size) (s.fn H (ds ++ gs)).results [])
    (hargs : DataW.TrodAll enc P W' 0 (fun b => decide (b < W.heap.size)) true f.params.toList args.toList (s.fn H (ds ++ gs)).args pa)
    (hvars : DataW.TrodVars enc P W' (fun b => decide (b < W.heap.size)) s.vars (s.fn H (ds ++ gs)).vars pv)
    (hb : Below W.heap.size W W') : s.post enc P f apart fresh handsOn false W args v W' :=
  ⟨ds, gs, before, [], pa, pv, hW, by cases fresh <;> exact hres _, hargs, hvars, hb.frame _, fun h => by cases h⟩
end

theorem laidOut : laidOutB Try.prog = true := by kernel_rfl
theorem cStr : Try.prog.cellsOf 9 = 1 := by kernel_rfl
theorem bStr : Try.prog.bytesOf 9 = 16 := by kernel_rfl
theorem cU8 : Try.prog.cellsOf 5 = 1 := by kernel_rfl
theorem bU8 : Try.prog.bytesOf 5 = 1 := by kernel_rfl
theorem cInt : Try.prog.cellsOf 3 = 1 := by kernel_rfl
theorem bInt : Try.prog.bytesOf 3 = 8 := by kernel_rfl

theorem cell_lt {W : World} {b o : Nat} {u : Value} (h : W.cell? ⟨b, o, none⟩ = some u) : b < W.heap.size := by
  rcases Nat.lt_or_ge b W.heap.size with hlt' | hge
  · exact hlt'
  · unfold World.cell? at h
    rw [Array.getElem?_eq_none hge] at h
    simp at h

set_option maxRecDepth 100000 in
/-- A list of texts that comes in. -/
theorem open_texts {H : Type} {enc : TypeId × Value → H} {W : World} {base : Nat} {v : Value} {d : DataW H} {p : List MemPlace} (hv : Value.okWide Try.prog W .any base 23 v)
    (h : DataW.Trod enc Try.prog W 0 (fun _ => true) true 23 v d p) (hlt : ∀ x ∈ p, x.block < W.heap.size) (hw : ∀ n ∈ d.weights Try.prog 23, n ≤ reachBytes) :
    ∃ xs, TSl W v xs ∧ xs.length * 16 ≤ 140737488351232 ∧ (∀ x ∈ xs, x.size ≤ 140737488351232) ∧
      (∀ W', Below W.heap.size W W' → DataW.Trod enc Try.prog W' 0 (fun b => decide (b < W.heap.size)) true 23 v d p) := by
  have stays : ∀ W', Below W.heap.size W W' → DataW.Trod enc Try.prog W' 0 (fun b => decide (b < W.heap.size)) true 23 v d p := fun W' hb =>
    Below.trod laidOut (by kernel_rfl) (of_decide_eq_true (by kernel_rfl)) h hb hlt
  obtain ⟨A, n, c, rfl⟩ := okWide_slice Try.underlying23 hv
  obtain ⟨fuel, hf⟩ := h
  rcases open_strings Try.underlying23 Try.underlying9 cStr hf with ⟨hcs, hx⟩ | ⟨a, len, cap, zs, hcs, _, hl, hm, hz, hx, hcell, hwz⟩
  · simp [Value.cells] at hcs
    obtain ⟨rfl, rfl, rfl⟩ := hcs
    exact ⟨[], tsl_nil _, by simp, (fun x hx => by cases hx), stays⟩
  · simp [Value.cells] at hcs
    obtain ⟨rfl, rfl, rfl⟩ := hcs
    simp only [Prod.mk.injEq] at hx
    obtain ⟨rfl, rfl⟩ := hx
    simp only [if_true] at hz
    have e1 : (strs (H := H) (zs.take n)).length = n := by simp [strs]; omega
    have hsz : n * 16 ≤ reachBytes := by
      have := hw ((strs (H := H) (zs.take n)).length + (strs (H := H) (zs.drop n)).length |> (· * Try.prog.bytesOf 9)) (by simp [DataW.weights, Try.underlying23])
      rw [bStr, e1] at this
      show n * 16 ≤ reachBytes
      have h2 : n * 16 ≤ (n + (strs (H := H) (zs.drop n)).length) * 16 := Nat.mul_le_mul_right _ (Nat.le_add_right _ _)
      exact Nat.le_trans h2 this
    have hin : ∀ x ∈ zs.take n, x.size ≤ reachBytes := fun x hx => hw _ (by
      simp only [DataW.weights, Try.underlying23]
      exact List.mem_cons_of_mem _ (List.mem_append_left _ (weights_texts _ _ _ hx)))
    have hlen : (zs.take n).length = n := by rw [List.length_take]; omega
    refine ⟨zs.take n, ⟨some a, n, c, rfl, hlen, hl, (fun h => by cases h), fun hne => ?_⟩, by rw [hlen]; exact hsz, hin, stays⟩
    have hn0 : 0 < n := by
      rcases Nat.eq_zero_or_pos n with h0 | h0
      · subst h0; exact absurd rfl hne
      · exact h0
    obtain ⟨b, off, spot⟩ := a
    obtain rfl : spot = none := by simpa [Addr.add] using World.cell?_spot (hcell 0 (by omega))
    have hc : ∀ j, j < zs.length → W.cell? ⟨b, off + j, none⟩ = some (.string (zs.getD j ByteArray.empty)) := fun j hj => by rw [← txt_add]; exact hcell j hj
    refine ⟨b, off, rfl, cell_lt (hc 0 (by omega)), fun j x hx => ?_⟩
    obtain ⟨hj, rfl⟩ := List.getElem?_eq_some_iff.1 hx
    rw [List.length_take] at hj
    rw [hc j (by omega), List.getElem_take]
    simp [List.getD, show j < zs.length by omega]

set_option maxRecDepth 100000 in
/-- A slice of numbers that comes in. -/
theorem open_nums {H : Type} {enc : TypeId × Value → H} {W : World} {base : Nat} {v : Value} {d : DataW H} {p : List MemPlace} (hv : Value.okWide Try.prog W .any base 22 v)
    (h : DataW.Trod enc Try.prog W 0 (fun _ => true) true 22 v d p) (hlt : ∀ x ∈ p, x.block < W.heap.size) (hw : ∀ n ∈ d.weights Try.prog 22, n ≤ reachBytes) :
    ∃ zs, NSl W v zs ∧ zs.length * 8 ≤ 140737488351232 ∧
      (∀ W', Below W.heap.size W W' → DataW.Trod enc Try.prog W' 0 (fun b => decide (b < W.heap.size)) true 22 v d p) := by
  have stays : ∀ W', Below W.heap.size W W' → DataW.Trod enc Try.prog W' 0 (fun b => decide (b < W.heap.size)) true 22 v d p := fun W' hb =>
    Below.trod laidOut (by kernel_rfl) (of_decide_eq_true (by kernel_rfl)) h hb hlt
  obtain ⟨A, n, c, rfl⟩ := okWide_slice Try.underlying22 hv
  obtain ⟨fuel, hf⟩ := h
  rcases open_ints Try.underlying22 Try.underlying3 cInt hf with ⟨hcs, hx⟩ | ⟨a, len, cap, zs, hcs, _, hl, hm, hz, hx, hcell, hwz⟩
  · simp [Value.cells] at hcs
    obtain ⟨rfl, rfl, rfl⟩ := hcs
    exact ⟨[], ⟨none, 0, 0, rfl, rfl, Nat.le_refl _, fun _ => rfl, nts_nil _ _⟩, by simp, stays⟩
  · simp [Value.cells] at hcs
    obtain ⟨rfl, rfl, rfl⟩ := hcs
    simp only [Prod.mk.injEq] at hx
    obtain ⟨rfl, rfl⟩ := hx
    simp only [if_true] at hz
    have e1 : (lits (H := H) .i64 (zs.take n)).length = n := by simp [lits]; omega
    have hsz : n * 8 ≤ reachBytes := by
      have := hw ((lits (H := H) .i64 (zs.take n)).length + (lits (H := H) .i64 (zs.drop n)).length |> (· * Try.prog.bytesOf 3)) (by simp [DataW.weights, Try.underlying22])
      rw [bInt, e1] at this
      have h2 : n * 8 ≤ (n + (lits (H := H) .i64 (zs.drop n)).length) * 8 := Nat.mul_le_mul_right _ (Nat.le_add_right _ _)
      exact Nat.le_trans h2 this
    have hlen : (zs.take n).length = n := by rw [List.length_take]; omega
    refine ⟨zs.take n, ⟨some a, n, c, rfl, hlen, hl, (fun h => by cases h), fun hne => ?_⟩, by rw [hlen]; exact hsz, stays⟩
    have hn0 : 0 < n := by
      rcases Nat.eq_zero_or_pos n with h0 | h0
      · subst h0; exact absurd rfl hne
      · exact h0
    obtain ⟨b, off, spot⟩ := a
    obtain rfl : spot = none := by simpa [Addr.add] using World.cell?_spot (hcell 0 (by omega))
    have hc : ∀ j, j < zs.length → W.cell? ⟨b, off + j, none⟩ = some (.int .i64 (zs.getD j 0)) := fun j hj => by rw [← txt_add]; exact hcell j hj
    refine ⟨b, off, rfl, cell_lt (hc 0 (by omega)), fun j x hx => ?_⟩
    obtain ⟨hj, rfl⟩ := List.getElem?_eq_some_iff.1 hx
    rw [List.length_take] at hj
    rw [hc j (by omega), List.getElem_take]
    simp [List.getD, show j < zs.length by omega]

set_option maxRecDepth 100000 in
/-- A slice of bytes that comes in. -/
theorem open_bytes {H : Type} {enc : TypeId × Value → H} {W : World} {base : Nat} {v : Value} {d : DataW H} {p : List MemPlace} (hv : Value.okWide Try.prog W .any base 24 v)
    (h : DataW.Trod enc Try.prog W 0 (fun _ => true) true 24 v d p) (hlt : ∀ x ∈ p, x.block < W.heap.size) (hw : ∀ n ∈ d.weights Try.prog 24, n ≤ reachBytes) :
    ∃ bs, BSl W v bs ∧ bs.length ≤ 140737488351232 ∧
      (∀ W', Below W.heap.size W W' → DataW.Trod enc Try.prog W' 0 (fun b => decide (b < W.heap.size)) true 24 v d p) := by
  have stays : ∀ W', Below W.heap.size W W' → DataW.Trod enc Try.prog W' 0 (fun b => decide (b < W.heap.size)) true 24 v d p := fun W' hb =>
    Below.trod laidOut (by kernel_rfl) (of_decide_eq_true (by kernel_rfl)) h hb hlt
  obtain ⟨A, n, c, rfl⟩ := okWide_slice Try.underlying24 hv
  obtain ⟨fuel, hf⟩ := h
  rcases open_ints Try.underlying24 Try.underlying5 cU8 hf with ⟨hcs, hx⟩ | ⟨a, len, cap, zs, hcs, _, hl, hm, hz, hx, hcell, hwz⟩
  · simp [Value.cells] at hcs
    obtain ⟨rfl, rfl, rfl⟩ := hcs
    exact ⟨[], bsl_nil _, by simp, stays⟩
  · simp [Value.cells] at hcs
    obtain ⟨rfl, rfl, rfl⟩ := hcs
    simp only [Prod.mk.injEq] at hx
    obtain ⟨rfl, rfl⟩ := hx
    simp only [if_true] at hz
    have e1 : (lits (H := H) .u8 (zs.take n)).length = n := by simp [lits]; omega
    have hsz : n ≤ reachBytes := by
      have := hw ((lits (H := H) .u8 (zs.take n)).length + (lits (H := H) .u8 (zs.drop n)).length |> (· * Try.prog.bytesOf 5)) (by simp [DataW.weights, Try.underlying24])
      rw [bU8, e1] at this
      have h2 : n ≤ (n + (lits (H := H) .u8 (zs.drop n)).length) * 1 := by omega
      exact Nat.le_trans h2 this
    have hlen : ((zs.take n).map fun z => UInt8.ofNat z.toNat).length = n := by rw [List.length_map, List.length_take]; omega
    refine ⟨(zs.take n).map fun z => UInt8.ofNat z.toNat, ⟨some a, n, c, rfl, hlen, hl, (fun h => by cases h), fun hne => ?_⟩, by rw [hlen]; exact hsz, stays⟩
    have hn0 : 0 < n := by
      rcases Nat.eq_zero_or_pos n with h0 | h0
      · subst h0; exact absurd rfl hne
      · exact h0
    obtain ⟨b, off, spot⟩ := a
    obtain rfl : spot = none := by simpa [Addr.add] using World.cell?_spot (hcell 0 (by omega))
    have hc : ∀ j, j < zs.length → W.cell? ⟨b, off + j, none⟩ = some (.int .u8 (zs.getD j 0)) := fun j hj => by rw [← txt_add]; exact hcell j hj
    refine ⟨b, off, rfl, cell_lt (hc 0 (by omega)), fun j x hx => ?_⟩
    rw [List.getElem?_map] at hx
    obtain ⟨z, hz1, rfl⟩ := Option.map_eq_some_iff.1 hx
    obtain ⟨hj, rfl⟩ := List.getElem?_eq_some_iff.1 hz1
    rw [List.length_take] at hj
    have hw8 := hwz _ (List.getElem_mem (show j < zs.length by omega))
    rw [hc j (by omega), List.getElem_take]
    simp only [List.getD, List.getElem?_eq_getElem (show j < zs.length by omega), Option.getD_some]
    have h8 : 0 ≤ zs[j] ∧ zs[j] ≤ 255 := by simpa [Lit.wf, IntKind.min, IntKind.max, IntKind.signed, IntKind.bits] using hw8
    show some (Value.int .u8 zs[j]) = some (Value.int .u8 ((UInt8.ofNat zs[j].toNat).toNat : Int))
    congr 2
    simp [UInt8.toNat_ofNat']
    omega
end Go.Proofs.Ytgjjaalojelmhaa
