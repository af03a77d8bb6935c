/-
  What the laws' rows share: the listed variables give what the contracts ask of a world ('Gl'), a witness for the rows, and how a row is closed where nothing that was there has turned.
  Conditions: none.
-/
import Derived.Test.YtnknaecfjkiibaaGreatDoorCards
import Derived.Test.YtnknaecfjkiibaaGreatDoorTie
import Derived.Test.YtnknaecfjkiibaaGreatDoorAliveWalk
import Derived.ProofKit
import Derived.OpenShut
import Derived.Deep.DeepHandedRow
import Derived.Lib.LaidTab
import Derived.Lay
import Derived.MakeChecks
import Derived.Stop.LaidErr
import Derived.SliceStrings
import Derived.SizedLaws
import Derived.Carry
import Derived.Test.YtnknaecfjkiibaaGreatDoorSort
namespace Go.Proofs.YtnknaecfjkiibaaGreatDoor
open Go.ChangeShapes Go.WideShapes Go.ChangeAt Go.RowKit

theorem own : ownKnob Tryz.prog.godebug = none := by kernel_rfl
abbrev laid5 : List (String × DataW Unit) := Rows.nameAnswersRow.laid
theorem laidPow : (Rows.laid_internal_strconv_uint64pow10 : DataW Unit) = Lib.tabData .u64 Lib.pow10Tab := by kernel_rfl
theorem tPow : (Tryz.prog.globals[3]?).map (·.type) = some 118 := by kernel_rfl
theorem cPow : Tryz.prog.cellsOf 118 = 20 := by kernel_rfl
theorem cU64 : Tryz.prog.cellsOf 88 = 1 := by kernel_rfl

/-- The listed variables, and the world's shape, give what the contracts ask. -/
theorem gl_of {W : World} (h : laidMetH Tryz.prog laid5 W) (hsh : W.ShapedOpen Tryz.prog) : Gl W := by
  rw [MakeChecks.laidMetH_plain _ _ _ (by kernel_rfl)] at h
  have h2 : laidMet Tryz.prog (("internal/strconv.uint64pow10", Rows.laid_internal_strconv_uint64pow10) :: [("unicode/utf8.acceptRanges", Rows.laid_unicode_utf8_acceptRanges), ("unicode/utf8.first", Rows.laid_unicode_utf8_first)]) W := h.tail.tail
  rw [laidPow] at h2
  have ht := Lib.tabIs_of_head gPow tPow Tryz.underlying118 Tryz.underlying88 cU64 cPow h2
  obtain ⟨m, hm⟩ : ∃ m, W.cell? ⟨0, 0, none⟩ = some (.int .i64 m) := Tryz.laysM146.s1_3 W hsh
  have hp := ht.cell gPow 0 (by decide)
  have lt_of : ∀ {b o : Nat} {u : Value}, W.cell? ⟨b, o, none⟩ = some u → b < W.heap.size := fun {b o u} hc => by
    rcases Nat.lt_or_ge b W.heap.size with hlt | hge
    · exact hlt
    · unfold World.cell? at hc
      rw [Array.getElem?_eq_none hge] at hc
      simp at hc
  exact ⟨⟨m, hm⟩, ⟨lt_of hm, lt_of hp⟩, ht⟩

section
variable {H : Type} {enc : TypeId × Value → H} {P : Program}
/-- A world for the witness: the settled one with the listed variables laid. -/
theorem witness5 (os : Os) {f : FuncId} {fn : Func} {s : OpenSpec} (args : Array Value)
    (hsh : ((World.laidAll Tryz.prog os laid5).forCall (fun _ _ => 0) ⟨#[], args, []⟩).Shaped Tryz.checked.prog)
    (hok : Input.okWideB Tryz.checked.prog ((World.laidAll Tryz.prog os laid5).forCall (fun _ _ => 0) ⟨#[], args, []⟩) f ⟨#[], args, []⟩ = true)
    (hrow : s.preRow enc Tryz.checked.prog fn [] false laid5 ((World.laidAll Tryz.prog os laid5).forCall (fun _ _ => 0) ⟨#[], args, []⟩).memory args) :
    ∃ (w : World) (tape : Tape) (i : Input), w.os = os ∧ (w.forCall tape i).Shaped Tryz.checked.prog ∧ i.vars = [] ∧ Input.okWide Tryz.checked.prog (w.forCall tape i) .any w.heap.size f i ∧
      s.preRow enc Tryz.checked.prog fn [] false laid5 (w.forCall tape i).memory i.args ∧ ({} : Assume).holds Tryz.checked.prog (lone (Frame.enter Tryz.checked.prog f i.args .normal) [] (w.forCall tape i)) :=
  ⟨World.laidAll Tryz.prog os laid5, fun _ _ => 0, ⟨#[], args, []⟩, World.laidAll_os _ _ _, hsh, (Input.okWide_of_okWideB (base := 0) hok).1, (Input.okWide_of_okWideB hok).2, hrow, by
    simp only [Assume.holds]
    exact ⟨by simp, by simp, by simp, by simp, by simp, by simp⟩⟩
theorem laid_met5 (os : Os) (args : Array Value) : laidMetH Tryz.prog laid5 ((World.laidAll Tryz.prog os laid5).forCall (fun _ _ => 0) ⟨#[], args, []⟩).memory := by
  rw [MakeChecks.laidMetH_plain _ _ _ (by kernel_rfl)]
  exact laidMet_laidAll _ (by kernel_rfl) (by kernel_rfl)
theorem weights_texts (e : TypeId) : ∀ (xs : List ByteArray) (x : ByteArray), x ∈ xs → x.size ∈ DataW.weightsAll P e (strs (H := H) xs)
  | y :: xs, x, h => by
    unfold strs
    rw [List.map_cons, DataW.weightsAll, List.mem_append]
    rw [List.mem_cons] at h
    rcases h with rfl | h
    · left; rw [Lib.size_eq]; simp only [DataW.weights]; exact List.mem_singleton.2 rfl
    · exact .inr (weights_texts e xs x h)
/-- The row's last step, where of the world behind the call only this is known: nothing that was there has turned. -/
theorem post_low {f : Func} {s : ChangeSpec} {apart fresh handsOn : Bool} {W W' : World} {args : Array Value} {v : Value} {ds gs : List (DataW H)} {before pa pv : List MemPlace}
    (hW : DataW.Whole enc P f.params.toList s.vars apart W args.toList ds gs before)
    (hres : ∀ b : Nat, DataW.TrodAll enc P W' b (fun _ => false) handsOn f.resultTypes.toList (v.resultList f.resultTypes.size) (s.fn H (ds ++ gs)).results [])
    (hargs : DataW.TrodAll enc P W' 0 (fun b => decide (b < W.heap.size)) true f.params.toList args.toList (s.fn H (ds ++ gs)).args pa)
    (hvars : DataW.TrodVars enc P W' (fun b => decide (b < W.heap.size)) s.vars (s.fn H (ds ++ gs)).vars pv)
    (hb : Below W.heap.size W W') : s.post enc P f apart fresh handsOn false W args v W' :=
  ⟨ds, gs, before, [], pa, pv, hW, by cases fresh <;> exact hres _, hargs, hvars, hb.frame _, fun h => by cases h⟩
end

theorem laidOut : laidOutB Tryz.prog = true := by kernel_rfl
theorem cStr : Tryz.prog.cellsOf 9 = 1 := by kernel_rfl
theorem bStr : Tryz.prog.bytesOf 9 = 16 := by kernel_rfl

set_option maxRecDepth 100000 in
/-- A list of texts that comes in. -/
theorem open_texts {H : Type} {enc : TypeId × Value → H} {W : World} {base : Nat} {v : Value} {d : DataW H} {p : List MemPlace} (hv : Value.okWide Tryz.prog W .any base 22 v)
    (h : DataW.Trod enc Tryz.prog W 0 (fun _ => true) true 22 v d p) (hlt : ∀ x ∈ p, x.block < W.heap.size) (hw : ∀ n ∈ d.weights Tryz.prog 22, n ≤ reachBytes) :
    ∃ A n c xs, v = .slice A n c ∧ Txt W A xs ∧ xs.length = n ∧ (A = none → c = 0) ∧ n * 16 ≤ 140737488351232 ∧ (∀ x ∈ xs, x.size ≤ 140737488351232) ∧
      (∀ W', Below W.heap.size W W' → DataW.Trod enc Tryz.prog W' 0 (fun b => decide (b < W.heap.size)) true 22 v d p) := by
  have stays : ∀ W', Below W.heap.size W W' → DataW.Trod enc Tryz.prog W' 0 (fun b => decide (b < W.heap.size)) true 22 v d p := fun W' hb =>
    Below.trod laidOut (by kernel_rfl) (of_decide_eq_true (by kernel_rfl)) h hb hlt
  obtain ⟨A, n, c, rfl⟩ := okWide_slice Tryz.underlying22 hv
  obtain ⟨fuel, hf⟩ := h
  rcases open_strings Tryz.underlying22 Tryz.underlying9 cStr hf with ⟨hcs, hx⟩ | ⟨a, len, cap, zs, hcs, _, hl, hm, hz, hx, hcell, hwz⟩
  · simp [Value.cells] at hcs
    obtain ⟨rfl, rfl, rfl⟩ := hcs
    exact ⟨none, 0, 0, [], rfl, txt_nil _ _, rfl, fun _ => rfl, by omega, (fun x hx => by cases hx), stays⟩
  · simp [Value.cells] at hcs
    obtain ⟨rfl, rfl, rfl⟩ := hcs
    simp only [Prod.mk.injEq] at hx
    obtain ⟨rfl, rfl⟩ := hx
    simp only [if_true] at hz
    have e1 : (strs (H := H) (zs.take n)).length = n := by simp [strs]; omega
    have hsz : n * 16 ≤ reachBytes := by
      have := hw ((strs (H := H) (zs.take n)).length + (strs (H := H) (zs.drop n)).length |> (· * Tryz.prog.bytesOf 9)) (by simp [DataW.weights, Tryz.underlying22])
      rw [bStr, e1] at this
      show n * 16 ≤ reachBytes
      have h2 : n * 16 ≤ (n + (strs (H := H) (zs.drop n)).length) * 16 := Nat.mul_le_mul_right _ (Nat.le_add_right _ _)
      exact Nat.le_trans h2 this
    have hin : ∀ x ∈ zs.take n, x.size ≤ reachBytes := fun x hx => hw _ (by
      simp only [DataW.weights, Tryz.underlying22]
      exact List.mem_cons_of_mem _ (List.mem_append_left _ (weights_texts _ _ _ hx)))
    refine ⟨some a, n, c, zs.take n, rfl, fun hne => ?_, by rw [List.length_take]; omega, (fun h => by cases h), hsz, hin, stays⟩
    have hn0 : 0 < n := by
      rcases Nat.eq_zero_or_pos n with h0 | h0
      · subst h0; exact absurd rfl hne
      · exact h0
    obtain ⟨b, off, spot⟩ := a
    obtain rfl : spot = none := by simpa [Addr.add] using World.cell?_spot (hcell 0 (by omega))
    have hc : ∀ j, j < zs.length → W.cell? ⟨b, off + j, none⟩ = some (.string (zs.getD j ByteArray.empty)) := fun j hj => by rw [← txt_add]; exact hcell j hj
    refine ⟨b, off, rfl, ?_, fun j x hx => ?_⟩
    · have h0 := hc 0 (by omega)
      rcases Nat.lt_or_ge b W.heap.size with hlt' | hge
      · exact hlt'
      · unfold World.cell? at h0
        rw [Array.getElem?_eq_none hge] at h0
        simp at h0
    · obtain ⟨hj, rfl⟩ := List.getElem?_eq_some_iff.1 hx
      rw [List.length_take] at hj
      rw [hc j (by omega), List.getElem_take]
      simp [List.getD, show j < zs.length by omega]
end Go.Proofs.YtnknaecfjkiibaaGreatDoor
