/-
 What the rows of laws over terms share: the world's shape gives what the names' contracts ask, name.Right's contract from a world on, a witness for the rows, and how a row is closed where nothing that was there has turned.
 Conditions: none.
-/
import Derived.Test.YteomfakbbcpckaaGreatDoorCards
import Derived.Test.YteomfakbbcpckaaGreatDoorTie
import Derived.Test.YteomfakbbcpckaaGreatDoorJ19
import Derived.Test.YteomfakbbcpckaaGreatDoorQTmOpen
import Derived.Test.YteomfakbbcpckaaGreatDoorQAli6
import Derived.ProofKit
import Derived.OpenShut
import Derived.Deep.DeepHandedRow
import Derived.Lib.LaidTab
import Derived.Lay
import Derived.MakeChecks
import Derived.Stop.LaidErr
import Derived.SliceStrings
import Derived.SizedLaws
import Derived.Carry
namespace Go.Proofs.YteomfakbbcpckaaGreatDoor
open Go.ChangeShapes Go.WideShapes Go.ChangeAt Go.RowKit
theorem own : ownKnob Tryz.prog.godebug = none := by kernel_rfl
theorem laidOut : laidOutB Tryz.prog = true := by kernel_rfl
abbrev laidT : List (String × DataW Unit) := [("unicode/utf8.acceptRanges", Rows.laid_unicode_utf8_acceptRanges), ("unicode/utf8.first", Rows.laid_unicode_utf8_first)]
/-- The world's shape gives what the contracts ask. -/
theorem gl_of {W : World} (hsh : W.ShapedOpen Tryz.prog) : Gl W := by
 obtain ⟨m, hm⟩ : ∃ m, W.cell? ⟨1, 0, none⟩ = some (.int .i64 m) := Tryz.laysM138.s1_3 W hsh
 exact ⟨⟨m, hm⟩, Trm.cell_in hm⟩
theorem nameC_of {W : World} (g : Gl W) : Trm.NameC W Nm.rightB := fun w' hb m hm => nm_right_any m w' (g.low hb g.lt) hm
theorem alive_at {W : World} (g : Gl W) (w' : World) (hb : Below W.heap.size W w') : Calls Tryz.prog 9 #[] w' (Ret w' (.bool true)) :=
 Bnd.alive6_is w' ((nameC_of g).below hb)
section
variable {H : Type} {enc : TypeId × Value → H} {P : Program}
/-- A world for the witness: the settled one with the listed variables laid. -/
theorem witnessT (os : Os) {f : FuncId} {fn : Func} {s : OpenSpec} (args : Array Value)
  (hsh : ((World.laidAll Tryz.prog os laidT).forCall (fun _ _ => 0) ⟨#[], args, []⟩).Shaped Tryz.checked.prog)
  (hok : Input.okWideB Tryz.checked.prog ((World.laidAll Tryz.prog os laidT).forCall (fun _ _ => 0) ⟨#[], args, []⟩) f ⟨#[], args, []⟩ = true)
  (hrow : s.preRow enc Tryz.checked.prog fn [] false laidT ((World.laidAll Tryz.prog os laidT).forCall (fun _ _ => 0) ⟨#[], args, []⟩).memory args) :
  ∃ (w : World) (tape : Tape) (i : Input), w.os = os ∧ (w.forCall tape i).Shaped Tryz.checked.prog ∧ i.vars = [] ∧ Input.okWide Tryz.checked.prog (w.forCall tape i) .any w.heap.size f i ∧
   s.preRow enc Tryz.checked.prog fn [] false laidT (w.forCall tape i).memory i.args ∧ ({} : Assume).holds Tryz.checked.prog (lone (Frame.enter Tryz.checked.prog f i.args .normal) [] (w.forCall tape i)) :=
 ⟨World.laidAll Tryz.prog os laidT, fun _ _ => 0, ⟨#[], args, []⟩, World.laidAll_os _ _ _, hsh, (Input.okWide_of_okWideB (base := 0) hok).1, (Input.okWide_of_okWideB hok).2, hrow, by
  simp only [Assume.holds]
  exact ⟨by simp, by simp, by simp, by simp, by simp, by simp⟩⟩
theorem laid_metT (os : Os) (args : Array Value) : laidMetH Tryz.prog laidT ((World.laidAll Tryz.prog os laidT).forCall (fun _ _ => 0) ⟨#[], args, []⟩).memory := by
 rw [MakeChecks.laidMetH_plain _ _ _ (by kernel_rfl)]
 exact laidMet_laidAll _ (by kernel_rfl) (by kernel_rfl)
/-- The row's last step, where of the world behind the call only this is known: nothing that was there has turned. -/
theorem post_low {f : Func} {s : ChangeSpec} {apart fresh handsOn : Bool} {W W' : World} {args : Array Value} {v : Value} {ds gs : List (DataW H)} {before pa pv : List MemPlace}
  (hW : DataW.Whole enc P f.params.toList s.vars apart W args.toList ds gs before)
  (hres : ∀ b : Nat, DataW.TrodAll enc P W' b (fun _ => false) handsOn f.resultTypes.toList (v.resultList f.resultTypes.size) (s.fn H (ds ++ gs)).results [])
  (hargs : DataW.TrodAll enc P W' 0 (fun b => decide (b < W.heap.size)) true f.params.toList args.toList (s.fn H (ds ++ gs)).args pa)
  (hvars : DataW.TrodVars enc P W' (fun b => decide (b < W.heap.size)) s.vars (s.fn H (ds ++ gs)).vars pv)
  (hb : Below W.heap.size W W') : s.post enc P f apart fresh handsOn false W args v W' :=
 ⟨ds, gs, before, [], pa, pv, hW, by cases fresh <;> exact hres _, hargs, hvars, hb.frame _, fun h => by cases h⟩
end
end Go.Proofs.YteomfakbbcpckaaGreatDoor
