/-
  NARROWER THAN 'FOR EVERY INPUT', by the rows' own cells (each row's printed sentence says how): LevelAnswers: loops · LevelInsts: loops · LevelOrder: loops · LevelMakes: loops.
  DERIVED. THE GIVEN ROWS OF THIS SEAT. 5 by the template 'for every input the law returns true; each argument reads behind the call as it read before'; 0 by the template 'total and deterministic' (their statements: YteghldgopidhhaaTotals.lean).
  GIVEN WITH THE SEED: the statements are not yours to turn. If you find one false, say at which input.
  Laid BY PROGRAM, IN A SANDBOX (cutbox-rows.mjs): the forced cells as the released guide's own fill.sh prints them over the translation 5f9925bc77bcbe48… (all of the seat's roots in one cut). By AI agents, Wed Nov 11 2026. No macro, syntax, notation, axiom, sorry.
-/
import Derived.Test.YteghldgopidhhaaChecked
import GoSem.Claim
import GoSem.ClaimJoined
import GoSem.ClaimMapViews
import Derived.JoinedTies
import Derived.KernelRfl
namespace Go.Proofs.Yteghldgopidhhaa
/- THE CELL 'sum', in the pinned program and in every row, IS THE sha256 OF THE DUMP (.gsa) THAT YteghldgopidhhaaProg.lean LOADS. Nothing in Lean hashes anything: it is a label: what it is worth is what the hold of that sum in a sandbox is worth. -/
noncomputable def Try.pinned : Pinned := { name := "yteghldgopidhhaa", sum := "5f9925bc77bcbe48ef9f5d89d8aac419a501e0a1061543edc2c294d0ac3edc9d", checked := Try.checked }
namespace Rows
def none {H : Type} : Left H := { results := [], args := [] }

/-- 'scholiumlaw03.LevelAnswers': WHATEVER THE INPUT: true; the input reads as it did. -/
def levelAnswersSpec : ChangeSpec := { name := "levelAnswers", fn := fun _ => fun
  | [d1, d2, d3, d4] => { results := [.lit (.bool true)], args := [d1, d2, d3, d4] }
  | _ => none }
def levelAnswersRow : OpenClaim := { program := "yteghldgopidhhaa", sum := "5f9925bc77bcbe48ef9f5d89d8aac419a501e0a1061543edc2c294d0ac3edc9d", func := "scholium/scholiumlaw03.LevelAnswers", spec := "levelAnswers", unfollowed := true, recurses := true, loops := true, apart := false }
def LevelAnswersSaid : Prop := levelAnswersRow.holds Try.pinned (OpenSpec.ofChange levelAnswersSpec)

/-- ITS FALSE NEIGHBOUR: 'it returns false'. Refute it at one input. -/
def levelAnswersWrong : ChangeSpec := { name := "levelAnswers", fn := fun _ => fun
  | [d1, d2, d3, d4] => { results := [.lit (.bool false)], args := [d1, d2, d3, d4] }
  | _ => none }
def LevelAnswersWrongFalsely : Prop := levelAnswersRow.holds Try.pinned (OpenSpec.ofChange levelAnswersWrong)

/-- 'scholiumlaw03.LevelInsts': WHATEVER THE INPUT: true; the input reads as it did. -/
def levelInstsSpec : ChangeSpec := { name := "levelInsts", fn := fun _ => fun
  | [d1, d2, d3] => { results := [.lit (.bool true)], args := [d1, d2, d3] }
  | _ => none }
def levelInstsRow : OpenClaim := { program := "yteghldgopidhhaa", sum := "5f9925bc77bcbe48ef9f5d89d8aac419a501e0a1061543edc2c294d0ac3edc9d", func := "scholium/scholiumlaw03.LevelInsts", spec := "levelInsts", unfollowed := true, recurses := true, loops := true, apart := false }
def LevelInstsSaid : Prop := levelInstsRow.holds Try.pinned (OpenSpec.ofChange levelInstsSpec)

/-- ITS FALSE NEIGHBOUR: 'it returns false'. Refute it at one input. -/
def levelInstsWrong : ChangeSpec := { name := "levelInsts", fn := fun _ => fun
  | [d1, d2, d3] => { results := [.lit (.bool false)], args := [d1, d2, d3] }
  | _ => none }
def LevelInstsWrongFalsely : Prop := levelInstsRow.holds Try.pinned (OpenSpec.ofChange levelInstsWrong)

/-- 'scholiumlaw03.LevelOrder': WHATEVER THE INPUT: true; the input reads as it did. -/
def levelOrderSpec : ChangeSpec := { name := "levelOrder", fn := fun _ => fun
  | [d1, d2, d3, d4] => { results := [.lit (.bool true)], args := [d1, d2, d3, d4] }
  | _ => none }
def levelOrderRow : OpenClaim := { program := "yteghldgopidhhaa", sum := "5f9925bc77bcbe48ef9f5d89d8aac419a501e0a1061543edc2c294d0ac3edc9d", func := "scholium/scholiumlaw03.LevelOrder", spec := "levelOrder", unfollowed := true, recurses := true, loops := true, apart := false }
def LevelOrderSaid : Prop := levelOrderRow.holds Try.pinned (OpenSpec.ofChange levelOrderSpec)

/-- ITS FALSE NEIGHBOUR: 'it returns false'. Refute it at one input. -/
def levelOrderWrong : ChangeSpec := { name := "levelOrder", fn := fun _ => fun
  | [d1, d2, d3, d4] => { results := [.lit (.bool false)], args := [d1, d2, d3, d4] }
  | _ => none }
def LevelOrderWrongFalsely : Prop := levelOrderRow.holds Try.pinned (OpenSpec.ofChange levelOrderWrong)

/-- 'scholiumlaw03.LevelMakes': WHATEVER THE INPUT: true; the input reads as it did. -/
def levelMakesSpec : ChangeSpec := { name := "levelMakes", fn := fun _ => fun
  | [d1, d2, d3, d4] => { results := [.lit (.bool true)], args := [d1, d2, d3, d4] }
  | _ => none }
def levelMakesRow : OpenClaim := { program := "yteghldgopidhhaa", sum := "5f9925bc77bcbe48ef9f5d89d8aac419a501e0a1061543edc2c294d0ac3edc9d", func := "scholium/scholiumlaw03.LevelMakes", spec := "levelMakes", unfollowed := true, recurses := true, loops := true, apart := false }
def LevelMakesSaid : Prop := levelMakesRow.holds Try.pinned (OpenSpec.ofChange levelMakesSpec)

/-- ITS FALSE NEIGHBOUR: 'it returns false'. Refute it at one input. -/
def levelMakesWrong : ChangeSpec := { name := "levelMakes", fn := fun _ => fun
  | [d1, d2, d3, d4] => { results := [.lit (.bool false)], args := [d1, d2, d3, d4] }
  | _ => none }
def LevelMakesWrongFalsely : Prop := levelMakesRow.holds Try.pinned (OpenSpec.ofChange levelMakesWrong)

/-- 'scholiumlaw03.LevelNums': WHATEVER THE INPUT: true; the input reads as it did. -/
def levelNumsSpec : ChangeSpec := { name := "levelNums", fn := fun _ => fun
  | [d1, d2, d3] => { results := [.lit (.bool true)], args := [d1, d2, d3] }
  | _ => none }
def levelNumsRow : OpenClaim := { program := "yteghldgopidhhaa", sum := "5f9925bc77bcbe48ef9f5d89d8aac419a501e0a1061543edc2c294d0ac3edc9d", func := "scholium/scholiumlaw03.LevelNums", spec := "levelNums", unfollowed := true, recurses := true, apart := false }
def LevelNumsSaid : Prop := levelNumsRow.holds Try.pinned (OpenSpec.ofChange levelNumsSpec)

/-- ITS FALSE NEIGHBOUR: 'it returns false'. Refute it at one input. -/
def levelNumsWrong : ChangeSpec := { name := "levelNums", fn := fun _ => fun
  | [d1, d2, d3] => { results := [.lit (.bool false)], args := [d1, d2, d3] }
  | _ => none }
def LevelNumsWrongFalsely : Prop := levelNumsRow.holds Try.pinned (OpenSpec.ofChange levelNumsWrong)

/- THE SECOND FORM. 'bulk': how many values and letters a reading holds, each counted each time it is reached (what is shared counts as often as it is met; a slice's spare places count too). A statement '..UptoSaid' is the law's where the arguments, and the package variables that the reading takes, are together of bulk at most 1048576: NARROWER than '..Said'. Prove '..Said' where nothing that the law and all that it calls make is longer than what came in: it says more and counts as full. Else prove '..UptoSaid'. A law counts once. -/
mutual
def uptoBulk {H : Type} : DataW H → Nat
  | .lit (.string bytes) => bytes.length + 1
  | .lit _ => 1
  | .nil => 1
  | .ptr d => uptoBulk d + 1
  | .slice elems spare => uptoBulkAll elems + uptoBulkAll spare + 1
  | .agg parts => uptoBulkAll parts + 1
  | .iface _ d => uptoBulk d + 1
  | .map entries => uptoBulkEntries entries + 1
  | .held _ => 1
def uptoBulkAll {H : Type} : List (DataW H) → Nat
  | [] => 0
  | d :: r => uptoBulk d + uptoBulkAll r
def uptoBulkEntries {H : Type} : List (Lit × DataW H) → Nat
  | [] => 0
  | x :: r => uptoBulkEntry x + uptoBulkEntries r
def uptoBulkEntry {H : Type} : Lit × DataW H → Nat
  | (.string bytes, d) => bytes.length + uptoBulk d + 1
  | (_, d) => uptoBulk d + 1
 end
def uptoSmall : (H : Type) → List (DataW H) → Bool := fun _ ds => decide (uptoBulkAll ds ≤ 1048576)
def OpenSpec.upto (s : _root_.Go.ChangeSpec) : _root_.Go.OpenSpec := { _root_.Go.OpenSpec.ofChange s with cond := some uptoSmall }

/-- 'scholiumlaw03.LevelAnswers', WHERE WHAT IT READS IS OF BULK AT MOST 1048576: true; the input reads as it did. -/
def levelAnswersUptoRow : OpenClaim := { program := "yteghldgopidhhaa", sum := "5f9925bc77bcbe48ef9f5d89d8aac419a501e0a1061543edc2c294d0ac3edc9d", func := "scholium/scholiumlaw03.LevelAnswers", spec := "levelAnswers", unfollowed := true, recurses := true, loops := true, apart := false, narrowed := true }
def LevelAnswersUptoSaid : Prop := levelAnswersUptoRow.holds Try.pinned (OpenSpec.upto levelAnswersSpec)

/-- 'scholiumlaw03.LevelInsts', WHERE WHAT IT READS IS OF BULK AT MOST 1048576: true; the input reads as it did. -/
def levelInstsUptoRow : OpenClaim := { program := "yteghldgopidhhaa", sum := "5f9925bc77bcbe48ef9f5d89d8aac419a501e0a1061543edc2c294d0ac3edc9d", func := "scholium/scholiumlaw03.LevelInsts", spec := "levelInsts", unfollowed := true, recurses := true, loops := true, apart := false, narrowed := true }
def LevelInstsUptoSaid : Prop := levelInstsUptoRow.holds Try.pinned (OpenSpec.upto levelInstsSpec)

/-- 'scholiumlaw03.LevelOrder', WHERE WHAT IT READS IS OF BULK AT MOST 1048576: true; the input reads as it did. -/
def levelOrderUptoRow : OpenClaim := { program := "yteghldgopidhhaa", sum := "5f9925bc77bcbe48ef9f5d89d8aac419a501e0a1061543edc2c294d0ac3edc9d", func := "scholium/scholiumlaw03.LevelOrder", spec := "levelOrder", unfollowed := true, recurses := true, loops := true, apart := false, narrowed := true }
def LevelOrderUptoSaid : Prop := levelOrderUptoRow.holds Try.pinned (OpenSpec.upto levelOrderSpec)

/-- 'scholiumlaw03.LevelMakes', WHERE WHAT IT READS IS OF BULK AT MOST 1048576: true; the input reads as it did. -/
def levelMakesUptoRow : OpenClaim := { program := "yteghldgopidhhaa", sum := "5f9925bc77bcbe48ef9f5d89d8aac419a501e0a1061543edc2c294d0ac3edc9d", func := "scholium/scholiumlaw03.LevelMakes", spec := "levelMakes", unfollowed := true, recurses := true, loops := true, apart := false, narrowed := true }
def LevelMakesUptoSaid : Prop := levelMakesUptoRow.holds Try.pinned (OpenSpec.upto levelMakesSpec)

/-- 'scholiumlaw03.LevelNums', WHERE WHAT IT READS IS OF BULK AT MOST 1048576: true; the input reads as it did. -/
def levelNumsUptoRow : OpenClaim := { program := "yteghldgopidhhaa", sum := "5f9925bc77bcbe48ef9f5d89d8aac419a501e0a1061543edc2c294d0ac3edc9d", func := "scholium/scholiumlaw03.LevelNums", spec := "levelNums", unfollowed := true, recurses := true, apart := false, narrowed := true }
def LevelNumsUptoSaid : Prop := levelNumsUptoRow.holds Try.pinned (OpenSpec.upto levelNumsSpec)

end Rows
end Go.Proofs.Yteghldgopidhhaa
