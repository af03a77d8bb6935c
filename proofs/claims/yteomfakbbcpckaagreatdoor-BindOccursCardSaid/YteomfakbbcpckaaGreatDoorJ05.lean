/-
  Plain facts and contracts that the law's proof stands on, joined.
  Conditions: each fact's own.
-/
import Derived.Shelf.SlicesQ.Reverse
import Derived.Test.YteomfakbbcpckaaGreatDoorJ04
namespace Go.Proofs.YteomfakbbcpckaaGreatDoor
open Go.RowKit
open Lvl
namespace Trm
instance : Inhabited Tm := ⟨.mk 0 0 ⟨#[]⟩ [] []⟩
end Trm
end Go.Proofs.YteomfakbbcpckaaGreatDoor
