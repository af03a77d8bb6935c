/-
  Plain facts and contracts that the law's proof stands on, joined.
  Conditions: each fact's own.
-/
import Derived.Test.YteomfakbbcpckaaGreatDoorJ05
import Derived.Test.YteomfakbbcpckaaGreatDoorJ09
import Derived.Test.YteomfakbbcpckaaGreatDoorJ10
namespace Go.Proofs.YteomfakbbcpckaaGreatDoor
open Go.RowKit
open Lvl
namespace Trm
end Trm
end Go.Proofs.YteomfakbbcpckaaGreatDoor
