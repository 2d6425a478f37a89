import Derived.Test.YtpmcnonmkghokaaGreatDoorT00
import Derived.Test.YtpmcnonmkghokaaGreatDoorRows
import Derived.ProofKit
import Derived.JoinedOf
set_option maxRecDepth 1000000
namespace Go.Proofs.YtpmcnonmkghokaaGreatDoor
open Go.Proofs.Tryz
theorem jjz:joinedFacts Tryz.pinned.checked.prog 3 Tryz.f3 Rows.playsSpec Rows.playsRow=true:=ah
end Go.Proofs.YtpmcnonmkghokaaGreatDoor
