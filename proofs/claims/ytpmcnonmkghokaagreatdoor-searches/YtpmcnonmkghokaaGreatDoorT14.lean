import Derived.Test.YtpmcnonmkghokaaGreatDoorT00
import Derived.Test.YtpmcnonmkghokaaGreatDoorRows
import Derived.ProofKit
import Derived.JoinedOf
set_option maxRecDepth 1000000
namespace Go.Proofs.YtpmcnonmkghokaaGreatDoor
open Go.Proofs.Tryz
theorem zwh:joinedFacts Tryz.pinned.checked.prog 7 Tryz.f7 Rows.searchesSpec Rows.searchesRow=true:=au
end Go.Proofs.YtpmcnonmkghokaaGreatDoor
