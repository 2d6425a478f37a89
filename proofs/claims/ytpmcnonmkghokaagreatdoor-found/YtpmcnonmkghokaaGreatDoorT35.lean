import Derived.Test.YtpmcnonmkghokaaGreatDoorT00
import Derived.Test.YtpmcnonmkghokaaGreatDoorRows
import Derived.ProofKit
import Derived.JoinedOf
set_option maxRecDepth 1000000
namespace Go.Proofs.YtpmcnonmkghokaaGreatDoor
theorem zvl:joinedFacts Tryz.pinned.checked.prog 8 Tryz.f8 Rows.foundSpec Rows.foundRow=true:=by kernel_rfl
end Go.Proofs.YtpmcnonmkghokaaGreatDoor
