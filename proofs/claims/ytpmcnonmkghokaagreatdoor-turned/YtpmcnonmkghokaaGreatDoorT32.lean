import Derived.Test.YtpmcnonmkghokaaGreatDoorT00
import Derived.Test.YtpmcnonmkghokaaGreatDoorRows
import Derived.ProofKit
import Derived.JoinedOf
set_option maxRecDepth 1000000
namespace Go.Proofs.YtpmcnonmkghokaaGreatDoor
theorem zx5:joinedFacts Tryz.pinned.checked.prog 5 Tryz.f5 Rows.turnedSpec Rows.turnedRow=true:=by kernel_rfl
end Go.Proofs.YtpmcnonmkghokaaGreatDoor
