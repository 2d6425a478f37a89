import Derived.Test.YtpmcnonmkghokaaGreatDoorT00
import Derived.Test.YtpmcnonmkghokaaGreatDoorRows
import Derived.ProofKit
import Derived.JoinedOf
set_option maxRecDepth 1000000
set_option maxHeartbeats 16000000
namespace Go.Proofs.YtpmcnonmkghokaaGreatDoor
open Go.Proofs.Tryz
theorem xyc:joinedFacts Tryz.pinned.checked.prog 10 Tryz.f10 Rows.allSpec Rows.allRow=true:=by
 unfold joinedFacts;simp only[rG];repeat' apply And.intro
 all_goals as_aux_lemma=>kernel_rfl
end Go.Proofs.YtpmcnonmkghokaaGreatDoor
