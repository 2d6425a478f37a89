/-
  DERIVED. GIVEN WITH THE SEED: THE CARDS: each row of YtpmcnonmkghokaaGreatDoorRows.lean that lists a variable, with what it lists TIED to the program's text (the seventh form; the later family's looks); each row that meets fmt, with fmt's text TOLD by the authors' own Lean function (tested against real Go, not proved from fmt's source: count such statements apart). THE CARD IS WHAT COUNTS. Prove the row's statement (the work); the ties are given (YtpmcnonmkghokaaGreatDoorTie.lean); close each card by the builder's one call (the guide's Derived/Test/ToyasCard.lean, 'card_holds'). Laid BY PROGRAM, IN A SANDBOX (cutbox-door.mjs). By AI agents, Wed Nov 11 2026. No macro, syntax, notation, axiom, sorry.
-/
import Derived.Test.YtpmcnonmkghokaaGreatDoorRows
import GoSem.ClaimSeven
namespace Go.Proofs.YtpmcnonmkghokaaGreatDoor
namespace Rows

/-- THE TIED CARD OF 'orbitslaw.Plays'. -/
def playsCard : Claim7 := { stood := { row := playsRow, standIns := [], harness := (true, "866e42b94a8d35afcd2281c26c94c6bb01422d5ed6fd52653700cd8dee87b256"), looks := false }, kinds := [], alts := [], laidByText := true, laidKinds := [.data, .data, .data], laidTests := true, laidLooks := .later }
def PlaysCardSaid : Prop := Claim7.holds Tryz.pinned (.plain (OpenSpec.ofChange playsSpec)) playsCard

/-- THE TIED CARD OF 'orbitskeep.Walked'. -/
def walkedCard : Claim7 := { stood := { row := walkedRow, standIns := [], harness := (true, "866e42b94a8d35afcd2281c26c94c6bb01422d5ed6fd52653700cd8dee87b256"), looks := false }, kinds := [], alts := [], laidByText := true, laidKinds := [.data, .data, .data], laidTests := true, laidLooks := .later }
def WalkedCardSaid : Prop := Claim7.holds Tryz.pinned (.plain (OpenSpec.ofChange walkedSpec)) walkedCard

/-- THE TIED CARD OF 'orbitskeep.Turned'. -/
def turnedCard : Claim7 := { stood := { row := turnedRow, standIns := [], harness := (true, "866e42b94a8d35afcd2281c26c94c6bb01422d5ed6fd52653700cd8dee87b256"), looks := false }, kinds := [], alts := [], laidByText := true, laidKinds := [.data, .data, .data], laidTests := true, laidLooks := .later }
def TurnedCardSaid : Prop := Claim7.holds Tryz.pinned (.plain (OpenSpec.ofChange turnedSpec)) turnedCard

/-- THE TIED CARD OF 'orbitskeep.Ordered'. -/
def orderedCard : Claim7 := { stood := { row := orderedRow, standIns := [], harness := (true, "866e42b94a8d35afcd2281c26c94c6bb01422d5ed6fd52653700cd8dee87b256"), looks := false }, kinds := [], alts := [], laidByText := true, laidKinds := [.data, .data, .data], laidTests := true, laidLooks := .later }
def OrderedCardSaid : Prop := Claim7.holds Tryz.pinned (.plain (OpenSpec.ofChange orderedSpec)) orderedCard

/-- THE TIED CARD OF 'orbitslaw.Searches'. -/
def searchesCard : Claim7 := { stood := { row := searchesRow, standIns := [], harness := (true, "866e42b94a8d35afcd2281c26c94c6bb01422d5ed6fd52653700cd8dee87b256"), looks := false }, kinds := [], alts := [], laidByText := true, laidKinds := [.data, .data, .data], laidTests := true, laidLooks := .later }
def SearchesCardSaid : Prop := Claim7.holds Tryz.pinned (.plain (OpenSpec.ofChange searchesSpec)) searchesCard

/-- THE TIED CARD OF 'orbitskeep.Found'. -/
def foundCard : Claim7 := { stood := { row := foundRow, standIns := [], harness := (true, "866e42b94a8d35afcd2281c26c94c6bb01422d5ed6fd52653700cd8dee87b256"), looks := false }, kinds := [], alts := [], laidByText := true, laidKinds := [.data, .data, .data], laidTests := true, laidLooks := .later }
def FoundCardSaid : Prop := Claim7.holds Tryz.pinned (.plain (OpenSpec.ofChange foundSpec)) foundCard

/-- THE TIED CARD OF 'orbitskeep.Counted'. -/
def countedCard : Claim7 := { stood := { row := countedRow, standIns := [], harness := (true, "866e42b94a8d35afcd2281c26c94c6bb01422d5ed6fd52653700cd8dee87b256"), looks := false }, kinds := [], alts := [], laidByText := true, laidKinds := [.data, .data, .data], laidTests := true, laidLooks := .later }
def CountedCardSaid : Prop := Claim7.holds Tryz.pinned (.plain (OpenSpec.ofChange countedSpec)) countedCard

/-- THE TIED CARD OF 'orbitslaw.All'. -/
def allCard : Claim7 := { stood := { row := allRow, standIns := [], harness := (true, "866e42b94a8d35afcd2281c26c94c6bb01422d5ed6fd52653700cd8dee87b256"), looks := false }, kinds := [], alts := [], laidByText := true, laidKinds := [.data, .data, .data], laidTests := true, laidLooks := .later }
def AllCardSaid : Prop := Claim7.holds Tryz.pinned (.plain (OpenSpec.ofChange allSpec)) allCard

/-- THE SECOND FORM's CARD OF 'orbitslaw.Plays'. -/
def playsUptoCard : Claim7 := { stood := { row := playsUptoRow, standIns := [], harness := (true, "866e42b94a8d35afcd2281c26c94c6bb01422d5ed6fd52653700cd8dee87b256"), looks := false }, kinds := [], alts := [], laidByText := true, laidKinds := [.data, .data, .data], laidTests := true, laidLooks := .later }
def PlaysUptoCardSaid : Prop := Claim7.holds Tryz.pinned (.plain (OpenSpec.upto playsSpec)) playsUptoCard

/-- THE SECOND FORM's CARD OF 'orbitskeep.Walked'. -/
def walkedUptoCard : Claim7 := { stood := { row := walkedUptoRow, standIns := [], harness := (true, "866e42b94a8d35afcd2281c26c94c6bb01422d5ed6fd52653700cd8dee87b256"), looks := false }, kinds := [], alts := [], laidByText := true, laidKinds := [.data, .data, .data], laidTests := true, laidLooks := .later }
def WalkedUptoCardSaid : Prop := Claim7.holds Tryz.pinned (.plain (OpenSpec.upto walkedSpec)) walkedUptoCard

/-- THE SECOND FORM's CARD OF 'orbitskeep.Turned'. -/
def turnedUptoCard : Claim7 := { stood := { row := turnedUptoRow, standIns := [], harness := (true, "866e42b94a8d35afcd2281c26c94c6bb01422d5ed6fd52653700cd8dee87b256"), looks := false }, kinds := [], alts := [], laidByText := true, laidKinds := [.data, .data, .data], laidTests := true, laidLooks := .later }
def TurnedUptoCardSaid : Prop := Claim7.holds Tryz.pinned (.plain (OpenSpec.upto turnedSpec)) turnedUptoCard

/-- THE SECOND FORM's CARD OF 'orbitskeep.Ordered'. -/
def orderedUptoCard : Claim7 := { stood := { row := orderedUptoRow, standIns := [], harness := (true, "866e42b94a8d35afcd2281c26c94c6bb01422d5ed6fd52653700cd8dee87b256"), looks := false }, kinds := [], alts := [], laidByText := true, laidKinds := [.data, .data, .data], laidTests := true, laidLooks := .later }
def OrderedUptoCardSaid : Prop := Claim7.holds Tryz.pinned (.plain (OpenSpec.upto orderedSpec)) orderedUptoCard

/-- THE SECOND FORM's CARD OF 'orbitslaw.Searches'. -/
def searchesUptoCard : Claim7 := { stood := { row := searchesUptoRow, standIns := [], harness := (true, "866e42b94a8d35afcd2281c26c94c6bb01422d5ed6fd52653700cd8dee87b256"), looks := false }, kinds := [], alts := [], laidByText := true, laidKinds := [.data, .data, .data], laidTests := true, laidLooks := .later }
def SearchesUptoCardSaid : Prop := Claim7.holds Tryz.pinned (.plain (OpenSpec.upto searchesSpec)) searchesUptoCard

/-- THE SECOND FORM's CARD OF 'orbitskeep.Found'. -/
def foundUptoCard : Claim7 := { stood := { row := foundUptoRow, standIns := [], harness := (true, "866e42b94a8d35afcd2281c26c94c6bb01422d5ed6fd52653700cd8dee87b256"), looks := false }, kinds := [], alts := [], laidByText := true, laidKinds := [.data, .data, .data], laidTests := true, laidLooks := .later }
def FoundUptoCardSaid : Prop := Claim7.holds Tryz.pinned (.plain (OpenSpec.upto foundSpec)) foundUptoCard

/-- THE SECOND FORM's CARD OF 'orbitskeep.Counted'. -/
def countedUptoCard : Claim7 := { stood := { row := countedUptoRow, standIns := [], harness := (true, "866e42b94a8d35afcd2281c26c94c6bb01422d5ed6fd52653700cd8dee87b256"), looks := false }, kinds := [], alts := [], laidByText := true, laidKinds := [.data, .data, .data], laidTests := true, laidLooks := .later }
def CountedUptoCardSaid : Prop := Claim7.holds Tryz.pinned (.plain (OpenSpec.upto countedSpec)) countedUptoCard

/-- THE SECOND FORM's CARD OF 'orbitslaw.All'. -/
def allUptoCard : Claim7 := { stood := { row := allUptoRow, standIns := [], harness := (true, "866e42b94a8d35afcd2281c26c94c6bb01422d5ed6fd52653700cd8dee87b256"), looks := false }, kinds := [], alts := [], laidByText := true, laidKinds := [.data, .data, .data], laidTests := true, laidLooks := .later }
def AllUptoCardSaid : Prop := Claim7.holds Tryz.pinned (.plain (OpenSpec.upto allSpec)) allUptoCard
end Rows
end Go.Proofs.YtpmcnonmkghokaaGreatDoor
