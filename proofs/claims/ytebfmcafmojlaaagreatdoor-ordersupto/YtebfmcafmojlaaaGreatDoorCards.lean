/-
  DERIVED. GIVEN WITH THE SEED: THE CARDS: each row of YtebfmcafmojlaaaGreatDoorRows.lean that lists a variable, with what it lists TIED to the program's text (the seventh form; the later family's looks); each row that meets fmt, with fmt's text TOLD by the authors' own Lean function (tested against real Go, not proved from fmt's source: count such statements apart). THE CARD IS WHAT COUNTS. Prove the row's statement (the work); the ties are given (YtebfmcafmojlaaaGreatDoorTie.lean); close each card by the builder's one call (the guide's Derived/Test/ToyasCard.lean, 'card_holds'). Laid BY PROGRAM, IN A SANDBOX (cutbox-door.mjs). By AI agents, Wed Nov 11 2026. No macro, syntax, notation, axiom, sorry.
-/
import Derived.Test.YtebfmcafmojlaaaGreatDoorRows
import GoSem.ClaimSeven
namespace Go.Proofs.YtebfmcafmojlaaaGreatDoor
namespace Rows

/-- THE TIED CARD OF 'copselaw.Functions'. -/
def functionsCard : Claim7 := { stood := { row := functionsRow, standIns := [], harness := (true, "39d221ed7f869c50070514d07a15ecd17397787e7ca10e33e19c5c687b481693"), looks := true }, kinds := [], alts := [], goes := true, laidByText := true, laidKinds := [.listed, .data], laidTests := true, laidLooks := .later }
def FunctionsCardSaid : Prop := Claim7.holds Tryz.pinned (.plain (OpenSpec.ofChange functionsSpec)) functionsCard

/-- THE TIED CARD OF 'copselaw.Orders'. -/
def ordersCard : Claim7 := { stood := { row := ordersRow, standIns := [], harness := (true, "39d221ed7f869c50070514d07a15ecd17397787e7ca10e33e19c5c687b481693"), looks := true }, kinds := [], alts := [], goes := true, laidByText := true, laidKinds := [.listed, .data], laidTests := true, laidLooks := .later }
def OrdersCardSaid : Prop := Claim7.holds Tryz.pinned (.plain (OpenSpec.ofChange ordersSpec)) ordersCard

/-- THE TIED CARD OF 'copselaw.All'. -/
def allCard : Claim7 := { stood := { row := allRow, standIns := [], harness := (true, "39d221ed7f869c50070514d07a15ecd17397787e7ca10e33e19c5c687b481693"), looks := true }, kinds := [], alts := [], goes := true, laidByText := true, laidKinds := [.listed, .data], laidTests := true, laidLooks := .later }
def AllCardSaid : Prop := Claim7.holds Tryz.pinned (.plain (OpenSpec.ofChange allSpec)) allCard

/-- THE TIED CARD OF 'copsekeep.Carried'. -/
def carriedCard : Claim7 := { stood := { row := carriedRow, standIns := [], harness := (true, "39d221ed7f869c50070514d07a15ecd17397787e7ca10e33e19c5c687b481693"), looks := true }, kinds := [], alts := [], goes := true, laidByText := true, laidKinds := [.listed, .data], laidTests := true, laidLooks := .later }
def CarriedCardSaid : Prop := Claim7.holds Tryz.pinned (.plain (OpenSpec.ofChange carriedSpec)) carriedCard

/-- THE TIED CARD OF 'copsekeep.Capped'. -/
def cappedCard : Claim7 := { stood := { row := cappedRow, standIns := [], harness := (true, "39d221ed7f869c50070514d07a15ecd17397787e7ca10e33e19c5c687b481693"), looks := true }, kinds := [], alts := [], goes := true, laidByText := true, laidKinds := [.listed, .data], laidTests := true, laidLooks := .later }
def CappedCardSaid : Prop := Claim7.holds Tryz.pinned (.plain (OpenSpec.ofChange cappedSpec)) cappedCard

/-- THE TIED CARD OF 'copsekeep.Refused'. -/
def refusedCard : Claim7 := { stood := { row := refusedRow, standIns := [], harness := (true, "39d221ed7f869c50070514d07a15ecd17397787e7ca10e33e19c5c687b481693"), looks := true }, kinds := [], alts := [], goes := true, laidByText := true, laidKinds := [.listed, .data], laidTests := true, laidLooks := .later }
def RefusedCardSaid : Prop := Claim7.holds Tryz.pinned (.plain (OpenSpec.ofChange refusedSpec)) refusedCard

/-- THE SECOND FORM's CARD OF 'copselaw.Functions'. -/
def functionsUptoCard : Claim7 := { stood := { row := functionsUptoRow, standIns := [], harness := (true, "39d221ed7f869c50070514d07a15ecd17397787e7ca10e33e19c5c687b481693"), looks := true }, kinds := [], alts := [], goes := true, laidByText := true, laidKinds := [.listed, .data], laidTests := true, laidLooks := .later }
def FunctionsUptoCardSaid : Prop := Claim7.holds Tryz.pinned (.plain (OpenSpec.upto functionsSpec)) functionsUptoCard

/-- THE SECOND FORM's CARD OF 'copselaw.Orders'. -/
def ordersUptoCard : Claim7 := { stood := { row := ordersUptoRow, standIns := [], harness := (true, "39d221ed7f869c50070514d07a15ecd17397787e7ca10e33e19c5c687b481693"), looks := true }, kinds := [], alts := [], goes := true, laidByText := true, laidKinds := [.listed, .data], laidTests := true, laidLooks := .later }
def OrdersUptoCardSaid : Prop := Claim7.holds Tryz.pinned (.plain (OpenSpec.upto ordersSpec)) ordersUptoCard

/-- THE SECOND FORM's CARD OF 'copselaw.All'. -/
def allUptoCard : Claim7 := { stood := { row := allUptoRow, standIns := [], harness := (true, "39d221ed7f869c50070514d07a15ecd17397787e7ca10e33e19c5c687b481693"), looks := true }, kinds := [], alts := [], goes := true, laidByText := true, laidKinds := [.listed, .data], laidTests := true, laidLooks := .later }
def AllUptoCardSaid : Prop := Claim7.holds Tryz.pinned (.plain (OpenSpec.upto allSpec)) allUptoCard

/-- THE SECOND FORM's CARD OF 'copsekeep.Carried'. -/
def carriedUptoCard : Claim7 := { stood := { row := carriedUptoRow, standIns := [], harness := (true, "39d221ed7f869c50070514d07a15ecd17397787e7ca10e33e19c5c687b481693"), looks := true }, kinds := [], alts := [], goes := true, laidByText := true, laidKinds := [.listed, .data], laidTests := true, laidLooks := .later }
def CarriedUptoCardSaid : Prop := Claim7.holds Tryz.pinned (.plain (OpenSpec.upto carriedSpec)) carriedUptoCard

/-- THE SECOND FORM's CARD OF 'copsekeep.Capped'. -/
def cappedUptoCard : Claim7 := { stood := { row := cappedUptoRow, standIns := [], harness := (true, "39d221ed7f869c50070514d07a15ecd17397787e7ca10e33e19c5c687b481693"), looks := true }, kinds := [], alts := [], goes := true, laidByText := true, laidKinds := [.listed, .data], laidTests := true, laidLooks := .later }
def CappedUptoCardSaid : Prop := Claim7.holds Tryz.pinned (.plain (OpenSpec.upto cappedSpec)) cappedUptoCard

/-- THE SECOND FORM's CARD OF 'copsekeep.Refused'. -/
def refusedUptoCard : Claim7 := { stood := { row := refusedUptoRow, standIns := [], harness := (true, "39d221ed7f869c50070514d07a15ecd17397787e7ca10e33e19c5c687b481693"), looks := true }, kinds := [], alts := [], goes := true, laidByText := true, laidKinds := [.listed, .data], laidTests := true, laidLooks := .later }
def RefusedUptoCardSaid : Prop := Claim7.holds Tryz.pinned (.plain (OpenSpec.upto refusedSpec)) refusedUptoCard
end Rows
end Go.Proofs.YtebfmcafmojlaaaGreatDoor
