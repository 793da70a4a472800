/-
  DERIVED. GIVEN WITH THE SEED: THE CARDS: each row of YtpilmkipbbengaaGreatDoorRows.lean that lists a variable, with what it lists TIED to the program's text (the seventh form; the later family's looks); each row that meets fmt, with fmt's text TOLD by the authors' own Lean function (tested against real Go, not proved from fmt's source: count such statements apart). THE CARD IS WHAT COUNTS. Prove the row's statement (the work); the ties are given (YtpilmkipbbengaaGreatDoorTie.lean); close each card by the builder's one call (the guide's Derived/Test/ToyasCard.lean, 'card_holds'). Laid BY PROGRAM, IN A SANDBOX (cutbox-door.mjs). By AI agents, Wed Nov 11 2026. No macro, syntax, notation, axiom, sorry.
-/
import Derived.Test.YtpilmkipbbengaaGreatDoorRows
import GoSem.ClaimSeven
namespace Go.Proofs.YtpilmkipbbengaaGreatDoor
namespace Rows

/-- THE TIED CARD OF 'driplaw.Rates'. -/
def ratesCard : Claim7 := { stood := { row := ratesRow, standIns := [], harness := (true, "d42e8bca00470d2e9ef3373c20eab2b01843d4addafeb5e4b7772488f2d549c8"), looks := true }, kinds := [], alts := [], laidByText := true, laidKinds := [.data, .data, .data], laidTests := true, laidLooks := .later }
def RatesCardSaid : Prop := Claim7.holds Tryz.pinned (.plain (OpenSpec.ofChange ratesSpec)) ratesCard

/-- THE TIED CARD OF 'driplaw.Orders'. -/
def ordersCard : Claim7 := { stood := { row := ordersRow, standIns := [], harness := (true, "d42e8bca00470d2e9ef3373c20eab2b01843d4addafeb5e4b7772488f2d549c8"), looks := true }, kinds := [], alts := [], laidByText := true, laidKinds := [.data, .data, .data], laidTests := true, laidLooks := .later }
def OrdersCardSaid : Prop := Claim7.holds Tryz.pinned (.plain (OpenSpec.ofChange ordersSpec)) ordersCard

/-- THE TIED CARD OF 'dripkeep.Continued'. -/
def continuedCard : Claim7 := { stood := { row := continuedRow, standIns := [], harness := (true, "d42e8bca00470d2e9ef3373c20eab2b01843d4addafeb5e4b7772488f2d549c8"), looks := true }, kinds := [], alts := [], laidByText := true, laidKinds := [.data, .data, .data], laidTests := true, laidLooks := .later }
def ContinuedCardSaid : Prop := Claim7.holds Tryz.pinned (.plain (OpenSpec.ofChange continuedSpec)) continuedCard

/-- THE TIED CARD OF 'dripkeep.Told'. -/
def toldCard : Claim7 := { stood := { row := toldRow, standIns := [], harness := (true, "d42e8bca00470d2e9ef3373c20eab2b01843d4addafeb5e4b7772488f2d549c8"), looks := true }, kinds := [], alts := [], laidByText := true, laidKinds := [.data, .data, .data], laidTests := true, laidLooks := .later }
def ToldCardSaid : Prop := Claim7.holds Tryz.pinned (.plain (OpenSpec.ofChange toldSpec)) toldCard

/-- THE TIED CARD OF 'driplaw.All'. -/
def allCard : Claim7 := { stood := { row := allRow, standIns := [], harness := (true, "d42e8bca00470d2e9ef3373c20eab2b01843d4addafeb5e4b7772488f2d549c8"), looks := true }, kinds := [], alts := [], laidByText := true, laidKinds := [.data, .data, .data], laidTests := true, laidLooks := .later }
def AllCardSaid : Prop := Claim7.holds Tryz.pinned (.plain (OpenSpec.ofChange allSpec)) allCard

/-- THE SECOND FORM's CARD OF 'driplaw.Rates'. -/
def ratesUptoCard : Claim7 := { stood := { row := ratesUptoRow, standIns := [], harness := (true, "d42e8bca00470d2e9ef3373c20eab2b01843d4addafeb5e4b7772488f2d549c8"), looks := true }, kinds := [], alts := [], laidByText := true, laidKinds := [.data, .data, .data], laidTests := true, laidLooks := .later }
def RatesUptoCardSaid : Prop := Claim7.holds Tryz.pinned (.plain (OpenSpec.upto ratesSpec)) ratesUptoCard

/-- THE SECOND FORM's CARD OF 'driplaw.Orders'. -/
def ordersUptoCard : Claim7 := { stood := { row := ordersUptoRow, standIns := [], harness := (true, "d42e8bca00470d2e9ef3373c20eab2b01843d4addafeb5e4b7772488f2d549c8"), looks := true }, kinds := [], alts := [], laidByText := true, laidKinds := [.data, .data, .data], laidTests := true, laidLooks := .later }
def OrdersUptoCardSaid : Prop := Claim7.holds Tryz.pinned (.plain (OpenSpec.upto ordersSpec)) ordersUptoCard

/-- THE SECOND FORM's CARD OF 'dripkeep.Continued'. -/
def continuedUptoCard : Claim7 := { stood := { row := continuedUptoRow, standIns := [], harness := (true, "d42e8bca00470d2e9ef3373c20eab2b01843d4addafeb5e4b7772488f2d549c8"), looks := true }, kinds := [], alts := [], laidByText := true, laidKinds := [.data, .data, .data], laidTests := true, laidLooks := .later }
def ContinuedUptoCardSaid : Prop := Claim7.holds Tryz.pinned (.plain (OpenSpec.upto continuedSpec)) continuedUptoCard

/-- THE SECOND FORM's CARD OF 'dripkeep.Told'. -/
def toldUptoCard : Claim7 := { stood := { row := toldUptoRow, standIns := [], harness := (true, "d42e8bca00470d2e9ef3373c20eab2b01843d4addafeb5e4b7772488f2d549c8"), looks := true }, kinds := [], alts := [], laidByText := true, laidKinds := [.data, .data, .data], laidTests := true, laidLooks := .later }
def ToldUptoCardSaid : Prop := Claim7.holds Tryz.pinned (.plain (OpenSpec.upto toldSpec)) toldUptoCard

/-- THE SECOND FORM's CARD OF 'driplaw.All'. -/
def allUptoCard : Claim7 := { stood := { row := allUptoRow, standIns := [], harness := (true, "d42e8bca00470d2e9ef3373c20eab2b01843d4addafeb5e4b7772488f2d549c8"), looks := true }, kinds := [], alts := [], laidByText := true, laidKinds := [.data, .data, .data], laidTests := true, laidLooks := .later }
def AllUptoCardSaid : Prop := Claim7.holds Tryz.pinned (.plain (OpenSpec.upto allSpec)) allUptoCard
end Rows
end Go.Proofs.YtpilmkipbbengaaGreatDoor
