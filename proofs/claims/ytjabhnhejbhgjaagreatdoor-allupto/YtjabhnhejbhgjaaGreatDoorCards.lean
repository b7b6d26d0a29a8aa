/-
  DERIVED. GIVEN WITH THE SEED: THE CARDS: each row of YtjabhnhejbhgjaaGreatDoorRows.lean that lists a variable, with what it lists TIED to the program's text (the seventh form; the later family's looks); each row that meets fmt, with fmt's text TOLD by the authors' own Lean function (tested against real Go, not proved from fmt's source: count such statements apart). THE CARD IS WHAT COUNTS. Prove the row's statement (the work); the ties are given (YtjabhnhejbhgjaaGreatDoorTie.lean); close each card by the builder's one call (the guide's Derived/Test/ToyasCard.lean, 'card_holds'). Laid BY PROGRAM, IN A SANDBOX (cutbox-door.mjs). By AI agents, Wed Nov 11 2026. No macro, syntax, notation, axiom, sorry.
-/
import Derived.Test.YtjabhnhejbhgjaaGreatDoorRows
import GoSem.ClaimSeven
namespace Go.Proofs.YtjabhnhejbhgjaaGreatDoor
namespace Rows

/-- THE TIED CARD OF 'murmurlaw.Sends'. -/
def sendsCard : Claim7 := { stood := { row := sendsRow, standIns := [], harness := (true, "1cb629169cf2df8672f84b77f200a70005ab4944d348927059f08c86f28e1272"), looks := true }, kinds := [], alts := [], laidByText := true, laidKinds := [.handle, .sentinel, .sentinel, .sentinel, .sentinel, .sentinel, .sentinel, .sentinel, .sentinel], laidTests := true, laidLooks := .later }
def SendsCardSaid : Prop := Claim7.holds Tryz.pinned (.plain (OpenSpec.ofChange sendsSpec)) sendsCard

/-- THE TIED CARD OF 'murmurlaw.All'. -/
def allCard : Claim7 := { stood := { row := allRow, standIns := [], harness := (true, "1cb629169cf2df8672f84b77f200a70005ab4944d348927059f08c86f28e1272"), looks := true }, kinds := [], alts := [], laidByText := true, laidKinds := [.handle, .sentinel, .sentinel, .sentinel, .sentinel, .sentinel, .sentinel, .sentinel, .sentinel], laidTests := true, laidLooks := .later }
def AllCardSaid : Prop := Claim7.holds Tryz.pinned (.plain (OpenSpec.ofChange allSpec)) allCard

/-- THE TIED CARD OF 'murmurkeep.Delivered'. -/
def deliveredCard : Claim7 := { stood := { row := deliveredRow, standIns := [], harness := (true, "1cb629169cf2df8672f84b77f200a70005ab4944d348927059f08c86f28e1272"), looks := true }, kinds := [], alts := [], laidByText := true, laidKinds := [.handle, .sentinel, .sentinel, .sentinel, .sentinel, .sentinel, .sentinel, .sentinel, .sentinel], laidTests := true, laidLooks := .later }
def DeliveredCardSaid : Prop := Claim7.holds Tryz.pinned (.plain (OpenSpec.ofChange deliveredSpec)) deliveredCard

/-- THE TIED CARD OF 'murmurkeep.Finished'. -/
def finishedCard : Claim7 := { stood := { row := finishedRow, standIns := [], harness := (true, "1cb629169cf2df8672f84b77f200a70005ab4944d348927059f08c86f28e1272"), looks := true }, kinds := [], alts := [], laidByText := true, laidKinds := [.handle, .sentinel, .sentinel, .sentinel, .sentinel, .sentinel, .sentinel, .sentinel, .sentinel], laidTests := true, laidLooks := .later }
def FinishedCardSaid : Prop := Claim7.holds Tryz.pinned (.plain (OpenSpec.ofChange finishedSpec)) finishedCard

/-- THE TIED CARD OF 'murmurkeep.Plain'. -/
def plainCard : Claim7 := { stood := { row := plainRow, standIns := [], harness := (true, "1cb629169cf2df8672f84b77f200a70005ab4944d348927059f08c86f28e1272"), looks := true }, kinds := [], alts := [], laidByText := true, laidKinds := [.handle, .sentinel, .sentinel, .sentinel, .sentinel, .sentinel, .sentinel, .sentinel, .sentinel], laidTests := true, laidLooks := .later }
def PlainCardSaid : Prop := Claim7.holds Tryz.pinned (.plain (OpenSpec.ofChange plainSpec)) plainCard

/-- THE TIED CARD OF 'murmurkeep.Deaf'. -/
def deafCard : Claim7 := { stood := { row := deafRow, standIns := [], harness := (true, "1cb629169cf2df8672f84b77f200a70005ab4944d348927059f08c86f28e1272"), looks := true }, kinds := [], alts := [], laidByText := true, laidKinds := [.handle, .sentinel, .sentinel, .sentinel, .sentinel, .sentinel, .sentinel, .sentinel, .sentinel], laidTests := true, laidLooks := .later }
def DeafCardSaid : Prop := Claim7.holds Tryz.pinned (.plain (OpenSpec.ofChange deafSpec)) deafCard

/-- THE TIED CARD OF 'murmurkeep.Shut'. -/
def shutCard : Claim7 := { stood := { row := shutRow, standIns := [], harness := (true, "1cb629169cf2df8672f84b77f200a70005ab4944d348927059f08c86f28e1272"), looks := true }, kinds := [], alts := [], laidByText := true, laidKinds := [.handle, .sentinel, .sentinel, .sentinel, .sentinel, .sentinel, .sentinel, .sentinel, .sentinel], laidTests := true, laidLooks := .later }
def ShutCardSaid : Prop := Claim7.holds Tryz.pinned (.plain (OpenSpec.ofChange shutSpec)) shutCard

/-- THE SECOND FORM's CARD OF 'murmurlaw.Sends'. -/
def sendsUptoCard : Claim7 := { stood := { row := sendsUptoRow, standIns := [], harness := (true, "1cb629169cf2df8672f84b77f200a70005ab4944d348927059f08c86f28e1272"), looks := true }, kinds := [], alts := [], laidByText := true, laidKinds := [.handle, .sentinel, .sentinel, .sentinel, .sentinel, .sentinel, .sentinel, .sentinel, .sentinel], laidTests := true, laidLooks := .later }
def SendsUptoCardSaid : Prop := Claim7.holds Tryz.pinned (.plain (OpenSpec.upto sendsSpec)) sendsUptoCard

/-- THE SECOND FORM's CARD OF 'murmurlaw.All'. -/
def allUptoCard : Claim7 := { stood := { row := allUptoRow, standIns := [], harness := (true, "1cb629169cf2df8672f84b77f200a70005ab4944d348927059f08c86f28e1272"), looks := true }, kinds := [], alts := [], laidByText := true, laidKinds := [.handle, .sentinel, .sentinel, .sentinel, .sentinel, .sentinel, .sentinel, .sentinel, .sentinel], laidTests := true, laidLooks := .later }
def AllUptoCardSaid : Prop := Claim7.holds Tryz.pinned (.plain (OpenSpec.upto allSpec)) allUptoCard

/-- THE SECOND FORM's CARD OF 'murmurkeep.Delivered'. -/
def deliveredUptoCard : Claim7 := { stood := { row := deliveredUptoRow, standIns := [], harness := (true, "1cb629169cf2df8672f84b77f200a70005ab4944d348927059f08c86f28e1272"), looks := true }, kinds := [], alts := [], laidByText := true, laidKinds := [.handle, .sentinel, .sentinel, .sentinel, .sentinel, .sentinel, .sentinel, .sentinel, .sentinel], laidTests := true, laidLooks := .later }
def DeliveredUptoCardSaid : Prop := Claim7.holds Tryz.pinned (.plain (OpenSpec.upto deliveredSpec)) deliveredUptoCard

/-- THE SECOND FORM's CARD OF 'murmurkeep.Finished'. -/
def finishedUptoCard : Claim7 := { stood := { row := finishedUptoRow, standIns := [], harness := (true, "1cb629169cf2df8672f84b77f200a70005ab4944d348927059f08c86f28e1272"), looks := true }, kinds := [], alts := [], laidByText := true, laidKinds := [.handle, .sentinel, .sentinel, .sentinel, .sentinel, .sentinel, .sentinel, .sentinel, .sentinel], laidTests := true, laidLooks := .later }
def FinishedUptoCardSaid : Prop := Claim7.holds Tryz.pinned (.plain (OpenSpec.upto finishedSpec)) finishedUptoCard

/-- THE SECOND FORM's CARD OF 'murmurkeep.Plain'. -/
def plainUptoCard : Claim7 := { stood := { row := plainUptoRow, standIns := [], harness := (true, "1cb629169cf2df8672f84b77f200a70005ab4944d348927059f08c86f28e1272"), looks := true }, kinds := [], alts := [], laidByText := true, laidKinds := [.handle, .sentinel, .sentinel, .sentinel, .sentinel, .sentinel, .sentinel, .sentinel, .sentinel], laidTests := true, laidLooks := .later }
def PlainUptoCardSaid : Prop := Claim7.holds Tryz.pinned (.plain (OpenSpec.upto plainSpec)) plainUptoCard

/-- THE SECOND FORM's CARD OF 'murmurkeep.Deaf'. -/
def deafUptoCard : Claim7 := { stood := { row := deafUptoRow, standIns := [], harness := (true, "1cb629169cf2df8672f84b77f200a70005ab4944d348927059f08c86f28e1272"), looks := true }, kinds := [], alts := [], laidByText := true, laidKinds := [.handle, .sentinel, .sentinel, .sentinel, .sentinel, .sentinel, .sentinel, .sentinel, .sentinel], laidTests := true, laidLooks := .later }
def DeafUptoCardSaid : Prop := Claim7.holds Tryz.pinned (.plain (OpenSpec.upto deafSpec)) deafUptoCard

/-- THE SECOND FORM's CARD OF 'murmurkeep.Shut'. -/
def shutUptoCard : Claim7 := { stood := { row := shutUptoRow, standIns := [], harness := (true, "1cb629169cf2df8672f84b77f200a70005ab4944d348927059f08c86f28e1272"), looks := true }, kinds := [], alts := [], laidByText := true, laidKinds := [.handle, .sentinel, .sentinel, .sentinel, .sentinel, .sentinel, .sentinel, .sentinel, .sentinel], laidTests := true, laidLooks := .later }
def ShutUptoCardSaid : Prop := Claim7.holds Tryz.pinned (.plain (OpenSpec.upto shutSpec)) shutUptoCard
end Rows
end Go.Proofs.YtjabhnhejbhgjaaGreatDoor
