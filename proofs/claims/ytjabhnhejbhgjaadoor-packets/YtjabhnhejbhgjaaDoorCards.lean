/-
  DERIVED. GIVEN WITH THE SEED: THE CARDS: each row of YtjabhnhejbhgjaaDoorRows.lean that lists a variable, with what it lists TIED to the program's text (the seventh form; the later family's looks); each row that meets fmt, with fmt's text TOLD by the authors' own Lean function (tested against real Go, not proved from fmt's source: count such statements apart). THE CARD IS WHAT COUNTS. Prove the row's statement (the work); the ties are given (YtjabhnhejbhgjaaDoorTie.lean); close each card by the builder's one call (the guide's Derived/Test/ToyasCard.lean, 'card_holds'). Laid BY PROGRAM, IN A SANDBOX (cutbox-door.mjs). By AI agents, Wed Nov 11 2026. No macro, syntax, notation, axiom, sorry.
-/
import Derived.Test.YtjabhnhejbhgjaaDoorRows
import GoSem.ClaimSeven
namespace Go.Proofs.YtjabhnhejbhgjaaDoor
namespace Rows

/-- THE TIED CARD OF 'murmurlaw.Names'. -/
def namesCard : Claim7 := { stood := { row := namesRow, standIns := [], harness := (true, "133f07a053b19de4b878b7e1ede030a7319085cf44cd937ead3dd12fea436211"), looks := true }, kinds := [], alts := [], laidByText := true, laidKinds := [.sentinel, .sentinel, .sentinel, .sentinel, .sentinel, .sentinel, .sentinel, .sentinel], laidTests := true, laidLooks := .later }
def NamesCardSaid : Prop := Claim7.holds Tryd.pinned (.plain (OpenSpec.ofChange namesSpec)) namesCard

/-- THE TIED CARD OF 'murmurlaw.Products'. -/
def productsCard : Claim7 := { stood := { row := productsRow, standIns := [], harness := (true, "133f07a053b19de4b878b7e1ede030a7319085cf44cd937ead3dd12fea436211"), looks := true }, kinds := [], alts := [], laidByText := true, laidKinds := [.sentinel, .sentinel, .sentinel, .sentinel, .sentinel, .sentinel, .sentinel, .sentinel], laidTests := true, laidLooks := .later }
def ProductsCardSaid : Prop := Claim7.holds Tryd.pinned (.plain (OpenSpec.ofChange productsSpec)) productsCard

/-- THE TIED CARD OF 'murmurkeep.Restored'. -/
def restoredCard : Claim7 := { stood := { row := restoredRow, standIns := [], harness := (true, "133f07a053b19de4b878b7e1ede030a7319085cf44cd937ead3dd12fea436211"), looks := true }, kinds := [], alts := [], laidByText := true, laidKinds := [.sentinel], laidTests := true, laidLooks := .later }
def RestoredCardSaid : Prop := Claim7.holds Tryd.pinned (.plain (OpenSpec.ofChange restoredSpec)) restoredCard

/-- THE TIED CARD OF 'murmurlaw.Packets'. -/
def packetsCard : Claim7 := { stood := { row := packetsRow, standIns := [], harness := (true, "133f07a053b19de4b878b7e1ede030a7319085cf44cd937ead3dd12fea436211"), looks := true }, kinds := [], alts := [], laidByText := true, laidKinds := [.handle, .sentinel, .sentinel, .sentinel, .sentinel, .sentinel, .sentinel, .sentinel, .sentinel], laidTests := true, laidLooks := .later }
def PacketsCardSaid : Prop := Claim7.holds Tryd.pinned (.plain (OpenSpec.ofChange packetsSpec)) packetsCard

/-- THE SECOND FORM's CARD OF 'murmurlaw.Names'. -/
def namesUptoCard : Claim7 := { stood := { row := namesUptoRow, standIns := [], harness := (true, "133f07a053b19de4b878b7e1ede030a7319085cf44cd937ead3dd12fea436211"), looks := true }, kinds := [], alts := [], laidByText := true, laidKinds := [.sentinel, .sentinel, .sentinel, .sentinel, .sentinel, .sentinel, .sentinel, .sentinel], laidTests := true, laidLooks := .later }
def NamesUptoCardSaid : Prop := Claim7.holds Tryd.pinned (.plain (OpenSpec.upto namesSpec)) namesUptoCard

/-- THE SECOND FORM's CARD OF 'murmurlaw.Products'. -/
def productsUptoCard : Claim7 := { stood := { row := productsUptoRow, standIns := [], harness := (true, "133f07a053b19de4b878b7e1ede030a7319085cf44cd937ead3dd12fea436211"), looks := true }, kinds := [], alts := [], laidByText := true, laidKinds := [.sentinel, .sentinel, .sentinel, .sentinel, .sentinel, .sentinel, .sentinel, .sentinel], laidTests := true, laidLooks := .later }
def ProductsUptoCardSaid : Prop := Claim7.holds Tryd.pinned (.plain (OpenSpec.upto productsSpec)) productsUptoCard

/-- THE SECOND FORM's CARD OF 'murmurkeep.Restored'. -/
def restoredUptoCard : Claim7 := { stood := { row := restoredUptoRow, standIns := [], harness := (true, "133f07a053b19de4b878b7e1ede030a7319085cf44cd937ead3dd12fea436211"), looks := true }, kinds := [], alts := [], laidByText := true, laidKinds := [.sentinel], laidTests := true, laidLooks := .later }
def RestoredUptoCardSaid : Prop := Claim7.holds Tryd.pinned (.plain (OpenSpec.upto restoredSpec)) restoredUptoCard

/-- THE SECOND FORM's CARD OF 'murmurlaw.Packets'. -/
def packetsUptoCard : Claim7 := { stood := { row := packetsUptoRow, standIns := [], harness := (true, "133f07a053b19de4b878b7e1ede030a7319085cf44cd937ead3dd12fea436211"), looks := true }, kinds := [], alts := [], laidByText := true, laidKinds := [.handle, .sentinel, .sentinel, .sentinel, .sentinel, .sentinel, .sentinel, .sentinel, .sentinel], laidTests := true, laidLooks := .later }
def PacketsUptoCardSaid : Prop := Claim7.holds Tryd.pinned (.plain (OpenSpec.upto packetsSpec)) packetsUptoCard
end Rows
end Go.Proofs.YtjabhnhejbhgjaaDoor
