/-
  DERIVED. GIVEN WITH THE SEED: THE CARDS: each row of YtfhcmggpojhegaaGreatDoorRows.lean that lists a variable, with what it lists TIED to the program's text (the seventh form; the later family's looks); each row that meets fmt, with fmt's text TOLD by the authors' own Lean function (tested against real Go, not proved from fmt's source: count such statements apart). THE CARD IS WHAT COUNTS. Prove the row's statement (the work); the ties are given (YtfhcmggpojhegaaGreatDoorTie.lean); close each card by the builder's one call (the guide's Derived/Test/ToyasCard.lean, 'card_holds'). Laid BY PROGRAM, IN A SANDBOX (cutbox-door.mjs). By AI agents, Wed Nov 11 2026. No macro, syntax, notation, axiom, sorry.
-/
import Derived.Test.YtfhcmggpojhegaaGreatDoorRows
import GoSem.ClaimSeven
namespace Go.Proofs.YtfhcmggpojhegaaGreatDoor
namespace Rows

/-- THE TIED CARD OF 'ziggurattop.TopDigitSum'. -/
def topDigitSumCard : Claim7 := { stood := { row := topDigitSumRow, standIns := [], harness := (true, "556bbd0bc288fc2305e4851b93dd3c50bb83e88d2c97c8ce2fe6153704e33d84"), looks := false }, kinds := [], alts := [], laidByText := true, laidKinds := [.data, .wider, .pinned], laidTests := true, laidLooks := .later }
def TopDigitSumCardSaid : Prop := Claim7.holds Tryz.pinned (.plain (OpenSpec.ofChange topDigitSumSpec)) topDigitSumCard

/-- THE TIED CARD OF 'ziggurattop.TopLeast'. -/
def topLeastCard : Claim7 := { stood := { row := topLeastRow, standIns := [], harness := (true, "556bbd0bc288fc2305e4851b93dd3c50bb83e88d2c97c8ce2fe6153704e33d84"), looks := false }, kinds := [], alts := [], laidByText := true, laidKinds := [.data, .wider, .pinned], laidTests := true, laidLooks := .later }
def TopLeastCardSaid : Prop := Claim7.holds Tryz.pinned (.plain (OpenSpec.ofChange topLeastSpec)) topLeastCard

/-- THE TIED CARD OF 'ziggurattop.TopPowers'. -/
def topPowersCard : Claim7 := { stood := { row := topPowersRow, standIns := [], harness := (true, "556bbd0bc288fc2305e4851b93dd3c50bb83e88d2c97c8ce2fe6153704e33d84"), looks := false }, kinds := [], alts := [], laidByText := true, laidKinds := [.data, .wider, .pinned], laidTests := true, laidLooks := .later }
def TopPowersCardSaid : Prop := Claim7.holds Tryz.pinned (.plain (OpenSpec.ofChange topPowersSpec)) topPowersCard

/-- THE TIED CARD OF 'ziggurattop.TopChinese'. -/
def topChineseCard : Claim7 := { stood := { row := topChineseRow, standIns := [], harness := (true, "556bbd0bc288fc2305e4851b93dd3c50bb83e88d2c97c8ce2fe6153704e33d84"), looks := false }, kinds := [], alts := [], laidByText := true, laidKinds := [.data, .wider, .pinned], laidTests := true, laidLooks := .later }
def TopChineseCardSaid : Prop := Claim7.holds Tryz.pinned (.plain (OpenSpec.ofChange topChineseSpec)) topChineseCard

/-- THE TIED CARD OF 'ziggurattop.TopBezout'. -/
def topBezoutCard : Claim7 := { stood := { row := topBezoutRow, standIns := [], harness := (true, "556bbd0bc288fc2305e4851b93dd3c50bb83e88d2c97c8ce2fe6153704e33d84"), looks := false }, kinds := [], alts := [], laidByText := true, laidKinds := [.data, .wider, .pinned], laidTests := true, laidLooks := .later }
def TopBezoutCardSaid : Prop := Claim7.holds Tryz.pinned (.plain (OpenSpec.ofChange topBezoutSpec)) topBezoutCard

/-- THE SECOND FORM's CARD OF 'ziggurattop.TopDigitSum'. -/
def topDigitSumUptoCard : Claim7 := { stood := { row := topDigitSumUptoRow, standIns := [], harness := (true, "556bbd0bc288fc2305e4851b93dd3c50bb83e88d2c97c8ce2fe6153704e33d84"), looks := false }, kinds := [], alts := [], laidByText := true, laidKinds := [.data, .wider, .pinned], laidTests := true, laidLooks := .later }
def TopDigitSumUptoCardSaid : Prop := Claim7.holds Tryz.pinned (.plain (OpenSpec.upto topDigitSumSpec)) topDigitSumUptoCard

/-- THE SECOND FORM's CARD OF 'ziggurattop.TopLeast'. -/
def topLeastUptoCard : Claim7 := { stood := { row := topLeastUptoRow, standIns := [], harness := (true, "556bbd0bc288fc2305e4851b93dd3c50bb83e88d2c97c8ce2fe6153704e33d84"), looks := false }, kinds := [], alts := [], laidByText := true, laidKinds := [.data, .wider, .pinned], laidTests := true, laidLooks := .later }
def TopLeastUptoCardSaid : Prop := Claim7.holds Tryz.pinned (.plain (OpenSpec.upto topLeastSpec)) topLeastUptoCard

/-- THE SECOND FORM's CARD OF 'ziggurattop.TopPowers'. -/
def topPowersUptoCard : Claim7 := { stood := { row := topPowersUptoRow, standIns := [], harness := (true, "556bbd0bc288fc2305e4851b93dd3c50bb83e88d2c97c8ce2fe6153704e33d84"), looks := false }, kinds := [], alts := [], laidByText := true, laidKinds := [.data, .wider, .pinned], laidTests := true, laidLooks := .later }
def TopPowersUptoCardSaid : Prop := Claim7.holds Tryz.pinned (.plain (OpenSpec.upto topPowersSpec)) topPowersUptoCard

/-- THE SECOND FORM's CARD OF 'ziggurattop.TopChinese'. -/
def topChineseUptoCard : Claim7 := { stood := { row := topChineseUptoRow, standIns := [], harness := (true, "556bbd0bc288fc2305e4851b93dd3c50bb83e88d2c97c8ce2fe6153704e33d84"), looks := false }, kinds := [], alts := [], laidByText := true, laidKinds := [.data, .wider, .pinned], laidTests := true, laidLooks := .later }
def TopChineseUptoCardSaid : Prop := Claim7.holds Tryz.pinned (.plain (OpenSpec.upto topChineseSpec)) topChineseUptoCard

/-- THE SECOND FORM's CARD OF 'ziggurattop.TopBezout'. -/
def topBezoutUptoCard : Claim7 := { stood := { row := topBezoutUptoRow, standIns := [], harness := (true, "556bbd0bc288fc2305e4851b93dd3c50bb83e88d2c97c8ce2fe6153704e33d84"), looks := false }, kinds := [], alts := [], laidByText := true, laidKinds := [.data, .wider, .pinned], laidTests := true, laidLooks := .later }
def TopBezoutUptoCardSaid : Prop := Claim7.holds Tryz.pinned (.plain (OpenSpec.upto topBezoutSpec)) topBezoutUptoCard
end Rows
end Go.Proofs.YtfhcmggpojhegaaGreatDoor
