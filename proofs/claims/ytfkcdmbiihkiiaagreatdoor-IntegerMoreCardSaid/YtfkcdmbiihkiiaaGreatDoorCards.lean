/-
  DERIVED. GIVEN WITH THE SEED: THE CARDS: each row of YtfkcdmbiihkiiaaGreatDoorRows.lean that lists a variable, with what it lists TIED to the program's text (the seventh form; the later family's looks); each row that meets fmt, with fmt's text TOLD by the authors' own Lean function (tested against real Go, not proved from fmt's source: count such statements apart). THE CARD IS WHAT COUNTS. Prove the row's statement (the work); the ties are given (YtfkcdmbiihkiiaaGreatDoorTie.lean); close each card by the builder's one call (the guide's Derived/Test/ToyasCard.lean, 'card_holds'). Laid BY PROGRAM, IN A SANDBOX (cutbox-door.mjs). By AI agents, Wed Nov 11 2026. No macro, syntax, notation, axiom, sorry.
-/
import Derived.Test.YtfkcdmbiihkiiaaGreatDoorRows
import GoSem.ClaimSeven
namespace Go.Proofs.YtfkcdmbiihkiiaaGreatDoor
namespace Rows

/-- THE TIED CARD OF 'zigguratlaw06.IntegerTells'. -/
def integerTellsCard : Claim7 := { stood := { row := integerTellsRow, standIns := [], harness := (true, "d0863e36c712698abca4858ab1018b7ebe61bb389f3693deabf44544fa77fc5e"), looks := false }, kinds := [], alts := [], laidByText := true, laidKinds := [.data, .wider, .pinned], laidTests := true, laidLooks := .later }
def IntegerTellsCardSaid : Prop := Claim7.holds Tryz.pinned (.plain (OpenSpec.ofChange integerTellsSpec)) integerTellsCard

/-- THE TIED CARD OF 'zigguratlaw06.IntegerMore'. -/
def integerMoreCard : Claim7 := { stood := { row := integerMoreRow, standIns := [], harness := (true, "d0863e36c712698abca4858ab1018b7ebe61bb389f3693deabf44544fa77fc5e"), looks := false }, kinds := [], alts := [], laidByText := true, laidKinds := [.data, .wider, .pinned], laidTests := true, laidLooks := .later }
def IntegerMoreCardSaid : Prop := Claim7.holds Tryz.pinned (.plain (OpenSpec.ofChange integerMoreSpec)) integerMoreCard

/-- THE TIED CARD OF 'zigguratlaw06.IntegerRing'. -/
def integerRingCard : Claim7 := { stood := { row := integerRingRow, standIns := [], harness := (true, "d0863e36c712698abca4858ab1018b7ebe61bb389f3693deabf44544fa77fc5e"), looks := false }, kinds := [], alts := [], laidByText := true, laidKinds := [.data, .wider, .pinned], laidTests := true, laidLooks := .later }
def IntegerRingCardSaid : Prop := Claim7.holds Tryz.pinned (.plain (OpenSpec.ofChange integerRingSpec)) integerRingCard

/-- THE TIED CARD OF 'zigguratlaw06.IntegerOrder'. -/
def integerOrderCard : Claim7 := { stood := { row := integerOrderRow, standIns := [], harness := (true, "d0863e36c712698abca4858ab1018b7ebe61bb389f3693deabf44544fa77fc5e"), looks := false }, kinds := [], alts := [], laidByText := true, laidKinds := [.data, .wider, .pinned], laidTests := true, laidLooks := .later }
def IntegerOrderCardSaid : Prop := Claim7.holds Tryz.pinned (.plain (OpenSpec.ofChange integerOrderSpec)) integerOrderCard

/-- THE TIED CARD OF 'zigguratlaw06.IntegerQuotient'. -/
def integerQuotientCard : Claim7 := { stood := { row := integerQuotientRow, standIns := [], harness := (true, "d0863e36c712698abca4858ab1018b7ebe61bb389f3693deabf44544fa77fc5e"), looks := false }, kinds := [], alts := [], laidByText := true, laidKinds := [.data, .wider, .pinned], laidTests := true, laidLooks := .later }
def IntegerQuotientCardSaid : Prop := Claim7.holds Tryz.pinned (.plain (OpenSpec.ofChange integerQuotientSpec)) integerQuotientCard

/-- THE TIED CARD OF 'zigguratlaw06.IntegerShifts'. -/
def integerShiftsCard : Claim7 := { stood := { row := integerShiftsRow, standIns := [], harness := (true, "d0863e36c712698abca4858ab1018b7ebe61bb389f3693deabf44544fa77fc5e"), looks := false }, kinds := [], alts := [], laidByText := true, laidKinds := [.data, .wider, .pinned], laidTests := true, laidLooks := .later }
def IntegerShiftsCardSaid : Prop := Claim7.holds Tryz.pinned (.plain (OpenSpec.ofChange integerShiftsSpec)) integerShiftsCard

/-- THE TIED CARD OF 'zigguratlaw06.IntegerPowers'. -/
def integerPowersCard : Claim7 := { stood := { row := integerPowersRow, standIns := [], harness := (true, "d0863e36c712698abca4858ab1018b7ebe61bb389f3693deabf44544fa77fc5e"), looks := false }, kinds := [], alts := [], laidByText := true, laidKinds := [.data, .wider, .pinned], laidTests := true, laidLooks := .later }
def IntegerPowersCardSaid : Prop := Claim7.holds Tryz.pinned (.plain (OpenSpec.ofChange integerPowersSpec)) integerPowersCard

/-- THE TIED CARD OF 'zigguratlaw06.IntegerTexts'. -/
def integerTextsCard : Claim7 := { stood := { row := integerTextsRow, standIns := [], harness := (true, "d0863e36c712698abca4858ab1018b7ebe61bb389f3693deabf44544fa77fc5e"), looks := false }, kinds := [], alts := [], laidByText := true, laidKinds := [.data, .wider, .pinned], laidTests := true, laidLooks := .later }
def IntegerTextsCardSaid : Prop := Claim7.holds Tryz.pinned (.plain (OpenSpec.ofChange integerTextsSpec)) integerTextsCard

/-- THE TIED CARD OF 'zigguratlaw06.IntegerRests'. -/
def integerRestsCard : Claim7 := { stood := { row := integerRestsRow, standIns := [], harness := (true, "d0863e36c712698abca4858ab1018b7ebe61bb389f3693deabf44544fa77fc5e"), looks := false }, kinds := [], alts := [], laidByText := true, laidKinds := [.data, .wider, .pinned], laidTests := true, laidLooks := .later }
def IntegerRestsCardSaid : Prop := Claim7.holds Tryz.pinned (.plain (OpenSpec.ofChange integerRestsSpec)) integerRestsCard

/-- THE SECOND FORM's CARD OF 'zigguratlaw06.IntegerTells'. -/
def integerTellsUptoCard : Claim7 := { stood := { row := integerTellsUptoRow, standIns := [], harness := (true, "d0863e36c712698abca4858ab1018b7ebe61bb389f3693deabf44544fa77fc5e"), looks := false }, kinds := [], alts := [], laidByText := true, laidKinds := [.data, .wider, .pinned], laidTests := true, laidLooks := .later }
def IntegerTellsUptoCardSaid : Prop := Claim7.holds Tryz.pinned (.plain (OpenSpec.upto integerTellsSpec)) integerTellsUptoCard

/-- THE SECOND FORM's CARD OF 'zigguratlaw06.IntegerMore'. -/
def integerMoreUptoCard : Claim7 := { stood := { row := integerMoreUptoRow, standIns := [], harness := (true, "d0863e36c712698abca4858ab1018b7ebe61bb389f3693deabf44544fa77fc5e"), looks := false }, kinds := [], alts := [], laidByText := true, laidKinds := [.data, .wider, .pinned], laidTests := true, laidLooks := .later }
def IntegerMoreUptoCardSaid : Prop := Claim7.holds Tryz.pinned (.plain (OpenSpec.upto integerMoreSpec)) integerMoreUptoCard

/-- THE SECOND FORM's CARD OF 'zigguratlaw06.IntegerRing'. -/
def integerRingUptoCard : Claim7 := { stood := { row := integerRingUptoRow, standIns := [], harness := (true, "d0863e36c712698abca4858ab1018b7ebe61bb389f3693deabf44544fa77fc5e"), looks := false }, kinds := [], alts := [], laidByText := true, laidKinds := [.data, .wider, .pinned], laidTests := true, laidLooks := .later }
def IntegerRingUptoCardSaid : Prop := Claim7.holds Tryz.pinned (.plain (OpenSpec.upto integerRingSpec)) integerRingUptoCard

/-- THE SECOND FORM's CARD OF 'zigguratlaw06.IntegerOrder'. -/
def integerOrderUptoCard : Claim7 := { stood := { row := integerOrderUptoRow, standIns := [], harness := (true, "d0863e36c712698abca4858ab1018b7ebe61bb389f3693deabf44544fa77fc5e"), looks := false }, kinds := [], alts := [], laidByText := true, laidKinds := [.data, .wider, .pinned], laidTests := true, laidLooks := .later }
def IntegerOrderUptoCardSaid : Prop := Claim7.holds Tryz.pinned (.plain (OpenSpec.upto integerOrderSpec)) integerOrderUptoCard

/-- THE SECOND FORM's CARD OF 'zigguratlaw06.IntegerQuotient'. -/
def integerQuotientUptoCard : Claim7 := { stood := { row := integerQuotientUptoRow, standIns := [], harness := (true, "d0863e36c712698abca4858ab1018b7ebe61bb389f3693deabf44544fa77fc5e"), looks := false }, kinds := [], alts := [], laidByText := true, laidKinds := [.data, .wider, .pinned], laidTests := true, laidLooks := .later }
def IntegerQuotientUptoCardSaid : Prop := Claim7.holds Tryz.pinned (.plain (OpenSpec.upto integerQuotientSpec)) integerQuotientUptoCard

/-- THE SECOND FORM's CARD OF 'zigguratlaw06.IntegerShifts'. -/
def integerShiftsUptoCard : Claim7 := { stood := { row := integerShiftsUptoRow, standIns := [], harness := (true, "d0863e36c712698abca4858ab1018b7ebe61bb389f3693deabf44544fa77fc5e"), looks := false }, kinds := [], alts := [], laidByText := true, laidKinds := [.data, .wider, .pinned], laidTests := true, laidLooks := .later }
def IntegerShiftsUptoCardSaid : Prop := Claim7.holds Tryz.pinned (.plain (OpenSpec.upto integerShiftsSpec)) integerShiftsUptoCard

/-- THE SECOND FORM's CARD OF 'zigguratlaw06.IntegerPowers'. -/
def integerPowersUptoCard : Claim7 := { stood := { row := integerPowersUptoRow, standIns := [], harness := (true, "d0863e36c712698abca4858ab1018b7ebe61bb389f3693deabf44544fa77fc5e"), looks := false }, kinds := [], alts := [], laidByText := true, laidKinds := [.data, .wider, .pinned], laidTests := true, laidLooks := .later }
def IntegerPowersUptoCardSaid : Prop := Claim7.holds Tryz.pinned (.plain (OpenSpec.upto integerPowersSpec)) integerPowersUptoCard

/-- THE SECOND FORM's CARD OF 'zigguratlaw06.IntegerTexts'. -/
def integerTextsUptoCard : Claim7 := { stood := { row := integerTextsUptoRow, standIns := [], harness := (true, "d0863e36c712698abca4858ab1018b7ebe61bb389f3693deabf44544fa77fc5e"), looks := false }, kinds := [], alts := [], laidByText := true, laidKinds := [.data, .wider, .pinned], laidTests := true, laidLooks := .later }
def IntegerTextsUptoCardSaid : Prop := Claim7.holds Tryz.pinned (.plain (OpenSpec.upto integerTextsSpec)) integerTextsUptoCard

/-- THE SECOND FORM's CARD OF 'zigguratlaw06.IntegerRests'. -/
def integerRestsUptoCard : Claim7 := { stood := { row := integerRestsUptoRow, standIns := [], harness := (true, "d0863e36c712698abca4858ab1018b7ebe61bb389f3693deabf44544fa77fc5e"), looks := false }, kinds := [], alts := [], laidByText := true, laidKinds := [.data, .wider, .pinned], laidTests := true, laidLooks := .later }
def IntegerRestsUptoCardSaid : Prop := Claim7.holds Tryz.pinned (.plain (OpenSpec.upto integerRestsSpec)) integerRestsUptoCard
end Rows
end Go.Proofs.YtfkcdmbiihkiiaaGreatDoor
