/-
  DERIVED. GIVEN WITH THE SEED: THE CARDS: each row of YtnilonnkcbkdmaaGreatDoorRows.lean that lists a variable, with what it lists TIED to the program's text (the seventh form; the later family's looks); each row that meets fmt, with fmt's text TOLD by the authors' own Lean function (tested against real Go, not proved from fmt's source: count such statements apart). THE CARD IS WHAT COUNTS. Prove the row's statement (the work); the ties are given (YtnilonnkcbkdmaaGreatDoorTie.lean); close each card by the builder's one call (the guide's Derived/Test/ToyasCard.lean, 'card_holds'). Laid BY PROGRAM, IN A SANDBOX (cutbox-door.mjs). By AI agents, Wed Nov 11 2026. No macro, syntax, notation, axiom, sorry.
-/
import Derived.Test.YtnilonnkcbkdmaaGreatDoorRows
import GoSem.ClaimSeven
namespace Go.Proofs.YtnilonnkcbkdmaaGreatDoor
namespace Rows

/-- THE TIED CARD OF 'zigguratlaw07.GcdTells'. -/
def gcdTellsCard : Claim7 := { stood := { row := gcdTellsRow, standIns := [], harness := (true, "387d82aa37e17fa1cbf0a5154a74ac88864bc97e3ad6ab2b797a4aeaccdca0a9"), looks := false }, kinds := [], alts := [], laidByText := true, laidKinds := [.wider], laidTests := true, laidLooks := .later }
def GcdTellsCardSaid : Prop := Claim7.holds Tryz.pinned (.plain (OpenSpec.ofChange gcdTellsSpec)) gcdTellsCard

/-- THE TIED CARD OF 'zigguratlaw07.GcdModulo'. -/
def gcdModuloCard : Claim7 := { stood := { row := gcdModuloRow, standIns := [], harness := (true, "387d82aa37e17fa1cbf0a5154a74ac88864bc97e3ad6ab2b797a4aeaccdca0a9"), looks := false }, kinds := [], alts := [], laidByText := true, laidKinds := [.wider], laidTests := true, laidLooks := .later }
def GcdModuloCardSaid : Prop := Claim7.holds Tryz.pinned (.plain (OpenSpec.ofChange gcdModuloSpec)) gcdModuloCard

/-- THE TIED CARD OF 'zigguratlaw07.GcdGreatest'. -/
def gcdGreatestCard : Claim7 := { stood := { row := gcdGreatestRow, standIns := [], harness := (true, "387d82aa37e17fa1cbf0a5154a74ac88864bc97e3ad6ab2b797a4aeaccdca0a9"), looks := false }, kinds := [], alts := [], laidByText := true, laidKinds := [.wider], laidTests := true, laidLooks := .later }
def GcdGreatestCardSaid : Prop := Claim7.holds Tryz.pinned (.plain (OpenSpec.ofChange gcdGreatestSpec)) gcdGreatestCard

/-- THE TIED CARD OF 'zigguratlaw07.GcdCofactors'. -/
def gcdCofactorsCard : Claim7 := { stood := { row := gcdCofactorsRow, standIns := [], harness := (true, "387d82aa37e17fa1cbf0a5154a74ac88864bc97e3ad6ab2b797a4aeaccdca0a9"), looks := false }, kinds := [], alts := [], laidByText := true, laidKinds := [.wider], laidTests := true, laidLooks := .later }
def GcdCofactorsCardSaid : Prop := Claim7.holds Tryz.pinned (.plain (OpenSpec.ofChange gcdCofactorsSpec)) gcdCofactorsCard

/-- THE TIED CARD OF 'zigguratlaw07.GcdQuots'. -/
def gcdQuotsCard : Claim7 := { stood := { row := gcdQuotsRow, standIns := [], harness := (true, "387d82aa37e17fa1cbf0a5154a74ac88864bc97e3ad6ab2b797a4aeaccdca0a9"), looks := false }, kinds := [], alts := [], laidByText := true, laidKinds := [.wider], laidTests := true, laidLooks := .later }
def GcdQuotsCardSaid : Prop := Claim7.holds Tryz.pinned (.plain (OpenSpec.ofChange gcdQuotsSpec)) gcdQuotsCard

/-- THE TIED CARD OF 'zigguratlaw07.GcdInverse'. -/
def gcdInverseCard : Claim7 := { stood := { row := gcdInverseRow, standIns := [], harness := (true, "387d82aa37e17fa1cbf0a5154a74ac88864bc97e3ad6ab2b797a4aeaccdca0a9"), looks := false }, kinds := [], alts := [], laidByText := true, laidKinds := [.wider], laidTests := true, laidLooks := .later }
def GcdInverseCardSaid : Prop := Claim7.holds Tryz.pinned (.plain (OpenSpec.ofChange gcdInverseSpec)) gcdInverseCard

/-- THE TIED CARD OF 'zigguratlaw07.GcdPowers'. -/
def gcdPowersCard : Claim7 := { stood := { row := gcdPowersRow, standIns := [], harness := (true, "387d82aa37e17fa1cbf0a5154a74ac88864bc97e3ad6ab2b797a4aeaccdca0a9"), looks := false }, kinds := [], alts := [], laidByText := true, laidKinds := [.wider], laidTests := true, laidLooks := .later }
def GcdPowersCardSaid : Prop := Claim7.holds Tryz.pinned (.plain (OpenSpec.ofChange gcdPowersSpec)) gcdPowersCard

/-- THE TIED CARD OF 'zigguratlaw07.GcdFermat'. -/
def gcdFermatCard : Claim7 := { stood := { row := gcdFermatRow, standIns := [], harness := (true, "387d82aa37e17fa1cbf0a5154a74ac88864bc97e3ad6ab2b797a4aeaccdca0a9"), looks := false }, kinds := [], alts := [], laidByText := true, laidKinds := [.wider], laidTests := true, laidLooks := .later }
def GcdFermatCardSaid : Prop := Claim7.holds Tryz.pinned (.plain (OpenSpec.ofChange gcdFermatSpec)) gcdFermatCard

/-- THE TIED CARD OF 'zigguratlaw07.GcdApart'. -/
def gcdApartCard : Claim7 := { stood := { row := gcdApartRow, standIns := [], harness := (true, "387d82aa37e17fa1cbf0a5154a74ac88864bc97e3ad6ab2b797a4aeaccdca0a9"), looks := false }, kinds := [], alts := [], laidByText := true, laidKinds := [.wider], laidTests := true, laidLooks := .later }
def GcdApartCardSaid : Prop := Claim7.holds Tryz.pinned (.plain (OpenSpec.ofChange gcdApartSpec)) gcdApartCard

/-- THE SECOND FORM's CARD OF 'zigguratlaw07.GcdTells'. -/
def gcdTellsUptoCard : Claim7 := { stood := { row := gcdTellsUptoRow, standIns := [], harness := (true, "387d82aa37e17fa1cbf0a5154a74ac88864bc97e3ad6ab2b797a4aeaccdca0a9"), looks := false }, kinds := [], alts := [], laidByText := true, laidKinds := [.wider], laidTests := true, laidLooks := .later }
def GcdTellsUptoCardSaid : Prop := Claim7.holds Tryz.pinned (.plain (OpenSpec.upto gcdTellsSpec)) gcdTellsUptoCard

/-- THE SECOND FORM's CARD OF 'zigguratlaw07.GcdModulo'. -/
def gcdModuloUptoCard : Claim7 := { stood := { row := gcdModuloUptoRow, standIns := [], harness := (true, "387d82aa37e17fa1cbf0a5154a74ac88864bc97e3ad6ab2b797a4aeaccdca0a9"), looks := false }, kinds := [], alts := [], laidByText := true, laidKinds := [.wider], laidTests := true, laidLooks := .later }
def GcdModuloUptoCardSaid : Prop := Claim7.holds Tryz.pinned (.plain (OpenSpec.upto gcdModuloSpec)) gcdModuloUptoCard

/-- THE SECOND FORM's CARD OF 'zigguratlaw07.GcdGreatest'. -/
def gcdGreatestUptoCard : Claim7 := { stood := { row := gcdGreatestUptoRow, standIns := [], harness := (true, "387d82aa37e17fa1cbf0a5154a74ac88864bc97e3ad6ab2b797a4aeaccdca0a9"), looks := false }, kinds := [], alts := [], laidByText := true, laidKinds := [.wider], laidTests := true, laidLooks := .later }
def GcdGreatestUptoCardSaid : Prop := Claim7.holds Tryz.pinned (.plain (OpenSpec.upto gcdGreatestSpec)) gcdGreatestUptoCard

/-- THE SECOND FORM's CARD OF 'zigguratlaw07.GcdCofactors'. -/
def gcdCofactorsUptoCard : Claim7 := { stood := { row := gcdCofactorsUptoRow, standIns := [], harness := (true, "387d82aa37e17fa1cbf0a5154a74ac88864bc97e3ad6ab2b797a4aeaccdca0a9"), looks := false }, kinds := [], alts := [], laidByText := true, laidKinds := [.wider], laidTests := true, laidLooks := .later }
def GcdCofactorsUptoCardSaid : Prop := Claim7.holds Tryz.pinned (.plain (OpenSpec.upto gcdCofactorsSpec)) gcdCofactorsUptoCard

/-- THE SECOND FORM's CARD OF 'zigguratlaw07.GcdQuots'. -/
def gcdQuotsUptoCard : Claim7 := { stood := { row := gcdQuotsUptoRow, standIns := [], harness := (true, "387d82aa37e17fa1cbf0a5154a74ac88864bc97e3ad6ab2b797a4aeaccdca0a9"), looks := false }, kinds := [], alts := [], laidByText := true, laidKinds := [.wider], laidTests := true, laidLooks := .later }
def GcdQuotsUptoCardSaid : Prop := Claim7.holds Tryz.pinned (.plain (OpenSpec.upto gcdQuotsSpec)) gcdQuotsUptoCard

/-- THE SECOND FORM's CARD OF 'zigguratlaw07.GcdInverse'. -/
def gcdInverseUptoCard : Claim7 := { stood := { row := gcdInverseUptoRow, standIns := [], harness := (true, "387d82aa37e17fa1cbf0a5154a74ac88864bc97e3ad6ab2b797a4aeaccdca0a9"), looks := false }, kinds := [], alts := [], laidByText := true, laidKinds := [.wider], laidTests := true, laidLooks := .later }
def GcdInverseUptoCardSaid : Prop := Claim7.holds Tryz.pinned (.plain (OpenSpec.upto gcdInverseSpec)) gcdInverseUptoCard

/-- THE SECOND FORM's CARD OF 'zigguratlaw07.GcdPowers'. -/
def gcdPowersUptoCard : Claim7 := { stood := { row := gcdPowersUptoRow, standIns := [], harness := (true, "387d82aa37e17fa1cbf0a5154a74ac88864bc97e3ad6ab2b797a4aeaccdca0a9"), looks := false }, kinds := [], alts := [], laidByText := true, laidKinds := [.wider], laidTests := true, laidLooks := .later }
def GcdPowersUptoCardSaid : Prop := Claim7.holds Tryz.pinned (.plain (OpenSpec.upto gcdPowersSpec)) gcdPowersUptoCard

/-- THE SECOND FORM's CARD OF 'zigguratlaw07.GcdFermat'. -/
def gcdFermatUptoCard : Claim7 := { stood := { row := gcdFermatUptoRow, standIns := [], harness := (true, "387d82aa37e17fa1cbf0a5154a74ac88864bc97e3ad6ab2b797a4aeaccdca0a9"), looks := false }, kinds := [], alts := [], laidByText := true, laidKinds := [.wider], laidTests := true, laidLooks := .later }
def GcdFermatUptoCardSaid : Prop := Claim7.holds Tryz.pinned (.plain (OpenSpec.upto gcdFermatSpec)) gcdFermatUptoCard

/-- THE SECOND FORM's CARD OF 'zigguratlaw07.GcdApart'. -/
def gcdApartUptoCard : Claim7 := { stood := { row := gcdApartUptoRow, standIns := [], harness := (true, "387d82aa37e17fa1cbf0a5154a74ac88864bc97e3ad6ab2b797a4aeaccdca0a9"), looks := false }, kinds := [], alts := [], laidByText := true, laidKinds := [.wider], laidTests := true, laidLooks := .later }
def GcdApartUptoCardSaid : Prop := Claim7.holds Tryz.pinned (.plain (OpenSpec.upto gcdApartSpec)) gcdApartUptoCard
end Rows
end Go.Proofs.YtnilonnkcbkdmaaGreatDoor
