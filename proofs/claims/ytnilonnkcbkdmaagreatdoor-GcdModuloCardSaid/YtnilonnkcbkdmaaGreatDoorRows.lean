/-
  NARROWER THAN 'FOR EVERY INPUT', by the rows' own cells (each row's printed sentence says how): GcdTells: laid · GcdModulo: laid · GcdGreatest: laid · GcdCofactors: laid · GcdQuots: laid · GcdInverse: laid · GcdPowers: laid · GcdFermat: laid · GcdApart: laid.
  DERIVED. THE GIVEN ROWS OF THIS SEAT. 9 by the template 'for every input the law returns true; each argument reads behind the call as it read before'; 0 by the template 'total and deterministic' (their statements: YtnilonnkcbkdmaaGreatDoorTotals.lean).
  GIVEN WITH THE SEED: the statements are not yours to turn. If you find one false, say at which input.
  Laid BY PROGRAM, IN A SANDBOX (cutbox-rows.mjs): the forced cells as the released guide's own fill.sh prints them over the translation 06307f16d6a8f914… (all of the seat's roots in one cut). By AI agents, Wed Nov 11 2026. No macro, syntax, notation, axiom, sorry.
-/
import Derived.Test.YtnilonnkcbkdmaaGreatDoorChecked
import GoSem.Claim
import GoSem.ClaimJoined
import GoSem.ClaimMapViews
import Derived.JoinedTies
import Derived.KernelRfl
namespace Go.Proofs.YtnilonnkcbkdmaaGreatDoor
/- THE CELL 'sum', in the pinned program and in every row, IS THE sha256 OF THE DUMP (.gsa) THAT YtnilonnkcbkdmaaGreatDoorProg.lean LOADS. Nothing in Lean hashes anything: it is a label: what it is worth is what the hold of that sum in a sandbox is worth. -/
noncomputable def Tryz.pinned : Pinned := { name := "ytnilonnkcbkdmaagreatdoor", sum := "06307f16d6a8f914fd1b607860ad7ed0dd871debefe1d6993b56b7778324c14d", checked := Tryz.checked }
namespace Rows
def none {H : Type} : Left H := { results := [], args := [] }

/- WHAT THE LISTED PACKAGE-LEVEL VARIABLES READ AS WHEN THE CALL BEGINS. Each datum BY PROGRAM (the guide's laid-datum.mjs) off the statement by which the dump's own 'gosem.cut.vars' lays the variable. In a bare row this is a premise. The card (YtnilonnkcbkdmaaGreatDoorCards.lean) ties it to the program's text. -/
def laid_ziggurat_ntt_fields {H : Type} : DataW H := .agg [.agg [.lit (.int .u32 998244353), .lit (.int .u32 3), .lit (.int .u32 998244351), .lit (.int .u32 932051910), .lit (.int .u32 0)], .agg [.lit (.int .u32 469762049), .lit (.int .u32 3), .lit (.int .u32 469762047), .lit (.int .u32 460175152), .lit (.int .u32 305718167)], .agg [.lit (.int .u32 167772161), .lit (.int .u32 3), .lit (.int .u32 167772159), .lit (.int .u32 40265974), .lit (.int .u32 115614034)]]

/-- 'zigguratlaw07.GcdTells': WHATEVER THE INPUT: true; the input reads as it did. -/
def gcdTellsSpec : ChangeSpec := { name := "gcdTells", fn := fun _ => fun
  | [d1, d2] => { results := [.lit (.bool true)], args := [d1, d2] }
  | _ => none }
def gcdTellsRow : OpenClaim := { program := "ytnilonnkcbkdmaagreatdoor", sum := "06307f16d6a8f914fd1b607860ad7ed0dd871debefe1d6993b56b7778324c14d", func := "ziggurat/zigguratlaw07.GcdTells", spec := "gcdTells", inPlace := ["math/bits.Add64", "math/bits.Sub64"], unfollowed := true, recurses := true, named := ["math/bits.divideError", "math/bits.overflowError", "ziggurat/ntt.fields"], apart := false, laid := [("ziggurat/ntt.fields", laid_ziggurat_ntt_fields)] }
def GcdTellsSaid : Prop := gcdTellsRow.holds Tryz.pinned (OpenSpec.ofChange gcdTellsSpec)

/-- ITS FALSE NEIGHBOUR: 'it returns false'. Refute it at one input. -/
def gcdTellsWrong : ChangeSpec := { name := "gcdTells", fn := fun _ => fun
  | [d1, d2] => { results := [.lit (.bool false)], args := [d1, d2] }
  | _ => none }
def GcdTellsWrongFalsely : Prop := gcdTellsRow.holds Tryz.pinned (OpenSpec.ofChange gcdTellsWrong)

/-- 'zigguratlaw07.GcdModulo': WHATEVER THE INPUT: true; the input reads as it did. -/
def gcdModuloSpec : ChangeSpec := { name := "gcdModulo", fn := fun _ => fun
  | [d1, d2, d3] => { results := [.lit (.bool true)], args := [d1, d2, d3] }
  | _ => none }
def gcdModuloRow : OpenClaim := { program := "ytnilonnkcbkdmaagreatdoor", sum := "06307f16d6a8f914fd1b607860ad7ed0dd871debefe1d6993b56b7778324c14d", func := "ziggurat/zigguratlaw07.GcdModulo", spec := "gcdModulo", inPlace := ["math/bits.Add64", "math/bits.Sub64"], unfollowed := true, recurses := true, named := ["math/bits.divideError", "math/bits.overflowError", "ziggurat/ntt.fields"], apart := false, laid := [("ziggurat/ntt.fields", laid_ziggurat_ntt_fields)] }
def GcdModuloSaid : Prop := gcdModuloRow.holds Tryz.pinned (OpenSpec.ofChange gcdModuloSpec)

/-- ITS FALSE NEIGHBOUR: 'it returns false'. Refute it at one input. -/
def gcdModuloWrong : ChangeSpec := { name := "gcdModulo", fn := fun _ => fun
  | [d1, d2, d3] => { results := [.lit (.bool false)], args := [d1, d2, d3] }
  | _ => none }
def GcdModuloWrongFalsely : Prop := gcdModuloRow.holds Tryz.pinned (OpenSpec.ofChange gcdModuloWrong)

/-- 'zigguratlaw07.GcdGreatest': WHATEVER THE INPUT: true; the input reads as it did. -/
def gcdGreatestSpec : ChangeSpec := { name := "gcdGreatest", fn := fun _ => fun
  | [d1, d2, d3] => { results := [.lit (.bool true)], args := [d1, d2, d3] }
  | _ => none }
def gcdGreatestRow : OpenClaim := { program := "ytnilonnkcbkdmaagreatdoor", sum := "06307f16d6a8f914fd1b607860ad7ed0dd871debefe1d6993b56b7778324c14d", func := "ziggurat/zigguratlaw07.GcdGreatest", spec := "gcdGreatest", inPlace := ["math/bits.Add64", "math/bits.Sub64"], unfollowed := true, recurses := true, named := ["math/bits.divideError", "math/bits.overflowError", "ziggurat/ntt.fields"], apart := false, laid := [("ziggurat/ntt.fields", laid_ziggurat_ntt_fields)] }
def GcdGreatestSaid : Prop := gcdGreatestRow.holds Tryz.pinned (OpenSpec.ofChange gcdGreatestSpec)

/-- ITS FALSE NEIGHBOUR: 'it returns false'. Refute it at one input. -/
def gcdGreatestWrong : ChangeSpec := { name := "gcdGreatest", fn := fun _ => fun
  | [d1, d2, d3] => { results := [.lit (.bool false)], args := [d1, d2, d3] }
  | _ => none }
def GcdGreatestWrongFalsely : Prop := gcdGreatestRow.holds Tryz.pinned (OpenSpec.ofChange gcdGreatestWrong)

/-- 'zigguratlaw07.GcdCofactors': WHATEVER THE INPUT: true; the input reads as it did. -/
def gcdCofactorsSpec : ChangeSpec := { name := "gcdCofactors", fn := fun _ => fun
  | [d1, d2] => { results := [.lit (.bool true)], args := [d1, d2] }
  | _ => none }
def gcdCofactorsRow : OpenClaim := { program := "ytnilonnkcbkdmaagreatdoor", sum := "06307f16d6a8f914fd1b607860ad7ed0dd871debefe1d6993b56b7778324c14d", func := "ziggurat/zigguratlaw07.GcdCofactors", spec := "gcdCofactors", inPlace := ["math/bits.Add64", "math/bits.Sub64"], unfollowed := true, recurses := true, named := ["math/bits.divideError", "math/bits.overflowError", "ziggurat/ntt.fields"], apart := false, laid := [("ziggurat/ntt.fields", laid_ziggurat_ntt_fields)] }
def GcdCofactorsSaid : Prop := gcdCofactorsRow.holds Tryz.pinned (OpenSpec.ofChange gcdCofactorsSpec)

/-- ITS FALSE NEIGHBOUR: 'it returns false'. Refute it at one input. -/
def gcdCofactorsWrong : ChangeSpec := { name := "gcdCofactors", fn := fun _ => fun
  | [d1, d2] => { results := [.lit (.bool false)], args := [d1, d2] }
  | _ => none }
def GcdCofactorsWrongFalsely : Prop := gcdCofactorsRow.holds Tryz.pinned (OpenSpec.ofChange gcdCofactorsWrong)

/-- 'zigguratlaw07.GcdQuots': WHATEVER THE INPUT: true; the input reads as it did. -/
def gcdQuotsSpec : ChangeSpec := { name := "gcdQuots", fn := fun _ => fun
  | [d1, d2] => { results := [.lit (.bool true)], args := [d1, d2] }
  | _ => none }
def gcdQuotsRow : OpenClaim := { program := "ytnilonnkcbkdmaagreatdoor", sum := "06307f16d6a8f914fd1b607860ad7ed0dd871debefe1d6993b56b7778324c14d", func := "ziggurat/zigguratlaw07.GcdQuots", spec := "gcdQuots", inPlace := ["math/bits.Add64", "math/bits.Sub64"], unfollowed := true, recurses := true, named := ["math/bits.divideError", "math/bits.overflowError", "ziggurat/ntt.fields"], apart := false, laid := [("ziggurat/ntt.fields", laid_ziggurat_ntt_fields)] }
def GcdQuotsSaid : Prop := gcdQuotsRow.holds Tryz.pinned (OpenSpec.ofChange gcdQuotsSpec)

/-- ITS FALSE NEIGHBOUR: 'it returns false'. Refute it at one input. -/
def gcdQuotsWrong : ChangeSpec := { name := "gcdQuots", fn := fun _ => fun
  | [d1, d2] => { results := [.lit (.bool false)], args := [d1, d2] }
  | _ => none }
def GcdQuotsWrongFalsely : Prop := gcdQuotsRow.holds Tryz.pinned (OpenSpec.ofChange gcdQuotsWrong)

/-- 'zigguratlaw07.GcdInverse': WHATEVER THE INPUT: true; the input reads as it did. -/
def gcdInverseSpec : ChangeSpec := { name := "gcdInverse", fn := fun _ => fun
  | [d1, d2] => { results := [.lit (.bool true)], args := [d1, d2] }
  | _ => none }
def gcdInverseRow : OpenClaim := { program := "ytnilonnkcbkdmaagreatdoor", sum := "06307f16d6a8f914fd1b607860ad7ed0dd871debefe1d6993b56b7778324c14d", func := "ziggurat/zigguratlaw07.GcdInverse", spec := "gcdInverse", inPlace := ["math/bits.Add64", "math/bits.Sub64"], unfollowed := true, recurses := true, named := ["math/bits.divideError", "math/bits.overflowError", "ziggurat/ntt.fields"], apart := false, laid := [("ziggurat/ntt.fields", laid_ziggurat_ntt_fields)] }
def GcdInverseSaid : Prop := gcdInverseRow.holds Tryz.pinned (OpenSpec.ofChange gcdInverseSpec)

/-- ITS FALSE NEIGHBOUR: 'it returns false'. Refute it at one input. -/
def gcdInverseWrong : ChangeSpec := { name := "gcdInverse", fn := fun _ => fun
  | [d1, d2] => { results := [.lit (.bool false)], args := [d1, d2] }
  | _ => none }
def GcdInverseWrongFalsely : Prop := gcdInverseRow.holds Tryz.pinned (OpenSpec.ofChange gcdInverseWrong)

/-- 'zigguratlaw07.GcdPowers': WHATEVER THE INPUT: true; the input reads as it did. -/
def gcdPowersSpec : ChangeSpec := { name := "gcdPowers", fn := fun _ => fun
  | [d1, d2, d3] => { results := [.lit (.bool true)], args := [d1, d2, d3] }
  | _ => none }
def gcdPowersRow : OpenClaim := { program := "ytnilonnkcbkdmaagreatdoor", sum := "06307f16d6a8f914fd1b607860ad7ed0dd871debefe1d6993b56b7778324c14d", func := "ziggurat/zigguratlaw07.GcdPowers", spec := "gcdPowers", inPlace := ["math/bits.Add64", "math/bits.Sub64"], unfollowed := true, recurses := true, named := ["math/bits.divideError", "math/bits.overflowError", "ziggurat/ntt.fields"], apart := false, laid := [("ziggurat/ntt.fields", laid_ziggurat_ntt_fields)] }
def GcdPowersSaid : Prop := gcdPowersRow.holds Tryz.pinned (OpenSpec.ofChange gcdPowersSpec)

/-- ITS FALSE NEIGHBOUR: 'it returns false'. Refute it at one input. -/
def gcdPowersWrong : ChangeSpec := { name := "gcdPowers", fn := fun _ => fun
  | [d1, d2, d3] => { results := [.lit (.bool false)], args := [d1, d2, d3] }
  | _ => none }
def GcdPowersWrongFalsely : Prop := gcdPowersRow.holds Tryz.pinned (OpenSpec.ofChange gcdPowersWrong)

/-- 'zigguratlaw07.GcdFermat': WHATEVER THE INPUT: true; the input reads as it did. -/
def gcdFermatSpec : ChangeSpec := { name := "gcdFermat", fn := fun _ => fun
  | [d1, d2] => { results := [.lit (.bool true)], args := [d1, d2] }
  | _ => none }
def gcdFermatRow : OpenClaim := { program := "ytnilonnkcbkdmaagreatdoor", sum := "06307f16d6a8f914fd1b607860ad7ed0dd871debefe1d6993b56b7778324c14d", func := "ziggurat/zigguratlaw07.GcdFermat", spec := "gcdFermat", inPlace := ["math/bits.Add64", "math/bits.Sub64"], unfollowed := true, recurses := true, named := ["math/bits.divideError", "math/bits.overflowError", "ziggurat/ntt.fields"], apart := false, laid := [("ziggurat/ntt.fields", laid_ziggurat_ntt_fields)] }
def GcdFermatSaid : Prop := gcdFermatRow.holds Tryz.pinned (OpenSpec.ofChange gcdFermatSpec)

/-- ITS FALSE NEIGHBOUR: 'it returns false'. Refute it at one input. -/
def gcdFermatWrong : ChangeSpec := { name := "gcdFermat", fn := fun _ => fun
  | [d1, d2] => { results := [.lit (.bool false)], args := [d1, d2] }
  | _ => none }
def GcdFermatWrongFalsely : Prop := gcdFermatRow.holds Tryz.pinned (OpenSpec.ofChange gcdFermatWrong)

/-- 'zigguratlaw07.GcdApart': WHATEVER THE INPUT: true; the input reads as it did. -/
def gcdApartSpec : ChangeSpec := { name := "gcdApart", fn := fun _ => fun
  | [d1, d2] => { results := [.lit (.bool true)], args := [d1, d2] }
  | _ => none }
def gcdApartRow : OpenClaim := { program := "ytnilonnkcbkdmaagreatdoor", sum := "06307f16d6a8f914fd1b607860ad7ed0dd871debefe1d6993b56b7778324c14d", func := "ziggurat/zigguratlaw07.GcdApart", spec := "gcdApart", inPlace := ["math/bits.Add64", "math/bits.Sub64"], unfollowed := true, recurses := true, named := ["math/bits.divideError", "math/bits.overflowError", "ziggurat/ntt.fields"], apart := false, laid := [("ziggurat/ntt.fields", laid_ziggurat_ntt_fields)] }
def GcdApartSaid : Prop := gcdApartRow.holds Tryz.pinned (OpenSpec.ofChange gcdApartSpec)

/-- ITS FALSE NEIGHBOUR: 'it returns false'. Refute it at one input. -/
def gcdApartWrong : ChangeSpec := { name := "gcdApart", fn := fun _ => fun
  | [d1, d2] => { results := [.lit (.bool false)], args := [d1, d2] }
  | _ => none }
def GcdApartWrongFalsely : Prop := gcdApartRow.holds Tryz.pinned (OpenSpec.ofChange gcdApartWrong)

/- THE SECOND FORM. 'bulk': how many values and letters a reading holds, each counted each time it is reached (what is shared counts as often as it is met; a slice's spare places count too). A statement '..UptoSaid' is the law's where the arguments, and the package variables that the reading takes, are together of bulk at most 1048576: NARROWER than '..Said'. Prove '..Said' where nothing that the law and all that it calls make is longer than what came in: it says more and counts as full. Else prove '..UptoSaid'. A law counts once. -/
mutual
def uptoBulk {H : Type} : DataW H → Nat
  | .lit (.string bytes) => bytes.length + 1
  | .lit _ => 1
  | .nil => 1
  | .ptr d => uptoBulk d + 1
  | .slice elems spare => uptoBulkAll elems + uptoBulkAll spare + 1
  | .agg parts => uptoBulkAll parts + 1
  | .iface _ d => uptoBulk d + 1
  | .map entries => uptoBulkEntries entries + 1
  | .held _ => 1
def uptoBulkAll {H : Type} : List (DataW H) → Nat
  | [] => 0
  | d :: r => uptoBulk d + uptoBulkAll r
def uptoBulkEntries {H : Type} : List (Lit × DataW H) → Nat
  | [] => 0
  | x :: r => uptoBulkEntry x + uptoBulkEntries r
def uptoBulkEntry {H : Type} : Lit × DataW H → Nat
  | (.string bytes, d) => bytes.length + uptoBulk d + 1
  | (_, d) => uptoBulk d + 1
 end
def uptoSmall : (H : Type) → List (DataW H) → Bool := fun _ ds => decide (uptoBulkAll ds ≤ 1048576)
def OpenSpec.upto (s : _root_.Go.ChangeSpec) : _root_.Go.OpenSpec := { _root_.Go.OpenSpec.ofChange s with cond := some uptoSmall }

/-- 'zigguratlaw07.GcdTells', WHERE WHAT IT READS IS OF BULK AT MOST 1048576: true; the input reads as it did. -/
def gcdTellsUptoRow : OpenClaim := { program := "ytnilonnkcbkdmaagreatdoor", sum := "06307f16d6a8f914fd1b607860ad7ed0dd871debefe1d6993b56b7778324c14d", func := "ziggurat/zigguratlaw07.GcdTells", spec := "gcdTells", inPlace := ["math/bits.Add64", "math/bits.Sub64"], unfollowed := true, recurses := true, named := ["math/bits.divideError", "math/bits.overflowError", "ziggurat/ntt.fields"], apart := false, laid := [("ziggurat/ntt.fields", laid_ziggurat_ntt_fields)], narrowed := true }
def GcdTellsUptoSaid : Prop := gcdTellsUptoRow.holds Tryz.pinned (OpenSpec.upto gcdTellsSpec)

/-- 'zigguratlaw07.GcdModulo', WHERE WHAT IT READS IS OF BULK AT MOST 1048576: true; the input reads as it did. -/
def gcdModuloUptoRow : OpenClaim := { program := "ytnilonnkcbkdmaagreatdoor", sum := "06307f16d6a8f914fd1b607860ad7ed0dd871debefe1d6993b56b7778324c14d", func := "ziggurat/zigguratlaw07.GcdModulo", spec := "gcdModulo", inPlace := ["math/bits.Add64", "math/bits.Sub64"], unfollowed := true, recurses := true, named := ["math/bits.divideError", "math/bits.overflowError", "ziggurat/ntt.fields"], apart := false, laid := [("ziggurat/ntt.fields", laid_ziggurat_ntt_fields)], narrowed := true }
def GcdModuloUptoSaid : Prop := gcdModuloUptoRow.holds Tryz.pinned (OpenSpec.upto gcdModuloSpec)

/-- 'zigguratlaw07.GcdGreatest', WHERE WHAT IT READS IS OF BULK AT MOST 1048576: true; the input reads as it did. -/
def gcdGreatestUptoRow : OpenClaim := { program := "ytnilonnkcbkdmaagreatdoor", sum := "06307f16d6a8f914fd1b607860ad7ed0dd871debefe1d6993b56b7778324c14d", func := "ziggurat/zigguratlaw07.GcdGreatest", spec := "gcdGreatest", inPlace := ["math/bits.Add64", "math/bits.Sub64"], unfollowed := true, recurses := true, named := ["math/bits.divideError", "math/bits.overflowError", "ziggurat/ntt.fields"], apart := false, laid := [("ziggurat/ntt.fields", laid_ziggurat_ntt_fields)], narrowed := true }
def GcdGreatestUptoSaid : Prop := gcdGreatestUptoRow.holds Tryz.pinned (OpenSpec.upto gcdGreatestSpec)

/-- 'zigguratlaw07.GcdCofactors', WHERE WHAT IT READS IS OF BULK AT MOST 1048576: true; the input reads as it did. -/
def gcdCofactorsUptoRow : OpenClaim := { program := "ytnilonnkcbkdmaagreatdoor", sum := "06307f16d6a8f914fd1b607860ad7ed0dd871debefe1d6993b56b7778324c14d", func := "ziggurat/zigguratlaw07.GcdCofactors", spec := "gcdCofactors", inPlace := ["math/bits.Add64", "math/bits.Sub64"], unfollowed := true, recurses := true, named := ["math/bits.divideError", "math/bits.overflowError", "ziggurat/ntt.fields"], apart := false, laid := [("ziggurat/ntt.fields", laid_ziggurat_ntt_fields)], narrowed := true }
def GcdCofactorsUptoSaid : Prop := gcdCofactorsUptoRow.holds Tryz.pinned (OpenSpec.upto gcdCofactorsSpec)

/-- 'zigguratlaw07.GcdQuots', WHERE WHAT IT READS IS OF BULK AT MOST 1048576: true; the input reads as it did. -/
def gcdQuotsUptoRow : OpenClaim := { program := "ytnilonnkcbkdmaagreatdoor", sum := "06307f16d6a8f914fd1b607860ad7ed0dd871debefe1d6993b56b7778324c14d", func := "ziggurat/zigguratlaw07.GcdQuots", spec := "gcdQuots", inPlace := ["math/bits.Add64", "math/bits.Sub64"], unfollowed := true, recurses := true, named := ["math/bits.divideError", "math/bits.overflowError", "ziggurat/ntt.fields"], apart := false, laid := [("ziggurat/ntt.fields", laid_ziggurat_ntt_fields)], narrowed := true }
def GcdQuotsUptoSaid : Prop := gcdQuotsUptoRow.holds Tryz.pinned (OpenSpec.upto gcdQuotsSpec)

/-- 'zigguratlaw07.GcdInverse', WHERE WHAT IT READS IS OF BULK AT MOST 1048576: true; the input reads as it did. -/
def gcdInverseUptoRow : OpenClaim := { program := "ytnilonnkcbkdmaagreatdoor", sum := "06307f16d6a8f914fd1b607860ad7ed0dd871debefe1d6993b56b7778324c14d", func := "ziggurat/zigguratlaw07.GcdInverse", spec := "gcdInverse", inPlace := ["math/bits.Add64", "math/bits.Sub64"], unfollowed := true, recurses := true, named := ["math/bits.divideError", "math/bits.overflowError", "ziggurat/ntt.fields"], apart := false, laid := [("ziggurat/ntt.fields", laid_ziggurat_ntt_fields)], narrowed := true }
def GcdInverseUptoSaid : Prop := gcdInverseUptoRow.holds Tryz.pinned (OpenSpec.upto gcdInverseSpec)

/-- 'zigguratlaw07.GcdPowers', WHERE WHAT IT READS IS OF BULK AT MOST 1048576: true; the input reads as it did. -/
def gcdPowersUptoRow : OpenClaim := { program := "ytnilonnkcbkdmaagreatdoor", sum := "06307f16d6a8f914fd1b607860ad7ed0dd871debefe1d6993b56b7778324c14d", func := "ziggurat/zigguratlaw07.GcdPowers", spec := "gcdPowers", inPlace := ["math/bits.Add64", "math/bits.Sub64"], unfollowed := true, recurses := true, named := ["math/bits.divideError", "math/bits.overflowError", "ziggurat/ntt.fields"], apart := false, laid := [("ziggurat/ntt.fields", laid_ziggurat_ntt_fields)], narrowed := true }
def GcdPowersUptoSaid : Prop := gcdPowersUptoRow.holds Tryz.pinned (OpenSpec.upto gcdPowersSpec)

/-- 'zigguratlaw07.GcdFermat', WHERE WHAT IT READS IS OF BULK AT MOST 1048576: true; the input reads as it did. -/
def gcdFermatUptoRow : OpenClaim := { program := "ytnilonnkcbkdmaagreatdoor", sum := "06307f16d6a8f914fd1b607860ad7ed0dd871debefe1d6993b56b7778324c14d", func := "ziggurat/zigguratlaw07.GcdFermat", spec := "gcdFermat", inPlace := ["math/bits.Add64", "math/bits.Sub64"], unfollowed := true, recurses := true, named := ["math/bits.divideError", "math/bits.overflowError", "ziggurat/ntt.fields"], apart := false, laid := [("ziggurat/ntt.fields", laid_ziggurat_ntt_fields)], narrowed := true }
def GcdFermatUptoSaid : Prop := gcdFermatUptoRow.holds Tryz.pinned (OpenSpec.upto gcdFermatSpec)

/-- 'zigguratlaw07.GcdApart', WHERE WHAT IT READS IS OF BULK AT MOST 1048576: true; the input reads as it did. -/
def gcdApartUptoRow : OpenClaim := { program := "ytnilonnkcbkdmaagreatdoor", sum := "06307f16d6a8f914fd1b607860ad7ed0dd871debefe1d6993b56b7778324c14d", func := "ziggurat/zigguratlaw07.GcdApart", spec := "gcdApart", inPlace := ["math/bits.Add64", "math/bits.Sub64"], unfollowed := true, recurses := true, named := ["math/bits.divideError", "math/bits.overflowError", "ziggurat/ntt.fields"], apart := false, laid := [("ziggurat/ntt.fields", laid_ziggurat_ntt_fields)], narrowed := true }
def GcdApartUptoSaid : Prop := gcdApartUptoRow.holds Tryz.pinned (OpenSpec.upto gcdApartSpec)

end Rows
end Go.Proofs.YtnilonnkcbkdmaaGreatDoor
