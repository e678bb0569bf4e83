/-
  NARROWER THAN 'FOR EVERY INPUT', by the rows' own cells (each row's printed sentence says how): TopDigitSum: laid · TopLeast: laid · TopPowers: laid · TopChinese: laid · TopBezout: laid.
  DERIVED. THE GIVEN ROWS OF THIS SEAT. 5 by the template 'for every input the law returns true; each argument reads behind the call as it read before'; 0 by the template 'total and deterministic' (their statements: YtfhcmggpojhegaaGreatDoorTotals.lean).
  GIVEN WITH THE SEED: the statements are not yours to turn. If you find one false, say at which input.
  Laid BY PROGRAM, IN A SANDBOX (cutbox-rows.mjs): the forced cells as the released guide's own fill.sh prints them over the translation 4e11be252529042c… (all of the seat's roots in one cut). By AI agents, Wed Nov 11 2026. No macro, syntax, notation, axiom, sorry.
-/
import Derived.Test.YtfhcmggpojhegaaGreatDoorChecked
import GoSem.PinnedTables
import GoSem.Claim
import GoSem.ClaimJoined
import GoSem.ClaimMapViews
import Derived.JoinedTies
import Derived.KernelRfl
namespace Go.Proofs.YtfhcmggpojhegaaGreatDoor
/- THE CELL 'sum', in the pinned program and in every row, IS THE sha256 OF THE DUMP (.gsa) THAT YtfhcmggpojhegaaGreatDoorProg.lean LOADS. Nothing in Lean hashes anything: it is a label: what it is worth is what the hold of that sum in a sandbox is worth. -/
noncomputable def Tryz.pinned : Pinned := { name := "ytfhcmggpojhegaagreatdoor", sum := "4e11be252529042c1b865e68cbd933798da71e96345810ed1558d6947d777cab", checked := Tryz.checked }
namespace Rows
def none {H : Type} : Left H := { results := [], args := [] }

/- WHAT THE LISTED PACKAGE-LEVEL VARIABLES READ AS WHEN THE CALL BEGINS. Each datum BY PROGRAM (the guide's laid-datum.mjs) off the statement by which the dump's own 'gosem.cut.vars' lays the variable. In a bare row this is a premise. The card (YtfhcmggpojhegaaGreatDoorCards.lean) ties it to the program's text. -/
def laid_unicode_utf8_acceptRanges {H : Type} : DataW H := .agg [.agg [.lit (.int .u8 128), .lit (.int .u8 191)], .agg [.lit (.int .u8 160), .lit (.int .u8 191)], .agg [.lit (.int .u8 128), .lit (.int .u8 159)], .agg [.lit (.int .u8 144), .lit (.int .u8 191)], .agg [.lit (.int .u8 128), .lit (.int .u8 143)], .agg [.lit (.int .u8 0), .lit (.int .u8 0)], .agg [.lit (.int .u8 0), .lit (.int .u8 0)], .agg [.lit (.int .u8 0), .lit (.int .u8 0)], .agg [.lit (.int .u8 0), .lit (.int .u8 0)], .agg [.lit (.int .u8 0), .lit (.int .u8 0)], .agg [.lit (.int .u8 0), .lit (.int .u8 0)], .agg [.lit (.int .u8 0), .lit (.int .u8 0)], .agg [.lit (.int .u8 0), .lit (.int .u8 0)], .agg [.lit (.int .u8 0), .lit (.int .u8 0)], .agg [.lit (.int .u8 0), .lit (.int .u8 0)], .agg [.lit (.int .u8 0), .lit (.int .u8 0)]]
def laid_ziggurat_ntt_fields {H : Type} : DataW H := .agg [.agg [.lit (.int .u32 998244353), .lit (.int .u32 3), .lit (.int .u32 998244351), .lit (.int .u32 932051910), .lit (.int .u32 0)], .agg [.lit (.int .u32 469762049), .lit (.int .u32 3), .lit (.int .u32 469762047), .lit (.int .u32 460175152), .lit (.int .u32 305718167)], .agg [.lit (.int .u32 167772161), .lit (.int .u32 3), .lit (.int .u32 167772159), .lit (.int .u32 40265974), .lit (.int .u32 115614034)]]
/-- One of Go's own tables, pinned by name: the form's constant. -/
def laid_unicode_utf8_first : DataW Unit := Go.Pinned.utf8First

/-- 'ziggurattop.TopDigitSum': WHATEVER THE INPUT: true; the input reads as it did. -/
def topDigitSumSpec : ChangeSpec := { name := "topDigitSum", fn := fun _ => fun
  | [d1, d2, d3] => { results := [.lit (.bool true)], args := [d1, d2, d3] }
  | _ => none }
def topDigitSumRow : OpenClaim := { program := "ytfhcmggpojhegaagreatdoor", sum := "4e11be252529042c1b865e68cbd933798da71e96345810ed1558d6947d777cab", func := "ziggurat/ziggurattop.TopDigitSum", spec := "topDigitSum", inPlace := ["math/bits.Add64", "math/bits.Sub64", "internal/bytealg.IndexByteString", "internal/bytealg.IndexString"], unfollowed := true, recurses := true, named := ["math/bits.divideError", "math/bits.overflowError", "ziggurat/ntt.fields", "unicode/utf8.first", "unicode/utf8.acceptRanges", "internal/bytealg.MaxLen"], apart := false, laid := [("unicode/utf8.acceptRanges", laid_unicode_utf8_acceptRanges), ("ziggurat/ntt.fields", laid_ziggurat_ntt_fields), ("unicode/utf8.first", laid_unicode_utf8_first)] }
def TopDigitSumSaid : Prop := topDigitSumRow.holds Tryz.pinned (OpenSpec.ofChange topDigitSumSpec)

/-- ITS FALSE NEIGHBOUR: 'it returns false'. Refute it at one input. -/
def topDigitSumWrong : ChangeSpec := { name := "topDigitSum", fn := fun _ => fun
  | [d1, d2, d3] => { results := [.lit (.bool false)], args := [d1, d2, d3] }
  | _ => none }
def TopDigitSumWrongFalsely : Prop := topDigitSumRow.holds Tryz.pinned (OpenSpec.ofChange topDigitSumWrong)

/-- 'ziggurattop.TopLeast': WHATEVER THE INPUT: true; the input reads as it did. -/
def topLeastSpec : ChangeSpec := { name := "topLeast", fn := fun _ => fun
  | [d] => { results := [.lit (.bool true)], args := [d] }
  | _ => none }
def topLeastRow : OpenClaim := { program := "ytfhcmggpojhegaagreatdoor", sum := "4e11be252529042c1b865e68cbd933798da71e96345810ed1558d6947d777cab", func := "ziggurat/ziggurattop.TopLeast", spec := "topLeast", inPlace := ["math/bits.Add64", "math/bits.Sub64", "internal/bytealg.IndexByteString", "internal/bytealg.IndexString"], unfollowed := true, recurses := true, named := ["math/bits.divideError", "math/bits.overflowError", "ziggurat/ntt.fields", "unicode/utf8.first", "unicode/utf8.acceptRanges", "internal/bytealg.MaxLen"], apart := false, laid := [("unicode/utf8.acceptRanges", laid_unicode_utf8_acceptRanges), ("ziggurat/ntt.fields", laid_ziggurat_ntt_fields), ("unicode/utf8.first", laid_unicode_utf8_first)] }
def TopLeastSaid : Prop := topLeastRow.holds Tryz.pinned (OpenSpec.ofChange topLeastSpec)

/-- ITS FALSE NEIGHBOUR: 'it returns false'. Refute it at one input. -/
def topLeastWrong : ChangeSpec := { name := "topLeast", fn := fun _ => fun
  | [d] => { results := [.lit (.bool false)], args := [d] }
  | _ => none }
def TopLeastWrongFalsely : Prop := topLeastRow.holds Tryz.pinned (OpenSpec.ofChange topLeastWrong)

/-- 'ziggurattop.TopPowers': WHATEVER THE INPUT: true; the input reads as it did. -/
def topPowersSpec : ChangeSpec := { name := "topPowers", fn := fun _ => fun
  | [d1, d2] => { results := [.lit (.bool true)], args := [d1, d2] }
  | _ => none }
def topPowersRow : OpenClaim := { program := "ytfhcmggpojhegaagreatdoor", sum := "4e11be252529042c1b865e68cbd933798da71e96345810ed1558d6947d777cab", func := "ziggurat/ziggurattop.TopPowers", spec := "topPowers", inPlace := ["math/bits.Add64", "math/bits.Sub64", "internal/bytealg.IndexByteString", "internal/bytealg.IndexString"], unfollowed := true, recurses := true, named := ["math/bits.divideError", "math/bits.overflowError", "ziggurat/ntt.fields", "unicode/utf8.first", "unicode/utf8.acceptRanges", "internal/bytealg.MaxLen"], apart := false, laid := [("unicode/utf8.acceptRanges", laid_unicode_utf8_acceptRanges), ("ziggurat/ntt.fields", laid_ziggurat_ntt_fields), ("unicode/utf8.first", laid_unicode_utf8_first)] }
def TopPowersSaid : Prop := topPowersRow.holds Tryz.pinned (OpenSpec.ofChange topPowersSpec)

/-- ITS FALSE NEIGHBOUR: 'it returns false'. Refute it at one input. -/
def topPowersWrong : ChangeSpec := { name := "topPowers", fn := fun _ => fun
  | [d1, d2] => { results := [.lit (.bool false)], args := [d1, d2] }
  | _ => none }
def TopPowersWrongFalsely : Prop := topPowersRow.holds Tryz.pinned (OpenSpec.ofChange topPowersWrong)

/-- 'ziggurattop.TopChinese': WHATEVER THE INPUT: true; the input reads as it did. -/
def topChineseSpec : ChangeSpec := { name := "topChinese", fn := fun _ => fun
  | [d] => { results := [.lit (.bool true)], args := [d] }
  | _ => none }
def topChineseRow : OpenClaim := { program := "ytfhcmggpojhegaagreatdoor", sum := "4e11be252529042c1b865e68cbd933798da71e96345810ed1558d6947d777cab", func := "ziggurat/ziggurattop.TopChinese", spec := "topChinese", inPlace := ["math/bits.Add64", "math/bits.Sub64", "internal/bytealg.IndexByteString", "internal/bytealg.IndexString"], unfollowed := true, recurses := true, named := ["math/bits.divideError", "math/bits.overflowError", "ziggurat/ntt.fields", "unicode/utf8.first", "unicode/utf8.acceptRanges", "internal/bytealg.MaxLen"], apart := false, laid := [("unicode/utf8.acceptRanges", laid_unicode_utf8_acceptRanges), ("ziggurat/ntt.fields", laid_ziggurat_ntt_fields), ("unicode/utf8.first", laid_unicode_utf8_first)] }
def TopChineseSaid : Prop := topChineseRow.holds Tryz.pinned (OpenSpec.ofChange topChineseSpec)

/-- ITS FALSE NEIGHBOUR: 'it returns false'. Refute it at one input. -/
def topChineseWrong : ChangeSpec := { name := "topChinese", fn := fun _ => fun
  | [d] => { results := [.lit (.bool false)], args := [d] }
  | _ => none }
def TopChineseWrongFalsely : Prop := topChineseRow.holds Tryz.pinned (OpenSpec.ofChange topChineseWrong)

/-- 'ziggurattop.TopBezout': WHATEVER THE INPUT: true; the input reads as it did. -/
def topBezoutSpec : ChangeSpec := { name := "topBezout", fn := fun _ => fun
  | [d1, d2] => { results := [.lit (.bool true)], args := [d1, d2] }
  | _ => none }
def topBezoutRow : OpenClaim := { program := "ytfhcmggpojhegaagreatdoor", sum := "4e11be252529042c1b865e68cbd933798da71e96345810ed1558d6947d777cab", func := "ziggurat/ziggurattop.TopBezout", spec := "topBezout", inPlace := ["math/bits.Add64", "math/bits.Sub64", "internal/bytealg.IndexByteString", "internal/bytealg.IndexString"], unfollowed := true, recurses := true, named := ["math/bits.divideError", "math/bits.overflowError", "ziggurat/ntt.fields", "unicode/utf8.first", "unicode/utf8.acceptRanges", "internal/bytealg.MaxLen"], apart := false, laid := [("unicode/utf8.acceptRanges", laid_unicode_utf8_acceptRanges), ("ziggurat/ntt.fields", laid_ziggurat_ntt_fields), ("unicode/utf8.first", laid_unicode_utf8_first)] }
def TopBezoutSaid : Prop := topBezoutRow.holds Tryz.pinned (OpenSpec.ofChange topBezoutSpec)

/-- ITS FALSE NEIGHBOUR: 'it returns false'. Refute it at one input. -/
def topBezoutWrong : ChangeSpec := { name := "topBezout", fn := fun _ => fun
  | [d1, d2] => { results := [.lit (.bool false)], args := [d1, d2] }
  | _ => none }
def TopBezoutWrongFalsely : Prop := topBezoutRow.holds Tryz.pinned (OpenSpec.ofChange topBezoutWrong)

/- THE SECOND FORM. 'bulk': how many values and letters a reading holds, each counted each time it is reached (what is shared counts as often as it is met; a slice's spare places count too). A statement '..UptoSaid' is the law's where the arguments, and the package variables that the reading takes, are together of bulk at most 1048576: NARROWER than '..Said'. Prove '..Said' where nothing that the law and all that it calls make is longer than what came in: it says more and counts as full. Else prove '..UptoSaid'. A law counts once. -/
mutual
def uptoBulk {H : Type} : DataW H → Nat
  | .lit (.string bytes) => bytes.length + 1
  | .lit _ => 1
  | .nil => 1
  | .ptr d => uptoBulk d + 1
  | .slice elems spare => uptoBulkAll elems + uptoBulkAll spare + 1
  | .agg parts => uptoBulkAll parts + 1
  | .iface _ d => uptoBulk d + 1
  | .map entries => uptoBulkEntries entries + 1
  | .held _ => 1
def uptoBulkAll {H : Type} : List (DataW H) → Nat
  | [] => 0
  | d :: r => uptoBulk d + uptoBulkAll r
def uptoBulkEntries {H : Type} : List (Lit × DataW H) → Nat
  | [] => 0
  | x :: r => uptoBulkEntry x + uptoBulkEntries r
def uptoBulkEntry {H : Type} : Lit × DataW H → Nat
  | (.string bytes, d) => bytes.length + uptoBulk d + 1
  | (_, d) => uptoBulk d + 1
 end
def uptoSmall : (H : Type) → List (DataW H) → Bool := fun _ ds => decide (uptoBulkAll ds ≤ 1048576)
def OpenSpec.upto (s : _root_.Go.ChangeSpec) : _root_.Go.OpenSpec := { _root_.Go.OpenSpec.ofChange s with cond := some uptoSmall }

/-- 'ziggurattop.TopDigitSum', WHERE WHAT IT READS IS OF BULK AT MOST 1048576: true; the input reads as it did. -/
def topDigitSumUptoRow : OpenClaim := { program := "ytfhcmggpojhegaagreatdoor", sum := "4e11be252529042c1b865e68cbd933798da71e96345810ed1558d6947d777cab", func := "ziggurat/ziggurattop.TopDigitSum", spec := "topDigitSum", inPlace := ["math/bits.Add64", "math/bits.Sub64", "internal/bytealg.IndexByteString", "internal/bytealg.IndexString"], unfollowed := true, recurses := true, named := ["math/bits.divideError", "math/bits.overflowError", "ziggurat/ntt.fields", "unicode/utf8.first", "unicode/utf8.acceptRanges", "internal/bytealg.MaxLen"], apart := false, laid := [("unicode/utf8.acceptRanges", laid_unicode_utf8_acceptRanges), ("ziggurat/ntt.fields", laid_ziggurat_ntt_fields), ("unicode/utf8.first", laid_unicode_utf8_first)], narrowed := true }
def TopDigitSumUptoSaid : Prop := topDigitSumUptoRow.holds Tryz.pinned (OpenSpec.upto topDigitSumSpec)

/-- 'ziggurattop.TopLeast', WHERE WHAT IT READS IS OF BULK AT MOST 1048576: true; the input reads as it did. -/
def topLeastUptoRow : OpenClaim := { program := "ytfhcmggpojhegaagreatdoor", sum := "4e11be252529042c1b865e68cbd933798da71e96345810ed1558d6947d777cab", func := "ziggurat/ziggurattop.TopLeast", spec := "topLeast", inPlace := ["math/bits.Add64", "math/bits.Sub64", "internal/bytealg.IndexByteString", "internal/bytealg.IndexString"], unfollowed := true, recurses := true, named := ["math/bits.divideError", "math/bits.overflowError", "ziggurat/ntt.fields", "unicode/utf8.first", "unicode/utf8.acceptRanges", "internal/bytealg.MaxLen"], apart := false, laid := [("unicode/utf8.acceptRanges", laid_unicode_utf8_acceptRanges), ("ziggurat/ntt.fields", laid_ziggurat_ntt_fields), ("unicode/utf8.first", laid_unicode_utf8_first)], narrowed := true }
def TopLeastUptoSaid : Prop := topLeastUptoRow.holds Tryz.pinned (OpenSpec.upto topLeastSpec)

/-- 'ziggurattop.TopPowers', WHERE WHAT IT READS IS OF BULK AT MOST 1048576: true; the input reads as it did. -/
def topPowersUptoRow : OpenClaim := { program := "ytfhcmggpojhegaagreatdoor", sum := "4e11be252529042c1b865e68cbd933798da71e96345810ed1558d6947d777cab", func := "ziggurat/ziggurattop.TopPowers", spec := "topPowers", inPlace := ["math/bits.Add64", "math/bits.Sub64", "internal/bytealg.IndexByteString", "internal/bytealg.IndexString"], unfollowed := true, recurses := true, named := ["math/bits.divideError", "math/bits.overflowError", "ziggurat/ntt.fields", "unicode/utf8.first", "unicode/utf8.acceptRanges", "internal/bytealg.MaxLen"], apart := false, laid := [("unicode/utf8.acceptRanges", laid_unicode_utf8_acceptRanges), ("ziggurat/ntt.fields", laid_ziggurat_ntt_fields), ("unicode/utf8.first", laid_unicode_utf8_first)], narrowed := true }
def TopPowersUptoSaid : Prop := topPowersUptoRow.holds Tryz.pinned (OpenSpec.upto topPowersSpec)

/-- 'ziggurattop.TopChinese', WHERE WHAT IT READS IS OF BULK AT MOST 1048576: true; the input reads as it did. -/
def topChineseUptoRow : OpenClaim := { program := "ytfhcmggpojhegaagreatdoor", sum := "4e11be252529042c1b865e68cbd933798da71e96345810ed1558d6947d777cab", func := "ziggurat/ziggurattop.TopChinese", spec := "topChinese", inPlace := ["math/bits.Add64", "math/bits.Sub64", "internal/bytealg.IndexByteString", "internal/bytealg.IndexString"], unfollowed := true, recurses := true, named := ["math/bits.divideError", "math/bits.overflowError", "ziggurat/ntt.fields", "unicode/utf8.first", "unicode/utf8.acceptRanges", "internal/bytealg.MaxLen"], apart := false, laid := [("unicode/utf8.acceptRanges", laid_unicode_utf8_acceptRanges), ("ziggurat/ntt.fields", laid_ziggurat_ntt_fields), ("unicode/utf8.first", laid_unicode_utf8_first)], narrowed := true }
def TopChineseUptoSaid : Prop := topChineseUptoRow.holds Tryz.pinned (OpenSpec.upto topChineseSpec)

/-- 'ziggurattop.TopBezout', WHERE WHAT IT READS IS OF BULK AT MOST 1048576: true; the input reads as it did. -/
def topBezoutUptoRow : OpenClaim := { program := "ytfhcmggpojhegaagreatdoor", sum := "4e11be252529042c1b865e68cbd933798da71e96345810ed1558d6947d777cab", func := "ziggurat/ziggurattop.TopBezout", spec := "topBezout", inPlace := ["math/bits.Add64", "math/bits.Sub64", "internal/bytealg.IndexByteString", "internal/bytealg.IndexString"], unfollowed := true, recurses := true, named := ["math/bits.divideError", "math/bits.overflowError", "ziggurat/ntt.fields", "unicode/utf8.first", "unicode/utf8.acceptRanges", "internal/bytealg.MaxLen"], apart := false, laid := [("unicode/utf8.acceptRanges", laid_unicode_utf8_acceptRanges), ("ziggurat/ntt.fields", laid_ziggurat_ntt_fields), ("unicode/utf8.first", laid_unicode_utf8_first)], narrowed := true }
def TopBezoutUptoSaid : Prop := topBezoutUptoRow.holds Tryz.pinned (OpenSpec.upto topBezoutSpec)

end Rows
end Go.Proofs.YtfhcmggpojhegaaGreatDoor
