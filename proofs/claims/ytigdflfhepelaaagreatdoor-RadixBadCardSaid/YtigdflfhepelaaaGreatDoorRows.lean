/-
  NARROWER THAN 'FOR EVERY INPUT', by the rows' own cells (each row's printed sentence says how): RadixTells: laid · RadixBack: laid · RadixAgain: laid · RadixWorth: laid · RadixJoin: laid · RadixOrder: laid · RadixBits: laid · RadixPowers: laid · RadixBad: laid.
  DERIVED. THE GIVEN ROWS OF THIS SEAT. 9 by the template 'for every input the law returns true; each argument reads behind the call as it read before'; 0 by the template 'total and deterministic' (their statements: YtigdflfhepelaaaGreatDoorTotals.lean).
  GIVEN WITH THE SEED: the statements are not yours to turn. If you find one false, say at which input.
  Laid BY PROGRAM, IN A SANDBOX (cutbox-rows.mjs): the forced cells as the released guide's own fill.sh prints them over the translation 5c9bcd4d872bef0f… (all of the seat's roots in one cut). By AI agents, Wed Nov 11 2026. No macro, syntax, notation, axiom, sorry.
-/
import Derived.Test.YtigdflfhepelaaaGreatDoorChecked
import GoSem.PinnedTables
import GoSem.Claim
import GoSem.ClaimJoined
import GoSem.ClaimMapViews
import Derived.JoinedTies
import Derived.KernelRfl
namespace Go.Proofs.YtigdflfhepelaaaGreatDoor
/- THE CELL 'sum', in the pinned program and in every row, IS THE sha256 OF THE DUMP (.gsa) THAT YtigdflfhepelaaaGreatDoorProg.lean LOADS. Nothing in Lean hashes anything: it is a label: what it is worth is what the hold of that sum in a sandbox is worth. -/
noncomputable def Tryz.pinned : Pinned := { name := "ytigdflfhepelaaagreatdoor", sum := "5c9bcd4d872bef0fa6d83af94061ec5672570e986d8275c4cb52fa1107049316", checked := Tryz.checked }
namespace Rows
def none {H : Type} : Left H := { results := [], args := [] }

/- WHAT THE LISTED PACKAGE-LEVEL VARIABLES READ AS WHEN THE CALL BEGINS. Each datum BY PROGRAM (the guide's laid-datum.mjs) off the statement by which the dump's own 'gosem.cut.vars' lays the variable. In a bare row this is a premise. The card (YtigdflfhepelaaaGreatDoorCards.lean) ties it to the program's text. -/
def laid_unicode_utf8_acceptRanges {H : Type} : DataW H := .agg [.agg [.lit (.int .u8 128), .lit (.int .u8 191)], .agg [.lit (.int .u8 160), .lit (.int .u8 191)], .agg [.lit (.int .u8 128), .lit (.int .u8 159)], .agg [.lit (.int .u8 144), .lit (.int .u8 191)], .agg [.lit (.int .u8 128), .lit (.int .u8 143)], .agg [.lit (.int .u8 0), .lit (.int .u8 0)], .agg [.lit (.int .u8 0), .lit (.int .u8 0)], .agg [.lit (.int .u8 0), .lit (.int .u8 0)], .agg [.lit (.int .u8 0), .lit (.int .u8 0)], .agg [.lit (.int .u8 0), .lit (.int .u8 0)], .agg [.lit (.int .u8 0), .lit (.int .u8 0)], .agg [.lit (.int .u8 0), .lit (.int .u8 0)], .agg [.lit (.int .u8 0), .lit (.int .u8 0)], .agg [.lit (.int .u8 0), .lit (.int .u8 0)], .agg [.lit (.int .u8 0), .lit (.int .u8 0)], .agg [.lit (.int .u8 0), .lit (.int .u8 0)]]
def laid_ziggurat_ntt_fields {H : Type} : DataW H := .agg [.agg [.lit (.int .u32 998244353), .lit (.int .u32 3), .lit (.int .u32 998244351), .lit (.int .u32 932051910), .lit (.int .u32 0)], .agg [.lit (.int .u32 469762049), .lit (.int .u32 3), .lit (.int .u32 469762047), .lit (.int .u32 460175152), .lit (.int .u32 305718167)], .agg [.lit (.int .u32 167772161), .lit (.int .u32 3), .lit (.int .u32 167772159), .lit (.int .u32 40265974), .lit (.int .u32 115614034)]]
/-- One of Go's own tables, pinned by name: the form's constant. -/
def laid_unicode_utf8_first : DataW Unit := Go.Pinned.utf8First

/-- 'zigguratlaw05.RadixTells': WHATEVER THE INPUT: true; the input reads as it did. -/
def radixTellsSpec : ChangeSpec := { name := "radixTells", fn := fun _ => fun
  | [d1, d2, d3] => { results := [.lit (.bool true)], args := [d1, d2, d3] }
  | _ => none }
def radixTellsRow : OpenClaim := { program := "ytigdflfhepelaaagreatdoor", sum := "5c9bcd4d872bef0fa6d83af94061ec5672570e986d8275c4cb52fa1107049316", func := "ziggurat/zigguratlaw05.RadixTells", spec := "radixTells", inPlace := ["math/bits.Add64", "math/bits.Sub64", "internal/bytealg.IndexByteString", "internal/bytealg.IndexString"], unfollowed := true, recurses := true, named := ["math/bits.divideError", "math/bits.overflowError", "ziggurat/ntt.fields", "unicode/utf8.first", "unicode/utf8.acceptRanges", "internal/bytealg.MaxLen"], apart := false, laid := [("unicode/utf8.acceptRanges", laid_unicode_utf8_acceptRanges), ("ziggurat/ntt.fields", laid_ziggurat_ntt_fields), ("unicode/utf8.first", laid_unicode_utf8_first)] }
def RadixTellsSaid : Prop := radixTellsRow.holds Tryz.pinned (OpenSpec.ofChange radixTellsSpec)

/-- ITS FALSE NEIGHBOUR: 'it returns false'. Refute it at one input. -/
def radixTellsWrong : ChangeSpec := { name := "radixTells", fn := fun _ => fun
  | [d1, d2, d3] => { results := [.lit (.bool false)], args := [d1, d2, d3] }
  | _ => none }
def RadixTellsWrongFalsely : Prop := radixTellsRow.holds Tryz.pinned (OpenSpec.ofChange radixTellsWrong)

/-- 'zigguratlaw05.RadixBack': WHATEVER THE INPUT: true; the input reads as it did. -/
def radixBackSpec : ChangeSpec := { name := "radixBack", fn := fun _ => fun
  | [d1, d2] => { results := [.lit (.bool true)], args := [d1, d2] }
  | _ => none }
def radixBackRow : OpenClaim := { program := "ytigdflfhepelaaagreatdoor", sum := "5c9bcd4d872bef0fa6d83af94061ec5672570e986d8275c4cb52fa1107049316", func := "ziggurat/zigguratlaw05.RadixBack", spec := "radixBack", inPlace := ["math/bits.Add64", "math/bits.Sub64", "internal/bytealg.IndexByteString", "internal/bytealg.IndexString"], unfollowed := true, recurses := true, named := ["math/bits.divideError", "math/bits.overflowError", "ziggurat/ntt.fields", "unicode/utf8.first", "unicode/utf8.acceptRanges", "internal/bytealg.MaxLen"], apart := false, laid := [("unicode/utf8.acceptRanges", laid_unicode_utf8_acceptRanges), ("ziggurat/ntt.fields", laid_ziggurat_ntt_fields), ("unicode/utf8.first", laid_unicode_utf8_first)] }
def RadixBackSaid : Prop := radixBackRow.holds Tryz.pinned (OpenSpec.ofChange radixBackSpec)

/-- ITS FALSE NEIGHBOUR: 'it returns false'. Refute it at one input. -/
def radixBackWrong : ChangeSpec := { name := "radixBack", fn := fun _ => fun
  | [d1, d2] => { results := [.lit (.bool false)], args := [d1, d2] }
  | _ => none }
def RadixBackWrongFalsely : Prop := radixBackRow.holds Tryz.pinned (OpenSpec.ofChange radixBackWrong)

/-- 'zigguratlaw05.RadixAgain': WHATEVER THE INPUT: true; the input reads as it did. -/
def radixAgainSpec : ChangeSpec := { name := "radixAgain", fn := fun _ => fun
  | [d1, d2, d3] => { results := [.lit (.bool true)], args := [d1, d2, d3] }
  | _ => none }
def radixAgainRow : OpenClaim := { program := "ytigdflfhepelaaagreatdoor", sum := "5c9bcd4d872bef0fa6d83af94061ec5672570e986d8275c4cb52fa1107049316", func := "ziggurat/zigguratlaw05.RadixAgain", spec := "radixAgain", inPlace := ["math/bits.Add64", "math/bits.Sub64", "internal/bytealg.IndexByteString", "internal/bytealg.IndexString"], unfollowed := true, recurses := true, named := ["math/bits.divideError", "math/bits.overflowError", "ziggurat/ntt.fields", "unicode/utf8.first", "unicode/utf8.acceptRanges", "internal/bytealg.MaxLen"], apart := false, laid := [("unicode/utf8.acceptRanges", laid_unicode_utf8_acceptRanges), ("ziggurat/ntt.fields", laid_ziggurat_ntt_fields), ("unicode/utf8.first", laid_unicode_utf8_first)] }
def RadixAgainSaid : Prop := radixAgainRow.holds Tryz.pinned (OpenSpec.ofChange radixAgainSpec)

/-- ITS FALSE NEIGHBOUR: 'it returns false'. Refute it at one input. -/
def radixAgainWrong : ChangeSpec := { name := "radixAgain", fn := fun _ => fun
  | [d1, d2, d3] => { results := [.lit (.bool false)], args := [d1, d2, d3] }
  | _ => none }
def RadixAgainWrongFalsely : Prop := radixAgainRow.holds Tryz.pinned (OpenSpec.ofChange radixAgainWrong)

/-- 'zigguratlaw05.RadixWorth': WHATEVER THE INPUT: true; the input reads as it did. -/
def radixWorthSpec : ChangeSpec := { name := "radixWorth", fn := fun _ => fun
  | [d1, d2, d3] => { results := [.lit (.bool true)], args := [d1, d2, d3] }
  | _ => none }
def radixWorthRow : OpenClaim := { program := "ytigdflfhepelaaagreatdoor", sum := "5c9bcd4d872bef0fa6d83af94061ec5672570e986d8275c4cb52fa1107049316", func := "ziggurat/zigguratlaw05.RadixWorth", spec := "radixWorth", inPlace := ["math/bits.Add64", "math/bits.Sub64", "internal/bytealg.IndexByteString", "internal/bytealg.IndexString"], unfollowed := true, recurses := true, named := ["math/bits.divideError", "math/bits.overflowError", "ziggurat/ntt.fields", "unicode/utf8.first", "unicode/utf8.acceptRanges", "internal/bytealg.MaxLen"], apart := false, laid := [("unicode/utf8.acceptRanges", laid_unicode_utf8_acceptRanges), ("ziggurat/ntt.fields", laid_ziggurat_ntt_fields), ("unicode/utf8.first", laid_unicode_utf8_first)] }
def RadixWorthSaid : Prop := radixWorthRow.holds Tryz.pinned (OpenSpec.ofChange radixWorthSpec)

/-- ITS FALSE NEIGHBOUR: 'it returns false'. Refute it at one input. -/
def radixWorthWrong : ChangeSpec := { name := "radixWorth", fn := fun _ => fun
  | [d1, d2, d3] => { results := [.lit (.bool false)], args := [d1, d2, d3] }
  | _ => none }
def RadixWorthWrongFalsely : Prop := radixWorthRow.holds Tryz.pinned (OpenSpec.ofChange radixWorthWrong)

/-- 'zigguratlaw05.RadixJoin': WHATEVER THE INPUT: true; the input reads as it did. -/
def radixJoinSpec : ChangeSpec := { name := "radixJoin", fn := fun _ => fun
  | [d1, d2, d3] => { results := [.lit (.bool true)], args := [d1, d2, d3] }
  | _ => none }
def radixJoinRow : OpenClaim := { program := "ytigdflfhepelaaagreatdoor", sum := "5c9bcd4d872bef0fa6d83af94061ec5672570e986d8275c4cb52fa1107049316", func := "ziggurat/zigguratlaw05.RadixJoin", spec := "radixJoin", inPlace := ["math/bits.Add64", "math/bits.Sub64", "internal/bytealg.IndexByteString", "internal/bytealg.IndexString"], unfollowed := true, recurses := true, named := ["math/bits.divideError", "math/bits.overflowError", "ziggurat/ntt.fields", "unicode/utf8.first", "unicode/utf8.acceptRanges", "internal/bytealg.MaxLen"], apart := false, laid := [("unicode/utf8.acceptRanges", laid_unicode_utf8_acceptRanges), ("ziggurat/ntt.fields", laid_ziggurat_ntt_fields), ("unicode/utf8.first", laid_unicode_utf8_first)] }
def RadixJoinSaid : Prop := radixJoinRow.holds Tryz.pinned (OpenSpec.ofChange radixJoinSpec)

/-- ITS FALSE NEIGHBOUR: 'it returns false'. Refute it at one input. -/
def radixJoinWrong : ChangeSpec := { name := "radixJoin", fn := fun _ => fun
  | [d1, d2, d3] => { results := [.lit (.bool false)], args := [d1, d2, d3] }
  | _ => none }
def RadixJoinWrongFalsely : Prop := radixJoinRow.holds Tryz.pinned (OpenSpec.ofChange radixJoinWrong)

/-- 'zigguratlaw05.RadixOrder': WHATEVER THE INPUT: true; the input reads as it did. -/
def radixOrderSpec : ChangeSpec := { name := "radixOrder", fn := fun _ => fun
  | [d1, d2, d3] => { results := [.lit (.bool true)], args := [d1, d2, d3] }
  | _ => none }
def radixOrderRow : OpenClaim := { program := "ytigdflfhepelaaagreatdoor", sum := "5c9bcd4d872bef0fa6d83af94061ec5672570e986d8275c4cb52fa1107049316", func := "ziggurat/zigguratlaw05.RadixOrder", spec := "radixOrder", inPlace := ["math/bits.Add64", "math/bits.Sub64", "internal/bytealg.IndexByteString", "internal/bytealg.IndexString"], unfollowed := true, recurses := true, named := ["math/bits.divideError", "math/bits.overflowError", "ziggurat/ntt.fields", "unicode/utf8.first", "unicode/utf8.acceptRanges", "internal/bytealg.MaxLen"], apart := false, laid := [("unicode/utf8.acceptRanges", laid_unicode_utf8_acceptRanges), ("ziggurat/ntt.fields", laid_ziggurat_ntt_fields), ("unicode/utf8.first", laid_unicode_utf8_first)] }
def RadixOrderSaid : Prop := radixOrderRow.holds Tryz.pinned (OpenSpec.ofChange radixOrderSpec)

/-- ITS FALSE NEIGHBOUR: 'it returns false'. Refute it at one input. -/
def radixOrderWrong : ChangeSpec := { name := "radixOrder", fn := fun _ => fun
  | [d1, d2, d3] => { results := [.lit (.bool false)], args := [d1, d2, d3] }
  | _ => none }
def RadixOrderWrongFalsely : Prop := radixOrderRow.holds Tryz.pinned (OpenSpec.ofChange radixOrderWrong)

/-- 'zigguratlaw05.RadixBits': WHATEVER THE INPUT: true; the input reads as it did. -/
def radixBitsSpec : ChangeSpec := { name := "radixBits", fn := fun _ => fun
  | [d1, d2] => { results := [.lit (.bool true)], args := [d1, d2] }
  | _ => none }
def radixBitsRow : OpenClaim := { program := "ytigdflfhepelaaagreatdoor", sum := "5c9bcd4d872bef0fa6d83af94061ec5672570e986d8275c4cb52fa1107049316", func := "ziggurat/zigguratlaw05.RadixBits", spec := "radixBits", inPlace := ["math/bits.Add64", "math/bits.Sub64", "internal/bytealg.IndexByteString", "internal/bytealg.IndexString"], unfollowed := true, recurses := true, named := ["math/bits.divideError", "math/bits.overflowError", "ziggurat/ntt.fields", "unicode/utf8.first", "unicode/utf8.acceptRanges", "internal/bytealg.MaxLen"], apart := false, laid := [("unicode/utf8.acceptRanges", laid_unicode_utf8_acceptRanges), ("ziggurat/ntt.fields", laid_ziggurat_ntt_fields), ("unicode/utf8.first", laid_unicode_utf8_first)] }
def RadixBitsSaid : Prop := radixBitsRow.holds Tryz.pinned (OpenSpec.ofChange radixBitsSpec)

/-- ITS FALSE NEIGHBOUR: 'it returns false'. Refute it at one input. -/
def radixBitsWrong : ChangeSpec := { name := "radixBits", fn := fun _ => fun
  | [d1, d2] => { results := [.lit (.bool false)], args := [d1, d2] }
  | _ => none }
def RadixBitsWrongFalsely : Prop := radixBitsRow.holds Tryz.pinned (OpenSpec.ofChange radixBitsWrong)

/-- 'zigguratlaw05.RadixPowers': WHATEVER THE INPUT: true; the input reads as it did. -/
def radixPowersSpec : ChangeSpec := { name := "radixPowers", fn := fun _ => fun
  | [d1, d2] => { results := [.lit (.bool true)], args := [d1, d2] }
  | _ => none }
def radixPowersRow : OpenClaim := { program := "ytigdflfhepelaaagreatdoor", sum := "5c9bcd4d872bef0fa6d83af94061ec5672570e986d8275c4cb52fa1107049316", func := "ziggurat/zigguratlaw05.RadixPowers", spec := "radixPowers", inPlace := ["math/bits.Add64", "math/bits.Sub64", "internal/bytealg.IndexByteString", "internal/bytealg.IndexString"], unfollowed := true, recurses := true, named := ["math/bits.divideError", "math/bits.overflowError", "ziggurat/ntt.fields", "unicode/utf8.first", "unicode/utf8.acceptRanges", "internal/bytealg.MaxLen"], apart := false, laid := [("unicode/utf8.acceptRanges", laid_unicode_utf8_acceptRanges), ("ziggurat/ntt.fields", laid_ziggurat_ntt_fields), ("unicode/utf8.first", laid_unicode_utf8_first)] }
def RadixPowersSaid : Prop := radixPowersRow.holds Tryz.pinned (OpenSpec.ofChange radixPowersSpec)

/-- ITS FALSE NEIGHBOUR: 'it returns false'. Refute it at one input. -/
def radixPowersWrong : ChangeSpec := { name := "radixPowers", fn := fun _ => fun
  | [d1, d2] => { results := [.lit (.bool false)], args := [d1, d2] }
  | _ => none }
def RadixPowersWrongFalsely : Prop := radixPowersRow.holds Tryz.pinned (OpenSpec.ofChange radixPowersWrong)

/-- 'zigguratlaw05.RadixBad': WHATEVER THE INPUT: true; the input reads as it did. -/
def radixBadSpec : ChangeSpec := { name := "radixBad", fn := fun _ => fun
  | [d1, d2] => { results := [.lit (.bool true)], args := [d1, d2] }
  | _ => none }
def radixBadRow : OpenClaim := { program := "ytigdflfhepelaaagreatdoor", sum := "5c9bcd4d872bef0fa6d83af94061ec5672570e986d8275c4cb52fa1107049316", func := "ziggurat/zigguratlaw05.RadixBad", spec := "radixBad", inPlace := ["math/bits.Add64", "math/bits.Sub64", "internal/bytealg.IndexByteString", "internal/bytealg.IndexString"], unfollowed := true, recurses := true, named := ["math/bits.divideError", "math/bits.overflowError", "ziggurat/ntt.fields", "unicode/utf8.first", "unicode/utf8.acceptRanges", "internal/bytealg.MaxLen"], apart := false, laid := [("unicode/utf8.acceptRanges", laid_unicode_utf8_acceptRanges), ("ziggurat/ntt.fields", laid_ziggurat_ntt_fields), ("unicode/utf8.first", laid_unicode_utf8_first)] }
def RadixBadSaid : Prop := radixBadRow.holds Tryz.pinned (OpenSpec.ofChange radixBadSpec)

/-- ITS FALSE NEIGHBOUR: 'it returns false'. Refute it at one input. -/
def radixBadWrong : ChangeSpec := { name := "radixBad", fn := fun _ => fun
  | [d1, d2] => { results := [.lit (.bool false)], args := [d1, d2] }
  | _ => none }
def RadixBadWrongFalsely : Prop := radixBadRow.holds Tryz.pinned (OpenSpec.ofChange radixBadWrong)

/- THE SECOND FORM. 'bulk': how many values and letters a reading holds, each counted each time it is reached (what is shared counts as often as it is met; a slice's spare places count too). A statement '..UptoSaid' is the law's where the arguments, and the package variables that the reading takes, are together of bulk at most 1048576: NARROWER than '..Said'. Prove '..Said' where nothing that the law and all that it calls make is longer than what came in: it says more and counts as full. Else prove '..UptoSaid'. A law counts once. -/
mutual
def uptoBulk {H : Type} : DataW H → Nat
  | .lit (.string bytes) => bytes.length + 1
  | .lit _ => 1
  | .nil => 1
  | .ptr d => uptoBulk d + 1
  | .slice elems spare => uptoBulkAll elems + uptoBulkAll spare + 1
  | .agg parts => uptoBulkAll parts + 1
  | .iface _ d => uptoBulk d + 1
  | .map entries => uptoBulkEntries entries + 1
  | .held _ => 1
def uptoBulkAll {H : Type} : List (DataW H) → Nat
  | [] => 0
  | d :: r => uptoBulk d + uptoBulkAll r
def uptoBulkEntries {H : Type} : List (Lit × DataW H) → Nat
  | [] => 0
  | x :: r => uptoBulkEntry x + uptoBulkEntries r
def uptoBulkEntry {H : Type} : Lit × DataW H → Nat
  | (.string bytes, d) => bytes.length + uptoBulk d + 1
  | (_, d) => uptoBulk d + 1
 end
def uptoSmall : (H : Type) → List (DataW H) → Bool := fun _ ds => decide (uptoBulkAll ds ≤ 1048576)
def OpenSpec.upto (s : _root_.Go.ChangeSpec) : _root_.Go.OpenSpec := { _root_.Go.OpenSpec.ofChange s with cond := some uptoSmall }

/-- 'zigguratlaw05.RadixTells', WHERE WHAT IT READS IS OF BULK AT MOST 1048576: true; the input reads as it did. -/
def radixTellsUptoRow : OpenClaim := { program := "ytigdflfhepelaaagreatdoor", sum := "5c9bcd4d872bef0fa6d83af94061ec5672570e986d8275c4cb52fa1107049316", func := "ziggurat/zigguratlaw05.RadixTells", spec := "radixTells", inPlace := ["math/bits.Add64", "math/bits.Sub64", "internal/bytealg.IndexByteString", "internal/bytealg.IndexString"], unfollowed := true, recurses := true, named := ["math/bits.divideError", "math/bits.overflowError", "ziggurat/ntt.fields", "unicode/utf8.first", "unicode/utf8.acceptRanges", "internal/bytealg.MaxLen"], apart := false, laid := [("unicode/utf8.acceptRanges", laid_unicode_utf8_acceptRanges), ("ziggurat/ntt.fields", laid_ziggurat_ntt_fields), ("unicode/utf8.first", laid_unicode_utf8_first)], narrowed := true }
def RadixTellsUptoSaid : Prop := radixTellsUptoRow.holds Tryz.pinned (OpenSpec.upto radixTellsSpec)

/-- 'zigguratlaw05.RadixBack', WHERE WHAT IT READS IS OF BULK AT MOST 1048576: true; the input reads as it did. -/
def radixBackUptoRow : OpenClaim := { program := "ytigdflfhepelaaagreatdoor", sum := "5c9bcd4d872bef0fa6d83af94061ec5672570e986d8275c4cb52fa1107049316", func := "ziggurat/zigguratlaw05.RadixBack", spec := "radixBack", inPlace := ["math/bits.Add64", "math/bits.Sub64", "internal/bytealg.IndexByteString", "internal/bytealg.IndexString"], unfollowed := true, recurses := true, named := ["math/bits.divideError", "math/bits.overflowError", "ziggurat/ntt.fields", "unicode/utf8.first", "unicode/utf8.acceptRanges", "internal/bytealg.MaxLen"], apart := false, laid := [("unicode/utf8.acceptRanges", laid_unicode_utf8_acceptRanges), ("ziggurat/ntt.fields", laid_ziggurat_ntt_fields), ("unicode/utf8.first", laid_unicode_utf8_first)], narrowed := true }
def RadixBackUptoSaid : Prop := radixBackUptoRow.holds Tryz.pinned (OpenSpec.upto radixBackSpec)

/-- 'zigguratlaw05.RadixAgain', WHERE WHAT IT READS IS OF BULK AT MOST 1048576: true; the input reads as it did. -/
def radixAgainUptoRow : OpenClaim := { program := "ytigdflfhepelaaagreatdoor", sum := "5c9bcd4d872bef0fa6d83af94061ec5672570e986d8275c4cb52fa1107049316", func := "ziggurat/zigguratlaw05.RadixAgain", spec := "radixAgain", inPlace := ["math/bits.Add64", "math/bits.Sub64", "internal/bytealg.IndexByteString", "internal/bytealg.IndexString"], unfollowed := true, recurses := true, named := ["math/bits.divideError", "math/bits.overflowError", "ziggurat/ntt.fields", "unicode/utf8.first", "unicode/utf8.acceptRanges", "internal/bytealg.MaxLen"], apart := false, laid := [("unicode/utf8.acceptRanges", laid_unicode_utf8_acceptRanges), ("ziggurat/ntt.fields", laid_ziggurat_ntt_fields), ("unicode/utf8.first", laid_unicode_utf8_first)], narrowed := true }
def RadixAgainUptoSaid : Prop := radixAgainUptoRow.holds Tryz.pinned (OpenSpec.upto radixAgainSpec)

/-- 'zigguratlaw05.RadixWorth', WHERE WHAT IT READS IS OF BULK AT MOST 1048576: true; the input reads as it did. -/
def radixWorthUptoRow : OpenClaim := { program := "ytigdflfhepelaaagreatdoor", sum := "5c9bcd4d872bef0fa6d83af94061ec5672570e986d8275c4cb52fa1107049316", func := "ziggurat/zigguratlaw05.RadixWorth", spec := "radixWorth", inPlace := ["math/bits.Add64", "math/bits.Sub64", "internal/bytealg.IndexByteString", "internal/bytealg.IndexString"], unfollowed := true, recurses := true, named := ["math/bits.divideError", "math/bits.overflowError", "ziggurat/ntt.fields", "unicode/utf8.first", "unicode/utf8.acceptRanges", "internal/bytealg.MaxLen"], apart := false, laid := [("unicode/utf8.acceptRanges", laid_unicode_utf8_acceptRanges), ("ziggurat/ntt.fields", laid_ziggurat_ntt_fields), ("unicode/utf8.first", laid_unicode_utf8_first)], narrowed := true }
def RadixWorthUptoSaid : Prop := radixWorthUptoRow.holds Tryz.pinned (OpenSpec.upto radixWorthSpec)

/-- 'zigguratlaw05.RadixJoin', WHERE WHAT IT READS IS OF BULK AT MOST 1048576: true; the input reads as it did. -/
def radixJoinUptoRow : OpenClaim := { program := "ytigdflfhepelaaagreatdoor", sum := "5c9bcd4d872bef0fa6d83af94061ec5672570e986d8275c4cb52fa1107049316", func := "ziggurat/zigguratlaw05.RadixJoin", spec := "radixJoin", inPlace := ["math/bits.Add64", "math/bits.Sub64", "internal/bytealg.IndexByteString", "internal/bytealg.IndexString"], unfollowed := true, recurses := true, named := ["math/bits.divideError", "math/bits.overflowError", "ziggurat/ntt.fields", "unicode/utf8.first", "unicode/utf8.acceptRanges", "internal/bytealg.MaxLen"], apart := false, laid := [("unicode/utf8.acceptRanges", laid_unicode_utf8_acceptRanges), ("ziggurat/ntt.fields", laid_ziggurat_ntt_fields), ("unicode/utf8.first", laid_unicode_utf8_first)], narrowed := true }
def RadixJoinUptoSaid : Prop := radixJoinUptoRow.holds Tryz.pinned (OpenSpec.upto radixJoinSpec)

/-- 'zigguratlaw05.RadixOrder', WHERE WHAT IT READS IS OF BULK AT MOST 1048576: true; the input reads as it did. -/
def radixOrderUptoRow : OpenClaim := { program := "ytigdflfhepelaaagreatdoor", sum := "5c9bcd4d872bef0fa6d83af94061ec5672570e986d8275c4cb52fa1107049316", func := "ziggurat/zigguratlaw05.RadixOrder", spec := "radixOrder", inPlace := ["math/bits.Add64", "math/bits.Sub64", "internal/bytealg.IndexByteString", "internal/bytealg.IndexString"], unfollowed := true, recurses := true, named := ["math/bits.divideError", "math/bits.overflowError", "ziggurat/ntt.fields", "unicode/utf8.first", "unicode/utf8.acceptRanges", "internal/bytealg.MaxLen"], apart := false, laid := [("unicode/utf8.acceptRanges", laid_unicode_utf8_acceptRanges), ("ziggurat/ntt.fields", laid_ziggurat_ntt_fields), ("unicode/utf8.first", laid_unicode_utf8_first)], narrowed := true }
def RadixOrderUptoSaid : Prop := radixOrderUptoRow.holds Tryz.pinned (OpenSpec.upto radixOrderSpec)

/-- 'zigguratlaw05.RadixBits', WHERE WHAT IT READS IS OF BULK AT MOST 1048576: true; the input reads as it did. -/
def radixBitsUptoRow : OpenClaim := { program := "ytigdflfhepelaaagreatdoor", sum := "5c9bcd4d872bef0fa6d83af94061ec5672570e986d8275c4cb52fa1107049316", func := "ziggurat/zigguratlaw05.RadixBits", spec := "radixBits", inPlace := ["math/bits.Add64", "math/bits.Sub64", "internal/bytealg.IndexByteString", "internal/bytealg.IndexString"], unfollowed := true, recurses := true, named := ["math/bits.divideError", "math/bits.overflowError", "ziggurat/ntt.fields", "unicode/utf8.first", "unicode/utf8.acceptRanges", "internal/bytealg.MaxLen"], apart := false, laid := [("unicode/utf8.acceptRanges", laid_unicode_utf8_acceptRanges), ("ziggurat/ntt.fields", laid_ziggurat_ntt_fields), ("unicode/utf8.first", laid_unicode_utf8_first)], narrowed := true }
def RadixBitsUptoSaid : Prop := radixBitsUptoRow.holds Tryz.pinned (OpenSpec.upto radixBitsSpec)

/-- 'zigguratlaw05.RadixPowers', WHERE WHAT IT READS IS OF BULK AT MOST 1048576: true; the input reads as it did. -/
def radixPowersUptoRow : OpenClaim := { program := "ytigdflfhepelaaagreatdoor", sum := "5c9bcd4d872bef0fa6d83af94061ec5672570e986d8275c4cb52fa1107049316", func := "ziggurat/zigguratlaw05.RadixPowers", spec := "radixPowers", inPlace := ["math/bits.Add64", "math/bits.Sub64", "internal/bytealg.IndexByteString", "internal/bytealg.IndexString"], unfollowed := true, recurses := true, named := ["math/bits.divideError", "math/bits.overflowError", "ziggurat/ntt.fields", "unicode/utf8.first", "unicode/utf8.acceptRanges", "internal/bytealg.MaxLen"], apart := false, laid := [("unicode/utf8.acceptRanges", laid_unicode_utf8_acceptRanges), ("ziggurat/ntt.fields", laid_ziggurat_ntt_fields), ("unicode/utf8.first", laid_unicode_utf8_first)], narrowed := true }
def RadixPowersUptoSaid : Prop := radixPowersUptoRow.holds Tryz.pinned (OpenSpec.upto radixPowersSpec)

/-- 'zigguratlaw05.RadixBad', WHERE WHAT IT READS IS OF BULK AT MOST 1048576: true; the input reads as it did. -/
def radixBadUptoRow : OpenClaim := { program := "ytigdflfhepelaaagreatdoor", sum := "5c9bcd4d872bef0fa6d83af94061ec5672570e986d8275c4cb52fa1107049316", func := "ziggurat/zigguratlaw05.RadixBad", spec := "radixBad", inPlace := ["math/bits.Add64", "math/bits.Sub64", "internal/bytealg.IndexByteString", "internal/bytealg.IndexString"], unfollowed := true, recurses := true, named := ["math/bits.divideError", "math/bits.overflowError", "ziggurat/ntt.fields", "unicode/utf8.first", "unicode/utf8.acceptRanges", "internal/bytealg.MaxLen"], apart := false, laid := [("unicode/utf8.acceptRanges", laid_unicode_utf8_acceptRanges), ("ziggurat/ntt.fields", laid_ziggurat_ntt_fields), ("unicode/utf8.first", laid_unicode_utf8_first)], narrowed := true }
def RadixBadUptoSaid : Prop := radixBadUptoRow.holds Tryz.pinned (OpenSpec.upto radixBadSpec)

end Rows
end Go.Proofs.YtigdflfhepelaaaGreatDoor
