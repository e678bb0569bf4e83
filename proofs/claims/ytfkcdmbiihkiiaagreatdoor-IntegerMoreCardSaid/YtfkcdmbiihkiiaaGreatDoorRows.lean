/-
  NARROWER THAN 'FOR EVERY INPUT', by the rows' own cells (each row's printed sentence says how): IntegerTells: laid · IntegerMore: laid · IntegerRing: laid · IntegerOrder: laid · IntegerQuotient: laid · IntegerShifts: laid · IntegerPowers: laid · IntegerTexts: laid · IntegerRests: laid.
  DERIVED. THE GIVEN ROWS OF THIS SEAT. 9 by the template 'for every input the law returns true; each argument reads behind the call as it read before'; 0 by the template 'total and deterministic' (their statements: YtfkcdmbiihkiiaaGreatDoorTotals.lean).
  GIVEN WITH THE SEED: the statements are not yours to turn. If you find one false, say at which input.
  Laid BY PROGRAM, IN A SANDBOX (cutbox-rows.mjs): the forced cells as the released guide's own fill.sh prints them over the translation c2dfcddde0c567dc… (all of the seat's roots in one cut). By AI agents, Wed Nov 11 2026. No macro, syntax, notation, axiom, sorry.
-/
import Derived.Test.YtfkcdmbiihkiiaaGreatDoorChecked
import GoSem.PinnedTables
import GoSem.Claim
import GoSem.ClaimJoined
import GoSem.ClaimMapViews
import Derived.JoinedTies
import Derived.KernelRfl
namespace Go.Proofs.YtfkcdmbiihkiiaaGreatDoor
/- THE CELL 'sum', in the pinned program and in every row, IS THE sha256 OF THE DUMP (.gsa) THAT YtfkcdmbiihkiiaaGreatDoorProg.lean LOADS. Nothing in Lean hashes anything: it is a label: what it is worth is what the hold of that sum in a sandbox is worth. -/
noncomputable def Tryz.pinned : Pinned := { name := "ytfkcdmbiihkiiaagreatdoor", sum := "c2dfcddde0c567dce0892ec6e5a7720e1251a757ac3afa76196b2a46d8acc86a", checked := Tryz.checked }
namespace Rows
def none {H : Type} : Left H := { results := [], args := [] }

/- WHAT THE LISTED PACKAGE-LEVEL VARIABLES READ AS WHEN THE CALL BEGINS. Each datum BY PROGRAM (the guide's laid-datum.mjs) off the statement by which the dump's own 'gosem.cut.vars' lays the variable. In a bare row this is a premise. The card (YtfkcdmbiihkiiaaGreatDoorCards.lean) ties it to the program's text. -/
def laid_unicode_utf8_acceptRanges {H : Type} : DataW H := .agg [.agg [.lit (.int .u8 128), .lit (.int .u8 191)], .agg [.lit (.int .u8 160), .lit (.int .u8 191)], .agg [.lit (.int .u8 128), .lit (.int .u8 159)], .agg [.lit (.int .u8 144), .lit (.int .u8 191)], .agg [.lit (.int .u8 128), .lit (.int .u8 143)], .agg [.lit (.int .u8 0), .lit (.int .u8 0)], .agg [.lit (.int .u8 0), .lit (.int .u8 0)], .agg [.lit (.int .u8 0), .lit (.int .u8 0)], .agg [.lit (.int .u8 0), .lit (.int .u8 0)], .agg [.lit (.int .u8 0), .lit (.int .u8 0)], .agg [.lit (.int .u8 0), .lit (.int .u8 0)], .agg [.lit (.int .u8 0), .lit (.int .u8 0)], .agg [.lit (.int .u8 0), .lit (.int .u8 0)], .agg [.lit (.int .u8 0), .lit (.int .u8 0)], .agg [.lit (.int .u8 0), .lit (.int .u8 0)], .agg [.lit (.int .u8 0), .lit (.int .u8 0)]]
def laid_ziggurat_ntt_fields {H : Type} : DataW H := .agg [.agg [.lit (.int .u32 998244353), .lit (.int .u32 3), .lit (.int .u32 998244351), .lit (.int .u32 932051910), .lit (.int .u32 0)], .agg [.lit (.int .u32 469762049), .lit (.int .u32 3), .lit (.int .u32 469762047), .lit (.int .u32 460175152), .lit (.int .u32 305718167)], .agg [.lit (.int .u32 167772161), .lit (.int .u32 3), .lit (.int .u32 167772159), .lit (.int .u32 40265974), .lit (.int .u32 115614034)]]
/-- One of Go's own tables, pinned by name: the form's constant. -/
def laid_unicode_utf8_first : DataW Unit := Go.Pinned.utf8First

/-- 'zigguratlaw06.IntegerTells': WHATEVER THE INPUT: true; the input reads as it did. -/
def integerTellsSpec : ChangeSpec := { name := "integerTells", fn := fun _ => fun
  | [d1, d2, d3] => { results := [.lit (.bool true)], args := [d1, d2, d3] }
  | _ => none }
def integerTellsRow : OpenClaim := { program := "ytfkcdmbiihkiiaagreatdoor", sum := "c2dfcddde0c567dce0892ec6e5a7720e1251a757ac3afa76196b2a46d8acc86a", func := "ziggurat/zigguratlaw06.IntegerTells", spec := "integerTells", inPlace := ["math/bits.Sub64", "math/bits.Add64", "internal/bytealg.IndexByteString", "internal/bytealg.IndexString"], unfollowed := true, recurses := true, named := ["math/bits.divideError", "math/bits.overflowError", "ziggurat/ntt.fields", "unicode/utf8.first", "unicode/utf8.acceptRanges", "internal/bytealg.MaxLen"], apart := false, laid := [("unicode/utf8.acceptRanges", laid_unicode_utf8_acceptRanges), ("ziggurat/ntt.fields", laid_ziggurat_ntt_fields), ("unicode/utf8.first", laid_unicode_utf8_first)] }
def IntegerTellsSaid : Prop := integerTellsRow.holds Tryz.pinned (OpenSpec.ofChange integerTellsSpec)

/-- ITS FALSE NEIGHBOUR: 'it returns false'. Refute it at one input. -/
def integerTellsWrong : ChangeSpec := { name := "integerTells", fn := fun _ => fun
  | [d1, d2, d3] => { results := [.lit (.bool false)], args := [d1, d2, d3] }
  | _ => none }
def IntegerTellsWrongFalsely : Prop := integerTellsRow.holds Tryz.pinned (OpenSpec.ofChange integerTellsWrong)

/-- 'zigguratlaw06.IntegerMore': WHATEVER THE INPUT: true; the input reads as it did. -/
def integerMoreSpec : ChangeSpec := { name := "integerMore", fn := fun _ => fun
  | [d1, d2, d3] => { results := [.lit (.bool true)], args := [d1, d2, d3] }
  | _ => none }
def integerMoreRow : OpenClaim := { program := "ytfkcdmbiihkiiaagreatdoor", sum := "c2dfcddde0c567dce0892ec6e5a7720e1251a757ac3afa76196b2a46d8acc86a", func := "ziggurat/zigguratlaw06.IntegerMore", spec := "integerMore", inPlace := ["math/bits.Sub64", "math/bits.Add64", "internal/bytealg.IndexByteString", "internal/bytealg.IndexString"], unfollowed := true, recurses := true, named := ["math/bits.divideError", "math/bits.overflowError", "ziggurat/ntt.fields", "unicode/utf8.first", "unicode/utf8.acceptRanges", "internal/bytealg.MaxLen"], apart := false, laid := [("unicode/utf8.acceptRanges", laid_unicode_utf8_acceptRanges), ("ziggurat/ntt.fields", laid_ziggurat_ntt_fields), ("unicode/utf8.first", laid_unicode_utf8_first)] }
def IntegerMoreSaid : Prop := integerMoreRow.holds Tryz.pinned (OpenSpec.ofChange integerMoreSpec)

/-- ITS FALSE NEIGHBOUR: 'it returns false'. Refute it at one input. -/
def integerMoreWrong : ChangeSpec := { name := "integerMore", fn := fun _ => fun
  | [d1, d2, d3] => { results := [.lit (.bool false)], args := [d1, d2, d3] }
  | _ => none }
def IntegerMoreWrongFalsely : Prop := integerMoreRow.holds Tryz.pinned (OpenSpec.ofChange integerMoreWrong)

/-- 'zigguratlaw06.IntegerRing': WHATEVER THE INPUT: true; the input reads as it did. -/
def integerRingSpec : ChangeSpec := { name := "integerRing", fn := fun _ => fun
  | [d] => { results := [.lit (.bool true)], args := [d] }
  | _ => none }
def integerRingRow : OpenClaim := { program := "ytfkcdmbiihkiiaagreatdoor", sum := "c2dfcddde0c567dce0892ec6e5a7720e1251a757ac3afa76196b2a46d8acc86a", func := "ziggurat/zigguratlaw06.IntegerRing", spec := "integerRing", inPlace := ["math/bits.Sub64", "math/bits.Add64", "internal/bytealg.IndexByteString", "internal/bytealg.IndexString"], unfollowed := true, recurses := true, named := ["math/bits.divideError", "math/bits.overflowError", "ziggurat/ntt.fields", "unicode/utf8.first", "unicode/utf8.acceptRanges", "internal/bytealg.MaxLen"], apart := false, laid := [("unicode/utf8.acceptRanges", laid_unicode_utf8_acceptRanges), ("ziggurat/ntt.fields", laid_ziggurat_ntt_fields), ("unicode/utf8.first", laid_unicode_utf8_first)] }
def IntegerRingSaid : Prop := integerRingRow.holds Tryz.pinned (OpenSpec.ofChange integerRingSpec)

/-- ITS FALSE NEIGHBOUR: 'it returns false'. Refute it at one input. -/
def integerRingWrong : ChangeSpec := { name := "integerRing", fn := fun _ => fun
  | [d] => { results := [.lit (.bool false)], args := [d] }
  | _ => none }
def IntegerRingWrongFalsely : Prop := integerRingRow.holds Tryz.pinned (OpenSpec.ofChange integerRingWrong)

/-- 'zigguratlaw06.IntegerOrder': WHATEVER THE INPUT: true; the input reads as it did. -/
def integerOrderSpec : ChangeSpec := { name := "integerOrder", fn := fun _ => fun
  | [d] => { results := [.lit (.bool true)], args := [d] }
  | _ => none }
def integerOrderRow : OpenClaim := { program := "ytfkcdmbiihkiiaagreatdoor", sum := "c2dfcddde0c567dce0892ec6e5a7720e1251a757ac3afa76196b2a46d8acc86a", func := "ziggurat/zigguratlaw06.IntegerOrder", spec := "integerOrder", inPlace := ["math/bits.Sub64", "math/bits.Add64", "internal/bytealg.IndexByteString", "internal/bytealg.IndexString"], unfollowed := true, recurses := true, named := ["math/bits.divideError", "math/bits.overflowError", "ziggurat/ntt.fields", "unicode/utf8.first", "unicode/utf8.acceptRanges", "internal/bytealg.MaxLen"], apart := false, laid := [("unicode/utf8.acceptRanges", laid_unicode_utf8_acceptRanges), ("ziggurat/ntt.fields", laid_ziggurat_ntt_fields), ("unicode/utf8.first", laid_unicode_utf8_first)] }
def IntegerOrderSaid : Prop := integerOrderRow.holds Tryz.pinned (OpenSpec.ofChange integerOrderSpec)

/-- ITS FALSE NEIGHBOUR: 'it returns false'. Refute it at one input. -/
def integerOrderWrong : ChangeSpec := { name := "integerOrder", fn := fun _ => fun
  | [d] => { results := [.lit (.bool false)], args := [d] }
  | _ => none }
def IntegerOrderWrongFalsely : Prop := integerOrderRow.holds Tryz.pinned (OpenSpec.ofChange integerOrderWrong)

/-- 'zigguratlaw06.IntegerQuotient': WHATEVER THE INPUT: true; the input reads as it did. -/
def integerQuotientSpec : ChangeSpec := { name := "integerQuotient", fn := fun _ => fun
  | [d] => { results := [.lit (.bool true)], args := [d] }
  | _ => none }
def integerQuotientRow : OpenClaim := { program := "ytfkcdmbiihkiiaagreatdoor", sum := "c2dfcddde0c567dce0892ec6e5a7720e1251a757ac3afa76196b2a46d8acc86a", func := "ziggurat/zigguratlaw06.IntegerQuotient", spec := "integerQuotient", inPlace := ["math/bits.Sub64", "math/bits.Add64", "internal/bytealg.IndexByteString", "internal/bytealg.IndexString"], unfollowed := true, recurses := true, named := ["math/bits.divideError", "math/bits.overflowError", "ziggurat/ntt.fields", "unicode/utf8.first", "unicode/utf8.acceptRanges", "internal/bytealg.MaxLen"], apart := false, laid := [("unicode/utf8.acceptRanges", laid_unicode_utf8_acceptRanges), ("ziggurat/ntt.fields", laid_ziggurat_ntt_fields), ("unicode/utf8.first", laid_unicode_utf8_first)] }
def IntegerQuotientSaid : Prop := integerQuotientRow.holds Tryz.pinned (OpenSpec.ofChange integerQuotientSpec)

/-- ITS FALSE NEIGHBOUR: 'it returns false'. Refute it at one input. -/
def integerQuotientWrong : ChangeSpec := { name := "integerQuotient", fn := fun _ => fun
  | [d] => { results := [.lit (.bool false)], args := [d] }
  | _ => none }
def IntegerQuotientWrongFalsely : Prop := integerQuotientRow.holds Tryz.pinned (OpenSpec.ofChange integerQuotientWrong)

/-- 'zigguratlaw06.IntegerShifts': WHATEVER THE INPUT: true; the input reads as it did. -/
def integerShiftsSpec : ChangeSpec := { name := "integerShifts", fn := fun _ => fun
  | [d1, d2, d3] => { results := [.lit (.bool true)], args := [d1, d2, d3] }
  | _ => none }
def integerShiftsRow : OpenClaim := { program := "ytfkcdmbiihkiiaagreatdoor", sum := "c2dfcddde0c567dce0892ec6e5a7720e1251a757ac3afa76196b2a46d8acc86a", func := "ziggurat/zigguratlaw06.IntegerShifts", spec := "integerShifts", inPlace := ["math/bits.Sub64", "math/bits.Add64", "internal/bytealg.IndexByteString", "internal/bytealg.IndexString"], unfollowed := true, recurses := true, named := ["math/bits.divideError", "math/bits.overflowError", "ziggurat/ntt.fields", "unicode/utf8.first", "unicode/utf8.acceptRanges", "internal/bytealg.MaxLen"], apart := false, laid := [("unicode/utf8.acceptRanges", laid_unicode_utf8_acceptRanges), ("ziggurat/ntt.fields", laid_ziggurat_ntt_fields), ("unicode/utf8.first", laid_unicode_utf8_first)] }
def IntegerShiftsSaid : Prop := integerShiftsRow.holds Tryz.pinned (OpenSpec.ofChange integerShiftsSpec)

/-- ITS FALSE NEIGHBOUR: 'it returns false'. Refute it at one input. -/
def integerShiftsWrong : ChangeSpec := { name := "integerShifts", fn := fun _ => fun
  | [d1, d2, d3] => { results := [.lit (.bool false)], args := [d1, d2, d3] }
  | _ => none }
def IntegerShiftsWrongFalsely : Prop := integerShiftsRow.holds Tryz.pinned (OpenSpec.ofChange integerShiftsWrong)

/-- 'zigguratlaw06.IntegerPowers': WHATEVER THE INPUT: true; the input reads as it did. -/
def integerPowersSpec : ChangeSpec := { name := "integerPowers", fn := fun _ => fun
  | [d1, d2, d3] => { results := [.lit (.bool true)], args := [d1, d2, d3] }
  | _ => none }
def integerPowersRow : OpenClaim := { program := "ytfkcdmbiihkiiaagreatdoor", sum := "c2dfcddde0c567dce0892ec6e5a7720e1251a757ac3afa76196b2a46d8acc86a", func := "ziggurat/zigguratlaw06.IntegerPowers", spec := "integerPowers", inPlace := ["math/bits.Sub64", "math/bits.Add64", "internal/bytealg.IndexByteString", "internal/bytealg.IndexString"], unfollowed := true, recurses := true, named := ["math/bits.divideError", "math/bits.overflowError", "ziggurat/ntt.fields", "unicode/utf8.first", "unicode/utf8.acceptRanges", "internal/bytealg.MaxLen"], apart := false, laid := [("unicode/utf8.acceptRanges", laid_unicode_utf8_acceptRanges), ("ziggurat/ntt.fields", laid_ziggurat_ntt_fields), ("unicode/utf8.first", laid_unicode_utf8_first)] }
def IntegerPowersSaid : Prop := integerPowersRow.holds Tryz.pinned (OpenSpec.ofChange integerPowersSpec)

/-- ITS FALSE NEIGHBOUR: 'it returns false'. Refute it at one input. -/
def integerPowersWrong : ChangeSpec := { name := "integerPowers", fn := fun _ => fun
  | [d1, d2, d3] => { results := [.lit (.bool false)], args := [d1, d2, d3] }
  | _ => none }
def IntegerPowersWrongFalsely : Prop := integerPowersRow.holds Tryz.pinned (OpenSpec.ofChange integerPowersWrong)

/-- 'zigguratlaw06.IntegerTexts': WHATEVER THE INPUT: true; the input reads as it did. -/
def integerTextsSpec : ChangeSpec := { name := "integerTexts", fn := fun _ => fun
  | [d1, d2] => { results := [.lit (.bool true)], args := [d1, d2] }
  | _ => none }
def integerTextsRow : OpenClaim := { program := "ytfkcdmbiihkiiaagreatdoor", sum := "c2dfcddde0c567dce0892ec6e5a7720e1251a757ac3afa76196b2a46d8acc86a", func := "ziggurat/zigguratlaw06.IntegerTexts", spec := "integerTexts", inPlace := ["math/bits.Sub64", "math/bits.Add64", "internal/bytealg.IndexByteString", "internal/bytealg.IndexString"], unfollowed := true, recurses := true, named := ["math/bits.divideError", "math/bits.overflowError", "ziggurat/ntt.fields", "unicode/utf8.first", "unicode/utf8.acceptRanges", "internal/bytealg.MaxLen"], apart := false, laid := [("unicode/utf8.acceptRanges", laid_unicode_utf8_acceptRanges), ("ziggurat/ntt.fields", laid_ziggurat_ntt_fields), ("unicode/utf8.first", laid_unicode_utf8_first)] }
def IntegerTextsSaid : Prop := integerTextsRow.holds Tryz.pinned (OpenSpec.ofChange integerTextsSpec)

/-- ITS FALSE NEIGHBOUR: 'it returns false'. Refute it at one input. -/
def integerTextsWrong : ChangeSpec := { name := "integerTexts", fn := fun _ => fun
  | [d1, d2] => { results := [.lit (.bool false)], args := [d1, d2] }
  | _ => none }
def IntegerTextsWrongFalsely : Prop := integerTextsRow.holds Tryz.pinned (OpenSpec.ofChange integerTextsWrong)

/-- 'zigguratlaw06.IntegerRests': WHATEVER THE INPUT: true; the input reads as it did. -/
def integerRestsSpec : ChangeSpec := { name := "integerRests", fn := fun _ => fun
  | [d1, d2] => { results := [.lit (.bool true)], args := [d1, d2] }
  | _ => none }
def integerRestsRow : OpenClaim := { program := "ytfkcdmbiihkiiaagreatdoor", sum := "c2dfcddde0c567dce0892ec6e5a7720e1251a757ac3afa76196b2a46d8acc86a", func := "ziggurat/zigguratlaw06.IntegerRests", spec := "integerRests", inPlace := ["math/bits.Sub64", "math/bits.Add64", "internal/bytealg.IndexByteString", "internal/bytealg.IndexString"], unfollowed := true, recurses := true, named := ["math/bits.divideError", "math/bits.overflowError", "ziggurat/ntt.fields", "unicode/utf8.first", "unicode/utf8.acceptRanges", "internal/bytealg.MaxLen"], apart := false, laid := [("unicode/utf8.acceptRanges", laid_unicode_utf8_acceptRanges), ("ziggurat/ntt.fields", laid_ziggurat_ntt_fields), ("unicode/utf8.first", laid_unicode_utf8_first)] }
def IntegerRestsSaid : Prop := integerRestsRow.holds Tryz.pinned (OpenSpec.ofChange integerRestsSpec)

/-- ITS FALSE NEIGHBOUR: 'it returns false'. Refute it at one input. -/
def integerRestsWrong : ChangeSpec := { name := "integerRests", fn := fun _ => fun
  | [d1, d2] => { results := [.lit (.bool false)], args := [d1, d2] }
  | _ => none }
def IntegerRestsWrongFalsely : Prop := integerRestsRow.holds Tryz.pinned (OpenSpec.ofChange integerRestsWrong)

/- THE SECOND FORM. 'bulk': how many values and letters a reading holds, each counted each time it is reached (what is shared counts as often as it is met; a slice's spare places count too). A statement '..UptoSaid' is the law's where the arguments, and the package variables that the reading takes, are together of bulk at most 1048576: NARROWER than '..Said'. Prove '..Said' where nothing that the law and all that it calls make is longer than what came in: it says more and counts as full. Else prove '..UptoSaid'. A law counts once. -/
mutual
def uptoBulk {H : Type} : DataW H → Nat
  | .lit (.string bytes) => bytes.length + 1
  | .lit _ => 1
  | .nil => 1
  | .ptr d => uptoBulk d + 1
  | .slice elems spare => uptoBulkAll elems + uptoBulkAll spare + 1
  | .agg parts => uptoBulkAll parts + 1
  | .iface _ d => uptoBulk d + 1
  | .map entries => uptoBulkEntries entries + 1
  | .held _ => 1
def uptoBulkAll {H : Type} : List (DataW H) → Nat
  | [] => 0
  | d :: r => uptoBulk d + uptoBulkAll r
def uptoBulkEntries {H : Type} : List (Lit × DataW H) → Nat
  | [] => 0
  | x :: r => uptoBulkEntry x + uptoBulkEntries r
def uptoBulkEntry {H : Type} : Lit × DataW H → Nat
  | (.string bytes, d) => bytes.length + uptoBulk d + 1
  | (_, d) => uptoBulk d + 1
 end
def uptoSmall : (H : Type) → List (DataW H) → Bool := fun _ ds => decide (uptoBulkAll ds ≤ 1048576)
def OpenSpec.upto (s : _root_.Go.ChangeSpec) : _root_.Go.OpenSpec := { _root_.Go.OpenSpec.ofChange s with cond := some uptoSmall }

/-- 'zigguratlaw06.IntegerTells', WHERE WHAT IT READS IS OF BULK AT MOST 1048576: true; the input reads as it did. -/
def integerTellsUptoRow : OpenClaim := { program := "ytfkcdmbiihkiiaagreatdoor", sum := "c2dfcddde0c567dce0892ec6e5a7720e1251a757ac3afa76196b2a46d8acc86a", func := "ziggurat/zigguratlaw06.IntegerTells", spec := "integerTells", inPlace := ["math/bits.Sub64", "math/bits.Add64", "internal/bytealg.IndexByteString", "internal/bytealg.IndexString"], unfollowed := true, recurses := true, named := ["math/bits.divideError", "math/bits.overflowError", "ziggurat/ntt.fields", "unicode/utf8.first", "unicode/utf8.acceptRanges", "internal/bytealg.MaxLen"], apart := false, laid := [("unicode/utf8.acceptRanges", laid_unicode_utf8_acceptRanges), ("ziggurat/ntt.fields", laid_ziggurat_ntt_fields), ("unicode/utf8.first", laid_unicode_utf8_first)], narrowed := true }
def IntegerTellsUptoSaid : Prop := integerTellsUptoRow.holds Tryz.pinned (OpenSpec.upto integerTellsSpec)

/-- 'zigguratlaw06.IntegerMore', WHERE WHAT IT READS IS OF BULK AT MOST 1048576: true; the input reads as it did. -/
def integerMoreUptoRow : OpenClaim := { program := "ytfkcdmbiihkiiaagreatdoor", sum := "c2dfcddde0c567dce0892ec6e5a7720e1251a757ac3afa76196b2a46d8acc86a", func := "ziggurat/zigguratlaw06.IntegerMore", spec := "integerMore", inPlace := ["math/bits.Sub64", "math/bits.Add64", "internal/bytealg.IndexByteString", "internal/bytealg.IndexString"], unfollowed := true, recurses := true, named := ["math/bits.divideError", "math/bits.overflowError", "ziggurat/ntt.fields", "unicode/utf8.first", "unicode/utf8.acceptRanges", "internal/bytealg.MaxLen"], apart := false, laid := [("unicode/utf8.acceptRanges", laid_unicode_utf8_acceptRanges), ("ziggurat/ntt.fields", laid_ziggurat_ntt_fields), ("unicode/utf8.first", laid_unicode_utf8_first)], narrowed := true }
def IntegerMoreUptoSaid : Prop := integerMoreUptoRow.holds Tryz.pinned (OpenSpec.upto integerMoreSpec)

/-- 'zigguratlaw06.IntegerRing', WHERE WHAT IT READS IS OF BULK AT MOST 1048576: true; the input reads as it did. -/
def integerRingUptoRow : OpenClaim := { program := "ytfkcdmbiihkiiaagreatdoor", sum := "c2dfcddde0c567dce0892ec6e5a7720e1251a757ac3afa76196b2a46d8acc86a", func := "ziggurat/zigguratlaw06.IntegerRing", spec := "integerRing", inPlace := ["math/bits.Sub64", "math/bits.Add64", "internal/bytealg.IndexByteString", "internal/bytealg.IndexString"], unfollowed := true, recurses := true, named := ["math/bits.divideError", "math/bits.overflowError", "ziggurat/ntt.fields", "unicode/utf8.first", "unicode/utf8.acceptRanges", "internal/bytealg.MaxLen"], apart := false, laid := [("unicode/utf8.acceptRanges", laid_unicode_utf8_acceptRanges), ("ziggurat/ntt.fields", laid_ziggurat_ntt_fields), ("unicode/utf8.first", laid_unicode_utf8_first)], narrowed := true }
def IntegerRingUptoSaid : Prop := integerRingUptoRow.holds Tryz.pinned (OpenSpec.upto integerRingSpec)

/-- 'zigguratlaw06.IntegerOrder', WHERE WHAT IT READS IS OF BULK AT MOST 1048576: true; the input reads as it did. -/
def integerOrderUptoRow : OpenClaim := { program := "ytfkcdmbiihkiiaagreatdoor", sum := "c2dfcddde0c567dce0892ec6e5a7720e1251a757ac3afa76196b2a46d8acc86a", func := "ziggurat/zigguratlaw06.IntegerOrder", spec := "integerOrder", inPlace := ["math/bits.Sub64", "math/bits.Add64", "internal/bytealg.IndexByteString", "internal/bytealg.IndexString"], unfollowed := true, recurses := true, named := ["math/bits.divideError", "math/bits.overflowError", "ziggurat/ntt.fields", "unicode/utf8.first", "unicode/utf8.acceptRanges", "internal/bytealg.MaxLen"], apart := false, laid := [("unicode/utf8.acceptRanges", laid_unicode_utf8_acceptRanges), ("ziggurat/ntt.fields", laid_ziggurat_ntt_fields), ("unicode/utf8.first", laid_unicode_utf8_first)], narrowed := true }
def IntegerOrderUptoSaid : Prop := integerOrderUptoRow.holds Tryz.pinned (OpenSpec.upto integerOrderSpec)

/-- 'zigguratlaw06.IntegerQuotient', WHERE WHAT IT READS IS OF BULK AT MOST 1048576: true; the input reads as it did. -/
def integerQuotientUptoRow : OpenClaim := { program := "ytfkcdmbiihkiiaagreatdoor", sum := "c2dfcddde0c567dce0892ec6e5a7720e1251a757ac3afa76196b2a46d8acc86a", func := "ziggurat/zigguratlaw06.IntegerQuotient", spec := "integerQuotient", inPlace := ["math/bits.Sub64", "math/bits.Add64", "internal/bytealg.IndexByteString", "internal/bytealg.IndexString"], unfollowed := true, recurses := true, named := ["math/bits.divideError", "math/bits.overflowError", "ziggurat/ntt.fields", "unicode/utf8.first", "unicode/utf8.acceptRanges", "internal/bytealg.MaxLen"], apart := false, laid := [("unicode/utf8.acceptRanges", laid_unicode_utf8_acceptRanges), ("ziggurat/ntt.fields", laid_ziggurat_ntt_fields), ("unicode/utf8.first", laid_unicode_utf8_first)], narrowed := true }
def IntegerQuotientUptoSaid : Prop := integerQuotientUptoRow.holds Tryz.pinned (OpenSpec.upto integerQuotientSpec)

/-- 'zigguratlaw06.IntegerShifts', WHERE WHAT IT READS IS OF BULK AT MOST 1048576: true; the input reads as it did. -/
def integerShiftsUptoRow : OpenClaim := { program := "ytfkcdmbiihkiiaagreatdoor", sum := "c2dfcddde0c567dce0892ec6e5a7720e1251a757ac3afa76196b2a46d8acc86a", func := "ziggurat/zigguratlaw06.IntegerShifts", spec := "integerShifts", inPlace := ["math/bits.Sub64", "math/bits.Add64", "internal/bytealg.IndexByteString", "internal/bytealg.IndexString"], unfollowed := true, recurses := true, named := ["math/bits.divideError", "math/bits.overflowError", "ziggurat/ntt.fields", "unicode/utf8.first", "unicode/utf8.acceptRanges", "internal/bytealg.MaxLen"], apart := false, laid := [("unicode/utf8.acceptRanges", laid_unicode_utf8_acceptRanges), ("ziggurat/ntt.fields", laid_ziggurat_ntt_fields), ("unicode/utf8.first", laid_unicode_utf8_first)], narrowed := true }
def IntegerShiftsUptoSaid : Prop := integerShiftsUptoRow.holds Tryz.pinned (OpenSpec.upto integerShiftsSpec)

/-- 'zigguratlaw06.IntegerPowers', WHERE WHAT IT READS IS OF BULK AT MOST 1048576: true; the input reads as it did. -/
def integerPowersUptoRow : OpenClaim := { program := "ytfkcdmbiihkiiaagreatdoor", sum := "c2dfcddde0c567dce0892ec6e5a7720e1251a757ac3afa76196b2a46d8acc86a", func := "ziggurat/zigguratlaw06.IntegerPowers", spec := "integerPowers", inPlace := ["math/bits.Sub64", "math/bits.Add64", "internal/bytealg.IndexByteString", "internal/bytealg.IndexString"], unfollowed := true, recurses := true, named := ["math/bits.divideError", "math/bits.overflowError", "ziggurat/ntt.fields", "unicode/utf8.first", "unicode/utf8.acceptRanges", "internal/bytealg.MaxLen"], apart := false, laid := [("unicode/utf8.acceptRanges", laid_unicode_utf8_acceptRanges), ("ziggurat/ntt.fields", laid_ziggurat_ntt_fields), ("unicode/utf8.first", laid_unicode_utf8_first)], narrowed := true }
def IntegerPowersUptoSaid : Prop := integerPowersUptoRow.holds Tryz.pinned (OpenSpec.upto integerPowersSpec)

/-- 'zigguratlaw06.IntegerTexts', WHERE WHAT IT READS IS OF BULK AT MOST 1048576: true; the input reads as it did. -/
def integerTextsUptoRow : OpenClaim := { program := "ytfkcdmbiihkiiaagreatdoor", sum := "c2dfcddde0c567dce0892ec6e5a7720e1251a757ac3afa76196b2a46d8acc86a", func := "ziggurat/zigguratlaw06.IntegerTexts", spec := "integerTexts", inPlace := ["math/bits.Sub64", "math/bits.Add64", "internal/bytealg.IndexByteString", "internal/bytealg.IndexString"], unfollowed := true, recurses := true, named := ["math/bits.divideError", "math/bits.overflowError", "ziggurat/ntt.fields", "unicode/utf8.first", "unicode/utf8.acceptRanges", "internal/bytealg.MaxLen"], apart := false, laid := [("unicode/utf8.acceptRanges", laid_unicode_utf8_acceptRanges), ("ziggurat/ntt.fields", laid_ziggurat_ntt_fields), ("unicode/utf8.first", laid_unicode_utf8_first)], narrowed := true }
def IntegerTextsUptoSaid : Prop := integerTextsUptoRow.holds Tryz.pinned (OpenSpec.upto integerTextsSpec)

/-- 'zigguratlaw06.IntegerRests', WHERE WHAT IT READS IS OF BULK AT MOST 1048576: true; the input reads as it did. -/
def integerRestsUptoRow : OpenClaim := { program := "ytfkcdmbiihkiiaagreatdoor", sum := "c2dfcddde0c567dce0892ec6e5a7720e1251a757ac3afa76196b2a46d8acc86a", func := "ziggurat/zigguratlaw06.IntegerRests", spec := "integerRests", inPlace := ["math/bits.Sub64", "math/bits.Add64", "internal/bytealg.IndexByteString", "internal/bytealg.IndexString"], unfollowed := true, recurses := true, named := ["math/bits.divideError", "math/bits.overflowError", "ziggurat/ntt.fields", "unicode/utf8.first", "unicode/utf8.acceptRanges", "internal/bytealg.MaxLen"], apart := false, laid := [("unicode/utf8.acceptRanges", laid_unicode_utf8_acceptRanges), ("ziggurat/ntt.fields", laid_ziggurat_ntt_fields), ("unicode/utf8.first", laid_unicode_utf8_first)], narrowed := true }
def IntegerRestsUptoSaid : Prop := integerRestsUptoRow.holds Tryz.pinned (OpenSpec.upto integerRestsSpec)

end Rows
end Go.Proofs.YtfkcdmbiihkiiaaGreatDoor
