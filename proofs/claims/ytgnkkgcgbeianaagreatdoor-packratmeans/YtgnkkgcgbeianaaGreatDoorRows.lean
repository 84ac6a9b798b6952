/-
  NARROWER THAN 'FOR EVERY INPUT', by the rows' own cells (each row's printed sentence says how): PackratMatches: laid · PackratMeans: loops, laid · PackratFew: loops, laid · PackratNotes: loops, laid · PackratAhead: loops, laid.
  DERIVED. THE GIVEN ROWS OF THIS SEAT. 5 by the template 'for every input the law returns true; each argument reads behind the call as it read before'; 0 by the template 'total and deterministic' (their statements: YtgnkkgcgbeianaaGreatDoorTotals.lean).
  GIVEN WITH THE SEED: the statements are not yours to turn. If you find one false, say at which input.
  Laid BY PROGRAM, IN A SANDBOX (cutbox-rows.mjs): the forced cells as the released guide's own fill.sh prints them over the translation 9761ab93e3c61615… (all of the seat's roots in one cut). By AI agents, Wed Nov 11 2026. No macro, syntax, notation, axiom, sorry.
-/
import Derived.Test.YtgnkkgcgbeianaaGreatDoorChecked
import GoSem.Claim
import GoSem.ClaimJoined
import GoSem.ClaimMapViews
import Derived.JoinedTies
import Derived.KernelRfl
namespace Go.Proofs.YtgnkkgcgbeianaaGreatDoor
/- THE CELL 'sum', in the pinned program and in every row, IS THE sha256 OF THE DUMP (.gsa) THAT YtgnkkgcgbeianaaGreatDoorProg.lean LOADS. Nothing in Lean hashes anything: it is a label: what it is worth is what the hold of that sum in a sandbox is worth. -/
noncomputable def Tryz.pinned : Pinned := { name := "ytgnkkgcgbeianaagreatdoor", sum := "9761ab93e3c61615abf18b8afc2279d6208d3c5c3465657d2fb4e415f9604c59", checked := Tryz.checked }
namespace Rows
def none {H : Type} : Left H := { results := [], args := [] }

/- WHAT THE LISTED PACKAGE-LEVEL VARIABLES READ AS WHEN THE CALL BEGINS. Each datum BY PROGRAM (the guide's laid-datum.mjs) off the statement by which the dump's own 'gosem.cut.vars' lays the variable. In a bare row this is a premise. The card (YtgnkkgcgbeianaaGreatDoorCards.lean) ties it to the program's text. -/
def laid_math_bits_deBruijn32tab {H : Type} : DataW H := .agg [.lit (.int .u8 0), .lit (.int .u8 1), .lit (.int .u8 28), .lit (.int .u8 2), .lit (.int .u8 29), .lit (.int .u8 14), .lit (.int .u8 24), .lit (.int .u8 3), .lit (.int .u8 30), .lit (.int .u8 22), .lit (.int .u8 20), .lit (.int .u8 15), .lit (.int .u8 25), .lit (.int .u8 17), .lit (.int .u8 4), .lit (.int .u8 8), .lit (.int .u8 31), .lit (.int .u8 27), .lit (.int .u8 13), .lit (.int .u8 23), .lit (.int .u8 21), .lit (.int .u8 19), .lit (.int .u8 16), .lit (.int .u8 7), .lit (.int .u8 26), .lit (.int .u8 12), .lit (.int .u8 18), .lit (.int .u8 6), .lit (.int .u8 11), .lit (.int .u8 5), .lit (.int .u8 10), .lit (.int .u8 9)]
def laid_math_bits_deBruijn64tab {H : Type} : DataW H := .agg [.lit (.int .u8 0), .lit (.int .u8 1), .lit (.int .u8 56), .lit (.int .u8 2), .lit (.int .u8 57), .lit (.int .u8 49), .lit (.int .u8 28), .lit (.int .u8 3), .lit (.int .u8 61), .lit (.int .u8 58), .lit (.int .u8 42), .lit (.int .u8 50), .lit (.int .u8 38), .lit (.int .u8 29), .lit (.int .u8 17), .lit (.int .u8 4), .lit (.int .u8 62), .lit (.int .u8 47), .lit (.int .u8 59), .lit (.int .u8 36), .lit (.int .u8 45), .lit (.int .u8 43), .lit (.int .u8 51), .lit (.int .u8 22), .lit (.int .u8 53), .lit (.int .u8 39), .lit (.int .u8 33), .lit (.int .u8 30), .lit (.int .u8 24), .lit (.int .u8 18), .lit (.int .u8 12), .lit (.int .u8 5), .lit (.int .u8 63), .lit (.int .u8 55), .lit (.int .u8 48), .lit (.int .u8 27), .lit (.int .u8 60), .lit (.int .u8 41), .lit (.int .u8 37), .lit (.int .u8 16), .lit (.int .u8 46), .lit (.int .u8 35), .lit (.int .u8 44), .lit (.int .u8 21), .lit (.int .u8 52), .lit (.int .u8 32), .lit (.int .u8 23), .lit (.int .u8 11), .lit (.int .u8 54), .lit (.int .u8 26), .lit (.int .u8 40), .lit (.int .u8 15), .lit (.int .u8 34), .lit (.int .u8 20), .lit (.int .u8 31), .lit (.int .u8 10), .lit (.int .u8 25), .lit (.int .u8 14), .lit (.int .u8 19), .lit (.int .u8 9), .lit (.int .u8 13), .lit (.int .u8 8), .lit (.int .u8 7), .lit (.int .u8 6)]
def laid_internal_strconv_uint64pow10 {H : Type} : DataW H := .agg [.lit (.int .u64 1), .lit (.int .u64 10), .lit (.int .u64 100), .lit (.int .u64 1000), .lit (.int .u64 10000), .lit (.int .u64 100000), .lit (.int .u64 1000000), .lit (.int .u64 10000000), .lit (.int .u64 100000000), .lit (.int .u64 1000000000), .lit (.int .u64 10000000000), .lit (.int .u64 100000000000), .lit (.int .u64 1000000000000), .lit (.int .u64 10000000000000), .lit (.int .u64 100000000000000), .lit (.int .u64 1000000000000000), .lit (.int .u64 10000000000000000), .lit (.int .u64 100000000000000000), .lit (.int .u64 1000000000000000000), .lit (.int .u64 10000000000000000000)]
def laid_errors_errorType {H : Type} : DataW H := .iface "internal/reflectlite.rtype" (.agg [.ptr (.lit (.string [101, 114, 114, 111, 114]))])
def laid_muntin_sound_errFound {H : Type} : DataW H := .iface "*errors.errorString" (.ptr (.agg [.lit (.string [102, 111, 117, 110, 100])]))

/-- 'muntinlaw12.PackratMatches': WHATEVER THE INPUT: true; the input reads as it did. -/
def packratMatchesSpec : ChangeSpec := { name := "packratMatches", fn := fun _ => fun
  | [d1, d2, d3, d4, d5] => { results := [.lit (.bool true)], args := [d1, d2, d3, d4, d5] }
  | _ => none }
def packratMatchesRow : OpenClaim := { program := "ytgnkkgcgbeianaagreatdoor", sum := "9761ab93e3c61615abf18b8afc2279d6208d3c5c3465657d2fb4e415f9604c59", func := "muntin/muntinlaw12.PackratMatches", spec := "packratMatches", inPlace := ["internal/bytealg.IndexByteString", "internal/reflectlite.ValueOf", "(internal/reflectlite.Value).Type", "(internal/reflectlite.Value).IsNil", "internal/reflectlite.TypeOf", "(internal/reflectlite.Value).Elem", "(internal/reflectlite.Value).Set", "internal/bytealg.IndexString"], unfollowed := true, recurses := true, named := ["errors.errorType", "internal/bytealg.MaxLen", "math/bits.deBruijn64tab", "muntin/sound.errFound", "internal/strconv.uint64pow10", "math/bits.deBruijn32tab"], plainKeys := false, apart := false, laid := [("math/bits.deBruijn32tab", laid_math_bits_deBruijn32tab), ("math/bits.deBruijn64tab", laid_math_bits_deBruijn64tab), ("internal/strconv.uint64pow10", laid_internal_strconv_uint64pow10), ("errors.errorType", laid_errors_errorType), ("muntin/sound.errFound", laid_muntin_sound_errFound)] }
def PackratMatchesSaid : Prop := packratMatchesRow.holds Tryz.pinned (OpenSpec.ofChange packratMatchesSpec)

/-- ITS FALSE NEIGHBOUR: 'it returns false'. Refute it at one input. -/
def packratMatchesWrong : ChangeSpec := { name := "packratMatches", fn := fun _ => fun
  | [d1, d2, d3, d4, d5] => { results := [.lit (.bool false)], args := [d1, d2, d3, d4, d5] }
  | _ => none }
def PackratMatchesWrongFalsely : Prop := packratMatchesRow.holds Tryz.pinned (OpenSpec.ofChange packratMatchesWrong)

/-- 'muntinlaw12.PackratMeans': WHATEVER THE INPUT: true; the input reads as it did. -/
def packratMeansSpec : ChangeSpec := { name := "packratMeans", fn := fun _ => fun
  | [d1, d2] => { results := [.lit (.bool true)], args := [d1, d2] }
  | _ => none }
def packratMeansRow : OpenClaim := { program := "ytgnkkgcgbeianaagreatdoor", sum := "9761ab93e3c61615abf18b8afc2279d6208d3c5c3465657d2fb4e415f9604c59", func := "muntin/muntinlaw12.PackratMeans", spec := "packratMeans", inPlace := ["internal/bytealg.IndexByteString", "internal/reflectlite.ValueOf", "(internal/reflectlite.Value).Type", "(internal/reflectlite.Value).IsNil", "internal/reflectlite.TypeOf", "(internal/reflectlite.Value).Elem", "(internal/reflectlite.Value).Set", "internal/bytealg.IndexString"], unfollowed := true, recurses := true, named := ["errors.errorType", "internal/bytealg.MaxLen", "math/bits.deBruijn64tab", "muntin/sound.errFound", "internal/strconv.uint64pow10", "math/bits.deBruijn32tab"], loops := true, plainKeys := false, apart := false, laid := [("math/bits.deBruijn32tab", laid_math_bits_deBruijn32tab), ("math/bits.deBruijn64tab", laid_math_bits_deBruijn64tab), ("internal/strconv.uint64pow10", laid_internal_strconv_uint64pow10), ("errors.errorType", laid_errors_errorType), ("muntin/sound.errFound", laid_muntin_sound_errFound)] }
def PackratMeansSaid : Prop := packratMeansRow.holds Tryz.pinned (OpenSpec.ofChange packratMeansSpec)

/-- ITS FALSE NEIGHBOUR: 'it returns false'. Refute it at one input. -/
def packratMeansWrong : ChangeSpec := { name := "packratMeans", fn := fun _ => fun
  | [d1, d2] => { results := [.lit (.bool false)], args := [d1, d2] }
  | _ => none }
def PackratMeansWrongFalsely : Prop := packratMeansRow.holds Tryz.pinned (OpenSpec.ofChange packratMeansWrong)

/-- 'muntinlaw12.PackratFew': WHATEVER THE INPUT: true; the input reads as it did. -/
def packratFewSpec : ChangeSpec := { name := "packratFew", fn := fun _ => fun
  | [d1, d2] => { results := [.lit (.bool true)], args := [d1, d2] }
  | _ => none }
def packratFewRow : OpenClaim := { program := "ytgnkkgcgbeianaagreatdoor", sum := "9761ab93e3c61615abf18b8afc2279d6208d3c5c3465657d2fb4e415f9604c59", func := "muntin/muntinlaw12.PackratFew", spec := "packratFew", inPlace := ["internal/bytealg.IndexByteString", "internal/reflectlite.ValueOf", "(internal/reflectlite.Value).Type", "(internal/reflectlite.Value).IsNil", "internal/reflectlite.TypeOf", "(internal/reflectlite.Value).Elem", "(internal/reflectlite.Value).Set", "internal/bytealg.IndexString"], unfollowed := true, recurses := true, named := ["errors.errorType", "internal/bytealg.MaxLen", "math/bits.deBruijn64tab", "muntin/sound.errFound", "internal/strconv.uint64pow10", "math/bits.deBruijn32tab"], loops := true, plainKeys := false, apart := false, laid := [("math/bits.deBruijn32tab", laid_math_bits_deBruijn32tab), ("math/bits.deBruijn64tab", laid_math_bits_deBruijn64tab), ("internal/strconv.uint64pow10", laid_internal_strconv_uint64pow10), ("errors.errorType", laid_errors_errorType), ("muntin/sound.errFound", laid_muntin_sound_errFound)] }
def PackratFewSaid : Prop := packratFewRow.holds Tryz.pinned (OpenSpec.ofChange packratFewSpec)

/-- ITS FALSE NEIGHBOUR: 'it returns false'. Refute it at one input. -/
def packratFewWrong : ChangeSpec := { name := "packratFew", fn := fun _ => fun
  | [d1, d2] => { results := [.lit (.bool false)], args := [d1, d2] }
  | _ => none }
def PackratFewWrongFalsely : Prop := packratFewRow.holds Tryz.pinned (OpenSpec.ofChange packratFewWrong)

/-- 'muntinlaw12.PackratNotes': WHATEVER THE INPUT: true; the input reads as it did. -/
def packratNotesSpec : ChangeSpec := { name := "packratNotes", fn := fun _ => fun
  | [d1, d2, d3, d4, d5] => { results := [.lit (.bool true)], args := [d1, d2, d3, d4, d5] }
  | _ => none }
def packratNotesRow : OpenClaim := { program := "ytgnkkgcgbeianaagreatdoor", sum := "9761ab93e3c61615abf18b8afc2279d6208d3c5c3465657d2fb4e415f9604c59", func := "muntin/muntinlaw12.PackratNotes", spec := "packratNotes", inPlace := ["internal/bytealg.IndexByteString", "internal/reflectlite.ValueOf", "(internal/reflectlite.Value).Type", "(internal/reflectlite.Value).IsNil", "internal/reflectlite.TypeOf", "(internal/reflectlite.Value).Elem", "(internal/reflectlite.Value).Set", "internal/bytealg.IndexString"], unfollowed := true, recurses := true, named := ["errors.errorType", "internal/bytealg.MaxLen", "math/bits.deBruijn64tab", "muntin/sound.errFound", "internal/strconv.uint64pow10", "math/bits.deBruijn32tab"], loops := true, plainKeys := false, apart := false, laid := [("math/bits.deBruijn32tab", laid_math_bits_deBruijn32tab), ("math/bits.deBruijn64tab", laid_math_bits_deBruijn64tab), ("internal/strconv.uint64pow10", laid_internal_strconv_uint64pow10), ("errors.errorType", laid_errors_errorType), ("muntin/sound.errFound", laid_muntin_sound_errFound)] }
def PackratNotesSaid : Prop := packratNotesRow.holds Tryz.pinned (OpenSpec.ofChange packratNotesSpec)

/-- ITS FALSE NEIGHBOUR: 'it returns false'. Refute it at one input. -/
def packratNotesWrong : ChangeSpec := { name := "packratNotes", fn := fun _ => fun
  | [d1, d2, d3, d4, d5] => { results := [.lit (.bool false)], args := [d1, d2, d3, d4, d5] }
  | _ => none }
def PackratNotesWrongFalsely : Prop := packratNotesRow.holds Tryz.pinned (OpenSpec.ofChange packratNotesWrong)

/-- 'muntinlaw12.PackratAhead': WHATEVER THE INPUT: true; the input reads as it did. -/
def packratAheadSpec : ChangeSpec := { name := "packratAhead", fn := fun _ => fun
  | [d1, d2, d3, d4] => { results := [.lit (.bool true)], args := [d1, d2, d3, d4] }
  | _ => none }
def packratAheadRow : OpenClaim := { program := "ytgnkkgcgbeianaagreatdoor", sum := "9761ab93e3c61615abf18b8afc2279d6208d3c5c3465657d2fb4e415f9604c59", func := "muntin/muntinlaw12.PackratAhead", spec := "packratAhead", inPlace := ["internal/bytealg.IndexByteString", "internal/reflectlite.ValueOf", "(internal/reflectlite.Value).Type", "(internal/reflectlite.Value).IsNil", "internal/reflectlite.TypeOf", "(internal/reflectlite.Value).Elem", "(internal/reflectlite.Value).Set", "internal/bytealg.IndexString"], unfollowed := true, recurses := true, named := ["errors.errorType", "internal/bytealg.MaxLen", "math/bits.deBruijn64tab", "muntin/sound.errFound", "internal/strconv.uint64pow10", "math/bits.deBruijn32tab"], loops := true, plainKeys := false, apart := false, laid := [("math/bits.deBruijn32tab", laid_math_bits_deBruijn32tab), ("math/bits.deBruijn64tab", laid_math_bits_deBruijn64tab), ("internal/strconv.uint64pow10", laid_internal_strconv_uint64pow10), ("errors.errorType", laid_errors_errorType), ("muntin/sound.errFound", laid_muntin_sound_errFound)] }
def PackratAheadSaid : Prop := packratAheadRow.holds Tryz.pinned (OpenSpec.ofChange packratAheadSpec)

/-- ITS FALSE NEIGHBOUR: 'it returns false'. Refute it at one input. -/
def packratAheadWrong : ChangeSpec := { name := "packratAhead", fn := fun _ => fun
  | [d1, d2, d3, d4] => { results := [.lit (.bool false)], args := [d1, d2, d3, d4] }
  | _ => none }
def PackratAheadWrongFalsely : Prop := packratAheadRow.holds Tryz.pinned (OpenSpec.ofChange packratAheadWrong)

/- THE SECOND FORM. 'bulk': how many values and letters a reading holds, each counted each time it is reached (what is shared counts as often as it is met; a slice's spare places count too). A statement '..UptoSaid' is the law's where the arguments, and the package variables that the reading takes, are together of bulk at most 1048576: NARROWER than '..Said'. Prove '..Said' where nothing that the law and all that it calls make is longer than what came in: it says more and counts as full. Else prove '..UptoSaid'. A law counts once. -/
mutual
def uptoBulk {H : Type} : DataW H → Nat
  | .lit (.string bytes) => bytes.length + 1
  | .lit _ => 1
  | .nil => 1
  | .ptr d => uptoBulk d + 1
  | .slice elems spare => uptoBulkAll elems + uptoBulkAll spare + 1
  | .agg parts => uptoBulkAll parts + 1
  | .iface _ d => uptoBulk d + 1
  | .map entries => uptoBulkEntries entries + 1
  | .held _ => 1
def uptoBulkAll {H : Type} : List (DataW H) → Nat
  | [] => 0
  | d :: r => uptoBulk d + uptoBulkAll r
def uptoBulkEntries {H : Type} : List (Lit × DataW H) → Nat
  | [] => 0
  | x :: r => uptoBulkEntry x + uptoBulkEntries r
def uptoBulkEntry {H : Type} : Lit × DataW H → Nat
  | (.string bytes, d) => bytes.length + uptoBulk d + 1
  | (_, d) => uptoBulk d + 1
 end
def uptoSmall : (H : Type) → List (DataW H) → Bool := fun _ ds => decide (uptoBulkAll ds ≤ 1048576)
def OpenSpec.upto (s : _root_.Go.ChangeSpec) : _root_.Go.OpenSpec := { _root_.Go.OpenSpec.ofChange s with cond := some uptoSmall }

/-- 'muntinlaw12.PackratMatches', WHERE WHAT IT READS IS OF BULK AT MOST 1048576: true; the input reads as it did. -/
def packratMatchesUptoRow : OpenClaim := { program := "ytgnkkgcgbeianaagreatdoor", sum := "9761ab93e3c61615abf18b8afc2279d6208d3c5c3465657d2fb4e415f9604c59", func := "muntin/muntinlaw12.PackratMatches", spec := "packratMatches", inPlace := ["internal/bytealg.IndexByteString", "internal/reflectlite.ValueOf", "(internal/reflectlite.Value).Type", "(internal/reflectlite.Value).IsNil", "internal/reflectlite.TypeOf", "(internal/reflectlite.Value).Elem", "(internal/reflectlite.Value).Set", "internal/bytealg.IndexString"], unfollowed := true, recurses := true, named := ["errors.errorType", "internal/bytealg.MaxLen", "math/bits.deBruijn64tab", "muntin/sound.errFound", "internal/strconv.uint64pow10", "math/bits.deBruijn32tab"], plainKeys := false, apart := false, laid := [("math/bits.deBruijn32tab", laid_math_bits_deBruijn32tab), ("math/bits.deBruijn64tab", laid_math_bits_deBruijn64tab), ("internal/strconv.uint64pow10", laid_internal_strconv_uint64pow10), ("errors.errorType", laid_errors_errorType), ("muntin/sound.errFound", laid_muntin_sound_errFound)], narrowed := true }
def PackratMatchesUptoSaid : Prop := packratMatchesUptoRow.holds Tryz.pinned (OpenSpec.upto packratMatchesSpec)

/-- 'muntinlaw12.PackratMeans', WHERE WHAT IT READS IS OF BULK AT MOST 1048576: true; the input reads as it did. -/
def packratMeansUptoRow : OpenClaim := { program := "ytgnkkgcgbeianaagreatdoor", sum := "9761ab93e3c61615abf18b8afc2279d6208d3c5c3465657d2fb4e415f9604c59", func := "muntin/muntinlaw12.PackratMeans", spec := "packratMeans", inPlace := ["internal/bytealg.IndexByteString", "internal/reflectlite.ValueOf", "(internal/reflectlite.Value).Type", "(internal/reflectlite.Value).IsNil", "internal/reflectlite.TypeOf", "(internal/reflectlite.Value).Elem", "(internal/reflectlite.Value).Set", "internal/bytealg.IndexString"], unfollowed := true, recurses := true, named := ["errors.errorType", "internal/bytealg.MaxLen", "math/bits.deBruijn64tab", "muntin/sound.errFound", "internal/strconv.uint64pow10", "math/bits.deBruijn32tab"], loops := true, plainKeys := false, apart := false, laid := [("math/bits.deBruijn32tab", laid_math_bits_deBruijn32tab), ("math/bits.deBruijn64tab", laid_math_bits_deBruijn64tab), ("internal/strconv.uint64pow10", laid_internal_strconv_uint64pow10), ("errors.errorType", laid_errors_errorType), ("muntin/sound.errFound", laid_muntin_sound_errFound)], narrowed := true }
def PackratMeansUptoSaid : Prop := packratMeansUptoRow.holds Tryz.pinned (OpenSpec.upto packratMeansSpec)

/-- 'muntinlaw12.PackratFew', WHERE WHAT IT READS IS OF BULK AT MOST 1048576: true; the input reads as it did. -/
def packratFewUptoRow : OpenClaim := { program := "ytgnkkgcgbeianaagreatdoor", sum := "9761ab93e3c61615abf18b8afc2279d6208d3c5c3465657d2fb4e415f9604c59", func := "muntin/muntinlaw12.PackratFew", spec := "packratFew", inPlace := ["internal/bytealg.IndexByteString", "internal/reflectlite.ValueOf", "(internal/reflectlite.Value).Type", "(internal/reflectlite.Value).IsNil", "internal/reflectlite.TypeOf", "(internal/reflectlite.Value).Elem", "(internal/reflectlite.Value).Set", "internal/bytealg.IndexString"], unfollowed := true, recurses := true, named := ["errors.errorType", "internal/bytealg.MaxLen", "math/bits.deBruijn64tab", "muntin/sound.errFound", "internal/strconv.uint64pow10", "math/bits.deBruijn32tab"], loops := true, plainKeys := false, apart := false, laid := [("math/bits.deBruijn32tab", laid_math_bits_deBruijn32tab), ("math/bits.deBruijn64tab", laid_math_bits_deBruijn64tab), ("internal/strconv.uint64pow10", laid_internal_strconv_uint64pow10), ("errors.errorType", laid_errors_errorType), ("muntin/sound.errFound", laid_muntin_sound_errFound)], narrowed := true }
def PackratFewUptoSaid : Prop := packratFewUptoRow.holds Tryz.pinned (OpenSpec.upto packratFewSpec)

/-- 'muntinlaw12.PackratNotes', WHERE WHAT IT READS IS OF BULK AT MOST 1048576: true; the input reads as it did. -/
def packratNotesUptoRow : OpenClaim := { program := "ytgnkkgcgbeianaagreatdoor", sum := "9761ab93e3c61615abf18b8afc2279d6208d3c5c3465657d2fb4e415f9604c59", func := "muntin/muntinlaw12.PackratNotes", spec := "packratNotes", inPlace := ["internal/bytealg.IndexByteString", "internal/reflectlite.ValueOf", "(internal/reflectlite.Value).Type", "(internal/reflectlite.Value).IsNil", "internal/reflectlite.TypeOf", "(internal/reflectlite.Value).Elem", "(internal/reflectlite.Value).Set", "internal/bytealg.IndexString"], unfollowed := true, recurses := true, named := ["errors.errorType", "internal/bytealg.MaxLen", "math/bits.deBruijn64tab", "muntin/sound.errFound", "internal/strconv.uint64pow10", "math/bits.deBruijn32tab"], loops := true, plainKeys := false, apart := false, laid := [("math/bits.deBruijn32tab", laid_math_bits_deBruijn32tab), ("math/bits.deBruijn64tab", laid_math_bits_deBruijn64tab), ("internal/strconv.uint64pow10", laid_internal_strconv_uint64pow10), ("errors.errorType", laid_errors_errorType), ("muntin/sound.errFound", laid_muntin_sound_errFound)], narrowed := true }
def PackratNotesUptoSaid : Prop := packratNotesUptoRow.holds Tryz.pinned (OpenSpec.upto packratNotesSpec)

/-- 'muntinlaw12.PackratAhead', WHERE WHAT IT READS IS OF BULK AT MOST 1048576: true; the input reads as it did. -/
def packratAheadUptoRow : OpenClaim := { program := "ytgnkkgcgbeianaagreatdoor", sum := "9761ab93e3c61615abf18b8afc2279d6208d3c5c3465657d2fb4e415f9604c59", func := "muntin/muntinlaw12.PackratAhead", spec := "packratAhead", inPlace := ["internal/bytealg.IndexByteString", "internal/reflectlite.ValueOf", "(internal/reflectlite.Value).Type", "(internal/reflectlite.Value).IsNil", "internal/reflectlite.TypeOf", "(internal/reflectlite.Value).Elem", "(internal/reflectlite.Value).Set", "internal/bytealg.IndexString"], unfollowed := true, recurses := true, named := ["errors.errorType", "internal/bytealg.MaxLen", "math/bits.deBruijn64tab", "muntin/sound.errFound", "internal/strconv.uint64pow10", "math/bits.deBruijn32tab"], loops := true, plainKeys := false, apart := false, laid := [("math/bits.deBruijn32tab", laid_math_bits_deBruijn32tab), ("math/bits.deBruijn64tab", laid_math_bits_deBruijn64tab), ("internal/strconv.uint64pow10", laid_internal_strconv_uint64pow10), ("errors.errorType", laid_errors_errorType), ("muntin/sound.errFound", laid_muntin_sound_errFound)], narrowed := true }
def PackratAheadUptoSaid : Prop := packratAheadUptoRow.holds Tryz.pinned (OpenSpec.upto packratAheadSpec)

end Rows
end Go.Proofs.YtgnkkgcgbeianaaGreatDoor
