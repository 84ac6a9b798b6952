/-
  NARROWER THAN 'FOR EVERY INPUT', by the rows' own cells (each row's printed sentence says how): FordMatches: loops, laid · FordTold: loops, laid · FordSteps: loops, laid · FordAhead: loops, laid · FordRows: loops, laid · FordChoices: loops, laid.
  DERIVED. THE GIVEN ROWS OF THIS SEAT. 6 by the template 'for every input the law returns true; each argument reads behind the call as it read before'; 0 by the template 'total and deterministic' (their statements: YtgmcjddjdidpjaaGreatDoorTotals.lean).
  GIVEN WITH THE SEED: the statements are not yours to turn. If you find one false, say at which input.
  Laid BY PROGRAM, IN A SANDBOX (cutbox-rows.mjs): the forced cells as the released guide's own fill.sh prints them over the translation 3f641654b2c795b7… (all of the seat's roots in one cut). By AI agents, Wed Nov 11 2026. No macro, syntax, notation, axiom, sorry.
-/
import Derived.Test.YtgmcjddjdidpjaaGreatDoorChecked
import GoSem.Claim
import GoSem.ClaimJoined
import GoSem.ClaimMapViews
import Derived.JoinedTies
import Derived.KernelRfl
namespace Go.Proofs.YtgmcjddjdidpjaaGreatDoor
/- THE CELL 'sum', in the pinned program and in every row, IS THE sha256 OF THE DUMP (.gsa) THAT YtgmcjddjdidpjaaGreatDoorProg.lean LOADS. Nothing in Lean hashes anything: it is a label: what it is worth is what the hold of that sum in a sandbox is worth. -/
noncomputable def Tryz.pinned : Pinned := { name := "ytgmcjddjdidpjaagreatdoor", sum := "3f641654b2c795b73e936d95b6b4a83ee9c1a497249dc61c13e1c9491d1f6393", checked := Tryz.checked }
namespace Rows
def none {H : Type} : Left H := { results := [], args := [] }

/- WHAT THE LISTED PACKAGE-LEVEL VARIABLES READ AS WHEN THE CALL BEGINS. Each datum BY PROGRAM (the guide's laid-datum.mjs) off the statement by which the dump's own 'gosem.cut.vars' lays the variable. In a bare row this is a premise. The card (YtgmcjddjdidpjaaGreatDoorCards.lean) ties it to the program's text. -/
def laid_math_bits_deBruijn64tab {H : Type} : DataW H := .agg [.lit (.int .u8 0), .lit (.int .u8 1), .lit (.int .u8 56), .lit (.int .u8 2), .lit (.int .u8 57), .lit (.int .u8 49), .lit (.int .u8 28), .lit (.int .u8 3), .lit (.int .u8 61), .lit (.int .u8 58), .lit (.int .u8 42), .lit (.int .u8 50), .lit (.int .u8 38), .lit (.int .u8 29), .lit (.int .u8 17), .lit (.int .u8 4), .lit (.int .u8 62), .lit (.int .u8 47), .lit (.int .u8 59), .lit (.int .u8 36), .lit (.int .u8 45), .lit (.int .u8 43), .lit (.int .u8 51), .lit (.int .u8 22), .lit (.int .u8 53), .lit (.int .u8 39), .lit (.int .u8 33), .lit (.int .u8 30), .lit (.int .u8 24), .lit (.int .u8 18), .lit (.int .u8 12), .lit (.int .u8 5), .lit (.int .u8 63), .lit (.int .u8 55), .lit (.int .u8 48), .lit (.int .u8 27), .lit (.int .u8 60), .lit (.int .u8 41), .lit (.int .u8 37), .lit (.int .u8 16), .lit (.int .u8 46), .lit (.int .u8 35), .lit (.int .u8 44), .lit (.int .u8 21), .lit (.int .u8 52), .lit (.int .u8 32), .lit (.int .u8 23), .lit (.int .u8 11), .lit (.int .u8 54), .lit (.int .u8 26), .lit (.int .u8 40), .lit (.int .u8 15), .lit (.int .u8 34), .lit (.int .u8 20), .lit (.int .u8 31), .lit (.int .u8 10), .lit (.int .u8 25), .lit (.int .u8 14), .lit (.int .u8 19), .lit (.int .u8 9), .lit (.int .u8 13), .lit (.int .u8 8), .lit (.int .u8 7), .lit (.int .u8 6)]
def laid_errors_errorType {H : Type} : DataW H := .iface "internal/reflectlite.rtype" (.agg [.ptr (.lit (.string [101, 114, 114, 111, 114]))])
def laid_muntin_sound_errFound {H : Type} : DataW H := .iface "*errors.errorString" (.ptr (.agg [.lit (.string [102, 111, 117, 110, 100])]))

/-- 'muntinlaw10.FordMatches': WHATEVER THE INPUT: true; the input reads as it did. -/
def fordMatchesSpec : ChangeSpec := { name := "fordMatches", fn := fun _ => fun
  | [d1, d2, d3, d4, d5] => { results := [.lit (.bool true)], args := [d1, d2, d3, d4, d5] }
  | _ => none }
def fordMatchesRow : OpenClaim := { program := "ytgmcjddjdidpjaagreatdoor", sum := "3f641654b2c795b73e936d95b6b4a83ee9c1a497249dc61c13e1c9491d1f6393", func := "muntin/muntinlaw10.FordMatches", spec := "fordMatches", inPlace := ["internal/bytealg.IndexByteString", "internal/reflectlite.ValueOf", "(internal/reflectlite.Value).Type", "(internal/reflectlite.Value).IsNil", "internal/reflectlite.TypeOf", "(internal/reflectlite.Value).Elem", "(internal/reflectlite.Value).Set", "internal/bytealg.IndexString"], unfollowed := true, recurses := true, named := ["errors.errorType", "internal/bytealg.MaxLen", "math/bits.deBruijn64tab", "muntin/sound.errFound"], loops := true, apart := false, laid := [("math/bits.deBruijn64tab", laid_math_bits_deBruijn64tab), ("errors.errorType", laid_errors_errorType), ("muntin/sound.errFound", laid_muntin_sound_errFound)] }
def FordMatchesSaid : Prop := fordMatchesRow.holds Tryz.pinned (OpenSpec.ofChange fordMatchesSpec)

/-- ITS FALSE NEIGHBOUR: 'it returns false'. Refute it at one input. -/
def fordMatchesWrong : ChangeSpec := { name := "fordMatches", fn := fun _ => fun
  | [d1, d2, d3, d4, d5] => { results := [.lit (.bool false)], args := [d1, d2, d3, d4, d5] }
  | _ => none }
def FordMatchesWrongFalsely : Prop := fordMatchesRow.holds Tryz.pinned (OpenSpec.ofChange fordMatchesWrong)

/-- 'muntinlaw10.FordTold': WHATEVER THE INPUT: true; the input reads as it did. -/
def fordToldSpec : ChangeSpec := { name := "fordTold", fn := fun _ => fun
  | [d1, d2, d3] => { results := [.lit (.bool true)], args := [d1, d2, d3] }
  | _ => none }
def fordToldRow : OpenClaim := { program := "ytgmcjddjdidpjaagreatdoor", sum := "3f641654b2c795b73e936d95b6b4a83ee9c1a497249dc61c13e1c9491d1f6393", func := "muntin/muntinlaw10.FordTold", spec := "fordTold", inPlace := ["internal/bytealg.IndexByteString", "internal/reflectlite.ValueOf", "(internal/reflectlite.Value).Type", "(internal/reflectlite.Value).IsNil", "internal/reflectlite.TypeOf", "(internal/reflectlite.Value).Elem", "(internal/reflectlite.Value).Set", "internal/bytealg.IndexString"], unfollowed := true, recurses := true, named := ["errors.errorType", "internal/bytealg.MaxLen", "math/bits.deBruijn64tab", "muntin/sound.errFound"], loops := true, apart := false, laid := [("math/bits.deBruijn64tab", laid_math_bits_deBruijn64tab), ("errors.errorType", laid_errors_errorType), ("muntin/sound.errFound", laid_muntin_sound_errFound)] }
def FordToldSaid : Prop := fordToldRow.holds Tryz.pinned (OpenSpec.ofChange fordToldSpec)

/-- ITS FALSE NEIGHBOUR: 'it returns false'. Refute it at one input. -/
def fordToldWrong : ChangeSpec := { name := "fordTold", fn := fun _ => fun
  | [d1, d2, d3] => { results := [.lit (.bool false)], args := [d1, d2, d3] }
  | _ => none }
def FordToldWrongFalsely : Prop := fordToldRow.holds Tryz.pinned (OpenSpec.ofChange fordToldWrong)

/-- 'muntinlaw10.FordSteps': WHATEVER THE INPUT: true; the input reads as it did. -/
def fordStepsSpec : ChangeSpec := { name := "fordSteps", fn := fun _ => fun
  | [d1, d2, d3, d4, d5] => { results := [.lit (.bool true)], args := [d1, d2, d3, d4, d5] }
  | _ => none }
def fordStepsRow : OpenClaim := { program := "ytgmcjddjdidpjaagreatdoor", sum := "3f641654b2c795b73e936d95b6b4a83ee9c1a497249dc61c13e1c9491d1f6393", func := "muntin/muntinlaw10.FordSteps", spec := "fordSteps", inPlace := ["internal/bytealg.IndexByteString", "internal/reflectlite.ValueOf", "(internal/reflectlite.Value).Type", "(internal/reflectlite.Value).IsNil", "internal/reflectlite.TypeOf", "(internal/reflectlite.Value).Elem", "(internal/reflectlite.Value).Set", "internal/bytealg.IndexString"], unfollowed := true, recurses := true, named := ["errors.errorType", "internal/bytealg.MaxLen", "math/bits.deBruijn64tab", "muntin/sound.errFound"], loops := true, apart := false, laid := [("math/bits.deBruijn64tab", laid_math_bits_deBruijn64tab), ("errors.errorType", laid_errors_errorType), ("muntin/sound.errFound", laid_muntin_sound_errFound)] }
def FordStepsSaid : Prop := fordStepsRow.holds Tryz.pinned (OpenSpec.ofChange fordStepsSpec)

/-- ITS FALSE NEIGHBOUR: 'it returns false'. Refute it at one input. -/
def fordStepsWrong : ChangeSpec := { name := "fordSteps", fn := fun _ => fun
  | [d1, d2, d3, d4, d5] => { results := [.lit (.bool false)], args := [d1, d2, d3, d4, d5] }
  | _ => none }
def FordStepsWrongFalsely : Prop := fordStepsRow.holds Tryz.pinned (OpenSpec.ofChange fordStepsWrong)

/-- 'muntinlaw10.FordAhead': WHATEVER THE INPUT: true; the input reads as it did. -/
def fordAheadSpec : ChangeSpec := { name := "fordAhead", fn := fun _ => fun
  | [d1, d2, d3, d4] => { results := [.lit (.bool true)], args := [d1, d2, d3, d4] }
  | _ => none }
def fordAheadRow : OpenClaim := { program := "ytgmcjddjdidpjaagreatdoor", sum := "3f641654b2c795b73e936d95b6b4a83ee9c1a497249dc61c13e1c9491d1f6393", func := "muntin/muntinlaw10.FordAhead", spec := "fordAhead", inPlace := ["internal/bytealg.IndexByteString", "internal/reflectlite.ValueOf", "(internal/reflectlite.Value).Type", "(internal/reflectlite.Value).IsNil", "internal/reflectlite.TypeOf", "(internal/reflectlite.Value).Elem", "(internal/reflectlite.Value).Set", "internal/bytealg.IndexString"], unfollowed := true, recurses := true, named := ["errors.errorType", "internal/bytealg.MaxLen", "math/bits.deBruijn64tab", "muntin/sound.errFound"], loops := true, apart := false, laid := [("math/bits.deBruijn64tab", laid_math_bits_deBruijn64tab), ("errors.errorType", laid_errors_errorType), ("muntin/sound.errFound", laid_muntin_sound_errFound)] }
def FordAheadSaid : Prop := fordAheadRow.holds Tryz.pinned (OpenSpec.ofChange fordAheadSpec)

/-- ITS FALSE NEIGHBOUR: 'it returns false'. Refute it at one input. -/
def fordAheadWrong : ChangeSpec := { name := "fordAhead", fn := fun _ => fun
  | [d1, d2, d3, d4] => { results := [.lit (.bool false)], args := [d1, d2, d3, d4] }
  | _ => none }
def FordAheadWrongFalsely : Prop := fordAheadRow.holds Tryz.pinned (OpenSpec.ofChange fordAheadWrong)

/-- 'muntinlaw10.FordRows': WHATEVER THE INPUT: true; the input reads as it did. -/
def fordRowsSpec : ChangeSpec := { name := "fordRows", fn := fun _ => fun
  | [d1, d2, d3, d4] => { results := [.lit (.bool true)], args := [d1, d2, d3, d4] }
  | _ => none }
def fordRowsRow : OpenClaim := { program := "ytgmcjddjdidpjaagreatdoor", sum := "3f641654b2c795b73e936d95b6b4a83ee9c1a497249dc61c13e1c9491d1f6393", func := "muntin/muntinlaw10.FordRows", spec := "fordRows", inPlace := ["internal/bytealg.IndexByteString", "internal/reflectlite.ValueOf", "(internal/reflectlite.Value).Type", "(internal/reflectlite.Value).IsNil", "internal/reflectlite.TypeOf", "(internal/reflectlite.Value).Elem", "(internal/reflectlite.Value).Set", "internal/bytealg.IndexString"], unfollowed := true, recurses := true, named := ["errors.errorType", "internal/bytealg.MaxLen", "math/bits.deBruijn64tab", "muntin/sound.errFound"], loops := true, apart := false, laid := [("math/bits.deBruijn64tab", laid_math_bits_deBruijn64tab), ("errors.errorType", laid_errors_errorType), ("muntin/sound.errFound", laid_muntin_sound_errFound)] }
def FordRowsSaid : Prop := fordRowsRow.holds Tryz.pinned (OpenSpec.ofChange fordRowsSpec)

/-- ITS FALSE NEIGHBOUR: 'it returns false'. Refute it at one input. -/
def fordRowsWrong : ChangeSpec := { name := "fordRows", fn := fun _ => fun
  | [d1, d2, d3, d4] => { results := [.lit (.bool false)], args := [d1, d2, d3, d4] }
  | _ => none }
def FordRowsWrongFalsely : Prop := fordRowsRow.holds Tryz.pinned (OpenSpec.ofChange fordRowsWrong)

/-- 'muntinlaw10.FordChoices': WHATEVER THE INPUT: true; the input reads as it did. -/
def fordChoicesSpec : ChangeSpec := { name := "fordChoices", fn := fun _ => fun
  | [d1, d2, d3, d4] => { results := [.lit (.bool true)], args := [d1, d2, d3, d4] }
  | _ => none }
def fordChoicesRow : OpenClaim := { program := "ytgmcjddjdidpjaagreatdoor", sum := "3f641654b2c795b73e936d95b6b4a83ee9c1a497249dc61c13e1c9491d1f6393", func := "muntin/muntinlaw10.FordChoices", spec := "fordChoices", inPlace := ["internal/bytealg.IndexByteString", "internal/reflectlite.ValueOf", "(internal/reflectlite.Value).Type", "(internal/reflectlite.Value).IsNil", "internal/reflectlite.TypeOf", "(internal/reflectlite.Value).Elem", "(internal/reflectlite.Value).Set", "internal/bytealg.IndexString"], unfollowed := true, recurses := true, named := ["errors.errorType", "internal/bytealg.MaxLen", "math/bits.deBruijn64tab", "muntin/sound.errFound"], loops := true, apart := false, laid := [("math/bits.deBruijn64tab", laid_math_bits_deBruijn64tab), ("errors.errorType", laid_errors_errorType), ("muntin/sound.errFound", laid_muntin_sound_errFound)] }
def FordChoicesSaid : Prop := fordChoicesRow.holds Tryz.pinned (OpenSpec.ofChange fordChoicesSpec)

/-- ITS FALSE NEIGHBOUR: 'it returns false'. Refute it at one input. -/
def fordChoicesWrong : ChangeSpec := { name := "fordChoices", fn := fun _ => fun
  | [d1, d2, d3, d4] => { results := [.lit (.bool false)], args := [d1, d2, d3, d4] }
  | _ => none }
def FordChoicesWrongFalsely : Prop := fordChoicesRow.holds Tryz.pinned (OpenSpec.ofChange fordChoicesWrong)

/- THE SECOND FORM. 'bulk': how many values and letters a reading holds, each counted each time it is reached (what is shared counts as often as it is met; a slice's spare places count too). A statement '..UptoSaid' is the law's where the arguments, and the package variables that the reading takes, are together of bulk at most 1048576: NARROWER than '..Said'. Prove '..Said' where nothing that the law and all that it calls make is longer than what came in: it says more and counts as full. Else prove '..UptoSaid'. A law counts once. -/
mutual
def uptoBulk {H : Type} : DataW H → Nat
  | .lit (.string bytes) => bytes.length + 1
  | .lit _ => 1
  | .nil => 1
  | .ptr d => uptoBulk d + 1
  | .slice elems spare => uptoBulkAll elems + uptoBulkAll spare + 1
  | .agg parts => uptoBulkAll parts + 1
  | .iface _ d => uptoBulk d + 1
  | .map entries => uptoBulkEntries entries + 1
  | .held _ => 1
def uptoBulkAll {H : Type} : List (DataW H) → Nat
  | [] => 0
  | d :: r => uptoBulk d + uptoBulkAll r
def uptoBulkEntries {H : Type} : List (Lit × DataW H) → Nat
  | [] => 0
  | x :: r => uptoBulkEntry x + uptoBulkEntries r
def uptoBulkEntry {H : Type} : Lit × DataW H → Nat
  | (.string bytes, d) => bytes.length + uptoBulk d + 1
  | (_, d) => uptoBulk d + 1
 end
def uptoSmall : (H : Type) → List (DataW H) → Bool := fun _ ds => decide (uptoBulkAll ds ≤ 1048576)
def OpenSpec.upto (s : _root_.Go.ChangeSpec) : _root_.Go.OpenSpec := { _root_.Go.OpenSpec.ofChange s with cond := some uptoSmall }

/-- 'muntinlaw10.FordMatches', WHERE WHAT IT READS IS OF BULK AT MOST 1048576: true; the input reads as it did. -/
def fordMatchesUptoRow : OpenClaim := { program := "ytgmcjddjdidpjaagreatdoor", sum := "3f641654b2c795b73e936d95b6b4a83ee9c1a497249dc61c13e1c9491d1f6393", func := "muntin/muntinlaw10.FordMatches", spec := "fordMatches", inPlace := ["internal/bytealg.IndexByteString", "internal/reflectlite.ValueOf", "(internal/reflectlite.Value).Type", "(internal/reflectlite.Value).IsNil", "internal/reflectlite.TypeOf", "(internal/reflectlite.Value).Elem", "(internal/reflectlite.Value).Set", "internal/bytealg.IndexString"], unfollowed := true, recurses := true, named := ["errors.errorType", "internal/bytealg.MaxLen", "math/bits.deBruijn64tab", "muntin/sound.errFound"], loops := true, apart := false, laid := [("math/bits.deBruijn64tab", laid_math_bits_deBruijn64tab), ("errors.errorType", laid_errors_errorType), ("muntin/sound.errFound", laid_muntin_sound_errFound)], narrowed := true }
def FordMatchesUptoSaid : Prop := fordMatchesUptoRow.holds Tryz.pinned (OpenSpec.upto fordMatchesSpec)

/-- 'muntinlaw10.FordTold', WHERE WHAT IT READS IS OF BULK AT MOST 1048576: true; the input reads as it did. -/
def fordToldUptoRow : OpenClaim := { program := "ytgmcjddjdidpjaagreatdoor", sum := "3f641654b2c795b73e936d95b6b4a83ee9c1a497249dc61c13e1c9491d1f6393", func := "muntin/muntinlaw10.FordTold", spec := "fordTold", inPlace := ["internal/bytealg.IndexByteString", "internal/reflectlite.ValueOf", "(internal/reflectlite.Value).Type", "(internal/reflectlite.Value).IsNil", "internal/reflectlite.TypeOf", "(internal/reflectlite.Value).Elem", "(internal/reflectlite.Value).Set", "internal/bytealg.IndexString"], unfollowed := true, recurses := true, named := ["errors.errorType", "internal/bytealg.MaxLen", "math/bits.deBruijn64tab", "muntin/sound.errFound"], loops := true, apart := false, laid := [("math/bits.deBruijn64tab", laid_math_bits_deBruijn64tab), ("errors.errorType", laid_errors_errorType), ("muntin/sound.errFound", laid_muntin_sound_errFound)], narrowed := true }
def FordToldUptoSaid : Prop := fordToldUptoRow.holds Tryz.pinned (OpenSpec.upto fordToldSpec)

/-- 'muntinlaw10.FordSteps', WHERE WHAT IT READS IS OF BULK AT MOST 1048576: true; the input reads as it did. -/
def fordStepsUptoRow : OpenClaim := { program := "ytgmcjddjdidpjaagreatdoor", sum := "3f641654b2c795b73e936d95b6b4a83ee9c1a497249dc61c13e1c9491d1f6393", func := "muntin/muntinlaw10.FordSteps", spec := "fordSteps", inPlace := ["internal/bytealg.IndexByteString", "internal/reflectlite.ValueOf", "(internal/reflectlite.Value).Type", "(internal/reflectlite.Value).IsNil", "internal/reflectlite.TypeOf", "(internal/reflectlite.Value).Elem", "(internal/reflectlite.Value).Set", "internal/bytealg.IndexString"], unfollowed := true, recurses := true, named := ["errors.errorType", "internal/bytealg.MaxLen", "math/bits.deBruijn64tab", "muntin/sound.errFound"], loops := true, apart := false, laid := [("math/bits.deBruijn64tab", laid_math_bits_deBruijn64tab), ("errors.errorType", laid_errors_errorType), ("muntin/sound.errFound", laid_muntin_sound_errFound)], narrowed := true }
def FordStepsUptoSaid : Prop := fordStepsUptoRow.holds Tryz.pinned (OpenSpec.upto fordStepsSpec)

/-- 'muntinlaw10.FordAhead', WHERE WHAT IT READS IS OF BULK AT MOST 1048576: true; the input reads as it did. -/
def fordAheadUptoRow : OpenClaim := { program := "ytgmcjddjdidpjaagreatdoor", sum := "3f641654b2c795b73e936d95b6b4a83ee9c1a497249dc61c13e1c9491d1f6393", func := "muntin/muntinlaw10.FordAhead", spec := "fordAhead", inPlace := ["internal/bytealg.IndexByteString", "internal/reflectlite.ValueOf", "(internal/reflectlite.Value).Type", "(internal/reflectlite.Value).IsNil", "internal/reflectlite.TypeOf", "(internal/reflectlite.Value).Elem", "(internal/reflectlite.Value).Set", "internal/bytealg.IndexString"], unfollowed := true, recurses := true, named := ["errors.errorType", "internal/bytealg.MaxLen", "math/bits.deBruijn64tab", "muntin/sound.errFound"], loops := true, apart := false, laid := [("math/bits.deBruijn64tab", laid_math_bits_deBruijn64tab), ("errors.errorType", laid_errors_errorType), ("muntin/sound.errFound", laid_muntin_sound_errFound)], narrowed := true }
def FordAheadUptoSaid : Prop := fordAheadUptoRow.holds Tryz.pinned (OpenSpec.upto fordAheadSpec)

/-- 'muntinlaw10.FordRows', WHERE WHAT IT READS IS OF BULK AT MOST 1048576: true; the input reads as it did. -/
def fordRowsUptoRow : OpenClaim := { program := "ytgmcjddjdidpjaagreatdoor", sum := "3f641654b2c795b73e936d95b6b4a83ee9c1a497249dc61c13e1c9491d1f6393", func := "muntin/muntinlaw10.FordRows", spec := "fordRows", inPlace := ["internal/bytealg.IndexByteString", "internal/reflectlite.ValueOf", "(internal/reflectlite.Value).Type", "(internal/reflectlite.Value).IsNil", "internal/reflectlite.TypeOf", "(internal/reflectlite.Value).Elem", "(internal/reflectlite.Value).Set", "internal/bytealg.IndexString"], unfollowed := true, recurses := true, named := ["errors.errorType", "internal/bytealg.MaxLen", "math/bits.deBruijn64tab", "muntin/sound.errFound"], loops := true, apart := false, laid := [("math/bits.deBruijn64tab", laid_math_bits_deBruijn64tab), ("errors.errorType", laid_errors_errorType), ("muntin/sound.errFound", laid_muntin_sound_errFound)], narrowed := true }
def FordRowsUptoSaid : Prop := fordRowsUptoRow.holds Tryz.pinned (OpenSpec.upto fordRowsSpec)

/-- 'muntinlaw10.FordChoices', WHERE WHAT IT READS IS OF BULK AT MOST 1048576: true; the input reads as it did. -/
def fordChoicesUptoRow : OpenClaim := { program := "ytgmcjddjdidpjaagreatdoor", sum := "3f641654b2c795b73e936d95b6b4a83ee9c1a497249dc61c13e1c9491d1f6393", func := "muntin/muntinlaw10.FordChoices", spec := "fordChoices", inPlace := ["internal/bytealg.IndexByteString", "internal/reflectlite.ValueOf", "(internal/reflectlite.Value).Type", "(internal/reflectlite.Value).IsNil", "internal/reflectlite.TypeOf", "(internal/reflectlite.Value).Elem", "(internal/reflectlite.Value).Set", "internal/bytealg.IndexString"], unfollowed := true, recurses := true, named := ["errors.errorType", "internal/bytealg.MaxLen", "math/bits.deBruijn64tab", "muntin/sound.errFound"], loops := true, apart := false, laid := [("math/bits.deBruijn64tab", laid_math_bits_deBruijn64tab), ("errors.errorType", laid_errors_errorType), ("muntin/sound.errFound", laid_muntin_sound_errFound)], narrowed := true }
def FordChoicesUptoSaid : Prop := fordChoicesUptoRow.holds Tryz.pinned (OpenSpec.upto fordChoicesSpec)

end Rows
end Go.Proofs.YtgmcjddjdidpjaaGreatDoor
