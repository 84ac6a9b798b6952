/-
  NARROWER THAN 'FOR EVERY INPUT', by the rows' own cells (each row's printed sentence says how): NullableTells: loops, laid · NullableRefs: loops, laid · NullablePruned: loops, laid · NullableRows: loops, laid · NullableLooks: loops, laid.
  DERIVED. THE GIVEN ROWS OF THIS SEAT. 5 by the template 'for every input the law returns true; each argument reads behind the call as it read before'; 0 by the template 'total and deterministic' (their statements: YtgoogfbphilpmaaGreatDoorTotals.lean).
  GIVEN WITH THE SEED: the statements are not yours to turn. If you find one false, say at which input.
  Laid BY PROGRAM, IN A SANDBOX (cutbox-rows.mjs): the forced cells as the released guide's own fill.sh prints them over the translation 5300a3502d693bc5… (all of the seat's roots in one cut). By AI agents, Wed Nov 11 2026. No macro, syntax, notation, axiom, sorry.
-/
import Derived.Test.YtgoogfbphilpmaaGreatDoorChecked
import GoSem.Claim
import GoSem.ClaimJoined
import GoSem.ClaimMapViews
import Derived.JoinedTies
import Derived.KernelRfl
namespace Go.Proofs.YtgoogfbphilpmaaGreatDoor
/- THE CELL 'sum', in the pinned program and in every row, IS THE sha256 OF THE DUMP (.gsa) THAT YtgoogfbphilpmaaGreatDoorProg.lean LOADS. Nothing in Lean hashes anything: it is a label: what it is worth is what the hold of that sum in a sandbox is worth. -/
noncomputable def Tryz.pinned : Pinned := { name := "ytgoogfbphilpmaagreatdoor", sum := "5300a3502d693bc581f953ae76e95978ea39a63d95ad0ea3bf625b99c12a81e8", checked := Tryz.checked }
namespace Rows
def none {H : Type} : Left H := { results := [], args := [] }

/- WHAT THE LISTED PACKAGE-LEVEL VARIABLES READ AS WHEN THE CALL BEGINS. Each datum BY PROGRAM (the guide's laid-datum.mjs) off the statement by which the dump's own 'gosem.cut.vars' lays the variable. In a bare row this is a premise. The card (YtgoogfbphilpmaaGreatDoorCards.lean) ties it to the program's text. -/
def laid_math_bits_deBruijn64tab {H : Type} : DataW H := .agg [.lit (.int .u8 0), .lit (.int .u8 1), .lit (.int .u8 56), .lit (.int .u8 2), .lit (.int .u8 57), .lit (.int .u8 49), .lit (.int .u8 28), .lit (.int .u8 3), .lit (.int .u8 61), .lit (.int .u8 58), .lit (.int .u8 42), .lit (.int .u8 50), .lit (.int .u8 38), .lit (.int .u8 29), .lit (.int .u8 17), .lit (.int .u8 4), .lit (.int .u8 62), .lit (.int .u8 47), .lit (.int .u8 59), .lit (.int .u8 36), .lit (.int .u8 45), .lit (.int .u8 43), .lit (.int .u8 51), .lit (.int .u8 22), .lit (.int .u8 53), .lit (.int .u8 39), .lit (.int .u8 33), .lit (.int .u8 30), .lit (.int .u8 24), .lit (.int .u8 18), .lit (.int .u8 12), .lit (.int .u8 5), .lit (.int .u8 63), .lit (.int .u8 55), .lit (.int .u8 48), .lit (.int .u8 27), .lit (.int .u8 60), .lit (.int .u8 41), .lit (.int .u8 37), .lit (.int .u8 16), .lit (.int .u8 46), .lit (.int .u8 35), .lit (.int .u8 44), .lit (.int .u8 21), .lit (.int .u8 52), .lit (.int .u8 32), .lit (.int .u8 23), .lit (.int .u8 11), .lit (.int .u8 54), .lit (.int .u8 26), .lit (.int .u8 40), .lit (.int .u8 15), .lit (.int .u8 34), .lit (.int .u8 20), .lit (.int .u8 31), .lit (.int .u8 10), .lit (.int .u8 25), .lit (.int .u8 14), .lit (.int .u8 19), .lit (.int .u8 9), .lit (.int .u8 13), .lit (.int .u8 8), .lit (.int .u8 7), .lit (.int .u8 6)]
def laid_errors_errorType {H : Type} : DataW H := .iface "internal/reflectlite.rtype" (.agg [.ptr (.lit (.string [101, 114, 114, 111, 114]))])

/-- 'muntinlaw07.NullableTells': WHATEVER THE INPUT: true; the input reads as it did. -/
def nullableTellsSpec : ChangeSpec := { name := "nullableTells", fn := fun _ => fun
  | [d1, d2] => { results := [.lit (.bool true)], args := [d1, d2] }
  | _ => none }
def nullableTellsRow : OpenClaim := { program := "ytgoogfbphilpmaagreatdoor", sum := "5300a3502d693bc581f953ae76e95978ea39a63d95ad0ea3bf625b99c12a81e8", func := "muntin/muntinlaw07.NullableTells", spec := "nullableTells", inPlace := ["internal/bytealg.IndexByteString", "internal/reflectlite.ValueOf", "(internal/reflectlite.Value).Type", "(internal/reflectlite.Value).IsNil", "internal/reflectlite.TypeOf", "(internal/reflectlite.Value).Elem", "(internal/reflectlite.Value).Set", "internal/bytealg.IndexString"], unfollowed := true, recurses := true, named := ["errors.errorType", "internal/bytealg.MaxLen", "math/bits.deBruijn64tab"], loops := true, apart := false, laid := [("math/bits.deBruijn64tab", laid_math_bits_deBruijn64tab), ("errors.errorType", laid_errors_errorType)] }
def NullableTellsSaid : Prop := nullableTellsRow.holds Tryz.pinned (OpenSpec.ofChange nullableTellsSpec)

/-- ITS FALSE NEIGHBOUR: 'it returns false'. Refute it at one input. -/
def nullableTellsWrong : ChangeSpec := { name := "nullableTells", fn := fun _ => fun
  | [d1, d2] => { results := [.lit (.bool false)], args := [d1, d2] }
  | _ => none }
def NullableTellsWrongFalsely : Prop := nullableTellsRow.holds Tryz.pinned (OpenSpec.ofChange nullableTellsWrong)

/-- 'muntinlaw07.NullableRefs': WHATEVER THE INPUT: true; the input reads as it did. -/
def nullableRefsSpec : ChangeSpec := { name := "nullableRefs", fn := fun _ => fun
  | [d] => { results := [.lit (.bool true)], args := [d] }
  | _ => none }
def nullableRefsRow : OpenClaim := { program := "ytgoogfbphilpmaagreatdoor", sum := "5300a3502d693bc581f953ae76e95978ea39a63d95ad0ea3bf625b99c12a81e8", func := "muntin/muntinlaw07.NullableRefs", spec := "nullableRefs", inPlace := ["internal/bytealg.IndexByteString", "internal/reflectlite.ValueOf", "(internal/reflectlite.Value).Type", "(internal/reflectlite.Value).IsNil", "internal/reflectlite.TypeOf", "(internal/reflectlite.Value).Elem", "(internal/reflectlite.Value).Set", "internal/bytealg.IndexString"], unfollowed := true, recurses := true, named := ["errors.errorType", "internal/bytealg.MaxLen", "math/bits.deBruijn64tab"], loops := true, apart := false, laid := [("math/bits.deBruijn64tab", laid_math_bits_deBruijn64tab), ("errors.errorType", laid_errors_errorType)] }
def NullableRefsSaid : Prop := nullableRefsRow.holds Tryz.pinned (OpenSpec.ofChange nullableRefsSpec)

/-- ITS FALSE NEIGHBOUR: 'it returns false'. Refute it at one input. -/
def nullableRefsWrong : ChangeSpec := { name := "nullableRefs", fn := fun _ => fun
  | [d] => { results := [.lit (.bool false)], args := [d] }
  | _ => none }
def NullableRefsWrongFalsely : Prop := nullableRefsRow.holds Tryz.pinned (OpenSpec.ofChange nullableRefsWrong)

/-- 'muntinlaw07.NullablePruned': WHATEVER THE INPUT: true; the input reads as it did. -/
def nullablePrunedSpec : ChangeSpec := { name := "nullablePruned", fn := fun _ => fun
  | [d] => { results := [.lit (.bool true)], args := [d] }
  | _ => none }
def nullablePrunedRow : OpenClaim := { program := "ytgoogfbphilpmaagreatdoor", sum := "5300a3502d693bc581f953ae76e95978ea39a63d95ad0ea3bf625b99c12a81e8", func := "muntin/muntinlaw07.NullablePruned", spec := "nullablePruned", inPlace := ["internal/bytealg.IndexByteString", "internal/reflectlite.ValueOf", "(internal/reflectlite.Value).Type", "(internal/reflectlite.Value).IsNil", "internal/reflectlite.TypeOf", "(internal/reflectlite.Value).Elem", "(internal/reflectlite.Value).Set", "internal/bytealg.IndexString"], unfollowed := true, recurses := true, named := ["errors.errorType", "internal/bytealg.MaxLen", "math/bits.deBruijn64tab"], loops := true, apart := false, laid := [("math/bits.deBruijn64tab", laid_math_bits_deBruijn64tab), ("errors.errorType", laid_errors_errorType)] }
def NullablePrunedSaid : Prop := nullablePrunedRow.holds Tryz.pinned (OpenSpec.ofChange nullablePrunedSpec)

/-- ITS FALSE NEIGHBOUR: 'it returns false'. Refute it at one input. -/
def nullablePrunedWrong : ChangeSpec := { name := "nullablePruned", fn := fun _ => fun
  | [d] => { results := [.lit (.bool false)], args := [d] }
  | _ => none }
def NullablePrunedWrongFalsely : Prop := nullablePrunedRow.holds Tryz.pinned (OpenSpec.ofChange nullablePrunedWrong)

/-- 'muntinlaw07.NullableRows': WHATEVER THE INPUT: true; the input reads as it did. -/
def nullableRowsSpec : ChangeSpec := { name := "nullableRows", fn := fun _ => fun
  | [d1, d2, d3] => { results := [.lit (.bool true)], args := [d1, d2, d3] }
  | _ => none }
def nullableRowsRow : OpenClaim := { program := "ytgoogfbphilpmaagreatdoor", sum := "5300a3502d693bc581f953ae76e95978ea39a63d95ad0ea3bf625b99c12a81e8", func := "muntin/muntinlaw07.NullableRows", spec := "nullableRows", inPlace := ["internal/bytealg.IndexByteString", "internal/reflectlite.ValueOf", "(internal/reflectlite.Value).Type", "(internal/reflectlite.Value).IsNil", "internal/reflectlite.TypeOf", "(internal/reflectlite.Value).Elem", "(internal/reflectlite.Value).Set", "internal/bytealg.IndexString"], unfollowed := true, recurses := true, named := ["errors.errorType", "internal/bytealg.MaxLen", "math/bits.deBruijn64tab"], loops := true, apart := false, laid := [("math/bits.deBruijn64tab", laid_math_bits_deBruijn64tab), ("errors.errorType", laid_errors_errorType)] }
def NullableRowsSaid : Prop := nullableRowsRow.holds Tryz.pinned (OpenSpec.ofChange nullableRowsSpec)

/-- ITS FALSE NEIGHBOUR: 'it returns false'. Refute it at one input. -/
def nullableRowsWrong : ChangeSpec := { name := "nullableRows", fn := fun _ => fun
  | [d1, d2, d3] => { results := [.lit (.bool false)], args := [d1, d2, d3] }
  | _ => none }
def NullableRowsWrongFalsely : Prop := nullableRowsRow.holds Tryz.pinned (OpenSpec.ofChange nullableRowsWrong)

/-- 'muntinlaw07.NullableLooks': WHATEVER THE INPUT: true; the input reads as it did. -/
def nullableLooksSpec : ChangeSpec := { name := "nullableLooks", fn := fun _ => fun
  | [d1, d2] => { results := [.lit (.bool true)], args := [d1, d2] }
  | _ => none }
def nullableLooksRow : OpenClaim := { program := "ytgoogfbphilpmaagreatdoor", sum := "5300a3502d693bc581f953ae76e95978ea39a63d95ad0ea3bf625b99c12a81e8", func := "muntin/muntinlaw07.NullableLooks", spec := "nullableLooks", inPlace := ["internal/bytealg.IndexByteString", "internal/reflectlite.ValueOf", "(internal/reflectlite.Value).Type", "(internal/reflectlite.Value).IsNil", "internal/reflectlite.TypeOf", "(internal/reflectlite.Value).Elem", "(internal/reflectlite.Value).Set", "internal/bytealg.IndexString"], unfollowed := true, recurses := true, named := ["errors.errorType", "internal/bytealg.MaxLen", "math/bits.deBruijn64tab"], loops := true, apart := false, laid := [("math/bits.deBruijn64tab", laid_math_bits_deBruijn64tab), ("errors.errorType", laid_errors_errorType)] }
def NullableLooksSaid : Prop := nullableLooksRow.holds Tryz.pinned (OpenSpec.ofChange nullableLooksSpec)

/-- ITS FALSE NEIGHBOUR: 'it returns false'. Refute it at one input. -/
def nullableLooksWrong : ChangeSpec := { name := "nullableLooks", fn := fun _ => fun
  | [d1, d2] => { results := [.lit (.bool false)], args := [d1, d2] }
  | _ => none }
def NullableLooksWrongFalsely : Prop := nullableLooksRow.holds Tryz.pinned (OpenSpec.ofChange nullableLooksWrong)

/- THE SECOND FORM. 'bulk': how many values and letters a reading holds, each counted each time it is reached (what is shared counts as often as it is met; a slice's spare places count too). A statement '..UptoSaid' is the law's where the arguments, and the package variables that the reading takes, are together of bulk at most 1048576: NARROWER than '..Said'. Prove '..Said' where nothing that the law and all that it calls make is longer than what came in: it says more and counts as full. Else prove '..UptoSaid'. A law counts once. -/
mutual
def uptoBulk {H : Type} : DataW H → Nat
  | .lit (.string bytes) => bytes.length + 1
  | .lit _ => 1
  | .nil => 1
  | .ptr d => uptoBulk d + 1
  | .slice elems spare => uptoBulkAll elems + uptoBulkAll spare + 1
  | .agg parts => uptoBulkAll parts + 1
  | .iface _ d => uptoBulk d + 1
  | .map entries => uptoBulkEntries entries + 1
  | .held _ => 1
def uptoBulkAll {H : Type} : List (DataW H) → Nat
  | [] => 0
  | d :: r => uptoBulk d + uptoBulkAll r
def uptoBulkEntries {H : Type} : List (Lit × DataW H) → Nat
  | [] => 0
  | x :: r => uptoBulkEntry x + uptoBulkEntries r
def uptoBulkEntry {H : Type} : Lit × DataW H → Nat
  | (.string bytes, d) => bytes.length + uptoBulk d + 1
  | (_, d) => uptoBulk d + 1
 end
def uptoSmall : (H : Type) → List (DataW H) → Bool := fun _ ds => decide (uptoBulkAll ds ≤ 1048576)
def OpenSpec.upto (s : _root_.Go.ChangeSpec) : _root_.Go.OpenSpec := { _root_.Go.OpenSpec.ofChange s with cond := some uptoSmall }

/-- 'muntinlaw07.NullableTells', WHERE WHAT IT READS IS OF BULK AT MOST 1048576: true; the input reads as it did. -/
def nullableTellsUptoRow : OpenClaim := { program := "ytgoogfbphilpmaagreatdoor", sum := "5300a3502d693bc581f953ae76e95978ea39a63d95ad0ea3bf625b99c12a81e8", func := "muntin/muntinlaw07.NullableTells", spec := "nullableTells", inPlace := ["internal/bytealg.IndexByteString", "internal/reflectlite.ValueOf", "(internal/reflectlite.Value).Type", "(internal/reflectlite.Value).IsNil", "internal/reflectlite.TypeOf", "(internal/reflectlite.Value).Elem", "(internal/reflectlite.Value).Set", "internal/bytealg.IndexString"], unfollowed := true, recurses := true, named := ["errors.errorType", "internal/bytealg.MaxLen", "math/bits.deBruijn64tab"], loops := true, apart := false, laid := [("math/bits.deBruijn64tab", laid_math_bits_deBruijn64tab), ("errors.errorType", laid_errors_errorType)], narrowed := true }
def NullableTellsUptoSaid : Prop := nullableTellsUptoRow.holds Tryz.pinned (OpenSpec.upto nullableTellsSpec)

/-- 'muntinlaw07.NullableRefs', WHERE WHAT IT READS IS OF BULK AT MOST 1048576: true; the input reads as it did. -/
def nullableRefsUptoRow : OpenClaim := { program := "ytgoogfbphilpmaagreatdoor", sum := "5300a3502d693bc581f953ae76e95978ea39a63d95ad0ea3bf625b99c12a81e8", func := "muntin/muntinlaw07.NullableRefs", spec := "nullableRefs", inPlace := ["internal/bytealg.IndexByteString", "internal/reflectlite.ValueOf", "(internal/reflectlite.Value).Type", "(internal/reflectlite.Value).IsNil", "internal/reflectlite.TypeOf", "(internal/reflectlite.Value).Elem", "(internal/reflectlite.Value).Set", "internal/bytealg.IndexString"], unfollowed := true, recurses := true, named := ["errors.errorType", "internal/bytealg.MaxLen", "math/bits.deBruijn64tab"], loops := true, apart := false, laid := [("math/bits.deBruijn64tab", laid_math_bits_deBruijn64tab), ("errors.errorType", laid_errors_errorType)], narrowed := true }
def NullableRefsUptoSaid : Prop := nullableRefsUptoRow.holds Tryz.pinned (OpenSpec.upto nullableRefsSpec)

/-- 'muntinlaw07.NullablePruned', WHERE WHAT IT READS IS OF BULK AT MOST 1048576: true; the input reads as it did. -/
def nullablePrunedUptoRow : OpenClaim := { program := "ytgoogfbphilpmaagreatdoor", sum := "5300a3502d693bc581f953ae76e95978ea39a63d95ad0ea3bf625b99c12a81e8", func := "muntin/muntinlaw07.NullablePruned", spec := "nullablePruned", inPlace := ["internal/bytealg.IndexByteString", "internal/reflectlite.ValueOf", "(internal/reflectlite.Value).Type", "(internal/reflectlite.Value).IsNil", "internal/reflectlite.TypeOf", "(internal/reflectlite.Value).Elem", "(internal/reflectlite.Value).Set", "internal/bytealg.IndexString"], unfollowed := true, recurses := true, named := ["errors.errorType", "internal/bytealg.MaxLen", "math/bits.deBruijn64tab"], loops := true, apart := false, laid := [("math/bits.deBruijn64tab", laid_math_bits_deBruijn64tab), ("errors.errorType", laid_errors_errorType)], narrowed := true }
def NullablePrunedUptoSaid : Prop := nullablePrunedUptoRow.holds Tryz.pinned (OpenSpec.upto nullablePrunedSpec)

/-- 'muntinlaw07.NullableRows', WHERE WHAT IT READS IS OF BULK AT MOST 1048576: true; the input reads as it did. -/
def nullableRowsUptoRow : OpenClaim := { program := "ytgoogfbphilpmaagreatdoor", sum := "5300a3502d693bc581f953ae76e95978ea39a63d95ad0ea3bf625b99c12a81e8", func := "muntin/muntinlaw07.NullableRows", spec := "nullableRows", inPlace := ["internal/bytealg.IndexByteString", "internal/reflectlite.ValueOf", "(internal/reflectlite.Value).Type", "(internal/reflectlite.Value).IsNil", "internal/reflectlite.TypeOf", "(internal/reflectlite.Value).Elem", "(internal/reflectlite.Value).Set", "internal/bytealg.IndexString"], unfollowed := true, recurses := true, named := ["errors.errorType", "internal/bytealg.MaxLen", "math/bits.deBruijn64tab"], loops := true, apart := false, laid := [("math/bits.deBruijn64tab", laid_math_bits_deBruijn64tab), ("errors.errorType", laid_errors_errorType)], narrowed := true }
def NullableRowsUptoSaid : Prop := nullableRowsUptoRow.holds Tryz.pinned (OpenSpec.upto nullableRowsSpec)

/-- 'muntinlaw07.NullableLooks', WHERE WHAT IT READS IS OF BULK AT MOST 1048576: true; the input reads as it did. -/
def nullableLooksUptoRow : OpenClaim := { program := "ytgoogfbphilpmaagreatdoor", sum := "5300a3502d693bc581f953ae76e95978ea39a63d95ad0ea3bf625b99c12a81e8", func := "muntin/muntinlaw07.NullableLooks", spec := "nullableLooks", inPlace := ["internal/bytealg.IndexByteString", "internal/reflectlite.ValueOf", "(internal/reflectlite.Value).Type", "(internal/reflectlite.Value).IsNil", "internal/reflectlite.TypeOf", "(internal/reflectlite.Value).Elem", "(internal/reflectlite.Value).Set", "internal/bytealg.IndexString"], unfollowed := true, recurses := true, named := ["errors.errorType", "internal/bytealg.MaxLen", "math/bits.deBruijn64tab"], loops := true, apart := false, laid := [("math/bits.deBruijn64tab", laid_math_bits_deBruijn64tab), ("errors.errorType", laid_errors_errorType)], narrowed := true }
def NullableLooksUptoSaid : Prop := nullableLooksUptoRow.holds Tryz.pinned (OpenSpec.upto nullableLooksSpec)

end Rows
end Go.Proofs.YtgoogfbphilpmaaGreatDoor
