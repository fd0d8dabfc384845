/-
  NARROWER THAN 'FOR EVERY INPUT', by the rows' own cells (each row's printed sentence says how): HeartDoes: laid · HeartOdd: laid · HeartKeeps: laid · HeartBack: laid · HeartRuns: laid · StockDoes: laid · StockFew: laid · StockBack: laid · StockFills: laid · StockClasses: laid · WholeFlow: laid.
  DERIVED. THE GIVEN ROWS OF THIS SEAT. 11 by the template 'for every input the law returns true; each argument reads behind the call as it read before'; 0 by the template 'total and deterministic' (their statements: YtkogeeaoppkhkaaDoorTotals.lean).
  GIVEN WITH THE SEED: the statements are not yours to turn. If you find one false, say at which input.
  Laid BY PROGRAM, IN A SANDBOX (cutbox-rows.mjs): the forced cells as the released guide's own fill.sh prints them over the translation 8d6135afdefdc5d9… (all of the seat's roots in one cut). By AI agents, Wed Nov 11 2026. No macro, syntax, notation, axiom, sorry.
-/
import Derived.Test.YtkogeeaoppkhkaaDoorChecked
import GoSem.Claim
import GoSem.ClaimJoined
import GoSem.ClaimMapViews
import Derived.JoinedTies
import Derived.KernelRfl
namespace Go.Proofs.YtkogeeaoppkhkaaDoor
/- THE CELL 'sum', in the pinned program and in every row, IS THE sha256 OF THE DUMP (.gsa) THAT YtkogeeaoppkhkaaDoorProg.lean LOADS. Nothing in Lean hashes anything: it is a label: what it is worth is what the hold of that sum in a sandbox is worth. -/
noncomputable def Tryd.pinned : Pinned := { name := "ytkogeeaoppkhkaadoor", sum := "8d6135afdefdc5d9beaf826942d0a74f24b4f8b627fdee35f5bb7d31641222dc", checked := Tryd.checked }
namespace Rows
def none {H : Type} : Left H := { results := [], args := [] }

/- WHAT THE LISTED PACKAGE-LEVEL VARIABLES READ AS WHEN THE CALL BEGINS. Each datum BY PROGRAM (the guide's laid-datum.mjs) off the statement by which the dump's own 'gosem.cut.vars' lays the variable. In a bare row this is a premise. The card (YtkogeeaoppkhkaaDoorCards.lean) ties it to the program's text. -/
def laid_math_bits_deBruijn64tab {H : Type} : DataW H := .agg [.lit (.int .u8 0), .lit (.int .u8 1), .lit (.int .u8 56), .lit (.int .u8 2), .lit (.int .u8 57), .lit (.int .u8 49), .lit (.int .u8 28), .lit (.int .u8 3), .lit (.int .u8 61), .lit (.int .u8 58), .lit (.int .u8 42), .lit (.int .u8 50), .lit (.int .u8 38), .lit (.int .u8 29), .lit (.int .u8 17), .lit (.int .u8 4), .lit (.int .u8 62), .lit (.int .u8 47), .lit (.int .u8 59), .lit (.int .u8 36), .lit (.int .u8 45), .lit (.int .u8 43), .lit (.int .u8 51), .lit (.int .u8 22), .lit (.int .u8 53), .lit (.int .u8 39), .lit (.int .u8 33), .lit (.int .u8 30), .lit (.int .u8 24), .lit (.int .u8 18), .lit (.int .u8 12), .lit (.int .u8 5), .lit (.int .u8 63), .lit (.int .u8 55), .lit (.int .u8 48), .lit (.int .u8 27), .lit (.int .u8 60), .lit (.int .u8 41), .lit (.int .u8 37), .lit (.int .u8 16), .lit (.int .u8 46), .lit (.int .u8 35), .lit (.int .u8 44), .lit (.int .u8 21), .lit (.int .u8 52), .lit (.int .u8 32), .lit (.int .u8 23), .lit (.int .u8 11), .lit (.int .u8 54), .lit (.int .u8 26), .lit (.int .u8 40), .lit (.int .u8 15), .lit (.int .u8 34), .lit (.int .u8 20), .lit (.int .u8 31), .lit (.int .u8 10), .lit (.int .u8 25), .lit (.int .u8 14), .lit (.int .u8 19), .lit (.int .u8 9), .lit (.int .u8 13), .lit (.int .u8 8), .lit (.int .u8 7), .lit (.int .u8 6)]
def laid_chandlery_heart_kindField {H : Type} : DataW H := .agg [.lit (.int .i64 0), .lit (.int .i64 8)]
def laid_chandlery_heart_numberField {H : Type} : DataW H := .agg [.lit (.int .i64 8), .lit (.int .i64 32)]

/-- 'chandlerylaw11.HeartDoes': WHATEVER THE INPUT: true; the input reads as it did. -/
def heartDoesSpec : ChangeSpec := { name := "heartDoes", fn := fun _ => fun
  | [d1, d2] => { results := [.lit (.bool true)], args := [d1, d2] }
  | _ => none }
def heartDoesRow : OpenClaim := { program := "ytkogeeaoppkhkaadoor", sum := "8d6135afdefdc5d9beaf826942d0a74f24b4f8b627fdee35f5bb7d31641222dc", func := "chandlery/chandlerylaw11.HeartDoes", spec := "heartDoes", unfollowed := true, recurses := true, named := ["chandlery/heart.numberField", "chandlery/heart.kindField", "math/bits.deBruijn64tab"], plainKeys := false, apart := false, laid := [("math/bits.deBruijn64tab", laid_math_bits_deBruijn64tab), ("chandlery/heart.kindField", laid_chandlery_heart_kindField), ("chandlery/heart.numberField", laid_chandlery_heart_numberField)] }
def HeartDoesSaid : Prop := heartDoesRow.holds Tryd.pinned (OpenSpec.ofChange heartDoesSpec)

/-- ITS FALSE NEIGHBOUR: 'it returns false'. Refute it at one input. -/
def heartDoesWrong : ChangeSpec := { name := "heartDoes", fn := fun _ => fun
  | [d1, d2] => { results := [.lit (.bool false)], args := [d1, d2] }
  | _ => none }
def HeartDoesWrongFalsely : Prop := heartDoesRow.holds Tryd.pinned (OpenSpec.ofChange heartDoesWrong)

/-- 'chandlerylaw11.HeartOdd': WHATEVER THE INPUT: true; the input reads as it did. -/
def heartOddSpec : ChangeSpec := { name := "heartOdd", fn := fun _ => fun
  | [d1, d2, d3] => { results := [.lit (.bool true)], args := [d1, d2, d3] }
  | _ => none }
def heartOddRow : OpenClaim := { program := "ytkogeeaoppkhkaadoor", sum := "8d6135afdefdc5d9beaf826942d0a74f24b4f8b627fdee35f5bb7d31641222dc", func := "chandlery/chandlerylaw11.HeartOdd", spec := "heartOdd", unfollowed := true, recurses := true, named := ["chandlery/heart.numberField", "chandlery/heart.kindField", "math/bits.deBruijn64tab"], plainKeys := false, apart := false, laid := [("math/bits.deBruijn64tab", laid_math_bits_deBruijn64tab), ("chandlery/heart.kindField", laid_chandlery_heart_kindField), ("chandlery/heart.numberField", laid_chandlery_heart_numberField)] }
def HeartOddSaid : Prop := heartOddRow.holds Tryd.pinned (OpenSpec.ofChange heartOddSpec)

/-- ITS FALSE NEIGHBOUR: 'it returns false'. Refute it at one input. -/
def heartOddWrong : ChangeSpec := { name := "heartOdd", fn := fun _ => fun
  | [d1, d2, d3] => { results := [.lit (.bool false)], args := [d1, d2, d3] }
  | _ => none }
def HeartOddWrongFalsely : Prop := heartOddRow.holds Tryd.pinned (OpenSpec.ofChange heartOddWrong)

/-- 'chandlerylaw11.HeartKeeps': WHATEVER THE INPUT: true; the input reads as it did. -/
def heartKeepsSpec : ChangeSpec := { name := "heartKeeps", fn := fun _ => fun
  | [d1, d2] => { results := [.lit (.bool true)], args := [d1, d2] }
  | _ => none }
def heartKeepsRow : OpenClaim := { program := "ytkogeeaoppkhkaadoor", sum := "8d6135afdefdc5d9beaf826942d0a74f24b4f8b627fdee35f5bb7d31641222dc", func := "chandlery/chandlerylaw11.HeartKeeps", spec := "heartKeeps", unfollowed := true, recurses := true, named := ["chandlery/heart.numberField", "chandlery/heart.kindField", "math/bits.deBruijn64tab"], plainKeys := false, apart := false, laid := [("math/bits.deBruijn64tab", laid_math_bits_deBruijn64tab), ("chandlery/heart.kindField", laid_chandlery_heart_kindField), ("chandlery/heart.numberField", laid_chandlery_heart_numberField)] }
def HeartKeepsSaid : Prop := heartKeepsRow.holds Tryd.pinned (OpenSpec.ofChange heartKeepsSpec)

/-- ITS FALSE NEIGHBOUR: 'it returns false'. Refute it at one input. -/
def heartKeepsWrong : ChangeSpec := { name := "heartKeeps", fn := fun _ => fun
  | [d1, d2] => { results := [.lit (.bool false)], args := [d1, d2] }
  | _ => none }
def HeartKeepsWrongFalsely : Prop := heartKeepsRow.holds Tryd.pinned (OpenSpec.ofChange heartKeepsWrong)

/-- 'chandlerylaw11.HeartBack': WHATEVER THE INPUT: true; the input reads as it did. -/
def heartBackSpec : ChangeSpec := { name := "heartBack", fn := fun _ => fun
  | [d1, d2] => { results := [.lit (.bool true)], args := [d1, d2] }
  | _ => none }
def heartBackRow : OpenClaim := { program := "ytkogeeaoppkhkaadoor", sum := "8d6135afdefdc5d9beaf826942d0a74f24b4f8b627fdee35f5bb7d31641222dc", func := "chandlery/chandlerylaw11.HeartBack", spec := "heartBack", unfollowed := true, recurses := true, named := ["chandlery/heart.numberField", "chandlery/heart.kindField", "math/bits.deBruijn64tab"], plainKeys := false, apart := false, laid := [("math/bits.deBruijn64tab", laid_math_bits_deBruijn64tab), ("chandlery/heart.kindField", laid_chandlery_heart_kindField), ("chandlery/heart.numberField", laid_chandlery_heart_numberField)] }
def HeartBackSaid : Prop := heartBackRow.holds Tryd.pinned (OpenSpec.ofChange heartBackSpec)

/-- ITS FALSE NEIGHBOUR: 'it returns false'. Refute it at one input. -/
def heartBackWrong : ChangeSpec := { name := "heartBack", fn := fun _ => fun
  | [d1, d2] => { results := [.lit (.bool false)], args := [d1, d2] }
  | _ => none }
def HeartBackWrongFalsely : Prop := heartBackRow.holds Tryd.pinned (OpenSpec.ofChange heartBackWrong)

/-- 'chandlerylaw11.HeartRuns': WHATEVER THE INPUT: true; the input reads as it did. -/
def heartRunsSpec : ChangeSpec := { name := "heartRuns", fn := fun _ => fun
  | [d1, d2, d3] => { results := [.lit (.bool true)], args := [d1, d2, d3] }
  | _ => none }
def heartRunsRow : OpenClaim := { program := "ytkogeeaoppkhkaadoor", sum := "8d6135afdefdc5d9beaf826942d0a74f24b4f8b627fdee35f5bb7d31641222dc", func := "chandlery/chandlerylaw11.HeartRuns", spec := "heartRuns", unfollowed := true, recurses := true, named := ["chandlery/heart.numberField", "chandlery/heart.kindField", "math/bits.deBruijn64tab"], plainKeys := false, apart := false, laid := [("math/bits.deBruijn64tab", laid_math_bits_deBruijn64tab), ("chandlery/heart.kindField", laid_chandlery_heart_kindField), ("chandlery/heart.numberField", laid_chandlery_heart_numberField)] }
def HeartRunsSaid : Prop := heartRunsRow.holds Tryd.pinned (OpenSpec.ofChange heartRunsSpec)

/-- ITS FALSE NEIGHBOUR: 'it returns false'. Refute it at one input. -/
def heartRunsWrong : ChangeSpec := { name := "heartRuns", fn := fun _ => fun
  | [d1, d2, d3] => { results := [.lit (.bool false)], args := [d1, d2, d3] }
  | _ => none }
def HeartRunsWrongFalsely : Prop := heartRunsRow.holds Tryd.pinned (OpenSpec.ofChange heartRunsWrong)

/-- 'chandlerylaw12.StockDoes': WHATEVER THE INPUT: true; the input reads as it did. -/
def stockDoesSpec : ChangeSpec := { name := "stockDoes", fn := fun _ => fun
  | [d1, d2] => { results := [.lit (.bool true)], args := [d1, d2] }
  | _ => none }
def stockDoesRow : OpenClaim := { program := "ytkogeeaoppkhkaadoor", sum := "8d6135afdefdc5d9beaf826942d0a74f24b4f8b627fdee35f5bb7d31641222dc", func := "chandlery/chandlerylaw12.StockDoes", spec := "stockDoes", unfollowed := true, recurses := true, named := ["math/bits.deBruijn64tab"], plainKeys := false, apart := false, laid := [("math/bits.deBruijn64tab", laid_math_bits_deBruijn64tab)] }
def StockDoesSaid : Prop := stockDoesRow.holds Tryd.pinned (OpenSpec.ofChange stockDoesSpec)

/-- ITS FALSE NEIGHBOUR: 'it returns false'. Refute it at one input. -/
def stockDoesWrong : ChangeSpec := { name := "stockDoes", fn := fun _ => fun
  | [d1, d2] => { results := [.lit (.bool false)], args := [d1, d2] }
  | _ => none }
def StockDoesWrongFalsely : Prop := stockDoesRow.holds Tryd.pinned (OpenSpec.ofChange stockDoesWrong)

/-- 'chandlerylaw12.StockFew': WHATEVER THE INPUT: true; the input reads as it did. -/
def stockFewSpec : ChangeSpec := { name := "stockFew", fn := fun _ => fun
  | [d1, d2, d3] => { results := [.lit (.bool true)], args := [d1, d2, d3] }
  | _ => none }
def stockFewRow : OpenClaim := { program := "ytkogeeaoppkhkaadoor", sum := "8d6135afdefdc5d9beaf826942d0a74f24b4f8b627fdee35f5bb7d31641222dc", func := "chandlery/chandlerylaw12.StockFew", spec := "stockFew", unfollowed := true, recurses := true, named := ["math/bits.deBruijn64tab"], plainKeys := false, apart := false, laid := [("math/bits.deBruijn64tab", laid_math_bits_deBruijn64tab)] }
def StockFewSaid : Prop := stockFewRow.holds Tryd.pinned (OpenSpec.ofChange stockFewSpec)

/-- ITS FALSE NEIGHBOUR: 'it returns false'. Refute it at one input. -/
def stockFewWrong : ChangeSpec := { name := "stockFew", fn := fun _ => fun
  | [d1, d2, d3] => { results := [.lit (.bool false)], args := [d1, d2, d3] }
  | _ => none }
def StockFewWrongFalsely : Prop := stockFewRow.holds Tryd.pinned (OpenSpec.ofChange stockFewWrong)

/-- 'chandlerylaw12.StockBack': WHATEVER THE INPUT: true; the input reads as it did. -/
def stockBackSpec : ChangeSpec := { name := "stockBack", fn := fun _ => fun
  | [d1, d2, d3] => { results := [.lit (.bool true)], args := [d1, d2, d3] }
  | _ => none }
def stockBackRow : OpenClaim := { program := "ytkogeeaoppkhkaadoor", sum := "8d6135afdefdc5d9beaf826942d0a74f24b4f8b627fdee35f5bb7d31641222dc", func := "chandlery/chandlerylaw12.StockBack", spec := "stockBack", unfollowed := true, recurses := true, named := ["math/bits.deBruijn64tab"], plainKeys := false, apart := false, laid := [("math/bits.deBruijn64tab", laid_math_bits_deBruijn64tab)] }
def StockBackSaid : Prop := stockBackRow.holds Tryd.pinned (OpenSpec.ofChange stockBackSpec)

/-- ITS FALSE NEIGHBOUR: 'it returns false'. Refute it at one input. -/
def stockBackWrong : ChangeSpec := { name := "stockBack", fn := fun _ => fun
  | [d1, d2, d3] => { results := [.lit (.bool false)], args := [d1, d2, d3] }
  | _ => none }
def StockBackWrongFalsely : Prop := stockBackRow.holds Tryd.pinned (OpenSpec.ofChange stockBackWrong)

/-- 'chandlerylaw12.StockFills': WHATEVER THE INPUT: true; the input reads as it did. -/
def stockFillsSpec : ChangeSpec := { name := "stockFills", fn := fun _ => fun
  | [d] => { results := [.lit (.bool true)], args := [d] }
  | _ => none }
def stockFillsRow : OpenClaim := { program := "ytkogeeaoppkhkaadoor", sum := "8d6135afdefdc5d9beaf826942d0a74f24b4f8b627fdee35f5bb7d31641222dc", func := "chandlery/chandlerylaw12.StockFills", spec := "stockFills", unfollowed := true, recurses := true, named := ["math/bits.deBruijn64tab"], plainKeys := false, apart := false, laid := [("math/bits.deBruijn64tab", laid_math_bits_deBruijn64tab)] }
def StockFillsSaid : Prop := stockFillsRow.holds Tryd.pinned (OpenSpec.ofChange stockFillsSpec)

/-- ITS FALSE NEIGHBOUR: 'it returns false'. Refute it at one input. -/
def stockFillsWrong : ChangeSpec := { name := "stockFills", fn := fun _ => fun
  | [d] => { results := [.lit (.bool false)], args := [d] }
  | _ => none }
def StockFillsWrongFalsely : Prop := stockFillsRow.holds Tryd.pinned (OpenSpec.ofChange stockFillsWrong)

/-- 'chandlerylaw12.StockClasses': WHATEVER THE INPUT: true; the input reads as it did. -/
def stockClassesSpec : ChangeSpec := { name := "stockClasses", fn := fun _ => fun
  | [d1, d2, d3] => { results := [.lit (.bool true)], args := [d1, d2, d3] }
  | _ => none }
def stockClassesRow : OpenClaim := { program := "ytkogeeaoppkhkaadoor", sum := "8d6135afdefdc5d9beaf826942d0a74f24b4f8b627fdee35f5bb7d31641222dc", func := "chandlery/chandlerylaw12.StockClasses", spec := "stockClasses", unfollowed := true, recurses := true, named := ["math/bits.deBruijn64tab"], plainKeys := false, apart := false, laid := [("math/bits.deBruijn64tab", laid_math_bits_deBruijn64tab)] }
def StockClassesSaid : Prop := stockClassesRow.holds Tryd.pinned (OpenSpec.ofChange stockClassesSpec)

/-- ITS FALSE NEIGHBOUR: 'it returns false'. Refute it at one input. -/
def stockClassesWrong : ChangeSpec := { name := "stockClasses", fn := fun _ => fun
  | [d1, d2, d3] => { results := [.lit (.bool false)], args := [d1, d2, d3] }
  | _ => none }
def StockClassesWrongFalsely : Prop := stockClassesRow.holds Tryd.pinned (OpenSpec.ofChange stockClassesWrong)

/-- 'chandlerytop.WholeFlow': WHATEVER THE INPUT: true; the input reads as it did. -/
def wholeFlowSpec : ChangeSpec := { name := "wholeFlow", fn := fun _ => fun
  | [d1, d2, d3] => { results := [.lit (.bool true)], args := [d1, d2, d3] }
  | _ => none }
def wholeFlowRow : OpenClaim := { program := "ytkogeeaoppkhkaadoor", sum := "8d6135afdefdc5d9beaf826942d0a74f24b4f8b627fdee35f5bb7d31641222dc", func := "chandlery/chandlerytop.WholeFlow", spec := "wholeFlow", unfollowed := true, recurses := true, named := ["chandlery/heart.numberField", "chandlery/heart.kindField", "math/bits.deBruijn64tab"], plainKeys := false, apart := false, laid := [("math/bits.deBruijn64tab", laid_math_bits_deBruijn64tab), ("chandlery/heart.kindField", laid_chandlery_heart_kindField), ("chandlery/heart.numberField", laid_chandlery_heart_numberField)] }
def WholeFlowSaid : Prop := wholeFlowRow.holds Tryd.pinned (OpenSpec.ofChange wholeFlowSpec)

/-- ITS FALSE NEIGHBOUR: 'it returns false'. Refute it at one input. -/
def wholeFlowWrong : ChangeSpec := { name := "wholeFlow", fn := fun _ => fun
  | [d1, d2, d3] => { results := [.lit (.bool false)], args := [d1, d2, d3] }
  | _ => none }
def WholeFlowWrongFalsely : Prop := wholeFlowRow.holds Tryd.pinned (OpenSpec.ofChange wholeFlowWrong)

/- THE SECOND FORM. 'bulk': how many values and letters a reading holds, each counted each time it is reached (what is shared counts as often as it is met; a slice's spare places count too). A statement '..UptoSaid' is the law's where the arguments, and the package variables that the reading takes, are together of bulk at most 1048576: NARROWER than '..Said'. Prove '..Said' where nothing that the law and all that it calls make is longer than what came in: it says more and counts as full. Else prove '..UptoSaid'. A law counts once. -/
mutual
def uptoBulk {H : Type} : DataW H → Nat
  | .lit (.string bytes) => bytes.length + 1
  | .lit _ => 1
  | .nil => 1
  | .ptr d => uptoBulk d + 1
  | .slice elems spare => uptoBulkAll elems + uptoBulkAll spare + 1
  | .agg parts => uptoBulkAll parts + 1
  | .iface _ d => uptoBulk d + 1
  | .map entries => uptoBulkEntries entries + 1
  | .held _ => 1
def uptoBulkAll {H : Type} : List (DataW H) → Nat
  | [] => 0
  | d :: r => uptoBulk d + uptoBulkAll r
def uptoBulkEntries {H : Type} : List (Lit × DataW H) → Nat
  | [] => 0
  | x :: r => uptoBulkEntry x + uptoBulkEntries r
def uptoBulkEntry {H : Type} : Lit × DataW H → Nat
  | (.string bytes, d) => bytes.length + uptoBulk d + 1
  | (_, d) => uptoBulk d + 1
 end
def uptoSmall : (H : Type) → List (DataW H) → Bool := fun _ ds => decide (uptoBulkAll ds ≤ 1048576)
def OpenSpec.upto (s : _root_.Go.ChangeSpec) : _root_.Go.OpenSpec := { _root_.Go.OpenSpec.ofChange s with cond := some uptoSmall }

/-- 'chandlerylaw11.HeartDoes', WHERE WHAT IT READS IS OF BULK AT MOST 1048576: true; the input reads as it did. -/
def heartDoesUptoRow : OpenClaim := { program := "ytkogeeaoppkhkaadoor", sum := "8d6135afdefdc5d9beaf826942d0a74f24b4f8b627fdee35f5bb7d31641222dc", func := "chandlery/chandlerylaw11.HeartDoes", spec := "heartDoes", unfollowed := true, recurses := true, named := ["chandlery/heart.numberField", "chandlery/heart.kindField", "math/bits.deBruijn64tab"], plainKeys := false, apart := false, laid := [("math/bits.deBruijn64tab", laid_math_bits_deBruijn64tab), ("chandlery/heart.kindField", laid_chandlery_heart_kindField), ("chandlery/heart.numberField", laid_chandlery_heart_numberField)], narrowed := true }
def HeartDoesUptoSaid : Prop := heartDoesUptoRow.holds Tryd.pinned (OpenSpec.upto heartDoesSpec)

/-- 'chandlerylaw11.HeartOdd', WHERE WHAT IT READS IS OF BULK AT MOST 1048576: true; the input reads as it did. -/
def heartOddUptoRow : OpenClaim := { program := "ytkogeeaoppkhkaadoor", sum := "8d6135afdefdc5d9beaf826942d0a74f24b4f8b627fdee35f5bb7d31641222dc", func := "chandlery/chandlerylaw11.HeartOdd", spec := "heartOdd", unfollowed := true, recurses := true, named := ["chandlery/heart.numberField", "chandlery/heart.kindField", "math/bits.deBruijn64tab"], plainKeys := false, apart := false, laid := [("math/bits.deBruijn64tab", laid_math_bits_deBruijn64tab), ("chandlery/heart.kindField", laid_chandlery_heart_kindField), ("chandlery/heart.numberField", laid_chandlery_heart_numberField)], narrowed := true }
def HeartOddUptoSaid : Prop := heartOddUptoRow.holds Tryd.pinned (OpenSpec.upto heartOddSpec)

/-- 'chandlerylaw11.HeartKeeps', WHERE WHAT IT READS IS OF BULK AT MOST 1048576: true; the input reads as it did. -/
def heartKeepsUptoRow : OpenClaim := { program := "ytkogeeaoppkhkaadoor", sum := "8d6135afdefdc5d9beaf826942d0a74f24b4f8b627fdee35f5bb7d31641222dc", func := "chandlery/chandlerylaw11.HeartKeeps", spec := "heartKeeps", unfollowed := true, recurses := true, named := ["chandlery/heart.numberField", "chandlery/heart.kindField", "math/bits.deBruijn64tab"], plainKeys := false, apart := false, laid := [("math/bits.deBruijn64tab", laid_math_bits_deBruijn64tab), ("chandlery/heart.kindField", laid_chandlery_heart_kindField), ("chandlery/heart.numberField", laid_chandlery_heart_numberField)], narrowed := true }
def HeartKeepsUptoSaid : Prop := heartKeepsUptoRow.holds Tryd.pinned (OpenSpec.upto heartKeepsSpec)

/-- 'chandlerylaw11.HeartBack', WHERE WHAT IT READS IS OF BULK AT MOST 1048576: true; the input reads as it did. -/
def heartBackUptoRow : OpenClaim := { program := "ytkogeeaoppkhkaadoor", sum := "8d6135afdefdc5d9beaf826942d0a74f24b4f8b627fdee35f5bb7d31641222dc", func := "chandlery/chandlerylaw11.HeartBack", spec := "heartBack", unfollowed := true, recurses := true, named := ["chandlery/heart.numberField", "chandlery/heart.kindField", "math/bits.deBruijn64tab"], plainKeys := false, apart := false, laid := [("math/bits.deBruijn64tab", laid_math_bits_deBruijn64tab), ("chandlery/heart.kindField", laid_chandlery_heart_kindField), ("chandlery/heart.numberField", laid_chandlery_heart_numberField)], narrowed := true }
def HeartBackUptoSaid : Prop := heartBackUptoRow.holds Tryd.pinned (OpenSpec.upto heartBackSpec)

/-- 'chandlerylaw11.HeartRuns', WHERE WHAT IT READS IS OF BULK AT MOST 1048576: true; the input reads as it did. -/
def heartRunsUptoRow : OpenClaim := { program := "ytkogeeaoppkhkaadoor", sum := "8d6135afdefdc5d9beaf826942d0a74f24b4f8b627fdee35f5bb7d31641222dc", func := "chandlery/chandlerylaw11.HeartRuns", spec := "heartRuns", unfollowed := true, recurses := true, named := ["chandlery/heart.numberField", "chandlery/heart.kindField", "math/bits.deBruijn64tab"], plainKeys := false, apart := false, laid := [("math/bits.deBruijn64tab", laid_math_bits_deBruijn64tab), ("chandlery/heart.kindField", laid_chandlery_heart_kindField), ("chandlery/heart.numberField", laid_chandlery_heart_numberField)], narrowed := true }
def HeartRunsUptoSaid : Prop := heartRunsUptoRow.holds Tryd.pinned (OpenSpec.upto heartRunsSpec)

/-- 'chandlerylaw12.StockDoes', WHERE WHAT IT READS IS OF BULK AT MOST 1048576: true; the input reads as it did. -/
def stockDoesUptoRow : OpenClaim := { program := "ytkogeeaoppkhkaadoor", sum := "8d6135afdefdc5d9beaf826942d0a74f24b4f8b627fdee35f5bb7d31641222dc", func := "chandlery/chandlerylaw12.StockDoes", spec := "stockDoes", unfollowed := true, recurses := true, named := ["math/bits.deBruijn64tab"], plainKeys := false, apart := false, laid := [("math/bits.deBruijn64tab", laid_math_bits_deBruijn64tab)], narrowed := true }
def StockDoesUptoSaid : Prop := stockDoesUptoRow.holds Tryd.pinned (OpenSpec.upto stockDoesSpec)

/-- 'chandlerylaw12.StockFew', WHERE WHAT IT READS IS OF BULK AT MOST 1048576: true; the input reads as it did. -/
def stockFewUptoRow : OpenClaim := { program := "ytkogeeaoppkhkaadoor", sum := "8d6135afdefdc5d9beaf826942d0a74f24b4f8b627fdee35f5bb7d31641222dc", func := "chandlery/chandlerylaw12.StockFew", spec := "stockFew", unfollowed := true, recurses := true, named := ["math/bits.deBruijn64tab"], plainKeys := false, apart := false, laid := [("math/bits.deBruijn64tab", laid_math_bits_deBruijn64tab)], narrowed := true }
def StockFewUptoSaid : Prop := stockFewUptoRow.holds Tryd.pinned (OpenSpec.upto stockFewSpec)

/-- 'chandlerylaw12.StockBack', WHERE WHAT IT READS IS OF BULK AT MOST 1048576: true; the input reads as it did. -/
def stockBackUptoRow : OpenClaim := { program := "ytkogeeaoppkhkaadoor", sum := "8d6135afdefdc5d9beaf826942d0a74f24b4f8b627fdee35f5bb7d31641222dc", func := "chandlery/chandlerylaw12.StockBack", spec := "stockBack", unfollowed := true, recurses := true, named := ["math/bits.deBruijn64tab"], plainKeys := false, apart := false, laid := [("math/bits.deBruijn64tab", laid_math_bits_deBruijn64tab)], narrowed := true }
def StockBackUptoSaid : Prop := stockBackUptoRow.holds Tryd.pinned (OpenSpec.upto stockBackSpec)

/-- 'chandlerylaw12.StockFills', WHERE WHAT IT READS IS OF BULK AT MOST 1048576: true; the input reads as it did. -/
def stockFillsUptoRow : OpenClaim := { program := "ytkogeeaoppkhkaadoor", sum := "8d6135afdefdc5d9beaf826942d0a74f24b4f8b627fdee35f5bb7d31641222dc", func := "chandlery/chandlerylaw12.StockFills", spec := "stockFills", unfollowed := true, recurses := true, named := ["math/bits.deBruijn64tab"], plainKeys := false, apart := false, laid := [("math/bits.deBruijn64tab", laid_math_bits_deBruijn64tab)], narrowed := true }
def StockFillsUptoSaid : Prop := stockFillsUptoRow.holds Tryd.pinned (OpenSpec.upto stockFillsSpec)

/-- 'chandlerylaw12.StockClasses', WHERE WHAT IT READS IS OF BULK AT MOST 1048576: true; the input reads as it did. -/
def stockClassesUptoRow : OpenClaim := { program := "ytkogeeaoppkhkaadoor", sum := "8d6135afdefdc5d9beaf826942d0a74f24b4f8b627fdee35f5bb7d31641222dc", func := "chandlery/chandlerylaw12.StockClasses", spec := "stockClasses", unfollowed := true, recurses := true, named := ["math/bits.deBruijn64tab"], plainKeys := false, apart := false, laid := [("math/bits.deBruijn64tab", laid_math_bits_deBruijn64tab)], narrowed := true }
def StockClassesUptoSaid : Prop := stockClassesUptoRow.holds Tryd.pinned (OpenSpec.upto stockClassesSpec)

/-- 'chandlerytop.WholeFlow', WHERE WHAT IT READS IS OF BULK AT MOST 1048576: true; the input reads as it did. -/
def wholeFlowUptoRow : OpenClaim := { program := "ytkogeeaoppkhkaadoor", sum := "8d6135afdefdc5d9beaf826942d0a74f24b4f8b627fdee35f5bb7d31641222dc", func := "chandlery/chandlerytop.WholeFlow", spec := "wholeFlow", unfollowed := true, recurses := true, named := ["chandlery/heart.numberField", "chandlery/heart.kindField", "math/bits.deBruijn64tab"], plainKeys := false, apart := false, laid := [("math/bits.deBruijn64tab", laid_math_bits_deBruijn64tab), ("chandlery/heart.kindField", laid_chandlery_heart_kindField), ("chandlery/heart.numberField", laid_chandlery_heart_numberField)], narrowed := true }
def WholeFlowUptoSaid : Prop := wholeFlowUptoRow.holds Tryd.pinned (OpenSpec.upto wholeFlowSpec)

end Rows
end Go.Proofs.YtkogeeaoppkhkaaDoor
