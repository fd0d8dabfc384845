/-
  NARROWER THAN 'FOR EVERY INPUT', by the rows' own cells (each row's printed sentence says how): WordFields: laid · WordPuts: laid · WordApart: laid · WordRefs: laid · WordTiles: laid · WordSigns: laid · MaskTells: laid · MaskParts: laid · MaskChanges: laid · MaskSplits: laid · MaskRuns: laid · MaskLists: laid.
  DERIVED. THE GIVEN ROWS OF THIS SEAT. 12 by the template 'for every input the law returns true; each argument reads behind the call as it read before'; 0 by the template 'total and deterministic' (their statements: YtjddbbkmaifcpaaDoorTotals.lean).
  GIVEN WITH THE SEED: the statements are not yours to turn. If you find one false, say at which input.
  Laid BY PROGRAM, IN A SANDBOX (cutbox-rows.mjs): the forced cells as the released guide's own fill.sh prints them over the translation 6d6cea36b66c9035… (all of the seat's roots in one cut). By AI agents, Wed Nov 11 2026. No macro, syntax, notation, axiom, sorry.
-/
import Derived.Test.YtjddbbkmaifcpaaDoorChecked
import GoSem.Claim
import GoSem.ClaimJoined
import GoSem.ClaimMapViews
import Derived.JoinedTies
import Derived.KernelRfl
namespace Go.Proofs.YtjddbbkmaifcpaaDoor
/- THE CELL 'sum', in the pinned program and in every row, IS THE sha256 OF THE DUMP (.gsa) THAT YtjddbbkmaifcpaaDoorProg.lean LOADS. Nothing in Lean hashes anything: it is a label: what it is worth is what the hold of that sum in a sandbox is worth. -/
noncomputable def Tryd.pinned : Pinned := { name := "ytjddbbkmaifcpaadoor", sum := "6d6cea36b66c90352580c5820e49692e976a9f83d891d4890f5d304be7004bf9", checked := Tryd.checked }
namespace Rows
def none {H : Type} : Left H := { results := [], args := [] }

/- WHAT THE LISTED PACKAGE-LEVEL VARIABLES READ AS WHEN THE CALL BEGINS. Each datum BY PROGRAM (the guide's laid-datum.mjs) off the statement by which the dump's own 'gosem.cut.vars' lays the variable. In a bare row this is a premise. The card (YtjddbbkmaifcpaaDoorCards.lean) ties it to the program's text. -/
def laid_chandlery_word_refFields {H : Type} : DataW H := .agg [.agg [.lit (.int .i64 0), .lit (.int .i64 8)], .agg [.lit (.int .i64 8), .lit (.int .i64 8)], .agg [.lit (.int .i64 16), .lit (.int .i64 32)]]
def laid_math_bits_deBruijn64tab {H : Type} : DataW H := .agg [.lit (.int .u8 0), .lit (.int .u8 1), .lit (.int .u8 56), .lit (.int .u8 2), .lit (.int .u8 57), .lit (.int .u8 49), .lit (.int .u8 28), .lit (.int .u8 3), .lit (.int .u8 61), .lit (.int .u8 58), .lit (.int .u8 42), .lit (.int .u8 50), .lit (.int .u8 38), .lit (.int .u8 29), .lit (.int .u8 17), .lit (.int .u8 4), .lit (.int .u8 62), .lit (.int .u8 47), .lit (.int .u8 59), .lit (.int .u8 36), .lit (.int .u8 45), .lit (.int .u8 43), .lit (.int .u8 51), .lit (.int .u8 22), .lit (.int .u8 53), .lit (.int .u8 39), .lit (.int .u8 33), .lit (.int .u8 30), .lit (.int .u8 24), .lit (.int .u8 18), .lit (.int .u8 12), .lit (.int .u8 5), .lit (.int .u8 63), .lit (.int .u8 55), .lit (.int .u8 48), .lit (.int .u8 27), .lit (.int .u8 60), .lit (.int .u8 41), .lit (.int .u8 37), .lit (.int .u8 16), .lit (.int .u8 46), .lit (.int .u8 35), .lit (.int .u8 44), .lit (.int .u8 21), .lit (.int .u8 52), .lit (.int .u8 32), .lit (.int .u8 23), .lit (.int .u8 11), .lit (.int .u8 54), .lit (.int .u8 26), .lit (.int .u8 40), .lit (.int .u8 15), .lit (.int .u8 34), .lit (.int .u8 20), .lit (.int .u8 31), .lit (.int .u8 10), .lit (.int .u8 25), .lit (.int .u8 14), .lit (.int .u8 19), .lit (.int .u8 9), .lit (.int .u8 13), .lit (.int .u8 8), .lit (.int .u8 7), .lit (.int .u8 6)]

/-- 'chandlerylaw01.WordFields': WHATEVER THE INPUT: true; the input reads as it did. -/
def wordFieldsSpec : ChangeSpec := { name := "wordFields", fn := fun _ => fun
  | [d1, d2] => { results := [.lit (.bool true)], args := [d1, d2] }
  | _ => none }
def wordFieldsRow : OpenClaim := { program := "ytjddbbkmaifcpaadoor", sum := "6d6cea36b66c90352580c5820e49692e976a9f83d891d4890f5d304be7004bf9", func := "chandlery/chandlerylaw01.WordFields", spec := "wordFields", named := ["chandlery/word.refFields"], apart := false, laid := [("chandlery/word.refFields", laid_chandlery_word_refFields)] }
def WordFieldsSaid : Prop := wordFieldsRow.holds Tryd.pinned (OpenSpec.ofChange wordFieldsSpec)

/-- ITS FALSE NEIGHBOUR: 'it returns false'. Refute it at one input. -/
def wordFieldsWrong : ChangeSpec := { name := "wordFields", fn := fun _ => fun
  | [d1, d2] => { results := [.lit (.bool false)], args := [d1, d2] }
  | _ => none }
def WordFieldsWrongFalsely : Prop := wordFieldsRow.holds Tryd.pinned (OpenSpec.ofChange wordFieldsWrong)

/-- 'chandlerylaw01.WordPuts': WHATEVER THE INPUT: true; the input reads as it did. -/
def wordPutsSpec : ChangeSpec := { name := "wordPuts", fn := fun _ => fun
  | [d1, d2, d3] => { results := [.lit (.bool true)], args := [d1, d2, d3] }
  | _ => none }
def wordPutsRow : OpenClaim := { program := "ytjddbbkmaifcpaadoor", sum := "6d6cea36b66c90352580c5820e49692e976a9f83d891d4890f5d304be7004bf9", func := "chandlery/chandlerylaw01.WordPuts", spec := "wordPuts", named := ["chandlery/word.refFields"], apart := false, laid := [("chandlery/word.refFields", laid_chandlery_word_refFields)] }
def WordPutsSaid : Prop := wordPutsRow.holds Tryd.pinned (OpenSpec.ofChange wordPutsSpec)

/-- ITS FALSE NEIGHBOUR: 'it returns false'. Refute it at one input. -/
def wordPutsWrong : ChangeSpec := { name := "wordPuts", fn := fun _ => fun
  | [d1, d2, d3] => { results := [.lit (.bool false)], args := [d1, d2, d3] }
  | _ => none }
def WordPutsWrongFalsely : Prop := wordPutsRow.holds Tryd.pinned (OpenSpec.ofChange wordPutsWrong)

/-- 'chandlerylaw01.WordApart': WHATEVER THE INPUT: true; the input reads as it did. -/
def wordApartSpec : ChangeSpec := { name := "wordApart", fn := fun _ => fun
  | [d] => { results := [.lit (.bool true)], args := [d] }
  | _ => none }
def wordApartRow : OpenClaim := { program := "ytjddbbkmaifcpaadoor", sum := "6d6cea36b66c90352580c5820e49692e976a9f83d891d4890f5d304be7004bf9", func := "chandlery/chandlerylaw01.WordApart", spec := "wordApart", named := ["chandlery/word.refFields"], apart := false, laid := [("chandlery/word.refFields", laid_chandlery_word_refFields)] }
def WordApartSaid : Prop := wordApartRow.holds Tryd.pinned (OpenSpec.ofChange wordApartSpec)

/-- ITS FALSE NEIGHBOUR: 'it returns false'. Refute it at one input. -/
def wordApartWrong : ChangeSpec := { name := "wordApart", fn := fun _ => fun
  | [d] => { results := [.lit (.bool false)], args := [d] }
  | _ => none }
def WordApartWrongFalsely : Prop := wordApartRow.holds Tryd.pinned (OpenSpec.ofChange wordApartWrong)

/-- 'chandlerylaw01.WordRefs': WHATEVER THE INPUT: true; the input reads as it did. -/
def wordRefsSpec : ChangeSpec := { name := "wordRefs", fn := fun _ => fun
  | [d1, d2] => { results := [.lit (.bool true)], args := [d1, d2] }
  | _ => none }
def wordRefsRow : OpenClaim := { program := "ytjddbbkmaifcpaadoor", sum := "6d6cea36b66c90352580c5820e49692e976a9f83d891d4890f5d304be7004bf9", func := "chandlery/chandlerylaw01.WordRefs", spec := "wordRefs", named := ["chandlery/word.refFields"], apart := false, laid := [("chandlery/word.refFields", laid_chandlery_word_refFields)] }
def WordRefsSaid : Prop := wordRefsRow.holds Tryd.pinned (OpenSpec.ofChange wordRefsSpec)

/-- ITS FALSE NEIGHBOUR: 'it returns false'. Refute it at one input. -/
def wordRefsWrong : ChangeSpec := { name := "wordRefs", fn := fun _ => fun
  | [d1, d2] => { results := [.lit (.bool false)], args := [d1, d2] }
  | _ => none }
def WordRefsWrongFalsely : Prop := wordRefsRow.holds Tryd.pinned (OpenSpec.ofChange wordRefsWrong)

/-- 'chandlerylaw01.WordTiles': WHATEVER THE INPUT: true; the input reads as it did. -/
def wordTilesSpec : ChangeSpec := { name := "wordTiles", fn := fun _ => fun
  | [d1, d2] => { results := [.lit (.bool true)], args := [d1, d2] }
  | _ => none }
def wordTilesRow : OpenClaim := { program := "ytjddbbkmaifcpaadoor", sum := "6d6cea36b66c90352580c5820e49692e976a9f83d891d4890f5d304be7004bf9", func := "chandlery/chandlerylaw01.WordTiles", spec := "wordTiles", named := ["chandlery/word.refFields"], apart := false, laid := [("chandlery/word.refFields", laid_chandlery_word_refFields)] }
def WordTilesSaid : Prop := wordTilesRow.holds Tryd.pinned (OpenSpec.ofChange wordTilesSpec)

/-- ITS FALSE NEIGHBOUR: 'it returns false'. Refute it at one input. -/
def wordTilesWrong : ChangeSpec := { name := "wordTiles", fn := fun _ => fun
  | [d1, d2] => { results := [.lit (.bool false)], args := [d1, d2] }
  | _ => none }
def WordTilesWrongFalsely : Prop := wordTilesRow.holds Tryd.pinned (OpenSpec.ofChange wordTilesWrong)

/-- 'chandlerylaw01.WordSigns': WHATEVER THE INPUT: true; the input reads as it did. -/
def wordSignsSpec : ChangeSpec := { name := "wordSigns", fn := fun _ => fun
  | [d1, d2] => { results := [.lit (.bool true)], args := [d1, d2] }
  | _ => none }
def wordSignsRow : OpenClaim := { program := "ytjddbbkmaifcpaadoor", sum := "6d6cea36b66c90352580c5820e49692e976a9f83d891d4890f5d304be7004bf9", func := "chandlery/chandlerylaw01.WordSigns", spec := "wordSigns", named := ["chandlery/word.refFields"], apart := false, laid := [("chandlery/word.refFields", laid_chandlery_word_refFields)] }
def WordSignsSaid : Prop := wordSignsRow.holds Tryd.pinned (OpenSpec.ofChange wordSignsSpec)

/-- ITS FALSE NEIGHBOUR: 'it returns false'. Refute it at one input. -/
def wordSignsWrong : ChangeSpec := { name := "wordSigns", fn := fun _ => fun
  | [d1, d2] => { results := [.lit (.bool false)], args := [d1, d2] }
  | _ => none }
def WordSignsWrongFalsely : Prop := wordSignsRow.holds Tryd.pinned (OpenSpec.ofChange wordSignsWrong)

/-- 'chandlerylaw02.MaskTells': WHATEVER THE INPUT: true; the input reads as it did. -/
def maskTellsSpec : ChangeSpec := { name := "maskTells", fn := fun _ => fun
  | [d1, d2] => { results := [.lit (.bool true)], args := [d1, d2] }
  | _ => none }
def maskTellsRow : OpenClaim := { program := "ytjddbbkmaifcpaadoor", sum := "6d6cea36b66c90352580c5820e49692e976a9f83d891d4890f5d304be7004bf9", func := "chandlery/chandlerylaw02.MaskTells", spec := "maskTells", named := ["math/bits.deBruijn64tab"], apart := false, laid := [("math/bits.deBruijn64tab", laid_math_bits_deBruijn64tab)] }
def MaskTellsSaid : Prop := maskTellsRow.holds Tryd.pinned (OpenSpec.ofChange maskTellsSpec)

/-- ITS FALSE NEIGHBOUR: 'it returns false'. Refute it at one input. -/
def maskTellsWrong : ChangeSpec := { name := "maskTells", fn := fun _ => fun
  | [d1, d2] => { results := [.lit (.bool false)], args := [d1, d2] }
  | _ => none }
def MaskTellsWrongFalsely : Prop := maskTellsRow.holds Tryd.pinned (OpenSpec.ofChange maskTellsWrong)

/-- 'chandlerylaw02.MaskParts': WHATEVER THE INPUT: true; the input reads as it did. -/
def maskPartsSpec : ChangeSpec := { name := "maskParts", fn := fun _ => fun
  | [d1, d2] => { results := [.lit (.bool true)], args := [d1, d2] }
  | _ => none }
def maskPartsRow : OpenClaim := { program := "ytjddbbkmaifcpaadoor", sum := "6d6cea36b66c90352580c5820e49692e976a9f83d891d4890f5d304be7004bf9", func := "chandlery/chandlerylaw02.MaskParts", spec := "maskParts", named := ["math/bits.deBruijn64tab"], apart := false, laid := [("math/bits.deBruijn64tab", laid_math_bits_deBruijn64tab)] }
def MaskPartsSaid : Prop := maskPartsRow.holds Tryd.pinned (OpenSpec.ofChange maskPartsSpec)

/-- ITS FALSE NEIGHBOUR: 'it returns false'. Refute it at one input. -/
def maskPartsWrong : ChangeSpec := { name := "maskParts", fn := fun _ => fun
  | [d1, d2] => { results := [.lit (.bool false)], args := [d1, d2] }
  | _ => none }
def MaskPartsWrongFalsely : Prop := maskPartsRow.holds Tryd.pinned (OpenSpec.ofChange maskPartsWrong)

/-- 'chandlerylaw02.MaskChanges': WHATEVER THE INPUT: true; the input reads as it did. -/
def maskChangesSpec : ChangeSpec := { name := "maskChanges", fn := fun _ => fun
  | [d1, d2] => { results := [.lit (.bool true)], args := [d1, d2] }
  | _ => none }
def maskChangesRow : OpenClaim := { program := "ytjddbbkmaifcpaadoor", sum := "6d6cea36b66c90352580c5820e49692e976a9f83d891d4890f5d304be7004bf9", func := "chandlery/chandlerylaw02.MaskChanges", spec := "maskChanges", named := ["math/bits.deBruijn64tab"], apart := false, laid := [("math/bits.deBruijn64tab", laid_math_bits_deBruijn64tab)] }
def MaskChangesSaid : Prop := maskChangesRow.holds Tryd.pinned (OpenSpec.ofChange maskChangesSpec)

/-- ITS FALSE NEIGHBOUR: 'it returns false'. Refute it at one input. -/
def maskChangesWrong : ChangeSpec := { name := "maskChanges", fn := fun _ => fun
  | [d1, d2] => { results := [.lit (.bool false)], args := [d1, d2] }
  | _ => none }
def MaskChangesWrongFalsely : Prop := maskChangesRow.holds Tryd.pinned (OpenSpec.ofChange maskChangesWrong)

/-- 'chandlerylaw02.MaskSplits': WHATEVER THE INPUT: true; the input reads as it did. -/
def maskSplitsSpec : ChangeSpec := { name := "maskSplits", fn := fun _ => fun
  | [d1, d2] => { results := [.lit (.bool true)], args := [d1, d2] }
  | _ => none }
def maskSplitsRow : OpenClaim := { program := "ytjddbbkmaifcpaadoor", sum := "6d6cea36b66c90352580c5820e49692e976a9f83d891d4890f5d304be7004bf9", func := "chandlery/chandlerylaw02.MaskSplits", spec := "maskSplits", named := ["math/bits.deBruijn64tab"], apart := false, laid := [("math/bits.deBruijn64tab", laid_math_bits_deBruijn64tab)] }
def MaskSplitsSaid : Prop := maskSplitsRow.holds Tryd.pinned (OpenSpec.ofChange maskSplitsSpec)

/-- ITS FALSE NEIGHBOUR: 'it returns false'. Refute it at one input. -/
def maskSplitsWrong : ChangeSpec := { name := "maskSplits", fn := fun _ => fun
  | [d1, d2] => { results := [.lit (.bool false)], args := [d1, d2] }
  | _ => none }
def MaskSplitsWrongFalsely : Prop := maskSplitsRow.holds Tryd.pinned (OpenSpec.ofChange maskSplitsWrong)

/-- 'chandlerylaw02.MaskRuns': WHATEVER THE INPUT: true; the input reads as it did. -/
def maskRunsSpec : ChangeSpec := { name := "maskRuns", fn := fun _ => fun
  | [d1, d2] => { results := [.lit (.bool true)], args := [d1, d2] }
  | _ => none }
def maskRunsRow : OpenClaim := { program := "ytjddbbkmaifcpaadoor", sum := "6d6cea36b66c90352580c5820e49692e976a9f83d891d4890f5d304be7004bf9", func := "chandlery/chandlerylaw02.MaskRuns", spec := "maskRuns", named := ["math/bits.deBruijn64tab"], apart := false, laid := [("math/bits.deBruijn64tab", laid_math_bits_deBruijn64tab)] }
def MaskRunsSaid : Prop := maskRunsRow.holds Tryd.pinned (OpenSpec.ofChange maskRunsSpec)

/-- ITS FALSE NEIGHBOUR: 'it returns false'. Refute it at one input. -/
def maskRunsWrong : ChangeSpec := { name := "maskRuns", fn := fun _ => fun
  | [d1, d2] => { results := [.lit (.bool false)], args := [d1, d2] }
  | _ => none }
def MaskRunsWrongFalsely : Prop := maskRunsRow.holds Tryd.pinned (OpenSpec.ofChange maskRunsWrong)

/-- 'chandlerylaw02.MaskLists': WHATEVER THE INPUT: true; the input reads as it did. -/
def maskListsSpec : ChangeSpec := { name := "maskLists", fn := fun _ => fun
  | [d1, d2] => { results := [.lit (.bool true)], args := [d1, d2] }
  | _ => none }
def maskListsRow : OpenClaim := { program := "ytjddbbkmaifcpaadoor", sum := "6d6cea36b66c90352580c5820e49692e976a9f83d891d4890f5d304be7004bf9", func := "chandlery/chandlerylaw02.MaskLists", spec := "maskLists", named := ["math/bits.deBruijn64tab"], apart := false, laid := [("math/bits.deBruijn64tab", laid_math_bits_deBruijn64tab)] }
def MaskListsSaid : Prop := maskListsRow.holds Tryd.pinned (OpenSpec.ofChange maskListsSpec)

/-- ITS FALSE NEIGHBOUR: 'it returns false'. Refute it at one input. -/
def maskListsWrong : ChangeSpec := { name := "maskLists", fn := fun _ => fun
  | [d1, d2] => { results := [.lit (.bool false)], args := [d1, d2] }
  | _ => none }
def MaskListsWrongFalsely : Prop := maskListsRow.holds Tryd.pinned (OpenSpec.ofChange maskListsWrong)

/- THE SECOND FORM. 'bulk': how many values and letters a reading holds, each counted each time it is reached (what is shared counts as often as it is met; a slice's spare places count too). A statement '..UptoSaid' is the law's where the arguments, and the package variables that the reading takes, are together of bulk at most 1048576: NARROWER than '..Said'. Prove '..Said' where nothing that the law and all that it calls make is longer than what came in: it says more and counts as full. Else prove '..UptoSaid'. A law counts once. -/
mutual
def uptoBulk {H : Type} : DataW H → Nat
  | .lit (.string bytes) => bytes.length + 1
  | .lit _ => 1
  | .nil => 1
  | .ptr d => uptoBulk d + 1
  | .slice elems spare => uptoBulkAll elems + uptoBulkAll spare + 1
  | .agg parts => uptoBulkAll parts + 1
  | .iface _ d => uptoBulk d + 1
  | .map entries => uptoBulkEntries entries + 1
  | .held _ => 1
def uptoBulkAll {H : Type} : List (DataW H) → Nat
  | [] => 0
  | d :: r => uptoBulk d + uptoBulkAll r
def uptoBulkEntries {H : Type} : List (Lit × DataW H) → Nat
  | [] => 0
  | x :: r => uptoBulkEntry x + uptoBulkEntries r
def uptoBulkEntry {H : Type} : Lit × DataW H → Nat
  | (.string bytes, d) => bytes.length + uptoBulk d + 1
  | (_, d) => uptoBulk d + 1
 end
def uptoSmall : (H : Type) → List (DataW H) → Bool := fun _ ds => decide (uptoBulkAll ds ≤ 1048576)
def OpenSpec.upto (s : _root_.Go.ChangeSpec) : _root_.Go.OpenSpec := { _root_.Go.OpenSpec.ofChange s with cond := some uptoSmall }

/-- 'chandlerylaw01.WordFields', WHERE WHAT IT READS IS OF BULK AT MOST 1048576: true; the input reads as it did. -/
def wordFieldsUptoRow : OpenClaim := { program := "ytjddbbkmaifcpaadoor", sum := "6d6cea36b66c90352580c5820e49692e976a9f83d891d4890f5d304be7004bf9", func := "chandlery/chandlerylaw01.WordFields", spec := "wordFields", named := ["chandlery/word.refFields"], apart := false, laid := [("chandlery/word.refFields", laid_chandlery_word_refFields)], narrowed := true }
def WordFieldsUptoSaid : Prop := wordFieldsUptoRow.holds Tryd.pinned (OpenSpec.upto wordFieldsSpec)

/-- 'chandlerylaw01.WordPuts', WHERE WHAT IT READS IS OF BULK AT MOST 1048576: true; the input reads as it did. -/
def wordPutsUptoRow : OpenClaim := { program := "ytjddbbkmaifcpaadoor", sum := "6d6cea36b66c90352580c5820e49692e976a9f83d891d4890f5d304be7004bf9", func := "chandlery/chandlerylaw01.WordPuts", spec := "wordPuts", named := ["chandlery/word.refFields"], apart := false, laid := [("chandlery/word.refFields", laid_chandlery_word_refFields)], narrowed := true }
def WordPutsUptoSaid : Prop := wordPutsUptoRow.holds Tryd.pinned (OpenSpec.upto wordPutsSpec)

/-- 'chandlerylaw01.WordApart', WHERE WHAT IT READS IS OF BULK AT MOST 1048576: true; the input reads as it did. -/
def wordApartUptoRow : OpenClaim := { program := "ytjddbbkmaifcpaadoor", sum := "6d6cea36b66c90352580c5820e49692e976a9f83d891d4890f5d304be7004bf9", func := "chandlery/chandlerylaw01.WordApart", spec := "wordApart", named := ["chandlery/word.refFields"], apart := false, laid := [("chandlery/word.refFields", laid_chandlery_word_refFields)], narrowed := true }
def WordApartUptoSaid : Prop := wordApartUptoRow.holds Tryd.pinned (OpenSpec.upto wordApartSpec)

/-- 'chandlerylaw01.WordRefs', WHERE WHAT IT READS IS OF BULK AT MOST 1048576: true; the input reads as it did. -/
def wordRefsUptoRow : OpenClaim := { program := "ytjddbbkmaifcpaadoor", sum := "6d6cea36b66c90352580c5820e49692e976a9f83d891d4890f5d304be7004bf9", func := "chandlery/chandlerylaw01.WordRefs", spec := "wordRefs", named := ["chandlery/word.refFields"], apart := false, laid := [("chandlery/word.refFields", laid_chandlery_word_refFields)], narrowed := true }
def WordRefsUptoSaid : Prop := wordRefsUptoRow.holds Tryd.pinned (OpenSpec.upto wordRefsSpec)

/-- 'chandlerylaw01.WordTiles', WHERE WHAT IT READS IS OF BULK AT MOST 1048576: true; the input reads as it did. -/
def wordTilesUptoRow : OpenClaim := { program := "ytjddbbkmaifcpaadoor", sum := "6d6cea36b66c90352580c5820e49692e976a9f83d891d4890f5d304be7004bf9", func := "chandlery/chandlerylaw01.WordTiles", spec := "wordTiles", named := ["chandlery/word.refFields"], apart := false, laid := [("chandlery/word.refFields", laid_chandlery_word_refFields)], narrowed := true }
def WordTilesUptoSaid : Prop := wordTilesUptoRow.holds Tryd.pinned (OpenSpec.upto wordTilesSpec)

/-- 'chandlerylaw01.WordSigns', WHERE WHAT IT READS IS OF BULK AT MOST 1048576: true; the input reads as it did. -/
def wordSignsUptoRow : OpenClaim := { program := "ytjddbbkmaifcpaadoor", sum := "6d6cea36b66c90352580c5820e49692e976a9f83d891d4890f5d304be7004bf9", func := "chandlery/chandlerylaw01.WordSigns", spec := "wordSigns", named := ["chandlery/word.refFields"], apart := false, laid := [("chandlery/word.refFields", laid_chandlery_word_refFields)], narrowed := true }
def WordSignsUptoSaid : Prop := wordSignsUptoRow.holds Tryd.pinned (OpenSpec.upto wordSignsSpec)

/-- 'chandlerylaw02.MaskTells', WHERE WHAT IT READS IS OF BULK AT MOST 1048576: true; the input reads as it did. -/
def maskTellsUptoRow : OpenClaim := { program := "ytjddbbkmaifcpaadoor", sum := "6d6cea36b66c90352580c5820e49692e976a9f83d891d4890f5d304be7004bf9", func := "chandlery/chandlerylaw02.MaskTells", spec := "maskTells", named := ["math/bits.deBruijn64tab"], apart := false, laid := [("math/bits.deBruijn64tab", laid_math_bits_deBruijn64tab)], narrowed := true }
def MaskTellsUptoSaid : Prop := maskTellsUptoRow.holds Tryd.pinned (OpenSpec.upto maskTellsSpec)

/-- 'chandlerylaw02.MaskParts', WHERE WHAT IT READS IS OF BULK AT MOST 1048576: true; the input reads as it did. -/
def maskPartsUptoRow : OpenClaim := { program := "ytjddbbkmaifcpaadoor", sum := "6d6cea36b66c90352580c5820e49692e976a9f83d891d4890f5d304be7004bf9", func := "chandlery/chandlerylaw02.MaskParts", spec := "maskParts", named := ["math/bits.deBruijn64tab"], apart := false, laid := [("math/bits.deBruijn64tab", laid_math_bits_deBruijn64tab)], narrowed := true }
def MaskPartsUptoSaid : Prop := maskPartsUptoRow.holds Tryd.pinned (OpenSpec.upto maskPartsSpec)

/-- 'chandlerylaw02.MaskChanges', WHERE WHAT IT READS IS OF BULK AT MOST 1048576: true; the input reads as it did. -/
def maskChangesUptoRow : OpenClaim := { program := "ytjddbbkmaifcpaadoor", sum := "6d6cea36b66c90352580c5820e49692e976a9f83d891d4890f5d304be7004bf9", func := "chandlery/chandlerylaw02.MaskChanges", spec := "maskChanges", named := ["math/bits.deBruijn64tab"], apart := false, laid := [("math/bits.deBruijn64tab", laid_math_bits_deBruijn64tab)], narrowed := true }
def MaskChangesUptoSaid : Prop := maskChangesUptoRow.holds Tryd.pinned (OpenSpec.upto maskChangesSpec)

/-- 'chandlerylaw02.MaskSplits', WHERE WHAT IT READS IS OF BULK AT MOST 1048576: true; the input reads as it did. -/
def maskSplitsUptoRow : OpenClaim := { program := "ytjddbbkmaifcpaadoor", sum := "6d6cea36b66c90352580c5820e49692e976a9f83d891d4890f5d304be7004bf9", func := "chandlery/chandlerylaw02.MaskSplits", spec := "maskSplits", named := ["math/bits.deBruijn64tab"], apart := false, laid := [("math/bits.deBruijn64tab", laid_math_bits_deBruijn64tab)], narrowed := true }
def MaskSplitsUptoSaid : Prop := maskSplitsUptoRow.holds Tryd.pinned (OpenSpec.upto maskSplitsSpec)

/-- 'chandlerylaw02.MaskRuns', WHERE WHAT IT READS IS OF BULK AT MOST 1048576: true; the input reads as it did. -/
def maskRunsUptoRow : OpenClaim := { program := "ytjddbbkmaifcpaadoor", sum := "6d6cea36b66c90352580c5820e49692e976a9f83d891d4890f5d304be7004bf9", func := "chandlery/chandlerylaw02.MaskRuns", spec := "maskRuns", named := ["math/bits.deBruijn64tab"], apart := false, laid := [("math/bits.deBruijn64tab", laid_math_bits_deBruijn64tab)], narrowed := true }
def MaskRunsUptoSaid : Prop := maskRunsUptoRow.holds Tryd.pinned (OpenSpec.upto maskRunsSpec)

/-- 'chandlerylaw02.MaskLists', WHERE WHAT IT READS IS OF BULK AT MOST 1048576: true; the input reads as it did. -/
def maskListsUptoRow : OpenClaim := { program := "ytjddbbkmaifcpaadoor", sum := "6d6cea36b66c90352580c5820e49692e976a9f83d891d4890f5d304be7004bf9", func := "chandlery/chandlerylaw02.MaskLists", spec := "maskLists", named := ["math/bits.deBruijn64tab"], apart := false, laid := [("math/bits.deBruijn64tab", laid_math_bits_deBruijn64tab)], narrowed := true }
def MaskListsUptoSaid : Prop := maskListsUptoRow.holds Tryd.pinned (OpenSpec.upto maskListsSpec)

end Rows
end Go.Proofs.YtjddbbkmaifcpaaDoor
