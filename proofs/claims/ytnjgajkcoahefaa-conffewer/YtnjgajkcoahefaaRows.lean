/-
  No cell of these rows narrows 'for every input' (looked for: loops, veiled, ifaces, maps, wideKeys, modest, calm, conditions, laid).
  DERIVED. THE GIVEN ROWS OF THIS SEAT. 12 by the template 'for every input the law returns true; each argument reads behind the call as it read before'; 0 by the template 'total and deterministic' (their statements: YtnjgajkcoahefaaTotals.lean).
  GIVEN WITH THE SEED: the statements are not yours to turn. If you find one false, say at which input.
  Laid BY PROGRAM, IN A SANDBOX (cutbox-rows.mjs): the forced cells as the released guide's own fill.sh prints them over the translation daf0f6da3e44806b… (all of the seat's roots in one cut). By AI agents, Wed Nov 11 2026. No macro, syntax, notation, axiom, sorry.
-/
import Derived.Test.YtnjgajkcoahefaaChecked
import GoSem.Claim
import GoSem.ClaimJoined
import GoSem.ClaimMapViews
import Derived.JoinedTies
import Derived.KernelRfl
namespace Go.Proofs.Ytnjgajkcoahefaa
/- THE CELL 'sum', in the pinned program and in every row, IS THE sha256 OF THE DUMP (.gsa) THAT YtnjgajkcoahefaaProg.lean LOADS. Nothing in Lean hashes anything: it is a label: what it is worth is what the hold of that sum in a sandbox is worth. -/
noncomputable def Try.pinned : Pinned := { name := "ytnjgajkcoahefaa", sum := "daf0f6da3e44806b34af6ba00146d9c27dafae52aefb5664a3a895163ff4bf21", checked := Try.checked }
namespace Rows
def none {H : Type} : Left H := { results := [], args := [] }

/-- 'chandlerylaw03.MemDoes': WHATEVER THE INPUT: true; the input reads as it did. -/
def memDoesSpec : ChangeSpec := { name := "memDoes", fn := fun _ => fun
  | [d1, d2] => { results := [.lit (.bool true)], args := [d1, d2] }
  | _ => none }
def memDoesRow : OpenClaim := { program := "ytnjgajkcoahefaa", sum := "daf0f6da3e44806b34af6ba00146d9c27dafae52aefb5664a3a895163ff4bf21", func := "chandlery/chandlerylaw03.MemDoes", spec := "memDoes", apart := false }
def MemDoesSaid : Prop := memDoesRow.holds Try.pinned (OpenSpec.ofChange memDoesSpec)

/-- ITS FALSE NEIGHBOUR: 'it returns false'. Refute it at one input. -/
def memDoesWrong : ChangeSpec := { name := "memDoes", fn := fun _ => fun
  | [d1, d2] => { results := [.lit (.bool false)], args := [d1, d2] }
  | _ => none }
def MemDoesWrongFalsely : Prop := memDoesRow.holds Try.pinned (OpenSpec.ofChange memDoesWrong)

/-- 'chandlerylaw03.MemOne': WHATEVER THE INPUT: true; the input reads as it did. -/
def memOneSpec : ChangeSpec := { name := "memOne", fn := fun _ => fun
  | [d1, d2] => { results := [.lit (.bool true)], args := [d1, d2] }
  | _ => none }
def memOneRow : OpenClaim := { program := "ytnjgajkcoahefaa", sum := "daf0f6da3e44806b34af6ba00146d9c27dafae52aefb5664a3a895163ff4bf21", func := "chandlery/chandlerylaw03.MemOne", spec := "memOne", apart := false }
def MemOneSaid : Prop := memOneRow.holds Try.pinned (OpenSpec.ofChange memOneSpec)

/-- ITS FALSE NEIGHBOUR: 'it returns false'. Refute it at one input. -/
def memOneWrong : ChangeSpec := { name := "memOne", fn := fun _ => fun
  | [d1, d2] => { results := [.lit (.bool false)], args := [d1, d2] }
  | _ => none }
def MemOneWrongFalsely : Prop := memOneRow.holds Try.pinned (OpenSpec.ofChange memOneWrong)

/-- 'chandlerylaw03.MemSwings': WHATEVER THE INPUT: true; the input reads as it did. -/
def memSwingsSpec : ChangeSpec := { name := "memSwings", fn := fun _ => fun
  | [d1, d2] => { results := [.lit (.bool true)], args := [d1, d2] }
  | _ => none }
def memSwingsRow : OpenClaim := { program := "ytnjgajkcoahefaa", sum := "daf0f6da3e44806b34af6ba00146d9c27dafae52aefb5664a3a895163ff4bf21", func := "chandlery/chandlerylaw03.MemSwings", spec := "memSwings", apart := false }
def MemSwingsSaid : Prop := memSwingsRow.holds Try.pinned (OpenSpec.ofChange memSwingsSpec)

/-- ITS FALSE NEIGHBOUR: 'it returns false'. Refute it at one input. -/
def memSwingsWrong : ChangeSpec := { name := "memSwings", fn := fun _ => fun
  | [d1, d2] => { results := [.lit (.bool false)], args := [d1, d2] }
  | _ => none }
def MemSwingsWrongFalsely : Prop := memSwingsRow.holds Try.pinned (OpenSpec.ofChange memSwingsWrong)

/-- 'chandlerylaw03.MemOwn': WHATEVER THE INPUT: true; the input reads as it did. -/
def memOwnSpec : ChangeSpec := { name := "memOwn", fn := fun _ => fun
  | [d1, d2] => { results := [.lit (.bool true)], args := [d1, d2] }
  | _ => none }
def memOwnRow : OpenClaim := { program := "ytnjgajkcoahefaa", sum := "daf0f6da3e44806b34af6ba00146d9c27dafae52aefb5664a3a895163ff4bf21", func := "chandlery/chandlerylaw03.MemOwn", spec := "memOwn", apart := false }
def MemOwnSaid : Prop := memOwnRow.holds Try.pinned (OpenSpec.ofChange memOwnSpec)

/-- ITS FALSE NEIGHBOUR: 'it returns false'. Refute it at one input. -/
def memOwnWrong : ChangeSpec := { name := "memOwn", fn := fun _ => fun
  | [d1, d2] => { results := [.lit (.bool false)], args := [d1, d2] }
  | _ => none }
def MemOwnWrongFalsely : Prop := memOwnRow.holds Try.pinned (OpenSpec.ofChange memOwnWrong)

/-- 'chandlerylaw03.MemAdds': WHATEVER THE INPUT: true; the input reads as it did. -/
def memAddsSpec : ChangeSpec := { name := "memAdds", fn := fun _ => fun
  | [d] => { results := [.lit (.bool true)], args := [d] }
  | _ => none }
def memAddsRow : OpenClaim := { program := "ytnjgajkcoahefaa", sum := "daf0f6da3e44806b34af6ba00146d9c27dafae52aefb5664a3a895163ff4bf21", func := "chandlery/chandlerylaw03.MemAdds", spec := "memAdds", apart := false }
def MemAddsSaid : Prop := memAddsRow.holds Try.pinned (OpenSpec.ofChange memAddsSpec)

/-- ITS FALSE NEIGHBOUR: 'it returns false'. Refute it at one input. -/
def memAddsWrong : ChangeSpec := { name := "memAdds", fn := fun _ => fun
  | [d] => { results := [.lit (.bool false)], args := [d] }
  | _ => none }
def MemAddsWrongFalsely : Prop := memAddsRow.holds Try.pinned (OpenSpec.ofChange memAddsWrong)

/-- 'chandlerylaw03.MemOuter': WHATEVER THE INPUT: true; the input reads as it did. -/
def memOuterSpec : ChangeSpec := { name := "memOuter", fn := fun _ => fun
  | [d1, d2, d3] => { results := [.lit (.bool true)], args := [d1, d2, d3] }
  | _ => none }
def memOuterRow : OpenClaim := { program := "ytnjgajkcoahefaa", sum := "daf0f6da3e44806b34af6ba00146d9c27dafae52aefb5664a3a895163ff4bf21", func := "chandlery/chandlerylaw03.MemOuter", spec := "memOuter", apart := false }
def MemOuterSaid : Prop := memOuterRow.holds Try.pinned (OpenSpec.ofChange memOuterSpec)

/-- ITS FALSE NEIGHBOUR: 'it returns false'. Refute it at one input. -/
def memOuterWrong : ChangeSpec := { name := "memOuter", fn := fun _ => fun
  | [d1, d2, d3] => { results := [.lit (.bool false)], args := [d1, d2, d3] }
  | _ => none }
def MemOuterWrongFalsely : Prop := memOuterRow.holds Try.pinned (OpenSpec.ofChange memOuterWrong)

/-- 'chandlerylaw04.ConfChecks': WHATEVER THE INPUT: true; the input reads as it did. -/
def confChecksSpec : ChangeSpec := { name := "confChecks", fn := fun _ => fun
  | [d] => { results := [.lit (.bool true)], args := [d] }
  | _ => none }
def confChecksRow : OpenClaim := { program := "ytnjgajkcoahefaa", sum := "daf0f6da3e44806b34af6ba00146d9c27dafae52aefb5664a3a895163ff4bf21", func := "chandlery/chandlerylaw04.ConfChecks", spec := "confChecks", apart := false }
def ConfChecksSaid : Prop := confChecksRow.holds Try.pinned (OpenSpec.ofChange confChecksSpec)

/-- ITS FALSE NEIGHBOUR: 'it returns false'. Refute it at one input. -/
def confChecksWrong : ChangeSpec := { name := "confChecks", fn := fun _ => fun
  | [d] => { results := [.lit (.bool false)], args := [d] }
  | _ => none }
def ConfChecksWrongFalsely : Prop := confChecksRow.holds Try.pinned (OpenSpec.ofChange confChecksWrong)

/-- 'chandlerylaw04.ConfBounds': WHATEVER THE INPUT: true; the input reads as it did. -/
def confBoundsSpec : ChangeSpec := { name := "confBounds", fn := fun _ => fun
  | [d] => { results := [.lit (.bool true)], args := [d] }
  | _ => none }
def confBoundsRow : OpenClaim := { program := "ytnjgajkcoahefaa", sum := "daf0f6da3e44806b34af6ba00146d9c27dafae52aefb5664a3a895163ff4bf21", func := "chandlery/chandlerylaw04.ConfBounds", spec := "confBounds", apart := false }
def ConfBoundsSaid : Prop := confBoundsRow.holds Try.pinned (OpenSpec.ofChange confBoundsSpec)

/-- ITS FALSE NEIGHBOUR: 'it returns false'. Refute it at one input. -/
def confBoundsWrong : ChangeSpec := { name := "confBounds", fn := fun _ => fun
  | [d] => { results := [.lit (.bool false)], args := [d] }
  | _ => none }
def ConfBoundsWrongFalsely : Prop := confBoundsRow.holds Try.pinned (OpenSpec.ofChange confBoundsWrong)

/-- 'chandlerylaw04.ConfOwn': WHATEVER THE INPUT: true; the input reads as it did. -/
def confOwnSpec : ChangeSpec := { name := "confOwn", fn := fun _ => fun
  | [d1, d2] => { results := [.lit (.bool true)], args := [d1, d2] }
  | _ => none }
def confOwnRow : OpenClaim := { program := "ytnjgajkcoahefaa", sum := "daf0f6da3e44806b34af6ba00146d9c27dafae52aefb5664a3a895163ff4bf21", func := "chandlery/chandlerylaw04.ConfOwn", spec := "confOwn", apart := false }
def ConfOwnSaid : Prop := confOwnRow.holds Try.pinned (OpenSpec.ofChange confOwnSpec)

/-- ITS FALSE NEIGHBOUR: 'it returns false'. Refute it at one input. -/
def confOwnWrong : ChangeSpec := { name := "confOwn", fn := fun _ => fun
  | [d1, d2] => { results := [.lit (.bool false)], args := [d1, d2] }
  | _ => none }
def ConfOwnWrongFalsely : Prop := confOwnRow.holds Try.pinned (OpenSpec.ofChange confOwnWrong)

/-- 'chandlerylaw04.ConfFewer': WHATEVER THE INPUT: true; the input reads as it did. -/
def confFewerSpec : ChangeSpec := { name := "confFewer", fn := fun _ => fun
  | [d1, d2] => { results := [.lit (.bool true)], args := [d1, d2] }
  | _ => none }
def confFewerRow : OpenClaim := { program := "ytnjgajkcoahefaa", sum := "daf0f6da3e44806b34af6ba00146d9c27dafae52aefb5664a3a895163ff4bf21", func := "chandlery/chandlerylaw04.ConfFewer", spec := "confFewer", apart := false }
def ConfFewerSaid : Prop := confFewerRow.holds Try.pinned (OpenSpec.ofChange confFewerSpec)

/-- ITS FALSE NEIGHBOUR: 'it returns false'. Refute it at one input. -/
def confFewerWrong : ChangeSpec := { name := "confFewer", fn := fun _ => fun
  | [d1, d2] => { results := [.lit (.bool false)], args := [d1, d2] }
  | _ => none }
def ConfFewerWrongFalsely : Prop := confFewerRow.holds Try.pinned (OpenSpec.ofChange confFewerWrong)

/-- 'chandlerylaw04.ConfCalls': WHATEVER THE INPUT: true; the input reads as it did. -/
def confCallsSpec : ChangeSpec := { name := "confCalls", fn := fun _ => fun
  | [d1, d2, d3] => { results := [.lit (.bool true)], args := [d1, d2, d3] }
  | _ => none }
def confCallsRow : OpenClaim := { program := "ytnjgajkcoahefaa", sum := "daf0f6da3e44806b34af6ba00146d9c27dafae52aefb5664a3a895163ff4bf21", func := "chandlery/chandlerylaw04.ConfCalls", spec := "confCalls", apart := false }
def ConfCallsSaid : Prop := confCallsRow.holds Try.pinned (OpenSpec.ofChange confCallsSpec)

/-- ITS FALSE NEIGHBOUR: 'it returns false'. Refute it at one input. -/
def confCallsWrong : ChangeSpec := { name := "confCalls", fn := fun _ => fun
  | [d1, d2, d3] => { results := [.lit (.bool false)], args := [d1, d2, d3] }
  | _ => none }
def ConfCallsWrongFalsely : Prop := confCallsRow.holds Try.pinned (OpenSpec.ofChange confCallsWrong)

/-- 'chandlerytop.WholeRoom': WHATEVER THE INPUT: true; the input reads as it did. -/
def wholeRoomSpec : ChangeSpec := { name := "wholeRoom", fn := fun _ => fun
  | [d1, d2] => { results := [.lit (.bool true)], args := [d1, d2] }
  | _ => none }
def wholeRoomRow : OpenClaim := { program := "ytnjgajkcoahefaa", sum := "daf0f6da3e44806b34af6ba00146d9c27dafae52aefb5664a3a895163ff4bf21", func := "chandlery/chandlerytop.WholeRoom", spec := "wholeRoom", apart := false }
def WholeRoomSaid : Prop := wholeRoomRow.holds Try.pinned (OpenSpec.ofChange wholeRoomSpec)

/-- ITS FALSE NEIGHBOUR: 'it returns false'. Refute it at one input. -/
def wholeRoomWrong : ChangeSpec := { name := "wholeRoom", fn := fun _ => fun
  | [d1, d2] => { results := [.lit (.bool false)], args := [d1, d2] }
  | _ => none }
def WholeRoomWrongFalsely : Prop := wholeRoomRow.holds Try.pinned (OpenSpec.ofChange wholeRoomWrong)

/- THE SECOND FORM. 'bulk': how many values and letters a reading holds, each counted each time it is reached (what is shared counts as often as it is met; a slice's spare places count too). A statement '..UptoSaid' is the law's where the arguments, and the package variables that the reading takes, are together of bulk at most 1048576: NARROWER than '..Said'. Prove '..Said' where nothing that the law and all that it calls make is longer than what came in: it says more and counts as full. Else prove '..UptoSaid'. A law counts once. -/
mutual
def uptoBulk {H : Type} : DataW H → Nat
  | .lit (.string bytes) => bytes.length + 1
  | .lit _ => 1
  | .nil => 1
  | .ptr d => uptoBulk d + 1
  | .slice elems spare => uptoBulkAll elems + uptoBulkAll spare + 1
  | .agg parts => uptoBulkAll parts + 1
  | .iface _ d => uptoBulk d + 1
  | .map entries => uptoBulkEntries entries + 1
  | .held _ => 1
def uptoBulkAll {H : Type} : List (DataW H) → Nat
  | [] => 0
  | d :: r => uptoBulk d + uptoBulkAll r
def uptoBulkEntries {H : Type} : List (Lit × DataW H) → Nat
  | [] => 0
  | x :: r => uptoBulkEntry x + uptoBulkEntries r
def uptoBulkEntry {H : Type} : Lit × DataW H → Nat
  | (.string bytes, d) => bytes.length + uptoBulk d + 1
  | (_, d) => uptoBulk d + 1
 end
def uptoSmall : (H : Type) → List (DataW H) → Bool := fun _ ds => decide (uptoBulkAll ds ≤ 1048576)
def OpenSpec.upto (s : _root_.Go.ChangeSpec) : _root_.Go.OpenSpec := { _root_.Go.OpenSpec.ofChange s with cond := some uptoSmall }

/-- 'chandlerylaw03.MemDoes', WHERE WHAT IT READS IS OF BULK AT MOST 1048576: true; the input reads as it did. -/
def memDoesUptoRow : OpenClaim := { program := "ytnjgajkcoahefaa", sum := "daf0f6da3e44806b34af6ba00146d9c27dafae52aefb5664a3a895163ff4bf21", func := "chandlery/chandlerylaw03.MemDoes", spec := "memDoes", apart := false, narrowed := true }
def MemDoesUptoSaid : Prop := memDoesUptoRow.holds Try.pinned (OpenSpec.upto memDoesSpec)

/-- 'chandlerylaw03.MemOne', WHERE WHAT IT READS IS OF BULK AT MOST 1048576: true; the input reads as it did. -/
def memOneUptoRow : OpenClaim := { program := "ytnjgajkcoahefaa", sum := "daf0f6da3e44806b34af6ba00146d9c27dafae52aefb5664a3a895163ff4bf21", func := "chandlery/chandlerylaw03.MemOne", spec := "memOne", apart := false, narrowed := true }
def MemOneUptoSaid : Prop := memOneUptoRow.holds Try.pinned (OpenSpec.upto memOneSpec)

/-- 'chandlerylaw03.MemSwings', WHERE WHAT IT READS IS OF BULK AT MOST 1048576: true; the input reads as it did. -/
def memSwingsUptoRow : OpenClaim := { program := "ytnjgajkcoahefaa", sum := "daf0f6da3e44806b34af6ba00146d9c27dafae52aefb5664a3a895163ff4bf21", func := "chandlery/chandlerylaw03.MemSwings", spec := "memSwings", apart := false, narrowed := true }
def MemSwingsUptoSaid : Prop := memSwingsUptoRow.holds Try.pinned (OpenSpec.upto memSwingsSpec)

/-- 'chandlerylaw03.MemOwn', WHERE WHAT IT READS IS OF BULK AT MOST 1048576: true; the input reads as it did. -/
def memOwnUptoRow : OpenClaim := { program := "ytnjgajkcoahefaa", sum := "daf0f6da3e44806b34af6ba00146d9c27dafae52aefb5664a3a895163ff4bf21", func := "chandlery/chandlerylaw03.MemOwn", spec := "memOwn", apart := false, narrowed := true }
def MemOwnUptoSaid : Prop := memOwnUptoRow.holds Try.pinned (OpenSpec.upto memOwnSpec)

/-- 'chandlerylaw03.MemAdds', WHERE WHAT IT READS IS OF BULK AT MOST 1048576: true; the input reads as it did. -/
def memAddsUptoRow : OpenClaim := { program := "ytnjgajkcoahefaa", sum := "daf0f6da3e44806b34af6ba00146d9c27dafae52aefb5664a3a895163ff4bf21", func := "chandlery/chandlerylaw03.MemAdds", spec := "memAdds", apart := false, narrowed := true }
def MemAddsUptoSaid : Prop := memAddsUptoRow.holds Try.pinned (OpenSpec.upto memAddsSpec)

/-- 'chandlerylaw03.MemOuter', WHERE WHAT IT READS IS OF BULK AT MOST 1048576: true; the input reads as it did. -/
def memOuterUptoRow : OpenClaim := { program := "ytnjgajkcoahefaa", sum := "daf0f6da3e44806b34af6ba00146d9c27dafae52aefb5664a3a895163ff4bf21", func := "chandlery/chandlerylaw03.MemOuter", spec := "memOuter", apart := false, narrowed := true }
def MemOuterUptoSaid : Prop := memOuterUptoRow.holds Try.pinned (OpenSpec.upto memOuterSpec)

/-- 'chandlerylaw04.ConfChecks', WHERE WHAT IT READS IS OF BULK AT MOST 1048576: true; the input reads as it did. -/
def confChecksUptoRow : OpenClaim := { program := "ytnjgajkcoahefaa", sum := "daf0f6da3e44806b34af6ba00146d9c27dafae52aefb5664a3a895163ff4bf21", func := "chandlery/chandlerylaw04.ConfChecks", spec := "confChecks", apart := false, narrowed := true }
def ConfChecksUptoSaid : Prop := confChecksUptoRow.holds Try.pinned (OpenSpec.upto confChecksSpec)

/-- 'chandlerylaw04.ConfBounds', WHERE WHAT IT READS IS OF BULK AT MOST 1048576: true; the input reads as it did. -/
def confBoundsUptoRow : OpenClaim := { program := "ytnjgajkcoahefaa", sum := "daf0f6da3e44806b34af6ba00146d9c27dafae52aefb5664a3a895163ff4bf21", func := "chandlery/chandlerylaw04.ConfBounds", spec := "confBounds", apart := false, narrowed := true }
def ConfBoundsUptoSaid : Prop := confBoundsUptoRow.holds Try.pinned (OpenSpec.upto confBoundsSpec)

/-- 'chandlerylaw04.ConfOwn', WHERE WHAT IT READS IS OF BULK AT MOST 1048576: true; the input reads as it did. -/
def confOwnUptoRow : OpenClaim := { program := "ytnjgajkcoahefaa", sum := "daf0f6da3e44806b34af6ba00146d9c27dafae52aefb5664a3a895163ff4bf21", func := "chandlery/chandlerylaw04.ConfOwn", spec := "confOwn", apart := false, narrowed := true }
def ConfOwnUptoSaid : Prop := confOwnUptoRow.holds Try.pinned (OpenSpec.upto confOwnSpec)

/-- 'chandlerylaw04.ConfFewer', WHERE WHAT IT READS IS OF BULK AT MOST 1048576: true; the input reads as it did. -/
def confFewerUptoRow : OpenClaim := { program := "ytnjgajkcoahefaa", sum := "daf0f6da3e44806b34af6ba00146d9c27dafae52aefb5664a3a895163ff4bf21", func := "chandlery/chandlerylaw04.ConfFewer", spec := "confFewer", apart := false, narrowed := true }
def ConfFewerUptoSaid : Prop := confFewerUptoRow.holds Try.pinned (OpenSpec.upto confFewerSpec)

/-- 'chandlerylaw04.ConfCalls', WHERE WHAT IT READS IS OF BULK AT MOST 1048576: true; the input reads as it did. -/
def confCallsUptoRow : OpenClaim := { program := "ytnjgajkcoahefaa", sum := "daf0f6da3e44806b34af6ba00146d9c27dafae52aefb5664a3a895163ff4bf21", func := "chandlery/chandlerylaw04.ConfCalls", spec := "confCalls", apart := false, narrowed := true }
def ConfCallsUptoSaid : Prop := confCallsUptoRow.holds Try.pinned (OpenSpec.upto confCallsSpec)

/-- 'chandlerytop.WholeRoom', WHERE WHAT IT READS IS OF BULK AT MOST 1048576: true; the input reads as it did. -/
def wholeRoomUptoRow : OpenClaim := { program := "ytnjgajkcoahefaa", sum := "daf0f6da3e44806b34af6ba00146d9c27dafae52aefb5664a3a895163ff4bf21", func := "chandlery/chandlerytop.WholeRoom", spec := "wholeRoom", apart := false, narrowed := true }
def WholeRoomUptoSaid : Prop := wholeRoomUptoRow.holds Try.pinned (OpenSpec.upto wholeRoomSpec)

end Rows
end Go.Proofs.Ytnjgajkcoahefaa
