/-
  No cell of these rows narrows 'for every input' (looked for: loops, veiled, ifaces, maps, wideKeys, modest, calm, conditions, laid).
  DERIVED. THE GIVEN ROWS OF THIS SEAT. 12 by the template 'for every input the law returns true; each argument reads behind the call as it read before'; 0 by the template 'total and deterministic' (their statements: YtjlklkaaonfpdaaTotals.lean).
  GIVEN WITH THE SEED: the statements are not yours to turn. If you find one false, say at which input.
  Laid BY PROGRAM, IN A SANDBOX (cutbox-rows.mjs): the forced cells as the released guide's own fill.sh prints them over the translation b54715e9828620c9… (all of the seat's roots in one cut). By AI agents, Wed Nov 11 2026. No macro, syntax, notation, axiom, sorry.
-/
import Derived.Test.YtjlklkaaonfpdaaChecked
import GoSem.Claim
import GoSem.ClaimJoined
import GoSem.ClaimMapViews
import Derived.JoinedTies
import Derived.KernelRfl
namespace Go.Proofs.Ytjlklkaaonfpdaa
/- THE CELL 'sum', in the pinned program and in every row, IS THE sha256 OF THE DUMP (.gsa) THAT YtjlklkaaonfpdaaProg.lean LOADS. Nothing in Lean hashes anything: it is a label: what it is worth is what the hold of that sum in a sandbox is worth. -/
noncomputable def Try.pinned : Pinned := { name := "ytjlklkaaonfpdaa", sum := "b54715e9828620c9b865797d6817ea26a1b74f4e9a29e99b07f6ef77a3a79a00", checked := Try.checked }
namespace Rows
def none {H : Type} : Left H := { results := [], args := [] }

/-- 'chandlerylaw05.ArenaSizes': WHATEVER THE INPUT: true; the input reads as it did. -/
def arenaSizesSpec : ChangeSpec := { name := "arenaSizes", fn := fun _ => fun
  | [d1, d2] => { results := [.lit (.bool true)], args := [d1, d2] }
  | _ => none }
def arenaSizesRow : OpenClaim := { program := "ytjlklkaaonfpdaa", sum := "b54715e9828620c9b865797d6817ea26a1b74f4e9a29e99b07f6ef77a3a79a00", func := "chandlery/chandlerylaw05.ArenaSizes", spec := "arenaSizes", apart := false }
def ArenaSizesSaid : Prop := arenaSizesRow.holds Try.pinned (OpenSpec.ofChange arenaSizesSpec)

/-- ITS FALSE NEIGHBOUR: 'it returns false'. Refute it at one input. -/
def arenaSizesWrong : ChangeSpec := { name := "arenaSizes", fn := fun _ => fun
  | [d1, d2] => { results := [.lit (.bool false)], args := [d1, d2] }
  | _ => none }
def ArenaSizesWrongFalsely : Prop := arenaSizesRow.holds Try.pinned (OpenSpec.ofChange arenaSizesWrong)

/-- 'chandlerylaw05.ArenaBlocks': WHATEVER THE INPUT: true; the input reads as it did. -/
def arenaBlocksSpec : ChangeSpec := { name := "arenaBlocks", fn := fun _ => fun
  | [d1, d2, d3] => { results := [.lit (.bool true)], args := [d1, d2, d3] }
  | _ => none }
def arenaBlocksRow : OpenClaim := { program := "ytjlklkaaonfpdaa", sum := "b54715e9828620c9b865797d6817ea26a1b74f4e9a29e99b07f6ef77a3a79a00", func := "chandlery/chandlerylaw05.ArenaBlocks", spec := "arenaBlocks", apart := false }
def ArenaBlocksSaid : Prop := arenaBlocksRow.holds Try.pinned (OpenSpec.ofChange arenaBlocksSpec)

/-- ITS FALSE NEIGHBOUR: 'it returns false'. Refute it at one input. -/
def arenaBlocksWrong : ChangeSpec := { name := "arenaBlocks", fn := fun _ => fun
  | [d1, d2, d3] => { results := [.lit (.bool false)], args := [d1, d2, d3] }
  | _ => none }
def ArenaBlocksWrongFalsely : Prop := arenaBlocksRow.holds Try.pinned (OpenSpec.ofChange arenaBlocksWrong)

/-- 'chandlerylaw05.ArenaApart': WHATEVER THE INPUT: true; the input reads as it did. -/
def arenaApartSpec : ChangeSpec := { name := "arenaApart", fn := fun _ => fun
  | [d1, d2] => { results := [.lit (.bool true)], args := [d1, d2] }
  | _ => none }
def arenaApartRow : OpenClaim := { program := "ytjlklkaaonfpdaa", sum := "b54715e9828620c9b865797d6817ea26a1b74f4e9a29e99b07f6ef77a3a79a00", func := "chandlery/chandlerylaw05.ArenaApart", spec := "arenaApart", apart := false }
def ArenaApartSaid : Prop := arenaApartRow.holds Try.pinned (OpenSpec.ofChange arenaApartSpec)

/-- ITS FALSE NEIGHBOUR: 'it returns false'. Refute it at one input. -/
def arenaApartWrong : ChangeSpec := { name := "arenaApart", fn := fun _ => fun
  | [d1, d2] => { results := [.lit (.bool false)], args := [d1, d2] }
  | _ => none }
def ArenaApartWrongFalsely : Prop := arenaApartRow.holds Try.pinned (OpenSpec.ofChange arenaApartWrong)

/-- 'chandlerylaw05.ArenaPlaces': WHATEVER THE INPUT: true; the input reads as it did. -/
def arenaPlacesSpec : ChangeSpec := { name := "arenaPlaces", fn := fun _ => fun
  | [d1, d2] => { results := [.lit (.bool true)], args := [d1, d2] }
  | _ => none }
def arenaPlacesRow : OpenClaim := { program := "ytjlklkaaonfpdaa", sum := "b54715e9828620c9b865797d6817ea26a1b74f4e9a29e99b07f6ef77a3a79a00", func := "chandlery/chandlerylaw05.ArenaPlaces", spec := "arenaPlaces", apart := false }
def ArenaPlacesSaid : Prop := arenaPlacesRow.holds Try.pinned (OpenSpec.ofChange arenaPlacesSpec)

/-- ITS FALSE NEIGHBOUR: 'it returns false'. Refute it at one input. -/
def arenaPlacesWrong : ChangeSpec := { name := "arenaPlaces", fn := fun _ => fun
  | [d1, d2] => { results := [.lit (.bool false)], args := [d1, d2] }
  | _ => none }
def ArenaPlacesWrongFalsely : Prop := arenaPlacesRow.holds Try.pinned (OpenSpec.ofChange arenaPlacesWrong)

/-- 'chandlerylaw05.ArenaRuns': WHATEVER THE INPUT: true; the input reads as it did. -/
def arenaRunsSpec : ChangeSpec := { name := "arenaRuns", fn := fun _ => fun
  | [d1, d2] => { results := [.lit (.bool true)], args := [d1, d2] }
  | _ => none }
def arenaRunsRow : OpenClaim := { program := "ytjlklkaaonfpdaa", sum := "b54715e9828620c9b865797d6817ea26a1b74f4e9a29e99b07f6ef77a3a79a00", func := "chandlery/chandlerylaw05.ArenaRuns", spec := "arenaRuns", apart := false }
def ArenaRunsSaid : Prop := arenaRunsRow.holds Try.pinned (OpenSpec.ofChange arenaRunsSpec)

/-- ITS FALSE NEIGHBOUR: 'it returns false'. Refute it at one input. -/
def arenaRunsWrong : ChangeSpec := { name := "arenaRuns", fn := fun _ => fun
  | [d1, d2] => { results := [.lit (.bool false)], args := [d1, d2] }
  | _ => none }
def ArenaRunsWrongFalsely : Prop := arenaRunsRow.holds Try.pinned (OpenSpec.ofChange arenaRunsWrong)

/-- 'chandlerylaw05.ArenaWithin': WHATEVER THE INPUT: true; the input reads as it did. -/
def arenaWithinSpec : ChangeSpec := { name := "arenaWithin", fn := fun _ => fun
  | [d] => { results := [.lit (.bool true)], args := [d] }
  | _ => none }
def arenaWithinRow : OpenClaim := { program := "ytjlklkaaonfpdaa", sum := "b54715e9828620c9b865797d6817ea26a1b74f4e9a29e99b07f6ef77a3a79a00", func := "chandlery/chandlerylaw05.ArenaWithin", spec := "arenaWithin", apart := false }
def ArenaWithinSaid : Prop := arenaWithinRow.holds Try.pinned (OpenSpec.ofChange arenaWithinSpec)

/-- ITS FALSE NEIGHBOUR: 'it returns false'. Refute it at one input. -/
def arenaWithinWrong : ChangeSpec := { name := "arenaWithin", fn := fun _ => fun
  | [d] => { results := [.lit (.bool false)], args := [d] }
  | _ => none }
def ArenaWithinWrongFalsely : Prop := arenaWithinRow.holds Try.pinned (OpenSpec.ofChange arenaWithinWrong)

/-- 'chandlerylaw06.SpanDoes': WHATEVER THE INPUT: true; the input reads as it did. -/
def spanDoesSpec : ChangeSpec := { name := "spanDoes", fn := fun _ => fun
  | [d] => { results := [.lit (.bool true)], args := [d] }
  | _ => none }
def spanDoesRow : OpenClaim := { program := "ytjlklkaaonfpdaa", sum := "b54715e9828620c9b865797d6817ea26a1b74f4e9a29e99b07f6ef77a3a79a00", func := "chandlery/chandlerylaw06.SpanDoes", spec := "spanDoes", inPlace := ["slices.overlaps[chandlery/api.Interval]"], unfollowed := true, recurses := true, apart := false }
def SpanDoesSaid : Prop := spanDoesRow.holds Try.pinned (OpenSpec.ofChange spanDoesSpec)

/-- ITS FALSE NEIGHBOUR: 'it returns false'. Refute it at one input. -/
def spanDoesWrong : ChangeSpec := { name := "spanDoes", fn := fun _ => fun
  | [d] => { results := [.lit (.bool false)], args := [d] }
  | _ => none }
def SpanDoesWrongFalsely : Prop := spanDoesRow.holds Try.pinned (OpenSpec.ofChange spanDoesWrong)

/-- 'chandlerylaw06.SpanApart': WHATEVER THE INPUT: true; the input reads as it did. -/
def spanApartSpec : ChangeSpec := { name := "spanApart", fn := fun _ => fun
  | [d1, d2] => { results := [.lit (.bool true)], args := [d1, d2] }
  | _ => none }
def spanApartRow : OpenClaim := { program := "ytjlklkaaonfpdaa", sum := "b54715e9828620c9b865797d6817ea26a1b74f4e9a29e99b07f6ef77a3a79a00", func := "chandlery/chandlerylaw06.SpanApart", spec := "spanApart", inPlace := ["slices.overlaps[chandlery/api.Interval]"], unfollowed := true, recurses := true, apart := false }
def SpanApartSaid : Prop := spanApartRow.holds Try.pinned (OpenSpec.ofChange spanApartSpec)

/-- ITS FALSE NEIGHBOUR: 'it returns false'. Refute it at one input. -/
def spanApartWrong : ChangeSpec := { name := "spanApart", fn := fun _ => fun
  | [d1, d2] => { results := [.lit (.bool false)], args := [d1, d2] }
  | _ => none }
def SpanApartWrongFalsely : Prop := spanApartRow.holds Try.pinned (OpenSpec.ofChange spanApartWrong)

/-- 'chandlerylaw06.SpanBack': WHATEVER THE INPUT: true; the input reads as it did. -/
def spanBackSpec : ChangeSpec := { name := "spanBack", fn := fun _ => fun
  | [d1, d2] => { results := [.lit (.bool true)], args := [d1, d2] }
  | _ => none }
def spanBackRow : OpenClaim := { program := "ytjlklkaaonfpdaa", sum := "b54715e9828620c9b865797d6817ea26a1b74f4e9a29e99b07f6ef77a3a79a00", func := "chandlery/chandlerylaw06.SpanBack", spec := "spanBack", inPlace := ["slices.overlaps[chandlery/api.Interval]"], unfollowed := true, recurses := true, apart := false }
def SpanBackSaid : Prop := spanBackRow.holds Try.pinned (OpenSpec.ofChange spanBackSpec)

/-- ITS FALSE NEIGHBOUR: 'it returns false'. Refute it at one input. -/
def spanBackWrong : ChangeSpec := { name := "spanBack", fn := fun _ => fun
  | [d1, d2] => { results := [.lit (.bool false)], args := [d1, d2] }
  | _ => none }
def SpanBackWrongFalsely : Prop := spanBackRow.holds Try.pinned (OpenSpec.ofChange spanBackWrong)

/-- 'chandlerylaw06.SpanFills': WHATEVER THE INPUT: true; the input reads as it did. -/
def spanFillsSpec : ChangeSpec := { name := "spanFills", fn := fun _ => fun
  | [d1, d2] => { results := [.lit (.bool true)], args := [d1, d2] }
  | _ => none }
def spanFillsRow : OpenClaim := { program := "ytjlklkaaonfpdaa", sum := "b54715e9828620c9b865797d6817ea26a1b74f4e9a29e99b07f6ef77a3a79a00", func := "chandlery/chandlerylaw06.SpanFills", spec := "spanFills", inPlace := ["slices.overlaps[chandlery/api.Interval]"], unfollowed := true, recurses := true, apart := false }
def SpanFillsSaid : Prop := spanFillsRow.holds Try.pinned (OpenSpec.ofChange spanFillsSpec)

/-- ITS FALSE NEIGHBOUR: 'it returns false'. Refute it at one input. -/
def spanFillsWrong : ChangeSpec := { name := "spanFills", fn := fun _ => fun
  | [d1, d2] => { results := [.lit (.bool false)], args := [d1, d2] }
  | _ => none }
def SpanFillsWrongFalsely : Prop := spanFillsRow.holds Try.pinned (OpenSpec.ofChange spanFillsWrong)

/-- 'chandlerylaw06.SpanAsks': WHATEVER THE INPUT: true; the input reads as it did. -/
def spanAsksSpec : ChangeSpec := { name := "spanAsks", fn := fun _ => fun
  | [d1, d2] => { results := [.lit (.bool true)], args := [d1, d2] }
  | _ => none }
def spanAsksRow : OpenClaim := { program := "ytjlklkaaonfpdaa", sum := "b54715e9828620c9b865797d6817ea26a1b74f4e9a29e99b07f6ef77a3a79a00", func := "chandlery/chandlerylaw06.SpanAsks", spec := "spanAsks", inPlace := ["slices.overlaps[chandlery/api.Interval]"], unfollowed := true, recurses := true, apart := false }
def SpanAsksSaid : Prop := spanAsksRow.holds Try.pinned (OpenSpec.ofChange spanAsksSpec)

/-- ITS FALSE NEIGHBOUR: 'it returns false'. Refute it at one input. -/
def spanAsksWrong : ChangeSpec := { name := "spanAsks", fn := fun _ => fun
  | [d1, d2] => { results := [.lit (.bool false)], args := [d1, d2] }
  | _ => none }
def SpanAsksWrongFalsely : Prop := spanAsksRow.holds Try.pinned (OpenSpec.ofChange spanAsksWrong)

/-- 'chandlerytop.WholeTiles': WHATEVER THE INPUT: true; the input reads as it did. -/
def wholeTilesSpec : ChangeSpec := { name := "wholeTiles", fn := fun _ => fun
  | [d1, d2] => { results := [.lit (.bool true)], args := [d1, d2] }
  | _ => none }
def wholeTilesRow : OpenClaim := { program := "ytjlklkaaonfpdaa", sum := "b54715e9828620c9b865797d6817ea26a1b74f4e9a29e99b07f6ef77a3a79a00", func := "chandlery/chandlerytop.WholeTiles", spec := "wholeTiles", inPlace := ["slices.overlaps[chandlery/api.Interval]"], unfollowed := true, recurses := true, apart := false }
def WholeTilesSaid : Prop := wholeTilesRow.holds Try.pinned (OpenSpec.ofChange wholeTilesSpec)

/-- ITS FALSE NEIGHBOUR: 'it returns false'. Refute it at one input. -/
def wholeTilesWrong : ChangeSpec := { name := "wholeTiles", fn := fun _ => fun
  | [d1, d2] => { results := [.lit (.bool false)], args := [d1, d2] }
  | _ => none }
def WholeTilesWrongFalsely : Prop := wholeTilesRow.holds Try.pinned (OpenSpec.ofChange wholeTilesWrong)

/- THE SECOND FORM. 'bulk': how many values and letters a reading holds, each counted each time it is reached (what is shared counts as often as it is met; a slice's spare places count too). A statement '..UptoSaid' is the law's where the arguments, and the package variables that the reading takes, are together of bulk at most 1048576: NARROWER than '..Said'. Prove '..Said' where nothing that the law and all that it calls make is longer than what came in: it says more and counts as full. Else prove '..UptoSaid'. A law counts once. -/
mutual
def uptoBulk {H : Type} : DataW H → Nat
  | .lit (.string bytes) => bytes.length + 1
  | .lit _ => 1
  | .nil => 1
  | .ptr d => uptoBulk d + 1
  | .slice elems spare => uptoBulkAll elems + uptoBulkAll spare + 1
  | .agg parts => uptoBulkAll parts + 1
  | .iface _ d => uptoBulk d + 1
  | .map entries => uptoBulkEntries entries + 1
  | .held _ => 1
def uptoBulkAll {H : Type} : List (DataW H) → Nat
  | [] => 0
  | d :: r => uptoBulk d + uptoBulkAll r
def uptoBulkEntries {H : Type} : List (Lit × DataW H) → Nat
  | [] => 0
  | x :: r => uptoBulkEntry x + uptoBulkEntries r
def uptoBulkEntry {H : Type} : Lit × DataW H → Nat
  | (.string bytes, d) => bytes.length + uptoBulk d + 1
  | (_, d) => uptoBulk d + 1
 end
def uptoSmall : (H : Type) → List (DataW H) → Bool := fun _ ds => decide (uptoBulkAll ds ≤ 1048576)
def OpenSpec.upto (s : _root_.Go.ChangeSpec) : _root_.Go.OpenSpec := { _root_.Go.OpenSpec.ofChange s with cond := some uptoSmall }

/-- 'chandlerylaw05.ArenaSizes', WHERE WHAT IT READS IS OF BULK AT MOST 1048576: true; the input reads as it did. -/
def arenaSizesUptoRow : OpenClaim := { program := "ytjlklkaaonfpdaa", sum := "b54715e9828620c9b865797d6817ea26a1b74f4e9a29e99b07f6ef77a3a79a00", func := "chandlery/chandlerylaw05.ArenaSizes", spec := "arenaSizes", apart := false, narrowed := true }
def ArenaSizesUptoSaid : Prop := arenaSizesUptoRow.holds Try.pinned (OpenSpec.upto arenaSizesSpec)

/-- 'chandlerylaw05.ArenaBlocks', WHERE WHAT IT READS IS OF BULK AT MOST 1048576: true; the input reads as it did. -/
def arenaBlocksUptoRow : OpenClaim := { program := "ytjlklkaaonfpdaa", sum := "b54715e9828620c9b865797d6817ea26a1b74f4e9a29e99b07f6ef77a3a79a00", func := "chandlery/chandlerylaw05.ArenaBlocks", spec := "arenaBlocks", apart := false, narrowed := true }
def ArenaBlocksUptoSaid : Prop := arenaBlocksUptoRow.holds Try.pinned (OpenSpec.upto arenaBlocksSpec)

/-- 'chandlerylaw05.ArenaApart', WHERE WHAT IT READS IS OF BULK AT MOST 1048576: true; the input reads as it did. -/
def arenaApartUptoRow : OpenClaim := { program := "ytjlklkaaonfpdaa", sum := "b54715e9828620c9b865797d6817ea26a1b74f4e9a29e99b07f6ef77a3a79a00", func := "chandlery/chandlerylaw05.ArenaApart", spec := "arenaApart", apart := false, narrowed := true }
def ArenaApartUptoSaid : Prop := arenaApartUptoRow.holds Try.pinned (OpenSpec.upto arenaApartSpec)

/-- 'chandlerylaw05.ArenaPlaces', WHERE WHAT IT READS IS OF BULK AT MOST 1048576: true; the input reads as it did. -/
def arenaPlacesUptoRow : OpenClaim := { program := "ytjlklkaaonfpdaa", sum := "b54715e9828620c9b865797d6817ea26a1b74f4e9a29e99b07f6ef77a3a79a00", func := "chandlery/chandlerylaw05.ArenaPlaces", spec := "arenaPlaces", apart := false, narrowed := true }
def ArenaPlacesUptoSaid : Prop := arenaPlacesUptoRow.holds Try.pinned (OpenSpec.upto arenaPlacesSpec)

/-- 'chandlerylaw05.ArenaRuns', WHERE WHAT IT READS IS OF BULK AT MOST 1048576: true; the input reads as it did. -/
def arenaRunsUptoRow : OpenClaim := { program := "ytjlklkaaonfpdaa", sum := "b54715e9828620c9b865797d6817ea26a1b74f4e9a29e99b07f6ef77a3a79a00", func := "chandlery/chandlerylaw05.ArenaRuns", spec := "arenaRuns", apart := false, narrowed := true }
def ArenaRunsUptoSaid : Prop := arenaRunsUptoRow.holds Try.pinned (OpenSpec.upto arenaRunsSpec)

/-- 'chandlerylaw05.ArenaWithin', WHERE WHAT IT READS IS OF BULK AT MOST 1048576: true; the input reads as it did. -/
def arenaWithinUptoRow : OpenClaim := { program := "ytjlklkaaonfpdaa", sum := "b54715e9828620c9b865797d6817ea26a1b74f4e9a29e99b07f6ef77a3a79a00", func := "chandlery/chandlerylaw05.ArenaWithin", spec := "arenaWithin", apart := false, narrowed := true }
def ArenaWithinUptoSaid : Prop := arenaWithinUptoRow.holds Try.pinned (OpenSpec.upto arenaWithinSpec)

/-- 'chandlerylaw06.SpanDoes', WHERE WHAT IT READS IS OF BULK AT MOST 1048576: true; the input reads as it did. -/
def spanDoesUptoRow : OpenClaim := { program := "ytjlklkaaonfpdaa", sum := "b54715e9828620c9b865797d6817ea26a1b74f4e9a29e99b07f6ef77a3a79a00", func := "chandlery/chandlerylaw06.SpanDoes", spec := "spanDoes", inPlace := ["slices.overlaps[chandlery/api.Interval]"], unfollowed := true, recurses := true, apart := false, narrowed := true }
def SpanDoesUptoSaid : Prop := spanDoesUptoRow.holds Try.pinned (OpenSpec.upto spanDoesSpec)

/-- 'chandlerylaw06.SpanApart', WHERE WHAT IT READS IS OF BULK AT MOST 1048576: true; the input reads as it did. -/
def spanApartUptoRow : OpenClaim := { program := "ytjlklkaaonfpdaa", sum := "b54715e9828620c9b865797d6817ea26a1b74f4e9a29e99b07f6ef77a3a79a00", func := "chandlery/chandlerylaw06.SpanApart", spec := "spanApart", inPlace := ["slices.overlaps[chandlery/api.Interval]"], unfollowed := true, recurses := true, apart := false, narrowed := true }
def SpanApartUptoSaid : Prop := spanApartUptoRow.holds Try.pinned (OpenSpec.upto spanApartSpec)

/-- 'chandlerylaw06.SpanBack', WHERE WHAT IT READS IS OF BULK AT MOST 1048576: true; the input reads as it did. -/
def spanBackUptoRow : OpenClaim := { program := "ytjlklkaaonfpdaa", sum := "b54715e9828620c9b865797d6817ea26a1b74f4e9a29e99b07f6ef77a3a79a00", func := "chandlery/chandlerylaw06.SpanBack", spec := "spanBack", inPlace := ["slices.overlaps[chandlery/api.Interval]"], unfollowed := true, recurses := true, apart := false, narrowed := true }
def SpanBackUptoSaid : Prop := spanBackUptoRow.holds Try.pinned (OpenSpec.upto spanBackSpec)

/-- 'chandlerylaw06.SpanFills', WHERE WHAT IT READS IS OF BULK AT MOST 1048576: true; the input reads as it did. -/
def spanFillsUptoRow : OpenClaim := { program := "ytjlklkaaonfpdaa", sum := "b54715e9828620c9b865797d6817ea26a1b74f4e9a29e99b07f6ef77a3a79a00", func := "chandlery/chandlerylaw06.SpanFills", spec := "spanFills", inPlace := ["slices.overlaps[chandlery/api.Interval]"], unfollowed := true, recurses := true, apart := false, narrowed := true }
def SpanFillsUptoSaid : Prop := spanFillsUptoRow.holds Try.pinned (OpenSpec.upto spanFillsSpec)

/-- 'chandlerylaw06.SpanAsks', WHERE WHAT IT READS IS OF BULK AT MOST 1048576: true; the input reads as it did. -/
def spanAsksUptoRow : OpenClaim := { program := "ytjlklkaaonfpdaa", sum := "b54715e9828620c9b865797d6817ea26a1b74f4e9a29e99b07f6ef77a3a79a00", func := "chandlery/chandlerylaw06.SpanAsks", spec := "spanAsks", inPlace := ["slices.overlaps[chandlery/api.Interval]"], unfollowed := true, recurses := true, apart := false, narrowed := true }
def SpanAsksUptoSaid : Prop := spanAsksUptoRow.holds Try.pinned (OpenSpec.upto spanAsksSpec)

/-- 'chandlerytop.WholeTiles', WHERE WHAT IT READS IS OF BULK AT MOST 1048576: true; the input reads as it did. -/
def wholeTilesUptoRow : OpenClaim := { program := "ytjlklkaaonfpdaa", sum := "b54715e9828620c9b865797d6817ea26a1b74f4e9a29e99b07f6ef77a3a79a00", func := "chandlery/chandlerytop.WholeTiles", spec := "wholeTiles", inPlace := ["slices.overlaps[chandlery/api.Interval]"], unfollowed := true, recurses := true, apart := false, narrowed := true }
def WholeTilesUptoSaid : Prop := wholeTilesUptoRow.holds Try.pinned (OpenSpec.upto wholeTilesSpec)

end Rows
end Go.Proofs.Ytjlklkaaonfpdaa
