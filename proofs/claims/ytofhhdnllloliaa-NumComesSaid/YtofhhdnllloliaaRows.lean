/-
  No cell of these rows narrows 'for every input' (looked for: loops, veiled, ifaces, maps, wideKeys, modest, calm, conditions, laid).
  DERIVED. THE GIVEN ROWS OF THIS SEAT. 4 by the template 'for every input the law returns true; each argument reads behind the call as it read before'; 0 by the template 'total and deterministic' (their statements: YtofhhdnllloliaaTotals.lean).
  GIVEN WITH THE SEED: the statements are not yours to turn. If you find one false, say at which input.
  Laid BY PROGRAM, IN A SANDBOX (cutbox-rows.mjs): the forced cells as the released guide's own fill.sh prints them over the translation a910b19384e6d60a… (all of the seat's roots in one cut). By AI agents, Wed Nov 11 2026. No macro, syntax, notation, axiom, sorry.
-/
import Derived.Test.YtofhhdnllloliaaChecked
import GoSem.Claim
import GoSem.ClaimJoined
import GoSem.ClaimMapViews
import Derived.JoinedTies
import Derived.KernelRfl
namespace Go.Proofs.Ytofhhdnllloliaa
/- THE CELL 'sum', in the pinned program and in every row, IS THE sha256 OF THE DUMP (.gsa) THAT YtofhhdnllloliaaProg.lean LOADS. Nothing in Lean hashes anything: it is a label: what it is worth is what the hold of that sum in a sandbox is worth. -/
noncomputable def Try.pinned : Pinned := { name := "ytofhhdnllloliaa", sum := "a910b19384e6d60a6d6d58c9a35e7ff4989116cf2cd870d434616a03cc788d0c", checked := Try.checked }
namespace Rows
def none {H : Type} : Left H := { results := [], args := [] }

/-- 'sidesticklaw01.NumComes': WHATEVER THE INPUT: true; the input reads as it did. -/
def numComesSpec : ChangeSpec := { name := "numComes", fn := fun _ => fun
  | [d1, d2, d3] => { results := [.lit (.bool true)], args := [d1, d2, d3] }
  | _ => none }
def numComesRow : OpenClaim := { program := "ytofhhdnllloliaa", sum := "a910b19384e6d60a6d6d58c9a35e7ff4989116cf2cd870d434616a03cc788d0c", func := "sidestick/sidesticklaw01.NumComes", spec := "numComes", apart := false }
def NumComesSaid : Prop := numComesRow.holds Try.pinned (OpenSpec.ofChange numComesSpec)

/-- ITS FALSE NEIGHBOUR: 'it returns false'. Refute it at one input. -/
def numComesWrong : ChangeSpec := { name := "numComes", fn := fun _ => fun
  | [d1, d2, d3] => { results := [.lit (.bool false)], args := [d1, d2, d3] }
  | _ => none }
def NumComesWrongFalsely : Prop := numComesRow.holds Try.pinned (OpenSpec.ofChange numComesWrong)

/-- 'sidesticklaw01.NumBounds': WHATEVER THE INPUT: true; the input reads as it did. -/
def numBoundsSpec : ChangeSpec := { name := "numBounds", fn := fun _ => fun
  | [d1, d2, d3] => { results := [.lit (.bool true)], args := [d1, d2, d3] }
  | _ => none }
def numBoundsRow : OpenClaim := { program := "ytofhhdnllloliaa", sum := "a910b19384e6d60a6d6d58c9a35e7ff4989116cf2cd870d434616a03cc788d0c", func := "sidestick/sidesticklaw01.NumBounds", spec := "numBounds", apart := false }
def NumBoundsSaid : Prop := numBoundsRow.holds Try.pinned (OpenSpec.ofChange numBoundsSpec)

/-- ITS FALSE NEIGHBOUR: 'it returns false'. Refute it at one input. -/
def numBoundsWrong : ChangeSpec := { name := "numBounds", fn := fun _ => fun
  | [d1, d2, d3] => { results := [.lit (.bool false)], args := [d1, d2, d3] }
  | _ => none }
def NumBoundsWrongFalsely : Prop := numBoundsRow.holds Try.pinned (OpenSpec.ofChange numBoundsWrong)

/-- 'sidesticklaw01.NumSets': WHATEVER THE INPUT: true; the input reads as it did. -/
def numSetsSpec : ChangeSpec := { name := "numSets", fn := fun _ => fun
  | [d1, d2] => { results := [.lit (.bool true)], args := [d1, d2] }
  | _ => none }
def numSetsRow : OpenClaim := { program := "ytofhhdnllloliaa", sum := "a910b19384e6d60a6d6d58c9a35e7ff4989116cf2cd870d434616a03cc788d0c", func := "sidestick/sidesticklaw01.NumSets", spec := "numSets", apart := false }
def NumSetsSaid : Prop := numSetsRow.holds Try.pinned (OpenSpec.ofChange numSetsSpec)

/-- ITS FALSE NEIGHBOUR: 'it returns false'. Refute it at one input. -/
def numSetsWrong : ChangeSpec := { name := "numSets", fn := fun _ => fun
  | [d1, d2] => { results := [.lit (.bool false)], args := [d1, d2] }
  | _ => none }
def NumSetsWrongFalsely : Prop := numSetsRow.holds Try.pinned (OpenSpec.ofChange numSetsWrong)

/-- 'sidesticklaw01.NumMirrors': WHATEVER THE INPUT: true; the input reads as it did. -/
def numMirrorsSpec : ChangeSpec := { name := "numMirrors", fn := fun _ => fun
  | [d1, d2, d3] => { results := [.lit (.bool true)], args := [d1, d2, d3] }
  | _ => none }
def numMirrorsRow : OpenClaim := { program := "ytofhhdnllloliaa", sum := "a910b19384e6d60a6d6d58c9a35e7ff4989116cf2cd870d434616a03cc788d0c", func := "sidestick/sidesticklaw01.NumMirrors", spec := "numMirrors", apart := false }
def NumMirrorsSaid : Prop := numMirrorsRow.holds Try.pinned (OpenSpec.ofChange numMirrorsSpec)

/-- ITS FALSE NEIGHBOUR: 'it returns false'. Refute it at one input. -/
def numMirrorsWrong : ChangeSpec := { name := "numMirrors", fn := fun _ => fun
  | [d1, d2, d3] => { results := [.lit (.bool false)], args := [d1, d2, d3] }
  | _ => none }
def NumMirrorsWrongFalsely : Prop := numMirrorsRow.holds Try.pinned (OpenSpec.ofChange numMirrorsWrong)

/- THE SECOND FORM. 'bulk': how many values and letters a reading holds, each counted each time it is reached (what is shared counts as often as it is met; a slice's spare places count too). A statement '..UptoSaid' is the law's where the arguments, and the package variables that the reading takes, are together of bulk at most 1048576: NARROWER than '..Said'. Prove '..Said' where nothing that the law and all that it calls make is longer than what came in: it says more and counts as full. Else prove '..UptoSaid'. A law counts once. -/
mutual
def uptoBulk {H : Type} : DataW H → Nat
  | .lit (.string bytes) => bytes.length + 1
  | .lit _ => 1
  | .nil => 1
  | .ptr d => uptoBulk d + 1
  | .slice elems spare => uptoBulkAll elems + uptoBulkAll spare + 1
  | .agg parts => uptoBulkAll parts + 1
  | .iface _ d => uptoBulk d + 1
  | .map entries => uptoBulkEntries entries + 1
  | .held _ => 1
def uptoBulkAll {H : Type} : List (DataW H) → Nat
  | [] => 0
  | d :: r => uptoBulk d + uptoBulkAll r
def uptoBulkEntries {H : Type} : List (Lit × DataW H) → Nat
  | [] => 0
  | x :: r => uptoBulkEntry x + uptoBulkEntries r
def uptoBulkEntry {H : Type} : Lit × DataW H → Nat
  | (.string bytes, d) => bytes.length + uptoBulk d + 1
  | (_, d) => uptoBulk d + 1
 end
def uptoSmall : (H : Type) → List (DataW H) → Bool := fun _ ds => decide (uptoBulkAll ds ≤ 1048576)
def OpenSpec.upto (s : _root_.Go.ChangeSpec) : _root_.Go.OpenSpec := { _root_.Go.OpenSpec.ofChange s with cond := some uptoSmall }

/-- 'sidesticklaw01.NumComes', WHERE WHAT IT READS IS OF BULK AT MOST 1048576: true; the input reads as it did. -/
def numComesUptoRow : OpenClaim := { program := "ytofhhdnllloliaa", sum := "a910b19384e6d60a6d6d58c9a35e7ff4989116cf2cd870d434616a03cc788d0c", func := "sidestick/sidesticklaw01.NumComes", spec := "numComes", apart := false, narrowed := true }
def NumComesUptoSaid : Prop := numComesUptoRow.holds Try.pinned (OpenSpec.upto numComesSpec)

/-- 'sidesticklaw01.NumBounds', WHERE WHAT IT READS IS OF BULK AT MOST 1048576: true; the input reads as it did. -/
def numBoundsUptoRow : OpenClaim := { program := "ytofhhdnllloliaa", sum := "a910b19384e6d60a6d6d58c9a35e7ff4989116cf2cd870d434616a03cc788d0c", func := "sidestick/sidesticklaw01.NumBounds", spec := "numBounds", apart := false, narrowed := true }
def NumBoundsUptoSaid : Prop := numBoundsUptoRow.holds Try.pinned (OpenSpec.upto numBoundsSpec)

/-- 'sidesticklaw01.NumSets', WHERE WHAT IT READS IS OF BULK AT MOST 1048576: true; the input reads as it did. -/
def numSetsUptoRow : OpenClaim := { program := "ytofhhdnllloliaa", sum := "a910b19384e6d60a6d6d58c9a35e7ff4989116cf2cd870d434616a03cc788d0c", func := "sidestick/sidesticklaw01.NumSets", spec := "numSets", apart := false, narrowed := true }
def NumSetsUptoSaid : Prop := numSetsUptoRow.holds Try.pinned (OpenSpec.upto numSetsSpec)

/-- 'sidesticklaw01.NumMirrors', WHERE WHAT IT READS IS OF BULK AT MOST 1048576: true; the input reads as it did. -/
def numMirrorsUptoRow : OpenClaim := { program := "ytofhhdnllloliaa", sum := "a910b19384e6d60a6d6d58c9a35e7ff4989116cf2cd870d434616a03cc788d0c", func := "sidestick/sidesticklaw01.NumMirrors", spec := "numMirrors", apart := false, narrowed := true }
def NumMirrorsUptoSaid : Prop := numMirrorsUptoRow.holds Try.pinned (OpenSpec.upto numMirrorsSpec)

end Rows
end Go.Proofs.Ytofhhdnllloliaa
