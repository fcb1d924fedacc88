/-
  NARROWER THAN 'FOR EVERY INPUT', by the rows' own cells (each row's printed sentence says how): UnifyMost: loops · UnifyShapes: loops · UnifyPairs: loops · UnifyGround: loops.
  DERIVED. THE GIVEN ROWS OF THIS SEAT. 4 by the template 'for every input the law returns true; each argument reads behind the call as it read before'; 0 by the template 'total and deterministic' (their statements: YtiammidklcjelabTotals.lean).
  GIVEN WITH THE SEED: the statements are not yours to turn. If you find one false, say at which input.
  Laid BY PROGRAM, IN A SANDBOX (cutbox-rows.mjs): the forced cells as the released guide's own fill.sh prints them over the translation ec7cfaf8502fab04… (all of the seat's roots in one cut). By AI agents, Wed Nov 11 2026. No macro, syntax, notation, axiom, sorry.
-/
import Derived.Test.YtiammidklcjelabChecked
import GoSem.Claim
import GoSem.ClaimJoined
import GoSem.ClaimMapViews
import Derived.JoinedTies
import Derived.KernelRfl
namespace Go.Proofs.Ytiammidklcjelab
/- THE CELL 'sum', in the pinned program and in every row, IS THE sha256 OF THE DUMP (.gsa) THAT YtiammidklcjelabProg.lean LOADS. Nothing in Lean hashes anything: it is a label: what it is worth is what the hold of that sum in a sandbox is worth. -/
noncomputable def Try.pinned : Pinned := { name := "ytiammidklcjelab", sum := "ec7cfaf8502fab04f9ff2618360a92296bedfcfe79fcc452673c18289992a8c2", checked := Try.checked }
namespace Rows
def none {H : Type} : Left H := { results := [], args := [] }

/-- 'soriteslaw08.UnifyMost': WHATEVER THE INPUT: true; the input reads as it did. -/
def unifyMostSpec : ChangeSpec := { name := "unifyMost", fn := fun _ => fun
  | [d1, d2, d3] => { results := [.lit (.bool true)], args := [d1, d2, d3] }
  | _ => none }
def unifyMostRow : OpenClaim := { program := "ytiammidklcjelab", sum := "ec7cfaf8502fab04f9ff2618360a92296bedfcfe79fcc452673c18289992a8c2", func := "sorites/soriteslaw08.UnifyMost", spec := "unifyMost", unfollowed := true, recurses := true, loops := true, apart := false }
def UnifyMostSaid : Prop := unifyMostRow.holds Try.pinned (OpenSpec.ofChange unifyMostSpec)

/-- ITS FALSE NEIGHBOUR: 'it returns false'. Refute it at one input. -/
def unifyMostWrong : ChangeSpec := { name := "unifyMost", fn := fun _ => fun
  | [d1, d2, d3] => { results := [.lit (.bool false)], args := [d1, d2, d3] }
  | _ => none }
def UnifyMostWrongFalsely : Prop := unifyMostRow.holds Try.pinned (OpenSpec.ofChange unifyMostWrong)

/-- 'soriteslaw08.UnifyShapes': WHATEVER THE INPUT: true; the input reads as it did. -/
def unifyShapesSpec : ChangeSpec := { name := "unifyShapes", fn := fun _ => fun
  | [d1, d2] => { results := [.lit (.bool true)], args := [d1, d2] }
  | _ => none }
def unifyShapesRow : OpenClaim := { program := "ytiammidklcjelab", sum := "ec7cfaf8502fab04f9ff2618360a92296bedfcfe79fcc452673c18289992a8c2", func := "sorites/soriteslaw08.UnifyShapes", spec := "unifyShapes", unfollowed := true, recurses := true, loops := true, apart := false }
def UnifyShapesSaid : Prop := unifyShapesRow.holds Try.pinned (OpenSpec.ofChange unifyShapesSpec)

/-- ITS FALSE NEIGHBOUR: 'it returns false'. Refute it at one input. -/
def unifyShapesWrong : ChangeSpec := { name := "unifyShapes", fn := fun _ => fun
  | [d1, d2] => { results := [.lit (.bool false)], args := [d1, d2] }
  | _ => none }
def UnifyShapesWrongFalsely : Prop := unifyShapesRow.holds Try.pinned (OpenSpec.ofChange unifyShapesWrong)

/-- 'soriteslaw08.UnifyPairs': WHATEVER THE INPUT: true; the input reads as it did. -/
def unifyPairsSpec : ChangeSpec := { name := "unifyPairs", fn := fun _ => fun
  | [d1, d2, d3, d4] => { results := [.lit (.bool true)], args := [d1, d2, d3, d4] }
  | _ => none }
def unifyPairsRow : OpenClaim := { program := "ytiammidklcjelab", sum := "ec7cfaf8502fab04f9ff2618360a92296bedfcfe79fcc452673c18289992a8c2", func := "sorites/soriteslaw08.UnifyPairs", spec := "unifyPairs", unfollowed := true, recurses := true, loops := true, apart := false }
def UnifyPairsSaid : Prop := unifyPairsRow.holds Try.pinned (OpenSpec.ofChange unifyPairsSpec)

/-- ITS FALSE NEIGHBOUR: 'it returns false'. Refute it at one input. -/
def unifyPairsWrong : ChangeSpec := { name := "unifyPairs", fn := fun _ => fun
  | [d1, d2, d3, d4] => { results := [.lit (.bool false)], args := [d1, d2, d3, d4] }
  | _ => none }
def UnifyPairsWrongFalsely : Prop := unifyPairsRow.holds Try.pinned (OpenSpec.ofChange unifyPairsWrong)

/-- 'soriteslaw08.UnifyGround': WHATEVER THE INPUT: true; the input reads as it did. -/
def unifyGroundSpec : ChangeSpec := { name := "unifyGround", fn := fun _ => fun
  | [d1, d2] => { results := [.lit (.bool true)], args := [d1, d2] }
  | _ => none }
def unifyGroundRow : OpenClaim := { program := "ytiammidklcjelab", sum := "ec7cfaf8502fab04f9ff2618360a92296bedfcfe79fcc452673c18289992a8c2", func := "sorites/soriteslaw08.UnifyGround", spec := "unifyGround", unfollowed := true, recurses := true, loops := true, apart := false }
def UnifyGroundSaid : Prop := unifyGroundRow.holds Try.pinned (OpenSpec.ofChange unifyGroundSpec)

/-- ITS FALSE NEIGHBOUR: 'it returns false'. Refute it at one input. -/
def unifyGroundWrong : ChangeSpec := { name := "unifyGround", fn := fun _ => fun
  | [d1, d2] => { results := [.lit (.bool false)], args := [d1, d2] }
  | _ => none }
def UnifyGroundWrongFalsely : Prop := unifyGroundRow.holds Try.pinned (OpenSpec.ofChange unifyGroundWrong)

/- THE SECOND FORM. 'bulk': how many values and letters a reading holds, each counted each time it is reached (what is shared counts as often as it is met; a slice's spare places count too). A statement '..UptoSaid' is the law's where the arguments, and the package variables that the reading takes, are together of bulk at most 1048576: NARROWER than '..Said'. Prove '..Said' where nothing that the law and all that it calls make is longer than what came in: it says more and counts as full. Else prove '..UptoSaid'. A law counts once. -/
mutual
def uptoBulk {H : Type} : DataW H → Nat
  | .lit (.string bytes) => bytes.length + 1
  | .lit _ => 1
  | .nil => 1
  | .ptr d => uptoBulk d + 1
  | .slice elems spare => uptoBulkAll elems + uptoBulkAll spare + 1
  | .agg parts => uptoBulkAll parts + 1
  | .iface _ d => uptoBulk d + 1
  | .map entries => uptoBulkEntries entries + 1
  | .held _ => 1
def uptoBulkAll {H : Type} : List (DataW H) → Nat
  | [] => 0
  | d :: r => uptoBulk d + uptoBulkAll r
def uptoBulkEntries {H : Type} : List (Lit × DataW H) → Nat
  | [] => 0
  | x :: r => uptoBulkEntry x + uptoBulkEntries r
def uptoBulkEntry {H : Type} : Lit × DataW H → Nat
  | (.string bytes, d) => bytes.length + uptoBulk d + 1
  | (_, d) => uptoBulk d + 1
 end
def uptoSmall : (H : Type) → List (DataW H) → Bool := fun _ ds => decide (uptoBulkAll ds ≤ 1048576)
def OpenSpec.upto (s : _root_.Go.ChangeSpec) : _root_.Go.OpenSpec := { _root_.Go.OpenSpec.ofChange s with cond := some uptoSmall }

/-- 'soriteslaw08.UnifyMost', WHERE WHAT IT READS IS OF BULK AT MOST 1048576: true; the input reads as it did. -/
def unifyMostUptoRow : OpenClaim := { program := "ytiammidklcjelab", sum := "ec7cfaf8502fab04f9ff2618360a92296bedfcfe79fcc452673c18289992a8c2", func := "sorites/soriteslaw08.UnifyMost", spec := "unifyMost", unfollowed := true, recurses := true, loops := true, apart := false, narrowed := true }
def UnifyMostUptoSaid : Prop := unifyMostUptoRow.holds Try.pinned (OpenSpec.upto unifyMostSpec)

/-- 'soriteslaw08.UnifyShapes', WHERE WHAT IT READS IS OF BULK AT MOST 1048576: true; the input reads as it did. -/
def unifyShapesUptoRow : OpenClaim := { program := "ytiammidklcjelab", sum := "ec7cfaf8502fab04f9ff2618360a92296bedfcfe79fcc452673c18289992a8c2", func := "sorites/soriteslaw08.UnifyShapes", spec := "unifyShapes", unfollowed := true, recurses := true, loops := true, apart := false, narrowed := true }
def UnifyShapesUptoSaid : Prop := unifyShapesUptoRow.holds Try.pinned (OpenSpec.upto unifyShapesSpec)

/-- 'soriteslaw08.UnifyPairs', WHERE WHAT IT READS IS OF BULK AT MOST 1048576: true; the input reads as it did. -/
def unifyPairsUptoRow : OpenClaim := { program := "ytiammidklcjelab", sum := "ec7cfaf8502fab04f9ff2618360a92296bedfcfe79fcc452673c18289992a8c2", func := "sorites/soriteslaw08.UnifyPairs", spec := "unifyPairs", unfollowed := true, recurses := true, loops := true, apart := false, narrowed := true }
def UnifyPairsUptoSaid : Prop := unifyPairsUptoRow.holds Try.pinned (OpenSpec.upto unifyPairsSpec)

/-- 'soriteslaw08.UnifyGround', WHERE WHAT IT READS IS OF BULK AT MOST 1048576: true; the input reads as it did. -/
def unifyGroundUptoRow : OpenClaim := { program := "ytiammidklcjelab", sum := "ec7cfaf8502fab04f9ff2618360a92296bedfcfe79fcc452673c18289992a8c2", func := "sorites/soriteslaw08.UnifyGround", spec := "unifyGround", unfollowed := true, recurses := true, loops := true, apart := false, narrowed := true }
def UnifyGroundUptoSaid : Prop := unifyGroundUptoRow.holds Try.pinned (OpenSpec.upto unifyGroundSpec)

end Rows
end Go.Proofs.Ytiammidklcjelab
