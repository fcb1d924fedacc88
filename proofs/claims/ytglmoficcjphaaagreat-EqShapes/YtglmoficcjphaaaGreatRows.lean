/-
  NARROWER THAN 'FOR EVERY INPUT', by the rows' own cells (each row's printed sentence says how): EqAll: loops · EqShapes: loops · EqBare: loops · EqWeights: loops.
  DERIVED. THE GIVEN ROWS OF THIS SEAT. 4 by the template 'for every input the law returns true; each argument reads behind the call as it read before'; 0 by the template 'total and deterministic' (their statements: YtglmoficcjphaaaGreatTotals.lean).
  GIVEN WITH THE SEED: the statements are not yours to turn. If you find one false, say at which input.
  Laid BY PROGRAM, IN A SANDBOX (cutbox-rows.mjs): the forced cells as the released guide's own fill.sh prints them over the translation 70f80ebfbcf02aad… (all of the seat's roots in one cut). By AI agents, Wed Nov 11 2026. No macro, syntax, notation, axiom, sorry.
-/
import Derived.Test.YtglmoficcjphaaaGreatChecked
import GoSem.Claim
import GoSem.ClaimJoined
import GoSem.ClaimMapViews
import Derived.JoinedTies
import Derived.KernelRfl
namespace Go.Proofs.YtglmoficcjphaaaGreat
/- THE CELL 'sum', in the pinned program and in every row, IS THE sha256 OF THE DUMP (.gsa) THAT YtglmoficcjphaaaGreatProg.lean LOADS. Nothing in Lean hashes anything: it is a label: what it is worth is what the hold of that sum in a sandbox is worth. -/
noncomputable def Tryz.pinned : Pinned := { name := "ytglmoficcjphaaagreat", sum := "70f80ebfbcf02aad0a590249f3f0b532104b084be7f604e86002f7a0030da564", checked := Tryz.checked }
namespace Rows
def none {H : Type} : Left H := { results := [], args := [] }

/-- 'soriteslaw15.EqAll': WHATEVER THE INPUT: true; the input reads as it did. -/
def eqAllSpec : ChangeSpec := { name := "eqAll", fn := fun _ => fun
  | [d1, d2] => { results := [.lit (.bool true)], args := [d1, d2] }
  | _ => none }
def eqAllRow : OpenClaim := { program := "ytglmoficcjphaaagreat", sum := "70f80ebfbcf02aad0a590249f3f0b532104b084be7f604e86002f7a0030da564", func := "sorites/soriteslaw15.EqAll", spec := "eqAll", unfollowed := true, recurses := true, loops := true, apart := false }
def EqAllSaid : Prop := eqAllRow.holds Tryz.pinned (OpenSpec.ofChange eqAllSpec)

/-- ITS FALSE NEIGHBOUR: 'it returns false'. Refute it at one input. -/
def eqAllWrong : ChangeSpec := { name := "eqAll", fn := fun _ => fun
  | [d1, d2] => { results := [.lit (.bool false)], args := [d1, d2] }
  | _ => none }
def EqAllWrongFalsely : Prop := eqAllRow.holds Tryz.pinned (OpenSpec.ofChange eqAllWrong)

/-- 'soriteslaw15.EqShapes': WHATEVER THE INPUT: true; the input reads as it did. -/
def eqShapesSpec : ChangeSpec := { name := "eqShapes", fn := fun _ => fun
  | [d1, d2] => { results := [.lit (.bool true)], args := [d1, d2] }
  | _ => none }
def eqShapesRow : OpenClaim := { program := "ytglmoficcjphaaagreat", sum := "70f80ebfbcf02aad0a590249f3f0b532104b084be7f604e86002f7a0030da564", func := "sorites/soriteslaw15.EqShapes", spec := "eqShapes", unfollowed := true, recurses := true, loops := true, apart := false }
def EqShapesSaid : Prop := eqShapesRow.holds Tryz.pinned (OpenSpec.ofChange eqShapesSpec)

/-- ITS FALSE NEIGHBOUR: 'it returns false'. Refute it at one input. -/
def eqShapesWrong : ChangeSpec := { name := "eqShapes", fn := fun _ => fun
  | [d1, d2] => { results := [.lit (.bool false)], args := [d1, d2] }
  | _ => none }
def EqShapesWrongFalsely : Prop := eqShapesRow.holds Tryz.pinned (OpenSpec.ofChange eqShapesWrong)

/-- 'soriteslaw15.EqBare': WHATEVER THE INPUT: true; the input reads as it did. -/
def eqBareSpec : ChangeSpec := { name := "eqBare", fn := fun _ => fun
  | [d] => { results := [.lit (.bool true)], args := [d] }
  | _ => none }
def eqBareRow : OpenClaim := { program := "ytglmoficcjphaaagreat", sum := "70f80ebfbcf02aad0a590249f3f0b532104b084be7f604e86002f7a0030da564", func := "sorites/soriteslaw15.EqBare", spec := "eqBare", unfollowed := true, recurses := true, loops := true, apart := false }
def EqBareSaid : Prop := eqBareRow.holds Tryz.pinned (OpenSpec.ofChange eqBareSpec)

/-- ITS FALSE NEIGHBOUR: 'it returns false'. Refute it at one input. -/
def eqBareWrong : ChangeSpec := { name := "eqBare", fn := fun _ => fun
  | [d] => { results := [.lit (.bool false)], args := [d] }
  | _ => none }
def EqBareWrongFalsely : Prop := eqBareRow.holds Tryz.pinned (OpenSpec.ofChange eqBareWrong)

/-- 'soriteslaw15.EqWeights': WHATEVER THE INPUT: true; the input reads as it did. -/
def eqWeightsSpec : ChangeSpec := { name := "eqWeights", fn := fun _ => fun
  | [d1, d2] => { results := [.lit (.bool true)], args := [d1, d2] }
  | _ => none }
def eqWeightsRow : OpenClaim := { program := "ytglmoficcjphaaagreat", sum := "70f80ebfbcf02aad0a590249f3f0b532104b084be7f604e86002f7a0030da564", func := "sorites/soriteslaw15.EqWeights", spec := "eqWeights", unfollowed := true, recurses := true, loops := true, apart := false }
def EqWeightsSaid : Prop := eqWeightsRow.holds Tryz.pinned (OpenSpec.ofChange eqWeightsSpec)

/-- ITS FALSE NEIGHBOUR: 'it returns false'. Refute it at one input. -/
def eqWeightsWrong : ChangeSpec := { name := "eqWeights", fn := fun _ => fun
  | [d1, d2] => { results := [.lit (.bool false)], args := [d1, d2] }
  | _ => none }
def EqWeightsWrongFalsely : Prop := eqWeightsRow.holds Tryz.pinned (OpenSpec.ofChange eqWeightsWrong)

/- THE SECOND FORM. 'bulk': how many values and letters a reading holds, each counted each time it is reached (what is shared counts as often as it is met; a slice's spare places count too). A statement '..UptoSaid' is the law's where the arguments, and the package variables that the reading takes, are together of bulk at most 1048576: NARROWER than '..Said'. Prove '..Said' where nothing that the law and all that it calls make is longer than what came in: it says more and counts as full. Else prove '..UptoSaid'. A law counts once. -/
mutual
def uptoBulk {H : Type} : DataW H → Nat
  | .lit (.string bytes) => bytes.length + 1
  | .lit _ => 1
  | .nil => 1
  | .ptr d => uptoBulk d + 1
  | .slice elems spare => uptoBulkAll elems + uptoBulkAll spare + 1
  | .agg parts => uptoBulkAll parts + 1
  | .iface _ d => uptoBulk d + 1
  | .map entries => uptoBulkEntries entries + 1
  | .held _ => 1
def uptoBulkAll {H : Type} : List (DataW H) → Nat
  | [] => 0
  | d :: r => uptoBulk d + uptoBulkAll r
def uptoBulkEntries {H : Type} : List (Lit × DataW H) → Nat
  | [] => 0
  | x :: r => uptoBulkEntry x + uptoBulkEntries r
def uptoBulkEntry {H : Type} : Lit × DataW H → Nat
  | (.string bytes, d) => bytes.length + uptoBulk d + 1
  | (_, d) => uptoBulk d + 1
 end
def uptoSmall : (H : Type) → List (DataW H) → Bool := fun _ ds => decide (uptoBulkAll ds ≤ 1048576)
def OpenSpec.upto (s : _root_.Go.ChangeSpec) : _root_.Go.OpenSpec := { _root_.Go.OpenSpec.ofChange s with cond := some uptoSmall }

/-- 'soriteslaw15.EqAll', WHERE WHAT IT READS IS OF BULK AT MOST 1048576: true; the input reads as it did. -/
def eqAllUptoRow : OpenClaim := { program := "ytglmoficcjphaaagreat", sum := "70f80ebfbcf02aad0a590249f3f0b532104b084be7f604e86002f7a0030da564", func := "sorites/soriteslaw15.EqAll", spec := "eqAll", unfollowed := true, recurses := true, loops := true, apart := false, narrowed := true }
def EqAllUptoSaid : Prop := eqAllUptoRow.holds Tryz.pinned (OpenSpec.upto eqAllSpec)

/-- 'soriteslaw15.EqShapes', WHERE WHAT IT READS IS OF BULK AT MOST 1048576: true; the input reads as it did. -/
def eqShapesUptoRow : OpenClaim := { program := "ytglmoficcjphaaagreat", sum := "70f80ebfbcf02aad0a590249f3f0b532104b084be7f604e86002f7a0030da564", func := "sorites/soriteslaw15.EqShapes", spec := "eqShapes", unfollowed := true, recurses := true, loops := true, apart := false, narrowed := true }
def EqShapesUptoSaid : Prop := eqShapesUptoRow.holds Tryz.pinned (OpenSpec.upto eqShapesSpec)

/-- 'soriteslaw15.EqBare', WHERE WHAT IT READS IS OF BULK AT MOST 1048576: true; the input reads as it did. -/
def eqBareUptoRow : OpenClaim := { program := "ytglmoficcjphaaagreat", sum := "70f80ebfbcf02aad0a590249f3f0b532104b084be7f604e86002f7a0030da564", func := "sorites/soriteslaw15.EqBare", spec := "eqBare", unfollowed := true, recurses := true, loops := true, apart := false, narrowed := true }
def EqBareUptoSaid : Prop := eqBareUptoRow.holds Tryz.pinned (OpenSpec.upto eqBareSpec)

/-- 'soriteslaw15.EqWeights', WHERE WHAT IT READS IS OF BULK AT MOST 1048576: true; the input reads as it did. -/
def eqWeightsUptoRow : OpenClaim := { program := "ytglmoficcjphaaagreat", sum := "70f80ebfbcf02aad0a590249f3f0b532104b084be7f604e86002f7a0030da564", func := "sorites/soriteslaw15.EqWeights", spec := "eqWeights", unfollowed := true, recurses := true, loops := true, apart := false, narrowed := true }
def EqWeightsUptoSaid : Prop := eqWeightsUptoRow.holds Tryz.pinned (OpenSpec.upto eqWeightsSpec)

end Rows
end Go.Proofs.YtglmoficcjphaaaGreat
