/-
  NARROWER THAN 'FOR EVERY INPUT', by the rows' own cells (each row's printed sentence says how): SupInto: loops · SupFree: loops · SupUnits: loops · SupSigns: loops.
  DERIVED. THE GIVEN ROWS OF THIS SEAT. 4 by the template 'for every input the law returns true; each argument reads behind the call as it read before'; 0 by the template 'total and deterministic' (their statements: YteegmcfobgpemaaGreatTotals.lean).
  GIVEN WITH THE SEED: the statements are not yours to turn. If you find one false, say at which input.
  Laid BY PROGRAM, IN A SANDBOX (cutbox-rows.mjs): the forced cells as the released guide's own fill.sh prints them over the translation 7ff2ea955fe14328… (all of the seat's roots in one cut). By AI agents, Wed Nov 11 2026. No macro, syntax, notation, axiom, sorry.
-/
import Derived.Test.YteegmcfobgpemaaGreatChecked
import GoSem.Claim
import GoSem.ClaimJoined
import GoSem.ClaimMapViews
import Derived.JoinedTies
import Derived.KernelRfl
namespace Go.Proofs.YteegmcfobgpemaaGreat
/- THE CELL 'sum', in the pinned program and in every row, IS THE sha256 OF THE DUMP (.gsa) THAT YteegmcfobgpemaaGreatProg.lean LOADS. Nothing in Lean hashes anything: it is a label: what it is worth is what the hold of that sum in a sandbox is worth. -/
noncomputable def Tryz.pinned : Pinned := { name := "yteegmcfobgpemaagreat", sum := "7ff2ea955fe14328ef21332aed4dadf6b4bd2d8449fa8cf8e39675d4a1b0f464", checked := Tryz.checked }
namespace Rows
def none {H : Type} : Left H := { results := [], args := [] }

/-- 'soriteslaw16.SupInto': WHATEVER THE INPUT: true; the input reads as it did. -/
def supIntoSpec : ChangeSpec := { name := "supInto", fn := fun _ => fun
  | [d1, d2] => { results := [.lit (.bool true)], args := [d1, d2] }
  | _ => none }
def supIntoRow : OpenClaim := { program := "yteegmcfobgpemaagreat", sum := "7ff2ea955fe14328ef21332aed4dadf6b4bd2d8449fa8cf8e39675d4a1b0f464", func := "sorites/soriteslaw16.SupInto", spec := "supInto", unfollowed := true, recurses := true, loops := true, apart := false }
def SupIntoSaid : Prop := supIntoRow.holds Tryz.pinned (OpenSpec.ofChange supIntoSpec)

/-- ITS FALSE NEIGHBOUR: 'it returns false'. Refute it at one input. -/
def supIntoWrong : ChangeSpec := { name := "supInto", fn := fun _ => fun
  | [d1, d2] => { results := [.lit (.bool false)], args := [d1, d2] }
  | _ => none }
def SupIntoWrongFalsely : Prop := supIntoRow.holds Tryz.pinned (OpenSpec.ofChange supIntoWrong)

/-- 'soriteslaw16.SupFree': WHATEVER THE INPUT: true; the input reads as it did. -/
def supFreeSpec : ChangeSpec := { name := "supFree", fn := fun _ => fun
  | [d1, d2, d3] => { results := [.lit (.bool true)], args := [d1, d2, d3] }
  | _ => none }
def supFreeRow : OpenClaim := { program := "yteegmcfobgpemaagreat", sum := "7ff2ea955fe14328ef21332aed4dadf6b4bd2d8449fa8cf8e39675d4a1b0f464", func := "sorites/soriteslaw16.SupFree", spec := "supFree", unfollowed := true, recurses := true, loops := true, apart := false }
def SupFreeSaid : Prop := supFreeRow.holds Tryz.pinned (OpenSpec.ofChange supFreeSpec)

/-- ITS FALSE NEIGHBOUR: 'it returns false'. Refute it at one input. -/
def supFreeWrong : ChangeSpec := { name := "supFree", fn := fun _ => fun
  | [d1, d2, d3] => { results := [.lit (.bool false)], args := [d1, d2, d3] }
  | _ => none }
def SupFreeWrongFalsely : Prop := supFreeRow.holds Tryz.pinned (OpenSpec.ofChange supFreeWrong)

/-- 'soriteslaw16.SupUnits': WHATEVER THE INPUT: true; the input reads as it did. -/
def supUnitsSpec : ChangeSpec := { name := "supUnits", fn := fun _ => fun
  | [d1, d2] => { results := [.lit (.bool true)], args := [d1, d2] }
  | _ => none }
def supUnitsRow : OpenClaim := { program := "yteegmcfobgpemaagreat", sum := "7ff2ea955fe14328ef21332aed4dadf6b4bd2d8449fa8cf8e39675d4a1b0f464", func := "sorites/soriteslaw16.SupUnits", spec := "supUnits", unfollowed := true, recurses := true, loops := true, apart := false }
def SupUnitsSaid : Prop := supUnitsRow.holds Tryz.pinned (OpenSpec.ofChange supUnitsSpec)

/-- ITS FALSE NEIGHBOUR: 'it returns false'. Refute it at one input. -/
def supUnitsWrong : ChangeSpec := { name := "supUnits", fn := fun _ => fun
  | [d1, d2] => { results := [.lit (.bool false)], args := [d1, d2] }
  | _ => none }
def SupUnitsWrongFalsely : Prop := supUnitsRow.holds Tryz.pinned (OpenSpec.ofChange supUnitsWrong)

/-- 'soriteslaw16.SupSigns': WHATEVER THE INPUT: true; the input reads as it did. -/
def supSignsSpec : ChangeSpec := { name := "supSigns", fn := fun _ => fun
  | [d1, d2] => { results := [.lit (.bool true)], args := [d1, d2] }
  | _ => none }
def supSignsRow : OpenClaim := { program := "yteegmcfobgpemaagreat", sum := "7ff2ea955fe14328ef21332aed4dadf6b4bd2d8449fa8cf8e39675d4a1b0f464", func := "sorites/soriteslaw16.SupSigns", spec := "supSigns", unfollowed := true, recurses := true, loops := true, apart := false }
def SupSignsSaid : Prop := supSignsRow.holds Tryz.pinned (OpenSpec.ofChange supSignsSpec)

/-- ITS FALSE NEIGHBOUR: 'it returns false'. Refute it at one input. -/
def supSignsWrong : ChangeSpec := { name := "supSigns", fn := fun _ => fun
  | [d1, d2] => { results := [.lit (.bool false)], args := [d1, d2] }
  | _ => none }
def SupSignsWrongFalsely : Prop := supSignsRow.holds Tryz.pinned (OpenSpec.ofChange supSignsWrong)

/- THE SECOND FORM. 'bulk': how many values and letters a reading holds, each counted each time it is reached (what is shared counts as often as it is met; a slice's spare places count too). A statement '..UptoSaid' is the law's where the arguments, and the package variables that the reading takes, are together of bulk at most 1048576: NARROWER than '..Said'. Prove '..Said' where nothing that the law and all that it calls make is longer than what came in: it says more and counts as full. Else prove '..UptoSaid'. A law counts once. -/
mutual
def uptoBulk {H : Type} : DataW H → Nat
  | .lit (.string bytes) => bytes.length + 1
  | .lit _ => 1
  | .nil => 1
  | .ptr d => uptoBulk d + 1
  | .slice elems spare => uptoBulkAll elems + uptoBulkAll spare + 1
  | .agg parts => uptoBulkAll parts + 1
  | .iface _ d => uptoBulk d + 1
  | .map entries => uptoBulkEntries entries + 1
  | .held _ => 1
def uptoBulkAll {H : Type} : List (DataW H) → Nat
  | [] => 0
  | d :: r => uptoBulk d + uptoBulkAll r
def uptoBulkEntries {H : Type} : List (Lit × DataW H) → Nat
  | [] => 0
  | x :: r => uptoBulkEntry x + uptoBulkEntries r
def uptoBulkEntry {H : Type} : Lit × DataW H → Nat
  | (.string bytes, d) => bytes.length + uptoBulk d + 1
  | (_, d) => uptoBulk d + 1
 end
def uptoSmall : (H : Type) → List (DataW H) → Bool := fun _ ds => decide (uptoBulkAll ds ≤ 1048576)
def OpenSpec.upto (s : _root_.Go.ChangeSpec) : _root_.Go.OpenSpec := { _root_.Go.OpenSpec.ofChange s with cond := some uptoSmall }

/-- 'soriteslaw16.SupInto', WHERE WHAT IT READS IS OF BULK AT MOST 1048576: true; the input reads as it did. -/
def supIntoUptoRow : OpenClaim := { program := "yteegmcfobgpemaagreat", sum := "7ff2ea955fe14328ef21332aed4dadf6b4bd2d8449fa8cf8e39675d4a1b0f464", func := "sorites/soriteslaw16.SupInto", spec := "supInto", unfollowed := true, recurses := true, loops := true, apart := false, narrowed := true }
def SupIntoUptoSaid : Prop := supIntoUptoRow.holds Tryz.pinned (OpenSpec.upto supIntoSpec)

/-- 'soriteslaw16.SupFree', WHERE WHAT IT READS IS OF BULK AT MOST 1048576: true; the input reads as it did. -/
def supFreeUptoRow : OpenClaim := { program := "yteegmcfobgpemaagreat", sum := "7ff2ea955fe14328ef21332aed4dadf6b4bd2d8449fa8cf8e39675d4a1b0f464", func := "sorites/soriteslaw16.SupFree", spec := "supFree", unfollowed := true, recurses := true, loops := true, apart := false, narrowed := true }
def SupFreeUptoSaid : Prop := supFreeUptoRow.holds Tryz.pinned (OpenSpec.upto supFreeSpec)

/-- 'soriteslaw16.SupUnits', WHERE WHAT IT READS IS OF BULK AT MOST 1048576: true; the input reads as it did. -/
def supUnitsUptoRow : OpenClaim := { program := "yteegmcfobgpemaagreat", sum := "7ff2ea955fe14328ef21332aed4dadf6b4bd2d8449fa8cf8e39675d4a1b0f464", func := "sorites/soriteslaw16.SupUnits", spec := "supUnits", unfollowed := true, recurses := true, loops := true, apart := false, narrowed := true }
def SupUnitsUptoSaid : Prop := supUnitsUptoRow.holds Tryz.pinned (OpenSpec.upto supUnitsSpec)

/-- 'soriteslaw16.SupSigns', WHERE WHAT IT READS IS OF BULK AT MOST 1048576: true; the input reads as it did. -/
def supSignsUptoRow : OpenClaim := { program := "yteegmcfobgpemaagreat", sum := "7ff2ea955fe14328ef21332aed4dadf6b4bd2d8449fa8cf8e39675d4a1b0f464", func := "sorites/soriteslaw16.SupSigns", spec := "supSigns", unfollowed := true, recurses := true, loops := true, apart := false, narrowed := true }
def SupSignsUptoSaid : Prop := supSignsUptoRow.holds Tryz.pinned (OpenSpec.upto supSignsSpec)

end Rows
end Go.Proofs.YteegmcfobgpemaaGreat
