/-
  NARROWER THAN 'FOR EVERY INPUT', by the rows' own cells (each row's printed sentence says how): ClauseBytes: loops · UnifyTells: loops.
  DERIVED. THE GIVEN ROWS OF THIS SEAT. 3 by the template 'for every input the law returns true; each argument reads behind the call as it read before'; 0 by the template 'total and deterministic' (their statements: YtiammidklcjelaaTotals.lean).
  GIVEN WITH THE SEED: the statements are not yours to turn. If you find one false, say at which input.
  Laid BY PROGRAM, IN A SANDBOX (cutbox-rows.mjs): the forced cells as the released guide's own fill.sh prints them over the translation 4bbd680f39022f44… (all of the seat's roots in one cut). By AI agents, Wed Nov 11 2026. No macro, syntax, notation, axiom, sorry.
-/
import Derived.Test.YtiammidklcjelaaChecked
import GoSem.Claim
import GoSem.ClaimJoined
import GoSem.ClaimMapViews
import Derived.JoinedTies
import Derived.KernelRfl
namespace Go.Proofs.Ytiammidklcjelaa
/- THE CELL 'sum', in the pinned program and in every row, IS THE sha256 OF THE DUMP (.gsa) THAT YtiammidklcjelaaProg.lean LOADS. Nothing in Lean hashes anything: it is a label: what it is worth is what the hold of that sum in a sandbox is worth. -/
noncomputable def Try.pinned : Pinned := { name := "ytiammidklcjelaa", sum := "4bbd680f39022f444460a89d8dda1440610dc94bad666a7e18b9252c5ae0fb15", checked := Try.checked }
namespace Rows
def none {H : Type} : Left H := { results := [], args := [] }

/-- 'soriteslaw11.ClauseBytes': WHATEVER THE INPUT: true; the input reads as it did. -/
def clauseBytesSpec : ChangeSpec := { name := "clauseBytes", fn := fun _ => fun
  | [d1, d2, d3, d4] => { results := [.lit (.bool true)], args := [d1, d2, d3, d4] }
  | _ => none }
def clauseBytesRow : OpenClaim := { program := "ytiammidklcjelaa", sum := "4bbd680f39022f444460a89d8dda1440610dc94bad666a7e18b9252c5ae0fb15", func := "sorites/soriteslaw11.ClauseBytes", spec := "clauseBytes", unfollowed := true, recurses := true, loops := true, apart := false }
def ClauseBytesSaid : Prop := clauseBytesRow.holds Try.pinned (OpenSpec.ofChange clauseBytesSpec)

/-- ITS FALSE NEIGHBOUR: 'it returns false'. Refute it at one input. -/
def clauseBytesWrong : ChangeSpec := { name := "clauseBytes", fn := fun _ => fun
  | [d1, d2, d3, d4] => { results := [.lit (.bool false)], args := [d1, d2, d3, d4] }
  | _ => none }
def ClauseBytesWrongFalsely : Prop := clauseBytesRow.holds Try.pinned (OpenSpec.ofChange clauseBytesWrong)

/-- 'soriteslaw11.ClauseReads': WHATEVER THE INPUT: true; the input reads as it did. -/
def clauseReadsSpec : ChangeSpec := { name := "clauseReads", fn := fun _ => fun
  | [d1, d2] => { results := [.lit (.bool true)], args := [d1, d2] }
  | _ => none }
def clauseReadsRow : OpenClaim := { program := "ytiammidklcjelaa", sum := "4bbd680f39022f444460a89d8dda1440610dc94bad666a7e18b9252c5ae0fb15", func := "sorites/soriteslaw11.ClauseReads", spec := "clauseReads", unfollowed := true, recurses := true, apart := false }
def ClauseReadsSaid : Prop := clauseReadsRow.holds Try.pinned (OpenSpec.ofChange clauseReadsSpec)

/-- ITS FALSE NEIGHBOUR: 'it returns false'. Refute it at one input. -/
def clauseReadsWrong : ChangeSpec := { name := "clauseReads", fn := fun _ => fun
  | [d1, d2] => { results := [.lit (.bool false)], args := [d1, d2] }
  | _ => none }
def ClauseReadsWrongFalsely : Prop := clauseReadsRow.holds Try.pinned (OpenSpec.ofChange clauseReadsWrong)

/-- 'soriteslaw08.UnifyTells': WHATEVER THE INPUT: true; the input reads as it did. -/
def unifyTellsSpec : ChangeSpec := { name := "unifyTells", fn := fun _ => fun
  | [d1, d2, d3, d4] => { results := [.lit (.bool true)], args := [d1, d2, d3, d4] }
  | _ => none }
def unifyTellsRow : OpenClaim := { program := "ytiammidklcjelaa", sum := "4bbd680f39022f444460a89d8dda1440610dc94bad666a7e18b9252c5ae0fb15", func := "sorites/soriteslaw08.UnifyTells", spec := "unifyTells", unfollowed := true, recurses := true, loops := true, apart := false }
def UnifyTellsSaid : Prop := unifyTellsRow.holds Try.pinned (OpenSpec.ofChange unifyTellsSpec)

/-- ITS FALSE NEIGHBOUR: 'it returns false'. Refute it at one input. -/
def unifyTellsWrong : ChangeSpec := { name := "unifyTells", fn := fun _ => fun
  | [d1, d2, d3, d4] => { results := [.lit (.bool false)], args := [d1, d2, d3, d4] }
  | _ => none }
def UnifyTellsWrongFalsely : Prop := unifyTellsRow.holds Try.pinned (OpenSpec.ofChange unifyTellsWrong)

/- THE SECOND FORM. 'bulk': how many values and letters a reading holds, each counted each time it is reached (what is shared counts as often as it is met; a slice's spare places count too). A statement '..UptoSaid' is the law's where the arguments, and the package variables that the reading takes, are together of bulk at most 1048576: NARROWER than '..Said'. Prove '..Said' where nothing that the law and all that it calls make is longer than what came in: it says more and counts as full. Else prove '..UptoSaid'. A law counts once. -/
mutual
def uptoBulk {H : Type} : DataW H → Nat
  | .lit (.string bytes) => bytes.length + 1
  | .lit _ => 1
  | .nil => 1
  | .ptr d => uptoBulk d + 1
  | .slice elems spare => uptoBulkAll elems + uptoBulkAll spare + 1
  | .agg parts => uptoBulkAll parts + 1
  | .iface _ d => uptoBulk d + 1
  | .map entries => uptoBulkEntries entries + 1
  | .held _ => 1
def uptoBulkAll {H : Type} : List (DataW H) → Nat
  | [] => 0
  | d :: r => uptoBulk d + uptoBulkAll r
def uptoBulkEntries {H : Type} : List (Lit × DataW H) → Nat
  | [] => 0
  | x :: r => uptoBulkEntry x + uptoBulkEntries r
def uptoBulkEntry {H : Type} : Lit × DataW H → Nat
  | (.string bytes, d) => bytes.length + uptoBulk d + 1
  | (_, d) => uptoBulk d + 1
 end
def uptoSmall : (H : Type) → List (DataW H) → Bool := fun _ ds => decide (uptoBulkAll ds ≤ 1048576)
def OpenSpec.upto (s : _root_.Go.ChangeSpec) : _root_.Go.OpenSpec := { _root_.Go.OpenSpec.ofChange s with cond := some uptoSmall }

/-- 'soriteslaw11.ClauseBytes', WHERE WHAT IT READS IS OF BULK AT MOST 1048576: true; the input reads as it did. -/
def clauseBytesUptoRow : OpenClaim := { program := "ytiammidklcjelaa", sum := "4bbd680f39022f444460a89d8dda1440610dc94bad666a7e18b9252c5ae0fb15", func := "sorites/soriteslaw11.ClauseBytes", spec := "clauseBytes", unfollowed := true, recurses := true, loops := true, apart := false, narrowed := true }
def ClauseBytesUptoSaid : Prop := clauseBytesUptoRow.holds Try.pinned (OpenSpec.upto clauseBytesSpec)

/-- 'soriteslaw11.ClauseReads', WHERE WHAT IT READS IS OF BULK AT MOST 1048576: true; the input reads as it did. -/
def clauseReadsUptoRow : OpenClaim := { program := "ytiammidklcjelaa", sum := "4bbd680f39022f444460a89d8dda1440610dc94bad666a7e18b9252c5ae0fb15", func := "sorites/soriteslaw11.ClauseReads", spec := "clauseReads", unfollowed := true, recurses := true, apart := false, narrowed := true }
def ClauseReadsUptoSaid : Prop := clauseReadsUptoRow.holds Try.pinned (OpenSpec.upto clauseReadsSpec)

/-- 'soriteslaw08.UnifyTells', WHERE WHAT IT READS IS OF BULK AT MOST 1048576: true; the input reads as it did. -/
def unifyTellsUptoRow : OpenClaim := { program := "ytiammidklcjelaa", sum := "4bbd680f39022f444460a89d8dda1440610dc94bad666a7e18b9252c5ae0fb15", func := "sorites/soriteslaw08.UnifyTells", spec := "unifyTells", unfollowed := true, recurses := true, loops := true, apart := false, narrowed := true }
def UnifyTellsUptoSaid : Prop := unifyTellsUptoRow.holds Try.pinned (OpenSpec.upto unifyTellsSpec)

end Rows
end Go.Proofs.Ytiammidklcjelaa
