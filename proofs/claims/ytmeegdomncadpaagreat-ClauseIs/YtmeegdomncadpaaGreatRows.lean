/-
  NARROWER THAN 'FOR EVERY INPUT', by the rows' own cells (each row's printed sentence says how): ClauseIs: loops · ClauseSame: loops · ClauseTaut: loops.
  DERIVED. THE GIVEN ROWS OF THIS SEAT. 3 by the template 'for every input the law returns true; each argument reads behind the call as it read before'; 0 by the template 'total and deterministic' (their statements: YtmeegdomncadpaaGreatTotals.lean).
  GIVEN WITH THE SEED: the statements are not yours to turn. If you find one false, say at which input.
  Laid BY PROGRAM, IN A SANDBOX (cutbox-rows.mjs): the forced cells as the released guide's own fill.sh prints them over the translation 42eaeea9c5325e1d… (all of the seat's roots in one cut). By AI agents, Wed Nov 11 2026. No macro, syntax, notation, axiom, sorry.
-/
import Derived.Test.YtmeegdomncadpaaGreatChecked
import GoSem.Claim
import GoSem.ClaimJoined
import GoSem.ClaimMapViews
import Derived.JoinedTies
import Derived.KernelRfl
namespace Go.Proofs.YtmeegdomncadpaaGreat
/- THE CELL 'sum', in the pinned program and in every row, IS THE sha256 OF THE DUMP (.gsa) THAT YtmeegdomncadpaaGreatProg.lean LOADS. Nothing in Lean hashes anything: it is a label: what it is worth is what the hold of that sum in a sandbox is worth. -/
noncomputable def Tryz.pinned : Pinned := { name := "ytmeegdomncadpaagreat", sum := "42eaeea9c5325e1d0eb88450fb0e24296b53e055182ef92878c8dd575a7f9e88", checked := Tryz.checked }
namespace Rows
def none {H : Type} : Left H := { results := [], args := [] }

/-- 'soriteslaw11.ClauseIs': WHATEVER THE INPUT: true; the input reads as it did. -/
def clauseIsSpec : ChangeSpec := { name := "clauseIs", fn := fun _ => fun
  | [d1, d2, d3] => { results := [.lit (.bool true)], args := [d1, d2, d3] }
  | _ => none }
def clauseIsRow : OpenClaim := { program := "ytmeegdomncadpaagreat", sum := "42eaeea9c5325e1d0eb88450fb0e24296b53e055182ef92878c8dd575a7f9e88", func := "sorites/soriteslaw11.ClauseIs", spec := "clauseIs", unfollowed := true, recurses := true, loops := true, apart := false }
def ClauseIsSaid : Prop := clauseIsRow.holds Tryz.pinned (OpenSpec.ofChange clauseIsSpec)

/-- ITS FALSE NEIGHBOUR: 'it returns false'. Refute it at one input. -/
def clauseIsWrong : ChangeSpec := { name := "clauseIs", fn := fun _ => fun
  | [d1, d2, d3] => { results := [.lit (.bool false)], args := [d1, d2, d3] }
  | _ => none }
def ClauseIsWrongFalsely : Prop := clauseIsRow.holds Tryz.pinned (OpenSpec.ofChange clauseIsWrong)

/-- 'soriteslaw11.ClauseSame': WHATEVER THE INPUT: true; the input reads as it did. -/
def clauseSameSpec : ChangeSpec := { name := "clauseSame", fn := fun _ => fun
  | [d1, d2, d3] => { results := [.lit (.bool true)], args := [d1, d2, d3] }
  | _ => none }
def clauseSameRow : OpenClaim := { program := "ytmeegdomncadpaagreat", sum := "42eaeea9c5325e1d0eb88450fb0e24296b53e055182ef92878c8dd575a7f9e88", func := "sorites/soriteslaw11.ClauseSame", spec := "clauseSame", unfollowed := true, recurses := true, loops := true, apart := false }
def ClauseSameSaid : Prop := clauseSameRow.holds Tryz.pinned (OpenSpec.ofChange clauseSameSpec)

/-- ITS FALSE NEIGHBOUR: 'it returns false'. Refute it at one input. -/
def clauseSameWrong : ChangeSpec := { name := "clauseSame", fn := fun _ => fun
  | [d1, d2, d3] => { results := [.lit (.bool false)], args := [d1, d2, d3] }
  | _ => none }
def ClauseSameWrongFalsely : Prop := clauseSameRow.holds Tryz.pinned (OpenSpec.ofChange clauseSameWrong)

/-- 'soriteslaw11.ClauseTaut': WHATEVER THE INPUT: true; the input reads as it did. -/
def clauseTautSpec : ChangeSpec := { name := "clauseTaut", fn := fun _ => fun
  | [d1, d2, d3, d4] => { results := [.lit (.bool true)], args := [d1, d2, d3, d4] }
  | _ => none }
def clauseTautRow : OpenClaim := { program := "ytmeegdomncadpaagreat", sum := "42eaeea9c5325e1d0eb88450fb0e24296b53e055182ef92878c8dd575a7f9e88", func := "sorites/soriteslaw11.ClauseTaut", spec := "clauseTaut", unfollowed := true, recurses := true, loops := true, apart := false }
def ClauseTautSaid : Prop := clauseTautRow.holds Tryz.pinned (OpenSpec.ofChange clauseTautSpec)

/-- ITS FALSE NEIGHBOUR: 'it returns false'. Refute it at one input. -/
def clauseTautWrong : ChangeSpec := { name := "clauseTaut", fn := fun _ => fun
  | [d1, d2, d3, d4] => { results := [.lit (.bool false)], args := [d1, d2, d3, d4] }
  | _ => none }
def ClauseTautWrongFalsely : Prop := clauseTautRow.holds Tryz.pinned (OpenSpec.ofChange clauseTautWrong)

/- THE SECOND FORM. 'bulk': how many values and letters a reading holds, each counted each time it is reached (what is shared counts as often as it is met; a slice's spare places count too). A statement '..UptoSaid' is the law's where the arguments, and the package variables that the reading takes, are together of bulk at most 1048576: NARROWER than '..Said'. Prove '..Said' where nothing that the law and all that it calls make is longer than what came in: it says more and counts as full. Else prove '..UptoSaid'. A law counts once. -/
mutual
def uptoBulk {H : Type} : DataW H → Nat
  | .lit (.string bytes) => bytes.length + 1
  | .lit _ => 1
  | .nil => 1
  | .ptr d => uptoBulk d + 1
  | .slice elems spare => uptoBulkAll elems + uptoBulkAll spare + 1
  | .agg parts => uptoBulkAll parts + 1
  | .iface _ d => uptoBulk d + 1
  | .map entries => uptoBulkEntries entries + 1
  | .held _ => 1
def uptoBulkAll {H : Type} : List (DataW H) → Nat
  | [] => 0
  | d :: r => uptoBulk d + uptoBulkAll r
def uptoBulkEntries {H : Type} : List (Lit × DataW H) → Nat
  | [] => 0
  | x :: r => uptoBulkEntry x + uptoBulkEntries r
def uptoBulkEntry {H : Type} : Lit × DataW H → Nat
  | (.string bytes, d) => bytes.length + uptoBulk d + 1
  | (_, d) => uptoBulk d + 1
 end
def uptoSmall : (H : Type) → List (DataW H) → Bool := fun _ ds => decide (uptoBulkAll ds ≤ 1048576)
def OpenSpec.upto (s : _root_.Go.ChangeSpec) : _root_.Go.OpenSpec := { _root_.Go.OpenSpec.ofChange s with cond := some uptoSmall }

/-- 'soriteslaw11.ClauseIs', WHERE WHAT IT READS IS OF BULK AT MOST 1048576: true; the input reads as it did. -/
def clauseIsUptoRow : OpenClaim := { program := "ytmeegdomncadpaagreat", sum := "42eaeea9c5325e1d0eb88450fb0e24296b53e055182ef92878c8dd575a7f9e88", func := "sorites/soriteslaw11.ClauseIs", spec := "clauseIs", unfollowed := true, recurses := true, loops := true, apart := false, narrowed := true }
def ClauseIsUptoSaid : Prop := clauseIsUptoRow.holds Tryz.pinned (OpenSpec.upto clauseIsSpec)

/-- 'soriteslaw11.ClauseSame', WHERE WHAT IT READS IS OF BULK AT MOST 1048576: true; the input reads as it did. -/
def clauseSameUptoRow : OpenClaim := { program := "ytmeegdomncadpaagreat", sum := "42eaeea9c5325e1d0eb88450fb0e24296b53e055182ef92878c8dd575a7f9e88", func := "sorites/soriteslaw11.ClauseSame", spec := "clauseSame", unfollowed := true, recurses := true, loops := true, apart := false, narrowed := true }
def ClauseSameUptoSaid : Prop := clauseSameUptoRow.holds Tryz.pinned (OpenSpec.upto clauseSameSpec)

/-- 'soriteslaw11.ClauseTaut', WHERE WHAT IT READS IS OF BULK AT MOST 1048576: true; the input reads as it did. -/
def clauseTautUptoRow : OpenClaim := { program := "ytmeegdomncadpaagreat", sum := "42eaeea9c5325e1d0eb88450fb0e24296b53e055182ef92878c8dd575a7f9e88", func := "sorites/soriteslaw11.ClauseTaut", spec := "clauseTaut", unfollowed := true, recurses := true, loops := true, apart := false, narrowed := true }
def ClauseTautUptoSaid : Prop := clauseTautUptoRow.holds Tryz.pinned (OpenSpec.upto clauseTautSpec)

end Rows
end Go.Proofs.YtmeegdomncadpaaGreat
