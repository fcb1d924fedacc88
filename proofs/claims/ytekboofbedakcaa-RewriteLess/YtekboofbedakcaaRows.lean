/-
  NARROWER THAN 'FOR EVERY INPUT', by the rows' own cells (each row's printed sentence says how): RewriteAll: loops · RewriteLess: loops · RewriteNormal: loops.
  DERIVED. THE GIVEN ROWS OF THIS SEAT. 3 by the template 'for every input the law returns true; each argument reads behind the call as it read before'; 0 by the template 'total and deterministic' (their statements: YtekboofbedakcaaTotals.lean).
  GIVEN WITH THE SEED: the statements are not yours to turn. If you find one false, say at which input.
  Laid BY PROGRAM, IN A SANDBOX (cutbox-rows.mjs): the forced cells as the released guide's own fill.sh prints them over the translation bcac2155b767314a… (all of the seat's roots in one cut). By AI agents, Wed Nov 11 2026. No macro, syntax, notation, axiom, sorry.
-/
import Derived.Test.YtekboofbedakcaaChecked
import GoSem.Claim
import GoSem.ClaimJoined
import GoSem.ClaimMapViews
import Derived.JoinedTies
import Derived.KernelRfl
namespace Go.Proofs.Ytekboofbedakcaa
/- THE CELL 'sum', in the pinned program and in every row, IS THE sha256 OF THE DUMP (.gsa) THAT YtekboofbedakcaaProg.lean LOADS. Nothing in Lean hashes anything: it is a label: what it is worth is what the hold of that sum in a sandbox is worth. -/
noncomputable def Try.pinned : Pinned := { name := "ytekboofbedakcaa", sum := "bcac2155b767314aae3ee06ea41df742aa4a61d2a19fad15c3f7a70a80dece6f", checked := Try.checked }
namespace Rows
def none {H : Type} : Left H := { results := [], args := [] }

/-- 'soriteslaw17.RewriteAll': WHATEVER THE INPUT: true; the input reads as it did. -/
def rewriteAllSpec : ChangeSpec := { name := "rewriteAll", fn := fun _ => fun
  | [d1, d2, d3] => { results := [.lit (.bool true)], args := [d1, d2, d3] }
  | _ => none }
def rewriteAllRow : OpenClaim := { program := "ytekboofbedakcaa", sum := "bcac2155b767314aae3ee06ea41df742aa4a61d2a19fad15c3f7a70a80dece6f", func := "sorites/soriteslaw17.RewriteAll", spec := "rewriteAll", unfollowed := true, recurses := true, loops := true, apart := false }
def RewriteAllSaid : Prop := rewriteAllRow.holds Try.pinned (OpenSpec.ofChange rewriteAllSpec)

/-- ITS FALSE NEIGHBOUR: 'it returns false'. Refute it at one input. -/
def rewriteAllWrong : ChangeSpec := { name := "rewriteAll", fn := fun _ => fun
  | [d1, d2, d3] => { results := [.lit (.bool false)], args := [d1, d2, d3] }
  | _ => none }
def RewriteAllWrongFalsely : Prop := rewriteAllRow.holds Try.pinned (OpenSpec.ofChange rewriteAllWrong)

/-- 'soriteslaw17.RewriteLess': WHATEVER THE INPUT: true; the input reads as it did. -/
def rewriteLessSpec : ChangeSpec := { name := "rewriteLess", fn := fun _ => fun
  | [d1, d2] => { results := [.lit (.bool true)], args := [d1, d2] }
  | _ => none }
def rewriteLessRow : OpenClaim := { program := "ytekboofbedakcaa", sum := "bcac2155b767314aae3ee06ea41df742aa4a61d2a19fad15c3f7a70a80dece6f", func := "sorites/soriteslaw17.RewriteLess", spec := "rewriteLess", unfollowed := true, recurses := true, loops := true, apart := false }
def RewriteLessSaid : Prop := rewriteLessRow.holds Try.pinned (OpenSpec.ofChange rewriteLessSpec)

/-- ITS FALSE NEIGHBOUR: 'it returns false'. Refute it at one input. -/
def rewriteLessWrong : ChangeSpec := { name := "rewriteLess", fn := fun _ => fun
  | [d1, d2] => { results := [.lit (.bool false)], args := [d1, d2] }
  | _ => none }
def RewriteLessWrongFalsely : Prop := rewriteLessRow.holds Try.pinned (OpenSpec.ofChange rewriteLessWrong)

/-- 'soriteslaw17.RewriteNormal': WHATEVER THE INPUT: true; the input reads as it did. -/
def rewriteNormalSpec : ChangeSpec := { name := "rewriteNormal", fn := fun _ => fun
  | [d1, d2] => { results := [.lit (.bool true)], args := [d1, d2] }
  | _ => none }
def rewriteNormalRow : OpenClaim := { program := "ytekboofbedakcaa", sum := "bcac2155b767314aae3ee06ea41df742aa4a61d2a19fad15c3f7a70a80dece6f", func := "sorites/soriteslaw17.RewriteNormal", spec := "rewriteNormal", unfollowed := true, recurses := true, loops := true, apart := false }
def RewriteNormalSaid : Prop := rewriteNormalRow.holds Try.pinned (OpenSpec.ofChange rewriteNormalSpec)

/-- ITS FALSE NEIGHBOUR: 'it returns false'. Refute it at one input. -/
def rewriteNormalWrong : ChangeSpec := { name := "rewriteNormal", fn := fun _ => fun
  | [d1, d2] => { results := [.lit (.bool false)], args := [d1, d2] }
  | _ => none }
def RewriteNormalWrongFalsely : Prop := rewriteNormalRow.holds Try.pinned (OpenSpec.ofChange rewriteNormalWrong)

/- THE SECOND FORM. 'bulk': how many values and letters a reading holds, each counted each time it is reached (what is shared counts as often as it is met; a slice's spare places count too). A statement '..UptoSaid' is the law's where the arguments, and the package variables that the reading takes, are together of bulk at most 1048576: NARROWER than '..Said'. Prove '..Said' where nothing that the law and all that it calls make is longer than what came in: it says more and counts as full. Else prove '..UptoSaid'. A law counts once. -/
mutual
def uptoBulk {H : Type} : DataW H → Nat
  | .lit (.string bytes) => bytes.length + 1
  | .lit _ => 1
  | .nil => 1
  | .ptr d => uptoBulk d + 1
  | .slice elems spare => uptoBulkAll elems + uptoBulkAll spare + 1
  | .agg parts => uptoBulkAll parts + 1
  | .iface _ d => uptoBulk d + 1
  | .map entries => uptoBulkEntries entries + 1
  | .held _ => 1
def uptoBulkAll {H : Type} : List (DataW H) → Nat
  | [] => 0
  | d :: r => uptoBulk d + uptoBulkAll r
def uptoBulkEntries {H : Type} : List (Lit × DataW H) → Nat
  | [] => 0
  | x :: r => uptoBulkEntry x + uptoBulkEntries r
def uptoBulkEntry {H : Type} : Lit × DataW H → Nat
  | (.string bytes, d) => bytes.length + uptoBulk d + 1
  | (_, d) => uptoBulk d + 1
 end
def uptoSmall : (H : Type) → List (DataW H) → Bool := fun _ ds => decide (uptoBulkAll ds ≤ 1048576)
def OpenSpec.upto (s : _root_.Go.ChangeSpec) : _root_.Go.OpenSpec := { _root_.Go.OpenSpec.ofChange s with cond := some uptoSmall }

/-- 'soriteslaw17.RewriteAll', WHERE WHAT IT READS IS OF BULK AT MOST 1048576: true; the input reads as it did. -/
def rewriteAllUptoRow : OpenClaim := { program := "ytekboofbedakcaa", sum := "bcac2155b767314aae3ee06ea41df742aa4a61d2a19fad15c3f7a70a80dece6f", func := "sorites/soriteslaw17.RewriteAll", spec := "rewriteAll", unfollowed := true, recurses := true, loops := true, apart := false, narrowed := true }
def RewriteAllUptoSaid : Prop := rewriteAllUptoRow.holds Try.pinned (OpenSpec.upto rewriteAllSpec)

/-- 'soriteslaw17.RewriteLess', WHERE WHAT IT READS IS OF BULK AT MOST 1048576: true; the input reads as it did. -/
def rewriteLessUptoRow : OpenClaim := { program := "ytekboofbedakcaa", sum := "bcac2155b767314aae3ee06ea41df742aa4a61d2a19fad15c3f7a70a80dece6f", func := "sorites/soriteslaw17.RewriteLess", spec := "rewriteLess", unfollowed := true, recurses := true, loops := true, apart := false, narrowed := true }
def RewriteLessUptoSaid : Prop := rewriteLessUptoRow.holds Try.pinned (OpenSpec.upto rewriteLessSpec)

/-- 'soriteslaw17.RewriteNormal', WHERE WHAT IT READS IS OF BULK AT MOST 1048576: true; the input reads as it did. -/
def rewriteNormalUptoRow : OpenClaim := { program := "ytekboofbedakcaa", sum := "bcac2155b767314aae3ee06ea41df742aa4a61d2a19fad15c3f7a70a80dece6f", func := "sorites/soriteslaw17.RewriteNormal", spec := "rewriteNormal", unfollowed := true, recurses := true, loops := true, apart := false, narrowed := true }
def RewriteNormalUptoSaid : Prop := rewriteNormalUptoRow.holds Try.pinned (OpenSpec.upto rewriteNormalSpec)

end Rows
end Go.Proofs.Ytekboofbedakcaa
