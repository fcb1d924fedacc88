/-
  NARROWER THAN 'FOR EVERY INPUT', by the rows' own cells (each row's printed sentence says how): MatchParts: loops · MatchBack: loops · MatchUnify: loops · MatchPlaces: loops.
  DERIVED. THE GIVEN ROWS OF THIS SEAT. 4 by the template 'for every input the law returns true; each argument reads behind the call as it read before'; 0 by the template 'total and deterministic' (their statements: YtgmllfjidhbjjabTotals.lean).
  GIVEN WITH THE SEED: the statements are not yours to turn. If you find one false, say at which input.
  Laid BY PROGRAM, IN A SANDBOX (cutbox-rows.mjs): the forced cells as the released guide's own fill.sh prints them over the translation 460a50212c1a89eb… (all of the seat's roots in one cut). By AI agents, Wed Nov 11 2026. No macro, syntax, notation, axiom, sorry.
-/
import Derived.Test.YtgmllfjidhbjjabChecked
import GoSem.Claim
import GoSem.ClaimJoined
import GoSem.ClaimMapViews
import Derived.JoinedTies
import Derived.KernelRfl
namespace Go.Proofs.Ytgmllfjidhbjjab
/- THE CELL 'sum', in the pinned program and in every row, IS THE sha256 OF THE DUMP (.gsa) THAT YtgmllfjidhbjjabProg.lean LOADS. Nothing in Lean hashes anything: it is a label: what it is worth is what the hold of that sum in a sandbox is worth. -/
noncomputable def Try.pinned : Pinned := { name := "ytgmllfjidhbjjab", sum := "460a50212c1a89eb2fe759fd6551fb0158b703e1a5e6365c4e723bf921172c40", checked := Try.checked }
namespace Rows
def none {H : Type} : Left H := { results := [], args := [] }

/-- 'soriteslaw09.MatchParts': WHATEVER THE INPUT: true; the input reads as it did. -/
def matchPartsSpec : ChangeSpec := { name := "matchParts", fn := fun _ => fun
  | [d1, d2] => { results := [.lit (.bool true)], args := [d1, d2] }
  | _ => none }
def matchPartsRow : OpenClaim := { program := "ytgmllfjidhbjjab", sum := "460a50212c1a89eb2fe759fd6551fb0158b703e1a5e6365c4e723bf921172c40", func := "sorites/soriteslaw09.MatchParts", spec := "matchParts", unfollowed := true, recurses := true, loops := true, apart := false }
def MatchPartsSaid : Prop := matchPartsRow.holds Try.pinned (OpenSpec.ofChange matchPartsSpec)

/-- ITS FALSE NEIGHBOUR: 'it returns false'. Refute it at one input. -/
def matchPartsWrong : ChangeSpec := { name := "matchParts", fn := fun _ => fun
  | [d1, d2] => { results := [.lit (.bool false)], args := [d1, d2] }
  | _ => none }
def MatchPartsWrongFalsely : Prop := matchPartsRow.holds Try.pinned (OpenSpec.ofChange matchPartsWrong)

/-- 'soriteslaw09.MatchBack': WHATEVER THE INPUT: true; the input reads as it did. -/
def matchBackSpec : ChangeSpec := { name := "matchBack", fn := fun _ => fun
  | [d1, d2, d3] => { results := [.lit (.bool true)], args := [d1, d2, d3] }
  | _ => none }
def matchBackRow : OpenClaim := { program := "ytgmllfjidhbjjab", sum := "460a50212c1a89eb2fe759fd6551fb0158b703e1a5e6365c4e723bf921172c40", func := "sorites/soriteslaw09.MatchBack", spec := "matchBack", unfollowed := true, recurses := true, loops := true, apart := false }
def MatchBackSaid : Prop := matchBackRow.holds Try.pinned (OpenSpec.ofChange matchBackSpec)

/-- ITS FALSE NEIGHBOUR: 'it returns false'. Refute it at one input. -/
def matchBackWrong : ChangeSpec := { name := "matchBack", fn := fun _ => fun
  | [d1, d2, d3] => { results := [.lit (.bool false)], args := [d1, d2, d3] }
  | _ => none }
def MatchBackWrongFalsely : Prop := matchBackRow.holds Try.pinned (OpenSpec.ofChange matchBackWrong)

/-- 'soriteslaw09.MatchUnify': WHATEVER THE INPUT: true; the input reads as it did. -/
def matchUnifySpec : ChangeSpec := { name := "matchUnify", fn := fun _ => fun
  | [d1, d2, d3] => { results := [.lit (.bool true)], args := [d1, d2, d3] }
  | _ => none }
def matchUnifyRow : OpenClaim := { program := "ytgmllfjidhbjjab", sum := "460a50212c1a89eb2fe759fd6551fb0158b703e1a5e6365c4e723bf921172c40", func := "sorites/soriteslaw09.MatchUnify", spec := "matchUnify", unfollowed := true, recurses := true, loops := true, apart := false }
def MatchUnifySaid : Prop := matchUnifyRow.holds Try.pinned (OpenSpec.ofChange matchUnifySpec)

/-- ITS FALSE NEIGHBOUR: 'it returns false'. Refute it at one input. -/
def matchUnifyWrong : ChangeSpec := { name := "matchUnify", fn := fun _ => fun
  | [d1, d2, d3] => { results := [.lit (.bool false)], args := [d1, d2, d3] }
  | _ => none }
def MatchUnifyWrongFalsely : Prop := matchUnifyRow.holds Try.pinned (OpenSpec.ofChange matchUnifyWrong)

/-- 'soriteslaw09.MatchPlaces': WHATEVER THE INPUT: true; the input reads as it did. -/
def matchPlacesSpec : ChangeSpec := { name := "matchPlaces", fn := fun _ => fun
  | [d1, d2, d3] => { results := [.lit (.bool true)], args := [d1, d2, d3] }
  | _ => none }
def matchPlacesRow : OpenClaim := { program := "ytgmllfjidhbjjab", sum := "460a50212c1a89eb2fe759fd6551fb0158b703e1a5e6365c4e723bf921172c40", func := "sorites/soriteslaw09.MatchPlaces", spec := "matchPlaces", unfollowed := true, recurses := true, loops := true, apart := false }
def MatchPlacesSaid : Prop := matchPlacesRow.holds Try.pinned (OpenSpec.ofChange matchPlacesSpec)

/-- ITS FALSE NEIGHBOUR: 'it returns false'. Refute it at one input. -/
def matchPlacesWrong : ChangeSpec := { name := "matchPlaces", fn := fun _ => fun
  | [d1, d2, d3] => { results := [.lit (.bool false)], args := [d1, d2, d3] }
  | _ => none }
def MatchPlacesWrongFalsely : Prop := matchPlacesRow.holds Try.pinned (OpenSpec.ofChange matchPlacesWrong)

/- THE SECOND FORM. 'bulk': how many values and letters a reading holds, each counted each time it is reached (what is shared counts as often as it is met; a slice's spare places count too). A statement '..UptoSaid' is the law's where the arguments, and the package variables that the reading takes, are together of bulk at most 1048576: NARROWER than '..Said'. Prove '..Said' where nothing that the law and all that it calls make is longer than what came in: it says more and counts as full. Else prove '..UptoSaid'. A law counts once. -/
mutual
def uptoBulk {H : Type} : DataW H → Nat
  | .lit (.string bytes) => bytes.length + 1
  | .lit _ => 1
  | .nil => 1
  | .ptr d => uptoBulk d + 1
  | .slice elems spare => uptoBulkAll elems + uptoBulkAll spare + 1
  | .agg parts => uptoBulkAll parts + 1
  | .iface _ d => uptoBulk d + 1
  | .map entries => uptoBulkEntries entries + 1
  | .held _ => 1
def uptoBulkAll {H : Type} : List (DataW H) → Nat
  | [] => 0
  | d :: r => uptoBulk d + uptoBulkAll r
def uptoBulkEntries {H : Type} : List (Lit × DataW H) → Nat
  | [] => 0
  | x :: r => uptoBulkEntry x + uptoBulkEntries r
def uptoBulkEntry {H : Type} : Lit × DataW H → Nat
  | (.string bytes, d) => bytes.length + uptoBulk d + 1
  | (_, d) => uptoBulk d + 1
 end
def uptoSmall : (H : Type) → List (DataW H) → Bool := fun _ ds => decide (uptoBulkAll ds ≤ 1048576)
def OpenSpec.upto (s : _root_.Go.ChangeSpec) : _root_.Go.OpenSpec := { _root_.Go.OpenSpec.ofChange s with cond := some uptoSmall }

/-- 'soriteslaw09.MatchParts', WHERE WHAT IT READS IS OF BULK AT MOST 1048576: true; the input reads as it did. -/
def matchPartsUptoRow : OpenClaim := { program := "ytgmllfjidhbjjab", sum := "460a50212c1a89eb2fe759fd6551fb0158b703e1a5e6365c4e723bf921172c40", func := "sorites/soriteslaw09.MatchParts", spec := "matchParts", unfollowed := true, recurses := true, loops := true, apart := false, narrowed := true }
def MatchPartsUptoSaid : Prop := matchPartsUptoRow.holds Try.pinned (OpenSpec.upto matchPartsSpec)

/-- 'soriteslaw09.MatchBack', WHERE WHAT IT READS IS OF BULK AT MOST 1048576: true; the input reads as it did. -/
def matchBackUptoRow : OpenClaim := { program := "ytgmllfjidhbjjab", sum := "460a50212c1a89eb2fe759fd6551fb0158b703e1a5e6365c4e723bf921172c40", func := "sorites/soriteslaw09.MatchBack", spec := "matchBack", unfollowed := true, recurses := true, loops := true, apart := false, narrowed := true }
def MatchBackUptoSaid : Prop := matchBackUptoRow.holds Try.pinned (OpenSpec.upto matchBackSpec)

/-- 'soriteslaw09.MatchUnify', WHERE WHAT IT READS IS OF BULK AT MOST 1048576: true; the input reads as it did. -/
def matchUnifyUptoRow : OpenClaim := { program := "ytgmllfjidhbjjab", sum := "460a50212c1a89eb2fe759fd6551fb0158b703e1a5e6365c4e723bf921172c40", func := "sorites/soriteslaw09.MatchUnify", spec := "matchUnify", unfollowed := true, recurses := true, loops := true, apart := false, narrowed := true }
def MatchUnifyUptoSaid : Prop := matchUnifyUptoRow.holds Try.pinned (OpenSpec.upto matchUnifySpec)

/-- 'soriteslaw09.MatchPlaces', WHERE WHAT IT READS IS OF BULK AT MOST 1048576: true; the input reads as it did. -/
def matchPlacesUptoRow : OpenClaim := { program := "ytgmllfjidhbjjab", sum := "460a50212c1a89eb2fe759fd6551fb0158b703e1a5e6365c4e723bf921172c40", func := "sorites/soriteslaw09.MatchPlaces", spec := "matchPlaces", unfollowed := true, recurses := true, loops := true, apart := false, narrowed := true }
def MatchPlacesUptoSaid : Prop := matchPlacesUptoRow.holds Try.pinned (OpenSpec.upto matchPlacesSpec)

end Rows
end Go.Proofs.Ytgmllfjidhbjjab
