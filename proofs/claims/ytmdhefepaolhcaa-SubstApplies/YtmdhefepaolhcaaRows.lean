/-
  NARROWER THAN 'FOR EVERY INPUT', by the rows' own cells (each row's printed sentence says how): SubstApplies: loops · SubstThen: loops · SubstVariants: loops · SubstSizes: loops · SubstVars: loops · UnifyTells: loops.
  DERIVED. THE GIVEN ROWS OF THIS SEAT. 6 by the template 'for every input the law returns true; each argument reads behind the call as it read before'; 0 by the template 'total and deterministic' (their statements: YtmdhefepaolhcaaTotals.lean).
  GIVEN WITH THE SEED: the statements are not yours to turn. If you find one false, say at which input.
  Laid BY PROGRAM, IN A SANDBOX (cutbox-rows.mjs): the forced cells as the released guide's own fill.sh prints them over the translation 82fb3a88695b0a2f… (all of the seat's roots in one cut). By AI agents, Wed Nov 11 2026. No macro, syntax, notation, axiom, sorry.
-/
import Derived.Test.YtmdhefepaolhcaaChecked
import GoSem.Claim
import GoSem.ClaimJoined
import GoSem.ClaimMapViews
import Derived.JoinedTies
import Derived.KernelRfl
namespace Go.Proofs.Ytmdhefepaolhcaa
/- THE CELL 'sum', in the pinned program and in every row, IS THE sha256 OF THE DUMP (.gsa) THAT YtmdhefepaolhcaaProg.lean LOADS. Nothing in Lean hashes anything: it is a label: what it is worth is what the hold of that sum in a sandbox is worth. -/
noncomputable def Try.pinned : Pinned := { name := "ytmdhefepaolhcaa", sum := "82fb3a88695b0a2fd0469bcf813d91dba088aa69726e26f4c623c5834bf3bf6b", checked := Try.checked }
namespace Rows
def none {H : Type} : Left H := { results := [], args := [] }

/-- 'soriteslaw07.SubstApplies': WHATEVER THE INPUT: true; the input reads as it did. -/
def substAppliesSpec : ChangeSpec := { name := "substApplies", fn := fun _ => fun
  | [d1, d2, d3, d4] => { results := [.lit (.bool true)], args := [d1, d2, d3, d4] }
  | _ => none }
def substAppliesRow : OpenClaim := { program := "ytmdhefepaolhcaa", sum := "82fb3a88695b0a2fd0469bcf813d91dba088aa69726e26f4c623c5834bf3bf6b", func := "sorites/soriteslaw07.SubstApplies", spec := "substApplies", unfollowed := true, recurses := true, loops := true, apart := false }
def SubstAppliesSaid : Prop := substAppliesRow.holds Try.pinned (OpenSpec.ofChange substAppliesSpec)

/-- ITS FALSE NEIGHBOUR: 'it returns false'. Refute it at one input. -/
def substAppliesWrong : ChangeSpec := { name := "substApplies", fn := fun _ => fun
  | [d1, d2, d3, d4] => { results := [.lit (.bool false)], args := [d1, d2, d3, d4] }
  | _ => none }
def SubstAppliesWrongFalsely : Prop := substAppliesRow.holds Try.pinned (OpenSpec.ofChange substAppliesWrong)

/-- 'soriteslaw07.SubstThen': WHATEVER THE INPUT: true; the input reads as it did. -/
def substThenSpec : ChangeSpec := { name := "substThen", fn := fun _ => fun
  | [d1, d2, d3, d4] => { results := [.lit (.bool true)], args := [d1, d2, d3, d4] }
  | _ => none }
def substThenRow : OpenClaim := { program := "ytmdhefepaolhcaa", sum := "82fb3a88695b0a2fd0469bcf813d91dba088aa69726e26f4c623c5834bf3bf6b", func := "sorites/soriteslaw07.SubstThen", spec := "substThen", unfollowed := true, recurses := true, loops := true, apart := false }
def SubstThenSaid : Prop := substThenRow.holds Try.pinned (OpenSpec.ofChange substThenSpec)

/-- ITS FALSE NEIGHBOUR: 'it returns false'. Refute it at one input. -/
def substThenWrong : ChangeSpec := { name := "substThen", fn := fun _ => fun
  | [d1, d2, d3, d4] => { results := [.lit (.bool false)], args := [d1, d2, d3, d4] }
  | _ => none }
def SubstThenWrongFalsely : Prop := substThenRow.holds Try.pinned (OpenSpec.ofChange substThenWrong)

/-- 'soriteslaw07.SubstVariants': WHATEVER THE INPUT: true; the input reads as it did. -/
def substVariantsSpec : ChangeSpec := { name := "substVariants", fn := fun _ => fun
  | [d1, d2, d3, d4, d5] => { results := [.lit (.bool true)], args := [d1, d2, d3, d4, d5] }
  | _ => none }
def substVariantsRow : OpenClaim := { program := "ytmdhefepaolhcaa", sum := "82fb3a88695b0a2fd0469bcf813d91dba088aa69726e26f4c623c5834bf3bf6b", func := "sorites/soriteslaw07.SubstVariants", spec := "substVariants", unfollowed := true, recurses := true, loops := true, apart := false }
def SubstVariantsSaid : Prop := substVariantsRow.holds Try.pinned (OpenSpec.ofChange substVariantsSpec)

/-- ITS FALSE NEIGHBOUR: 'it returns false'. Refute it at one input. -/
def substVariantsWrong : ChangeSpec := { name := "substVariants", fn := fun _ => fun
  | [d1, d2, d3, d4, d5] => { results := [.lit (.bool false)], args := [d1, d2, d3, d4, d5] }
  | _ => none }
def SubstVariantsWrongFalsely : Prop := substVariantsRow.holds Try.pinned (OpenSpec.ofChange substVariantsWrong)

/-- 'soriteslaw07.SubstSizes': WHATEVER THE INPUT: true; the input reads as it did. -/
def substSizesSpec : ChangeSpec := { name := "substSizes", fn := fun _ => fun
  | [d1, d2, d3] => { results := [.lit (.bool true)], args := [d1, d2, d3] }
  | _ => none }
def substSizesRow : OpenClaim := { program := "ytmdhefepaolhcaa", sum := "82fb3a88695b0a2fd0469bcf813d91dba088aa69726e26f4c623c5834bf3bf6b", func := "sorites/soriteslaw07.SubstSizes", spec := "substSizes", unfollowed := true, recurses := true, loops := true, apart := false }
def SubstSizesSaid : Prop := substSizesRow.holds Try.pinned (OpenSpec.ofChange substSizesSpec)

/-- ITS FALSE NEIGHBOUR: 'it returns false'. Refute it at one input. -/
def substSizesWrong : ChangeSpec := { name := "substSizes", fn := fun _ => fun
  | [d1, d2, d3] => { results := [.lit (.bool false)], args := [d1, d2, d3] }
  | _ => none }
def SubstSizesWrongFalsely : Prop := substSizesRow.holds Try.pinned (OpenSpec.ofChange substSizesWrong)

/-- 'soriteslaw07.SubstVars': WHATEVER THE INPUT: true; the input reads as it did. -/
def substVarsSpec : ChangeSpec := { name := "substVars", fn := fun _ => fun
  | [d1, d2, d3] => { results := [.lit (.bool true)], args := [d1, d2, d3] }
  | _ => none }
def substVarsRow : OpenClaim := { program := "ytmdhefepaolhcaa", sum := "82fb3a88695b0a2fd0469bcf813d91dba088aa69726e26f4c623c5834bf3bf6b", func := "sorites/soriteslaw07.SubstVars", spec := "substVars", unfollowed := true, recurses := true, loops := true, apart := false }
def SubstVarsSaid : Prop := substVarsRow.holds Try.pinned (OpenSpec.ofChange substVarsSpec)

/-- ITS FALSE NEIGHBOUR: 'it returns false'. Refute it at one input. -/
def substVarsWrong : ChangeSpec := { name := "substVars", fn := fun _ => fun
  | [d1, d2, d3] => { results := [.lit (.bool false)], args := [d1, d2, d3] }
  | _ => none }
def SubstVarsWrongFalsely : Prop := substVarsRow.holds Try.pinned (OpenSpec.ofChange substVarsWrong)

/-- 'soriteslaw08.UnifyTells': WHATEVER THE INPUT: true; the input reads as it did. -/
def unifyTellsSpec : ChangeSpec := { name := "unifyTells", fn := fun _ => fun
  | [d1, d2, d3, d4] => { results := [.lit (.bool true)], args := [d1, d2, d3, d4] }
  | _ => none }
def unifyTellsRow : OpenClaim := { program := "ytmdhefepaolhcaa", sum := "82fb3a88695b0a2fd0469bcf813d91dba088aa69726e26f4c623c5834bf3bf6b", func := "sorites/soriteslaw08.UnifyTells", spec := "unifyTells", unfollowed := true, recurses := true, loops := true, apart := false }
def UnifyTellsSaid : Prop := unifyTellsRow.holds Try.pinned (OpenSpec.ofChange unifyTellsSpec)

/-- ITS FALSE NEIGHBOUR: 'it returns false'. Refute it at one input. -/
def unifyTellsWrong : ChangeSpec := { name := "unifyTells", fn := fun _ => fun
  | [d1, d2, d3, d4] => { results := [.lit (.bool false)], args := [d1, d2, d3, d4] }
  | _ => none }
def UnifyTellsWrongFalsely : Prop := unifyTellsRow.holds Try.pinned (OpenSpec.ofChange unifyTellsWrong)

/- THE SECOND FORM. 'bulk': how many values and letters a reading holds, each counted each time it is reached (what is shared counts as often as it is met; a slice's spare places count too). A statement '..UptoSaid' is the law's where the arguments, and the package variables that the reading takes, are together of bulk at most 1048576: NARROWER than '..Said'. Prove '..Said' where nothing that the law and all that it calls make is longer than what came in: it says more and counts as full. Else prove '..UptoSaid'. A law counts once. -/
mutual
def uptoBulk {H : Type} : DataW H → Nat
  | .lit (.string bytes) => bytes.length + 1
  | .lit _ => 1
  | .nil => 1
  | .ptr d => uptoBulk d + 1
  | .slice elems spare => uptoBulkAll elems + uptoBulkAll spare + 1
  | .agg parts => uptoBulkAll parts + 1
  | .iface _ d => uptoBulk d + 1
  | .map entries => uptoBulkEntries entries + 1
  | .held _ => 1
def uptoBulkAll {H : Type} : List (DataW H) → Nat
  | [] => 0
  | d :: r => uptoBulk d + uptoBulkAll r
def uptoBulkEntries {H : Type} : List (Lit × DataW H) → Nat
  | [] => 0
  | x :: r => uptoBulkEntry x + uptoBulkEntries r
def uptoBulkEntry {H : Type} : Lit × DataW H → Nat
  | (.string bytes, d) => bytes.length + uptoBulk d + 1
  | (_, d) => uptoBulk d + 1
 end
def uptoSmall : (H : Type) → List (DataW H) → Bool := fun _ ds => decide (uptoBulkAll ds ≤ 1048576)
def OpenSpec.upto (s : _root_.Go.ChangeSpec) : _root_.Go.OpenSpec := { _root_.Go.OpenSpec.ofChange s with cond := some uptoSmall }

/-- 'soriteslaw07.SubstApplies', WHERE WHAT IT READS IS OF BULK AT MOST 1048576: true; the input reads as it did. -/
def substAppliesUptoRow : OpenClaim := { program := "ytmdhefepaolhcaa", sum := "82fb3a88695b0a2fd0469bcf813d91dba088aa69726e26f4c623c5834bf3bf6b", func := "sorites/soriteslaw07.SubstApplies", spec := "substApplies", unfollowed := true, recurses := true, loops := true, apart := false, narrowed := true }
def SubstAppliesUptoSaid : Prop := substAppliesUptoRow.holds Try.pinned (OpenSpec.upto substAppliesSpec)

/-- 'soriteslaw07.SubstThen', WHERE WHAT IT READS IS OF BULK AT MOST 1048576: true; the input reads as it did. -/
def substThenUptoRow : OpenClaim := { program := "ytmdhefepaolhcaa", sum := "82fb3a88695b0a2fd0469bcf813d91dba088aa69726e26f4c623c5834bf3bf6b", func := "sorites/soriteslaw07.SubstThen", spec := "substThen", unfollowed := true, recurses := true, loops := true, apart := false, narrowed := true }
def SubstThenUptoSaid : Prop := substThenUptoRow.holds Try.pinned (OpenSpec.upto substThenSpec)

/-- 'soriteslaw07.SubstVariants', WHERE WHAT IT READS IS OF BULK AT MOST 1048576: true; the input reads as it did. -/
def substVariantsUptoRow : OpenClaim := { program := "ytmdhefepaolhcaa", sum := "82fb3a88695b0a2fd0469bcf813d91dba088aa69726e26f4c623c5834bf3bf6b", func := "sorites/soriteslaw07.SubstVariants", spec := "substVariants", unfollowed := true, recurses := true, loops := true, apart := false, narrowed := true }
def SubstVariantsUptoSaid : Prop := substVariantsUptoRow.holds Try.pinned (OpenSpec.upto substVariantsSpec)

/-- 'soriteslaw07.SubstSizes', WHERE WHAT IT READS IS OF BULK AT MOST 1048576: true; the input reads as it did. -/
def substSizesUptoRow : OpenClaim := { program := "ytmdhefepaolhcaa", sum := "82fb3a88695b0a2fd0469bcf813d91dba088aa69726e26f4c623c5834bf3bf6b", func := "sorites/soriteslaw07.SubstSizes", spec := "substSizes", unfollowed := true, recurses := true, loops := true, apart := false, narrowed := true }
def SubstSizesUptoSaid : Prop := substSizesUptoRow.holds Try.pinned (OpenSpec.upto substSizesSpec)

/-- 'soriteslaw07.SubstVars', WHERE WHAT IT READS IS OF BULK AT MOST 1048576: true; the input reads as it did. -/
def substVarsUptoRow : OpenClaim := { program := "ytmdhefepaolhcaa", sum := "82fb3a88695b0a2fd0469bcf813d91dba088aa69726e26f4c623c5834bf3bf6b", func := "sorites/soriteslaw07.SubstVars", spec := "substVars", unfollowed := true, recurses := true, loops := true, apart := false, narrowed := true }
def SubstVarsUptoSaid : Prop := substVarsUptoRow.holds Try.pinned (OpenSpec.upto substVarsSpec)

/-- 'soriteslaw08.UnifyTells', WHERE WHAT IT READS IS OF BULK AT MOST 1048576: true; the input reads as it did. -/
def unifyTellsUptoRow : OpenClaim := { program := "ytmdhefepaolhcaa", sum := "82fb3a88695b0a2fd0469bcf813d91dba088aa69726e26f4c623c5834bf3bf6b", func := "sorites/soriteslaw08.UnifyTells", spec := "unifyTells", unfollowed := true, recurses := true, loops := true, apart := false, narrowed := true }
def UnifyTellsUptoSaid : Prop := unifyTellsUptoRow.holds Try.pinned (OpenSpec.upto unifyTellsSpec)

end Rows
end Go.Proofs.Ytmdhefepaolhcaa
