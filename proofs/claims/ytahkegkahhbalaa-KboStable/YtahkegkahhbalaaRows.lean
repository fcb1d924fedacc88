/-
  NARROWER THAN 'FOR EVERY INPUT', by the rows' own cells (each row's printed sentence says how): KboTells: loops · KboRules: loops · KboStable: loops · KboTotal: loops · KboSizes: loops · KboPlaces: loops.
  DERIVED. THE GIVEN ROWS OF THIS SEAT. 6 by the template 'for every input the law returns true; each argument reads behind the call as it read before'; 0 by the template 'total and deterministic' (their statements: YtahkegkahhbalaaTotals.lean).
  GIVEN WITH THE SEED: the statements are not yours to turn. If you find one false, say at which input.
  Laid BY PROGRAM, IN A SANDBOX (cutbox-rows.mjs): the forced cells as the released guide's own fill.sh prints them over the translation bab5dc983c2a9cfb… (all of the seat's roots in one cut). By AI agents, Wed Nov 11 2026. No macro, syntax, notation, axiom, sorry.
-/
import Derived.Test.YtahkegkahhbalaaChecked
import GoSem.Claim
import GoSem.ClaimJoined
import GoSem.ClaimMapViews
import Derived.JoinedTies
import Derived.KernelRfl
namespace Go.Proofs.Ytahkegkahhbalaa
/- THE CELL 'sum', in the pinned program and in every row, IS THE sha256 OF THE DUMP (.gsa) THAT YtahkegkahhbalaaProg.lean LOADS. Nothing in Lean hashes anything: it is a label: what it is worth is what the hold of that sum in a sandbox is worth. -/
noncomputable def Try.pinned : Pinned := { name := "ytahkegkahhbalaa", sum := "bab5dc983c2a9cfbab31a4ba545b7c0f0bddf4c5eebd242bf717907df8929c60", checked := Try.checked }
namespace Rows
def none {H : Type} : Left H := { results := [], args := [] }

/-- 'soriteslaw10.KboTells': WHATEVER THE INPUT: true; the input reads as it did. -/
def kboTellsSpec : ChangeSpec := { name := "kboTells", fn := fun _ => fun
  | [d1, d2] => { results := [.lit (.bool true)], args := [d1, d2] }
  | _ => none }
def kboTellsRow : OpenClaim := { program := "ytahkegkahhbalaa", sum := "bab5dc983c2a9cfbab31a4ba545b7c0f0bddf4c5eebd242bf717907df8929c60", func := "sorites/soriteslaw10.KboTells", spec := "kboTells", recurses := true, loops := true, apart := false }
def KboTellsSaid : Prop := kboTellsRow.holds Try.pinned (OpenSpec.ofChange kboTellsSpec)

/-- ITS FALSE NEIGHBOUR: 'it returns false'. Refute it at one input. -/
def kboTellsWrong : ChangeSpec := { name := "kboTells", fn := fun _ => fun
  | [d1, d2] => { results := [.lit (.bool false)], args := [d1, d2] }
  | _ => none }
def KboTellsWrongFalsely : Prop := kboTellsRow.holds Try.pinned (OpenSpec.ofChange kboTellsWrong)

/-- 'soriteslaw10.KboRules': WHATEVER THE INPUT: true; the input reads as it did. -/
def kboRulesSpec : ChangeSpec := { name := "kboRules", fn := fun _ => fun
  | [d1, d2, d3] => { results := [.lit (.bool true)], args := [d1, d2, d3] }
  | _ => none }
def kboRulesRow : OpenClaim := { program := "ytahkegkahhbalaa", sum := "bab5dc983c2a9cfbab31a4ba545b7c0f0bddf4c5eebd242bf717907df8929c60", func := "sorites/soriteslaw10.KboRules", spec := "kboRules", recurses := true, loops := true, apart := false }
def KboRulesSaid : Prop := kboRulesRow.holds Try.pinned (OpenSpec.ofChange kboRulesSpec)

/-- ITS FALSE NEIGHBOUR: 'it returns false'. Refute it at one input. -/
def kboRulesWrong : ChangeSpec := { name := "kboRules", fn := fun _ => fun
  | [d1, d2, d3] => { results := [.lit (.bool false)], args := [d1, d2, d3] }
  | _ => none }
def KboRulesWrongFalsely : Prop := kboRulesRow.holds Try.pinned (OpenSpec.ofChange kboRulesWrong)

/-- 'soriteslaw10.KboStable': WHATEVER THE INPUT: true; the input reads as it did. -/
def kboStableSpec : ChangeSpec := { name := "kboStable", fn := fun _ => fun
  | [d1, d2, d3, d4, d5] => { results := [.lit (.bool true)], args := [d1, d2, d3, d4, d5] }
  | _ => none }
def kboStableRow : OpenClaim := { program := "ytahkegkahhbalaa", sum := "bab5dc983c2a9cfbab31a4ba545b7c0f0bddf4c5eebd242bf717907df8929c60", func := "sorites/soriteslaw10.KboStable", spec := "kboStable", unfollowed := true, recurses := true, loops := true, apart := false }
def KboStableSaid : Prop := kboStableRow.holds Try.pinned (OpenSpec.ofChange kboStableSpec)

/-- ITS FALSE NEIGHBOUR: 'it returns false'. Refute it at one input. -/
def kboStableWrong : ChangeSpec := { name := "kboStable", fn := fun _ => fun
  | [d1, d2, d3, d4, d5] => { results := [.lit (.bool false)], args := [d1, d2, d3, d4, d5] }
  | _ => none }
def KboStableWrongFalsely : Prop := kboStableRow.holds Try.pinned (OpenSpec.ofChange kboStableWrong)

/-- 'soriteslaw10.KboTotal': WHATEVER THE INPUT: true; the input reads as it did. -/
def kboTotalSpec : ChangeSpec := { name := "kboTotal", fn := fun _ => fun
  | [d1, d2] => { results := [.lit (.bool true)], args := [d1, d2] }
  | _ => none }
def kboTotalRow : OpenClaim := { program := "ytahkegkahhbalaa", sum := "bab5dc983c2a9cfbab31a4ba545b7c0f0bddf4c5eebd242bf717907df8929c60", func := "sorites/soriteslaw10.KboTotal", spec := "kboTotal", unfollowed := true, recurses := true, loops := true, apart := false }
def KboTotalSaid : Prop := kboTotalRow.holds Try.pinned (OpenSpec.ofChange kboTotalSpec)

/-- ITS FALSE NEIGHBOUR: 'it returns false'. Refute it at one input. -/
def kboTotalWrong : ChangeSpec := { name := "kboTotal", fn := fun _ => fun
  | [d1, d2] => { results := [.lit (.bool false)], args := [d1, d2] }
  | _ => none }
def KboTotalWrongFalsely : Prop := kboTotalRow.holds Try.pinned (OpenSpec.ofChange kboTotalWrong)

/-- 'soriteslaw10.KboSizes': WHATEVER THE INPUT: true; the input reads as it did. -/
def kboSizesSpec : ChangeSpec := { name := "kboSizes", fn := fun _ => fun
  | [d1, d2, d3] => { results := [.lit (.bool true)], args := [d1, d2, d3] }
  | _ => none }
def kboSizesRow : OpenClaim := { program := "ytahkegkahhbalaa", sum := "bab5dc983c2a9cfbab31a4ba545b7c0f0bddf4c5eebd242bf717907df8929c60", func := "sorites/soriteslaw10.KboSizes", spec := "kboSizes", unfollowed := true, recurses := true, loops := true, apart := false }
def KboSizesSaid : Prop := kboSizesRow.holds Try.pinned (OpenSpec.ofChange kboSizesSpec)

/-- ITS FALSE NEIGHBOUR: 'it returns false'. Refute it at one input. -/
def kboSizesWrong : ChangeSpec := { name := "kboSizes", fn := fun _ => fun
  | [d1, d2, d3] => { results := [.lit (.bool false)], args := [d1, d2, d3] }
  | _ => none }
def KboSizesWrongFalsely : Prop := kboSizesRow.holds Try.pinned (OpenSpec.ofChange kboSizesWrong)

/-- 'soriteslaw10.KboPlaces': WHATEVER THE INPUT: true; the input reads as it did. -/
def kboPlacesSpec : ChangeSpec := { name := "kboPlaces", fn := fun _ => fun
  | [d1, d2, d3] => { results := [.lit (.bool true)], args := [d1, d2, d3] }
  | _ => none }
def kboPlacesRow : OpenClaim := { program := "ytahkegkahhbalaa", sum := "bab5dc983c2a9cfbab31a4ba545b7c0f0bddf4c5eebd242bf717907df8929c60", func := "sorites/soriteslaw10.KboPlaces", spec := "kboPlaces", recurses := true, loops := true, apart := false }
def KboPlacesSaid : Prop := kboPlacesRow.holds Try.pinned (OpenSpec.ofChange kboPlacesSpec)

/-- ITS FALSE NEIGHBOUR: 'it returns false'. Refute it at one input. -/
def kboPlacesWrong : ChangeSpec := { name := "kboPlaces", fn := fun _ => fun
  | [d1, d2, d3] => { results := [.lit (.bool false)], args := [d1, d2, d3] }
  | _ => none }
def KboPlacesWrongFalsely : Prop := kboPlacesRow.holds Try.pinned (OpenSpec.ofChange kboPlacesWrong)

/- THE SECOND FORM. 'bulk': how many values and letters a reading holds, each counted each time it is reached (what is shared counts as often as it is met; a slice's spare places count too). A statement '..UptoSaid' is the law's where the arguments, and the package variables that the reading takes, are together of bulk at most 1048576: NARROWER than '..Said'. Prove '..Said' where nothing that the law and all that it calls make is longer than what came in: it says more and counts as full. Else prove '..UptoSaid'. A law counts once. -/
mutual
def uptoBulk {H : Type} : DataW H → Nat
  | .lit (.string bytes) => bytes.length + 1
  | .lit _ => 1
  | .nil => 1
  | .ptr d => uptoBulk d + 1
  | .slice elems spare => uptoBulkAll elems + uptoBulkAll spare + 1
  | .agg parts => uptoBulkAll parts + 1
  | .iface _ d => uptoBulk d + 1
  | .map entries => uptoBulkEntries entries + 1
  | .held _ => 1
def uptoBulkAll {H : Type} : List (DataW H) → Nat
  | [] => 0
  | d :: r => uptoBulk d + uptoBulkAll r
def uptoBulkEntries {H : Type} : List (Lit × DataW H) → Nat
  | [] => 0
  | x :: r => uptoBulkEntry x + uptoBulkEntries r
def uptoBulkEntry {H : Type} : Lit × DataW H → Nat
  | (.string bytes, d) => bytes.length + uptoBulk d + 1
  | (_, d) => uptoBulk d + 1
 end
def uptoSmall : (H : Type) → List (DataW H) → Bool := fun _ ds => decide (uptoBulkAll ds ≤ 1048576)
def OpenSpec.upto (s : _root_.Go.ChangeSpec) : _root_.Go.OpenSpec := { _root_.Go.OpenSpec.ofChange s with cond := some uptoSmall }

/-- 'soriteslaw10.KboTells', WHERE WHAT IT READS IS OF BULK AT MOST 1048576: true; the input reads as it did. -/
def kboTellsUptoRow : OpenClaim := { program := "ytahkegkahhbalaa", sum := "bab5dc983c2a9cfbab31a4ba545b7c0f0bddf4c5eebd242bf717907df8929c60", func := "sorites/soriteslaw10.KboTells", spec := "kboTells", recurses := true, loops := true, apart := false, narrowed := true }
def KboTellsUptoSaid : Prop := kboTellsUptoRow.holds Try.pinned (OpenSpec.upto kboTellsSpec)

/-- 'soriteslaw10.KboRules', WHERE WHAT IT READS IS OF BULK AT MOST 1048576: true; the input reads as it did. -/
def kboRulesUptoRow : OpenClaim := { program := "ytahkegkahhbalaa", sum := "bab5dc983c2a9cfbab31a4ba545b7c0f0bddf4c5eebd242bf717907df8929c60", func := "sorites/soriteslaw10.KboRules", spec := "kboRules", recurses := true, loops := true, apart := false, narrowed := true }
def KboRulesUptoSaid : Prop := kboRulesUptoRow.holds Try.pinned (OpenSpec.upto kboRulesSpec)

/-- 'soriteslaw10.KboStable', WHERE WHAT IT READS IS OF BULK AT MOST 1048576: true; the input reads as it did. -/
def kboStableUptoRow : OpenClaim := { program := "ytahkegkahhbalaa", sum := "bab5dc983c2a9cfbab31a4ba545b7c0f0bddf4c5eebd242bf717907df8929c60", func := "sorites/soriteslaw10.KboStable", spec := "kboStable", unfollowed := true, recurses := true, loops := true, apart := false, narrowed := true }
def KboStableUptoSaid : Prop := kboStableUptoRow.holds Try.pinned (OpenSpec.upto kboStableSpec)

/-- 'soriteslaw10.KboTotal', WHERE WHAT IT READS IS OF BULK AT MOST 1048576: true; the input reads as it did. -/
def kboTotalUptoRow : OpenClaim := { program := "ytahkegkahhbalaa", sum := "bab5dc983c2a9cfbab31a4ba545b7c0f0bddf4c5eebd242bf717907df8929c60", func := "sorites/soriteslaw10.KboTotal", spec := "kboTotal", unfollowed := true, recurses := true, loops := true, apart := false, narrowed := true }
def KboTotalUptoSaid : Prop := kboTotalUptoRow.holds Try.pinned (OpenSpec.upto kboTotalSpec)

/-- 'soriteslaw10.KboSizes', WHERE WHAT IT READS IS OF BULK AT MOST 1048576: true; the input reads as it did. -/
def kboSizesUptoRow : OpenClaim := { program := "ytahkegkahhbalaa", sum := "bab5dc983c2a9cfbab31a4ba545b7c0f0bddf4c5eebd242bf717907df8929c60", func := "sorites/soriteslaw10.KboSizes", spec := "kboSizes", unfollowed := true, recurses := true, loops := true, apart := false, narrowed := true }
def KboSizesUptoSaid : Prop := kboSizesUptoRow.holds Try.pinned (OpenSpec.upto kboSizesSpec)

/-- 'soriteslaw10.KboPlaces', WHERE WHAT IT READS IS OF BULK AT MOST 1048576: true; the input reads as it did. -/
def kboPlacesUptoRow : OpenClaim := { program := "ytahkegkahhbalaa", sum := "bab5dc983c2a9cfbab31a4ba545b7c0f0bddf4c5eebd242bf717907df8929c60", func := "sorites/soriteslaw10.KboPlaces", spec := "kboPlaces", recurses := true, loops := true, apart := false, narrowed := true }
def KboPlacesUptoSaid : Prop := kboPlacesUptoRow.holds Try.pinned (OpenSpec.upto kboPlacesSpec)

end Rows
end Go.Proofs.Ytahkegkahhbalaa
