/-
  NARROWER THAN 'FOR EVERY INPUT', by the rows' own cells (each row's printed sentence says how): OrderTells: loops · OrderLooks: loops · OrderRules: loops · OrderAtoms: loops · OrderMulti: loops.
  DERIVED. THE GIVEN ROWS OF THIS SEAT. 5 by the template 'for every input the law returns true; each argument reads behind the call as it read before'; 0 by the template 'total and deterministic' (their statements: YtglbohajmccehaaTotals.lean).
  GIVEN WITH THE SEED: the statements are not yours to turn. If you find one false, say at which input.
  Laid BY PROGRAM, IN A SANDBOX (cutbox-rows.mjs): the forced cells as the released guide's own fill.sh prints them over the translation 5b3d001e8ef197ac… (all of the seat's roots in one cut). By AI agents, Wed Nov 11 2026. No macro, syntax, notation, axiom, sorry.
-/
import Derived.Test.YtglbohajmccehaaChecked
import GoSem.Claim
import GoSem.ClaimJoined
import GoSem.ClaimMapViews
import Derived.JoinedTies
import Derived.KernelRfl
namespace Go.Proofs.Ytglbohajmccehaa
/- THE CELL 'sum', in the pinned program and in every row, IS THE sha256 OF THE DUMP (.gsa) THAT YtglbohajmccehaaProg.lean LOADS. Nothing in Lean hashes anything: it is a label: what it is worth is what the hold of that sum in a sandbox is worth. -/
noncomputable def Try.pinned : Pinned := { name := "ytglbohajmccehaa", sum := "5b3d001e8ef197aca96b2ec5ea166fcdf1619e82ad9e2be93eacd66c01d53d74", checked := Try.checked }
namespace Rows
def none {H : Type} : Left H := { results := [], args := [] }

/-- 'soriteslaw14.OrderTells': WHATEVER THE INPUT: true; the input reads as it did. -/
def orderTellsSpec : ChangeSpec := { name := "orderTells", fn := fun _ => fun
  | [d1, d2, d3] => { results := [.lit (.bool true)], args := [d1, d2, d3] }
  | _ => none }
def orderTellsRow : OpenClaim := { program := "ytglbohajmccehaa", sum := "5b3d001e8ef197aca96b2ec5ea166fcdf1619e82ad9e2be93eacd66c01d53d74", func := "sorites/soriteslaw14.OrderTells", spec := "orderTells", unfollowed := true, recurses := true, loops := true, apart := false }
def OrderTellsSaid : Prop := orderTellsRow.holds Try.pinned (OpenSpec.ofChange orderTellsSpec)

/-- ITS FALSE NEIGHBOUR: 'it returns false'. Refute it at one input. -/
def orderTellsWrong : ChangeSpec := { name := "orderTells", fn := fun _ => fun
  | [d1, d2, d3] => { results := [.lit (.bool false)], args := [d1, d2, d3] }
  | _ => none }
def OrderTellsWrongFalsely : Prop := orderTellsRow.holds Try.pinned (OpenSpec.ofChange orderTellsWrong)

/-- 'soriteslaw14.OrderLooks': WHATEVER THE INPUT: true; the input reads as it did. -/
def orderLooksSpec : ChangeSpec := { name := "orderLooks", fn := fun _ => fun
  | [d1, d2] => { results := [.lit (.bool true)], args := [d1, d2] }
  | _ => none }
def orderLooksRow : OpenClaim := { program := "ytglbohajmccehaa", sum := "5b3d001e8ef197aca96b2ec5ea166fcdf1619e82ad9e2be93eacd66c01d53d74", func := "sorites/soriteslaw14.OrderLooks", spec := "orderLooks", unfollowed := true, recurses := true, loops := true, apart := false }
def OrderLooksSaid : Prop := orderLooksRow.holds Try.pinned (OpenSpec.ofChange orderLooksSpec)

/-- ITS FALSE NEIGHBOUR: 'it returns false'. Refute it at one input. -/
def orderLooksWrong : ChangeSpec := { name := "orderLooks", fn := fun _ => fun
  | [d1, d2] => { results := [.lit (.bool false)], args := [d1, d2] }
  | _ => none }
def OrderLooksWrongFalsely : Prop := orderLooksRow.holds Try.pinned (OpenSpec.ofChange orderLooksWrong)

/-- 'soriteslaw14.OrderRules': WHATEVER THE INPUT: true; the input reads as it did. -/
def orderRulesSpec : ChangeSpec := { name := "orderRules", fn := fun _ => fun
  | [d1, d2] => { results := [.lit (.bool true)], args := [d1, d2] }
  | _ => none }
def orderRulesRow : OpenClaim := { program := "ytglbohajmccehaa", sum := "5b3d001e8ef197aca96b2ec5ea166fcdf1619e82ad9e2be93eacd66c01d53d74", func := "sorites/soriteslaw14.OrderRules", spec := "orderRules", unfollowed := true, recurses := true, loops := true, apart := false }
def OrderRulesSaid : Prop := orderRulesRow.holds Try.pinned (OpenSpec.ofChange orderRulesSpec)

/-- ITS FALSE NEIGHBOUR: 'it returns false'. Refute it at one input. -/
def orderRulesWrong : ChangeSpec := { name := "orderRules", fn := fun _ => fun
  | [d1, d2] => { results := [.lit (.bool false)], args := [d1, d2] }
  | _ => none }
def OrderRulesWrongFalsely : Prop := orderRulesRow.holds Try.pinned (OpenSpec.ofChange orderRulesWrong)

/-- 'soriteslaw14.OrderAtoms': WHATEVER THE INPUT: true; the input reads as it did. -/
def orderAtomsSpec : ChangeSpec := { name := "orderAtoms", fn := fun _ => fun
  | [d1, d2] => { results := [.lit (.bool true)], args := [d1, d2] }
  | _ => none }
def orderAtomsRow : OpenClaim := { program := "ytglbohajmccehaa", sum := "5b3d001e8ef197aca96b2ec5ea166fcdf1619e82ad9e2be93eacd66c01d53d74", func := "sorites/soriteslaw14.OrderAtoms", spec := "orderAtoms", unfollowed := true, recurses := true, loops := true, apart := false }
def OrderAtomsSaid : Prop := orderAtomsRow.holds Try.pinned (OpenSpec.ofChange orderAtomsSpec)

/-- ITS FALSE NEIGHBOUR: 'it returns false'. Refute it at one input. -/
def orderAtomsWrong : ChangeSpec := { name := "orderAtoms", fn := fun _ => fun
  | [d1, d2] => { results := [.lit (.bool false)], args := [d1, d2] }
  | _ => none }
def OrderAtomsWrongFalsely : Prop := orderAtomsRow.holds Try.pinned (OpenSpec.ofChange orderAtomsWrong)

/-- 'soriteslaw14.OrderMulti': WHATEVER THE INPUT: true; the input reads as it did. -/
def orderMultiSpec : ChangeSpec := { name := "orderMulti", fn := fun _ => fun
  | [d1, d2, d3, d4] => { results := [.lit (.bool true)], args := [d1, d2, d3, d4] }
  | _ => none }
def orderMultiRow : OpenClaim := { program := "ytglbohajmccehaa", sum := "5b3d001e8ef197aca96b2ec5ea166fcdf1619e82ad9e2be93eacd66c01d53d74", func := "sorites/soriteslaw14.OrderMulti", spec := "orderMulti", unfollowed := true, recurses := true, loops := true, apart := false }
def OrderMultiSaid : Prop := orderMultiRow.holds Try.pinned (OpenSpec.ofChange orderMultiSpec)

/-- ITS FALSE NEIGHBOUR: 'it returns false'. Refute it at one input. -/
def orderMultiWrong : ChangeSpec := { name := "orderMulti", fn := fun _ => fun
  | [d1, d2, d3, d4] => { results := [.lit (.bool false)], args := [d1, d2, d3, d4] }
  | _ => none }
def OrderMultiWrongFalsely : Prop := orderMultiRow.holds Try.pinned (OpenSpec.ofChange orderMultiWrong)

/- THE SECOND FORM. 'bulk': how many values and letters a reading holds, each counted each time it is reached (what is shared counts as often as it is met; a slice's spare places count too). A statement '..UptoSaid' is the law's where the arguments, and the package variables that the reading takes, are together of bulk at most 1048576: NARROWER than '..Said'. Prove '..Said' where nothing that the law and all that it calls make is longer than what came in: it says more and counts as full. Else prove '..UptoSaid'. A law counts once. -/
mutual
def uptoBulk {H : Type} : DataW H → Nat
  | .lit (.string bytes) => bytes.length + 1
  | .lit _ => 1
  | .nil => 1
  | .ptr d => uptoBulk d + 1
  | .slice elems spare => uptoBulkAll elems + uptoBulkAll spare + 1
  | .agg parts => uptoBulkAll parts + 1
  | .iface _ d => uptoBulk d + 1
  | .map entries => uptoBulkEntries entries + 1
  | .held _ => 1
def uptoBulkAll {H : Type} : List (DataW H) → Nat
  | [] => 0
  | d :: r => uptoBulk d + uptoBulkAll r
def uptoBulkEntries {H : Type} : List (Lit × DataW H) → Nat
  | [] => 0
  | x :: r => uptoBulkEntry x + uptoBulkEntries r
def uptoBulkEntry {H : Type} : Lit × DataW H → Nat
  | (.string bytes, d) => bytes.length + uptoBulk d + 1
  | (_, d) => uptoBulk d + 1
 end
def uptoSmall : (H : Type) → List (DataW H) → Bool := fun _ ds => decide (uptoBulkAll ds ≤ 1048576)
def OpenSpec.upto (s : _root_.Go.ChangeSpec) : _root_.Go.OpenSpec := { _root_.Go.OpenSpec.ofChange s with cond := some uptoSmall }

/-- 'soriteslaw14.OrderTells', WHERE WHAT IT READS IS OF BULK AT MOST 1048576: true; the input reads as it did. -/
def orderTellsUptoRow : OpenClaim := { program := "ytglbohajmccehaa", sum := "5b3d001e8ef197aca96b2ec5ea166fcdf1619e82ad9e2be93eacd66c01d53d74", func := "sorites/soriteslaw14.OrderTells", spec := "orderTells", unfollowed := true, recurses := true, loops := true, apart := false, narrowed := true }
def OrderTellsUptoSaid : Prop := orderTellsUptoRow.holds Try.pinned (OpenSpec.upto orderTellsSpec)

/-- 'soriteslaw14.OrderLooks', WHERE WHAT IT READS IS OF BULK AT MOST 1048576: true; the input reads as it did. -/
def orderLooksUptoRow : OpenClaim := { program := "ytglbohajmccehaa", sum := "5b3d001e8ef197aca96b2ec5ea166fcdf1619e82ad9e2be93eacd66c01d53d74", func := "sorites/soriteslaw14.OrderLooks", spec := "orderLooks", unfollowed := true, recurses := true, loops := true, apart := false, narrowed := true }
def OrderLooksUptoSaid : Prop := orderLooksUptoRow.holds Try.pinned (OpenSpec.upto orderLooksSpec)

/-- 'soriteslaw14.OrderRules', WHERE WHAT IT READS IS OF BULK AT MOST 1048576: true; the input reads as it did. -/
def orderRulesUptoRow : OpenClaim := { program := "ytglbohajmccehaa", sum := "5b3d001e8ef197aca96b2ec5ea166fcdf1619e82ad9e2be93eacd66c01d53d74", func := "sorites/soriteslaw14.OrderRules", spec := "orderRules", unfollowed := true, recurses := true, loops := true, apart := false, narrowed := true }
def OrderRulesUptoSaid : Prop := orderRulesUptoRow.holds Try.pinned (OpenSpec.upto orderRulesSpec)

/-- 'soriteslaw14.OrderAtoms', WHERE WHAT IT READS IS OF BULK AT MOST 1048576: true; the input reads as it did. -/
def orderAtomsUptoRow : OpenClaim := { program := "ytglbohajmccehaa", sum := "5b3d001e8ef197aca96b2ec5ea166fcdf1619e82ad9e2be93eacd66c01d53d74", func := "sorites/soriteslaw14.OrderAtoms", spec := "orderAtoms", unfollowed := true, recurses := true, loops := true, apart := false, narrowed := true }
def OrderAtomsUptoSaid : Prop := orderAtomsUptoRow.holds Try.pinned (OpenSpec.upto orderAtomsSpec)

/-- 'soriteslaw14.OrderMulti', WHERE WHAT IT READS IS OF BULK AT MOST 1048576: true; the input reads as it did. -/
def orderMultiUptoRow : OpenClaim := { program := "ytglbohajmccehaa", sum := "5b3d001e8ef197aca96b2ec5ea166fcdf1619e82ad9e2be93eacd66c01d53d74", func := "sorites/soriteslaw14.OrderMulti", spec := "orderMulti", unfollowed := true, recurses := true, loops := true, apart := false, narrowed := true }
def OrderMultiUptoSaid : Prop := orderMultiUptoRow.holds Try.pinned (OpenSpec.upto orderMultiSpec)

end Rows
end Go.Proofs.Ytglbohajmccehaa
