/-
  PROVED: for every input the law SupInto of the code at that commit returns true and leaves its arguments as they were; no condition.
-/
import Derived.Test.YteegmcfobgpemaaGreatRows
import Derived.Test.YteegmcfobgpemaaGreatSuLaw1
import Derived.Test.YteegmcfobgpemaaGreatAbOpen
import Derived.WalkKit
import Derived.ProofKit
import Derived.OpenShut
import Derived.ShutString
import Derived.ChangeOld
import Derived.Below
namespace Go.Proofs.YteegmcfobgpemaaGreat.supInto
open Go.ChangeShapes Go.WideShapes Go.ChangeAt Go.RowKit
open Go.ChangeMaps (open_string shut_string)
set_option linter.unusedVariables false

theorem own : ownKnob Tryz.prog.godebug = none := by kernel_rfl
theorem laidOut : laidOutB Tryz.prog = true := by kernel_rfl
theorem tysOk : okTys Tryz.prog [50, 3, 48, 52, 22, 4] = true := by kernel_rfl

theorem walk (v0 : Value) (c0 : CV) (m0 : Nat) (v1 : Value) (c1 : CV) (m1 : Nat) (w : World) (w0 : VRep (fun _ _ => True) w c0 v0 ∧ Shp Tryz.prog m0 22 c0) (w1 : VRep (fun _ _ => True) w c1 v1 ∧ Shp Tryz.prog m1 22 c1) :
    Calls Tryz.prog 3 #[v0, v1] w fun e w' => e = .returned (.bool true) ∧ Below w.heap.size w w' := by
  obtain ⟨r0, s0⟩ := w0
  obtain ⟨l0, rfl, g0⟩ := shp_lits s0
  obtain ⟨r1, s1⟩ := w1
  obtain ⟨l1, rfl, g1⟩ := shp_lits s1
  obtain ⟨_, _, _, h⟩ := supInto_abs w l0 l1 g0 g1
  refine (h (fun _ _ => True) w _ trivial ⟨_, _, rfl, r0, _, _, rfl, r1, rfl⟩).mono ?_
  rintro e w' ⟨v, rfl, hv, hb⟩
  obtain ⟨rfl, _⟩ := vrep_sc.1 hv
  exact ⟨rfl, hb⟩

set_option maxRecDepth 100000 in
theorem lifted (os : Os) (started : os.Started) (H : Type) (enc : TypeId × Value → H) :
    ReturnsInHanded {} Tryz.checked os 3 .any (Rows.supIntoSpec.pre6 enc Tryz.prog Tryz.f3 Rows.supIntoRow.domain false) (Rows.supIntoSpec.post enc Tryz.prog Tryz.f3 false true false false) := by
  refine returnsInHanded_of_change (C := Tryz.checked) own started (by kernel_rfl) Tryz.func3
    (ChangeSpec.witness6 (enc := enc) (C := Tryz.checked) false ⟨#[], #[.slice none 0 0, .slice none 0 0], []⟩ 8 (by kernel_rfl) (by kernel_rfl) (by kernel_rfl) (by kernel_rfl)) ?_
  intro W base args ds gs before hval0 hW hcnd _
  have hval : ∀ (j : Nat) t v, Tryz.f3.params[j]? = some t → args[j]? = some v → Value.okWide Tryz.prog W .any base t v := hval0
  have hW' := hW
  obtain ⟨p, q, hA0, hV, rfl, hfz, hnd⟩ := hW
  have hA : DataW.TrodAll enc Tryz.prog W 0 (fun _ => true) true Tryz.f3.params.toList args.toList ds p := hA0
  rw [Tryz.params3] at hA hval
  obtain ⟨v0, vs0, d0, ds0, p0, q0, hargs, rfl, rfl, h0, r0⟩ := trodAll_cons hA
  obtain ⟨v1, vs1, d1, ds1, p1, q1, rfl, rfl, rfl, h1, r1⟩ := trodAll_cons r0
  obtain ⟨rfl, rfl, rfl⟩ := trodAll_nil r1
  obtain rfl : args = #[v0, v1] := by cases args; simp_all
  obtain ⟨rfl, rfl⟩ := trodVars_none hV
  obtain ⟨a0, len0, cap0, rfl⟩ := okWide_slice Tryz.underlying22 (hval 0 22 v0 rfl rfl)
  have k0 := h0
  have lt0 : ∀ x ∈ p0, x.block < W.heap.size := by obtain ⟨m, hm⟩ := k0; exact DataW.trod_lt m _ _ _ hm
  obtain ⟨c0, m0, w0⟩ : ∃ c m, VRep (fun _ _ => True) W c (.slice a0 len0 cap0) ∧ Shp Tryz.prog m 22 c := by
    obtain ⟨fuel, hf⟩ := h0
    obtain ⟨c, h1, h2⟩ := open_cv tysOk fuel (by decide) hf
    exact ⟨c, fuel, vrep_sl Tryz.underlying22 h1 h2, h2⟩
  obtain ⟨a1, len1, cap1, rfl⟩ := okWide_slice Tryz.underlying22 (hval 1 22 v1 rfl rfl)
  have k1 := h1
  have lt1 : ∀ x ∈ p1, x.block < W.heap.size := by obtain ⟨m, hm⟩ := k1; exact DataW.trod_lt m _ _ _ hm
  obtain ⟨c1, m1, w1⟩ : ∃ c m, VRep (fun _ _ => True) W c (.slice a1 len1 cap1) ∧ Shp Tryz.prog m 22 c := by
    obtain ⟨fuel, hf⟩ := h1
    obtain ⟨c, h1, h2⟩ := open_cv tysOk fuel (by decide) hf
    exact ⟨c, fuel, vrep_sl Tryz.underlying22 h1 h2, h2⟩
  clear hA0 hval0
  refine (walk _ c0 m0 _ c1 m1 W w0 w1).mono fun e W' ⟨he, bel⟩ => ?_
  subst he
  exact ⟨_, rfl, _, _, _, [], _, [], hW', trodAll_mk1 (shut_bool Tryz.underlying4 _), (trodAll_cons_mk (Below.trod laidOut (by kernel_rfl) (of_decide_eq_true (by kernel_rfl)) k0 bel lt0) (trodAll_cons_mk (Below.trod laidOut (by kernel_rfl) (of_decide_eq_true (by kernel_rfl)) k1 bel lt1) trodAll_mk0)), rfl, bel.frame _, fun h => by cases h⟩

theorem over : Rows.supIntoRow.holds Tryz.pinned (OpenSpec.ofChange Rows.supIntoSpec) :=
  OpenClaim.holds_of_wide 3 Tryz.f3 rfl rfl rfl rfl rfl rfl rfl ⟨rfl, rfl, rfl, rfl, rfl⟩ rfl rfl rfl rfl rfl (by kernel_rfl) Tryz.func3 (by kernel_rfl)
    (of_decide_eq_true (by kernel_rfl)) (by unfold Func.isWrapper; first | (rw [if_pos (by decide +kernel)]; kernel_rfl) | (rw [if_neg (by decide +kernel)]; exact ⟨rfl, rfl⟩))
    (fun os started H enc _ => lifted os started H enc)

theorem proved : Rows.SupIntoSaid := over
end Go.Proofs.YteegmcfobgpemaaGreat.supInto

namespace Go.Proofs.YteegmcfobgpemaaGreat
theorem supInto_holds : Rows.SupIntoSaid := supInto.proved
#print axioms supInto_holds
end Go.Proofs.YteegmcfobgpemaaGreat
