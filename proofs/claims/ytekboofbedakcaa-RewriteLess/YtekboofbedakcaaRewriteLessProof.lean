/-
  PROVED: for every input the law RewriteLess of the code at that commit returns true and leaves its arguments as they were; no condition.
-/
import Derived.Test.YtekboofbedakcaaRows
import Derived.Test.YtekboofbedakcaaRwLaw1
import Derived.Test.YtekboofbedakcaaAbOpen
import Derived.WalkKit
import Derived.ProofKit
import Derived.OpenShut
import Derived.ShutString
import Derived.ChangeOld
import Derived.Below
namespace Go.Proofs.Ytekboofbedakcaa.rewriteLess
open Go.ChangeShapes Go.WideShapes Go.ChangeAt Go.RowKit
open Go.ChangeMaps (open_string shut_string)
set_option linter.unusedVariables false

theorem own : ownKnob Try.prog.godebug = none := by kernel_rfl
theorem laidOut : laidOutB Try.prog = true := by kernel_rfl
theorem tysOk : okTys Try.prog [25, 3, 23, 75, 26, 4, 22] = true := by kernel_rfl

theorem walk (v0 : Value) (c0 : CV) (m0 : Nat) (v1 : Value) (c1 : CV) (m1 : Nat) (w : World) (w0 : VRep (fun _ _ => True) w c0 v0 ∧ Shp Try.prog m0 22 c0) (w1 : VRep (fun _ _ => True) w c1 v1 ∧ Shp Try.prog m1 25 c1) :
    Calls Try.prog 4 #[v0, v1] w fun e w' => e = .returned (.bool true) ∧ Below w.heap.size w w' := by
  obtain ⟨r0, s0⟩ := w0
  obtain ⟨l0, rfl, g0⟩ := shp_cls s0
  obtain ⟨r1, s1⟩ := w1
  obtain ⟨t1, rfl, g1⟩ := shp_tm _ s1
  have n0 : l0.length ≤ 9223372036854775807 := by
    obtain ⟨a, n, c, _, e1, e2, e3, _⟩ := vrep_lst.1 r0
    rw [List.length_map] at e1
    have : maxLen = 9223372036854775807 := by decide
    omega
  obtain ⟨_, _, _, h⟩ := rwLess_abs w l0 g0 n0 t1 g1
  refine (h (fun _ _ => True) w _ trivial ⟨_, _, rfl, r0, _, _, rfl, r1, rfl⟩).mono ?_
  rintro e w' ⟨v, rfl, hv, hb⟩
  obtain ⟨rfl, _⟩ := vrep_sc.1 hv
  exact ⟨rfl, hb⟩

set_option maxRecDepth 100000 in
theorem lifted (os : Os) (started : os.Started) (H : Type) (enc : TypeId × Value → H) :
    ReturnsInHanded {} Try.checked os 4 .any (Rows.rewriteLessSpec.pre6 enc Try.prog Try.f4 Rows.rewriteLessRow.domain false) (Rows.rewriteLessSpec.post enc Try.prog Try.f4 false true false false) := by
  refine returnsInHanded_of_change (C := Try.checked) own started (by kernel_rfl) Try.func4
    (ChangeSpec.witness6 (enc := enc) (C := Try.checked) false ⟨#[], #[.slice none 0 0, .agg #[.int .i64 0, .slice none 0 0]], []⟩ 8 (by kernel_rfl) (by kernel_rfl) (by kernel_rfl) (by kernel_rfl)) ?_
  intro W base args ds gs before hval0 hW hcnd _
  have hval : ∀ (j : Nat) t v, Try.f4.params[j]? = some t → args[j]? = some v → Value.okWide Try.prog W .any base t v := hval0
  have hW' := hW
  obtain ⟨p, q, hA0, hV, rfl, hfz, hnd⟩ := hW
  have hA : DataW.TrodAll enc Try.prog W 0 (fun _ => true) true Try.f4.params.toList args.toList ds p := hA0
  rw [Try.params4] at hA hval
  obtain ⟨v0, vs0, d0, ds0, p0, q0, hargs, rfl, rfl, h0, r0⟩ := trodAll_cons hA
  obtain ⟨v1, vs1, d1, ds1, p1, q1, rfl, rfl, rfl, h1, r1⟩ := trodAll_cons r0
  obtain ⟨rfl, rfl, rfl⟩ := trodAll_nil r1
  obtain rfl : args = #[v0, v1] := by cases args; simp_all
  obtain ⟨rfl, rfl⟩ := trodVars_none hV
  obtain ⟨a0, len0, cap0, rfl⟩ := okWide_slice Try.underlying22 (hval 0 22 v0 rfl rfl)
  have k0 := h0
  have lt0 : ∀ x ∈ p0, x.block < W.heap.size := by obtain ⟨m, hm⟩ := k0; exact DataW.trod_lt m _ _ _ hm
  obtain ⟨c0, m0, w0⟩ : ∃ c m, VRep (fun _ _ => True) W c (.slice a0 len0 cap0) ∧ Shp Try.prog m 22 c := by
    obtain ⟨fuel, hf⟩ := h0
    obtain ⟨c, h1, h2⟩ := open_cv tysOk fuel (by decide) hf
    exact ⟨c, fuel, vrep_sl Try.underlying22 h1 h2, h2⟩
  obtain ⟨cs1, rfl, hcs1⟩ := okWide_struct Try.underlying25 (hval 1 25 v1 rfl rfl)
  have k1 := h1
  have lt1 : ∀ x ∈ p1, x.block < W.heap.size := by obtain ⟨m, hm⟩ := k1; exact DataW.trod_lt m _ _ _ hm
  obtain ⟨c1, m1, w1⟩ : ∃ c m, VRep (fun _ _ => True) W c (.agg cs1) ∧ Shp Try.prog m 25 c := by
    obtain ⟨fuel, hf⟩ := h1
    obtain ⟨c, h1, h2⟩ := open_cv tysOk fuel (by decide) hf
    exact ⟨c, fuel, vrep_agg Try.underlying25 h1 h2, h2⟩
  clear hA0 hval0
  refine (walk _ c0 m0 _ c1 m1 W w0 w1).mono fun e W' ⟨he, bel⟩ => ?_
  subst he
  exact ⟨_, rfl, _, _, _, [], _, [], hW', trodAll_mk1 (shut_bool Try.underlying4 _), (trodAll_cons_mk (Below.trod laidOut (by kernel_rfl) (of_decide_eq_true (by kernel_rfl)) k0 bel lt0) (trodAll_cons_mk (Below.trod laidOut (by kernel_rfl) (of_decide_eq_true (by kernel_rfl)) k1 bel lt1) trodAll_mk0)), rfl, bel.frame _, fun h => by cases h⟩

theorem over : Rows.rewriteLessRow.holds Try.pinned (OpenSpec.ofChange Rows.rewriteLessSpec) :=
  OpenClaim.holds_of_wide 4 Try.f4 rfl rfl rfl rfl rfl rfl rfl ⟨rfl, rfl, rfl, rfl, rfl⟩ rfl rfl rfl rfl rfl (by kernel_rfl) Try.func4 (by kernel_rfl)
    (of_decide_eq_true (by kernel_rfl)) (by unfold Func.isWrapper; first | (rw [if_pos (by decide +kernel)]; kernel_rfl) | (rw [if_neg (by decide +kernel)]; exact ⟨rfl, rfl⟩))
    (fun os started H enc _ => lifted os started H enc)

theorem proved : Rows.RewriteLessSaid := over
end Go.Proofs.Ytekboofbedakcaa.rewriteLess

namespace Go.Proofs.Ytekboofbedakcaa
theorem rewriteLess_holds : Rows.RewriteLessSaid := rewriteLess.proved
#print axioms rewriteLess_holds
end Go.Proofs.Ytekboofbedakcaa
