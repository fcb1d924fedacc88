/-
  PROVED: the law OrderMulti of the code at that commit returns true and leaves its arguments as they were; the condition: what the arguments hold is together of bulk at most 1048576 (the second form).
-/
import Derived.Test.YtglbohajmccehaaRows
import Derived.Test.YtglbohajmccehaaOrLaw5
import Derived.Test.YtglbohajmccehaaAbOpen
import Derived.WalkKit
import Derived.ProofKit
import Derived.OpenShut
import Derived.ShutString
import Derived.ChangeOld
import Derived.Below
import Derived.JoinedCond
namespace Go.Proofs.Ytglbohajmccehaa.orderMulti
open Go.ChangeShapes Go.WideShapes Go.ChangeAt Go.RowKit
open Go.ChangeMaps (open_string shut_string)
set_option linter.unusedVariables false

theorem own : ownKnob Try.prog.godebug = none := by kernel_rfl
theorem laidOut : laidOutB Try.prog = true := by kernel_rfl
theorem tysOk : okTys Try.prog [29, 3, 22, 4] = true := by kernel_rfl

theorem walk (v0 : Value) (c0 : CV) (m0 : Nat) (v1 : Value) (c1 : CV) (m1 : Nat) (v2 : Value) (c2 : CV) (m2 : Nat) (a3 : Int) (w : World) (w0 : VRep (fun _ _ => True) w c0 v0 ∧ ShpB Try.prog m0 22 c0) (w1 : VRep (fun _ _ => True) w c1 v1 ∧ ShpB Try.prog m1 22 c1) (w2 : VRep (fun _ _ => True) w c2 v2 ∧ ShpB Try.prog m2 29 c2) (w3 : (Lit.int .u8 a3).wf = true) :
    Calls Try.prog 7 #[v0, v1, v2, .int .u8 a3] w fun e w' => e = .returned (.bool true) ∧ Below w.heap.size w w' := by
  obtain ⟨r0, s0⟩ := w0
  obtain ⟨l0, rfl, g0⟩ := shp_tmsB s0
  obtain ⟨r1, s1⟩ := w1
  obtain ⟨l1, rfl, g1⟩ := shp_tmsB s1
  obtain ⟨r2, s2⟩ := w2
  obtain ⟨t2, rfl, g2, _⟩ := shp_tmB _ s2
  have h3 : 0 ≤ a3 ∧ a3 ≤ 255 := by simpa [Lit.wf, IntKind.min, IntKind.max, IntKind.signed, IntKind.bits] using w3
  obtain ⟨n3, rfl⟩ : ∃ n : Nat, a3 = (n : Int) := ⟨a3.toNat, by omega⟩
  obtain ⟨_, _, _, h⟩ := orderMulti_abs w l0 l1 t2 n3 (fun t ht => (g0 t ht).1) (fun t ht => (g1 t ht).1) g2 (by omega) (fun t ht => (g0 t ht).2)
  refine (h (fun _ _ => True) w _ trivial ⟨_, _, rfl, r0, _, _, rfl, r1, _, _, rfl, r2, _, _, rfl, vrep_sc.2 ⟨rfl, rfl⟩, rfl⟩).mono ?_
  rintro e w' ⟨v, rfl, hv, hb⟩
  obtain ⟨rfl, _⟩ := vrep_sc.1 hv
  exact ⟨rfl, hb⟩

set_option maxRecDepth 100000 in
theorem lifted (os : Os) (started : os.Started) (H : Type) (enc : TypeId × Value → H) (F : Stop.Interp) :
    ReturnsInHanded {} Try.checked os 7 .any ((Rows.OpenSpec.upto Rows.orderMultiSpec).pre6 enc Try.prog Try.f7 Rows.orderMultiUptoRow.domain false) (((Rows.OpenSpec.upto Rows.orderMultiSpec).at F).post enc Try.prog Try.f7 false true false false) := by
  refine returnsInHanded_of_cond (C := Try.checked) (s := Rows.OpenSpec.upto Rows.orderMultiSpec) (k := Rows.uptoSmall) rfl own started (by kernel_rfl) Try.func7
    (OpenSpec.witness (enc := enc) (C := Try.checked) (s := Rows.OpenSpec.upto Rows.orderMultiSpec) (k := Rows.uptoSmall) rfl false ⟨#[], #[.slice none 0 0, .slice none 0 0, .agg #[.int .i64 0, .slice none 0 0], .int .u8 0], []⟩ 8 (by kernel_rfl) (by kernel_rfl) (by kernel_rfl)
      (x := ([.nil, .nil, .agg [.lit (.int .i64 0), .nil], .lit (.int .u8 0)], [], [])) (by kernel_rfl) rfl (by kernel_rfl)) ?_
  intro W base args ds gs before hval0 hW _ hk _
  have hval : ∀ (j : Nat) t v, Try.f7.params[j]? = some t → args[j]? = some v → Value.okWide Try.prog W .any base t v := hval0
  have hW' := hW
  obtain ⟨p, q, hA0, hV, rfl, hfz, hnd⟩ := hW
  have hA : DataW.TrodAll enc Try.prog W 0 (fun _ => true) true Try.f7.params.toList args.toList ds p := hA0
  rw [Try.params7] at hA hval
  obtain ⟨v0, vs0, d0, ds0, p0, q0, hargs, rfl, rfl, h0, r0⟩ := trodAll_cons hA
  obtain ⟨v1, vs1, d1, ds1, p1, q1, rfl, rfl, rfl, h1, r1⟩ := trodAll_cons r0
  obtain ⟨v2, vs2, d2, ds2, p2, q2, rfl, rfl, rfl, h2, r2⟩ := trodAll_cons r1
  obtain ⟨v3, vs3, d3, ds3, p3, q3, rfl, rfl, rfl, h3, r3⟩ := trodAll_cons r2
  obtain ⟨rfl, rfl, rfl⟩ := trodAll_nil r3
  obtain rfl : args = #[v0, v1, v2, v3] := by cases args; simp_all
  obtain ⟨rfl, rfl⟩ := trodVars_none hV
  have hkb := of_decide_eq_true hk
  simp only [List.append_nil, Rows.uptoBulkAll] at hkb
  obtain ⟨a0, len0, cap0, rfl⟩ := okWide_slice Try.underlying22 (hval 0 22 v0 rfl rfl)
  have k0 := h0
  have lt0 : ∀ x ∈ p0, x.block < W.heap.size := by obtain ⟨m, hm⟩ := k0; exact DataW.trod_lt m _ _ _ hm
  obtain ⟨c0, m0, w0⟩ : ∃ c m, VRep (fun _ _ => True) W c (.slice a0 len0 cap0) ∧ ShpB Try.prog m 22 c := by
    obtain ⟨fuel, hf⟩ := h0
    obtain ⟨c, h1, h2⟩ := open_cvB tysOk fuel (by decide) hf (by show Rows.uptoBulk d0 ≤ 1048576; omega)
    exact ⟨c, fuel, vrepB_sl Try.underlying22 h1 h2, h2⟩
  obtain ⟨a1, len1, cap1, rfl⟩ := okWide_slice Try.underlying22 (hval 1 22 v1 rfl rfl)
  have k1 := h1
  have lt1 : ∀ x ∈ p1, x.block < W.heap.size := by obtain ⟨m, hm⟩ := k1; exact DataW.trod_lt m _ _ _ hm
  obtain ⟨c1, m1, w1⟩ : ∃ c m, VRep (fun _ _ => True) W c (.slice a1 len1 cap1) ∧ ShpB Try.prog m 22 c := by
    obtain ⟨fuel, hf⟩ := h1
    obtain ⟨c, h1, h2⟩ := open_cvB tysOk fuel (by decide) hf (by show Rows.uptoBulk d1 ≤ 1048576; omega)
    exact ⟨c, fuel, vrepB_sl Try.underlying22 h1 h2, h2⟩
  obtain ⟨cs2, rfl, hcs2⟩ := okWide_struct Try.underlying29 (hval 2 29 v2 rfl rfl)
  have k2 := h2
  have lt2 : ∀ x ∈ p2, x.block < W.heap.size := by obtain ⟨m, hm⟩ := k2; exact DataW.trod_lt m _ _ _ hm
  obtain ⟨c2, m2, w2⟩ : ∃ c m, VRep (fun _ _ => True) W c (.agg cs2) ∧ ShpB Try.prog m 29 c := by
    obtain ⟨fuel, hf⟩ := h2
    obtain ⟨c, h1, h2⟩ := open_cvB tysOk fuel (by decide) hf (by show Rows.uptoBulk d2 ≤ 1048576; omega)
    exact ⟨c, fuel, vrepB_agg Try.underlying29 h1 h2, h2⟩
  obtain ⟨a3, rfl, rfl, rfl, w3⟩ := open_int Try.underlying5 (hval 3 5 v3 rfl rfl) h3
  clear hA0 hval0
  refine (walk _ c0 m0 _ c1 m1 _ c2 m2 a3 W w0 w1 w2 w3).mono fun e W' ⟨he, bel⟩ => ?_
  subst he
  exact ⟨_, rfl, _, _, _, [], _, [], hW', trodAll_mk1 (shut_bool Try.underlying4 _), (trodAll_cons_mk (Below.trod laidOut (by kernel_rfl) (of_decide_eq_true (by kernel_rfl)) k0 bel lt0) (trodAll_cons_mk (Below.trod laidOut (by kernel_rfl) (of_decide_eq_true (by kernel_rfl)) k1 bel lt1) (trodAll_cons_mk (Below.trod laidOut (by kernel_rfl) (of_decide_eq_true (by kernel_rfl)) k2 bel lt2) (trodAll_cons_mk (shut_int Try.underlying5 w3) trodAll_mk0)))), rfl, bel.frame _, fun h => by cases h⟩

theorem over : Rows.orderMultiUptoRow.holds Try.pinned (Rows.OpenSpec.upto Rows.orderMultiSpec) :=
  OpenClaim.holds_of_cond 7 Try.f7 rfl rfl rfl rfl rfl rfl rfl ⟨rfl, rfl, rfl, rfl, rfl⟩ rfl rfl rfl rfl rfl (by kernel_rfl) Try.func7 (by kernel_rfl)
    (of_decide_eq_true (by kernel_rfl)) (by unfold Func.isWrapper; first | (rw [if_pos (by decide +kernel)]; kernel_rfl) | (rw [if_neg (by decide +kernel)]; exact ⟨rfl, rfl⟩))
    (fun os started H enc _ F => lifted os started H enc F)

theorem proved : Rows.OrderMultiUptoSaid := over
end Go.Proofs.Ytglbohajmccehaa.orderMulti

namespace Go.Proofs.Ytglbohajmccehaa
theorem orderMulti_holds : Rows.OrderMultiUptoSaid := orderMulti.proved
#print axioms orderMulti_holds
end Go.Proofs.Ytglbohajmccehaa
