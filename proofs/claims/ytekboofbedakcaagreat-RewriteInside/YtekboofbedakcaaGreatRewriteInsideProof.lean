/-
 PROVED: for every input the law RewriteInside of the code at that commit returns true and leaves its arguments as they were; no condition.
-/
import Derived.Test.YtekboofbedakcaaGreatRows
import Derived.Test.YtekboofbedakcaaGreatRwLaw2
import Derived.Test.YtekboofbedakcaaGreatAbOpen
import Derived.WalkKit
import Derived.ProofKit
import Derived.OpenShut
import Derived.ShutString
import Derived.ChangeOld
import Derived.Below
namespace Go.Proofs.YtekboofbedakcaaGreat.rewriteInside
open Go.ChangeShapes Go.WideShapes Go.ChangeAt Go.RowKit
open Go.ChangeMaps (open_string shut_string)
set_option linter.unusedVariables false
theorem own : ownKnob Tryz.prog.godebug = none := by kernel_rfl
theorem laidOut : laidOutB Tryz.prog = true := by kernel_rfl
theorem tysOk : b6J Tryz.prog [25, 3, 23, 66, 26, 96, 64, 4, 22] = true := by kernel_rfl
theorem walk (v0 : Value) (c0 : CV) (m0 : Nat) (v1 : Value) (c1 : CV) (m1 : Nat) (v2 : Value) (c2 : CV) (m2 : Nat) (v3 : Value) (c3 : CV) (m3 : Nat) (a4 : Int) (w : World) (w0 : VRep (fun _ _ => True) w c0 v0 ∧ Shp Tryz.prog m0 22 c0) (w1 : VRep (fun _ _ => True) w c1 v1 ∧ Shp Tryz.prog m1 25 c1) (w2 : VRep (fun _ _ => True) w c2 v2 ∧ Shp Tryz.prog m2 25 c2) (w3 : VRep (fun _ _ => True) w c3 v3 ∧ Shp Tryz.prog m3 26 c3) (w4 : (Lit.int .u8 a4).wf = true) :
  Calls Tryz.prog 3 #[v0, v1, v2, v3, .int .u8 a4] w fun e w' => e = .returned (.bool true) ∧ Below w.heap.size w w' := by
 have h4 : 0 ≤ a4 ∧ a4 ≤ 255 := by simpa [Lit.wf, IntKind.min, IntKind.max, IntKind.signed, IntKind.bits] using w4
 obtain ⟨m, rfl⟩ : ∃ m : Nat, a4 = m := ⟨a4.toNat, by omega⟩
 obtain ⟨r0, s0⟩ := w0
 obtain ⟨l0, rfl, g0⟩ := b5R s0
 obtain ⟨r1, s1⟩ := w1
 obtain ⟨t1, rfl, g1⟩ := a3V _ s1
 obtain ⟨r2, s2⟩ := w2
 obtain ⟨t2, rfl, g2⟩ := a3V _ s2
 obtain ⟨r3, s3⟩ := w3
 obtain ⟨p, rfl, g3⟩ := b0X s3
 have n0 : l0.length ≤ 9223372036854775807 := by
  obtain ⟨a, n, c, _, e1, e2, e3, _⟩ := d8.1 r0
  rw [List.length_map] at e1
  have : maxLen = 9223372036854775807 := by decide
  omega
 have n3 : p.length ≤ 9223372036854775807 := by
  obtain ⟨a, n, c, _, e1, e2, e3, _⟩ := d8.1 r3
  rw [List.length_map] at e1
  have : maxLen = 9223372036854775807 := by decide
  omega
 obtain ⟨_, _, _, h⟩ := a4Y w l0 g0 n0 t1 t2 g1 g2 p (fun b hb => (g3 b hb).2) n3 m (by omega)
 refine (h (fun _ _ => True) w _ trivial ⟨_, _, rfl, r0, _, _, rfl, r1, _, _, rfl, r2, _, _, rfl, r3, _, _, rfl, b5.2 ⟨rfl, rfl⟩, rfl⟩).mono ?_
 rintro e w' ⟨v, rfl, hv, hb⟩
 obtain ⟨rfl, _⟩ := b5.1 hv
 exact ⟨rfl, hb⟩
set_option maxRecDepth 100000 in
theorem lifted (os : Os) (started : os.Started) (H : Type) (enc : TypeId × Value → H) :
  ReturnsInHanded {} Tryz.checked os 3 .any (Rows.rewriteInsideSpec.pre6 enc Tryz.prog Tryz.f3 Rows.rewriteInsideRow.domain false) (Rows.rewriteInsideSpec.post enc Tryz.prog Tryz.f3 false true false false) := by
 refine returnsInHanded_of_change (C := Tryz.checked) own started (by kernel_rfl) Tryz.func3
  (ChangeSpec.witness6 (enc := enc) (C := Tryz.checked) false ⟨#[], #[.slice none 0 0, .agg #[.int .i64 0, .slice none 0 0], .agg #[.int .i64 0, .slice none 0 0], .slice none 0 0, .int .u8 0], []⟩ 8 (by kernel_rfl) (by kernel_rfl) (by kernel_rfl) (by kernel_rfl)) ?_
 intro W base args ds gs before hval0 hW hcnd _
 have hval : ∀ (j : Nat) t v, Tryz.f3.params[j]? = some t → args[j]? = some v → Value.okWide Tryz.prog W .any base t v := hval0
 have hW' := hW
 obtain ⟨p, q, hA0, hV, rfl, hfz, hnd⟩ := hW
 have hA : DataW.TrodAll enc Tryz.prog W 0 (fun _ => true) true Tryz.f3.params.toList args.toList ds p := hA0
 rw [Tryz.params3] at hA hval
 obtain ⟨v0, vs0, d0, ds0, p0, q0, hargs, rfl, rfl, h0, r0⟩ := trodAll_cons hA
 obtain ⟨v1, vs1, d1, ds1, p1, q1, rfl, rfl, rfl, h1, r1⟩ := trodAll_cons r0
 obtain ⟨v2, vs2, d2, ds2, p2, q2, rfl, rfl, rfl, h2, r2⟩ := trodAll_cons r1
 obtain ⟨v3, vs3, d3, ds3, p3, q3, rfl, rfl, rfl, h3, r3⟩ := trodAll_cons r2
 obtain ⟨v4, vs4, d4, ds4, p4, q4, rfl, rfl, rfl, h4, r4⟩ := trodAll_cons r3
 obtain ⟨rfl, rfl, rfl⟩ := trodAll_nil r4
 obtain rfl : args = #[v0, v1, v2, v3, v4] := by cases args; simp_all
 obtain ⟨rfl, rfl⟩ := trodVars_none hV
 obtain ⟨a0, len0, cap0, rfl⟩ := okWide_slice Tryz.underlying22 (hval 0 22 v0 rfl rfl)
 have k0 := h0
 have lt0 : ∀ x ∈ p0, x.block < W.heap.size := by obtain ⟨m, hm⟩ := k0; exact DataW.trod_lt m _ _ _ hm
 obtain ⟨c0, m0, w0⟩ : ∃ c m, VRep (fun _ _ => True) W c (.slice a0 len0 cap0) ∧ Shp Tryz.prog m 22 c := by
  obtain ⟨fuel, hf⟩ := h0
  obtain ⟨c, h1, h2⟩ := a3a tysOk fuel (by decide) hf
  exact ⟨c, fuel, b0n Tryz.underlying22 h1 h2, h2⟩
 obtain ⟨cs1, rfl, hcs1⟩ := okWide_struct Tryz.underlying25 (hval 1 25 v1 rfl rfl)
 have k1 := h1
 have lt1 : ∀ x ∈ p1, x.block < W.heap.size := by obtain ⟨m, hm⟩ := k1; exact DataW.trod_lt m _ _ _ hm
 obtain ⟨c1, m1, w1⟩ : ∃ c m, VRep (fun _ _ => True) W c (.agg cs1) ∧ Shp Tryz.prog m 25 c := by
  obtain ⟨fuel, hf⟩ := h1
  obtain ⟨c, h1, h2⟩ := a3a tysOk fuel (by decide) hf
  exact ⟨c, fuel, a7I Tryz.underlying25 h1 h2, h2⟩
 obtain ⟨cs2, rfl, hcs2⟩ := okWide_struct Tryz.underlying25 (hval 2 25 v2 rfl rfl)
 have k2 := h2
 have lt2 : ∀ x ∈ p2, x.block < W.heap.size := by obtain ⟨m, hm⟩ := k2; exact DataW.trod_lt m _ _ _ hm
 obtain ⟨c2, m2, w2⟩ : ∃ c m, VRep (fun _ _ => True) W c (.agg cs2) ∧ Shp Tryz.prog m 25 c := by
  obtain ⟨fuel, hf⟩ := h2
  obtain ⟨c, h1, h2⟩ := a3a tysOk fuel (by decide) hf
  exact ⟨c, fuel, a7I Tryz.underlying25 h1 h2, h2⟩
 obtain ⟨a3, len3, cap3, rfl⟩ := okWide_slice Tryz.underlying26 (hval 3 26 v3 rfl rfl)
 have k3 := h3
 have lt3 : ∀ x ∈ p3, x.block < W.heap.size := by obtain ⟨m, hm⟩ := k3; exact DataW.trod_lt m _ _ _ hm
 obtain ⟨c3, m3, w3⟩ : ∃ c m, VRep (fun _ _ => True) W c (.slice a3 len3 cap3) ∧ Shp Tryz.prog m 26 c := by
  obtain ⟨fuel, hf⟩ := h3
  obtain ⟨c, h1, h2⟩ := a3a tysOk fuel (by decide) hf
  exact ⟨c, fuel, b0n Tryz.underlying26 h1 h2, h2⟩
 obtain ⟨a4, rfl, rfl, rfl, w4⟩ := open_int Tryz.underlying5 (hval 4 5 v4 rfl rfl) h4
 clear hA0 hval0
 refine (walk _ c0 m0 _ c1 m1 _ c2 m2 _ c3 m3 a4 W w0 w1 w2 w3 w4).mono fun e W' ⟨he, bel⟩ => ?_
 subst he
 exact ⟨_, rfl, _, _, _, [], _, [], hW', trodAll_mk1 (shut_bool Tryz.underlying4 _), (trodAll_cons_mk (Below.trod laidOut (by kernel_rfl) (of_decide_eq_true (by kernel_rfl)) k0 bel lt0) (trodAll_cons_mk (Below.trod laidOut (by kernel_rfl) (of_decide_eq_true (by kernel_rfl)) k1 bel lt1) (trodAll_cons_mk (Below.trod laidOut (by kernel_rfl) (of_decide_eq_true (by kernel_rfl)) k2 bel lt2) (trodAll_cons_mk (Below.trod laidOut (by kernel_rfl) (of_decide_eq_true (by kernel_rfl)) k3 bel lt3) (trodAll_cons_mk (shut_int Tryz.underlying5 w4) trodAll_mk0))))), rfl, bel.frame _, fun h => by cases h⟩
theorem over : Rows.rewriteInsideRow.holds Tryz.pinned (OpenSpec.ofChange Rows.rewriteInsideSpec) :=
 OpenClaim.holds_of_wide 3 Tryz.f3 rfl rfl rfl rfl rfl rfl rfl ⟨rfl, rfl, rfl, rfl, rfl⟩ rfl rfl rfl rfl rfl (by kernel_rfl) Tryz.func3 (by kernel_rfl)
  (of_decide_eq_true (by kernel_rfl)) (by unfold Func.isWrapper; first | (rw [if_pos (by decide +kernel)]; kernel_rfl) | (rw [if_neg (by decide +kernel)]; exact ⟨rfl, rfl⟩))
  (fun os started H enc _ => lifted os started H enc)
theorem proved : Rows.RewriteInsideSaid := over
end Go.Proofs.YtekboofbedakcaaGreat.rewriteInside
namespace Go.Proofs.YtekboofbedakcaaGreat
theorem rewriteInside_holds : Rows.RewriteInsideSaid := rewriteInside.proved
#print axioms rewriteInside_holds
end Go.Proofs.YtekboofbedakcaaGreat
