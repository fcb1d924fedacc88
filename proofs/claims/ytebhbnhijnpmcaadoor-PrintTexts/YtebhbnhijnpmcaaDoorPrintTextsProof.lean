/-
  PROVED: for every input the law PrintTexts of the code at that commit returns true and leaves its arguments as they were; no condition.
-/
import Derived.Test.YtebhbnhijnpmcaaDoorCards
import Derived.Test.YtebhbnhijnpmcaaDoorTie
import Derived.Test.YtebhbnhijnpmcaaDoorPrLaw1
import Derived.Test.YtebhbnhijnpmcaaDoorAbOpen
import Derived.WalkKit
import Derived.ProofKit
import Derived.OpenShut
import Derived.ShutString
import Derived.ChangeOld
import Derived.Below
import Derived.LaidMore
import Derived.Lay
import Derived.SevenTiedAt
import Derived.Stop.Joined
namespace Go.Proofs.YtebhbnhijnpmcaaDoor.printTexts
open Go.ChangeShapes Go.WideShapes Go.ChangeAt Go.RowKit
open Go.ChangeMaps (open_string shut_string)
set_option linter.unusedVariables false

theorem own : ownKnob Tryd.prog.godebug = none := by kernel_rfl
theorem laidOut : laidOutB Tryd.prog = true := by kernel_rfl
theorem tysOk : okTys Tryd.prog [23, 9, 48, 3, 46, 60, 4, 39] = true := by kernel_rfl

theorem laidTab {W : World} (h : laidMetH Tryd.prog Rows.printTextsRow.laid W) : Lib.TabIs Tryd.prog W "internal/strconv.uint64pow10" .u64 Lib.pow10Tab := by
  rw [MakeChecks.laidMetH_plain _ _ _ (by kernel_rfl)] at h
  obtain ⟨ps, h, _⟩ := h
  obtain ⟨_, _, _, _, _, _, _, _, _, _, h, _⟩ := h
  obtain ⟨_, _, _, _, _, _, _, _, _, _, h, _⟩ := h
  obtain ⟨g, t, cs, fuel, p, q, hg, ht, hvar, hd, _, _⟩ := h
  obtain rfl : 0 = g := Option.some.inj ((show Tryd.prog.globalNamed "internal/strconv.uint64pow10" = some 0 by kernel_rfl).symm.trans hg)
  obtain rfl : 186 = t := Option.some.inj ((show (Tryd.prog.globals[0]?).map (·.type) = some 186 by kernel_rfl).symm.trans ht)
  have e : (Rows.laid_internal_strconv_uint64pow10 : DataW Unit) = Lib.tabData .u64 Lib.pow10Tab := by kernel_rfl
  have hc := Lib.cells_of_tab (k := .u64) (zs := Lib.pow10Tab) Tryd.underlying186 Tryd.underlying175 (by kernel_rfl) (by kernel_rfl) (e ▸ hd)
  unfold Lib.TabIs
  rw [hvar, ← hc]

theorem walk (v0 : Value) (c0 : CV) (m0 : Nat) (v1 : Value) (c1 : CV) (m1 : Nat) (v2 : Value) (c2 : CV) (m2 : Nat) (w : World) (w0 : VRep (fun _ _ => True) w c0 v0 ∧ Shp Tryd.prog m0 23 c0) (w1 : VRep (fun _ _ => True) w c1 v1 ∧ Shp Tryd.prog m1 48 c1) (w2 : VRep (fun _ _ => True) w c2 v2 ∧ Shp Tryd.prog m2 39 c2) (hTab : Lib.TabIs Tryd.prog w "internal/strconv.uint64pow10" .u64 Lib.pow10Tab) :
    Calls Tryd.prog 4 #[v0, v1, v2] w fun e w' => e = .returned (.bool true) ∧ Below w.heap.size w w' := by
  obtain ⟨r0, s0⟩ := w0
  obtain ⟨r1, s1⟩ := w1
  obtain ⟨r2, s2⟩ := w2
  obtain ⟨l0, rfl⟩ := shp_strs s0
  obtain ⟨t1, rfl, g1⟩ := shp_tm _ s1
  obtain ⟨l2, rfl, g2⟩ := shp_lits s2
  obtain ⟨tb, ht, hI⟩ := printTexts_tab hTab
  obtain ⟨_, _, _, h⟩ := printTexts_abs tb hI l0 t1 l2 g1 g2
  refine (h (fun _ _ => True) w _ ht ⟨_, _, rfl, r0, _, _, rfl, r1, _, _, rfl, r2, rfl⟩).mono ?_
  rintro e w' ⟨v, rfl, hv, hb⟩
  obtain ⟨rfl, _⟩ := vrep_sc.1 hv
  exact ⟨rfl, hb⟩

theorem gvars : True := trivial
set_option maxRecDepth 100000 in
theorem lifted (os : Os) (started : os.Started) (H : Type) (enc : TypeId × Value → H) :
    ReturnsInHanded {} Tryd.checked os 4 .any (fun w args => (Rows.printTextsSpec.pre enc Tryd.prog Tryd.f4 Rows.printTextsRow.domain false w args ∧ laidMetH Tryd.prog Rows.printTextsRow.laid w) ∧ sizedMet enc Tryd.prog Tryd.f4 (OpenSpec.ofChange Rows.printTextsSpec) false w args)
      (Rows.printTextsSpec.post enc Tryd.prog Tryd.f4 false true false false) := by
  refine returnsInHanded_of_change_and (C := Tryd.checked) (X := fun w _ => laidMetH Tryd.prog Rows.printTextsRow.laid w) (fun _ _ _ hh h => h.of_heap hh) own started (by kernel_rfl) Tryd.func4
    (ChangeSpec.witness_shaped (enc := enc) (C := Tryd.checked) (os := os) (X := fun w _ => laidMetH Tryd.prog Rows.printTextsRow.laid w) false (World.laidAll Tryd.prog os Rows.printTextsRow.laid) #[.slice none 0 0, .agg #[.int .i64 0, .slice none 0 0], .slice none 0 0] 8 (World.laidAll_os _ _ _)
      (World.shaped_of_ZipB (by kernel_rfl) (by kernel_rfl)) (by kernel_rfl) (by kernel_rfl) (by kernel_rfl)
      (by rw [MakeChecks.laidMetH_plain _ _ _ (by kernel_rfl)]; exact laidMet_laidAll _ (by kernel_rfl) (by kernel_rfl))) ?_
  intro W base args ds gs before hval0 hW hcnd _ hL _
  have hval : ∀ (j : Nat) t v, Tryd.f4.params[j]? = some t → args[j]? = some v → Value.okWide Tryd.prog W .any base t v := hval0
  have hW' := hW
  obtain ⟨p, q, hA0, hV, rfl, hfz, hnd⟩ := hW
  have hA : DataW.TrodAll enc Tryd.prog W 0 (fun _ => true) true Tryd.f4.params.toList args.toList ds p := hA0
  rw [Tryd.params4] at hA hval
  obtain ⟨v0, vs0, d0, ds0, p0, q0, hargs, rfl, rfl, h0, r0⟩ := trodAll_cons hA
  obtain ⟨v1, vs1, d1, ds1, p1, q1, rfl, rfl, rfl, h1, r1⟩ := trodAll_cons r0
  obtain ⟨v2, vs2, d2, ds2, p2, q2, rfl, rfl, rfl, h2, r2⟩ := trodAll_cons r1
  obtain ⟨rfl, rfl, rfl⟩ := trodAll_nil r2
  obtain rfl : args = #[v0, v1, v2] := by cases args; simp_all
  obtain ⟨rfl, rfl⟩ := trodVars_none hV
  obtain ⟨a0, len0, cap0, rfl⟩ := okWide_slice Tryd.underlying23 (hval 0 23 v0 rfl rfl)
  have k0 := h0
  have lt0 : ∀ x ∈ p0, x.block < W.heap.size := by obtain ⟨m, hm⟩ := k0; exact DataW.trod_lt m _ _ _ hm
  obtain ⟨c0, m0, w0⟩ : ∃ c m, VRep (fun _ _ => True) W c (.slice a0 len0 cap0) ∧ Shp Tryd.prog m 23 c := by
    obtain ⟨fuel, hf⟩ := h0
    obtain ⟨c, h1, h2⟩ := open_cv tysOk fuel (by decide) hf
    exact ⟨c, fuel, vrep_sl Tryd.underlying23 h1 h2, h2⟩
  obtain ⟨cs1, rfl, hcs1⟩ := okWide_struct Tryd.underlying48 (hval 1 48 v1 rfl rfl)
  have k1 := h1
  have lt1 : ∀ x ∈ p1, x.block < W.heap.size := by obtain ⟨m, hm⟩ := k1; exact DataW.trod_lt m _ _ _ hm
  obtain ⟨c1, m1, w1⟩ : ∃ c m, VRep (fun _ _ => True) W c (.agg cs1) ∧ Shp Tryd.prog m 48 c := by
    obtain ⟨fuel, hf⟩ := h1
    obtain ⟨c, h1, h2⟩ := open_cv tysOk fuel (by decide) hf
    exact ⟨c, fuel, vrep_agg Tryd.underlying48 h1 h2, h2⟩
  obtain ⟨a2, len2, cap2, rfl⟩ := okWide_slice Tryd.underlying39 (hval 2 39 v2 rfl rfl)
  have k2 := h2
  have lt2 : ∀ x ∈ p2, x.block < W.heap.size := by obtain ⟨m, hm⟩ := k2; exact DataW.trod_lt m _ _ _ hm
  obtain ⟨c2, m2, w2⟩ : ∃ c m, VRep (fun _ _ => True) W c (.slice a2 len2 cap2) ∧ Shp Tryd.prog m 39 c := by
    obtain ⟨fuel, hf⟩ := h2
    obtain ⟨c, h1, h2⟩ := open_cv tysOk fuel (by decide) hf
    exact ⟨c, fuel, vrep_sl Tryd.underlying39 h1 h2, h2⟩
  clear hA0 hval0
  refine (walk _ c0 m0 _ c1 m1 _ c2 m2 W w0 w1 w2 (laidTab hL)).mono fun e W' ⟨he, bel⟩ => ?_
  subst he
  exact ⟨_, rfl, _, _, _, [], _, [], hW', trodAll_mk1 (shut_bool Tryd.underlying4 _), (trodAll_cons_mk (Below.trod laidOut (by kernel_rfl) (of_decide_eq_true (by kernel_rfl)) k0 bel lt0) (trodAll_cons_mk (Below.trod laidOut (by kernel_rfl) (of_decide_eq_true (by kernel_rfl)) k1 bel lt1) (trodAll_cons_mk (Below.trod laidOut (by kernel_rfl) (of_decide_eq_true (by kernel_rfl)) k2 bel lt2) trodAll_mk0))), rfl, bel.frame _, fun h => by cases h⟩

theorem over : Rows.PrintTextsSaid :=
  OpenClaim.holds_of_wide 4 Tryd.f4 rfl rfl rfl rfl rfl rfl rfl ⟨rfl, rfl, rfl, rfl, rfl⟩ rfl rfl rfl rfl rfl (by kernel_rfl) Tryd.func4 (by kernel_rfl)
    (of_decide_eq_true (by kernel_rfl)) (by unfold Func.isWrapper; first | (rw [if_pos (by decide +kernel)]; kernel_rfl) | (rw [if_neg (by decide +kernel)]; exact ⟨rfl, rfl⟩))
    (fun os started H enc _ => lifted os started H enc)
/-- No parameter wants a stand-in; the program's own looks are off. -/
theorem plain (f : FuncId) (fn : Func) (hf : Tryd.pinned.checked.prog.funcNamed "sorites/soriteslaw13.PrintTexts" = some f) (hfn : Tryd.pinned.checked.prog.funcs[f]? = some fn) :
    false = Tryd.pinned.checked.prog.looks [] ∧ ∀ (j : Nat) t, fn.params[j]? = some t → Tryd.pinned.checked.prog.wantsStandIn t = false := by
  obtain rfl : f = 4 := Option.some.inj ((show Tryd.prog.funcNamed "sorites/soriteslaw13.PrintTexts" = some 4 by kernel_rfl).symm.trans hf) |>.symm
  obtain rfl : fn = Tryd.f4 := (Option.some.inj (Tryd.func4.symm.trans hfn)).symm
  refine ⟨by kernel_rfl, fun j t ht => ?_⟩
  rw [Tryd.params4] at ht
  have hm : t ∈ [23, 48, 39] := by simpa using Array.mem_of_getElem? ht
  have hall : ([23, 48, 39].all fun u => !Tryd.prog.wantsStandIn u) = true := by kernel_rfl
  exact (show Tryd.prog.wantsStandIn t = false by simpa using List.all_eq_true.1 hall t hm)
theorem proved : Rows.PrintTextsCardSaid :=
  Claim7.holds_tied_plain_at .later [] _ _ _ _ over (fun _ h => by cases h) (by kernel_rfl) (fun _ h => by cases h) printTexts_row_tie rfl ⟨rfl, rfl⟩ (by kernel_rfl) rfl plain (by kernel_rfl)
end Go.Proofs.YtebhbnhijnpmcaaDoor.printTexts

namespace Go.Proofs.YtebhbnhijnpmcaaDoor
theorem printTexts_holds : Rows.PrintTextsCardSaid := printTexts.proved
#print axioms printTexts_holds
end Go.Proofs.YtebhbnhijnpmcaaDoor
